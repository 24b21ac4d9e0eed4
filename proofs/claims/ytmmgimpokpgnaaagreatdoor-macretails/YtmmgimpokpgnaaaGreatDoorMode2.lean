/-
  slices.Chunk over bytes: a contract for whatever loop body keeps the bytes and the two boxes.
-/
import Derived.RangeFuncNested
import Derived.RangeFuncBound
import Derived.RangeFuncCalls
import Derived.RangeFuncLeaves
import Derived.RangeFuncBox
import Derived.Shelf.Abstract
import Derived.Shelf.RegionOpen
import Derived.WalkKit
import Derived.OwnWalkIn
import Derived.TacticsInMore
import Derived.LoopNIn
import Derived.LoopIn
import Derived.Test.YtmmgimpokpgnaaaGreatDoorMode1
namespace Go.Proofs.YtmmgimpokpgnaaaGreatDoor.Md
open Mem Bk Go.ChangeShapes Go.WideShapes Go.ChangeAt Go.RowKit Go.Shelf
attribute [local go_sem] Oper.semAt_some
/-- these blocks lie as they lay -/
def KpL (T : List Nat) (W W' : World) : Prop := ∀ g ∈ T, W'.heap[g]? = W.heap[g]?
theorem kpL_t {T : List Nat} {A B C : World} (h : KpL T A B) (k : KpL T B C) : KpL T A C := fun g hg => (k g hg).trans (h g hg)
theorem KpL.refl (T : List Nat) (W : World) : KpL T W W := fun _ _ => rfl
theorem kpL_b {T : List Nat} {w : World} (hT : ∀ g ∈ T, g < w.heap.size) (W : World) (l : Nat) (o o' : Obj) (hl : w.heap.size ≤ l) (h : W.heap[l]? = some o) (_ : o.isCells = false) (_ : o.isWalk = false) : KpL T W (W.putObj l o') := fun g hg => by
  have hlt := (Array.getElem?_eq_some_iff.1 h).1
  have := hT g hg
  exact (grownBy_putObj' W l o').block g (by omega) (by intro e; cases e; omega)
/-- the indices below N, in order, as far as k -/
def ixs (N : Nat) : Nat → List {j : Nat // j < N}
  | 0 => []
  | k + 1 => ixs N k ++ (if h : k < N then [⟨k, h⟩] else [])
theorem ixs_len {N : Nat} : ∀ k, k ≤ N → (ixs N k).length = k
  | 0, _ => rfl
  | k + 1, h => by
    have h1 := ixs_len (N := N) k (by omega)
    simp [ixs, h1, show k < N by omega]
theorem ixs_succ {N k : Nat} (h : k < N) : ixs N (k + 1) = ixs N k ++ [⟨k, h⟩] := by simp [ixs, h]
/-- a block of the text, as a value -/
def chv (ad : Addr) (n j : Nat) : Value := .slice (some (ad.add (j * n))) n n
set_option maxRecDepth 100000 in
set_option maxHeartbeats 2000000 in
theorem chunk1_in (F : Fence) (fu : Nat) (h7 : F.fn 91) (hro : F.round = none) (hfu : 1 ≤ fu) (l Bs Bn n N M c : Nat) (ad : Addr) (T : List Nat) (hn : n = 8 ∨ n = 16) (hM : Hid (M = N * n)) (hN : M ≤ 100000) (hc : M ≤ c) (hBs : Bs ∈ T) (hBn : Bn ∈ T) (J Jx : List {j : Nat // j < N} → World → Prop) (hJd : ∀ s W, J s W → J s W.drew)
    (hY : ∀ pre x W, J pre W → pre.length < N → YieldAt F (fu - 1) Tryz.prog l #[chv ad n x.1] W fun e W' =>
      (e = .returned (.bool true) ∧ J (pre ++ [x]) W' ∧ KpL T W W') ∨ (e = .returned (.bool false) ∧ Jx (pre ++ [x]) W'))
    (W : World) (hbs : Blk W Bs 22 #[.slice (some ad) M c]) (hbn : Blk W Bn 3 #[.int .i64 (n : Int)]) (h0 : J [] W) :
    CallsIn F fu Tryz.prog 91 #[.func (.yield l) #[] #[], .pointer (some ⟨Bs, 0, none⟩), .pointer (some ⟨Bn, 0, none⟩)] W fun e W' => (∃ v, e = .returned v) ∧
      ((∃ ys, ys = ixs N N ∧ J ys W') ∨ (∃ pre, (∃ k, k ≤ N ∧ pre = ixs N k) ∧ Jx pre W')) := by
  refine callsIn_of_wp Tryz.func91 rfl h7 ?_ hro
  simp only [Tryz.ntmps91, List.size_toArray, List.length_cons, List.length_nil, Nat.reduceAdd, Nat.reduceSub, Array.replicate_succ, Array.replicate_zero, List.push_toArray, List.append_toArray, List.nil_append, List.cons_append]
  gi_wp2
  gi_loopw [4] (fun i wr => ∃ k q : Nat, k ≤ N ∧ Hid (q = k * n) ∧ i = .int .i64 (q : Int) ∧ J (ixs N k) wr ∧ Blk wr Bs 22 #[.slice (some ad) M c] ∧ Blk wr Bn 3 #[.int .i64 (n : Int)])
    (fun i _ => M - (intOf i).toNat)
  case atStart => exact ⟨0, 0, Nat.zero_le _, hid (by simp), rfl, h0, hbs, hbn⟩
  case round =>
    obtain ⟨k, q, hk, hq, rfl, hJs, hs, hnn⟩ := hrel
    have hcs : wr.cell? ⟨Bs, 0, none⟩ = some (.slice (some ad) M c) := hs.cell 0
    have hcn : wr.cell? ⟨Bn, 0, none⟩ = some (.int .i64 (n : Int)) := hnn.cell 0
    by_cases hlt : k < N
    · have hmul : (k + 1) * n ≤ N * n := Nat.mul_le_mul_right n hlt
      rw [Nat.succ_mul, ← hq.out, ← hM.out] at hmul
      obtain ⟨fn, tmps, assign, body, hy, hR⟩ := hY _ ⟨k, hlt⟩ wr.drew (hJd _ _ hJs) (by rw [ixs_len _ hk]; exact hlt)
      rw [chv, ← hq.out] at hy
      have hqM : q < M := by omega
      have hge : ¬ M - q < n := by omega
      gi_wp2
      gi_region
      all_goals gi_wp2
      all_goals
        refine hR.mono ?_
        rintro e W3 (⟨rfl, hJ3, hk3⟩ | ⟨rfl, hJx3⟩)
        · have hs3 : Blk W3 Bs 22 #[.slice (some ad) M c] := (hk3 Bs hBs).trans hs
          have hn3 : Blk W3 Bn 3 #[.int .i64 (n : Int)] := (hk3 Bn hBn).trans hnn
          have hcn3 : W3.cell? ⟨Bn, 0, none⟩ = some (.int .i64 (n : Int)) := hn3.cell 0
          gi_wp2
          go_roundw
          case rel => exact ⟨k + 1, q + n, by omega, hid (by rw [Nat.succ_mul, ← hq.out]), by simp, by rw [ixs_succ hlt]; exact hJ3, hs3, hn3⟩
          case measure => simp [intOf]; omega
        · gi_wp2
          refine bodyPost_ret (results_none rfl _ _ _) rfl ?_
          exact ⟨⟨_, rfl⟩, .inr ⟨_, ⟨k + 1, by omega, (ixs_succ hlt).symm⟩, hJx3⟩⟩
    · obtain rfl : k = N := by omega
      have hqM : q = M := by rw [hq.out, hM.out]
      subst hqM
      gi_wp2
      go_end0
      exact ⟨⟨_, rfl⟩, .inl ⟨_, rfl, hJs⟩⟩
set_option maxRecDepth 100000 in
set_option maxHeartbeats 2000000 in
theorem chunk1_nil (F : Fence) (fu : Nat) (h7 : F.fn 91) (hro : F.round = none) (l Bs Bn c N : Nat) (J : List {j : Nat // j < N} → World → Prop) (W : World) (hbs : Blk W Bs 22 #[.slice none 0 c]) (h0 : J [] W) :
    CallsIn F fu Tryz.prog 91 #[.func (.yield l) #[] #[], .pointer (some ⟨Bs, 0, none⟩), .pointer (some ⟨Bn, 0, none⟩)] W fun e W' => (∃ v, e = .returned v) ∧ J [] W' := by
  refine callsIn_of_wp Tryz.func91 rfl h7 ?_ hro
  simp only [Tryz.ntmps91, List.size_toArray, List.length_cons, List.length_nil, Nat.reduceAdd, Nat.reduceSub, Array.replicate_succ, Array.replicate_zero, List.push_toArray, List.append_toArray, List.nil_append, List.cons_append]
  have hcs : W.cell? ⟨Bs, 0, none⟩ = some (.slice none 0 c) := hbs.cell 0
  gi_wp2
  gi_loopw [4] (fun i wr => i = .int .i64 0 ∧ J [] wr ∧ wr.cell? ⟨Bs, 0, none⟩ = some (.slice none 0 c)) (fun _ _ => 0)
  case atStart => exact ⟨rfl, h0, hcs⟩
  case round =>
    obtain ⟨rfl, hJs, hc1⟩ := hrel
    gi_wp2
    go_end0
    exact ⟨⟨_, rfl⟩, hJs⟩
theorem grown_drew (W : World) : W.grownBy W.drew none := ⟨rfl, rfl, rfl, Nat.le_refl _, fun _ _ _ => rfl⟩
/-- slices.Chunk's function: the blocks of the text, in order -/
theorem chunk_stops (F : Fence) (fu : Nat) (h7 : F.fn 91) (hro : F.round = none) (hfu : 1 ≤ fu) (Bs Bn n N M c : Nat) (A : Option Addr) (T : List Nat) (hn : n = 8 ∨ n = 16) (hM : M = N * n) (hN : M ≤ 100000) (hc : M ≤ c) (hA : A = none → M = 0) (hBs : Bs ∈ T) (hBn : Bn ∈ T) (w : World)
    (hbs : Blk w Bs 22 #[.slice A M c]) (hbn : Blk w Bn 3 #[.int .i64 (n : Int)]) :
    SeqStopsK F fu Tryz.prog 91 #[.pointer (some ⟨Bs, 0, none⟩), .pointer (some ⟨Bn, 0, none⟩)] (fun x : {j : Nat // j < N} => #[chv (A.getD default) n x.1]) (KpL T) (fun ys => ys = ixs N N) (fun pre => ∃ k, k ≤ N ∧ pre = ixs N k) N w := fun l J Jx W hW hJ _ hY h0 => by
  have hs1 := hbs.below hW hbs.lt
  have hn1 := hbn.below hW hbn.lt
  rcases A with _ | ad
  · have h0' : M = 0 := hA rfl
    subst h0'
    obtain rfl : N = 0 := by rcases hn with rfl | rfl <;> omega
    exact (chunk1_nil F fu h7 hro l Bs Bn c 0 J W hs1 h0).mono fun e W' ⟨he, hj⟩ => ⟨he, .inl ⟨_, rfl, hj⟩⟩
  · exact chunk1_in F fu h7 hro hfu l Bs Bn n N M c ad T hn (hid hM) hN hc hBs hBn J Jx (fun s W hs => hJ s W _ none hs (grown_drew W) (fun r e => by cases e)) hY W hs1 hn1 h0
set_option maxRecDepth 100000 in
theorem chunk_any (A : Option Addr) (M c n : Nat) (hn : n = 8 ∨ n = 16) (w : World) :
    Calls Tryz.prog 70 #[.slice A M c, .int .i64 (n : Int)] w fun e w' => e = .returned (.func (.func 91) #[] #[.pointer (some ⟨w.heap.size, 0, none⟩), .pointer (some ⟨w.heap.size + 1, 0, none⟩)]) ∧ w' = (w.alloc (.cells #[.slice A M c] 22)).alloc (.cells #[.int .i64 (n : Int)] 3) := by
  go_enter Tryz.func70, Tryz.ntmps70
  go_wp2_with fail
  go_ret
  exact ⟨rfl, rfl⟩
end Go.Proofs.YtmmgimpokpgnaaaGreatDoor.Md
