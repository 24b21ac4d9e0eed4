/-
  What lockboxref02.Same, and book and right of lockboxlaw05 return.
-/
import Derived.Test.YtomeeebiijmnmaaGreatDoorCipher3
namespace Go.Proofs.YtomeeebiijmnmaaGreatDoor.Bk
open Mem Go.ChangeShapes Go.WideShapes Go.ChangeAt Go.RowKit
theorem i8q : (Tryz.prog.info? 5).map (·.size) = some 1 := by kernel_rfl
set_option maxRecDepth 100000 in
set_option maxHeartbeats 2000000 in
/-- do two slices of one length read alike? -/
theorem same_any (A A' : Option Addr) (n c c' : Nat) (f g : Nat → Nat) (w : World) (hn : n ≤ 100000) (hR : Reads w w.heap.size A n f) (hR' : Reads w w.heap.size A' n g) :
    Calls Tryz.prog 13 #[.slice A n c, .slice A' n c'] w fun e w' => e = .returned (.bool (eqB n f g)) ∧ Below w.heap.size w w' := by
  have HR := hid hR
  have HR' := hid hR'
  clear hR hR'
  go_enter Tryz.func13, Tryz.ntmps13
  go_wp2_with fail
  go_loopw [5] (fun i wr => ∃ k : Nat, k ≤ n ∧ i = .int .i64 k ∧ Hid (∀ j, j < k → f j = g j) ∧ Below w.heap.size w wr) (fun i _ => n - (intOf i).toNat)
  case atStart => exact ⟨0, by omega, rfl, hid (fun j hj => by omega), Below.refl _ _⟩
  case round =>
    obtain ⟨k, hk, rfl, hall, hB⟩ := hrel
    by_cases hlt : k < n
    · obtain ⟨ad, rfl, hbl, hcs⟩ := HR.out (by omega)
      obtain ⟨ad', rfl, hbl', hcs'⟩ := HR'.out (by omega)
      have hc := (hB.cell (p := ad.add k) (by rw [add_block]; exact hbl)).trans (hcs k hlt)
      have hc' := (hB.cell (p := ad'.add k) (by rw [add_block]; exact hbl')).trans (hcs' k hlt)
      clear hcs hcs'
      go_wp2_with fail
      refine wp_region_still_lit (by kernel_rfl) (by kernel_rfl) ?_
      change wpStill _ _ wr.drew _ _ _
      have hd : wr.drew.cell? (ad.add (k * 1)) = some (.int .u8 ((f k : Nat) : Int)) := by rw [Nat.mul_one]; exact hc
      have hd' : wr.drew.cell? (ad'.add (k * 1)) = some (.int .u8 ((g k : Nat) : Int)) := by rw [Nat.mul_one]; exact hc'
      clear hc hc'
      generalize wr.drew = w2 at *
      repeat (first
        | (with_reducible refine wps_sl rfl 22 _ _ rfl ad n c rfl .i64 _ rfl k rfl 5 Tryz.underlying22 hlt 1 i8q ?_)
        | (with_reducible refine wps_sl rfl 22 _ _ rfl ad' n c' rfl .i64 _ rfl k rfl 5 Tryz.underlying22 hlt 1 i8q ?_)
        | (with_reducible refine wps_ld rfl 5 _ rfl _ rfl .u8 Tryz.underlying5 _ hd ?_)
        | (with_reducible refine wps_ld rfl 5 _ rfl _ rfl .u8 Tryz.underlying5 _ hd' ?_)
        | still_step)
      refine wpStill_nil ?_
      by_cases he : f k = g k
      · have heI : ((f k : Nat) : Int) = ((g k : Nat) : Int) := by rw [he]
        go_wp2_with fail
        go_round
        case rel => exact ⟨k + 1, by omega, val_int (by omega), hid (fun j hj => by
          rcases Nat.lt_or_ge j k with h | h
          · exact hall.out j h
          · have : j = k := by omega
            subst this; exact he), hB.drew⟩
        case measure => simp [intOf]; omega
      · have heI : ((f k : Nat) : Int) ≠ ((g k : Nat) : Int) := by omega
        go_wp2_with fail
        go_ret
        refine ⟨?_, hB.drew⟩
        have : eqB n f g = false := by
          cases hq : eqB n f g
          · rfl
          · exact absurd (eqB_iff.1 hq k hlt) he
        rw [this]
        rfl
    · go_wp2_with fail
      go_ret
      refine ⟨?_, hB⟩
      rw [eqB_true (fun i hi => hall.out i (by omega))]
      rfl
/-- a book of draws -/
theorem book_any (A : Option Addr) (n c : Nat) (F : Nat → Nat) (w : World) (hn : n ≤ 65536) (hA : A = none → n = 0 ∧ c = 0) (hF : ∀ i, i < n → F i < 256) (hR : Reads w w.heap.size A n F) :
    Calls Tryz.prog 7 #[.slice A n c] w fun e w' => ∃ p : Pl, e = .returned (.tuple #[.pointer (some ⟨p.gb, 0, none⟩), .bool true]) ∧ p.base = w.heap.size ∧ p.n = n ∧ p.F = F ∧ BookAt w' p 0 [] ∧ Below w.heap.size w w' := by
  have HR := hid hR
  have HA := hid hA
  have HF := hid hF
  clear hR hA hF
  go_enter Tryz.func7, Tryz.ntmps7
  go_wp2_with (first
    | (go_at_call 25; refine (new_ok A n c F _ hn HA.out HR.out).mono ?_; rintro e w1 ⟨v, g, rfl, ho, hb, hgs, hB⟩; have Ho := hid ho; have Hb := hid hb; have HB := hid hB; clear ho hb hB)
    | (go_at_call 27; refine (newBook_any g w.heap.size v n F _ Hb.out Ho.out hgs hn HF.out).mono ?_; rintro e w2 ⟨p, rfl, hp1, hp2, hp3, hbk, hB2⟩))
  go_ret2
  exact ⟨p, rfl, hp1, hp2, hp3, hbk, HB.out.trans (hB2.mono HB.out.size)⟩
/-- a key's bytes, again and again -/
def rk (L : Nat) (key : Nat → Nat) : Nat → Nat := fun i => if 0 < L then key (i % L) else 0
theorem rk_lt {L : Nat} {key : Nat → Nat} (h : ∀ i, i < L → key i < 256) (i : Nat) : rk L key i < 256 := by
  unfold rk
  split
  · exact h _ (Nat.mod_lt _ (by omega))
  · omega
def rn (k : Nat) : Nat := if k = 2 then 24 else if k = 3 then 4 else 16
theorem rn_fits {k : Nat} (h : k = 1 ∨ k = 2 ∨ k = 3) : fits k (rn k) := by
  rcases h with rfl | rfl | rfl
  · exact .inl ⟨rfl, .inl rfl⟩
  · exact .inr (.inl ⟨rfl, .inr (.inr rfl)⟩)
  · exact .inr (.inr ⟨rfl, by decide, by decide⟩)
theorem rn_le (k : Nat) : rn k ≤ 24 ∧ 0 < rn k := by unfold rn; split <;> (try split) <;> omega
theorem info_u8 : (Tryz.prog.info? 5).map (fun i => (i.zero, i.size, i.bytes)) = some (some (.int .u8 0), 1, 1) := by kernel_rfl
/-- the first i bytes are there -/
theorem Own.put {w : World} {base : Nat} {A : Option Addr} {n c : Nat} {f : Nat → Nat} (h : Own w base 5 1 (.slice A n c) n f) {i : Nat} (hi : i < n) (v : Nat) :
    ∃ g, A = some ⟨g, 0, none⟩ ∧ base ≤ g ∧ g < w.heap.size ∧ w.cell? ⟨g, i, none⟩ = some (.int .u8 ((f i : Nat) : Int)) ∧ w.frozen? ⟨g, i, none⟩ = false ∧ Own (w.setCell ⟨g, i, none⟩ (.int .u8 (v : Int))) base 5 1 (.slice A n c) n (upd f i v) := by
  obtain ⟨h1, ⟨hv, hn0⟩ | ⟨g, c', cur, hv, hbk, hblk, hnc, hcm, hsz, hcs⟩⟩ := h
  · omega
  · have e1 : A = some ⟨g, 0, none⟩ := by injection hv
    have e2 : c = c' := by injection hv
    subst e1 e2
    have hb : Blk w g 5 cur := hblk
    have hget : ∀ j, j < n → cur[j]? = some (b8 f j) := by
      intro j hj
      have e := congrArg (fun l : List Value => l[j]?) hcs
      simp only [List.getElem?_take, Nat.mul_one, hj, if_true, List.getElem?_map, List.getElem?_range, Option.map_some, Array.getElem?_toList] at e
      exact e
    refine ⟨g, rfl, hbk, hb.lt, ?_, hb.free i, ?_⟩
    · rw [hb.cell, hget i hi]; rfl
    · refine ⟨by simp, .inr ⟨g, c, cur.setIfInBounds i (.int .u8 (v : Int)), rfl, hbk, hb.setCell i _, hnc, hcm, by simpa using hsz, ?_⟩⟩
      apply List.ext_getElem?
      intro j
      rw [List.getElem?_take, Nat.mul_one]
      by_cases hj : j < n
      · rw [if_pos hj, Array.getElem?_toList, Array.getElem?_setIfInBounds]
        simp only [List.getElem?_map, List.getElem?_range hj, Option.map_some]
        have hcz : j < cur.size := by rw [hsz]; omega
        by_cases hij : i = j
        · subst hij
          rw [if_pos rfl, if_pos hcz]
          unfold b8; rw [upd_same]
        · rw [if_neg hij, hget j hj]
          unfold b8; rw [upd_other _ _ _ _ (fun e => hij e.symm)]
      · rw [if_neg hj, List.getElem?_eq_none (by simp; omega)]
set_option maxRecDepth 100000 in
set_option maxHeartbeats 1000000 in
theorem right_any (z : Int) (k : Nat) (hz : z = (k : Int)) (hk : k = 1 ∨ k = 2 ∨ k = 3) (A : Option Addr) (L c : Nat) (key : Nat → Nat) (w : World) (hL : L ≤ 1000) (hR : Reads w w.heap.size A L key) :
    Calls Tryz.prog 8 #[.int .i64 z, .slice A L c] w fun e w' => ∃ v, e = .returned v ∧ Own w' w.heap.size 5 1 v (rn k) (rk L key) ∧ Below w.heap.size w w' := by
  subst hz
  have HR := hid hR
  clear hR
  have hm : ((k : Int) % 4) = (k : Int) := by omega
  have hB1 : Below w.heap.size w (w.alloc (.cells #[.int .i64 16, .int .i64 16, .int .i64 24, .int .i64 4] 3)) := (Below.refl _ _).alloc (Nat.le_refl _) _
  have hblk := Blk.fresh w 3 #[.int .i64 16, .int .i64 16, .int .i64 24, .int .i64 4]
  have hcell : (w.alloc (.cells #[.int .i64 16, .int .i64 16, .int .i64 24, .int .i64 4] 3)).cell? ⟨w.heap.size, k, none⟩ = some (.int .i64 (rn k : Int)) := by
    rw [hblk.cell]
    rcases hk with rfl | rfl | rfl <;> rfl
  have HB1 := hid hB1
  have hrn := (rn_le k).1
  clear hblk
  go_enter Tryz.func8, Tryz.ntmps8
  go_wp2_with fail
  clear hcell hm hB1
  go_loopw [6, 7] (fun v y wr => ∃ i : Nat, i ≤ rn k ∧ y = .int .i64 (i : Int) ∧ Own wr w.heap.size 5 1 v i (rk L key) ∧ Below w.heap.size w wr) (fun _ y _ => rn k - (intOf y).toNat)
  case atStart => exact ⟨0, by omega, rfl, Own.nil _ _ _ _ _, HB1.out⟩
  case round =>
    clear HB1
    obtain ⟨i, hi, rfl, hov, hBr⟩ := hrel
    obtain ⟨A', c', rfl, hc', -⟩ := hov.slice'
    have Hov := hid hov
    have HBr := hid hBr
    clear hov hBr
    by_cases hlt : i < rn k
    · have hovA : Own (wr.alloc (.cells #[.int .u8 0] 5)) w.heap.size 5 1 (.slice A' i c') i (rk L key) := Hov.out.alloc _
      have hRA : Reads (wr.alloc (.cells #[.int .u8 0] 5)) (wr.heap.size + 1) (some ⟨wr.heap.size, 0, none⟩) 1 (fun _ => 0) := fun _ => ⟨_, rfl, Nat.lt_succ_self _, fun j hj => by
        have : j = 0 := by omega
        subst this
        exact (Blk.fresh wr 5 #[.int .u8 0]).cell 0⟩
      have hBa : Below w.heap.size w (wr.alloc (.cells #[.int .u8 0] 5)) := HBr.out.alloc HBr.out.size _
      have HovA := hid hovA
      have HRA := hid hRA
      have HBa := hid hBa
      clear hovA hRA hBa
      go_wp2_with (at_builtin; refine wpl_app_gen rfl _ _ 22 rfl w.heap.size 5 (.int .u8 0) Tryz.underlying22 info_u8 rfl _ i _ rfl HovA.out (some ⟨wr.heap.size, 0, none⟩) 1 1 _ _ HRA.out (fun h => by cases h) rfl (by omega) (by have := HBa.out.size; omega) ?_)
      intro v3 w3 ho3 hB3
      obtain ⟨A3, c3, rfl, hc3, -⟩ := ho3.slice'
      have HB3 := hid (HBa.out.trans hB3)
      by_cases hL0 : 0 < L
      · have hL0I : (L : Int) > 0 := by omega
        obtain ⟨ad, rfl, had, hcs⟩ := HR.out hL0
        have hjl : i % L < L := Nat.mod_lt _ hL0
        have hcx : w3.cell? (ad.add (i % L)) = some (.int .u8 ((key (i % L) : Nat) : Int)) := (HB3.out.cell (p := ad.add (i % L)) (by rw [add_block]; exact had)).trans (hcs _ hjl)
        have hmod : (i : Int) % (L : Int) = ((i % L : Nat) : Int) := by simp
        obtain ⟨g, rfl, hgb, hgl, hcg, hfg, hoP⟩ := Own.put ho3 (Nat.lt_succ_self i) (key (i % L))
        have HoP := hid hoP
        clear hcs ho3 hoP hB3
        have Hx : Hid (rk L key i = key (i % L)) := hid (by unfold rk; rw [if_pos hL0])
        generalize i % L = j at *
        go_wp2_with (first
          | (with_reducible refine wpl_sl1 rfl 22 _ _ rfl ad L c rfl .i64 _ rfl j hmod 5 Tryz.underlying22 hjl i8q ?_)
          | (with_reducible refine wpl_ld rfl 5 _ rfl _ rfl .u8 Tryz.underlying5 _ hcx ?_)
          | (with_reducible refine wpl_sl1 rfl 22 _ _ rfl ⟨g, 0, none⟩ (i + 1) c3 rfl .i64 _ rfl i rfl 5 Tryz.underlying22 (Nat.lt_succ_self i) i8q ?_)
          | (with_reducible refine wpl_st rfl 5 _ _ rfl ⟨g, i, none⟩ rfl .u8 _ rfl i8q _ hcg hfg ?_))
        refine ⟨⟨i + 1, by omega, val_int (by omega), HoP.out.ext (fun q hq => ?_), HB3.out.setCell (by exact hgb) _⟩, by simp [intOf]; omega⟩
        by_cases hqi : q = i
        · subst hqi; rw [upd_same, Hx.out]
        · rw [upd_other _ _ _ _ hqi]; unfold cat; rw [if_pos (by omega)]
      · have hL0I : ¬ (L : Int) > 0 := by omega
        go_wp2_with fail
        go_round
        case rel =>
          refine ⟨i + 1, by omega, val_int (by omega), ho3.ext (fun q hq => ?_), HB3.out⟩
          unfold cat rk
          rw [if_neg hL0]
          split <;> rfl
        case measure => simp [intOf]; omega
    · have hltI : ¬ (i : Int) < (rn k : Int) := by omega
      go_wp2_with fail
      go_ret
      have : i = rn k := by omega
      subst this
      exact ⟨_, rfl, Hov.out, HBr.out⟩
end Go.Proofs.YtomeeebiijmnmaaGreatDoor.Bk
