/-
  What right and cipher of lockboxlaw06 return.
-/
import Derived.Test.YtmmgimpokpgnaaaGreatDoorMode5
namespace Go.Proofs.YtmmgimpokpgnaaaGreatDoor.Bk
open Mem Go.ChangeShapes Go.WideShapes Go.ChangeAt Go.RowKit
set_option maxRecDepth 100000 in
set_option maxHeartbeats 1000000 in
theorem right6_any (z : Int) (k : Nat) (hz : z = (k : Int)) (hk : k = 1 ∨ k = 2 ∨ k = 3) (A : Option Addr) (L c : Nat) (key : Nat → Nat) (w : World) (hL : L ≤ 1000) (hR : Reads w w.heap.size A L key) :
    Calls Tryz.prog 19 #[.int .i64 z, .slice A L c] w fun e w' => ∃ v, e = .returned v ∧ Mem.Own w' w.heap.size 5 1 v (rn k) (rk L key) ∧ Below w.heap.size w w' := by
  subst hz
  have HR := hid hR
  clear hR
  have hm : ((k : Int) % 4) = (k : Int) := by omega
  have hB1 : Below w.heap.size w (w.alloc (.cells #[.int .i64 16, .int .i64 16, .int .i64 24, .int .i64 4] 3)) := (Below.refl _ _).alloc (Nat.le_refl _) _
  have hblk := Blk.fresh w 3 #[.int .i64 16, .int .i64 16, .int .i64 24, .int .i64 4]
  have hcell : (w.alloc (.cells #[.int .i64 16, .int .i64 16, .int .i64 24, .int .i64 4] 3)).cell? ⟨w.heap.size, k, none⟩ = some (.int .i64 (rn k : Int)) := by
    rw [hblk.cell]
    rcases hk with rfl | rfl | rfl <;> rfl
  have HB1 := hid hB1
  have hrn := (rn_le k).1
  clear hblk
  go_enter Tryz.func19, Tryz.ntmps19
  go_wp2_with fail
  clear hcell hm hB1
  go_loopw [6, 7] (fun v y wr => ∃ i : Nat, i ≤ rn k ∧ y = .int .i64 (i : Int) ∧ Mem.Own wr w.heap.size 5 1 v i (rk L key) ∧ Below w.heap.size w wr) (fun _ y _ => rn k - (intOf y).toNat)
  case atStart => exact ⟨0, by omega, rfl, Mem.Own.nil _ _ _ _ _, HB1.out⟩
  case round =>
    clear HB1
    obtain ⟨i, hi, rfl, hov, hBr⟩ := hrel
    obtain ⟨A', c', rfl, hc', -⟩ := hov.slice'
    have Hov := hid hov
    have HBr := hid hBr
    clear hov hBr
    by_cases hlt : i < rn k
    · have hovA : Mem.Own (wr.alloc (.cells #[.int .u8 0] 5)) w.heap.size 5 1 (.slice A' i c') i (rk L key) := Hov.out.alloc _
      have hRA : Reads (wr.alloc (.cells #[.int .u8 0] 5)) (wr.heap.size + 1) (some ⟨wr.heap.size, 0, none⟩) 1 (fun _ => 0) := fun _ => ⟨_, rfl, Nat.lt_succ_self _, fun j hj => by
        have : j = 0 := by omega
        subst this
        exact (Blk.fresh wr 5 #[.int .u8 0]).cell 0⟩
      have hBa : Below w.heap.size w (wr.alloc (.cells #[.int .u8 0] 5)) := HBr.out.alloc HBr.out.size _
      have HovA := hid hovA
      have HRA := hid hRA
      have HBa := hid hBa
      clear hovA hRA hBa
      go_wp2_with (at_builtin; refine wpl_app_gen rfl _ _ 22 rfl w.heap.size 5 (.int .u8 0) Tryz.underlying22 info_u8 rfl _ i _ rfl HovA.out (some ⟨wr.heap.size, 0, none⟩) 1 1 _ _ HRA.out (fun h => by cases h) rfl (by omega) (by have := HBa.out.size; omega) ?_)
      intro v3 w3 ho3 hB3
      obtain ⟨A3, c3, rfl, hc3, -⟩ := ho3.slice'
      have HB3 := hid (HBa.out.trans hB3)
      by_cases hL0 : 0 < L
      · have hL0I : (L : Int) > 0 := by omega
        obtain ⟨ad, rfl, had, hcs⟩ := HR.out hL0
        have hjl : i % L < L := Nat.mod_lt _ hL0
        have hcx : w3.cell? (ad.add (i % L)) = some (.int .u8 ((key (i % L) : Nat) : Int)) := (HB3.out.cell (p := ad.add (i % L)) (by rw [add_block]; exact had)).trans (hcs _ hjl)
        have hmod : (i : Int) % (L : Int) = ((i % L : Nat) : Int) := by simp
        obtain ⟨g, rfl, hgb, hgl, hcg, hfg, hoP⟩ := Bk.Own.put ho3 (Nat.lt_succ_self i) (key (i % L))
        have HoP := hid hoP
        clear hcs ho3 hoP hB3
        have Hx : Hid (rk L key i = key (i % L)) := hid (by unfold rk; rw [if_pos hL0])
        generalize i % L = j at *
        go_wp2_with (first
          | (with_reducible refine wpl_sl1 rfl 22 _ _ rfl ad L c rfl .i64 _ rfl j hmod 5 Tryz.underlying22 hjl i8q ?_)
          | (with_reducible refine wpl_ld rfl 5 _ rfl _ rfl .u8 Tryz.underlying5 _ hcx ?_)
          | (with_reducible refine wpl_sl1 rfl 22 _ _ rfl ⟨g, 0, none⟩ (i + 1) c3 rfl .i64 _ rfl i rfl 5 Tryz.underlying22 (Nat.lt_succ_self i) i8q ?_)
          | (with_reducible refine wpl_st rfl 5 _ _ rfl ⟨g, i, none⟩ rfl .u8 _ rfl i8q _ hcg hfg ?_))
        refine ⟨⟨i + 1, by omega, val_int (by omega), HoP.out.ext (fun q hq => ?_), HB3.out.setCell (by exact hgb) _⟩, by simp [intOf]; omega⟩
        by_cases hqi : q = i
        · subst hqi; rw [upd_same, Hx.out]
        · rw [upd_other _ _ _ _ hqi]; unfold cat; rw [if_pos (by omega)]
      · have hL0I : ¬ (L : Int) > 0 := by omega
        go_wp2_with fail
        go_round
        case rel =>
          refine ⟨i + 1, by omega, val_int (by omega), ho3.ext (fun q hq => ?_), HB3.out⟩
          unfold cat rk
          rw [if_neg hL0]
          split <;> rfl
        case measure => simp [intOf]; omega
    · have hltI : ¬ (i : Int) < (rn k : Int) := by omega
      go_wp2_with fail
      go_ret
      have : i = rn k := by omega
      subst this
      exact ⟨_, rfl, Hov.out, HBr.out⟩
set_option maxRecDepth 100000 in
set_option maxHeartbeats 1000000 in
/-- a cipher with a book of its own -/
theorem cipher6_any (k : Nat) (Ak : Option Addr) (L ck : Nat) (key : Nat → Nat) (A : Option Addr) (n c : Nat) (F : Nat → Nat) (w : World) (hL : L ≤ 32) (hAk : Ak = none → L = 0 ∧ ck = 0) (hk : ∀ i, i < L → key i < 256) (hRk : Reads w w.heap.size Ak L key) (hf : fits k L) (hn : n ≤ 65536) (hA : A = none → n = 0 ∧ c = 0) (hF : ∀ i, i < n → F i < 256) (hR : Reads w w.heap.size A n F) :
    Calls Tryz.prog 20 #[.int .i64 (k : Int), .slice Ak L ck, .slice A n c] w fun e w' => ∃ (p : Pl) (gc base : Nat), e = .returned (.tuple #[.pointer (some ⟨gc, 0, none⟩), .bool true]) ∧ p.base = w.heap.size ∧ p.n = n ∧ p.F = F ∧ BookAt w' p 0 [] ∧ CiAt w' p k gc base L key ∧ w.heap.size ≤ base ∧ w.heap.size ≤ gc ∧ Below w.heap.size w w' := by
  have HR := hid hR
  have HRk := hid hRk
  have HA := hid hA
  have HAk := hid hAk
  have HF := hid hF
  have Hk := hid hk
  have Hf := hid hf
  clear hR hA hF hRk hAk hk hf
  go_enter Tryz.func20, Tryz.ntmps20
  go_wp2_with (first
    | (go_at_call 28; refine (new_ok A n c F _ hn HA.out HR.out).mono ?_; rintro e w1 ⟨v, g, rfl, ho, hb, hgs, hB⟩; have Ho := hid ho; have Hb := hid hb; have HB := hid hB; clear ho hb hB)
    | (go_at_call 30; refine (newBook_any g w.heap.size v n F _ Hb.out Ho.out hgs hn HF.out).mono ?_; rintro e w2 ⟨p, rfl, hp1, hp2, hp3, hbk, hB2⟩; have Hbk := hid hbk; have HB2 := hid (HB.out.trans (hB2.mono HB.out.size)); clear hbk hB2)
    | (go_at_call 11; refine (new_any k Ak L ck key p _ hL HAk.out Hk.out ((HRk.out.below HB2.out).more HB2.out.size) Hf.out).mono ?_; rintro e w3 ⟨gc, rfl, hci, hgc, hB3⟩))
  go_ret2
  have hs2 := HB2.out.size
  exact ⟨p, gc, _, rfl, hp1, hp2, hp3, Hbk.out.keep hB3, hci, hs2, by omega, HB2.out.trans (hB3.mono hs2)⟩
end Go.Proofs.YtmmgimpokpgnaaaGreatDoor.Bk
