/-
  The example of chapter 5: lockboxlaw05's awake returns true.
-/
import Derived.Test.YtomeeebiijmnmaaGreatDoorLaw05
import Derived.Test.YtomeeebiijmnmaaGreatDoorAsX
namespace Go.Proofs.YtomeeebiijmnmaaGreatDoor.Bk
open Mem As Go.ChangeShapes Go.WideShapes Go.ChangeAt Go.RowKit
theorem do_blk (w : World) (p : Pl) (d : Nat) (R : List Rw) (k gc base L : Nat) (key : Nat → Nat) (g c : Nat) (bk : Bool) (x : Nat → Nat) (h : CiAt w p k gc base L key) (hb : BookAt w p d R) (t : TypeId) (cs : Array Value) (hg : Blk w g t cs) (htt : t ≠ 93) (hcs : ∀ i, i < sz k → cs[i]? = some (.int .u8 ((x i : Nat) : Int))) (hx : ∀ i, i < sz k → x i < 256)
    (o : Option (Nat → Nat)) (R' : List Rw) (d' : Nat) (ht : turnC k L key p R d bk x = (o, R', d')) :
    Calls Tryz.prog 11 #[.pointer (some ⟨gc, 0, none⟩), .slice (some ⟨g, 0, none⟩) (sz k) c, .bool bk] w (DoOut p k o R' d' w) :=
  do_any w p d R k gc base L key ⟨g, 0, none⟩ c bk x h hb hg.lt (hb.free hg htt) (fun i hi => by rw [add_zero_off, hg.cell]; exact hcs i hi) hx o R' d' ht
theorem Own.blk {w : World} {base : Nat} {A : Option Addr} {n c : Nat} {f : Nat → Nat} (h : Own w base 5 1 (.slice A n c) n f) (hn : 0 < n) : ∃ g cur, A = some ⟨g, 0, none⟩ ∧ Blk w g 5 cur ∧ ∀ i, i < n → cur[i]? = some (.int .u8 ((f i : Nat) : Int)) := by
  rcases h.form with ⟨_, h0⟩ | ⟨g, c', cur, hv, _, _, _, hb, _, hcs⟩
  · omega
  · have e1 : A = some ⟨g, 0, none⟩ := by injection hv
    exact ⟨g, cur, e1, hb, fun i hi => hcs i (by omega)⟩
theorem make16 (w : World) : (Instr.makeSlice 22 (.int .i64 16) (.int .i64 16)).run Tryz.prog w = .ok (.slice (some ⟨w.heap.size, 0, none⟩) 16 16) (w.alloc (.cells (row 16 (b8 fun _ => 0)) 5)) := by kernel_rfl
/-- the example's first question -/
theorem ex_one : askL (fun _ => 7) 16 (strF 1 (fun _ => 1)) [] 0 false (fun _ => 0) = (some (fun _ => 7), [⟨strF 1 (fun _ => 1), fun _ => 0, fun _ => 7⟩], 16) :=
  askL_new (e := 0) rfl (drawTo_new (by omega) rfl)
theorem ex_two : askL (fun _ => 7) 16 (strF 1 (fun _ => 1)) [⟨strF 1 (fun _ => 1), fun _ => 0, fun _ => 7⟩] 16 false (fun _ => 7) = (none, [⟨strF 1 (fun _ => 1), fun _ => 0, fun _ => 7⟩], 16) := by
  refine askL_end ?_ (drawTo_end (by omega))
  have : hitR false (strF 1 (fun _ => 1)) (fun _ => 7) ⟨strF 1 (fun _ => 1), fun _ => 0, fun _ => 7⟩ = false := by
    cases hq : hitR false (strF 1 (fun _ => 1)) (fun _ => 7) ⟨strF 1 (fun _ => 1), fun _ => 0, fun _ => 7⟩
    · rfl
    · have := eqB_iff.1 (hitR_iff.1 hq).2 0 (by omega)
      simp [fr] at this
  simp [List.find?, this]
set_option maxRecDepth 100000 in
set_option maxHeartbeats 1000000 in
theorem awake_any (w : World) (hg : Laid w) : Calls Tryz.prog 6 #[] w fun e w' => e = .returned (.bool true) ∧ Below w.heap.size w w' := by
  have Hg := hid hg
  clear hg
  go_enter Tryz.func6, Tryz.ntmps6
  go_wp2_with fail
  go_loopw [1, 2] (fun v y wr => ∃ i : Nat, i ≤ 16 ∧ y = .int .i64 (i : Int) ∧ Own wr w.heap.size 5 1 v i (fun _ => 7) ∧ Below w.heap.size w wr) (fun _ y _ => 16 - (intOf y).toNat)
  case atStart => exact ⟨0, by omega, rfl, Own.nil _ _ _ _ _, Below.refl _ _⟩
  case round =>
    obtain ⟨i, hi, rfl, hov, hBr⟩ := hrel
    obtain ⟨A', c', rfl, hc', hA', -⟩ := hov.slice'
    have Hov := hid hov
    have HBr := hid hBr
    clear hov hBr
    by_cases hlt : i < 16
    · have hovA : Own (wr.alloc (.cells #[.int .u8 7] 5)) w.heap.size 5 1 (.slice A' i c') i (fun _ => 7) := Hov.out.alloc _
      have hRA : Reads (wr.alloc (.cells #[.int .u8 7] 5)) (wr.heap.size + 1) (some ⟨wr.heap.size, 0, none⟩) 1 (fun _ => 7) := fun _ => ⟨_, rfl, Nat.lt_succ_self _, fun j hj => by
        have : j = 0 := by omega
        subst this
        exact (Blk.fresh wr 5 #[.int .u8 7]).cell 0⟩
      have hBa : Below w.heap.size w (wr.alloc (.cells #[.int .u8 7] 5)) := HBr.out.alloc HBr.out.size _
      have HovA := hid hovA
      have HRA := hid hRA
      have HBa := hid hBa
      clear hovA hRA hBa
      go_wp2_with (at_builtin; refine wpl_app_gen rfl _ _ 22 rfl w.heap.size 5 (.int .u8 0) Tryz.underlying22 info_u8 rfl _ i _ rfl HovA.out (some ⟨wr.heap.size, 0, none⟩) 1 1 _ _ HRA.out (fun h => by cases h) rfl (by omega) (by have := HBa.out.size; omega) ?_)
      intro v3 w3 ho3 hB3
      go_wp2_with fail
      go_round
      case rel =>
        refine ⟨i + 1, by omega, val_int (by omega), ho3.ext (fun q hq => ?_), HBa.out.trans hB3⟩
        unfold cat
        split <;> rfl
      case measure => simp [intOf]; omega
    · have hltI : ¬ (i : Int) < 16 := by omega
      obtain rfl : i = 16 := by omega
      obtain ⟨gs, cur, rfl, hbs, hcur⟩ := Own.blk Hov.out (by omega)
      have Hbs := hid hbs
      have Hcur := hid hcur
      clear hbs hcur
      go_wp2_with (go_at_call 7; refine (book_any _ 16 c' (fun _ => 7) _ (by omega) hA' (fun _ _ => by omega) Hov.out.reads).mono ?_; rintro e w1 ⟨p, rfl, hp1, hp2, hp3, hbk, hB1⟩; have Hbk := hid hbk; have Hbs1 := hid (Hbs.out.below hB1 Hbs.out.lt); have HB1 := hid (HBr.out.trans (hB1.mono HBr.out.size)); clear hbk hB1)
      have hbsz := HB1.out.size
      have hlow := Hbk.out.lo
      have hR1 : Reads (w1.alloc (.cells #[.int .u8 1] 5)) (w1.alloc (.cells #[.int .u8 1] 5)).heap.size (some ⟨w1.heap.size, 0, none⟩) 1 (fun _ => 1) := fun _ => ⟨_, rfl, by simp, fun j hj => by
        have : j = 0 := by omega
        subst this
        exact (Blk.fresh w1 5 #[.int .u8 1]).cell 0⟩
      have HR1 := hid hR1
      have hBa := (Below.refl w1.heap.size w1).alloc (Nat.le_refl _) (.cells #[.int .u8 1] 5)
      have Hbk2 := hid (Hbk.out.keep hBa)
      have Hbs2 := hid (Hbs1.out.alloc (.cells #[.int .u8 1] 5))
      have HB2 := hid (HB1.out.trans (hBa.mono hbsz))
      clear hR1 hBa Hbk Hbs1 HB1 hbsz
      refine (new3 _ 1 1 (fun _ => 1) p _ (by omega) (fun h => by cases h) (fun _ _ => by omega) HR1.out (.inr (.inr ⟨rfl, by omega, by omega⟩))).mono ?_
      rintro e w3 ⟨gc, rfl, hci, hgc, hB3⟩
      have Hci := hid hci
      have Hbk3 := hid (Hbk2.out.keep hB3)
      have Hbs3 := hid (Hbs2.out.below hB3 Hbs2.out.lt)
      have HB3 := hid (HB2.out.trans (hB3.mono HB2.out.size))
      clear hci hB3 hgc HR1 Hbk2 Hbs2 HB2
      go_wp2_with fail
      refine (size_any _ p 3 gc _ _ _ Hci.out).mono ?_
      rintro e w' ⟨rfl, rfl⟩
      have hmk := make16
      rw [show ((sz 3 : Nat) : Int) = 16 from rfl]
      have hBa := (Below.refl w3.heap.size w3).alloc (Nat.le_refl _) (.cells (row 16 (b8 fun _ => 0)) 5)
      have Hbk4 := hid (Hbk3.out.keep hBa)
      have Hci4 := hid (Hci.out.keep hBa)
      have Hbs4 := hid (Hbs3.out.alloc (.cells (row 16 (b8 fun _ => 0)) 5))
      have HB4 := hid (HB3.out.trans (hBa.mono HB3.out.size))
      have Hz4 := hid (Blk.fresh w3 5 (row 16 (b8 fun _ => 0)))
      have HT1 : Hid (turnC 3 1 (fun _ => 1) p [] 0 false (fun _ => 0) = (some (fun _ => 7), [⟨strF 1 (fun _ => 1), fun _ => 0, fun _ => 7⟩], 16)) := hid (by unfold turnC; rw [if_neg (by omega), if_neg (by omega), hp3, hp2]; exact ex_one)
      have HT2 : Hid (turnC 3 1 (fun _ => 1) p [⟨strF 1 (fun _ => 1), fun _ => 0, fun _ => 7⟩] 16 false (fun _ => 7) = (none, [⟨strF 1 (fun _ => 1), fun _ => 0, fun _ => 7⟩], 16)) := hid (by unfold turnC; rw [if_neg (by omega), if_neg (by omega), hp3, hp2]; exact ex_two)
      clear hBa Hbk3 Hci Hbs3 HB3
      go_wp2_with fail
      refine (do_blk _ p 0 [] 3 gc _ 1 (fun _ => 1) w3.heap.size 16 false (fun _ => 0) Hci4.out Hbk4.out 5 _ Hz4.out (by decide) (fun i hi => row_get 16 _ i hi) (fun _ _ => by omega) _ _ _ HT1.out).mono ?_
      rintro e w5 ⟨hK5, hbk5, ⟨y, gx, hy, rfl, hbx, hgx⟩ | ⟨j, x, hy, -⟩⟩
      rotate_left
      · cases hy
      cases hy
      have Hci5 := hid (Hci4.out.keepS Hbk4.out hK5)
      have Hbs5 := hid (hK5.blk Hbs4.out (Hbk4.out.free Hbs4.out (by decide)))
      have Hbk5 := hid hbk5
      have Hbx5 := hid hbx
      have HB5 := hid (HB4.out.trans (hK5.below (B := w.heap.size) (fun g hg => by have := hlow.2 g hg; have := HBr.out.size; omega) HB4.out.size))
      clear hbk5 hbx Hci4 Hbs4 Hbk4 hK5 hgx Hz4 HB4 HT1
      go_wp2_with fail
      refine (do_blk _ p 16 _ 3 gc _ 1 (fun _ => 1) gs c' false (fun _ => 7) Hci5.out Hbk5.out 5 _ Hbs5.out (by decide) Hcur.out (fun _ _ => by omega) _ _ _ HT2.out).mono ?_
      rintro e w6 ⟨hK6, hbk6, ⟨y, g6, hy, -⟩ | ⟨j, x, hy, rfl, hF, hjs⟩⟩
      · cases hy
      clear hy
      have Hbs6 := hid (hK6.blk Hbs5.out (Hbk5.out.free Hbs5.out (by decide)))
      have Hbx6 := hid (hK6.blk Hbx5.out (Hbk5.out.free Hbx5.out (by decide)))
      have Hbk6 := hid hbk6
      have HF6 := hid hF
      have HB6 := hid (HB5.out.trans (hK6.below (B := w.heap.size) (fun g hg => by have := hlow.2 g hg; have := HBr.out.size; omega) HB5.out.size))
      clear hbk6 hF hK6 Hci5 Hbs5 Hbk5 Hbx5 HB5 HT2 hjs
      go_wp2_with fail
      refine (new_len 1 (.inl rfl) _ 1 1 none (fun h => by omega) _ (by omega) rfl).mono ?_
      rintro e w' ⟨rfl, rfl⟩
      have hBa := (Below.refl w6.heap.size w6).alloc (Nat.le_refl _) (.cells #[.int .u8 1] 5)
      have Hbk7 := hid (Hbk6.out.keep hBa)
      have Hbs7 := hid (Hbs6.out.alloc (.cells #[.int .u8 1] 5))
      have Hbx7 := hid (Hbx6.out.alloc (.cells #[.int .u8 1] 5))
      have HF7 := hid (HF6.out.alloc (.cells #[.int .u8 1] 5))
      have HB7 := hid (HB6.out.trans (hBa.mono HB6.out.size))
      clear hBa Hbk6 Hbs6 Hbx6 HF6 HB6
      go_wp2_with fail
      rw [show sz 3 = 16 from rfl]
      refine (same_any _ _ 16 16 c' (fun _ => 7) (fun _ => 7) _ (by omega) (Blk.reads Hbx7.out) (fun _ => ⟨_, rfl, Hbs7.out.lt, fun i hi => by rw [add_zero_off, Hbs7.out.cell]; exact Hcur.out i hi⟩)).mono ?_
      rintro e w8 ⟨rfl, hB8⟩
      rw [eqB_refl]
      have HF8 := hid (HF7.out.below hB8 HF7.out.lt)
      have Hbk8 := hid (Hbk7.out.keep hB8)
      have HB8 := hid (HB7.out.trans (hB8.mono HB7.out.size))
      clear HF7 Hbk7 HB7 hB8 Hbs7 Hbx7
      go_wp2_with fail
      refine (code_fault 13 j _ (Hg.out.below HB8.out) (HF8.out.cell 1)).mono ?_
      rintro e w9 ⟨rfl, hB9⟩
      have Hbk9 := hid (Hbk8.out.keep hB9)
      have HB9 := hid (HB8.out.trans (hB9.mono HB8.out.size))
      clear Hbk8 HB8 hB9 HF8
      go_wp2_with fail
      refine (code_hit 2 _ (Hg.out.below HB9.out)).mono ?_
      rintro e w10 ⟨rfl, hB10⟩
      have Hbk10 := hid (Hbk9.out.keep hB10)
      have HB10 := hid (HB9.out.trans (hB10.mono HB9.out.size))
      clear Hbk9 HB9 hB10
      go_wp2_with fail
      refine (rows_any p 16 _ _ Hbk10.out).mono ?_
      rintro e w' ⟨rfl, rfl⟩
      go_wp2_with fail
      go_ret
      exact ⟨rfl, HB10.out⟩
end Go.Proofs.YtomeeebiijmnmaaGreatDoor.Bk
