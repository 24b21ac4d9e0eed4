/-
 RefEnd RefApp RefNew RefAsk
-/
import Derived.Test.YtlmnoapoofmmnaaGreatDoorRefHX
import Derived.Test.YtlmnoapoofmmnaaGreatDoorDraw
namespace Go.Proofs.YtlmnoapoofmmnaaGreatDoor.Bk
open Mem Go.ChangeShapes Go.WideShapes Go.ChangeAt Go.RowKit
theorem any_step {R : List Rw} {p : Rw → Bool} {q : Nat} (hq : q < R.length) : (R.take (q + 1)).any p = ((R.take q).any p || p R[q]) := by
 rw [List.take_succ_eq_append_getElem hq, List.any_append, List.any_cons, List.any_nil, Bool.or_false]
theorem run_cut16 (A : Option Addr) (l c : Nat) (h : 16 ≤ l) (w : World) : (Instr.sliceAt 22 (.slice A l c) (some (.int .i64 16)) none none).run Tryz.prog w = .ok (.slice (cutA A 16 c) (l - 16) (c - 16)) w := by
 have hu : Tryz.prog.underlying 22 = some (.slice (Tryz.prog.elem 22)) := by rw [elem8]; exact Tryz.underlying22
 rw [run_sliceAt_slice w 22 _ _ _ _ hu, run_slice_l w 22 A l c hu .i64 _ (by omega) (by omega), elem8, size8]
 simp only [Result.andThen, sliced, cutA]
 congr 1
theorem ReadsP.cutA {w : World} {P : Nat → Prop} {A : Option Addr} {n : Nat} {f : Nat → Nat} (h : ReadsP w P A n f) {k z cap : Nat} (hk : k + z ≤ n) (hc : n ≤ cap) : ReadsP w P (cutA A k cap) z (fun i => f (k + i)) := fun hz => by
 obtain ⟨ad, rfl, hb, hcell⟩ := h (by omega)
 unfold Mem.cutA
 rw [if_neg (by omega)]
 exact ⟨ad.add k, rfl, by rw [add_block]; exact hb, fun i hi => by rw [add_add]; exact hcell _ (by omega)⟩
def tlen (w : World) (g : Nat) : Nat := match w.cell? ⟨g, 1, none⟩ with | some (.slice _ l _) => l | _ => 0
set_option linter.unusedSimpArgs false in
set_option maxRecDepth 100000 in
set_option maxHeartbeats 2000000 in
theorem rask_end (F : Nat → Nat) (n d Lk : Nat) (R : List Rw) (Ar : Option Addr) (cr : Nat) (At : Option Addr) (ct : Nat) (Ak : Option Addr) (ck : Nat) (key : Nat → Nat) (Ax : Option Addr) (cx : Nat) (x : Nat → Nat) (bk : Bool) (w : World)
  (B0 : Nat → Prop) (hB0 : ∀ g, B0 g → g < w.heap.size) (hR : RowsAtP w B0 Ar Lk R) (hT : ReadsP w B0 At (n - d) (fun i => F (d + i))) (hct : n - d ≤ ct) (_hn : n ≤ 100000) (hd : d ≤ n) (hLk : Lk ≤ 1000) (hlen : R.length ≤ 1000) (hkey : Reads w w.heap.size Ak Lk key) (hkb : ∀ i, i < Lk → key i < 256) (hx : Reads w w.heap.size Ax 16 x)
  (hf : R.find? (hitR bk (strF Lk key) x) = none) (j : Nat) (hj : drawTo F n (hit (!bk) R (strF Lk key)) d = (false, j)) (hAr : Ar = none → R.length = 0 ∧ cr = 0) :
  Calls Tryz.prog 54 #[.agg (row 2 (bookC (.slice Ar R.length cr) (.slice At (n - d) ct))), .slice Ak Lk ck, .slice Ax 16 cx, .bool bk] w (RAskOut F n Lk B0 none R j w) := by
 have W1 : Hid (Below w.heap.size w ((w.alloc (.cells (row 2 (bookC (.slice Ar R.length cr) (.slice At (n - d) ct))) 37)).alloc (.cells (row 2 (bookC (.slice none 0 0) (.slice none 0 0))) 37))) := hid (((Below.refl _ _).alloc (Nat.le_refl _) _).alloc (by simp) _)
 have HR0 := hid hR
 have HT0 := hid hT
 have HR := hid (hR.more hB0)
 have HT := hid (hT.more hB0)
 have HK := hid hkey
 have HX := hid hx
 have HN : Hid (∀ i, ∀ hi : i < R.length, hitR bk (strF Lk key) x R[i] = false) := hid (fun i hi => by rw [List.find?_eq_none] at hf; simpa using hf _ (List.getElem_mem hi))
 have HJ := hid hj
 have HAr := hid hAr
 have hg4 : Blk ((w.alloc (.cells (row 2 (bookC (.slice Ar R.length cr) (.slice At (n - d) ct))) 37)).alloc (.cells (row 2 (bookC (.slice none 0 0) (.slice none 0 0))) 37)) w.heap.size 37 (row 2 (bookC (.slice Ar R.length cr) (.slice At (n - d) ct))) := (Blk.fresh _ _ _).alloc _
 have hg8 : Blk ((w.alloc (.cells (row 2 (bookC (.slice Ar R.length cr) (.slice At (n - d) ct))) 37)).alloc (.cells (row 2 (bookC (.slice none 0 0) (.slice none 0 0))) 37)) (w.heap.size + 1) 37 (row 2 (bookC (.slice none 0 0) (.slice none 0 0))) := by
  have := Blk.fresh (w.alloc (.cells (row 2 (bookC (.slice Ar R.length cr) (.slice At (n - d) ct))) 37)) 37 (row 2 (bookC (.slice none 0 0) (.slice none 0 0)))
  simpa using this
 clear hR hT hkey hx hf hj hAr
 go_enter Tryz.func54, Tryz.ntmps54
 go_wp2_with (first
  | (with_reducible refine wpl_alloc rfl 37 rfl _ zRB2 ?_))
 generalize ((w.alloc (.cells (row 2 (bookC (.slice Ar R.length cr) (.slice At (n - d) ct))) 37)).alloc (.cells (row 2 (bookC (.slice none 0 0) (.slice none 0 0))) 37)) = w1 at *
 go_loopw [11] (fun vi wr => ∃ i : Nat, i ≤ R.length ∧ vi = .int .i64 (i : Int) ∧ Blk wr w.heap.size 37 (row 2 (bookC (.slice Ar R.length cr) (.slice At (n - d) ct))) ∧ Blk wr (w.heap.size + 1) 37 (row 2 (bookC (.slice none 0 0) (.slice none 0 0))) ∧ Below w.heap.size w wr) (fun vi _ => R.length - (intOf vi).toNat)
 case atStart => exact ⟨0, by omega, rfl, hg4, hg8, W1.out⟩
 case round =>
  clear hg4 hg8 W1
  obtain ⟨i, hi, rfl, h4, h8, hB⟩ := hrel
  by_cases hlt : i < R.length
  ·obtain ⟨adr, hAr, had, cc, hcc, hrc⟩ := HR.out i hlt
   subst hAr
   have hc0 : wr.cell? ⟨w.heap.size, 0, none⟩ = some (.slice (some adr) R.length cr) := h4.cell 0
   have hcc' : Hid (∀ j, j < 3 → wr.cell? ((adr.add (i * 3)).add j) = some (cc j)) := hid (fun j hj => (hB.cell (by rw [add_block, add_block]; exact had)).trans (hcc j hj))
   have HB := hid hB
   have HC := hid hrc
   obtain ⟨Akr, cpr, fk, hk0, hkR, hkB, hkS⟩ := hrc.key
   obtain ⟨Air, cir, hi0, hic, hiR⟩ := hrc.inn
   obtain ⟨Aor, cor, ho0, hoc, hoR⟩ := hrc.out
   have hBA := HB.out.alloc HB.out.size (.cells (row 3 cc) 128)
   have q0 : Hid ((wr.alloc (.cells (row 3 cc) 128)).cell? ⟨wr.heap.size, 0, none⟩ = some (.slice Akr Lk cpr)) := hid (by rw [(Blk.fresh wr 128 (row 3 cc)).cell, row_get _ _ _ (by omega), hk0])
   have HA := hid (Blk.fresh wr 128 (row 3 cc))
   have HKr := hid ((hkR.below hBA).more hBA.size)
   have HKk := hid ((HK.out.below hBA).more hBA.size)
   have HBA := hid hBA
   have Hhit : Hid (∀ bb z, hitR bb (strF Lk key) z R[i] = (eqB Lk fk key && eqB 16 (fr bb R[i]) z)) := hid (fun bb z => by unfold hitR; rw [hkS, strF_eqB hkB hkb])
   have HiR := hid hiR
   have HoR := hid hoR
   have H4A := hid (h4.alloc (.cells (row 3 cc) 128))
   have H8A := hid (h8.alloc (.cells (row 3 cc) 128))
   clear hcc hrc h4 h8 hB hkR hBA hiR hoR
   go_wp2_with (first
    | (with_reducible refine wpl_sl rfl 35 _ _ rfl adr R.length cr rfl .i64 _ rfl i rfl 128 Tryz.underlying35 hlt 3 iRow ?_)
    | (with_reducible refine wpl_val rfl _ (exec_loadSt 128 _ rfl (adr.add (i * 3)) rfl 3 cc hcc'.out _ Tryz.underlying128 iRow) ?_)
    | (with_reducible refine wpl_alloc rfl 128 rfl _ zRow ?_)
    | (with_reducible refine wpl_store_newS rfl 128 _ _ rfl wr _ 3 cc (row_ones HC.out) rfl rfl 128 iRow (row_size _ _) ?_)
    | (with_reducible refine wpl_lds rfl 22 _ rfl ⟨wr.heap.size, 0, none⟩ rfl 5 Tryz.underlying22 _ q0.out ?_))
   generalize wr.alloc (.cells (row 3 cc) 128) = wA at *
   generalize wr.heap.size = gr at *
   refine (same_any Akr Ak Lk cpr ck fk key _ (by omega) HKr.out HKk.out).mono ?_
   rintro e w5 ⟨rfl, hB5⟩
   have HB5 := hid (HBA.out.trans (hB5.mono HBA.out.size))
   have H45 := hid (H4A.out.below hB5 H4A.out.lt)
   have H85 := hid (H8A.out.below hB5 H8A.out.lt)
   have HA5 := hid (HA.out.below hB5 HA.out.lt)
   clear hB5 H4A H8A HA HBA q0 HKr HKk HB
   have hno := HN.out i hlt
   rw [Hhit.out] at hno
   have Hno := hid hno
   clear hno
   cases hek : eqB Lk fk key
   ·go_wp2_with fail
    go_round
    case rel => exact ⟨i + 1, by omega, val_int (by omega), H45.out, H85.out, HB5.out⟩
    case measure => simp [intOf]; omega
   have Hno2 : Hid (eqB 16 (fr bk R[i]) x = false) := hid (by have := Hno.out; rw [hek] at this; simpa using this)
   clear hek Hno
   have q1 : Hid (w5.cell? ⟨gr, 1, none⟩ = some (.slice Air 16 cir)) := hid (by rw [HA5.out.cell, row_get _ _ _ (by omega), hi0])
   have q2 : Hid (w5.cell? ⟨gr, 2, none⟩ = some (.slice Aor 16 cor)) := hid (by rw [HA5.out.cell, row_get _ _ _ (by omega), ho0])
   cases bk
   ·go_wp2_with (first
     | ((with_reducible refine wpg_val ?_ _ (exec_ldsl 22 _ rfl ⟨gr, 1, none⟩ rfl 5 Tryz.underlying22 _ q1.out) ?_); exact rfl))
    refine (same_any Air Ax 16 cir cx R[i].x x _ (by omega) ((HiR.out.below HB5.out).more HB5.out.size) ((HX.out.below HB5.out).more HB5.out.size)).mono ?_
    rintro e w6 ⟨rfl, hB6⟩
    rw [show eqB 16 R[i].x x = false from Hno2.out]
    have HB6 := hid (HB5.out.trans (hB6.mono HB5.out.size))
    have H46 := hid (H45.out.below hB6 H45.out.lt)
    have H86 := hid (H85.out.below hB6 H85.out.lt)
    go_wp2_with fail
    go_round
    case rel => exact ⟨i + 1, by omega, val_int (by omega), H46.out, H86.out, HB6.out⟩
    case measure => simp [intOf]; omega
   go_wp2_with (first
    | ((with_reducible refine wpg_val ?_ _ (exec_ldsl 22 _ rfl ⟨gr, 2, none⟩ rfl 5 Tryz.underlying22 _ q2.out) ?_); exact rfl))
   refine (same_any Aor Ax 16 cor cx R[i].y x _ (by omega) ((HoR.out.below HB5.out).more HB5.out.size) ((HX.out.below HB5.out).more HB5.out.size)).mono ?_
   rintro e w6 ⟨rfl, hB6⟩
   rw [show eqB 16 R[i].y x = false from Hno2.out]
   have HB6 := hid (HB5.out.trans (hB6.mono HB5.out.size))
   have H46 := hid (H45.out.below hB6 H45.out.lt)
   have H86 := hid (H85.out.below hB6 H85.out.lt)
   go_wp2_with fail
   go_round
   case rel => exact ⟨i + 1, by omega, val_int (by omega), H46.out, H86.out, HB6.out⟩
   case measure => simp [intOf]; omega
  have hltI : ¬ (i : Int) < (R.length : Int) := by omega
  have hc0 : wr.cell? ⟨w.heap.size, 0, none⟩ = some (.slice Ar R.length cr) := h4.cell 0
  have H4 := hid h4
  have H8 := hid h8
  have HB := hid hB
  clear h4 h8 hB
  go_wp2_with fail
  clear hc0
  rename World => wo
  go_loopw [13] (fun _ wr => ∃ (e : Nat) (A' : Option Addr) (c' : Nat), d ≤ e ∧ e ≤ n ∧ Hid (drawTo F n (hit (!bk) R (strF Lk key)) e = (false, j)) ∧ Blk wr w.heap.size 37 (row 2 (bookC (.slice Ar R.length cr) (.slice A' (n - e) c'))) ∧ Hid (ReadsP w B0 A' (n - e) (fun i => F (e + i))) ∧ n - e ≤ c' ∧ Blk wr (w.heap.size + 1) 37 (row 2 (bookC (.slice none 0 0) (.slice none 0 0))) ∧ Below w.heap.size w wr) (fun _ wr => tlen wr w.heap.size)
  case atStart => exact ⟨d, At, ct, Nat.le_refl _, hd, HJ, H4.out, HT0, hct, H8.out, HB.out⟩
  case round =>
   clear H4 H8 HB
   obtain ⟨e, A', c', hde, hen, HD, h4, HTe, hce, h8, hB⟩ := hrel
   rename World => wp
   have hc1 : wp.cell? ⟨w.heap.size, 1, none⟩ = some (.slice A' (n - e) c') := h4.cell 1
   have Hlen : Hid (tlen wp w.heap.size = n - e) := hid (by unfold tlen; rw [hc1])
   by_cases h16 : 16 ≤ n - e
   ·have h16I : ((n - e : Nat) : Int) ≥ 16 := by omega
    have hcut := fun W => run_cut16 A' (n - e) c' (by omega) W
    have hfr := h4.free 1
    have h4' : Blk (wp.setCell ⟨w.heap.size, 1, none⟩ (.slice (cutA A' 16 c') (n - e - 16) (c' - 16))) w.heap.size 37 (row 2 (bookC (.slice Ar R.length cr) (.slice (cutA A' 16 c') (n - e - 16) (c' - 16)))) := by
     have := h4.setCell 1 (.slice (cutA A' 16 c') (n - e - 16) (c' - 16))
     rw [row2] at this ⊢
     exact this
    have h8' := h8.other ⟨w.heap.size, 1, none⟩ (.slice (cutA A' 16 c') (n - e - 16) (c' - 16)) (by simp)
    have hB' := hB.setCell (p := ⟨w.heap.size, 1, none⟩) (Nat.le_refl _) (.slice (cutA A' 16 c') (n - e - 16) (c' - 16))
    have H4 := hid h4'
    have H8 := hid h8'
    have HB := hid hB'
    clear h4 h8 hB h4' h8' hB'
    go_wp2_with fail
    clear hcut hc1 hfr
    generalize wp.setCell ⟨w.heap.size, 1, none⟩ (.slice (cutA A' 16 c') (n - e - 16) (c' - 16)) = wq at *
    have HY : Hid (Reads w w.heap.size A' 16 (fun i => F (e + i))) := hid ((HTe.out.less h16).more hB0)
    have Htk : Hid (hit (!bk) R (strF Lk key) (fun i => F (e + i)) = true) := hid (by
     cases hq : hit (!bk) R (strF Lk key) (fun i => F (e + i))
     ·have := HD.out
      rw [drawTo_new (by omega) hq] at this
      cases this
     rfl)
    go_loopw [14, 15] (fun vt vi wr => ∃ q : Nat, q ≤ R.length ∧ vi = .int .i64 (q : Int) ∧ vt = .bool ((R.take q).any (hitR (!bk) (strF Lk key) (fun i => F (e + i)))) ∧ Blk wr w.heap.size 37 (row 2 (bookC (.slice Ar R.length cr) (.slice (cutA A' 16 c') (n - e - 16) (c' - 16)))) ∧ Blk wr (w.heap.size + 1) 37 (row 2 (bookC (.slice none 0 0) (.slice none 0 0))) ∧ Below w.heap.size w wr) (fun _ vi _ => R.length - (intOf vi).toNat)
    case atStart => exact ⟨0, by omega, rfl, by simp, H4.out, H8.out, HB.out⟩
    case round =>
     clear H4 H8 HB
     obtain ⟨q, hq, rfl, rfl, h4, h8, hB⟩ := hrel
     rename World => wt
     by_cases hlq : q < R.length
     ·obtain ⟨tb, Htb⟩ : ∃ tb, Hid ((R.take q).any (hitR (!bk) (strF Lk key) (fun i => F (e + i))) = tb) := ⟨_, hid rfl⟩
      rw [Htb.out]
      obtain ⟨adr, hAr, had, cc, hcc, hrc⟩ := HR.out q hlq
      subst hAr
      have hc0 : wt.cell? ⟨w.heap.size, 0, none⟩ = some (.slice (some adr) R.length cr) := h4.cell 0
      have hcc' : Hid (∀ j, j < 3 → wt.cell? ((adr.add (q * 3)).add j) = some (cc j)) := hid (fun j hj => (hB.cell (by rw [add_block, add_block]; exact had)).trans (hcc j hj))
      have HB := hid hB
      have HC := hid hrc
      obtain ⟨Akr, cpr, fk, hk0, hkR, hkB, hkS⟩ := hrc.key
      obtain ⟨Air, cir, hi0, hic, hiR⟩ := hrc.inn
      obtain ⟨Aor, cor, ho0, hoc, hoR⟩ := hrc.out
      have hBA := HB.out.alloc HB.out.size (.cells (row 3 cc) 128)
      have q0 : Hid ((wt.alloc (.cells (row 3 cc) 128)).cell? ⟨wt.heap.size, 0, none⟩ = some (.slice Akr Lk cpr)) := hid (by rw [(Blk.fresh wt 128 (row 3 cc)).cell, row_get _ _ _ (by omega), hk0])
      have HA := hid (Blk.fresh wt 128 (row 3 cc))
      have HKr := hid ((hkR.below hBA).more hBA.size)
      have HKk := hid ((HK.out.below hBA).more hBA.size)
      have HBA := hid hBA
      have Hhit : Hid (∀ bb z, hitR bb (strF Lk key) z R[q] = (eqB Lk fk key && eqB 16 (fr bb R[q]) z)) := hid (fun bb z => by unfold hitR; rw [hkS, strF_eqB hkB hkb])
      have HiR := hid hiR
      have HoR := hid hoR
      have H4A := hid (h4.alloc (.cells (row 3 cc) 128))
      have H8A := hid (h8.alloc (.cells (row 3 cc) 128))
      clear hcc hrc h4 h8 hB hkR hBA hiR hoR
      go_wp2_with (first
       | (with_reducible refine wpl_sl rfl 35 _ _ rfl adr R.length cr rfl .i64 _ rfl q rfl 128 Tryz.underlying35 hlq 3 iRow ?_)
       | (with_reducible refine wpl_val rfl _ (exec_loadSt 128 _ rfl (adr.add (q * 3)) rfl 3 cc hcc'.out _ Tryz.underlying128 iRow) ?_)
       | (with_reducible refine wpl_alloc rfl 128 rfl _ zRow ?_)
       | (with_reducible refine wpl_store_newS rfl 128 _ _ rfl wt _ 3 cc (row_ones HC.out) rfl rfl 128 iRow (row_size _ _) ?_)
       | (with_reducible refine wpl_lds rfl 22 _ rfl ⟨wt.heap.size, 0, none⟩ rfl 5 Tryz.underlying22 _ q0.out ?_))
      generalize wt.alloc (.cells (row 3 cc) 128) = wA at *
      generalize wt.heap.size = gr at *
      refine (same_any Akr Ak Lk cpr ck fk key _ (by omega) HKr.out HKk.out).mono ?_
      rintro e w5 ⟨rfl, hB5⟩
      have HB5 := hid (HBA.out.trans (hB5.mono HBA.out.size))
      have H45 := hid (H4A.out.below hB5 H4A.out.lt)
      have H85 := hid (H8A.out.below hB5 H8A.out.lt)
      have HA5 := hid (HA.out.below hB5 HA.out.lt)
      clear hB5 H4A H8A HA HBA q0 HKr HKk HB
      cases hek : eqB Lk fk key
      ·have Hek := hid hek
       clear hek
       go_wp2_with fail
       go_round
       case rel =>
        refine ⟨q + 1, by omega, val_int (by omega), ?_, H45.out, H85.out, HB5.out⟩
        rw [any_step hlq, Htb.out, Hhit.out, Hek.out]; simp
       case measure => simp [intOf]; omega
      have Hek := hid hek
      clear hek
      have q1 : Hid (w5.cell? ⟨gr, 1, none⟩ = some (.slice Air 16 cir)) := hid (by rw [HA5.out.cell, row_get _ _ _ (by omega), hi0])
      have q2 : Hid (w5.cell? ⟨gr, 2, none⟩ = some (.slice Aor 16 cor)) := hid (by rw [HA5.out.cell, row_get _ _ _ (by omega), ho0])
      cases bk
      ·go_wp2_with (first
        | ((with_reducible refine wpg_val ?_ _ (exec_ldsl 22 _ rfl ⟨gr, 2, none⟩ rfl 5 Tryz.underlying22 _ q2.out) ?_); exact rfl))
       refine (same_any Aor A' 16 cor c' R[q].y (fun i => F (e + i)) _ (by omega) ((HoR.out.below HB5.out).more HB5.out.size) ((HY.out.below HB5.out).more HB5.out.size)).mono ?_
       rintro e' w6 ⟨rfl, hB6⟩
       have HB6 := hid (HB5.out.trans (hB6.mono HB5.out.size))
       have H46 := hid (H45.out.below hB6 H45.out.lt)
       have H86 := hid (H85.out.below hB6 H85.out.lt)
       cases hey : eqB 16 R[q].y (fun i => F (e + i))
       ·have Hey := hid hey
        clear hey
        go_wp2_with fail
        go_round
        case rel =>
         refine ⟨q + 1, by omega, val_int (by omega), ?_, H46.out, H86.out, HB6.out⟩
         rw [any_step hlq, Htb.out, Hhit.out, Hek.out]
         show Value.bool tb = Value.bool (tb || (true && eqB 16 R[q].y (fun i => F (e + i))))
         rw [Hey.out]; simp
        case measure => simp [intOf]; omega
       have Hey := hid hey
       clear hey
       go_wp2_with fail
       go_round
       case rel =>
        refine ⟨q + 1, by omega, val_int (by omega), ?_, H46.out, H86.out, HB6.out⟩
        rw [any_step hlq, Htb.out, Hhit.out, Hek.out]
        show Value.bool true = Value.bool (tb || (true && eqB 16 R[q].y (fun i => F (e + i))))
        rw [Hey.out]; simp
       case measure => simp [intOf]; omega
      go_wp2_with (first
       | ((with_reducible refine wpg_val ?_ _ (exec_ldsl 22 _ rfl ⟨gr, 1, none⟩ rfl 5 Tryz.underlying22 _ q1.out) ?_); exact rfl))
      refine (same_any Air A' 16 cir c' R[q].x (fun i => F (e + i)) _ (by omega) ((HiR.out.below HB5.out).more HB5.out.size) ((HY.out.below HB5.out).more HB5.out.size)).mono ?_
      rintro e' w6 ⟨rfl, hB6⟩
      have HB6 := hid (HB5.out.trans (hB6.mono HB5.out.size))
      have H46 := hid (H45.out.below hB6 H45.out.lt)
      have H86 := hid (H85.out.below hB6 H85.out.lt)
      cases hey : eqB 16 R[q].x (fun i => F (e + i))
      ·have Hey := hid hey
       clear hey
       go_wp2_with fail
       go_round
       case rel =>
        refine ⟨q + 1, by omega, val_int (by omega), ?_, H46.out, H86.out, HB6.out⟩
        rw [any_step hlq, Htb.out, Hhit.out, Hek.out]
        show Value.bool tb = Value.bool (tb || (true && eqB 16 R[q].x (fun i => F (e + i))))
        rw [Hey.out]; simp
       case measure => simp [intOf]; omega
      have Hey := hid hey
      clear hey
      go_wp2_with fail
      go_round
      case rel =>
       refine ⟨q + 1, by omega, val_int (by omega), ?_, H46.out, H86.out, HB6.out⟩
       rw [any_step hlq, Htb.out, Hhit.out, Hek.out]
       show Value.bool true = Value.bool (tb || (true && eqB 16 R[q].x (fun i => F (e + i))))
       rw [Hey.out]; simp
      case measure => simp [intOf]; omega
     have hlqI : ¬ (q : Int) < (R.length : Int) := by omega
     obtain rfl : q = R.length := by omega
     have hc0 : wt.cell? ⟨w.heap.size, 0, none⟩ = some (.slice Ar R.length cr) := h4.cell 0
     rw [List.take_length, show R.any (hitR (!bk) (strF Lk key) (fun i => F (e + i))) = true from Htk.out]
     have H4 := hid h4
     have H8 := hid h8
     have HB := hid hB
     clear h4 h8 hB
     go_wp2_with fail
     refine ⟨⟨e + 16, cutA A' 16 c', c' - 16, by omega, by omega, hid ?_, ?_, hid ?_, by omega, H8.out, HB.out⟩, ?_⟩
     ·rw [← drawTo_old (by omega) Htk.out]; exact HD.out
     ·rw [show n - (e + 16) = n - e - 16 by omega]; exact H4.out
     ·rw [show n - (e + 16) = n - e - 16 by omega]
      exact (HTe.out.cutA (k := 16) (z := n - e - 16) (cap := c') (by omega) hce).ext (fun i _ => by show F (e + (16 + i)) = F (e + 16 + i); congr 1; omega)
     rw [Hlen.out]
     have : tlen wt w.heap.size = n - e - 16 := by
      unfold tlen
      rw [show wt.cell? ⟨w.heap.size, 1, none⟩ = some (.slice (cutA A' 16 c') (n - e - 16) (c' - 16)) from H4.out.cell 1]
     rw [this]; omega
   have h16I : ¬ ((n - e : Nat) : Int) ≥ 16 := by omega
   have hje : j = e := by have := HD.out; rw [drawTo_end (by omega)] at this; cases this; rfl
   have Hje := hid hje
   clear hje
   have d4 : ∀ i, i < 2 → wp.cell? ((⟨w.heap.size, 0, none⟩ : Addr).add i) = some (bookC (.slice Ar R.length cr) (.slice A' (n - e) c') i) := fun i hi => by
    rw [add_zero_off]
    exact (h4.cell i).trans (row_get 2 _ i hi)
   go_wp2_with (first
    | (with_reducible refine wpl_val rfl _ (exec_loadSt 37 _ rfl ⟨w.heap.size, 0, none⟩ rfl 2 _ d4 _ Tryz.underlying37 iRB) ?_)
    | (with_reducible refine wpl_store rfl 37 _ _ rfl _ _ rfl rfl 37 _ h8 (iRB' _) (by simp [row_size]) (one2 _ _ _ _ _ _) ?_))
   have hBf := below_setRow' hB (Nat.le_succ w.heap.size) (row 2 (bookC (.slice Ar R.length cr) (.slice A' (n - e) c')))
   rw [Hje.out]
   exact ret_row3 Tryz.results54 rfl (w.heap.size + 1) rfl _ rfl _ rfl 37 2 _ (h8.setRow _) _ Tryz.underlying37 iRB ⟨hBf, Ar, cr, A', c', _, false, by rw [row2]; rfl, (fun W ha => ⟨ha.rows hB0 hBf HR0.out, ha.reads hB0 hBf HTe.out⟩), hce, HAr.out, .inr ⟨rfl, rfl⟩⟩
end Go.Proofs.YtlmnoapoofmmnaaGreatDoor.Bk
namespace Go.Proofs.YtlmnoapoofmmnaaGreatDoor.Bk
open Mem Go.ChangeShapes Go.WideShapes Go.ChangeAt Go.RowKit
theorem infoRow : (Tryz.prog.info? 128).map (fun i => (i.zero, i.size, i.bytes)) = some (some (.agg #[.slice none 0 0, .slice none 0 0, .slice none 0 0]), 3, 72) := by kernel_rfl
theorem RowsAtP.cells {w : World} {B : Nat → Prop} {Lk : Nat} {A : Option Addr} {R : List Rw} (h : RowsAtP w B A Lk R) : ∃ xs : List Value, xs.length = R.length * 3 ∧ (∀ u ∈ xs, u.oneCell' = true) ∧ (∀ j u, xs[j]? = some u → ∃ ad, A = some ad ∧ w.cell? (ad.add j) = some u) ∧ ∀ i, ∀ hi : i < R.length, RowCP w B Lk R[i] (fun j => xs.getD (i * 3 + j) undef) := by
 have h1 : ∀ i : Nat, ∃ c : Nat → Value, ∀ hi : i < R.length, (∀ j, j < 3 → ∃ ad, A = some ad ∧ w.cell? (ad.add (i * 3 + j)) = some (c j)) ∧ RowCP w B Lk R[i] c := fun i => by
  by_cases hi : i < R.length
  ·obtain ⟨ad, e, _, c, hc, hr⟩ := h i hi
   exact ⟨c, fun _ => ⟨fun j hj => ⟨ad, e, by rw [← add_add]; exact hc j hj⟩, hr⟩⟩
  exact ⟨fun _ => undef, fun hi' => absurd hi' hi⟩
 obtain ⟨C, hC⟩ := Classical.axiomOfChoice h1
 have hget : ∀ i j, i < R.length → j < 3 → ((List.range (R.length * 3)).map fun k => C (k / 3) (k % 3)).getD (i * 3 + j) undef = C i j := fun i j hi hj => by
  have hl : i * 3 + j < R.length * 3 := by omega
  simp [List.getD_eq_getElem?_getD, hl, show (i * 3 + j) / 3 = i by omega, show (i * 3 + j) % 3 = j by omega]
 have hrow : ∀ i, ∀ hi : i < R.length, RowCP w B Lk R[i] (fun j => ((List.range (R.length * 3)).map fun k => C (k / 3) (k % 3)).getD (i * 3 + j) undef) := fun i hi => by
  obtain ⟨⟨Ak, ck, f, k1, k2, k3, k4⟩, ⟨A1, c1, k5, k6, k7⟩, ⟨A2, c2, k8, k9, k10⟩⟩ := (hC i hi).2
  exact ⟨⟨Ak, ck, f, by rw [hget i 0 hi (by omega), k1], k2, k3, k4⟩, ⟨A1, c1, by rw [hget i 1 hi (by omega), k5], k6, k7⟩, ⟨A2, c2, by rw [hget i 2 hi (by omega), k8], k9, k10⟩⟩
 refine ⟨(List.range (R.length * 3)).map fun k => C (k / 3) (k % 3), by simp, ?_, ?_, hrow⟩
 ·intro u hu
  simp only [List.mem_map, List.mem_range] at hu
  obtain ⟨k, hk, rfl⟩ := hu
  obtain ⟨⟨Ak, ck, f, k1, _⟩, ⟨A1, c1, k5, _⟩, ⟨A2, c2, k8, _⟩⟩ := (hC (k / 3) (by omega)).2
  have h3 : k % 3 = 0 ∨ k % 3 = 1 ∨ k % 3 = 2 := by omega
  rcases h3 with h3 | h3 | h3
  ·rw [h3, k1]; rfl
  ·rw [h3, k5]; rfl
  rw [h3, k8]; rfl
 intro j u hu
 by_cases hj : j < R.length * 3
 ·simp [hj] at hu
  subst hu
  obtain ⟨ad, e, hc⟩ := (hC (j / 3) (by omega)).1 (j % 3) (by omega)
  exact ⟨ad, e, by rw [show j / 3 * 3 + j % 3 = j by omega] at hc; exact hc⟩
 rw [List.getElem?_eq_none (by simp; omega)] at hu; cases hu
def OwnL (w : World) (base : Nat) (v : Value) (n : Nat) (xs : List Value) : Prop := w.ownsRow base 128 3 v n xs
theorem OwnL.empty (w : World) (base : Nat) (hb : base ≤ w.heap.size) : OwnL (w.alloc (.cells #[] 128)) base (.slice (some ⟨w.heap.size, 0, none⟩) 0 0) 0 [] :=
 ⟨rfl, .inr ⟨w.heap.size, 0, #[], rfl, hb, heap_alloc_new w _, Nat.le_refl _, Nat.zero_le _, rfl, rfl⟩⟩
theorem OwnL.alloc {w : World} {base n : Nat} {v : Value} {xs : List Value} (h : OwnL w base v n xs) (o : Obj) : OwnL (w.alloc o) base v n xs := World.ownsRow.alloc h o
theorem OwnL.rows {w : World} {base n Lk B : Nat} {v : Value} {xs : List Value} {R : List Rw} (h : OwnL w base v n xs) (hn : n = R.length) (hr : ∀ i, ∀ hi : i < R.length, RowC w B Lk R[i] (fun j => xs.getD (i * 3 + j) undef)) (hB : w.heap.size ≤ B) : ∃ A c, v = .slice A R.length c ∧ RowsAt w B A Lk R := by
 obtain ⟨hl, ⟨rfl, h0⟩ | ⟨g, c, cur, rfl, hg, hblk, hnc, hcm, hsz, hcs⟩⟩ := h
 ·refine ⟨none, 0, by rw [← hn, h0], fun i hi => by omega⟩
 subst hn
 refine ⟨some ⟨g, 0, none⟩, c, rfl, fun i hi => ⟨⟨g, 0, none⟩, rfl, ?_, _, fun j hj => ?_, hr i hi⟩⟩
 ·have : Blk w g 128 cur := hblk
  have := this.lt
  show g < B
  omega
 have hb : Blk w g 128 cur := hblk
 rw [add_add, add_zero_off, hb.cell]
 have e1 := congrArg (fun l : List Value => l[i * 3 + j]?) hcs
 have hlt : i * 3 + j < R.length * 3 := by omega
 simp only [List.getElem?_take, hlt, if_true, Array.getElem?_toList] at e1
 rw [e1, List.getD_eq_getElem?_getD, List.getElem?_eq_getElem (by rw [hl]; exact hlt)]
 rfl
theorem wp_appL {o : Oper} {a : Act} {w : World} {K : Act → World → Prop} {Q : Exit → Act → World → Prop} (p q : Operand) (ho : o.op = .call { callee := .builtin .append, args := #[p, q], argTypes := #[35, 35] }) (base : Nat) (v : Value) (n : Nat) (xs : List Value) (hp : a.eval p = v) (hown : OwnL w base v n xs)
  (A : Option Addr) (m c : Nat) (news : List Value) (hq : a.eval q = .slice A m c) (hl : news.length = m * 3) (hA : A = none → m = 0 ∧ c = 0) (hnews : ∀ j u, news[j]? = some u → ∃ ad, A = some ad ∧ w.cell? (ad.add j) = some u) (h1 : ∀ u ∈ news, u.oneCell' = true) (hn : n + m ≤ 100000) (hbase : base ≤ w.heap.size)
  (h : ∀ v' w', OwnL w' base v' (n + m) (xs ++ news) → Below base w w' → w.grownBy w' v.ownBlock → K (a.put o.dst v') w') : o.wp Tryz.prog a w K Q := by
 obtain ⟨i, hi, hz0, hz1, hz2⟩ := info_parts infoRow
 rcases A with _ | ad
 ·obtain ⟨rfl, rfl⟩ := hA rfl
  have hrun := run_append_owned_none (P := Tryz.prog) (w := w) base 35 o.type 128 i 3 Tryz.underlying35 hi v n _ hown
  have hnil : news = [] := List.eq_nil_of_length_eq_zero (by omega)
  subst hnil
  unfold Oper.wp
  simp [execOp, ho, resolve, invoke, builtin, hp, hq, hrun, Result.andThen]
  exact h v w (by rw [List.append_nil]; exact hown) (Below.refl _ _) ⟨rfl, rfl, rfl, Nat.le_refl _, fun _ _ _ => rfl⟩
 refine wp_append_own w p q 35 ho base 128 i _ 3 72 Tryz.underlying35 hi hz0 hz1 hz2 rfl (by omega) v n _ hp hown ad m c news hq hl (fun j u hu => ?_) h1 ?_ ?_ hbase ?_
 ·obtain ⟨ad', e, hc⟩ := hnews j u hu
  cases e
  exact hc
 ·unfold maxLen; omega
 ·omega
 intro v' w' k1 k2 _
 refine h v' w' k1 ?_ k2
 refine (Below.refl base w).grown k2 hbase ?_
 intro k hk
 exact (World.ownsRow.lt hown k hk).1
end Go.Proofs.YtlmnoapoofmmnaaGreatDoor.Bk
namespace Go.Proofs.YtlmnoapoofmmnaaGreatDoor.Bk
open Mem Go.ChangeShapes Go.WideShapes Go.ChangeAt Go.RowKit
def rowC (a b c : Value) : Nat → Value := fun i => if i = 0 then a else if i = 1 then b else c
theorem rowC_eq (a b c : Value) : #[a, b, c] = row 3 (rowC a b c) := by
 apply row_of rfl
 intro i hi
 match i, hi with
 | 0, _ => rfl
 | 1, _ => rfl
 | 2, _ => rfl
theorem rowC_one (a b c : Value) (ha : a.oneCell' = true) (hb : b.oneCell' = true) (hc : c.oneCell' = true) : (row 3 (rowC a b c)).all (·.oneCell') = true := by
 rw [← rowC_eq]; simp [ha, hb, hc]
theorem bsR0 (w : World) : (Instr.buildSlice 35 0 #[]).run Tryz.prog w = .ok (.slice (some ⟨w.heap.size, 0, none⟩) 0 0) (w.alloc (.cells #[] 128)) := by kernel_rfl
theorem bsR1 (a b c : Value) (w : World) : (Instr.buildSlice 35 1 #[(0, .agg (row 3 (rowC a b c)))]).run Tryz.prog w = .ok (.slice (some ⟨w.heap.size, 0, none⟩) 1 1) (w.alloc (.cells (row 3 (rowC a b c)) 128)) := by
 rw [← rowC_eq]
 kernel_rfl
theorem bsB0 (w : World) : (Instr.buildSlice 22 0 #[]).run Tryz.prog w = .ok (.slice (some ⟨w.heap.size, 0, none⟩) 0 0) (w.alloc (.cells #[] 5)) := by kernel_rfl
section
variable {P : Program} {o : Oper} {a : Act} {w w' : World} {K : Act → World → Prop} {Q : Exit → Act → World → Prop}
theorem wp_valw (v : Value) (hr : (execOp a.eval o).run P w = .ok (.value v) w') (h : K (a.put o.dst v) w') : o.wp P a w K Q := by
 unfold Oper.wp
 rw [hr]
 exact h
theorem wp_skipw (hr : (execOp a.eval o).run P w = .ok .skip w') (h : K (a.put o.dst undef) w') : o.wp P a w K Q := by
 unfold Oper.wp
 rw [hr]
 exact h
theorem exec_bs0 (t : TypeId) (ho : o.op = .buildSlice t 0 #[]) (v : Value) (hr : (Instr.buildSlice t 0 #[]).run P w = .ok v w') : (execOp a.eval o).run P w = .ok (.value v) w' := by
 unfold execOp
 simp [ho, hr]
theorem exec_bs1 (t : TypeId) (x : Operand) (ho : o.op = .buildSlice t 1 #[(0, x)]) (u v : Value) (hx : a.eval x = u) (hr : (Instr.buildSlice t 1 #[(0, u)]).run P w = .ok v w') : (execOp a.eval o).run P w = .ok (.value v) w' := by
 unfold execOp
 simp [ho, hx, hr]
theorem exec_stV (ty : TypeId) (x y : Operand) (ho : o.op = .store ty x y) (p : Addr) (hx : a.eval x = .pointer (some p)) (v : Value) (hy : a.eval y = v) (h1 : v.oneCell' = true) (h2 : v.cells = #[v])
  (hs : (P.info? ty).map (·.size) = some 1) (old : Value) (hc : w.cell? p = some old) (hf : w.frozen? p = false) : (execOp a.eval o).run P w = .ok .skip (w.setCell p v) := by
 have hr : (Instr.storeAt ty (.pointer (some p)) v).run P w = .ok () (w.setCell p v) := by
  have h3 : (store p v).run P w = .ok () (w.setCell p v) := by rw [run_store P w p _ _ h1]; simp [hc, hf]
  have h0 : p.add 0 = p := by simp [Addr.add]
  simp [Instr.storeAt, Instr.sureAddr, storeVar, h2, Sem.run_bind, run_size hs, storeCells, h0, h3]
 unfold execOp
 simp only [ho, hx, hy, Sem.run_bind, hr, Sem.run_pure, Result.andThen_ok]
end
theorem iSRow : (Tryz.prog.info? 35).map (·.size) = some 1 := by kernel_rfl
structure Past24 (w wz : World) (T : Value) (m : Nat) (ys : List Value) (W : World) (v : Value) : Prop where
 bel : Below w.heap.size wz W
 book : Blk W w.heap.size 37 (row 2 (bookC v T))
 out : Blk W (w.heap.size + 1) 37 (row 2 (bookC (.slice none 0 0) (.slice none 0 0)))
 own : OwnL W wz.heap.size v m ys
 kept : ∀ g, g < wz.heap.size → g ≠ w.heap.size → W.heap[g]? = wz.heap[g]?
 size : wz.heap.size ≤ W.heap.size
theorem past24 {w wz W : World} {T v0 v : Value} {m : Nat} {ys : List Value} (hz : w.heap.size + 1 < wz.heap.size) (h4 : Blk wz w.heap.size 37 (row 2 (bookC v0 T))) (h8 : Blk wz (w.heap.size + 1) 37 (row 2 (bookC (.slice none 0 0) (.slice none 0 0)))) (hB : Below wz.heap.size wz W) (ho : OwnL W wz.heap.size v m ys) :
  Past24 w wz T m ys (W.setCell ⟨w.heap.size, 0, none⟩ v) v := by
 have k4 := (h4.below hB (by omega)).setCell 0 v
 refine ⟨(hB.mono (show w.heap.size ≤ wz.heap.size by omega)).setCell (p := ⟨w.heap.size, 0, none⟩) (Nat.le_refl _) v, ?_, (h8.below hB hz).other _ _ (by simp), ownsRow_setCell_below ho (by show w.heap.size < _; omega) v, fun g hg hne => ?_, by simpa using hB.size⟩
 ·rw [row2] at k4 ⊢
  exact k4
 rw [heap_setCell_other W ⟨w.heap.size, 0, none⟩ g v (by simpa using hne)]
 exact hB.block g hg
theorem RowC.ext {w : World} {B Lk : Nat} {r : Rw} {c d : Nat → Value} (h : RowC w B Lk r c) (hcd : ∀ j, j < 3 → c j = d j) : RowC w B Lk r d := by
 obtain ⟨⟨A, cp, f, h1, h2, h3, h4⟩, ⟨A1, c1, h5, h6, h7⟩, ⟨A2, c2, h8, h9, h10⟩⟩ := h
 exact ⟨⟨A, cp, f, by rw [← hcd 0 (by omega), h1], h2, h3, h4⟩, ⟨A1, c1, by rw [← hcd 1 (by omega), h5], h6, h7⟩, ⟨A2, c2, by rw [← hcd 2 (by omega), h8], h9, h10⟩⟩
theorem rows_new {w : World} {B Lk : Nat} {R : List Rw} {r : Rw} {xs : List Value} {a b c : Value} (hxl : xs.length = R.length * 3) (h1 : ∀ i, ∀ hi : i < R.length, RowC w B Lk R[i] (fun j => xs.getD (i * 3 + j) undef)) (h2 : RowC w B Lk r (rowC a b c)) :
  ∀ i, ∀ hi : i < (R ++ [r]).length, RowC w B Lk (R ++ [r])[i] (fun j => (xs ++ [a, b, c]).getD (i * 3 + j) undef) := fun i hi => by
 rw [List.length_append, List.length_singleton] at hi
 by_cases h : i < R.length
 ·rw [List.getElem_append_left h]
  refine (h1 i h).ext fun j hj => ?_
  rw [List.getD_eq_getElem?_getD, List.getD_eq_getElem?_getD, List.getElem?_append_left (by omega)]
 have hi2 : i = R.length := by omega
 subst hi2
 rw [List.getElem_append_right (Nat.le_refl _)]
 simp only [Nat.sub_self, List.getElem_cons_zero]
 refine h2.ext fun j hj => ?_
 rw [List.getD_eq_getElem?_getD, List.getElem?_append_right (by omega), hxl, Nat.add_sub_cancel_left]
 match j, hj with
 | 0, _ => rfl
 | 1, _ => rfl
 | 2, _ => rfl
theorem ne_own {g g0 n c : Nat} (h : g ≠ g0) : some g ≠ (Value.slice (some ⟨g0, 0, none⟩) n c).ownBlock := fun e => h (by simpa [Value.ownBlock] using e)
def KeptB (w wz W : World) : Prop := (∀ g, g < wz.heap.size → g ≠ w.heap.size → W.heap[g]? = wz.heap[g]?) ∧ wz.heap.size ≤ W.heap.size
theorem keptB {w wz W : World} (h : Below wz.heap.size wz W) : KeptB w wz W := ⟨fun g hg _ => h.block g hg, h.size⟩
theorem OwnL.kept {W W' : World} {base n : Nat} {v : Value} {xs : List Value} (h : OwnL W base v n xs) (hk : ∀ g, base ≤ g → g < W.heap.size → W'.heap[g]? = W.heap[g]?) : OwnL W' base v n xs := by
 obtain ⟨h1, h2 | ⟨g, c, cur, hv, hg, hblk, rest⟩⟩ := h
 ·exact ⟨h1, .inl h2⟩
 have hb : Blk W g 128 cur := hblk
 exact ⟨h1, .inr ⟨g, c, cur, hv, hg, (hk g hg hb.lt).trans hblk, rest⟩⟩
theorem suffN {F : World → Value → Prop} {G : World → Value → Value → Value → Value → Prop} {R : Prop} (h1 : (∀ W a b c v, F W v → G W a b c v) → R) (h2 : ∀ W a b c v, F W v → G W a b c v) : R := h1 h2
theorem own_lo {w : World} {base e n c : Nat} {A : Option Addr} {f : Nat → Nat} (h : Mem.Own w base e 1 (.slice A n c) n f) : ∀ p, A = some p → base ≤ p.block := by
 intro p hp
 rcases h.form with ⟨hv, _⟩ | ⟨g, c', cur, hv, hb, _⟩
 ·injection hv with h1; rw [h1] at hp; cases hp
 injection hv with h1; rw [h1] at hp; cases hp; exact hb
theorem reads_kept {wz W : World} {A : Option Addr} {n : Nat} {f : Nat → Nat} {g0 : Nat} (h : Reads wz wz.heap.size A n f) (hA : ∀ p, A = some p → g0 < p.block) (hk : ∀ g, g < wz.heap.size → g0 < g → W.heap[g]? = wz.heap[g]?) (hs : wz.heap.size ≤ W.heap.size) : Reads W W.heap.size A n f := fun hn => by
 obtain ⟨ad, e, hb, hc⟩ := h hn
 refine ⟨ad, e, by omega, fun i hi => ?_⟩
 rw [← hc i hi]
 have hlo := hA ad e
 exact World.cell?_of_block (by rw [add_block]; exact hk _ hb hlo)
set_option linter.unusedSimpArgs false in
set_option maxRecDepth 100000 in
set_option maxHeartbeats 8000000 in
theorem rask_new (F : Nat → Nat) (n d Lk : Nat) (R : List Rw) (Ar : Option Addr) (cr : Nat) (At : Option Addr) (ct : Nat) (Ak : Option Addr) (ck : Nat) (key : Nat → Nat) (Ax : Option Addr) (cx : Nat) (x : Nat → Nat) (bk : Bool) (w : World)
  (B0 : Nat → Prop) (hB0 : ∀ g, B0 g → g < w.heap.size) (hR : RowsAtP w B0 Ar Lk R) (hT : ReadsP w B0 At (n - d) (fun i => F (d + i))) (hct : n - d ≤ ct) (_hn : n ≤ 100000) (hd : d ≤ n) (hLk : Lk ≤ 1000) (hlen : R.length ≤ 1000) (hkey : Reads w w.heap.size Ak Lk key) (hkb : ∀ i, i < Lk → key i < 256) (hx : Reads w w.heap.size Ax 16 x)
  (hf : R.find? (hitR bk (strF Lk key) x) = none) (j : Nat) (hj : drawTo F n (hit (!bk) R (strF Lk key)) d = (true, j)) (hAr : Ar = none → R.length = 0 ∧ cr = 0) (hAk : Ak = none → Lk = 0 ∧ ck = 0) :
  Calls Tryz.prog 54 #[.agg (row 2 (bookC (.slice Ar R.length cr) (.slice At (n - d) ct))), .slice Ak Lk ck, .slice Ax 16 cx, .bool bk] w (RAskOut F n Lk B0 (some fun i => F (j + i)) (R ++ [mk bk (strF Lk key) x fun i => F (j + i)]) (j + 16) w) := by
 have W1 : Hid (Below w.heap.size w ((w.alloc (.cells (row 2 (bookC (.slice Ar R.length cr) (.slice At (n - d) ct))) 37)).alloc (.cells (row 2 (bookC (.slice none 0 0) (.slice none 0 0))) 37))) := hid (((Below.refl _ _).alloc (Nat.le_refl _) _).alloc (by simp) _)
 have HR0 := hid hR
 have HT0 := hid hT
 have HR := hid (hR.more hB0)
 have HT := hid (hT.more hB0)
 have HK := hid hkey
 have HX := hid hx
 have HN : Hid (∀ i, ∀ hi : i < R.length, hitR bk (strF Lk key) x R[i] = false) := hid (fun i hi => by rw [List.find?_eq_none] at hf; simpa using hf _ (List.getElem_mem hi))
 have HJ := hid hj
 have HAr := hid hAr
 have HAk := hid hAk
 have Hkb := hid hkb
 have hg4 : Blk ((w.alloc (.cells (row 2 (bookC (.slice Ar R.length cr) (.slice At (n - d) ct))) 37)).alloc (.cells (row 2 (bookC (.slice none 0 0) (.slice none 0 0))) 37)) w.heap.size 37 (row 2 (bookC (.slice Ar R.length cr) (.slice At (n - d) ct))) := (Blk.fresh _ _ _).alloc _
 have hg8 : Blk ((w.alloc (.cells (row 2 (bookC (.slice Ar R.length cr) (.slice At (n - d) ct))) 37)).alloc (.cells (row 2 (bookC (.slice none 0 0) (.slice none 0 0))) 37)) (w.heap.size + 1) 37 (row 2 (bookC (.slice none 0 0) (.slice none 0 0))) := by
  have := Blk.fresh (w.alloc (.cells (row 2 (bookC (.slice Ar R.length cr) (.slice At (n - d) ct))) 37)) 37 (row 2 (bookC (.slice none 0 0) (.slice none 0 0)))
  simpa using this
 clear hR hT hkey hx hf hj hAr hAk
 go_enter Tryz.func54, Tryz.ntmps54
 go_wp2_with (first
  | (with_reducible refine wpl_alloc rfl 37 rfl _ zRB2 ?_))
 generalize ((w.alloc (.cells (row 2 (bookC (.slice Ar R.length cr) (.slice At (n - d) ct))) 37)).alloc (.cells (row 2 (bookC (.slice none 0 0) (.slice none 0 0))) 37)) = w1 at *
 go_loopw [11] (fun vi wr => ∃ i : Nat, i ≤ R.length ∧ vi = .int .i64 (i : Int) ∧ Blk wr w.heap.size 37 (row 2 (bookC (.slice Ar R.length cr) (.slice At (n - d) ct))) ∧ Blk wr (w.heap.size + 1) 37 (row 2 (bookC (.slice none 0 0) (.slice none 0 0))) ∧ Below w.heap.size w wr) (fun vi _ => R.length - (intOf vi).toNat)
 case atStart => exact ⟨0, by omega, rfl, hg4, hg8, W1.out⟩
 case round =>
  clear hg4 hg8 W1
  obtain ⟨i, hi, rfl, h4, h8, hB⟩ := hrel
  by_cases hlt : i < R.length
  ·obtain ⟨adr, hAr, had, cc, hcc, hrc⟩ := HR.out i hlt
   subst hAr
   have hc0 : wr.cell? ⟨w.heap.size, 0, none⟩ = some (.slice (some adr) R.length cr) := h4.cell 0
   have hcc' : Hid (∀ j, j < 3 → wr.cell? ((adr.add (i * 3)).add j) = some (cc j)) := hid (fun j hj => (hB.cell (by rw [add_block, add_block]; exact had)).trans (hcc j hj))
   have HB := hid hB
   have HC := hid hrc
   obtain ⟨Akr, cpr, fk, hk0, hkR, hkB, hkS⟩ := hrc.key
   obtain ⟨Air, cir, hi0, hic, hiR⟩ := hrc.inn
   obtain ⟨Aor, cor, ho0, hoc, hoR⟩ := hrc.out
   have hBA := HB.out.alloc HB.out.size (.cells (row 3 cc) 128)
   have q0 : Hid ((wr.alloc (.cells (row 3 cc) 128)).cell? ⟨wr.heap.size, 0, none⟩ = some (.slice Akr Lk cpr)) := hid (by rw [(Blk.fresh wr 128 (row 3 cc)).cell, row_get _ _ _ (by omega), hk0])
   have HA := hid (Blk.fresh wr 128 (row 3 cc))
   have HKr := hid ((hkR.below hBA).more hBA.size)
   have HKk := hid ((HK.out.below hBA).more hBA.size)
   have HBA := hid hBA
   have Hhit : Hid (∀ bb z, hitR bb (strF Lk key) z R[i] = (eqB Lk fk key && eqB 16 (fr bb R[i]) z)) := hid (fun bb z => by unfold hitR; rw [hkS, strF_eqB hkB hkb])
   have HiR := hid hiR
   have HoR := hid hoR
   have H4A := hid (h4.alloc (.cells (row 3 cc) 128))
   have H8A := hid (h8.alloc (.cells (row 3 cc) 128))
   clear hcc hrc h4 h8 hB hkR hBA hiR hoR
   go_wp2_with (first
    | (with_reducible refine wpl_sl rfl 35 _ _ rfl adr R.length cr rfl .i64 _ rfl i rfl 128 Tryz.underlying35 hlt 3 iRow ?_)
    | (with_reducible refine wpl_val rfl _ (exec_loadSt 128 _ rfl (adr.add (i * 3)) rfl 3 cc hcc'.out _ Tryz.underlying128 iRow) ?_)
    | (with_reducible refine wpl_alloc rfl 128 rfl _ zRow ?_)
    | (with_reducible refine wpl_store_newS rfl 128 _ _ rfl wr _ 3 cc (row_ones HC.out) rfl rfl 128 iRow (row_size _ _) ?_)
    | (with_reducible refine wpl_lds rfl 22 _ rfl ⟨wr.heap.size, 0, none⟩ rfl 5 Tryz.underlying22 _ q0.out ?_))
   generalize wr.alloc (.cells (row 3 cc) 128) = wA at *
   generalize wr.heap.size = gr at *
   refine (same_any Akr Ak Lk cpr ck fk key _ (by omega) HKr.out HKk.out).mono ?_
   rintro e w5 ⟨rfl, hB5⟩
   have HB5 := hid (HBA.out.trans (hB5.mono HBA.out.size))
   have H45 := hid (H4A.out.below hB5 H4A.out.lt)
   have H85 := hid (H8A.out.below hB5 H8A.out.lt)
   have HA5 := hid (HA.out.below hB5 HA.out.lt)
   clear hB5 H4A H8A HA HBA q0 HKr HKk HB
   have hno := HN.out i hlt
   rw [Hhit.out] at hno
   have Hno := hid hno
   clear hno
   cases hek : eqB Lk fk key
   ·go_wp2_with fail
    go_round
    case rel => exact ⟨i + 1, by omega, val_int (by omega), H45.out, H85.out, HB5.out⟩
    case measure => simp [intOf]; omega
   have Hno2 : Hid (eqB 16 (fr bk R[i]) x = false) := hid (by have := Hno.out; rw [hek] at this; simpa using this)
   clear hek Hno
   have q1 : Hid (w5.cell? ⟨gr, 1, none⟩ = some (.slice Air 16 cir)) := hid (by rw [HA5.out.cell, row_get _ _ _ (by omega), hi0])
   have q2 : Hid (w5.cell? ⟨gr, 2, none⟩ = some (.slice Aor 16 cor)) := hid (by rw [HA5.out.cell, row_get _ _ _ (by omega), ho0])
   cases bk
   ·go_wp2_with (first
     | ((with_reducible refine wpg_val ?_ _ (exec_ldsl 22 _ rfl ⟨gr, 1, none⟩ rfl 5 Tryz.underlying22 _ q1.out) ?_); exact rfl))
    refine (same_any Air Ax 16 cir cx R[i].x x _ (by omega) ((HiR.out.below HB5.out).more HB5.out.size) ((HX.out.below HB5.out).more HB5.out.size)).mono ?_
    rintro e w6 ⟨rfl, hB6⟩
    rw [show eqB 16 R[i].x x = false from Hno2.out]
    have HB6 := hid (HB5.out.trans (hB6.mono HB5.out.size))
    have H46 := hid (H45.out.below hB6 H45.out.lt)
    have H86 := hid (H85.out.below hB6 H85.out.lt)
    go_wp2_with fail
    go_round
    case rel => exact ⟨i + 1, by omega, val_int (by omega), H46.out, H86.out, HB6.out⟩
    case measure => simp [intOf]; omega
   go_wp2_with (first
    | ((with_reducible refine wpg_val ?_ _ (exec_ldsl 22 _ rfl ⟨gr, 2, none⟩ rfl 5 Tryz.underlying22 _ q2.out) ?_); exact rfl))
   refine (same_any Aor Ax 16 cor cx R[i].y x _ (by omega) ((HoR.out.below HB5.out).more HB5.out.size) ((HX.out.below HB5.out).more HB5.out.size)).mono ?_
   rintro e w6 ⟨rfl, hB6⟩
   rw [show eqB 16 R[i].y x = false from Hno2.out]
   have HB6 := hid (HB5.out.trans (hB6.mono HB5.out.size))
   have H46 := hid (H45.out.below hB6 H45.out.lt)
   have H86 := hid (H85.out.below hB6 H85.out.lt)
   go_wp2_with fail
   go_round
   case rel => exact ⟨i + 1, by omega, val_int (by omega), H46.out, H86.out, HB6.out⟩
   case measure => simp [intOf]; omega
  have hltI : ¬ (i : Int) < (R.length : Int) := by omega
  have hc0 : wr.cell? ⟨w.heap.size, 0, none⟩ = some (.slice Ar R.length cr) := h4.cell 0
  have H4 := hid h4
  have H8 := hid h8
  have HB := hid hB
  clear h4 h8 hB
  go_wp2_with fail
  clear hc0
  rename World => wo
  go_loopw [13] (fun _ wr => ∃ (e : Nat) (A' : Option Addr) (c' : Nat), d ≤ e ∧ e ≤ n ∧ Hid (drawTo F n (hit (!bk) R (strF Lk key)) e = (true, j)) ∧ Blk wr w.heap.size 37 (row 2 (bookC (.slice Ar R.length cr) (.slice A' (n - e) c'))) ∧ Hid (ReadsP w B0 A' (n - e) (fun i => F (e + i))) ∧ n - e ≤ c' ∧ Blk wr (w.heap.size + 1) 37 (row 2 (bookC (.slice none 0 0) (.slice none 0 0))) ∧ Below w.heap.size w wr) (fun _ wr => tlen wr w.heap.size)
  case atStart => exact ⟨d, At, ct, Nat.le_refl _, hd, HJ, H4.out, HT0, hct, H8.out, HB.out⟩
  case round =>
   clear H4 H8 HB
   obtain ⟨e, A', c', hde, hen, HD, h4, HTe, hce, h8, hB⟩ := hrel
   rename World => wp
   have hc1 : wp.cell? ⟨w.heap.size, 1, none⟩ = some (.slice A' (n - e) c') := h4.cell 1
   have Hlen : Hid (tlen wp w.heap.size = n - e) := hid (by unfold tlen; rw [hc1])
   by_cases h16 : 16 ≤ n - e
   ·have h16I : ((n - e : Nat) : Int) ≥ 16 := by omega
    have hcut := fun W => run_cut16 A' (n - e) c' (by omega) W
    have hfr := h4.free 1
    have h4' : Blk (wp.setCell ⟨w.heap.size, 1, none⟩ (.slice (cutA A' 16 c') (n - e - 16) (c' - 16))) w.heap.size 37 (row 2 (bookC (.slice Ar R.length cr) (.slice (cutA A' 16 c') (n - e - 16) (c' - 16)))) := by
     have := h4.setCell 1 (.slice (cutA A' 16 c') (n - e - 16) (c' - 16))
     rw [row2] at this ⊢
     exact this
    have h8' := h8.other ⟨w.heap.size, 1, none⟩ (.slice (cutA A' 16 c') (n - e - 16) (c' - 16)) (by simp)
    have hB' := hB.setCell (p := ⟨w.heap.size, 1, none⟩) (Nat.le_refl _) (.slice (cutA A' 16 c') (n - e - 16) (c' - 16))
    have H4 := hid h4'
    have H8 := hid h8'
    have HB := hid hB'
    clear h4 h8 hB h4' h8' hB'
    go_wp2_with fail
    clear hcut hc1 hfr
    generalize wp.setCell ⟨w.heap.size, 1, none⟩ (.slice (cutA A' 16 c') (n - e - 16) (c' - 16)) = wq at *
    have HY : Hid (Reads w w.heap.size A' 16 (fun i => F (e + i))) := hid ((HTe.out.less h16).more hB0)
    go_loopw [14, 15] (fun vt vi wr => ∃ q : Nat, q ≤ R.length ∧ vi = .int .i64 (q : Int) ∧ vt = .bool ((R.take q).any (hitR (!bk) (strF Lk key) (fun i => F (e + i)))) ∧ Blk wr w.heap.size 37 (row 2 (bookC (.slice Ar R.length cr) (.slice (cutA A' 16 c') (n - e - 16) (c' - 16)))) ∧ Blk wr (w.heap.size + 1) 37 (row 2 (bookC (.slice none 0 0) (.slice none 0 0))) ∧ Below w.heap.size w wr) (fun _ vi _ => R.length - (intOf vi).toNat)
    case atStart => exact ⟨0, by omega, rfl, by simp, H4.out, H8.out, HB.out⟩
    case round =>
     clear H4 H8 HB
     obtain ⟨q, hq, rfl, rfl, h4, h8, hB⟩ := hrel
     rename World => wt
     by_cases hlq : q < R.length
     ·obtain ⟨tb, Htb⟩ : ∃ tb, Hid ((R.take q).any (hitR (!bk) (strF Lk key) (fun i => F (e + i))) = tb) := ⟨_, hid rfl⟩
      rw [Htb.out]
      obtain ⟨adr, hAr, had, cc, hcc, hrc⟩ := HR.out q hlq
      subst hAr
      have hc0 : wt.cell? ⟨w.heap.size, 0, none⟩ = some (.slice (some adr) R.length cr) := h4.cell 0
      have hcc' : Hid (∀ j, j < 3 → wt.cell? ((adr.add (q * 3)).add j) = some (cc j)) := hid (fun j hj => (hB.cell (by rw [add_block, add_block]; exact had)).trans (hcc j hj))
      have HB := hid hB
      have HC := hid hrc
      obtain ⟨Akr, cpr, fk, hk0, hkR, hkB, hkS⟩ := hrc.key
      obtain ⟨Air, cir, hi0, hic, hiR⟩ := hrc.inn
      obtain ⟨Aor, cor, ho0, hoc, hoR⟩ := hrc.out
      have hBA := HB.out.alloc HB.out.size (.cells (row 3 cc) 128)
      have q0 : Hid ((wt.alloc (.cells (row 3 cc) 128)).cell? ⟨wt.heap.size, 0, none⟩ = some (.slice Akr Lk cpr)) := hid (by rw [(Blk.fresh wt 128 (row 3 cc)).cell, row_get _ _ _ (by omega), hk0])
      have HA := hid (Blk.fresh wt 128 (row 3 cc))
      have HKr := hid ((hkR.below hBA).more hBA.size)
      have HKk := hid ((HK.out.below hBA).more hBA.size)
      have HBA := hid hBA
      have Hhit : Hid (∀ bb z, hitR bb (strF Lk key) z R[q] = (eqB Lk fk key && eqB 16 (fr bb R[q]) z)) := hid (fun bb z => by unfold hitR; rw [hkS, strF_eqB hkB hkb])
      have HiR := hid hiR
      have HoR := hid hoR
      have H4A := hid (h4.alloc (.cells (row 3 cc) 128))
      have H8A := hid (h8.alloc (.cells (row 3 cc) 128))
      clear hcc hrc h4 h8 hB hkR hBA hiR hoR
      go_wp2_with (first
       | (with_reducible refine wpl_sl rfl 35 _ _ rfl adr R.length cr rfl .i64 _ rfl q rfl 128 Tryz.underlying35 hlq 3 iRow ?_)
       | (with_reducible refine wpl_val rfl _ (exec_loadSt 128 _ rfl (adr.add (q * 3)) rfl 3 cc hcc'.out _ Tryz.underlying128 iRow) ?_)
       | (with_reducible refine wpl_alloc rfl 128 rfl _ zRow ?_)
       | (with_reducible refine wpl_store_newS rfl 128 _ _ rfl wt _ 3 cc (row_ones HC.out) rfl rfl 128 iRow (row_size _ _) ?_)
       | (with_reducible refine wpl_lds rfl 22 _ rfl ⟨wt.heap.size, 0, none⟩ rfl 5 Tryz.underlying22 _ q0.out ?_))
      generalize wt.alloc (.cells (row 3 cc) 128) = wA at *
      generalize wt.heap.size = gr at *
      refine (same_any Akr Ak Lk cpr ck fk key _ (by omega) HKr.out HKk.out).mono ?_
      rintro e w5 ⟨rfl, hB5⟩
      have HB5 := hid (HBA.out.trans (hB5.mono HBA.out.size))
      have H45 := hid (H4A.out.below hB5 H4A.out.lt)
      have H85 := hid (H8A.out.below hB5 H8A.out.lt)
      have HA5 := hid (HA.out.below hB5 HA.out.lt)
      clear hB5 H4A H8A HA HBA q0 HKr HKk HB
      cases hek : eqB Lk fk key
      ·have Hek := hid hek
       clear hek
       go_wp2_with fail
       go_round
       case rel =>
        refine ⟨q + 1, by omega, val_int (by omega), ?_, H45.out, H85.out, HB5.out⟩
        rw [any_step hlq, Htb.out, Hhit.out, Hek.out]; simp
       case measure => simp [intOf]; omega
      have Hek := hid hek
      clear hek
      have q1 : Hid (w5.cell? ⟨gr, 1, none⟩ = some (.slice Air 16 cir)) := hid (by rw [HA5.out.cell, row_get _ _ _ (by omega), hi0])
      have q2 : Hid (w5.cell? ⟨gr, 2, none⟩ = some (.slice Aor 16 cor)) := hid (by rw [HA5.out.cell, row_get _ _ _ (by omega), ho0])
      cases bk
      ·go_wp2_with (first
        | ((with_reducible refine wpg_val ?_ _ (exec_ldsl 22 _ rfl ⟨gr, 2, none⟩ rfl 5 Tryz.underlying22 _ q2.out) ?_); exact rfl))
       refine (same_any Aor A' 16 cor c' R[q].y (fun i => F (e + i)) _ (by omega) ((HoR.out.below HB5.out).more HB5.out.size) ((HY.out.below HB5.out).more HB5.out.size)).mono ?_
       rintro e' w6 ⟨rfl, hB6⟩
       have HB6 := hid (HB5.out.trans (hB6.mono HB5.out.size))
       have H46 := hid (H45.out.below hB6 H45.out.lt)
       have H86 := hid (H85.out.below hB6 H85.out.lt)
       cases hey : eqB 16 R[q].y (fun i => F (e + i))
       ·have Hey := hid hey
        clear hey
        go_wp2_with fail
        go_round
        case rel =>
         refine ⟨q + 1, by omega, val_int (by omega), ?_, H46.out, H86.out, HB6.out⟩
         rw [any_step hlq, Htb.out, Hhit.out, Hek.out]
         show Value.bool tb = Value.bool (tb || (true && eqB 16 R[q].y (fun i => F (e + i))))
         rw [Hey.out]; simp
        case measure => simp [intOf]; omega
       have Hey := hid hey
       clear hey
       go_wp2_with fail
       go_round
       case rel =>
        refine ⟨q + 1, by omega, val_int (by omega), ?_, H46.out, H86.out, HB6.out⟩
        rw [any_step hlq, Htb.out, Hhit.out, Hek.out]
        show Value.bool true = Value.bool (tb || (true && eqB 16 R[q].y (fun i => F (e + i))))
        rw [Hey.out]; simp
       case measure => simp [intOf]; omega
      go_wp2_with (first
       | ((with_reducible refine wpg_val ?_ _ (exec_ldsl 22 _ rfl ⟨gr, 1, none⟩ rfl 5 Tryz.underlying22 _ q1.out) ?_); exact rfl))
      refine (same_any Air A' 16 cir c' R[q].x (fun i => F (e + i)) _ (by omega) ((HiR.out.below HB5.out).more HB5.out.size) ((HY.out.below HB5.out).more HB5.out.size)).mono ?_
      rintro e' w6 ⟨rfl, hB6⟩
      have HB6 := hid (HB5.out.trans (hB6.mono HB5.out.size))
      have H46 := hid (H45.out.below hB6 H45.out.lt)
      have H86 := hid (H85.out.below hB6 H85.out.lt)
      cases hey : eqB 16 R[q].x (fun i => F (e + i))
      ·have Hey := hid hey
       clear hey
       go_wp2_with fail
       go_round
       case rel =>
        refine ⟨q + 1, by omega, val_int (by omega), ?_, H46.out, H86.out, HB6.out⟩
        rw [any_step hlq, Htb.out, Hhit.out, Hek.out]
        show Value.bool tb = Value.bool (tb || (true && eqB 16 R[q].x (fun i => F (e + i))))
        rw [Hey.out]; simp
       case measure => simp [intOf]; omega
      have Hey := hid hey
      clear hey
      go_wp2_with fail
      go_round
      case rel =>
       refine ⟨q + 1, by omega, val_int (by omega), ?_, H46.out, H86.out, HB6.out⟩
       rw [any_step hlq, Htb.out, Hhit.out, Hek.out]
       show Value.bool true = Value.bool (tb || (true && eqB 16 R[q].x (fun i => F (e + i))))
       rw [Hey.out]; simp
      case measure => simp [intOf]; omega
     have hlqI : ¬ (q : Int) < (R.length : Int) := by omega
     obtain rfl : q = R.length := by omega
     have hc0 : wt.cell? ⟨w.heap.size, 0, none⟩ = some (.slice Ar R.length cr) := h4.cell 0
     rw [List.take_length]
     have H4 := hid h4
     have H8 := hid h8
     have HB := hid hB
     clear h4 h8 hB
     cases htk : R.any (hitR (!bk) (strF Lk key) (fun i => F (e + i)))
     ·have Hej : Hid (j = e) := hid (by have h := HD.out; rw [drawTo_new (by omega) htk] at h; cases h; rfl)
      clear htk
      have hje := Hej.out
      clear Hej
      subst hje
      have HN0 := HB
      obtain ⟨wn0, hwn0⟩ : ∃ x, x = wt := ⟨_, rfl⟩
      subst hwn0
      have H40 := H4
      have H80 := H8
      have hid0lt : Hid (w.heap.size + 1 < wn0.heap.size) := hid H80.out.lt
      clear H4 H8 HB
      have hLk6 : Lk ≤ 100000 := by omega
      have hBe1 := (Below.refl wn0.heap.size wn0).alloc (Nat.le_refl _) (.cells #[] 5)
      have He1 := hid (Mem.Own.empty wn0 wn0.heap.size 5 (fun _ => 0) (Nat.le_refl _))
      have HRe1 := hid ((((HK.out).below HN0.out).more HN0.out.size).below hBe1)
      go_wp2_with (at_builtin; (refine wpl_app_gen rfl _ _ 22 rfl wn0.heap.size 5 (.int .u8 0) Tryz.underlying22 info_u8 rfl _ 0 _ rfl He1.out Ak Lk ck _ _ HRe1.out HAk.out rfl (by omega) (by simp) ?_))
      intro vn1 wn1 hon1 hBn1
      try rw [Nat.zero_add] at hon1
      have hBm1 := hBe1.trans hBn1
      obtain ⟨An1, cn1, rfl, hcn1, -, -⟩ := hon1.slice'
      have HO1 : Hid (Reads wn1 wn1.heap.size An1 Lk key) := hid (hon1.reads.ext (fun i hi => by unfold cat; simp))
      have hlo1 := own_lo hon1
      have hsz1 := hBm1.size
      have HN1 := hid (HN0.out.trans (hBm1.mono HN0.out.size))
      have H41 := hid (H40.out.below hBm1 H40.out.lt)
      have H81 := hid (H80.out.below hBm1 H80.out.lt)
      clear hon1 hBn1 hBe1 He1 HRe1 hBm1 H40 H80 hc0
      have hBe2 := (Below.refl wn1.heap.size wn1).alloc (Nat.le_refl _) (.cells #[] 5)
      have He2 := hid (Mem.Own.empty wn1 wn1.heap.size 5 (fun _ => 0) (Nat.le_refl _))
      have HRe2 := hid ((((HX.out).below HN1.out).more HN1.out.size).below hBe2)
      go_wp2_with (at_builtin; (refine wpl_app_gen rfl _ _ 22 rfl wn1.heap.size 5 (.int .u8 0) Tryz.underlying22 info_u8 rfl _ 0 _ rfl He2.out Ax 16 cx _ _ HRe2.out (fun h => by have := HX.out (by omega); obtain ⟨ad, h2, -⟩ := this; rw [h] at h2; cases h2) rfl (by omega) (by simp) ?_))
      intro vn2 wn2 hon2 hBn2
      try rw [Nat.zero_add] at hon2
      have hBm2 := hBe2.trans hBn2
      obtain ⟨An2, cn2, rfl, hcn2, -, -⟩ := hon2.slice'
      have HO2 : Hid (Reads wn2 wn2.heap.size An2 16 x) := hid (hon2.reads.ext (fun i hi => by unfold cat; simp))
      have hlo2 := own_lo hon2
      have hsz2 := hBm2.size
      have HN2 := hid (HN1.out.trans (hBm2.mono HN1.out.size))
      have HO1x := hid ((HO1.out.below hBm2).more hBm2.size)
      have H42 := hid (H41.out.below hBm2 H41.out.lt)
      have H82 := hid (H81.out.below hBm2 H81.out.lt)
      clear hon2 hBn2 hBe2 He2 HRe2 hBm2 H41 H81 HO1
      have hBe3 := (Below.refl wn2.heap.size wn2).alloc (Nat.le_refl _) (.cells #[] 5)
      have He3 := hid (Mem.Own.empty wn2 wn2.heap.size 5 (fun _ => 0) (Nat.le_refl _))
      have HRe3 := hid ((((HY.out).below HN2.out).more HN2.out.size).below hBe3)
      go_wp2_with (at_builtin; (refine wpl_app_gen rfl _ _ 22 rfl wn2.heap.size 5 (.int .u8 0) Tryz.underlying22 info_u8 rfl _ 0 _ rfl He3.out A' 16 c' _ _ HRe3.out (fun h => by have := HY.out (by omega); obtain ⟨ad, h2, -⟩ := this; rw [h] at h2; cases h2) rfl (by omega) (by simp) ?_))
      intro vn3 wn3 hon3 hBn3
      try rw [Nat.zero_add] at hon3
      have hBm3 := hBe3.trans hBn3
      obtain ⟨An3, cn3, rfl, hcn3, -, -⟩ := hon3.slice'
      have HO3 : Hid (Reads wn3 wn3.heap.size An3 16 (fun i => F (j + i))) := hid (hon3.reads.ext (fun i hi => by unfold cat; simp))
      have hlo3 := own_lo hon3
      have hsz3 := hBm3.size
      have HN3 := hid (HN2.out.trans (hBm3.mono HN2.out.size))
      have HO1xx := hid ((HO1x.out.below hBm3).more hBm3.size)
      have HO2x := hid ((HO2.out.below hBm3).more hBm3.size)
      have H43 := hid (H42.out.below hBm3 H42.out.lt)
      have H83 := hid (H82.out.below hBm3 H82.out.lt)
      clear hon3 hBn3 hBe3 He3 HRe3 hBm3 H42 H82 HO1x HO2
      have hr3 : #[Value.slice An1 Lk cn1, .slice An2 16 cn2, .slice An3 16 cn3] = row 3 (rowC (.slice An1 Lk cn1) (.slice An2 16 cn2) (.slice An3 16 cn3)) := rowC_eq _ _ _
      have hlt0 : w.heap.size + 1 < wn0.heap.size := hid0lt.out
      cases bk
      ·have HB4z := (Below.refl wn3.heap.size wn3).alloc (Nat.le_refl _) (.cells (row 3 (rowC (.slice An1 Lk cn1) (.slice An2 16 cn2) (.slice An3 16 cn3))) 128)
       go_wp2_with (first
        | (with_reducible refine wpl_alloc rfl 128 rfl _ zRow ?_)
        | (with_reducible refine wpl_store_newS rfl 128 _ _ rfl wn3 _ 3 _ (rowC_one _ _ _ rfl rfl rfl) rfl rfl 128 iRow (row_size _ _) ?_))
       clear hr3
       have HZr := hid (Blk.fresh wn3 128 (row 3 (rowC (.slice An1 Lk cn1) (.slice An2 16 cn2) (.slice An3 16 cn3))))
       have H4z := hid (H43.out.below HB4z H43.out.lt)
       have H8z := hid (H83.out.below HB4z H83.out.lt)
       have HNz := hid (HN3.out.trans (HB4z.mono HN3.out.size))
       have HOkz := hid ((HO1xx.out.below HB4z).more HB4z.size)
       have HOxz := hid ((HO2x.out.below HB4z).more HB4z.size)
       have HOyz := hid ((HO3.out.below HB4z).more HB4z.size)
       have hszz : Hid (wn3.heap.size < (wn3.alloc (.cells (row 3 (rowC (.slice An1 Lk cn1) (.slice An2 16 cn2) (.slice An3 16 cn3))) 128)).heap.size) := hid (by simp)
       have hltz : Hid (w.heap.size + 1 < wn0.heap.size) := hid hlt0
       have hgr0 : Hid (wn0.heap.size ≤ wn3.heap.size) := hid (by omega)
       clear HB4z HO1xx HO2x HO3 H43 H83 HN3
       generalize wn3.alloc (.cells (row 3 (rowC (.slice An1 Lk cn1) (.slice An2 16 cn2) (.slice An3 16 cn3))) 128) = wz at *
       generalize wn3.heap.size = gr at *
       have hz1 : w.heap.size + 1 < wz.heap.size := by have := hszz.out; have := hltz.out; omega
       obtain ⟨xs, hxl, hx1, hxc, hxr⟩ := (HR0.out.keep (fun g hg => HNz.out.block g (hB0 g hg))).cells
       have Hxr := hid hxr
       clear hxr
       have c4 : ∀ W, Below wz.heap.size wz W → W.cell? ⟨w.heap.size, 0, none⟩ = some (.slice Ar R.length cr) := fun W hW => (H4z.out.below hW H4z.out.lt).cell 0
       have hgrw : gr ≠ w.heap.size := by have := hltz.out; have := hgr0.out; omega
       have hxc2 : ∀ W, Below wz.heap.size wz W → ∀ q u, xs[q]? = some u → ∃ ad, Ar = some ad ∧ W.cell? (ad.add q) = some u := fun W hW q u hu => by
        obtain ⟨ad, h1, h2⟩ := hxc q u hu
        exact ⟨ad, h1, (hW.cell (p := ad.add q) (block_lt_of_cell h2)).trans h2⟩
       have hrl : R.length ≤ 1000 := hlen
       clear hxc
       have hnw : ([(.slice An1 Lk cn1 : Value), .slice An2 16 cn2, .slice An3 16 cn3] : List Value).length = 1 * 3 := rfl
       have hn1 : ∀ u ∈ ([(.slice An1 Lk cn1 : Value), .slice An2 16 cn2, .slice An3 16 cn3] : List Value), u.oneCell' = true := by simp [Value.oneCell']
       have hnc : ∀ (W : World) (g : Nat), Blk W g 128 (row 3 (rowC (.slice An1 Lk cn1) (.slice An2 16 cn2) (.slice An3 16 cn3))) → ∀ q u, ([(.slice An1 Lk cn1 : Value), .slice An2 16 cn2, .slice An3 16 cn3] : List Value)[q]? = some u → ∃ ad, some (⟨g, 0, none⟩ : Addr) = some ad ∧ W.cell? (ad.add q) = some u := fun W g hb q u hu => ⟨_, rfl, by
        rw [add_zero_off, hb.cell, ← rowC_eq]
        match q, hu with
        | 0, hu => simpa using hu
        | 1, hu => simpa using hu
        | 2, hu => simpa using hu
        | q + 3, hu => simp at hu⟩
       have c17 : ∀ W, KeptB w wz W → ∀ q, q < 3 → W.cell? ((⟨gr, 0, none⟩ : Addr).add q) = some ((rowC (.slice An1 Lk cn1) (.slice An2 16 cn2) (.slice An3 16 cn3)) q) := fun W hW q hq => by
        rw [add_zero_off]
        rw [World.cell?_of_block (w := wz) (w' := W) (a := ⟨gr, q, none⟩) (hW.1 gr HZr.out.lt hgrw)]
        exact (HZr.out.cell q).trans (row_get 3 _ q hq)
       apply suffN (F := Past24 w wz (.slice (cutA A' 16 c') (n - j - 16) (c' - 16)) (R.length + 1) (xs ++ [.slice An1 Lk cn1, .slice An2 16 cn2, .slice An3 16 cn3]))
       case h1 =>
        intro kk
        refine wp_region_held_drew (S := fun W => KeptB w wz W) (by kernel_rfl) (keptB (Below.refl _ _).drew) (fun hS0 => ?_)
        have hB0 : Below wz.heap.size wz wz.drew := (Below.refl _ _).drew
        refine ztk (i := 1) (v := .pointer (some ⟨w.heap.size, 0, none⟩)) rfl (fun W _ => by go_simp) hS0 ?_
        (try simp only [Act.put,zza,zzb,zzc,zzd,zze,zzf])
        refine ztk (i := 4) (v := .agg (row 3 (rowC (.slice An1 Lk cn1) (.slice An2 16 cn2) (.slice An3 16 cn3)))) rfl (fun W hW => exec_loadSt 128 _ rfl ⟨gr, 0, none⟩ rfl 3 _ (c17 W hW) _ Tryz.underlying128 iRow) hS0 ?_
        (try simp only [Act.put,zza,zzb,zzc,zzd,zze,zzf])
        have hd0 : wz.drew.heap.size = wz.heap.size := rfl
        generalize hwd : wz.drew = wd0 at hB0 hd0 hS0 ⊢
        clear hwd hS0
        have hB_wd0 := hB0
        refine wpAnyH_ready (rs := [0, 2, 5]) (by kernel_rfl) (by simp) ?_
        refine AllReadyH.cons rfl (fun K hK => ?_) (AllReadyH.cons rfl (fun K hK => ?_) (AllReadyH.cons rfl (fun K hK => ?_) AllReadyH.nil))
        (try simp only [Act.put,zza,zzb,zzc,zzd,zze,zzf])
        refine Eq.mpr (if_pos (by rfl)) ?_
        refine wp_valw _ (exec_bs0 35 rfl (.slice (some ⟨wd0.heap.size, 0, none⟩) 0 0) (bsR0 _)) ?_
        (try simp only [Act.put,zza,zzb,zzc,zzd,zze,zzf])
        refine hK.out _ _ (keptB (hB_wd0.alloc hB_wd0.size _)) (fun _ => ?_)
        (try simp only [Act.put,zza,zzb,zzc,zzd,zze,zzf])
        clear hK K
        have hoE1 := OwnL.empty wd0 wz.heap.size hB_wd0.size
        have hB_wx1 := hB_wd0.alloc hB_wd0.size (.cells #[] 128)
        have hsE1 : wd0.heap.size < (wd0.alloc (.cells #[] 128)).heap.size := by simp
        generalize hw1 : wd0.alloc (.cells #[] 128) = wx1 at hoE1 hB_wx1 hsE1 ⊢
        clear hw1
        refine wpAnyH_ready (rs := [2, 5]) (by kernel_rfl) (by simp) ?_
        refine AllReadyH.cons rfl (fun K hK => ?_) (AllReadyH.cons rfl (fun K hK => ?_) AllReadyH.nil)
        (try simp only [Act.put,zza,zzb,zzc,zzd,zze,zzf])
        refine Eq.mpr (if_pos (by rfl)) ?_
        refine wp_valw _ (exec_ldsl 35 _ rfl ⟨w.heap.size, 0, none⟩ rfl 128 Tryz.underlying35 (.slice Ar R.length cr) (c4 _ hB_wx1)) ?_
        (try simp only [Act.put,zza,zzb,zzc,zzd,zze,zzf])
        refine hK.out _ _ (keptB hB_wx1) (fun _ => ?_)
        (try simp only [Act.put,zza,zzb,zzc,zzd,zze,zzf])
        clear hK K
        refine wpAnyH_ready (rs := [3, 5]) (by kernel_rfl) (by simp) ?_
        refine AllReadyH.cons rfl (fun K hK => ?_) (AllReadyH.cons rfl (fun K hK => ?_) AllReadyH.nil)
        (try simp only [Act.put,zza,zzb,zzc,zzd,zze,zzf])
        refine Eq.mpr (if_pos (by rfl)) ?_
        refine wp_appL _ _ rfl wz.heap.size _ 0 [] rfl hoE1 Ar R.length cr xs rfl hxl HAr.out (hxc2 _ hB_wx1) hx1 (by omega) hB_wx1.size ?_
        intro v3_3 wx3 ho3_3 hB3_3 hG3_3
        (try simp only [Act.put,zza,zzb,zzc,zzd,zze,zzf])
        have hB_wx3 := hB_wx1.trans hB3_3
        refine hK.out _ _ (keptB hB_wx3) (fun _ => ?_)
        (try simp only [Act.put,zza,zzb,zzc,zzd,zze,zzf])
        clear hK K
        rw [Nat.zero_add, List.nil_append] at ho3_3
        refine wpAnyH_ready (rs := [5]) (by kernel_rfl) (by simp) (AllReadyH.cons rfl (fun K hK => ?_) AllReadyH.nil)
        (try simp only [Act.put,zza,zzb,zzc,zzd,zze,zzf])
        refine Eq.mpr (if_pos (by rfl)) ?_
        refine wp_valw _ (exec_bs1 35 _ rfl (.agg (row 3 (rowC (.slice An1 Lk cn1) (.slice An2 16 cn2) (.slice An3 16 cn3)))) (.slice (some ⟨wx3.heap.size, 0, none⟩) 1 1) rfl (bsR1 _ _ _ _)) ?_
        (try simp only [Act.put,zza,zzb,zzc,zzd,zze,zzf])
        refine hK.out _ _ (keptB (hB_wx3.alloc hB_wx3.size _)) (fun _ => ?_)
        (try simp only [Act.put,zza,zzb,zzc,zzd,zze,zzf])
        clear hK K
        have hb5_4 := Blk.fresh wx3 128 (row 3 (rowC (.slice An1 Lk cn1) (.slice An2 16 cn2) (.slice An3 16 cn3)))
        have hB_wx4 := hB_wx3.alloc hB_wx3.size (.cells (row 3 (rowC (.slice An1 Lk cn1) (.slice An2 16 cn2) (.slice An3 16 cn3))) 128)
        have own0_4 := OwnL.alloc hoE1 (.cells (row 3 (rowC (.slice An1 Lk cn1) (.slice An2 16 cn2) (.slice An3 16 cn3))) 128)
        have own3_4 := OwnL.alloc ho3_3 (.cells (row 3 (rowC (.slice An1 Lk cn1) (.slice An2 16 cn2) (.slice An3 16 cn3))) 128)
        generalize hw4 : wx3.alloc (.cells (row 3 (rowC (.slice An1 Lk cn1) (.slice An2 16 cn2) (.slice An3 16 cn3))) 128) = wx4 at hb5_4 hB_wx4 own0_4 own3_4 ⊢
        clear hw4
        obtain ⟨g0E, hg0E⟩ : ∃ g, g = wd0.heap.size := ⟨_, rfl⟩
        rw [← hg0E]
        obtain ⟨g5E, hg5E⟩ : ∃ g, g = wx3.heap.size := ⟨_, rfl⟩
        rw [← hg5E]
        have hb5E := hb5_4
        rw [← hg5E] at hb5E
        have ho3E := own3_4
        have hB_E := hB_wx4
        clear hg0E hg5E hb5_4 own3_4
        obtain ⟨v3E, hE⟩ : ∃ x, x = v3_3 := ⟨_, rfl⟩
        subst hE
        obtain ⟨wE, hE⟩ : ∃ x, x = wx4 := ⟨_, rfl⟩
        subst hE
        rotate_left
        (try simp only [Act.put,zza,zzb,zzc,zzd,zze,zzf])
        refine Eq.mpr (if_pos (by rfl)) ?_
        refine wp_valw _ (exec_bs1 35 _ rfl (.agg (row 3 (rowC (.slice An1 Lk cn1) (.slice An2 16 cn2) (.slice An3 16 cn3)))) (.slice (some ⟨wx1.heap.size, 0, none⟩) 1 1) rfl (bsR1 _ _ _ _)) ?_
        (try simp only [Act.put,zza,zzb,zzc,zzd,zze,zzf])
        refine hK.out _ _ (keptB (hB_wx1.alloc hB_wx1.size _)) (fun _ => ?_)
        (try simp only [Act.put,zza,zzb,zzc,zzd,zze,zzf])
        clear hK K
        have hb5_6 := Blk.fresh wx1 128 (row 3 (rowC (.slice An1 Lk cn1) (.slice An2 16 cn2) (.slice An3 16 cn3)))
        have hB_wx6 := hB_wx1.alloc hB_wx1.size (.cells (row 3 (rowC (.slice An1 Lk cn1) (.slice An2 16 cn2) (.slice An3 16 cn3))) 128)
        have own0_6 := OwnL.alloc hoE1 (.cells (row 3 (rowC (.slice An1 Lk cn1) (.slice An2 16 cn2) (.slice An3 16 cn3))) 128)
        generalize hw6 : wx1.alloc (.cells (row 3 (rowC (.slice An1 Lk cn1) (.slice An2 16 cn2) (.slice An3 16 cn3))) 128) = wx6 at hb5_6 hB_wx6 own0_6 ⊢
        clear hw6
        refine wpAnyH_ready (rs := [3]) (by kernel_rfl) (by simp) (AllReadyH.cons rfl (fun K hK => ?_) AllReadyH.nil)
        (try simp only [Act.put,zza,zzb,zzc,zzd,zze,zzf])
        refine Eq.mpr (if_pos (by rfl)) ?_
        refine wp_appL _ _ rfl wz.heap.size _ 0 [] rfl own0_6 Ar R.length cr xs rfl hxl HAr.out (hxc2 _ hB_wx6) hx1 (by omega) hB_wx6.size ?_
        intro v3_7 wx7 ho3_7 hB3_7 hG3_7
        (try simp only [Act.put,zza,zzb,zzc,zzd,zze,zzf])
        have hB_wx7 := hB_wx6.trans hB3_7
        refine hK.out _ _ (keptB hB_wx7) (fun _ => ?_)
        (try simp only [Act.put,zza,zzb,zzc,zzd,zze,zzf])
        clear hK K
        rw [Nat.zero_add, List.nil_append] at ho3_7
        have hb5_7 := hb5_6.grown hG3_7 (ne_own (by omega))
        obtain ⟨g0E, hg0E⟩ : ∃ g, g = wd0.heap.size := ⟨_, rfl⟩
        rw [← hg0E]
        obtain ⟨g5E, hg5E⟩ : ∃ g, g = wx1.heap.size := ⟨_, rfl⟩
        rw [← hg5E]
        have hb5E := hb5_7
        rw [← hg5E] at hb5E
        have ho3E := ho3_7
        have hB_E := hB_wx7
        clear hg0E hg5E hb5_7 ho3_7
        obtain ⟨v3E, hE⟩ : ∃ x, x = v3_7 := ⟨_, rfl⟩
        subst hE
        obtain ⟨wE, hE⟩ : ∃ x, x = wx7 := ⟨_, rfl⟩
        subst hE
        rotate_left
        (try simp only [Act.put,zza,zzb,zzc,zzd,zze,zzf])
        refine Eq.mpr (if_pos (by rfl)) ?_
        refine wp_valw _ (exec_bs1 35 _ rfl (.agg (row 3 (rowC (.slice An1 Lk cn1) (.slice An2 16 cn2) (.slice An3 16 cn3)))) (.slice (some ⟨wx1.heap.size, 0, none⟩) 1 1) rfl (bsR1 _ _ _ _)) ?_
        (try simp only [Act.put,zza,zzb,zzc,zzd,zze,zzf])
        refine hK.out _ _ (keptB (hB_wx1.alloc hB_wx1.size _)) (fun _ => ?_)
        (try simp only [Act.put,zza,zzb,zzc,zzd,zze,zzf])
        clear hK K
        have hb5_9 := Blk.fresh wx1 128 (row 3 (rowC (.slice An1 Lk cn1) (.slice An2 16 cn2) (.slice An3 16 cn3)))
        have hB_wx9 := hB_wx1.alloc hB_wx1.size (.cells (row 3 (rowC (.slice An1 Lk cn1) (.slice An2 16 cn2) (.slice An3 16 cn3))) 128)
        have own0_9 := OwnL.alloc hoE1 (.cells (row 3 (rowC (.slice An1 Lk cn1) (.slice An2 16 cn2) (.slice An3 16 cn3))) 128)
        generalize hw9 : wx1.alloc (.cells (row 3 (rowC (.slice An1 Lk cn1) (.slice An2 16 cn2) (.slice An3 16 cn3))) 128) = wx9 at hb5_9 hB_wx9 own0_9 ⊢
        clear hw9
        refine wpAnyH_ready (rs := [2]) (by kernel_rfl) (by simp) (AllReadyH.cons rfl (fun K hK => ?_) AllReadyH.nil)
        (try simp only [Act.put,zza,zzb,zzc,zzd,zze,zzf])
        refine Eq.mpr (if_pos (by rfl)) ?_
        refine wp_valw _ (exec_ldsl 35 _ rfl ⟨w.heap.size, 0, none⟩ rfl 128 Tryz.underlying35 (.slice Ar R.length cr) (c4 _ hB_wx9)) ?_
        (try simp only [Act.put,zza,zzb,zzc,zzd,zze,zzf])
        refine hK.out _ _ (keptB hB_wx9) (fun _ => ?_)
        (try simp only [Act.put,zza,zzb,zzc,zzd,zze,zzf])
        clear hK K
        refine wpAnyH_ready (rs := [3]) (by kernel_rfl) (by simp) (AllReadyH.cons rfl (fun K hK => ?_) AllReadyH.nil)
        (try simp only [Act.put,zza,zzb,zzc,zzd,zze,zzf])
        refine Eq.mpr (if_pos (by rfl)) ?_
        refine wp_appL _ _ rfl wz.heap.size _ 0 [] rfl own0_9 Ar R.length cr xs rfl hxl HAr.out (hxc2 _ hB_wx9) hx1 (by omega) hB_wx9.size ?_
        intro v3_11 wx11 ho3_11 hB3_11 hG3_11
        (try simp only [Act.put,zza,zzb,zzc,zzd,zze,zzf])
        have hB_wx11 := hB_wx9.trans hB3_11
        refine hK.out _ _ (keptB hB_wx11) (fun _ => ?_)
        (try simp only [Act.put,zza,zzb,zzc,zzd,zze,zzf])
        clear hK K
        rw [Nat.zero_add, List.nil_append] at ho3_11
        have hb5_11 := hb5_9.grown hG3_11 (ne_own (by omega))
        obtain ⟨g0E, hg0E⟩ : ∃ g, g = wd0.heap.size := ⟨_, rfl⟩
        rw [← hg0E]
        obtain ⟨g5E, hg5E⟩ : ∃ g, g = wx1.heap.size := ⟨_, rfl⟩
        rw [← hg5E]
        have hb5E := hb5_11
        rw [← hg5E] at hb5E
        have ho3E := ho3_11
        have hB_E := hB_wx11
        clear hg0E hg5E hb5_11 ho3_11
        obtain ⟨v3E, hE⟩ : ∃ x, x = v3_11 := ⟨_, rfl⟩
        subst hE
        obtain ⟨wE, hE⟩ : ∃ x, x = wx11 := ⟨_, rfl⟩
        subst hE
        rotate_left
        (try simp only [Act.put,zza,zzb,zzc,zzd,zze,zzf])
        refine Eq.mpr (if_pos (by rfl)) ?_
        refine wp_valw _ (exec_ldsl 35 _ rfl ⟨w.heap.size, 0, none⟩ rfl 128 Tryz.underlying35 (.slice Ar R.length cr) (c4 _ hB_wd0)) ?_
        (try simp only [Act.put,zza,zzb,zzc,zzd,zze,zzf])
        refine hK.out _ _ (keptB hB_wd0) (fun _ => ?_)
        (try simp only [Act.put,zza,zzb,zzc,zzd,zze,zzf])
        clear hK K
        refine wpAnyH_ready (rs := [0, 5]) (by kernel_rfl) (by simp) ?_
        refine AllReadyH.cons rfl (fun K hK => ?_) (AllReadyH.cons rfl (fun K hK => ?_) AllReadyH.nil)
        (try simp only [Act.put,zza,zzb,zzc,zzd,zze,zzf])
        refine Eq.mpr (if_pos (by rfl)) ?_
        refine wp_valw _ (exec_bs0 35 rfl (.slice (some ⟨wd0.heap.size, 0, none⟩) 0 0) (bsR0 _)) ?_
        (try simp only [Act.put,zza,zzb,zzc,zzd,zze,zzf])
        refine hK.out _ _ (keptB (hB_wd0.alloc hB_wd0.size _)) (fun _ => ?_)
        (try simp only [Act.put,zza,zzb,zzc,zzd,zze,zzf])
        clear hK K
        have hoE14 := OwnL.empty wd0 wz.heap.size hB_wd0.size
        have hB_wx14 := hB_wd0.alloc hB_wd0.size (.cells #[] 128)
        have hsE14 : wd0.heap.size < (wd0.alloc (.cells #[] 128)).heap.size := by simp
        generalize hw14 : wd0.alloc (.cells #[] 128) = wx14 at hoE14 hB_wx14 hsE14 ⊢
        clear hw14
        refine wpAnyH_ready (rs := [3, 5]) (by kernel_rfl) (by simp) ?_
        refine AllReadyH.cons rfl (fun K hK => ?_) (AllReadyH.cons rfl (fun K hK => ?_) AllReadyH.nil)
        (try simp only [Act.put,zza,zzb,zzc,zzd,zze,zzf])
        refine Eq.mpr (if_pos (by rfl)) ?_
        refine wp_appL _ _ rfl wz.heap.size _ 0 [] rfl hoE14 Ar R.length cr xs rfl hxl HAr.out (hxc2 _ hB_wx14) hx1 (by omega) hB_wx14.size ?_
        intro v3_15 wx15 ho3_15 hB3_15 hG3_15
        (try simp only [Act.put,zza,zzb,zzc,zzd,zze,zzf])
        have hB_wx15 := hB_wx14.trans hB3_15
        refine hK.out _ _ (keptB hB_wx15) (fun _ => ?_)
        (try simp only [Act.put,zza,zzb,zzc,zzd,zze,zzf])
        clear hK K
        rw [Nat.zero_add, List.nil_append] at ho3_15
        refine wpAnyH_ready (rs := [5]) (by kernel_rfl) (by simp) (AllReadyH.cons rfl (fun K hK => ?_) AllReadyH.nil)
        (try simp only [Act.put,zza,zzb,zzc,zzd,zze,zzf])
        refine Eq.mpr (if_pos (by rfl)) ?_
        refine wp_valw _ (exec_bs1 35 _ rfl (.agg (row 3 (rowC (.slice An1 Lk cn1) (.slice An2 16 cn2) (.slice An3 16 cn3)))) (.slice (some ⟨wx15.heap.size, 0, none⟩) 1 1) rfl (bsR1 _ _ _ _)) ?_
        (try simp only [Act.put,zza,zzb,zzc,zzd,zze,zzf])
        refine hK.out _ _ (keptB (hB_wx15.alloc hB_wx15.size _)) (fun _ => ?_)
        (try simp only [Act.put,zza,zzb,zzc,zzd,zze,zzf])
        clear hK K
        have hb5_16 := Blk.fresh wx15 128 (row 3 (rowC (.slice An1 Lk cn1) (.slice An2 16 cn2) (.slice An3 16 cn3)))
        have hB_wx16 := hB_wx15.alloc hB_wx15.size (.cells (row 3 (rowC (.slice An1 Lk cn1) (.slice An2 16 cn2) (.slice An3 16 cn3))) 128)
        have own0_16 := OwnL.alloc hoE14 (.cells (row 3 (rowC (.slice An1 Lk cn1) (.slice An2 16 cn2) (.slice An3 16 cn3))) 128)
        have own3_16 := OwnL.alloc ho3_15 (.cells (row 3 (rowC (.slice An1 Lk cn1) (.slice An2 16 cn2) (.slice An3 16 cn3))) 128)
        generalize hw16 : wx15.alloc (.cells (row 3 (rowC (.slice An1 Lk cn1) (.slice An2 16 cn2) (.slice An3 16 cn3))) 128) = wx16 at hb5_16 hB_wx16 own0_16 own3_16 ⊢
        clear hw16
        obtain ⟨g0E, hg0E⟩ : ∃ g, g = wd0.heap.size := ⟨_, rfl⟩
        rw [← hg0E]
        obtain ⟨g5E, hg5E⟩ : ∃ g, g = wx15.heap.size := ⟨_, rfl⟩
        rw [← hg5E]
        have hb5E := hb5_16
        rw [← hg5E] at hb5E
        have ho3E := own3_16
        have hB_E := hB_wx16
        clear hg0E hg5E hb5_16 own3_16
        obtain ⟨v3E, hE⟩ : ∃ x, x = v3_15 := ⟨_, rfl⟩
        subst hE
        obtain ⟨wE, hE⟩ : ∃ x, x = wx16 := ⟨_, rfl⟩
        subst hE
        rotate_left
        (try simp only [Act.put,zza,zzb,zzc,zzd,zze,zzf])
        refine Eq.mpr (if_pos (by rfl)) ?_
        refine wp_valw _ (exec_bs1 35 _ rfl (.agg (row 3 (rowC (.slice An1 Lk cn1) (.slice An2 16 cn2) (.slice An3 16 cn3)))) (.slice (some ⟨wx14.heap.size, 0, none⟩) 1 1) rfl (bsR1 _ _ _ _)) ?_
        (try simp only [Act.put,zza,zzb,zzc,zzd,zze,zzf])
        refine hK.out _ _ (keptB (hB_wx14.alloc hB_wx14.size _)) (fun _ => ?_)
        (try simp only [Act.put,zza,zzb,zzc,zzd,zze,zzf])
        clear hK K
        have hb5_18 := Blk.fresh wx14 128 (row 3 (rowC (.slice An1 Lk cn1) (.slice An2 16 cn2) (.slice An3 16 cn3)))
        have hB_wx18 := hB_wx14.alloc hB_wx14.size (.cells (row 3 (rowC (.slice An1 Lk cn1) (.slice An2 16 cn2) (.slice An3 16 cn3))) 128)
        have own0_18 := OwnL.alloc hoE14 (.cells (row 3 (rowC (.slice An1 Lk cn1) (.slice An2 16 cn2) (.slice An3 16 cn3))) 128)
        generalize hw18 : wx14.alloc (.cells (row 3 (rowC (.slice An1 Lk cn1) (.slice An2 16 cn2) (.slice An3 16 cn3))) 128) = wx18 at hb5_18 hB_wx18 own0_18 ⊢
        clear hw18
        refine wpAnyH_ready (rs := [3]) (by kernel_rfl) (by simp) (AllReadyH.cons rfl (fun K hK => ?_) AllReadyH.nil)
        (try simp only [Act.put,zza,zzb,zzc,zzd,zze,zzf])
        refine Eq.mpr (if_pos (by rfl)) ?_
        refine wp_appL _ _ rfl wz.heap.size _ 0 [] rfl own0_18 Ar R.length cr xs rfl hxl HAr.out (hxc2 _ hB_wx18) hx1 (by omega) hB_wx18.size ?_
        intro v3_19 wx19 ho3_19 hB3_19 hG3_19
        (try simp only [Act.put,zza,zzb,zzc,zzd,zze,zzf])
        have hB_wx19 := hB_wx18.trans hB3_19
        refine hK.out _ _ (keptB hB_wx19) (fun _ => ?_)
        (try simp only [Act.put,zza,zzb,zzc,zzd,zze,zzf])
        clear hK K
        rw [Nat.zero_add, List.nil_append] at ho3_19
        have hb5_19 := hb5_18.grown hG3_19 (ne_own (by omega))
        obtain ⟨g0E, hg0E⟩ : ∃ g, g = wd0.heap.size := ⟨_, rfl⟩
        rw [← hg0E]
        obtain ⟨g5E, hg5E⟩ : ∃ g, g = wx14.heap.size := ⟨_, rfl⟩
        rw [← hg5E]
        have hb5E := hb5_19
        rw [← hg5E] at hb5E
        have ho3E := ho3_19
        have hB_E := hB_wx19
        clear hg0E hg5E hb5_19 ho3_19
        obtain ⟨v3E, hE⟩ : ∃ x, x = v3_19 := ⟨_, rfl⟩
        subst hE
        obtain ⟨wE, hE⟩ : ∃ x, x = wx19 := ⟨_, rfl⟩
        subst hE
        rotate_left
        (try simp only [Act.put,zza,zzb,zzc,zzd,zze,zzf])
        refine Eq.mpr (if_pos (by rfl)) ?_
        refine wp_valw _ (exec_bs1 35 _ rfl (.agg (row 3 (rowC (.slice An1 Lk cn1) (.slice An2 16 cn2) (.slice An3 16 cn3)))) (.slice (some ⟨wd0.heap.size, 0, none⟩) 1 1) rfl (bsR1 _ _ _ _)) ?_
        (try simp only [Act.put,zza,zzb,zzc,zzd,zze,zzf])
        refine hK.out _ _ (keptB (hB_wd0.alloc hB_wd0.size _)) (fun _ => ?_)
        (try simp only [Act.put,zza,zzb,zzc,zzd,zze,zzf])
        clear hK K
        have hb5_21 := Blk.fresh wd0 128 (row 3 (rowC (.slice An1 Lk cn1) (.slice An2 16 cn2) (.slice An3 16 cn3)))
        have hB_wx21 := hB_wd0.alloc hB_wd0.size (.cells (row 3 (rowC (.slice An1 Lk cn1) (.slice An2 16 cn2) (.slice An3 16 cn3))) 128)
        generalize hw21 : wd0.alloc (.cells (row 3 (rowC (.slice An1 Lk cn1) (.slice An2 16 cn2) (.slice An3 16 cn3))) 128) = wx21 at hb5_21 hB_wx21 ⊢
        clear hw21
        refine wpAnyH_ready (rs := [0]) (by kernel_rfl) (by simp) (AllReadyH.cons rfl (fun K hK => ?_) AllReadyH.nil)
        (try simp only [Act.put,zza,zzb,zzc,zzd,zze,zzf])
        refine Eq.mpr (if_pos (by rfl)) ?_
        refine wp_valw _ (exec_bs0 35 rfl (.slice (some ⟨wx21.heap.size, 0, none⟩) 0 0) (bsR0 _)) ?_
        (try simp only [Act.put,zza,zzb,zzc,zzd,zze,zzf])
        refine hK.out _ _ (keptB (hB_wx21.alloc hB_wx21.size _)) (fun _ => ?_)
        (try simp only [Act.put,zza,zzb,zzc,zzd,zze,zzf])
        clear hK K
        have hoE22 := OwnL.empty wx21 wz.heap.size hB_wx21.size
        have hB_wx22 := hB_wx21.alloc hB_wx21.size (.cells #[] 128)
        have hsE22 : wx21.heap.size < (wx21.alloc (.cells #[] 128)).heap.size := by simp
        have hb5_22 := hb5_21.alloc (.cells #[] 128)
        have hb5l_22 := hb5_21.lt
        generalize hw22 : wx21.alloc (.cells #[] 128) = wx22 at hoE22 hB_wx22 hsE22 hb5_22 ⊢
        clear hw22
        refine wpAnyH_ready (rs := [3]) (by kernel_rfl) (by simp) (AllReadyH.cons rfl (fun K hK => ?_) AllReadyH.nil)
        (try simp only [Act.put,zza,zzb,zzc,zzd,zze,zzf])
        refine Eq.mpr (if_pos (by rfl)) ?_
        refine wp_appL _ _ rfl wz.heap.size _ 0 [] rfl hoE22 Ar R.length cr xs rfl hxl HAr.out (hxc2 _ hB_wx22) hx1 (by omega) hB_wx22.size ?_
        intro v3_23 wx23 ho3_23 hB3_23 hG3_23
        (try simp only [Act.put,zza,zzb,zzc,zzd,zze,zzf])
        have hB_wx23 := hB_wx22.trans hB3_23
        refine hK.out _ _ (keptB hB_wx23) (fun _ => ?_)
        (try simp only [Act.put,zza,zzb,zzc,zzd,zze,zzf])
        clear hK K
        rw [Nat.zero_add, List.nil_append] at ho3_23
        have hb5_23 := hb5_22.grown hG3_23 (ne_own (by omega))
        obtain ⟨g0E, hg0E⟩ : ∃ g, g = wx21.heap.size := ⟨_, rfl⟩
        rw [← hg0E]
        obtain ⟨g5E, hg5E⟩ : ∃ g, g = wd0.heap.size := ⟨_, rfl⟩
        rw [← hg5E]
        have hb5E := hb5_23
        rw [← hg5E] at hb5E
        have ho3E := ho3_23
        have hB_E := hB_wx23
        clear hg0E hg5E hb5_23 ho3_23
        obtain ⟨v3E, hE⟩ : ∃ x, x = v3_23 := ⟨_, rfl⟩
        subst hE
        obtain ⟨wE, hE⟩ : ∃ x, x = wx23 := ⟨_, rfl⟩
        subst hE
        rotate_left
        (try simp only [Act.put,zza,zzb,zzc,zzd,zze,zzf])
        refine Eq.mpr (if_pos (by rfl)) ?_
        refine wp_valw _ (exec_bs1 35 _ rfl (.agg (row 3 (rowC (.slice An1 Lk cn1) (.slice An2 16 cn2) (.slice An3 16 cn3)))) (.slice (some ⟨wd0.heap.size, 0, none⟩) 1 1) rfl (bsR1 _ _ _ _)) ?_
        (try simp only [Act.put,zza,zzb,zzc,zzd,zze,zzf])
        refine hK.out _ _ (keptB (hB_wd0.alloc hB_wd0.size _)) (fun _ => ?_)
        (try simp only [Act.put,zza,zzb,zzc,zzd,zze,zzf])
        clear hK K
        have hb5_25 := Blk.fresh wd0 128 (row 3 (rowC (.slice An1 Lk cn1) (.slice An2 16 cn2) (.slice An3 16 cn3)))
        have hB_wx25 := hB_wd0.alloc hB_wd0.size (.cells (row 3 (rowC (.slice An1 Lk cn1) (.slice An2 16 cn2) (.slice An3 16 cn3))) 128)
        generalize hw25 : wd0.alloc (.cells (row 3 (rowC (.slice An1 Lk cn1) (.slice An2 16 cn2) (.slice An3 16 cn3))) 128) = wx25 at hb5_25 hB_wx25 ⊢
        clear hw25
        refine wpAnyH_ready (rs := [0, 2]) (by kernel_rfl) (by simp) ?_
        refine AllReadyH.cons rfl (fun K hK => ?_) (AllReadyH.cons rfl (fun K hK => ?_) AllReadyH.nil)
        (try simp only [Act.put,zza,zzb,zzc,zzd,zze,zzf])
        refine Eq.mpr (if_pos (by rfl)) ?_
        refine wp_valw _ (exec_bs0 35 rfl (.slice (some ⟨wx25.heap.size, 0, none⟩) 0 0) (bsR0 _)) ?_
        (try simp only [Act.put,zza,zzb,zzc,zzd,zze,zzf])
        refine hK.out _ _ (keptB (hB_wx25.alloc hB_wx25.size _)) (fun _ => ?_)
        (try simp only [Act.put,zza,zzb,zzc,zzd,zze,zzf])
        clear hK K
        have hoE26 := OwnL.empty wx25 wz.heap.size hB_wx25.size
        have hB_wx26 := hB_wx25.alloc hB_wx25.size (.cells #[] 128)
        have hsE26 : wx25.heap.size < (wx25.alloc (.cells #[] 128)).heap.size := by simp
        have hb5_26 := hb5_25.alloc (.cells #[] 128)
        have hb5l_26 := hb5_25.lt
        generalize hw26 : wx25.alloc (.cells #[] 128) = wx26 at hoE26 hB_wx26 hsE26 hb5_26 ⊢
        clear hw26
        refine wpAnyH_ready (rs := [2]) (by kernel_rfl) (by simp) (AllReadyH.cons rfl (fun K hK => ?_) AllReadyH.nil)
        (try simp only [Act.put,zza,zzb,zzc,zzd,zze,zzf])
        refine Eq.mpr (if_pos (by rfl)) ?_
        refine wp_valw _ (exec_ldsl 35 _ rfl ⟨w.heap.size, 0, none⟩ rfl 128 Tryz.underlying35 (.slice Ar R.length cr) (c4 _ hB_wx26)) ?_
        (try simp only [Act.put,zza,zzb,zzc,zzd,zze,zzf])
        refine hK.out _ _ (keptB hB_wx26) (fun _ => ?_)
        (try simp only [Act.put,zza,zzb,zzc,zzd,zze,zzf])
        clear hK K
        refine wpAnyH_ready (rs := [3]) (by kernel_rfl) (by simp) (AllReadyH.cons rfl (fun K hK => ?_) AllReadyH.nil)
        (try simp only [Act.put,zza,zzb,zzc,zzd,zze,zzf])
        refine Eq.mpr (if_pos (by rfl)) ?_
        refine wp_appL _ _ rfl wz.heap.size _ 0 [] rfl hoE26 Ar R.length cr xs rfl hxl HAr.out (hxc2 _ hB_wx26) hx1 (by omega) hB_wx26.size ?_
        intro v3_28 wx28 ho3_28 hB3_28 hG3_28
        (try simp only [Act.put,zza,zzb,zzc,zzd,zze,zzf])
        have hB_wx28 := hB_wx26.trans hB3_28
        refine hK.out _ _ (keptB hB_wx28) (fun _ => ?_)
        (try simp only [Act.put,zza,zzb,zzc,zzd,zze,zzf])
        clear hK K
        rw [Nat.zero_add, List.nil_append] at ho3_28
        have hb5_28 := hb5_26.grown hG3_28 (ne_own (by omega))
        obtain ⟨g0E, hg0E⟩ : ∃ g, g = wx25.heap.size := ⟨_, rfl⟩
        rw [← hg0E]
        obtain ⟨g5E, hg5E⟩ : ∃ g, g = wd0.heap.size := ⟨_, rfl⟩
        rw [← hg5E]
        have hb5E := hb5_28
        rw [← hg5E] at hb5E
        have ho3E := ho3_28
        have hB_E := hB_wx28
        clear hg0E hg5E hb5_28 ho3_28
        obtain ⟨v3E, hE⟩ : ∃ x, x = v3_28 := ⟨_, rfl⟩
        subst hE
        obtain ⟨wE, hE⟩ : ∃ x, x = wx28 := ⟨_, rfl⟩
        subst hE
        rotate_left
        (try simp only [Act.put,zza,zzb,zzc,zzd,zze,zzf])
        refine Eq.mpr (if_pos (by rfl)) ?_
        refine wp_valw _ (exec_ldsl 35 _ rfl ⟨w.heap.size, 0, none⟩ rfl 128 Tryz.underlying35 (.slice Ar R.length cr) (c4 _ hB_wx25)) ?_
        (try simp only [Act.put,zza,zzb,zzc,zzd,zze,zzf])
        refine hK.out _ _ (keptB hB_wx25) (fun _ => ?_)
        (try simp only [Act.put,zza,zzb,zzc,zzd,zze,zzf])
        clear hK K
        refine wpAnyH_ready (rs := [0]) (by kernel_rfl) (by simp) (AllReadyH.cons rfl (fun K hK => ?_) AllReadyH.nil)
        (try simp only [Act.put,zza,zzb,zzc,zzd,zze,zzf])
        refine Eq.mpr (if_pos (by rfl)) ?_
        refine wp_valw _ (exec_bs0 35 rfl (.slice (some ⟨wx25.heap.size, 0, none⟩) 0 0) (bsR0 _)) ?_
        (try simp only [Act.put,zza,zzb,zzc,zzd,zze,zzf])
        refine hK.out _ _ (keptB (hB_wx25.alloc hB_wx25.size _)) (fun _ => ?_)
        (try simp only [Act.put,zza,zzb,zzc,zzd,zze,zzf])
        clear hK K
        have hoE31 := OwnL.empty wx25 wz.heap.size hB_wx25.size
        have hB_wx31 := hB_wx25.alloc hB_wx25.size (.cells #[] 128)
        have hsE31 : wx25.heap.size < (wx25.alloc (.cells #[] 128)).heap.size := by simp
        have hb5_31 := hb5_25.alloc (.cells #[] 128)
        have hb5l_31 := hb5_25.lt
        generalize hw31 : wx25.alloc (.cells #[] 128) = wx31 at hoE31 hB_wx31 hsE31 hb5_31 ⊢
        clear hw31
        refine wpAnyH_ready (rs := [3]) (by kernel_rfl) (by simp) (AllReadyH.cons rfl (fun K hK => ?_) AllReadyH.nil)
        (try simp only [Act.put,zza,zzb,zzc,zzd,zze,zzf])
        refine Eq.mpr (if_pos (by rfl)) ?_
        refine wp_appL _ _ rfl wz.heap.size _ 0 [] rfl hoE31 Ar R.length cr xs rfl hxl HAr.out (hxc2 _ hB_wx31) hx1 (by omega) hB_wx31.size ?_
        intro v3_32 wx32 ho3_32 hB3_32 hG3_32
        (try simp only [Act.put,zza,zzb,zzc,zzd,zze,zzf])
        have hB_wx32 := hB_wx31.trans hB3_32
        refine hK.out _ _ (keptB hB_wx32) (fun _ => ?_)
        (try simp only [Act.put,zza,zzb,zzc,zzd,zze,zzf])
        clear hK K
        rw [Nat.zero_add, List.nil_append] at ho3_32
        have hb5_32 := hb5_31.grown hG3_32 (ne_own (by omega))
        obtain ⟨g0E, hg0E⟩ : ∃ g, g = wx25.heap.size := ⟨_, rfl⟩
        rw [← hg0E]
        obtain ⟨g5E, hg5E⟩ : ∃ g, g = wd0.heap.size := ⟨_, rfl⟩
        rw [← hg5E]
        have hb5E := hb5_32
        rw [← hg5E] at hb5E
        have ho3E := ho3_32
        have hB_E := hB_wx32
        clear hg0E hg5E hb5_32 ho3_32
        obtain ⟨v3E, hE⟩ : ∃ x, x = v3_32 := ⟨_, rfl⟩
        subst hE
        obtain ⟨wE, hE⟩ : ∃ x, x = wx32 := ⟨_, rfl⟩
        subst hE
        rotate_left
        all_goals
         refine wpAnyH_ready (rs := [6]) (by kernel_rfl) (by simp) (AllReadyH.cons rfl (fun K hK => ?_) AllReadyH.nil)
         (try simp only [Act.put,zza,zzb,zzc,zzd,zze,zzf])
         refine Eq.mpr (if_pos (by rfl)) ?_
         refine wp_appL _ _ rfl wz.heap.size _ R.length xs rfl ho3E (some ⟨g5E, 0, none⟩) 1 1 [.slice An1 Lk cn1, .slice An2 16 cn2, .slice An3 16 cn3] rfl hnw (fun h => by cases h) (hnc _ _ hb5E) hn1 (by omega) hB_E.size ?_
         intro v6 W6 ho6 hB6 _
         (try simp only [Act.put,zza,zzb,zzc,zzd,zze,zzf])
         have hB_W6 := hB_E.trans hB6
         refine hK.out _ _ (keptB hB_W6) (fun _ => ?_)
         (try simp only [Act.put,zza,zzb,zzc,zzd,zze,zzf])
         clear hK K
         refine ztk (i := 7) (v := .pointer (some ⟨w.heap.size, 0, none⟩)) rfl (fun W _ => by go_simp) (keptB hB_W6) ?_
         (try simp only [Act.put,zza,zzb,zzc,zzd,zze,zzf])
         refine wpAnyH_ready (rs := [8]) (by kernel_rfl) (by simp) (AllReadyH.cons rfl (fun K hK => ?_) AllReadyH.nil)
         (try simp only [Act.put,zza,zzb,zzc,zzd,zze,zzf])
         refine Eq.mpr (if_pos (by rfl)) ?_
         have hv6 : ∃ A6 c6, v6 = .slice A6 (R.length + 1) c6 := by
          rcases ho6.2 with ⟨h1, h2⟩ | ⟨g, c6, cur, h1, -⟩
          ·omega
          exact ⟨_, _, h1⟩
         have h1v : v6.oneCell' = true := by obtain ⟨A6, c6, rfl⟩ := hv6; rfl
         have h2v : v6.cells = #[v6] := by obtain ⟨A6, c6, rfl⟩ := hv6; rfl
         refine wp_skipw (exec_stV 35 _ _ rfl ⟨w.heap.size, 0, none⟩ rfl v6 rfl h1v h2v iSRow _ (c4 _ hB_W6) ((H4z.out.below hB_W6 H4z.out.lt).free 0)) ?_
         (try simp only [Act.put,zza,zzb,zzc,zzd,zze,zzf])
         have hp := past24 hz1 H4z.out H8z.out hB_W6 ho6
         refine hK.out _ _ ⟨hp.kept, hp.size⟩ (fun _ => ?_)
         (try simp only [Act.put,zza,zzb,zzc,zzd,zze,zzf])
         clear hK K
         refine wpAnyH_done (by kernel_rfl) ?_ _
         generalize W6.setCell ⟨w.heap.size, 0, none⟩ v6 = W7 at hp ⊢
         generalize Value.slice (some ⟨g0E, 0, none⟩) 0 0 = va
         generalize Value.slice (some ⟨g5E, 0, none⟩) 1 1 = vc
         exact kk W7 va v3E vc v6 hp
       intro w5 va vb vc v6 hp
       try dsimp only
       obtain ⟨A6, c6, rfl⟩ : ∃ A6 c6, v6 = .slice A6 (R.length + 1) c6 := by
        rcases hp.own.2 with ⟨_, h2⟩ | ⟨g, c6, cur, h1, -⟩
        ·omega
        exact ⟨_, _, h1⟩
       have HP := hid hp
       have HN5 := hid (HNz.out.trans hp.bel)
       have Hb5 := hid hp.book
       have Ho5 := hid hp.out
       have hs5 := hp.size
       have HTn : Hid (ReadsP w B0 (cutA A' 16 c') (n - j - 16) (fun i => F (j + 16 + i))) := hid ((HTe.out.cutA (k := 16) (z := n - j - 16) (cap := c') (by omega) hce).ext (fun i _ => by show F (j + (16 + i)) = F (j + 16 + i); congr 1; omega))
       clear hp hnc hn1 hnw hxc2 c4 c17
       obtain ⟨rl, hrl2⟩ : ∃ rl, rl = R.length + 1 := ⟨_, rfl⟩
       rw [← hrl2] at Hb5 ⊢
       have Hrl := hid hrl2
       clear hrl2
       go_wp2_with fail
       have d0 : ∀ W, Below (w.heap.size + 1) w5 W → ∀ q, q < 2 → W.cell? ((⟨w.heap.size, 0, none⟩ : Addr).add q) = some (bookC (.slice A6 rl c6) (.slice (cutA A' 16 c') (n - j - 16) (c' - 16)) q) := fun W hW q hq => by
        rw [add_zero_off]
        exact ((Hb5.out.below hW (Nat.lt_succ_self _)).cell q).trans (row_get 2 _ q hq)
       refine wp_region_held_drew (S := fun W => Below (w.heap.size + 1) w5 W) (by kernel_rfl) (Below.refl _ _).drew (fun hS0 => ?_)
       refine ztk (i := 0) (v := .agg (row 2 (bookC (.slice A6 rl c6) (.slice (cutA A' 16 c') (n - j - 16) (c' - 16))))) rfl (fun W hW => exec_loadSt 37 _ rfl ⟨w.heap.size, 0, none⟩ rfl 2 _ (d0 W hW) _ Tryz.underlying37 iRB) hS0 ?_
       (try simp only [Act.put,zza,zzb,zzc,zzd,zze,zzf])
       refine ztk (i := 2) (v := .slice A' 16 c') rfl (fun _ _ => exec_move _ rfl _ rfl) hS0 ?_
       (try simp only [Act.put,zza,zzb,zzc,zzd,zze,zzf])
       refine wpAnyH_ready (rs := [1]) (by kernel_rfl) (by simp) (AllReadyH.cons rfl (fun K hK => ?_) AllReadyH.nil)
       (try simp only [Act.put,zza,zzb,zzc,zzd,zze,zzf])
       refine Eq.mpr (if_pos (by rfl)) ?_
       refine wp_valw _ (exec_bs0 22 rfl (.slice (some ⟨w5.drew.heap.size, 0, none⟩) 0 0) (bsB0 _)) ?_
       (try simp only [Act.put,zza,zzb,zzc,zzd,zze,zzf])
       have hs50 : w.heap.size + 1 ≤ w5.drew.heap.size := by show _ ≤ w5.heap.size; omega
       refine hK.out _ _ (hS0.alloc hs50 _) (fun hS1 => ?_)
       (try simp only [Act.put,zza,zzb,zzc,zzd,zze,zzf])
       clear hK K
       have hoE := Mem.Own.empty w5.drew w5.heap.size 5 (fun _ => 0) (Nat.le_refl _)
       have hBE : Below w5.heap.size w5 (w5.drew.alloc (.cells #[] 5)) := (Below.refl _ _).drew.alloc (Nat.le_refl _) _
       have hRY := ((HY.out.below HN5.out).more HN5.out.size).below hBE
       have hbE : w5.heap.size ≤ (w5.drew.alloc (.cells #[] 5)).heap.size := hBE.size
       generalize hwE : w5.drew.alloc (.cells #[] 5) = wE at hoE hBE hRY hbE hS1 ⊢
       clear hwE
       refine wpAnyH_ready (rs := [3]) (by kernel_rfl) (by simp) (AllReadyH.cons rfl (fun K hK => ?_) AllReadyH.nil)
       (try simp only [Act.put,zza,zzb,zzc,zzd,zze,zzf])
       refine Eq.mpr (if_pos (by rfl)) ?_
       refine wp_app_gen _ _ 22 rfl w5.heap.size 5 (.int .u8 0) Tryz.underlying22 info_u8 rfl _ 0 _ rfl hoE A' 16 c' _ _ hRY (fun h => by have := HY.out (by omega); obtain ⟨ad, h2, -⟩ := this; rw [h] at h2; cases h2) rfl (by omega) hbE ?_
       intro v8 w8 ho8 hB8
       (try simp only [Act.put,zza,zzb,zzc,zzd,zze,zzf])
       have hS2 := hS1.trans (hB8.mono (by omega))
       refine hK.out _ _ hS2 (fun _ => ?_)
       (try simp only [Act.put,zza,zzb,zzc,zzd,zze,zzf])
       clear hK K
       try rw [Nat.zero_add] at ho8
       obtain ⟨A8, c8, rfl, hc8, -, -⟩ := ho8.slice'
       have hR8 := ho8.reads.ext (g := fun i => F (j + i)) (fun i hi => by unfold cat; simp)
       have hB58 := hBE.trans hB8
       have d8 := Ho5.out.below hB58 Ho5.out.lt
       refine wpAnyH_ready (rs := [4]) (by kernel_rfl) (by simp) (ready_one rfl rfl (fun K hK => ?_))
       (try simp only [Act.put,zza,zzb,zzc,zzd,zze,zzf])
       with_reducible refine wp_store_blk 37 _ _ rfl (w.heap.size + 1) (row 2 (bookC (.slice A6 rl c6) (.slice (cutA A' 16 c') (n - j - 16) (c' - 16)))) rfl rfl 37 _ d8 (iRB' _) (by simp [row_size]) (one2 _ _ _ _ _ _) ?_
       (try simp only [Act.put,zza,zzb,zzc,zzd,zze,zzf])
       refine hK.out _ _ (below_setRow' hS2 (Nat.le_refl _) _) (fun hSz => ?_)
       (try simp only [Act.put,zza,zzb,zzc,zzd,zze,zzf])
       refine ztk (i := 5) (v := .slice A8 16 c8) rfl (fun _ _ => exec_assign _ rfl _ rfl) hSz ?_
       (try simp only [Act.put,zza,zzb,zzc,zzd,zze,zzf])
       refine ztk (i := 6) (v := .bool true) rfl (fun _ _ => exec_assign _ rfl _ rfl) hSz ?_
       (try simp only [Act.put,zza,zzb,zzc,zzd,zze,zzf])
       refine wpAnyH_done (by kernel_rfl) ?_ _
       clear hK
       have hB9 := below_setRow' ((HN5.out.trans (hB58.mono (by have := HN5.out.size; omega)))) (Nat.le_succ w.heap.size) (row 2 (bookC (.slice A6 rl c6) (.slice (cutA A' 16 c') (n - j - 16) (c' - 16))))
       have hk9 : ∀ g, g < wz.heap.size → w.heap.size + 1 < g → (w8.setRow (w.heap.size + 1) (row 2 (bookC (.slice A6 rl c6) (.slice (cutA A' 16 c') (n - j - 16) (c' - 16))))).heap[g]? = wz.heap[g]? := fun g hg hlo => by
        rw [setRow_other w8 (w.heap.size + 1) g _ (by omega), hB58.block g (by omega)]
        exact HP.out.kept g hg (by omega)
       have hs9 : wz.heap.size ≤ (w8.setRow (w.heap.size + 1) (row 2 (bookC (.slice A6 rl c6) (.slice (cutA A' 16 c') (n - j - 16) (c' - 16))))).heap.size := by
        have := hB58.size
        simp
        omega
       have hbz : Below w.heap.size wz (w8.setRow (w.heap.size + 1) (row 2 (bookC (.slice A6 rl c6) (.slice (cutA A' 16 c') (n - j - 16) (c' - 16))))) := below_setRow' (HP.out.bel.trans (hB58.mono (by have := HN5.out.size; omega))) (Nat.le_succ _) _
       have ho9 : OwnL (w8.setRow (w.heap.size + 1) (row 2 (bookC (.slice A6 rl c6) (.slice (cutA A' 16 c') (n - j - 16) (c' - 16))))) wz.heap.size (.slice A6 (R.length + 1) c6) (R.length + 1) _ := OwnL.kept HP.out.own (fun g hg hl => by rw [setRow_other w8 (w.heap.size + 1) g _ (by omega)]; exact hB58.block g hl)
       have h89 := d8.setRow (row 2 (bookC (.slice A6 rl c6) (.slice (cutA A' 16 c') (n - j - 16) (c' - 16))))
       have hR9 : Reads (w8.setRow (w.heap.size + 1) (row 2 (bookC (.slice A6 rl c6) (.slice (cutA A' 16 c') (n - j - 16) (c' - 16))))) (w8.setRow (w.heap.size + 1) (row 2 (bookC (.slice A6 rl c6) (.slice (cutA A' 16 c') (n - j - 16) (c' - 16))))).heap.size A8 16 (fun i => F (j + i)) := reads_kept (g0 := w.heap.size + 1) hR8 (fun q h => by have := own_lo ho8 q h; omega) (fun g _ hlo => setRow_other w8 (w.heap.size + 1) g _ (by omega)) (by simp)
       generalize w8.setRow (w.heap.size + 1) (row 2 (bookC (.slice A6 rl c6) (.slice (cutA A' 16 c') (n - j - 16) (c' - 16)))) = w9 at *
       have hall : ∀ W, Agree B0 w w9 W → RowsAt W W.heap.size A6 Lk (R ++ [(mk false (strF Lk key) x fun i => F (j + i))]) := fun W ha => by
        have hkW : ∀ g, g < wz.heap.size → w.heap.size + 1 < g → W.heap[g]? = wz.heap[g]? := fun g hg hlo => (ha.block g (by omega) (.inr (by omega))).trans (hk9 g hg hlo)
        have hsW : wz.heap.size ≤ W.heap.size := Nat.le_trans hs9 ha.size
        have hbW : ∀ g, B0 g → W.heap[g]? = wz.heap[g]? := fun g hg => (ha.block g (by have := HNz.out.size; have := hB0 g hg; omega) (.inl hg)).trans (hbz.block g (hB0 g hg))
        have hnr : RowC W W.heap.size Lk (mk false (strF Lk key) x fun i => F (j + i)) (rowC (.slice An1 Lk cn1) (.slice An2 16 cn2) (.slice An3 16 cn3)) := ⟨⟨An1, cn1, key, rfl, reads_kept (g0 := w.heap.size + 1) HOkz.out (fun q h => by have := hlo1 q h; have := hltz.out; omega) hkW hsW, Hkb.out, rfl⟩, ⟨_, _, rfl, hcn2, reads_kept (g0 := w.heap.size + 1) HOxz.out (fun q h => by have := hlo2 q h; have := hltz.out; omega) hkW hsW⟩, ⟨_, _, rfl, hcn3, reads_kept (g0 := w.heap.size + 1) HOyz.out (fun q h => by have := hlo3 q h; have := hltz.out; omega) hkW hsW⟩⟩
        have hrows := rows_new hxl (fun q hq => ((Hxr.out q hq).keep hbW).more (fun g hg => by have := HNz.out.size; have := hB0 g hg; omega)) hnr
        have hoW : OwnL W wz.heap.size (.slice A6 (R.length + 1) c6) (R.length + 1) _ := OwnL.kept ho9 (fun g hg hl => ha.block g hl (.inr (by have := HNz.out.size; omega)))
        obtain ⟨A9, c9, hv9, hRows⟩ := OwnL.rows (R := R ++ [(mk false (strF Lk key) x fun i => F (j + i))]) hoW (by simp) hrows (Nat.le_refl _)
        injection hv9 with hA9 hL9 hC9
        subst hA9
        exact hRows
       have hL9 : R.length + 1 = (R ++ [(mk false (strF Lk key) x fun i => F (j + i))]).length := by simp
       have hA6 : A6 = none → (R ++ [(mk false (strF Lk key) x fun i => F (j + i))]).length = 0 ∧ c6 = 0 := fun h => by obtain ⟨ad, h2, -⟩ := hall w9 (Agree.refl _ _ _) R.length (by simp); rw [h] at h2; cases h2
       have hR9W : ∀ W, Agree B0 w w9 W → Reads W W.heap.size A8 16 (fun i => F (j + i)) := fun W ha => reads_kept (g0 := w.heap.size) hR9 (fun q h => by have := own_lo ho8 q h; have := HN5.out.size; omega) (fun g hg hlo => ha.block g hg (.inr (by omega))) ha.size
       go_wp2_with fail
       refine ret_row3 Tryz.results54 rfl (w.heap.size + 1) rfl _ rfl _ rfl 37 2 _ h89 _ Tryz.underlying37 iRB ⟨hB9, A6, c6, cutA A' 16 c', c' - 16, _, true, ?_, (fun W ha => ⟨hall W ha, ?_⟩), by omega, hA6, .inl ⟨_, A8, c8, rfl, rfl, rfl, hR9W⟩⟩
       ·rw [row2, Hrl.out, hL9, Nat.sub_sub]
        rfl
       rw [← Nat.sub_sub]
       exact ha.reads hB0 hB9 HTn.out
      have HB4z := (Below.refl wn3.heap.size wn3).alloc (Nat.le_refl _) (.cells (row 3 (rowC (.slice An1 Lk cn1) (.slice An3 16 cn3) (.slice An2 16 cn2))) 128)
      have hq0 : (wn3.alloc (.cells (row 3 (rowC (.slice An1 Lk cn1) (.slice An2 16 cn2) (.slice An3 16 cn3))) 128)).cell? ⟨wn3.heap.size, 0, none⟩ = some (.slice An1 Lk cn1) := (Blk.fresh wn3 128 (row 3 (rowC (.slice An1 Lk cn1) (.slice An2 16 cn2) (.slice An3 16 cn3)))).cell 0
      have hq1 : (wn3.alloc (.cells (row 3 (rowC (.slice An1 Lk cn1) (.slice An2 16 cn2) (.slice An3 16 cn3))) 128)).cell? ⟨wn3.heap.size, 1, none⟩ = some (.slice An2 16 cn2) := (Blk.fresh wn3 128 (row 3 (rowC (.slice An1 Lk cn1) (.slice An2 16 cn2) (.slice An3 16 cn3)))).cell 1
      have hq2 : (wn3.alloc (.cells (row 3 (rowC (.slice An1 Lk cn1) (.slice An2 16 cn2) (.slice An3 16 cn3))) 128)).cell? ⟨wn3.heap.size, 2, none⟩ = some (.slice An3 16 cn3) := (Blk.fresh wn3 128 (row 3 (rowC (.slice An1 Lk cn1) (.slice An2 16 cn2) (.slice An3 16 cn3)))).cell 2
      have hr4 : #[Value.slice An1 Lk cn1, .slice An3 16 cn3, .slice An2 16 cn2] = row 3 (rowC (.slice An1 Lk cn1) (.slice An3 16 cn3) (.slice An2 16 cn2)) := rowC_eq _ _ _
      go_wp2_with (first
       | (with_reducible refine wpl_alloc rfl 128 rfl _ zRow ?_)
       | (with_reducible refine wpl_store_newS rfl 128 _ _ rfl wn3 _ 3 _ (rowC_one _ _ _ rfl rfl rfl) rfl rfl 128 iRow (row_size _ _) ?_))
      clear hr3 hr4 hq0 hq1 hq2
      have HZr := hid (Blk.fresh wn3 128 (row 3 (rowC (.slice An1 Lk cn1) (.slice An3 16 cn3) (.slice An2 16 cn2))))
      have H4z := hid (H43.out.below HB4z H43.out.lt)
      have H8z := hid (H83.out.below HB4z H83.out.lt)
      have HNz := hid (HN3.out.trans (HB4z.mono HN3.out.size))
      have HOkz := hid ((HO1xx.out.below HB4z).more HB4z.size)
      have HOxz := hid ((HO2x.out.below HB4z).more HB4z.size)
      have HOyz := hid ((HO3.out.below HB4z).more HB4z.size)
      have hszz : Hid (wn3.heap.size < (wn3.alloc (.cells (row 3 (rowC (.slice An1 Lk cn1) (.slice An3 16 cn3) (.slice An2 16 cn2))) 128)).heap.size) := hid (by simp)
      have hltz : Hid (w.heap.size + 1 < wn0.heap.size) := hid hlt0
      have hgr0 : Hid (wn0.heap.size ≤ wn3.heap.size) := hid (by omega)
      clear HB4z HO1xx HO2x HO3 H43 H83 HN3
      generalize wn3.alloc (.cells (row 3 (rowC (.slice An1 Lk cn1) (.slice An3 16 cn3) (.slice An2 16 cn2))) 128) = wz at *
      generalize wn3.heap.size = gr at *
      have hz1 : w.heap.size + 1 < wz.heap.size := by have := hszz.out; have := hltz.out; omega
      obtain ⟨xs, hxl, hx1, hxc, hxr⟩ := (HR0.out.keep (fun g hg => HNz.out.block g (hB0 g hg))).cells
      have Hxr := hid hxr
      clear hxr
      have c4 : ∀ W, Below wz.heap.size wz W → W.cell? ⟨w.heap.size, 0, none⟩ = some (.slice Ar R.length cr) := fun W hW => (H4z.out.below hW H4z.out.lt).cell 0
      have hgrw : gr ≠ w.heap.size := by have := hltz.out; have := hgr0.out; omega
      have hxc2 : ∀ W, Below wz.heap.size wz W → ∀ q u, xs[q]? = some u → ∃ ad, Ar = some ad ∧ W.cell? (ad.add q) = some u := fun W hW q u hu => by
       obtain ⟨ad, h1, h2⟩ := hxc q u hu
       exact ⟨ad, h1, (hW.cell (p := ad.add q) (block_lt_of_cell h2)).trans h2⟩
      have hrl : R.length ≤ 1000 := hlen
      clear hxc
      have hnw : ([(.slice An1 Lk cn1 : Value), .slice An3 16 cn3, .slice An2 16 cn2] : List Value).length = 1 * 3 := rfl
      have hn1 : ∀ u ∈ ([(.slice An1 Lk cn1 : Value), .slice An3 16 cn3, .slice An2 16 cn2] : List Value), u.oneCell' = true := by simp [Value.oneCell']
      have hnc : ∀ (W : World) (g : Nat), Blk W g 128 (row 3 (rowC (.slice An1 Lk cn1) (.slice An3 16 cn3) (.slice An2 16 cn2))) → ∀ q u, ([(.slice An1 Lk cn1 : Value), .slice An3 16 cn3, .slice An2 16 cn2] : List Value)[q]? = some u → ∃ ad, some (⟨g, 0, none⟩ : Addr) = some ad ∧ W.cell? (ad.add q) = some u := fun W g hb q u hu => ⟨_, rfl, by
       rw [add_zero_off, hb.cell, ← rowC_eq]
       match q, hu with
       | 0, hu => simpa using hu
       | 1, hu => simpa using hu
       | 2, hu => simpa using hu
       | q + 3, hu => simp at hu⟩
      have c17 : ∀ W, KeptB w wz W → ∀ q, q < 3 → W.cell? ((⟨gr, 0, none⟩ : Addr).add q) = some ((rowC (.slice An1 Lk cn1) (.slice An3 16 cn3) (.slice An2 16 cn2)) q) := fun W hW q hq => by
       rw [add_zero_off]
       rw [World.cell?_of_block (w := wz) (w' := W) (a := ⟨gr, q, none⟩) (hW.1 gr HZr.out.lt hgrw)]
       exact (HZr.out.cell q).trans (row_get 3 _ q hq)
      apply suffN (F := Past24 w wz (.slice (cutA A' 16 c') (n - j - 16) (c' - 16)) (R.length + 1) (xs ++ [.slice An1 Lk cn1, .slice An3 16 cn3, .slice An2 16 cn2]))
      case h1 =>
       intro kk
       refine wp_region_held_drew (S := fun W => KeptB w wz W) (by kernel_rfl) (keptB (Below.refl _ _).drew) (fun hS0 => ?_)
       have hB0 : Below wz.heap.size wz wz.drew := (Below.refl _ _).drew
       refine ztk (i := 1) (v := .pointer (some ⟨w.heap.size, 0, none⟩)) rfl (fun W _ => by go_simp) hS0 ?_
       (try simp only [Act.put,zza,zzb,zzc,zzd,zze,zzf])
       refine ztk (i := 4) (v := .agg (row 3 (rowC (.slice An1 Lk cn1) (.slice An3 16 cn3) (.slice An2 16 cn2)))) rfl (fun W hW => exec_loadSt 128 _ rfl ⟨gr, 0, none⟩ rfl 3 _ (c17 W hW) _ Tryz.underlying128 iRow) hS0 ?_
       (try simp only [Act.put,zza,zzb,zzc,zzd,zze,zzf])
       have hd0 : wz.drew.heap.size = wz.heap.size := rfl
       generalize hwd : wz.drew = wd0 at hB0 hd0 hS0 ⊢
       clear hwd hS0
       have hB_wd0 := hB0
       refine wpAnyH_ready (rs := [0, 2, 5]) (by kernel_rfl) (by simp) ?_
       refine AllReadyH.cons rfl (fun K hK => ?_) (AllReadyH.cons rfl (fun K hK => ?_) (AllReadyH.cons rfl (fun K hK => ?_) AllReadyH.nil))
       (try simp only [Act.put,zza,zzb,zzc,zzd,zze,zzf])
       refine Eq.mpr (if_pos (by rfl)) ?_
       refine wp_valw _ (exec_bs0 35 rfl (.slice (some ⟨wd0.heap.size, 0, none⟩) 0 0) (bsR0 _)) ?_
       (try simp only [Act.put,zza,zzb,zzc,zzd,zze,zzf])
       refine hK.out _ _ (keptB (hB_wd0.alloc hB_wd0.size _)) (fun _ => ?_)
       (try simp only [Act.put,zza,zzb,zzc,zzd,zze,zzf])
       clear hK K
       have hoE1 := OwnL.empty wd0 wz.heap.size hB_wd0.size
       have hB_wx1 := hB_wd0.alloc hB_wd0.size (.cells #[] 128)
       have hsE1 : wd0.heap.size < (wd0.alloc (.cells #[] 128)).heap.size := by simp
       generalize hw1 : wd0.alloc (.cells #[] 128) = wx1 at hoE1 hB_wx1 hsE1 ⊢
       clear hw1
       refine wpAnyH_ready (rs := [2, 5]) (by kernel_rfl) (by simp) ?_
       refine AllReadyH.cons rfl (fun K hK => ?_) (AllReadyH.cons rfl (fun K hK => ?_) AllReadyH.nil)
       (try simp only [Act.put,zza,zzb,zzc,zzd,zze,zzf])
       refine Eq.mpr (if_pos (by rfl)) ?_
       refine wp_valw _ (exec_ldsl 35 _ rfl ⟨w.heap.size, 0, none⟩ rfl 128 Tryz.underlying35 (.slice Ar R.length cr) (c4 _ hB_wx1)) ?_
       (try simp only [Act.put,zza,zzb,zzc,zzd,zze,zzf])
       refine hK.out _ _ (keptB hB_wx1) (fun _ => ?_)
       (try simp only [Act.put,zza,zzb,zzc,zzd,zze,zzf])
       clear hK K
       refine wpAnyH_ready (rs := [3, 5]) (by kernel_rfl) (by simp) ?_
       refine AllReadyH.cons rfl (fun K hK => ?_) (AllReadyH.cons rfl (fun K hK => ?_) AllReadyH.nil)
       (try simp only [Act.put,zza,zzb,zzc,zzd,zze,zzf])
       refine Eq.mpr (if_pos (by rfl)) ?_
       refine wp_appL _ _ rfl wz.heap.size _ 0 [] rfl hoE1 Ar R.length cr xs rfl hxl HAr.out (hxc2 _ hB_wx1) hx1 (by omega) hB_wx1.size ?_
       intro v3_3 wx3 ho3_3 hB3_3 hG3_3
       (try simp only [Act.put,zza,zzb,zzc,zzd,zze,zzf])
       have hB_wx3 := hB_wx1.trans hB3_3
       refine hK.out _ _ (keptB hB_wx3) (fun _ => ?_)
       (try simp only [Act.put,zza,zzb,zzc,zzd,zze,zzf])
       clear hK K
       rw [Nat.zero_add, List.nil_append] at ho3_3
       refine wpAnyH_ready (rs := [5]) (by kernel_rfl) (by simp) (AllReadyH.cons rfl (fun K hK => ?_) AllReadyH.nil)
       (try simp only [Act.put,zza,zzb,zzc,zzd,zze,zzf])
       refine Eq.mpr (if_pos (by rfl)) ?_
       refine wp_valw _ (exec_bs1 35 _ rfl (.agg (row 3 (rowC (.slice An1 Lk cn1) (.slice An3 16 cn3) (.slice An2 16 cn2)))) (.slice (some ⟨wx3.heap.size, 0, none⟩) 1 1) rfl (bsR1 _ _ _ _)) ?_
       (try simp only [Act.put,zza,zzb,zzc,zzd,zze,zzf])
       refine hK.out _ _ (keptB (hB_wx3.alloc hB_wx3.size _)) (fun _ => ?_)
       (try simp only [Act.put,zza,zzb,zzc,zzd,zze,zzf])
       clear hK K
       have hb5_4 := Blk.fresh wx3 128 (row 3 (rowC (.slice An1 Lk cn1) (.slice An3 16 cn3) (.slice An2 16 cn2)))
       have hB_wx4 := hB_wx3.alloc hB_wx3.size (.cells (row 3 (rowC (.slice An1 Lk cn1) (.slice An3 16 cn3) (.slice An2 16 cn2))) 128)
       have own0_4 := OwnL.alloc hoE1 (.cells (row 3 (rowC (.slice An1 Lk cn1) (.slice An3 16 cn3) (.slice An2 16 cn2))) 128)
       have own3_4 := OwnL.alloc ho3_3 (.cells (row 3 (rowC (.slice An1 Lk cn1) (.slice An3 16 cn3) (.slice An2 16 cn2))) 128)
       generalize hw4 : wx3.alloc (.cells (row 3 (rowC (.slice An1 Lk cn1) (.slice An3 16 cn3) (.slice An2 16 cn2))) 128) = wx4 at hb5_4 hB_wx4 own0_4 own3_4 ⊢
       clear hw4
       obtain ⟨g0E, hg0E⟩ : ∃ g, g = wd0.heap.size := ⟨_, rfl⟩
       rw [← hg0E]
       obtain ⟨g5E, hg5E⟩ : ∃ g, g = wx3.heap.size := ⟨_, rfl⟩
       rw [← hg5E]
       have hb5E := hb5_4
       rw [← hg5E] at hb5E
       have ho3E := own3_4
       have hB_E := hB_wx4
       clear hg0E hg5E hb5_4 own3_4
       obtain ⟨v3E, hE⟩ : ∃ x, x = v3_3 := ⟨_, rfl⟩
       subst hE
       obtain ⟨wE, hE⟩ : ∃ x, x = wx4 := ⟨_, rfl⟩
       subst hE
       rotate_left
       (try simp only [Act.put,zza,zzb,zzc,zzd,zze,zzf])
       refine Eq.mpr (if_pos (by rfl)) ?_
       refine wp_valw _ (exec_bs1 35 _ rfl (.agg (row 3 (rowC (.slice An1 Lk cn1) (.slice An3 16 cn3) (.slice An2 16 cn2)))) (.slice (some ⟨wx1.heap.size, 0, none⟩) 1 1) rfl (bsR1 _ _ _ _)) ?_
       (try simp only [Act.put,zza,zzb,zzc,zzd,zze,zzf])
       refine hK.out _ _ (keptB (hB_wx1.alloc hB_wx1.size _)) (fun _ => ?_)
       (try simp only [Act.put,zza,zzb,zzc,zzd,zze,zzf])
       clear hK K
       have hb5_6 := Blk.fresh wx1 128 (row 3 (rowC (.slice An1 Lk cn1) (.slice An3 16 cn3) (.slice An2 16 cn2)))
       have hB_wx6 := hB_wx1.alloc hB_wx1.size (.cells (row 3 (rowC (.slice An1 Lk cn1) (.slice An3 16 cn3) (.slice An2 16 cn2))) 128)
       have own0_6 := OwnL.alloc hoE1 (.cells (row 3 (rowC (.slice An1 Lk cn1) (.slice An3 16 cn3) (.slice An2 16 cn2))) 128)
       generalize hw6 : wx1.alloc (.cells (row 3 (rowC (.slice An1 Lk cn1) (.slice An3 16 cn3) (.slice An2 16 cn2))) 128) = wx6 at hb5_6 hB_wx6 own0_6 ⊢
       clear hw6
       refine wpAnyH_ready (rs := [3]) (by kernel_rfl) (by simp) (AllReadyH.cons rfl (fun K hK => ?_) AllReadyH.nil)
       (try simp only [Act.put,zza,zzb,zzc,zzd,zze,zzf])
       refine Eq.mpr (if_pos (by rfl)) ?_
       refine wp_appL _ _ rfl wz.heap.size _ 0 [] rfl own0_6 Ar R.length cr xs rfl hxl HAr.out (hxc2 _ hB_wx6) hx1 (by omega) hB_wx6.size ?_
       intro v3_7 wx7 ho3_7 hB3_7 hG3_7
       (try simp only [Act.put,zza,zzb,zzc,zzd,zze,zzf])
       have hB_wx7 := hB_wx6.trans hB3_7
       refine hK.out _ _ (keptB hB_wx7) (fun _ => ?_)
       (try simp only [Act.put,zza,zzb,zzc,zzd,zze,zzf])
       clear hK K
       rw [Nat.zero_add, List.nil_append] at ho3_7
       have hb5_7 := hb5_6.grown hG3_7 (ne_own (by omega))
       obtain ⟨g0E, hg0E⟩ : ∃ g, g = wd0.heap.size := ⟨_, rfl⟩
       rw [← hg0E]
       obtain ⟨g5E, hg5E⟩ : ∃ g, g = wx1.heap.size := ⟨_, rfl⟩
       rw [← hg5E]
       have hb5E := hb5_7
       rw [← hg5E] at hb5E
       have ho3E := ho3_7
       have hB_E := hB_wx7
       clear hg0E hg5E hb5_7 ho3_7
       obtain ⟨v3E, hE⟩ : ∃ x, x = v3_7 := ⟨_, rfl⟩
       subst hE
       obtain ⟨wE, hE⟩ : ∃ x, x = wx7 := ⟨_, rfl⟩
       subst hE
       rotate_left
       (try simp only [Act.put,zza,zzb,zzc,zzd,zze,zzf])
       refine Eq.mpr (if_pos (by rfl)) ?_
       refine wp_valw _ (exec_bs1 35 _ rfl (.agg (row 3 (rowC (.slice An1 Lk cn1) (.slice An3 16 cn3) (.slice An2 16 cn2)))) (.slice (some ⟨wx1.heap.size, 0, none⟩) 1 1) rfl (bsR1 _ _ _ _)) ?_
       (try simp only [Act.put,zza,zzb,zzc,zzd,zze,zzf])
       refine hK.out _ _ (keptB (hB_wx1.alloc hB_wx1.size _)) (fun _ => ?_)
       (try simp only [Act.put,zza,zzb,zzc,zzd,zze,zzf])
       clear hK K
       have hb5_9 := Blk.fresh wx1 128 (row 3 (rowC (.slice An1 Lk cn1) (.slice An3 16 cn3) (.slice An2 16 cn2)))
       have hB_wx9 := hB_wx1.alloc hB_wx1.size (.cells (row 3 (rowC (.slice An1 Lk cn1) (.slice An3 16 cn3) (.slice An2 16 cn2))) 128)
       have own0_9 := OwnL.alloc hoE1 (.cells (row 3 (rowC (.slice An1 Lk cn1) (.slice An3 16 cn3) (.slice An2 16 cn2))) 128)
       generalize hw9 : wx1.alloc (.cells (row 3 (rowC (.slice An1 Lk cn1) (.slice An3 16 cn3) (.slice An2 16 cn2))) 128) = wx9 at hb5_9 hB_wx9 own0_9 ⊢
       clear hw9
       refine wpAnyH_ready (rs := [2]) (by kernel_rfl) (by simp) (AllReadyH.cons rfl (fun K hK => ?_) AllReadyH.nil)
       (try simp only [Act.put,zza,zzb,zzc,zzd,zze,zzf])
       refine Eq.mpr (if_pos (by rfl)) ?_
       refine wp_valw _ (exec_ldsl 35 _ rfl ⟨w.heap.size, 0, none⟩ rfl 128 Tryz.underlying35 (.slice Ar R.length cr) (c4 _ hB_wx9)) ?_
       (try simp only [Act.put,zza,zzb,zzc,zzd,zze,zzf])
       refine hK.out _ _ (keptB hB_wx9) (fun _ => ?_)
       (try simp only [Act.put,zza,zzb,zzc,zzd,zze,zzf])
       clear hK K
       refine wpAnyH_ready (rs := [3]) (by kernel_rfl) (by simp) (AllReadyH.cons rfl (fun K hK => ?_) AllReadyH.nil)
       (try simp only [Act.put,zza,zzb,zzc,zzd,zze,zzf])
       refine Eq.mpr (if_pos (by rfl)) ?_
       refine wp_appL _ _ rfl wz.heap.size _ 0 [] rfl own0_9 Ar R.length cr xs rfl hxl HAr.out (hxc2 _ hB_wx9) hx1 (by omega) hB_wx9.size ?_
       intro v3_11 wx11 ho3_11 hB3_11 hG3_11
       (try simp only [Act.put,zza,zzb,zzc,zzd,zze,zzf])
       have hB_wx11 := hB_wx9.trans hB3_11
       refine hK.out _ _ (keptB hB_wx11) (fun _ => ?_)
       (try simp only [Act.put,zza,zzb,zzc,zzd,zze,zzf])
       clear hK K
       rw [Nat.zero_add, List.nil_append] at ho3_11
       have hb5_11 := hb5_9.grown hG3_11 (ne_own (by omega))
       obtain ⟨g0E, hg0E⟩ : ∃ g, g = wd0.heap.size := ⟨_, rfl⟩
       rw [← hg0E]
       obtain ⟨g5E, hg5E⟩ : ∃ g, g = wx1.heap.size := ⟨_, rfl⟩
       rw [← hg5E]
       have hb5E := hb5_11
       rw [← hg5E] at hb5E
       have ho3E := ho3_11
       have hB_E := hB_wx11
       clear hg0E hg5E hb5_11 ho3_11
       obtain ⟨v3E, hE⟩ : ∃ x, x = v3_11 := ⟨_, rfl⟩
       subst hE
       obtain ⟨wE, hE⟩ : ∃ x, x = wx11 := ⟨_, rfl⟩
       subst hE
       rotate_left
       (try simp only [Act.put,zza,zzb,zzc,zzd,zze,zzf])
       refine Eq.mpr (if_pos (by rfl)) ?_
       refine wp_valw _ (exec_ldsl 35 _ rfl ⟨w.heap.size, 0, none⟩ rfl 128 Tryz.underlying35 (.slice Ar R.length cr) (c4 _ hB_wd0)) ?_
       (try simp only [Act.put,zza,zzb,zzc,zzd,zze,zzf])
       refine hK.out _ _ (keptB hB_wd0) (fun _ => ?_)
       (try simp only [Act.put,zza,zzb,zzc,zzd,zze,zzf])
       clear hK K
       refine wpAnyH_ready (rs := [0, 5]) (by kernel_rfl) (by simp) ?_
       refine AllReadyH.cons rfl (fun K hK => ?_) (AllReadyH.cons rfl (fun K hK => ?_) AllReadyH.nil)
       (try simp only [Act.put,zza,zzb,zzc,zzd,zze,zzf])
       refine Eq.mpr (if_pos (by rfl)) ?_
       refine wp_valw _ (exec_bs0 35 rfl (.slice (some ⟨wd0.heap.size, 0, none⟩) 0 0) (bsR0 _)) ?_
       (try simp only [Act.put,zza,zzb,zzc,zzd,zze,zzf])
       refine hK.out _ _ (keptB (hB_wd0.alloc hB_wd0.size _)) (fun _ => ?_)
       (try simp only [Act.put,zza,zzb,zzc,zzd,zze,zzf])
       clear hK K
       have hoE14 := OwnL.empty wd0 wz.heap.size hB_wd0.size
       have hB_wx14 := hB_wd0.alloc hB_wd0.size (.cells #[] 128)
       have hsE14 : wd0.heap.size < (wd0.alloc (.cells #[] 128)).heap.size := by simp
       generalize hw14 : wd0.alloc (.cells #[] 128) = wx14 at hoE14 hB_wx14 hsE14 ⊢
       clear hw14
       refine wpAnyH_ready (rs := [3, 5]) (by kernel_rfl) (by simp) ?_
       refine AllReadyH.cons rfl (fun K hK => ?_) (AllReadyH.cons rfl (fun K hK => ?_) AllReadyH.nil)
       (try simp only [Act.put,zza,zzb,zzc,zzd,zze,zzf])
       refine Eq.mpr (if_pos (by rfl)) ?_
       refine wp_appL _ _ rfl wz.heap.size _ 0 [] rfl hoE14 Ar R.length cr xs rfl hxl HAr.out (hxc2 _ hB_wx14) hx1 (by omega) hB_wx14.size ?_
       intro v3_15 wx15 ho3_15 hB3_15 hG3_15
       (try simp only [Act.put,zza,zzb,zzc,zzd,zze,zzf])
       have hB_wx15 := hB_wx14.trans hB3_15
       refine hK.out _ _ (keptB hB_wx15) (fun _ => ?_)
       (try simp only [Act.put,zza,zzb,zzc,zzd,zze,zzf])
       clear hK K
       rw [Nat.zero_add, List.nil_append] at ho3_15
       refine wpAnyH_ready (rs := [5]) (by kernel_rfl) (by simp) (AllReadyH.cons rfl (fun K hK => ?_) AllReadyH.nil)
       (try simp only [Act.put,zza,zzb,zzc,zzd,zze,zzf])
       refine Eq.mpr (if_pos (by rfl)) ?_
       refine wp_valw _ (exec_bs1 35 _ rfl (.agg (row 3 (rowC (.slice An1 Lk cn1) (.slice An3 16 cn3) (.slice An2 16 cn2)))) (.slice (some ⟨wx15.heap.size, 0, none⟩) 1 1) rfl (bsR1 _ _ _ _)) ?_
       (try simp only [Act.put,zza,zzb,zzc,zzd,zze,zzf])
       refine hK.out _ _ (keptB (hB_wx15.alloc hB_wx15.size _)) (fun _ => ?_)
       (try simp only [Act.put,zza,zzb,zzc,zzd,zze,zzf])
       clear hK K
       have hb5_16 := Blk.fresh wx15 128 (row 3 (rowC (.slice An1 Lk cn1) (.slice An3 16 cn3) (.slice An2 16 cn2)))
       have hB_wx16 := hB_wx15.alloc hB_wx15.size (.cells (row 3 (rowC (.slice An1 Lk cn1) (.slice An3 16 cn3) (.slice An2 16 cn2))) 128)
       have own0_16 := OwnL.alloc hoE14 (.cells (row 3 (rowC (.slice An1 Lk cn1) (.slice An3 16 cn3) (.slice An2 16 cn2))) 128)
       have own3_16 := OwnL.alloc ho3_15 (.cells (row 3 (rowC (.slice An1 Lk cn1) (.slice An3 16 cn3) (.slice An2 16 cn2))) 128)
       generalize hw16 : wx15.alloc (.cells (row 3 (rowC (.slice An1 Lk cn1) (.slice An3 16 cn3) (.slice An2 16 cn2))) 128) = wx16 at hb5_16 hB_wx16 own0_16 own3_16 ⊢
       clear hw16
       obtain ⟨g0E, hg0E⟩ : ∃ g, g = wd0.heap.size := ⟨_, rfl⟩
       rw [← hg0E]
       obtain ⟨g5E, hg5E⟩ : ∃ g, g = wx15.heap.size := ⟨_, rfl⟩
       rw [← hg5E]
       have hb5E := hb5_16
       rw [← hg5E] at hb5E
       have ho3E := own3_16
       have hB_E := hB_wx16
       clear hg0E hg5E hb5_16 own3_16
       obtain ⟨v3E, hE⟩ : ∃ x, x = v3_15 := ⟨_, rfl⟩
       subst hE
       obtain ⟨wE, hE⟩ : ∃ x, x = wx16 := ⟨_, rfl⟩
       subst hE
       rotate_left
       (try simp only [Act.put,zza,zzb,zzc,zzd,zze,zzf])
       refine Eq.mpr (if_pos (by rfl)) ?_
       refine wp_valw _ (exec_bs1 35 _ rfl (.agg (row 3 (rowC (.slice An1 Lk cn1) (.slice An3 16 cn3) (.slice An2 16 cn2)))) (.slice (some ⟨wx14.heap.size, 0, none⟩) 1 1) rfl (bsR1 _ _ _ _)) ?_
       (try simp only [Act.put,zza,zzb,zzc,zzd,zze,zzf])
       refine hK.out _ _ (keptB (hB_wx14.alloc hB_wx14.size _)) (fun _ => ?_)
       (try simp only [Act.put,zza,zzb,zzc,zzd,zze,zzf])
       clear hK K
       have hb5_18 := Blk.fresh wx14 128 (row 3 (rowC (.slice An1 Lk cn1) (.slice An3 16 cn3) (.slice An2 16 cn2)))
       have hB_wx18 := hB_wx14.alloc hB_wx14.size (.cells (row 3 (rowC (.slice An1 Lk cn1) (.slice An3 16 cn3) (.slice An2 16 cn2))) 128)
       have own0_18 := OwnL.alloc hoE14 (.cells (row 3 (rowC (.slice An1 Lk cn1) (.slice An3 16 cn3) (.slice An2 16 cn2))) 128)
       generalize hw18 : wx14.alloc (.cells (row 3 (rowC (.slice An1 Lk cn1) (.slice An3 16 cn3) (.slice An2 16 cn2))) 128) = wx18 at hb5_18 hB_wx18 own0_18 ⊢
       clear hw18
       refine wpAnyH_ready (rs := [3]) (by kernel_rfl) (by simp) (AllReadyH.cons rfl (fun K hK => ?_) AllReadyH.nil)
       (try simp only [Act.put,zza,zzb,zzc,zzd,zze,zzf])
       refine Eq.mpr (if_pos (by rfl)) ?_
       refine wp_appL _ _ rfl wz.heap.size _ 0 [] rfl own0_18 Ar R.length cr xs rfl hxl HAr.out (hxc2 _ hB_wx18) hx1 (by omega) hB_wx18.size ?_
       intro v3_19 wx19 ho3_19 hB3_19 hG3_19
       (try simp only [Act.put,zza,zzb,zzc,zzd,zze,zzf])
       have hB_wx19 := hB_wx18.trans hB3_19
       refine hK.out _ _ (keptB hB_wx19) (fun _ => ?_)
       (try simp only [Act.put,zza,zzb,zzc,zzd,zze,zzf])
       clear hK K
       rw [Nat.zero_add, List.nil_append] at ho3_19
       have hb5_19 := hb5_18.grown hG3_19 (ne_own (by omega))
       obtain ⟨g0E, hg0E⟩ : ∃ g, g = wd0.heap.size := ⟨_, rfl⟩
       rw [← hg0E]
       obtain ⟨g5E, hg5E⟩ : ∃ g, g = wx14.heap.size := ⟨_, rfl⟩
       rw [← hg5E]
       have hb5E := hb5_19
       rw [← hg5E] at hb5E
       have ho3E := ho3_19
       have hB_E := hB_wx19
       clear hg0E hg5E hb5_19 ho3_19
       obtain ⟨v3E, hE⟩ : ∃ x, x = v3_19 := ⟨_, rfl⟩
       subst hE
       obtain ⟨wE, hE⟩ : ∃ x, x = wx19 := ⟨_, rfl⟩
       subst hE
       rotate_left
       (try simp only [Act.put,zza,zzb,zzc,zzd,zze,zzf])
       refine Eq.mpr (if_pos (by rfl)) ?_
       refine wp_valw _ (exec_bs1 35 _ rfl (.agg (row 3 (rowC (.slice An1 Lk cn1) (.slice An3 16 cn3) (.slice An2 16 cn2)))) (.slice (some ⟨wd0.heap.size, 0, none⟩) 1 1) rfl (bsR1 _ _ _ _)) ?_
       (try simp only [Act.put,zza,zzb,zzc,zzd,zze,zzf])
       refine hK.out _ _ (keptB (hB_wd0.alloc hB_wd0.size _)) (fun _ => ?_)
       (try simp only [Act.put,zza,zzb,zzc,zzd,zze,zzf])
       clear hK K
       have hb5_21 := Blk.fresh wd0 128 (row 3 (rowC (.slice An1 Lk cn1) (.slice An3 16 cn3) (.slice An2 16 cn2)))
       have hB_wx21 := hB_wd0.alloc hB_wd0.size (.cells (row 3 (rowC (.slice An1 Lk cn1) (.slice An3 16 cn3) (.slice An2 16 cn2))) 128)
       generalize hw21 : wd0.alloc (.cells (row 3 (rowC (.slice An1 Lk cn1) (.slice An3 16 cn3) (.slice An2 16 cn2))) 128) = wx21 at hb5_21 hB_wx21 ⊢
       clear hw21
       refine wpAnyH_ready (rs := [0]) (by kernel_rfl) (by simp) (AllReadyH.cons rfl (fun K hK => ?_) AllReadyH.nil)
       (try simp only [Act.put,zza,zzb,zzc,zzd,zze,zzf])
       refine Eq.mpr (if_pos (by rfl)) ?_
       refine wp_valw _ (exec_bs0 35 rfl (.slice (some ⟨wx21.heap.size, 0, none⟩) 0 0) (bsR0 _)) ?_
       (try simp only [Act.put,zza,zzb,zzc,zzd,zze,zzf])
       refine hK.out _ _ (keptB (hB_wx21.alloc hB_wx21.size _)) (fun _ => ?_)
       (try simp only [Act.put,zza,zzb,zzc,zzd,zze,zzf])
       clear hK K
       have hoE22 := OwnL.empty wx21 wz.heap.size hB_wx21.size
       have hB_wx22 := hB_wx21.alloc hB_wx21.size (.cells #[] 128)
       have hsE22 : wx21.heap.size < (wx21.alloc (.cells #[] 128)).heap.size := by simp
       have hb5_22 := hb5_21.alloc (.cells #[] 128)
       have hb5l_22 := hb5_21.lt
       generalize hw22 : wx21.alloc (.cells #[] 128) = wx22 at hoE22 hB_wx22 hsE22 hb5_22 ⊢
       clear hw22
       refine wpAnyH_ready (rs := [3]) (by kernel_rfl) (by simp) (AllReadyH.cons rfl (fun K hK => ?_) AllReadyH.nil)
       (try simp only [Act.put,zza,zzb,zzc,zzd,zze,zzf])
       refine Eq.mpr (if_pos (by rfl)) ?_
       refine wp_appL _ _ rfl wz.heap.size _ 0 [] rfl hoE22 Ar R.length cr xs rfl hxl HAr.out (hxc2 _ hB_wx22) hx1 (by omega) hB_wx22.size ?_
       intro v3_23 wx23 ho3_23 hB3_23 hG3_23
       (try simp only [Act.put,zza,zzb,zzc,zzd,zze,zzf])
       have hB_wx23 := hB_wx22.trans hB3_23
       refine hK.out _ _ (keptB hB_wx23) (fun _ => ?_)
       (try simp only [Act.put,zza,zzb,zzc,zzd,zze,zzf])
       clear hK K
       rw [Nat.zero_add, List.nil_append] at ho3_23
       have hb5_23 := hb5_22.grown hG3_23 (ne_own (by omega))
       obtain ⟨g0E, hg0E⟩ : ∃ g, g = wx21.heap.size := ⟨_, rfl⟩
       rw [← hg0E]
       obtain ⟨g5E, hg5E⟩ : ∃ g, g = wd0.heap.size := ⟨_, rfl⟩
       rw [← hg5E]
       have hb5E := hb5_23
       rw [← hg5E] at hb5E
       have ho3E := ho3_23
       have hB_E := hB_wx23
       clear hg0E hg5E hb5_23 ho3_23
       obtain ⟨v3E, hE⟩ : ∃ x, x = v3_23 := ⟨_, rfl⟩
       subst hE
       obtain ⟨wE, hE⟩ : ∃ x, x = wx23 := ⟨_, rfl⟩
       subst hE
       rotate_left
       (try simp only [Act.put,zza,zzb,zzc,zzd,zze,zzf])
       refine Eq.mpr (if_pos (by rfl)) ?_
       refine wp_valw _ (exec_bs1 35 _ rfl (.agg (row 3 (rowC (.slice An1 Lk cn1) (.slice An3 16 cn3) (.slice An2 16 cn2)))) (.slice (some ⟨wd0.heap.size, 0, none⟩) 1 1) rfl (bsR1 _ _ _ _)) ?_
       (try simp only [Act.put,zza,zzb,zzc,zzd,zze,zzf])
       refine hK.out _ _ (keptB (hB_wd0.alloc hB_wd0.size _)) (fun _ => ?_)
       (try simp only [Act.put,zza,zzb,zzc,zzd,zze,zzf])
       clear hK K
       have hb5_25 := Blk.fresh wd0 128 (row 3 (rowC (.slice An1 Lk cn1) (.slice An3 16 cn3) (.slice An2 16 cn2)))
       have hB_wx25 := hB_wd0.alloc hB_wd0.size (.cells (row 3 (rowC (.slice An1 Lk cn1) (.slice An3 16 cn3) (.slice An2 16 cn2))) 128)
       generalize hw25 : wd0.alloc (.cells (row 3 (rowC (.slice An1 Lk cn1) (.slice An3 16 cn3) (.slice An2 16 cn2))) 128) = wx25 at hb5_25 hB_wx25 ⊢
       clear hw25
       refine wpAnyH_ready (rs := [0, 2]) (by kernel_rfl) (by simp) ?_
       refine AllReadyH.cons rfl (fun K hK => ?_) (AllReadyH.cons rfl (fun K hK => ?_) AllReadyH.nil)
       (try simp only [Act.put,zza,zzb,zzc,zzd,zze,zzf])
       refine Eq.mpr (if_pos (by rfl)) ?_
       refine wp_valw _ (exec_bs0 35 rfl (.slice (some ⟨wx25.heap.size, 0, none⟩) 0 0) (bsR0 _)) ?_
       (try simp only [Act.put,zza,zzb,zzc,zzd,zze,zzf])
       refine hK.out _ _ (keptB (hB_wx25.alloc hB_wx25.size _)) (fun _ => ?_)
       (try simp only [Act.put,zza,zzb,zzc,zzd,zze,zzf])
       clear hK K
       have hoE26 := OwnL.empty wx25 wz.heap.size hB_wx25.size
       have hB_wx26 := hB_wx25.alloc hB_wx25.size (.cells #[] 128)
       have hsE26 : wx25.heap.size < (wx25.alloc (.cells #[] 128)).heap.size := by simp
       have hb5_26 := hb5_25.alloc (.cells #[] 128)
       have hb5l_26 := hb5_25.lt
       generalize hw26 : wx25.alloc (.cells #[] 128) = wx26 at hoE26 hB_wx26 hsE26 hb5_26 ⊢
       clear hw26
       refine wpAnyH_ready (rs := [2]) (by kernel_rfl) (by simp) (AllReadyH.cons rfl (fun K hK => ?_) AllReadyH.nil)
       (try simp only [Act.put,zza,zzb,zzc,zzd,zze,zzf])
       refine Eq.mpr (if_pos (by rfl)) ?_
       refine wp_valw _ (exec_ldsl 35 _ rfl ⟨w.heap.size, 0, none⟩ rfl 128 Tryz.underlying35 (.slice Ar R.length cr) (c4 _ hB_wx26)) ?_
       (try simp only [Act.put,zza,zzb,zzc,zzd,zze,zzf])
       refine hK.out _ _ (keptB hB_wx26) (fun _ => ?_)
       (try simp only [Act.put,zza,zzb,zzc,zzd,zze,zzf])
       clear hK K
       refine wpAnyH_ready (rs := [3]) (by kernel_rfl) (by simp) (AllReadyH.cons rfl (fun K hK => ?_) AllReadyH.nil)
       (try simp only [Act.put,zza,zzb,zzc,zzd,zze,zzf])
       refine Eq.mpr (if_pos (by rfl)) ?_
       refine wp_appL _ _ rfl wz.heap.size _ 0 [] rfl hoE26 Ar R.length cr xs rfl hxl HAr.out (hxc2 _ hB_wx26) hx1 (by omega) hB_wx26.size ?_
       intro v3_28 wx28 ho3_28 hB3_28 hG3_28
       (try simp only [Act.put,zza,zzb,zzc,zzd,zze,zzf])
       have hB_wx28 := hB_wx26.trans hB3_28
       refine hK.out _ _ (keptB hB_wx28) (fun _ => ?_)
       (try simp only [Act.put,zza,zzb,zzc,zzd,zze,zzf])
       clear hK K
       rw [Nat.zero_add, List.nil_append] at ho3_28
       have hb5_28 := hb5_26.grown hG3_28 (ne_own (by omega))
       obtain ⟨g0E, hg0E⟩ : ∃ g, g = wx25.heap.size := ⟨_, rfl⟩
       rw [← hg0E]
       obtain ⟨g5E, hg5E⟩ : ∃ g, g = wd0.heap.size := ⟨_, rfl⟩
       rw [← hg5E]
       have hb5E := hb5_28
       rw [← hg5E] at hb5E
       have ho3E := ho3_28
       have hB_E := hB_wx28
       clear hg0E hg5E hb5_28 ho3_28
       obtain ⟨v3E, hE⟩ : ∃ x, x = v3_28 := ⟨_, rfl⟩
       subst hE
       obtain ⟨wE, hE⟩ : ∃ x, x = wx28 := ⟨_, rfl⟩
       subst hE
       rotate_left
       (try simp only [Act.put,zza,zzb,zzc,zzd,zze,zzf])
       refine Eq.mpr (if_pos (by rfl)) ?_
       refine wp_valw _ (exec_ldsl 35 _ rfl ⟨w.heap.size, 0, none⟩ rfl 128 Tryz.underlying35 (.slice Ar R.length cr) (c4 _ hB_wx25)) ?_
       (try simp only [Act.put,zza,zzb,zzc,zzd,zze,zzf])
       refine hK.out _ _ (keptB hB_wx25) (fun _ => ?_)
       (try simp only [Act.put,zza,zzb,zzc,zzd,zze,zzf])
       clear hK K
       refine wpAnyH_ready (rs := [0]) (by kernel_rfl) (by simp) (AllReadyH.cons rfl (fun K hK => ?_) AllReadyH.nil)
       (try simp only [Act.put,zza,zzb,zzc,zzd,zze,zzf])
       refine Eq.mpr (if_pos (by rfl)) ?_
       refine wp_valw _ (exec_bs0 35 rfl (.slice (some ⟨wx25.heap.size, 0, none⟩) 0 0) (bsR0 _)) ?_
       (try simp only [Act.put,zza,zzb,zzc,zzd,zze,zzf])
       refine hK.out _ _ (keptB (hB_wx25.alloc hB_wx25.size _)) (fun _ => ?_)
       (try simp only [Act.put,zza,zzb,zzc,zzd,zze,zzf])
       clear hK K
       have hoE31 := OwnL.empty wx25 wz.heap.size hB_wx25.size
       have hB_wx31 := hB_wx25.alloc hB_wx25.size (.cells #[] 128)
       have hsE31 : wx25.heap.size < (wx25.alloc (.cells #[] 128)).heap.size := by simp
       have hb5_31 := hb5_25.alloc (.cells #[] 128)
       have hb5l_31 := hb5_25.lt
       generalize hw31 : wx25.alloc (.cells #[] 128) = wx31 at hoE31 hB_wx31 hsE31 hb5_31 ⊢
       clear hw31
       refine wpAnyH_ready (rs := [3]) (by kernel_rfl) (by simp) (AllReadyH.cons rfl (fun K hK => ?_) AllReadyH.nil)
       (try simp only [Act.put,zza,zzb,zzc,zzd,zze,zzf])
       refine Eq.mpr (if_pos (by rfl)) ?_
       refine wp_appL _ _ rfl wz.heap.size _ 0 [] rfl hoE31 Ar R.length cr xs rfl hxl HAr.out (hxc2 _ hB_wx31) hx1 (by omega) hB_wx31.size ?_
       intro v3_32 wx32 ho3_32 hB3_32 hG3_32
       (try simp only [Act.put,zza,zzb,zzc,zzd,zze,zzf])
       have hB_wx32 := hB_wx31.trans hB3_32
       refine hK.out _ _ (keptB hB_wx32) (fun _ => ?_)
       (try simp only [Act.put,zza,zzb,zzc,zzd,zze,zzf])
       clear hK K
       rw [Nat.zero_add, List.nil_append] at ho3_32
       have hb5_32 := hb5_31.grown hG3_32 (ne_own (by omega))
       obtain ⟨g0E, hg0E⟩ : ∃ g, g = wx25.heap.size := ⟨_, rfl⟩
       rw [← hg0E]
       obtain ⟨g5E, hg5E⟩ : ∃ g, g = wd0.heap.size := ⟨_, rfl⟩
       rw [← hg5E]
       have hb5E := hb5_32
       rw [← hg5E] at hb5E
       have ho3E := ho3_32
       have hB_E := hB_wx32
       clear hg0E hg5E hb5_32 ho3_32
       obtain ⟨v3E, hE⟩ : ∃ x, x = v3_32 := ⟨_, rfl⟩
       subst hE
       obtain ⟨wE, hE⟩ : ∃ x, x = wx32 := ⟨_, rfl⟩
       subst hE
       rotate_left
       all_goals
        refine wpAnyH_ready (rs := [6]) (by kernel_rfl) (by simp) (AllReadyH.cons rfl (fun K hK => ?_) AllReadyH.nil)
        (try simp only [Act.put,zza,zzb,zzc,zzd,zze,zzf])
        refine Eq.mpr (if_pos (by rfl)) ?_
        refine wp_appL _ _ rfl wz.heap.size _ R.length xs rfl ho3E (some ⟨g5E, 0, none⟩) 1 1 [.slice An1 Lk cn1, .slice An3 16 cn3, .slice An2 16 cn2] rfl hnw (fun h => by cases h) (hnc _ _ hb5E) hn1 (by omega) hB_E.size ?_
        intro v6 W6 ho6 hB6 _
        (try simp only [Act.put,zza,zzb,zzc,zzd,zze,zzf])
        have hB_W6 := hB_E.trans hB6
        refine hK.out _ _ (keptB hB_W6) (fun _ => ?_)
        (try simp only [Act.put,zza,zzb,zzc,zzd,zze,zzf])
        clear hK K
        refine ztk (i := 7) (v := .pointer (some ⟨w.heap.size, 0, none⟩)) rfl (fun W _ => by go_simp) (keptB hB_W6) ?_
        (try simp only [Act.put,zza,zzb,zzc,zzd,zze,zzf])
        refine wpAnyH_ready (rs := [8]) (by kernel_rfl) (by simp) (AllReadyH.cons rfl (fun K hK => ?_) AllReadyH.nil)
        (try simp only [Act.put,zza,zzb,zzc,zzd,zze,zzf])
        refine Eq.mpr (if_pos (by rfl)) ?_
        have hv6 : ∃ A6 c6, v6 = .slice A6 (R.length + 1) c6 := by
         rcases ho6.2 with ⟨h1, h2⟩ | ⟨g, c6, cur, h1, -⟩
         ·omega
         exact ⟨_, _, h1⟩
        have h1v : v6.oneCell' = true := by obtain ⟨A6, c6, rfl⟩ := hv6; rfl
        have h2v : v6.cells = #[v6] := by obtain ⟨A6, c6, rfl⟩ := hv6; rfl
        refine wp_skipw (exec_stV 35 _ _ rfl ⟨w.heap.size, 0, none⟩ rfl v6 rfl h1v h2v iSRow _ (c4 _ hB_W6) ((H4z.out.below hB_W6 H4z.out.lt).free 0)) ?_
        (try simp only [Act.put,zza,zzb,zzc,zzd,zze,zzf])
        have hp := past24 hz1 H4z.out H8z.out hB_W6 ho6
        refine hK.out _ _ ⟨hp.kept, hp.size⟩ (fun _ => ?_)
        (try simp only [Act.put,zza,zzb,zzc,zzd,zze,zzf])
        clear hK K
        refine wpAnyH_done (by kernel_rfl) ?_ _
        generalize W6.setCell ⟨w.heap.size, 0, none⟩ v6 = W7 at hp ⊢
        generalize Value.slice (some ⟨g0E, 0, none⟩) 0 0 = va
        generalize Value.slice (some ⟨g5E, 0, none⟩) 1 1 = vc
        exact kk W7 va v3E vc v6 hp
      intro w5 va vb vc v6 hp
      try dsimp only
      obtain ⟨A6, c6, rfl⟩ : ∃ A6 c6, v6 = .slice A6 (R.length + 1) c6 := by
       rcases hp.own.2 with ⟨_, h2⟩ | ⟨g, c6, cur, h1, -⟩
       ·omega
       exact ⟨_, _, h1⟩
      have HP := hid hp
      have HN5 := hid (HNz.out.trans hp.bel)
      have Hb5 := hid hp.book
      have Ho5 := hid hp.out
      have hs5 := hp.size
      have HTn : Hid (ReadsP w B0 (cutA A' 16 c') (n - j - 16) (fun i => F (j + 16 + i))) := hid ((HTe.out.cutA (k := 16) (z := n - j - 16) (cap := c') (by omega) hce).ext (fun i _ => by show F (j + (16 + i)) = F (j + 16 + i); congr 1; omega))
      clear hp hnc hn1 hnw hxc2 c4 c17
      obtain ⟨rl, hrl2⟩ : ∃ rl, rl = R.length + 1 := ⟨_, rfl⟩
      rw [← hrl2] at Hb5 ⊢
      have Hrl := hid hrl2
      clear hrl2
      go_wp2_with fail
      have d0 : ∀ W, Below (w.heap.size + 1) w5 W → ∀ q, q < 2 → W.cell? ((⟨w.heap.size, 0, none⟩ : Addr).add q) = some (bookC (.slice A6 rl c6) (.slice (cutA A' 16 c') (n - j - 16) (c' - 16)) q) := fun W hW q hq => by
       rw [add_zero_off]
       exact ((Hb5.out.below hW (Nat.lt_succ_self _)).cell q).trans (row_get 2 _ q hq)
      refine wp_region_held_drew (S := fun W => Below (w.heap.size + 1) w5 W) (by kernel_rfl) (Below.refl _ _).drew (fun hS0 => ?_)
      refine ztk (i := 0) (v := .agg (row 2 (bookC (.slice A6 rl c6) (.slice (cutA A' 16 c') (n - j - 16) (c' - 16))))) rfl (fun W hW => exec_loadSt 37 _ rfl ⟨w.heap.size, 0, none⟩ rfl 2 _ (d0 W hW) _ Tryz.underlying37 iRB) hS0 ?_
      (try simp only [Act.put,zza,zzb,zzc,zzd,zze,zzf])
      refine ztk (i := 2) (v := .slice A' 16 c') rfl (fun _ _ => exec_move _ rfl _ rfl) hS0 ?_
      (try simp only [Act.put,zza,zzb,zzc,zzd,zze,zzf])
      refine wpAnyH_ready (rs := [1]) (by kernel_rfl) (by simp) (AllReadyH.cons rfl (fun K hK => ?_) AllReadyH.nil)
      (try simp only [Act.put,zza,zzb,zzc,zzd,zze,zzf])
      refine Eq.mpr (if_pos (by rfl)) ?_
      refine wp_valw _ (exec_bs0 22 rfl (.slice (some ⟨w5.drew.heap.size, 0, none⟩) 0 0) (bsB0 _)) ?_
      (try simp only [Act.put,zza,zzb,zzc,zzd,zze,zzf])
      have hs50 : w.heap.size + 1 ≤ w5.drew.heap.size := by show _ ≤ w5.heap.size; omega
      refine hK.out _ _ (hS0.alloc hs50 _) (fun hS1 => ?_)
      (try simp only [Act.put,zza,zzb,zzc,zzd,zze,zzf])
      clear hK K
      have hoE := Mem.Own.empty w5.drew w5.heap.size 5 (fun _ => 0) (Nat.le_refl _)
      have hBE : Below w5.heap.size w5 (w5.drew.alloc (.cells #[] 5)) := (Below.refl _ _).drew.alloc (Nat.le_refl _) _
      have hRY := ((HY.out.below HN5.out).more HN5.out.size).below hBE
      have hbE : w5.heap.size ≤ (w5.drew.alloc (.cells #[] 5)).heap.size := hBE.size
      generalize hwE : w5.drew.alloc (.cells #[] 5) = wE at hoE hBE hRY hbE hS1 ⊢
      clear hwE
      refine wpAnyH_ready (rs := [3]) (by kernel_rfl) (by simp) (AllReadyH.cons rfl (fun K hK => ?_) AllReadyH.nil)
      (try simp only [Act.put,zza,zzb,zzc,zzd,zze,zzf])
      refine Eq.mpr (if_pos (by rfl)) ?_
      refine wp_app_gen _ _ 22 rfl w5.heap.size 5 (.int .u8 0) Tryz.underlying22 info_u8 rfl _ 0 _ rfl hoE A' 16 c' _ _ hRY (fun h => by have := HY.out (by omega); obtain ⟨ad, h2, -⟩ := this; rw [h] at h2; cases h2) rfl (by omega) hbE ?_
      intro v8 w8 ho8 hB8
      (try simp only [Act.put,zza,zzb,zzc,zzd,zze,zzf])
      have hS2 := hS1.trans (hB8.mono (by omega))
      refine hK.out _ _ hS2 (fun _ => ?_)
      (try simp only [Act.put,zza,zzb,zzc,zzd,zze,zzf])
      clear hK K
      try rw [Nat.zero_add] at ho8
      obtain ⟨A8, c8, rfl, hc8, -, -⟩ := ho8.slice'
      have hR8 := ho8.reads.ext (g := fun i => F (j + i)) (fun i hi => by unfold cat; simp)
      have hB58 := hBE.trans hB8
      have d8 := Ho5.out.below hB58 Ho5.out.lt
      refine wpAnyH_ready (rs := [4]) (by kernel_rfl) (by simp) (ready_one rfl rfl (fun K hK => ?_))
      (try simp only [Act.put,zza,zzb,zzc,zzd,zze,zzf])
      with_reducible refine wp_store_blk 37 _ _ rfl (w.heap.size + 1) (row 2 (bookC (.slice A6 rl c6) (.slice (cutA A' 16 c') (n - j - 16) (c' - 16)))) rfl rfl 37 _ d8 (iRB' _) (by simp [row_size]) (one2 _ _ _ _ _ _) ?_
      (try simp only [Act.put,zza,zzb,zzc,zzd,zze,zzf])
      refine hK.out _ _ (below_setRow' hS2 (Nat.le_refl _) _) (fun hSz => ?_)
      (try simp only [Act.put,zza,zzb,zzc,zzd,zze,zzf])
      refine ztk (i := 5) (v := .slice A8 16 c8) rfl (fun _ _ => exec_assign _ rfl _ rfl) hSz ?_
      (try simp only [Act.put,zza,zzb,zzc,zzd,zze,zzf])
      refine ztk (i := 6) (v := .bool true) rfl (fun _ _ => exec_assign _ rfl _ rfl) hSz ?_
      (try simp only [Act.put,zza,zzb,zzc,zzd,zze,zzf])
      refine wpAnyH_done (by kernel_rfl) ?_ _
      clear hK
      have hB9 := below_setRow' ((HN5.out.trans (hB58.mono (by have := HN5.out.size; omega)))) (Nat.le_succ w.heap.size) (row 2 (bookC (.slice A6 rl c6) (.slice (cutA A' 16 c') (n - j - 16) (c' - 16))))
      have hk9 : ∀ g, g < wz.heap.size → w.heap.size + 1 < g → (w8.setRow (w.heap.size + 1) (row 2 (bookC (.slice A6 rl c6) (.slice (cutA A' 16 c') (n - j - 16) (c' - 16))))).heap[g]? = wz.heap[g]? := fun g hg hlo => by
       rw [setRow_other w8 (w.heap.size + 1) g _ (by omega), hB58.block g (by omega)]
       exact HP.out.kept g hg (by omega)
      have hs9 : wz.heap.size ≤ (w8.setRow (w.heap.size + 1) (row 2 (bookC (.slice A6 rl c6) (.slice (cutA A' 16 c') (n - j - 16) (c' - 16))))).heap.size := by
       have := hB58.size
       simp
       omega
      have hbz : Below w.heap.size wz (w8.setRow (w.heap.size + 1) (row 2 (bookC (.slice A6 rl c6) (.slice (cutA A' 16 c') (n - j - 16) (c' - 16))))) := below_setRow' (HP.out.bel.trans (hB58.mono (by have := HN5.out.size; omega))) (Nat.le_succ _) _
      have ho9 : OwnL (w8.setRow (w.heap.size + 1) (row 2 (bookC (.slice A6 rl c6) (.slice (cutA A' 16 c') (n - j - 16) (c' - 16))))) wz.heap.size (.slice A6 (R.length + 1) c6) (R.length + 1) _ := OwnL.kept HP.out.own (fun g hg hl => by rw [setRow_other w8 (w.heap.size + 1) g _ (by omega)]; exact hB58.block g hl)
      have h89 := d8.setRow (row 2 (bookC (.slice A6 rl c6) (.slice (cutA A' 16 c') (n - j - 16) (c' - 16))))
      have hR9 : Reads (w8.setRow (w.heap.size + 1) (row 2 (bookC (.slice A6 rl c6) (.slice (cutA A' 16 c') (n - j - 16) (c' - 16))))) (w8.setRow (w.heap.size + 1) (row 2 (bookC (.slice A6 rl c6) (.slice (cutA A' 16 c') (n - j - 16) (c' - 16))))).heap.size A8 16 (fun i => F (j + i)) := reads_kept (g0 := w.heap.size + 1) hR8 (fun q h => by have := own_lo ho8 q h; omega) (fun g _ hlo => setRow_other w8 (w.heap.size + 1) g _ (by omega)) (by simp)
      generalize w8.setRow (w.heap.size + 1) (row 2 (bookC (.slice A6 rl c6) (.slice (cutA A' 16 c') (n - j - 16) (c' - 16)))) = w9 at *
      have hall : ∀ W, Agree B0 w w9 W → RowsAt W W.heap.size A6 Lk (R ++ [(mk true (strF Lk key) x fun i => F (j + i))]) := fun W ha => by
       have hkW : ∀ g, g < wz.heap.size → w.heap.size + 1 < g → W.heap[g]? = wz.heap[g]? := fun g hg hlo => (ha.block g (by omega) (.inr (by omega))).trans (hk9 g hg hlo)
       have hsW : wz.heap.size ≤ W.heap.size := Nat.le_trans hs9 ha.size
       have hbW : ∀ g, B0 g → W.heap[g]? = wz.heap[g]? := fun g hg => (ha.block g (by have := HNz.out.size; have := hB0 g hg; omega) (.inl hg)).trans (hbz.block g (hB0 g hg))
       have hnr : RowC W W.heap.size Lk (mk true (strF Lk key) x fun i => F (j + i)) (rowC (.slice An1 Lk cn1) (.slice An3 16 cn3) (.slice An2 16 cn2)) := ⟨⟨An1, cn1, key, rfl, reads_kept (g0 := w.heap.size + 1) HOkz.out (fun q h => by have := hlo1 q h; have := hltz.out; omega) hkW hsW, Hkb.out, rfl⟩, ⟨_, _, rfl, hcn3, reads_kept (g0 := w.heap.size + 1) HOyz.out (fun q h => by have := hlo3 q h; have := hltz.out; omega) hkW hsW⟩, ⟨_, _, rfl, hcn2, reads_kept (g0 := w.heap.size + 1) HOxz.out (fun q h => by have := hlo2 q h; have := hltz.out; omega) hkW hsW⟩⟩
       have hrows := rows_new hxl (fun q hq => ((Hxr.out q hq).keep hbW).more (fun g hg => by have := HNz.out.size; have := hB0 g hg; omega)) hnr
       have hoW : OwnL W wz.heap.size (.slice A6 (R.length + 1) c6) (R.length + 1) _ := OwnL.kept ho9 (fun g hg hl => ha.block g hl (.inr (by have := HNz.out.size; omega)))
       obtain ⟨A9, c9, hv9, hRows⟩ := OwnL.rows (R := R ++ [(mk true (strF Lk key) x fun i => F (j + i))]) hoW (by simp) hrows (Nat.le_refl _)
       injection hv9 with hA9 hL9 hC9
       subst hA9
       exact hRows
      have hL9 : R.length + 1 = (R ++ [(mk true (strF Lk key) x fun i => F (j + i))]).length := by simp
      have hA6 : A6 = none → (R ++ [(mk true (strF Lk key) x fun i => F (j + i))]).length = 0 ∧ c6 = 0 := fun h => by obtain ⟨ad, h2, -⟩ := hall w9 (Agree.refl _ _ _) R.length (by simp); rw [h] at h2; cases h2
      have hR9W : ∀ W, Agree B0 w w9 W → Reads W W.heap.size A8 16 (fun i => F (j + i)) := fun W ha => reads_kept (g0 := w.heap.size) hR9 (fun q h => by have := own_lo ho8 q h; have := HN5.out.size; omega) (fun g hg hlo => ha.block g hg (.inr (by omega))) ha.size
      go_wp2_with fail
      refine ret_row3 Tryz.results54 rfl (w.heap.size + 1) rfl _ rfl _ rfl 37 2 _ h89 _ Tryz.underlying37 iRB ⟨hB9, A6, c6, cutA A' 16 c', c' - 16, _, true, ?_, (fun W ha => ⟨hall W ha, ?_⟩), by omega, hA6, .inl ⟨_, A8, c8, rfl, rfl, rfl, hR9W⟩⟩
      ·rw [row2, Hrl.out, hL9, Nat.sub_sub]
       rfl
      rw [← Nat.sub_sub]
      exact ha.reads hB0 hB9 HTn.out
     have Htk : Hid (hit (!bk) R (strF Lk key) (fun i => F (e + i)) = true) := hid htk
     clear htk
     go_wp2_with fail
     refine ⟨⟨e + 16, cutA A' 16 c', c' - 16, by omega, by omega, hid ?_, ?_, hid ?_, by omega, H8.out, HB.out⟩, ?_⟩
     ·rw [← drawTo_old (by omega) Htk.out]; exact HD.out
     ·rw [show n - (e + 16) = n - e - 16 by omega]; exact H4.out
     ·rw [show n - (e + 16) = n - e - 16 by omega]
      exact (HTe.out.cutA (k := 16) (z := n - e - 16) (cap := c') (by omega) hce).ext (fun i _ => by show F (e + (16 + i)) = F (e + 16 + i); congr 1; omega)
     rw [Hlen.out]
     have : tlen wt w.heap.size = n - e - 16 := by
      unfold tlen
      rw [show wt.cell? ⟨w.heap.size, 1, none⟩ = some (.slice (cutA A' 16 c') (n - e - 16) (c' - 16)) from H4.out.cell 1]
     rw [this]; omega
   exfalso
   have h := HD.out
   rw [drawTo_end (by omega)] at h
   cases h
end Go.Proofs.YtlmnoapoofmmnaaGreatDoor.Bk
namespace Go.Proofs.YtlmnoapoofmmnaaGreatDoor.Bk
open Mem Go.ChangeShapes Go.WideShapes Go.ChangeAt Go.RowKit
theorem rask_any (F : Nat → Nat) (n d Lk : Nat) (R : List Rw) (Ar : Option Addr) (cr : Nat) (At : Option Addr) (ct : Nat) (Ak : Option Addr) (ck : Nat) (key : Nat → Nat) (Ax : Option Addr) (cx : Nat) (x : Nat → Nat) (bk : Bool) (w : World)
  (B0 : Nat → Prop) (hB0 : ∀ g, B0 g → g < w.heap.size) (hR : RowsAtP w B0 Ar Lk R) (hT : ReadsP w B0 At (n - d) (fun i => F (d + i))) (hct : n - d ≤ ct) (hn : n ≤ 100000) (hd : d ≤ n) (hLk : Lk ≤ 1000) (hlen : R.length ≤ 1000) (hkey : Reads w w.heap.size Ak Lk key) (hkb : ∀ i, i < Lk → key i < 256) (hx : Reads w w.heap.size Ax 16 x)
  (hAr : Ar = none → R.length = 0 ∧ cr = 0) (hAk : Ak = none → Lk = 0 ∧ ck = 0) (o : Option (Nat → Nat)) (R' : List Rw) (d' : Nat) (ht : askL F n (strF Lk key) R d bk x = (o, R', d')) :
  Calls Tryz.prog 54 #[.agg (row 2 (bookC (.slice Ar R.length cr) (.slice At (n - d) ct))), .slice Ak Lk ck, .slice Ax 16 cx, .bool bk] w (RAskOut F n Lk B0 o R' d' w) := by
 cases hf : R.find? (hitR bk (strF Lk key) x) with
 | some r =>
  rw [askL_old hf] at ht
  cases ht
  exact rask_hit F n d Lk R Ar cr At ct Ak ck key Ax cx x bk w B0 hB0 hR hT hct hn hd hLk hlen hkey hkb hx r hf
 | none =>
  rcases hq : drawTo F n (hit (!bk) R (strF Lk key)) d with ⟨_ | _, e⟩
  ·rw [askL_end hf hq] at ht
   cases ht
   exact rask_end F n d Lk R Ar cr At ct Ak ck key Ax cx x bk w B0 hB0 hR hT hct hn hd hLk hlen hkey hkb hx hf _ hq hAr
  rw [askL_new hf hq] at ht
  cases ht
  exact rask_new F n d Lk R Ar cr At ct Ak ck key Ax cx x bk w B0 hB0 hR hT hct hn hd hLk hlen hkey hkb hx hf _ hq hAr hAk
def RDoOut (F : Nat → Nat) (n k Lk : Nat) (B0 : Nat → Prop) (o : Option (Nat → Nat)) (R' : List Rw) (d' : Nat) (w : World) (e : Ending) (w' : World) : Prop :=
 Below w.heap.size w w' ∧ ∃ Ar cr At ct v ok, e = .returned (.tuple #[.agg #[.slice Ar R'.length cr, .slice At (n - d') ct], v, .bool ok]) ∧ (∀ W, Agree B0 w w' W → RowsAt W W.heap.size Ar Lk R' ∧ Reads W W.heap.size At (n - d') (fun i => F (d' + i))) ∧ n - d' ≤ ct ∧ (Ar = none → R'.length = 0 ∧ cr = 0) ∧
  ((∃ y A c, o = some y ∧ ok = true ∧ v = .slice A (sz k) c ∧ ∀ W, Agree B0 w w' W → Reads W W.heap.size A (sz k) y) ∨ (o = none ∧ ok = false))
set_option maxRecDepth 100000 in
set_option maxHeartbeats 1000000 in
theorem rdo_ask (F : Nat → Nat) (n d Lk : Nat) (R : List Rw) (Ar : Option Addr) (cr : Nat) (At : Option Addr) (ct : Nat) (Ak : Option Addr) (ck : Nat) (key : Nat → Nat) (Ax : Option Addr) (cx : Nat) (x : Nat → Nat) (bk : Bool) (w : World)
  (B0 : Nat → Prop) (hB0 : ∀ g, B0 g → g < w.heap.size) (hR : RowsAtP w B0 Ar Lk R) (hT : ReadsP w B0 At (n - d) (fun i => F (d + i))) (hct : n - d ≤ ct) (hn : n ≤ 100000) (hd : d ≤ n) (hLk : Lk ≤ 1000) (hlen : R.length ≤ 1000) (hkey : Reads w w.heap.size Ak Lk key) (hkb : ∀ i, i < Lk → key i < 256) (hx : Reads w w.heap.size Ax 16 x)
  (hAr : Ar = none → R.length = 0 ∧ cr = 0) (hAk : Ak = none → Lk = 0 ∧ ck = 0) (o : Option (Nat → Nat)) (R' : List Rw) (d' : Nat) (ht : askL F n (strF Lk key) R d bk x = (o, R', d')) :
  Calls Tryz.prog 31 #[.int .i64 3, .slice Ak Lk ck, .agg (row 2 (bookC (.slice Ar R.length cr) (.slice At (n - d) ct))), .slice Ax 16 cx, .bool bk] w (RDoOut F n 3 Lk B0 o R' d' w) := by
 have hB1 : Below w.heap.size w ((w.alloc (.cells (row 2 (bookC (.slice Ar R.length cr) (.slice At (n - d) ct))) 37)).alloc (.cells (row 2 (bookC (.slice none 0 0) (.slice none 0 0))) 37)) := ((Below.refl _ _).alloc (Nat.le_refl _) _).alloc (by simp) _
 have h7 : Blk ((w.alloc (.cells (row 2 (bookC (.slice Ar R.length cr) (.slice At (n - d) ct))) 37)).alloc (.cells (row 2 (bookC (.slice none 0 0) (.slice none 0 0))) 37)) w.heap.size 37 (row 2 (bookC (.slice Ar R.length cr) (.slice At (n - d) ct))) := (Blk.fresh _ _ _).alloc _
 have h10 : Blk ((w.alloc (.cells (row 2 (bookC (.slice Ar R.length cr) (.slice At (n - d) ct))) 37)).alloc (.cells (row 2 (bookC (.slice none 0 0) (.slice none 0 0))) 37)) (w.heap.size + 1) 37 (row 2 (bookC (.slice none 0 0) (.slice none 0 0))) := by
  have := Blk.fresh (w.alloc (.cells (row 2 (bookC (.slice Ar R.length cr) (.slice At (n - d) ct))) 37)) 37 (row 2 (bookC (.slice none 0 0) (.slice none 0 0)))
  simpa using this
 have hs1 : Hid (((w.alloc (.cells (row 2 (bookC (.slice Ar R.length cr) (.slice At (n - d) ct))) 37)).alloc (.cells (row 2 (bookC (.slice none 0 0) (.slice none 0 0))) 37)).heap.size = w.heap.size + 2) := hid (by simp)
 go_enter Tryz.func31, Tryz.ntmps31
 have d7 : ∀ q, q < 2 → ((w.alloc (.cells (row 2 (bookC (.slice Ar R.length cr) (.slice At (n - d) ct))) 37)).alloc (.cells (row 2 (bookC (.slice none 0 0) (.slice none 0 0))) 37)).cell? ((⟨w.heap.size, 0, none⟩ : Addr).add q) = some (bookC (.slice Ar R.length cr) (.slice At (n - d) ct) q) := fun q hq => by
  rw [add_zero_off]
  exact (h7.cell q).trans (row_get 2 _ q hq)
 have H := hid (rask_any F n d Lk R Ar cr At ct Ak ck key Ax cx x bk ((w.alloc (.cells (row 2 (bookC (.slice Ar R.length cr) (.slice At (n - d) ct))) 37)).alloc (.cells (row 2 (bookC (.slice none 0 0) (.slice none 0 0))) 37)) B0 (fun g hg => Nat.lt_of_lt_of_le (hB0 g hg) hB1.size) (hR.keep (fun g hg => hB1.block g (hB0 g hg))) (hT.keep (fun g hg => hB1.block g (hB0 g hg))) hct hn hd hLk hlen ((hkey.below hB1).more hB1.size) hkb ((hx.below hB1).more hB1.size) hAr hAk o R' d' ht)
 have HB1 := hid hB1
 have H10 := hid h10
 clear hR hT hkey hx hkb hAr hAk ht h7 h10 hB1
 go_wp2_with (first
  | (with_reducible refine wpl_alloc rfl 37 rfl _ zRB2 ?_)
  | (with_reducible refine wpl_val rfl _ (exec_loadSt 37 _ rfl ⟨w.heap.size, 0, none⟩ rfl 2 _ d7 _ Tryz.underlying37 iRB) ?_))
 clear d7
 generalize ((w.alloc (.cells (row 2 (bookC (.slice Ar R.length cr) (.slice At (n - d) ct))) 37)).alloc (.cells (row 2 (bookC (.slice none 0 0) (.slice none 0 0))) 37)) = w1 at *
 refine H.out.mono ?_
 rintro e w2 ⟨hB2, Ar2, cr2, At2, ct2, v2, ok2, rfl, hst, hle, hA2, hor⟩
 rw [← row2 (.slice Ar2 R'.length cr2) (.slice At2 (n - d') ct2)]
 have H102 := hid (H10.out.below hB2 H10.out.lt)
 have Hst := hid hst
 have HA2 := hid hA2
 have Hor := hid hor
 have HB2 := hid hB2
 clear H hst hA2 hor hB2 H10
 go_wp2_with (with_reducible refine wpl_store rfl 37 _ _ rfl _ _ rfl rfl 37 _ H102.out (iRB' _) (by simp [row_size]) (one2 _ _ _ _ _ _) ?_)
 have hag : ∀ W, Agree B0 w (w2.setRow (w.heap.size + 1) (row 2 (bookC (.slice Ar2 R'.length cr2) (.slice At2 (n - d') ct2)))) W → Agree B0 w1 w2 W := fun W ha => by
  have h1 := hs1.out
  refine ⟨ha.os, ha.tape, ha.output, by simpa using ha.size, fun g hg hor => ?_⟩
  have hgn : g ≠ w.heap.size + 1 := by rcases hor with h | h; have := hB0 g h; omega; omega
  rw [ha.block g (by simpa using hg) (by rcases hor with h | h; exact .inl h; exact .inr (by omega)), setRow_other w2 (w.heap.size + 1) g _ hgn]
 have hBf := below_setRow' (HB1.out.trans (HB2.out.mono HB1.out.size)) (Nat.le_succ w.heap.size) (row 2 (bookC (.slice Ar2 R'.length cr2) (.slice At2 (n - d') ct2)))
 refine ret_row3 Tryz.results31 rfl (w.heap.size + 1) rfl _ rfl _ rfl 37 2 _ (H102.out.setRow _) _ Tryz.underlying37 iRB ⟨hBf, Ar2, cr2, At2, ct2, v2, ok2, by rw [row2]; rfl, fun W ha => Hst.out W (hag W ha), hle, HA2.out, ?_⟩
 rcases Hor.out with ⟨y, A, c, h1, h2, h3, h4⟩ | ⟨h1, h2⟩
 ·exact .inl ⟨y, A, c, h1, h2, h3, fun W ha => h4 W (hag W ha)⟩
 exact .inr ⟨h1, h2⟩
end Go.Proofs.YtlmnoapoofmmnaaGreatDoor.Bk
