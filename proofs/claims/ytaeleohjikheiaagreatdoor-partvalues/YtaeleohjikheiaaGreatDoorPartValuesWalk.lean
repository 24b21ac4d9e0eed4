/-
  PartValues returns true: its walk.
-/
import Derived.Test.YtaeleohjikheiaaGreatDoorPartX
import Derived.Test.YtaeleohjikheiaaGreatDoorRefY
import Derived.Test.YtaeleohjikheiaaGreatDoorRefDo1F
namespace Go.Proofs.YtaeleohjikheiaaGreatDoor.Pt.Values
open Mem Bk Md Mc Pt As R6 Rc Go.ChangeShapes Go.WideShapes Go.ChangeAt Go.RowKit
/-- no draws at all -/
def pz : Pl := ⟨0, 0, 0, 0, 0, undef, 0, fun _ => 0⟩
theorem mAt1 (p : Pl) (Lk : Nat) (key x s o0 : Nat → Nat) (R : List Rw) (d : Nat) : ∀ N, ∃ out, mAt p 1 Lk key false true x ⟨R, d, s, o0⟩ N = some ⟨R, d, ah 1 Lk key s x N, out⟩
  | 0 => ⟨o0, rfl⟩
  | N + 1 => by
    obtain ⟨out, h⟩ := mAt1 p Lk key x s o0 R d N
    have ht : turnC 1 Lk key p R d false (ask6 1 false true x N ⟨R, d, ah 1 Lk key s x N, out⟩) = (some (ah 1 Lk key s x (N + 1)), R, d) := by
      have e1 : ask6 1 false true x N ⟨R, d, ah 1 Lk key s x N, out⟩ = xr (bl 1 x N) (ah 1 Lk key s x N) := by
        unfold ask6
        rw [if_pos ⟨rfl, rfl⟩]
        rfl
      rw [e1, ah_next]
      unfold turnC tc
      rw [if_pos rfl, if_pos rfl]
    exact ⟨cat (N * sz 1) out (ah 1 Lk key s x (N + 1)), mAt_next h ((mNext_some ht).trans (by simp))⟩
theorem cmR1 (p : Pl) (Lk : Nat) (key : Nat → Nat) (L : Nat) (t : Nat → Nat) (R : List Rw) (d : Nat) : cmR p 1 Lk key L t R d = some (cmacF 1 Lk key L t) := by
  have ht : turnC 1 Lk key p R d false Mc.zf = (some (tc 1 Lk key false Mc.zf), R, d) := by
    unfold turnC tc
    rw [if_pos rfl, if_pos rfl]
  unfold cmR
  rw [ht]
  obtain ⟨out, h⟩ := mAt1 p Lk key (mtF (sz 1) L t (dbl (sz 1) (tc 1 Lk key false Mc.zf))) Mc.zf (fun _ => 0) R d (mtB (sz 1) L)
  show (mAt p 1 Lk key false true (mtF (sz 1) L t (dbl (sz 1) (tc 1 Lk key false Mc.zf))) ⟨R, d, Mc.zf, fun _ => 0⟩ (mtB (sz 1) L)).map MS.last = _
  rw [h]
  rfl
/-- Do with AES, forth -/
theorem doC_aes (p : Pl) (Lk : Nat) (Ak : Option Addr) (ck : Nat) (key : Nat → Nat) (hL : Aes.IsKey Lk) (hkb : ∀ i, i < Lk → key i < 256) : DoC p 1 Lk Ak ck key false := fun d R Ar cr At ct Ax cx x w B0 hB0 hR hT hct _ _ _ hkey hx hxb hAr o R' d' ht => by
  rw [Bk.turn1] at ht
  injection ht with h1 h2
  injection h2 with h2 h3
  subst h1 h2 h3
  refine (rdo_forth Ar R.length cr At (p.n - d) ct Ak Lk ck key Ax cx x w hL hkey hkb hx hxb _ rfl).mono ?_
  rintro e w' ⟨g, rfl, hb, hg, hB⟩
  have hm : ∀ g, B0 g → LocP B0 w w' g := fun g h => ⟨Nat.lt_of_lt_of_le (hB0 g h) hB.size, .inl h⟩
  refine ⟨hB, Ar, cr, At, ct, _, true, rfl, (hR.keep (fun g h => hB.block g (hB0 g h))).moreP hm, (hT.keep (fun g h => hB.block g (hB0 g h))).moreP hm, hct, hAr, .inl ⟨_, some ⟨g, 0, none⟩, 16, rfl, rfl, rfl, ?_⟩⟩
  exact fun _ => ⟨_, rfl, ⟨hb.lt, .inr hg⟩, fun i hi => by rw [add_zero_off]; exact hb.val i hi⟩
theorem inv0 : Inv pz.F pz.n [] 0 := Inv.start (by show 0 ≤ _; omega) (fun i hi => by cases hi)
set_option maxRecDepth 100000 in
set_option maxHeartbeats 1000000 in
theorem rvalue_aes (A : Option Addr) (L c : Nat) (key : Nat → Nat) (w : World) (hf : fit9 1 L) (_hc : L ≤ c) (hk : ∀ i, i < L → key i < 256) (hR : Reads w w.heap.size A L key) :
    Calls Tryz.prog 35 #[.int .i64 1, .slice A L c] w fun e w' => ∃ A' c', e = .returned (.slice A' 3 c') ∧ Reads w' w'.heap.size A' 3 (vlF 1 L key) ∧ Below w.heap.size w w' := by
  have hL : L ≤ 32 := by have := hf.2; omega
  have hL0 : 0 < L := by have := hf.2; omega
  have hA : A = none → L = 0 ∧ c = 0 := fun h => by obtain ⟨ad, h1, _⟩ := hR hL0; rw [h] at h1; cases h1
  have hs1 : sz 1 = 16 := rfl
  have hB1 := (Below.refl w.heap.size w).alloc (Nat.le_refl _) (.cells (row 16 (b8 fun _ => 0)) 5)
  have HC := hid (rcmac_any pz 1 0 L [] none 0 none 0 A c key (some ⟨w.heap.size, 0, none⟩) 16 16 Mc.zf (w.alloc (.cells (row 16 (b8 fun _ => 0)) 5)) (fit_fits hf) (doC_aes pz L A c key (by unfold fit9 at hf; unfold Aes.IsKey; omega) hk) inv0 (fun i hi => by cases hi) (fun h => by cases h) (by show 0 ≤ _; omega) (by decide) ((hR.below hB1).more hB1.size) hk (fun _ => ⟨rfl, rfl⟩) (by omega) (fun h => by cases h) (Mc.zf_lt _) (Blk.reads (Blk.fresh w 5 (row 16 (b8 Mc.zf)))))
  have hv : vlF 1 L key = cmacF 1 L key 16 Mc.zf := by unfold vlF; rw [if_pos rfl]
  have HV := hid hv
  have HB1 := hid hB1
  clear hf hk hR hA hB1 hv
  go_enter Tryz.func35, Tryz.ntmps35
  go_wp2_with (with_reducible refine wpl_make rfl 22 5 _ _ rfl Tryz.underlying22 info8 _ _ _ _ rfl rfl 16 rfl rfl (by omega) ?_)
  have hC := HC.out
  rw [row2] at hC
  refine hC.mono ?_
  rintro e w2 ⟨hB2, bv, ⟨bA, bn, bc, tA, tn, tc, rfl⟩, ⟨y, A2, c2, hy, rfl, hc2, hR2⟩ | ⟨hy, rfl⟩⟩
  · rw [cmR1] at hy
    injection hy with hy
    subst hy
    rw [hs1] at hR2 hc2
    obtain ⟨ad, rfl, -⟩ := hR2 (by omega)
    have HR2 := hid hR2
    have hB3 := (Below.refl w2.heap.size w2).alloc (Nat.le_refl _) (.cells (row 2 (bookC (.slice bA bn bc) (.slice tA tn tc))) 37)
    have HB3 := hid (HB1.out.trans ((hB2.trans (hB3.mono hB2.size)).mono HB1.out.size))
    have HR3 := hid ((hR2.below hB3).more hB3.size)
    rw [hs1]
    clear hC hR2 hB2 hB3
    go_wp2_with (first
      | (with_reducible refine wpl_alloc rfl 37 rfl _ zRB2 ?_)
      | (with_reducible refine wpl_store_newS rfl 37 _ _ rfl w2 _ 2 _ (one2 _ _ _ _ _ _) rfl rfl 37 iRB (row_size _ _) ?_)
      | (with_reducible refine wpl_val rfl _ (exec_cutHZ _ _ rfl ad 16 c2 3 _ rfl rfl rfl (by omega)) ?_))
    go_ret
    refine ⟨some ad, c2, rfl, ?_, HB3.out⟩
    rw [HV.out]
    exact HR3.out.less (by omega)
  · rw [cmR1] at hy
    cases hy
set_option maxRecDepth 100000 in
set_option maxHeartbeats 1000000 in
theorem rvalue_tdes (A : Option Addr) (L c : Nat) (key : Nat → Nat) (w : World) (hf : fit9 2 L) (hc : L ≤ c) (hk : ∀ i, i < L → key i < 256) (hR : Reads w w.heap.size A L key) :
    Calls Tryz.prog 35 #[.int .i64 2, .slice A L c] w fun e w' => ∃ A' c', e = .returned (.slice A' 3 c') ∧ Reads w' w'.heap.size A' 3 (vlF 2 L key) ∧ Below w.heap.size w w' := by
  have hT : Des.IsTKey L := by unfold fit9 at hf; unfold Des.IsTKey; omega
  have hB1 := (Below.refl w.heap.size w).alloc (Nat.le_refl _) (.cells (row 8 (b8 fun _ => 0)) 5)
  have HR1 := hid ((hR.below hB1).more hB1.size)
  have HZ : Hid (Reads (w.alloc (.cells (row 8 (b8 fun _ => 0)) 5)) (w.alloc (.cells (row 8 (b8 fun _ => 0)) 5)).heap.size (some ⟨w.heap.size, 0, none⟩) 8 Mc.zf) := hid (Blk.reads (Blk.fresh w 5 (row 8 (b8 Mc.zf))))
  have hv : vlF 2 L key = Des.tdes L key Mc.zf false := by
    unfold vlF tc
    rw [if_neg (by omega), if_neg (by omega)]
  have HV := hid hv
  have HB1 := hid hB1
  have Hk := hid hk
  clear hk hR hB1 hv hf
  go_enter Tryz.func35, Tryz.ntmps35
  go_wp2_with (with_reducible refine wpl_make rfl 22 5 _ _ rfl Tryz.underlying22 info8 _ _ _ _ rfl rfl 8 rfl rfl (by omega) ?_)
  refine (Des.rtriple_any A L c hT hc (some ⟨w.heap.size, 0, none⟩) 8 key Mc.zf false Hk.out (Mc.zf_lt 8) _ HR1.out HZ.out).mono ?_
  rintro e w2 ⟨A2, c2, rfl, hc2, hl, hB2⟩
  have HR2 := hid (lst_reads hl)
  obtain ⟨ad, rfl, -⟩ := HR2.out (by omega)
  have HB2 := hid (HB1.out.trans (hB2.mono HB1.out.size))
  clear hl hB2
  go_wp2_with (with_reducible refine wpl_val rfl _ (exec_cutHZ _ _ rfl ad 8 c2 3 _ rfl rfl rfl (by omega)) ?_)
  go_ret
  refine ⟨some ad, c2, rfl, ?_, HB2.out⟩
  rw [HV.out]
  exact HR2.out.less (by omega)
set_option maxRecDepth 100000 in
set_option maxHeartbeats 1000000 in
theorem v_kind (z : Int) (h1 : z ≠ 1) (h2 : z ≠ 2) (A : Option Addr) (L c : Nat) (f : Nat → Nat) (w : World) (hg : Laid w) (hR : Reads w w.heap.size A L f) (hf : ∀ i, i < L → f i < 256) (_hc : L ≤ c) (hL : L ≤ 100) :
    Calls Tryz.prog 6 #[.int .i64 z, .slice A L c] w fun e w' => e = .returned (.bool true) ∧ Below w.heap.size w w' := by
  have HG := hid hg
  have HR := hid hR
  have Hf := hid hf
  have hLI : ¬ 100 < (L : Int) := by omega
  clear hg hR hf
  go_enter Tryz.func6, Tryz.ntmps6
  go_wp2_with fail
  refine (awake9_any _ HG.out).mono ?_
  rintro e w1 ⟨rfl, hB1⟩
  have HR1 := hid ((HR.out.below hB1).more hB1.size)
  have HB1 := hid hB1
  clear hB1 HR
  go_wp2_with fail
  refine (value_kind z h1 h2 A L c _).mono ?_
  rintro e w2 ⟨rfl, rfl⟩
  go_wp2_with fail
  refine (rsized_kind z h1 h2 L _).mono ?_
  rintro e w3 ⟨rfl, rfl⟩
  go_wp2_with fail
  refine (code_hit 1 _ (HG.out.below HB1.out)).mono ?_
  rintro e w7 ⟨rfl, hB7⟩
  go_wp2_with fail
  go_ret
  exact ⟨rfl, HB1.out.trans (hB7.mono HB1.out.size)⟩
set_option maxRecDepth 100000 in
set_option maxHeartbeats 1000000 in
theorem v_size (k : Nat) (hk : k = 1 ∨ k = 2) (A : Option Addr) (L c : Nat) (f : Nat → Nat) (w : World) (hg : Laid w) (hR : Reads w w.heap.size A L f) (hf : ∀ i, i < L → f i < 256) (_hc : L ≤ c) (hL : L ≤ 100) (hn : ¬ fit9 k L) :
    Calls Tryz.prog 6 #[.int .i64 (k : Int), .slice A L c] w fun e w' => e = .returned (.bool true) ∧ Below w.heap.size w w' := by
  have HG := hid hg
  have HR := hid hR
  have Hf := hid hf
  have hLI : ¬ 100 < (L : Int) := by omega
  clear hg hR hf
  go_enter Tryz.func6, Tryz.ntmps6
  go_wp2_with fail
  refine (awake9_any _ HG.out).mono ?_
  rintro e w1 ⟨rfl, hB1⟩
  have HR1 := hid ((HR.out.below hB1).more hB1.size)
  have HB1 := hid hB1
  clear hB1 HR
  go_wp2_with fail
  refine (value_size k hk A L c (by omega) hn _).mono ?_
  rintro e w2 ⟨rfl, rfl⟩
  go_wp2_with fail
  refine (rsized_bad k L hk hn _).mono ?_
  rintro e w3 ⟨rfl, rfl⟩
  go_wp2_with fail
  refine (code_hit 2 _ (HG.out.below HB1.out)).mono ?_
  rintro e w7 ⟨rfl, hB7⟩
  go_wp2_with fail
  go_ret
  exact ⟨rfl, HB1.out.trans (hB7.mono HB1.out.size)⟩
set_option maxRecDepth 100000 in
set_option maxHeartbeats 1000000 in
theorem v_aes (A : Option Addr) (L c : Nat) (f : Nat → Nat) (w : World) (hg : Laid w) (hR : Reads w w.heap.size A L f) (hf : ∀ i, i < L → f i < 256) (hc : L ≤ c) (hL : L ≤ 100) (hn : fit9 1 L) :
    Calls Tryz.prog 6 #[.int .i64 1, .slice A L c] w fun e w' => e = .returned (.bool true) ∧ Below w.heap.size w w' := by
  have HG := hid hg
  have HR := hid hR
  have Hf := hid hf
  have hLI : ¬ 100 < (L : Int) := by omega
  clear hg hR hf
  go_enter Tryz.func6, Tryz.ntmps6
  go_wp2_with fail
  refine (awake9_any _ HG.out).mono ?_
  rintro e w1 ⟨rfl, hB1⟩
  have HR1 := hid ((HR.out.below hB1).more hB1.size)
  have HB1 := hid hB1
  clear hB1 HR
  go_wp2_with fail
  refine (value_aes A L c f _ hn Hf.out HR1.out).mono ?_
  rintro e w2 ⟨v2, rfl, ho2, hB2⟩
  obtain ⟨A2, c2, rfl, hc2, -, -⟩ := ho2.slice'
  have HV2 := hid ho2.reads
  have HR2 := hid ((HR1.out.below hB2).more hB2.size)
  have HB2 := hid (HB1.out.trans (hB2.mono HB1.out.size))
  clear ho2 hB2 HR1 HB1
  go_wp2_with fail
  refine (rsized_ok 1 L hn _).mono ?_
  rintro e w3 ⟨rfl, rfl⟩
  go_wp2_with fail
  refine (rvalue_aes A L c f _ hn hc Hf.out HR2.out).mono ?_
  rintro e w4 ⟨A4, c4, rfl, hR4, hB4⟩
  have HV4 := hid ((HV2.out.below hB4).more hB4.size)
  have HX4 := hid hR4
  have HB4 := hid (HB2.out.trans (hB4.mono HB2.out.size))
  clear hR4 hB4 HV2 HR2 HB2
  go_wp2_with fail
  refine (same_any A2 A4 3 c2 c4 (vlF 1 L f) (vlF 1 L f) _ (by omega) HV4.out HX4.out).mono ?_
  rintro e w5 ⟨rfl, hB5⟩
  rw [show eqB 3 (vlF 1 L f) (vlF 1 L f) = true from eqB_true (fun _ _ => rfl)]
  go_wp2_with fail
  go_ret
  exact ⟨rfl, HB4.out.trans (hB5.mono HB4.out.size)⟩
set_option maxRecDepth 100000 in
set_option maxHeartbeats 1000000 in
theorem v_tdes (A : Option Addr) (L c : Nat) (f : Nat → Nat) (w : World) (hg : Laid w) (hR : Reads w w.heap.size A L f) (hf : ∀ i, i < L → f i < 256) (hc : L ≤ c) (hL : L ≤ 100) (hn : fit9 2 L) :
    Calls Tryz.prog 6 #[.int .i64 2, .slice A L c] w fun e w' => e = .returned (.bool true) ∧ Below w.heap.size w w' := by
  have HG := hid hg
  have HR := hid hR
  have Hf := hid hf
  have hLI : ¬ 100 < (L : Int) := by omega
  clear hg hR hf
  go_enter Tryz.func6, Tryz.ntmps6
  go_wp2_with fail
  refine (awake9_any _ HG.out).mono ?_
  rintro e w1 ⟨rfl, hB1⟩
  have HR1 := hid ((HR.out.below hB1).more hB1.size)
  have HB1 := hid hB1
  clear hB1 HR
  go_wp2_with fail
  refine (value_tdes A L c f _ hn Hf.out HR1.out).mono ?_
  rintro e w2 ⟨v2, rfl, ho2, hB2⟩
  obtain ⟨A2, c2, rfl, hc2, -, -⟩ := ho2.slice'
  have HV2 := hid ho2.reads
  have HR2 := hid ((HR1.out.below hB2).more hB2.size)
  have HB2 := hid (HB1.out.trans (hB2.mono HB1.out.size))
  clear ho2 hB2 HR1 HB1
  go_wp2_with fail
  refine (rsized_ok 2 L hn _).mono ?_
  rintro e w3 ⟨rfl, rfl⟩
  go_wp2_with fail
  refine (rvalue_tdes A L c f _ hn hc Hf.out HR2.out).mono ?_
  rintro e w4 ⟨A4, c4, rfl, hR4, hB4⟩
  have HV4 := hid ((HV2.out.below hB4).more hB4.size)
  have HX4 := hid hR4
  have HB4 := hid (HB2.out.trans (hB4.mono HB2.out.size))
  clear hR4 hB4 HV2 HR2 HB2
  go_wp2_with fail
  refine (same_any A2 A4 3 c2 c4 (vlF 2 L f) (vlF 2 L f) _ (by omega) HV4.out HX4.out).mono ?_
  rintro e w5 ⟨rfl, hB5⟩
  rw [show eqB 3 (vlF 2 L f) (vlF 2 L f) = true from eqB_true (fun _ _ => rfl)]
  go_wp2_with fail
  go_ret
  exact ⟨rfl, HB4.out.trans (hB5.mono HB4.out.size)⟩
set_option maxRecDepth 100000 in
theorem values_true (z : Int) (A : Option Addr) (L c : Nat) (f : Nat → Nat) (w : World) (hg : Laid w) (_q : (Lit.int .i64 z).wf = true) (hR : Reads w w.heap.size A L f) (hf : ∀ i, i < L → f i < 256) (_hA : A = none → L = 0 ∧ c = 0) (hc : L ≤ c) :
    Calls Tryz.prog 6 #[.int .i64 z, .slice A L c] w fun e w' => e = .returned (.bool true) ∧ Below w.heap.size w w' := by
  by_cases hL : L ≤ 100
  · by_cases h1 : z = 1
    · subst h1
      by_cases hn : fit9 1 L
      · exact v_aes A L c f w hg hR hf hc hL hn
      · exact v_size 1 (.inl rfl) A L c f w hg hR hf hc hL hn
    · by_cases h2 : z = 2
      · subst h2
        by_cases hn : fit9 2 L
        · exact v_tdes A L c f w hg hR hf hc hL hn
        · exact v_size 2 (.inr rfl) A L c f w hg hR hf hc hL hn
      · exact v_kind z h1 h2 A L c f w hg hR hf hc hL
  · have hLI : 100 < (L : Int) := by omega
    have HG := hid hg
    clear hg hR hf
    go_enter Tryz.func6, Tryz.ntmps6
    go_wp2_with fail
    refine (awake9_any _ HG.out).mono ?_
    rintro e w1 ⟨rfl, hB1⟩
    go_wp2_with fail
    refine (awake9_any _ (HG.out.below hB1)).mono ?_
    rintro e w2 ⟨rfl, hB2⟩
    go_wp2_with fail
    go_ret
    exact ⟨rfl, hB1.trans (hB2.mono hB1.size)⟩
end Go.Proofs.YtaeleohjikheiaaGreatDoor.Pt.Values
