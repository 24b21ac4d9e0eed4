/-
  What package mac's further functions return: sizeOf, turnLast, lastChained, and Cmac with AES and TDES.
-/
import Derived.Test.YtmmgimpokpgnaaaGreatDoorMac1
namespace Go.Proofs.YtmmgimpokpgnaaaGreatDoor.Mc
open Mem Bk Md Go.ChangeShapes Go.WideShapes Go.ChangeAt Go.RowKit
theorem own_less {w : World} {base e n m c : Nat} {A : Option Addr} {f : Nat → Nat} (h : Mem.Own w base e 1 (.slice A n c) n f) (hA : A ≠ none) (hm : m ≤ n) : Mem.Own w base e 1 (.slice A m c) m f := by
  obtain ⟨h1, h2 | ⟨k, c', cur, hv, hbk, hblk, hnc, hcm, hsz, hcs⟩⟩ := h
  · obtain ⟨hv, -⟩ := h2
    injection hv with h3
    exact absurd h3 hA
  · injection hv with h3 h4 h5
    subst h3 h5
    refine ⟨by simp, .inr ⟨k, c, cur, rfl, hbk, hblk, Nat.le_trans hm hnc, hcm, hsz, ?_⟩⟩
    have := congrArg (List.take m) hcs
    simp only [Nat.mul_one] at this ⊢
    rw [List.take_take, Nat.min_eq_left hm, ← List.map_take, List.take_range, Nat.min_eq_left hm] at this
    exact this
theorem own_at {w : World} {base e n : Nat} {v : Value} {f : Nat → Nat} (ho : Mem.Own w base e 1 v n f) (hn : 0 < n) : ∃ g c, v = .slice (some ⟨g, 0, none⟩) n c ∧ n ≤ c := by
  rcases ho.form with ⟨_, h⟩ | ⟨g, c, cur, h, _, _, hc, _⟩
  · omega
  · exact ⟨g, c, h, hc⟩
/-- a text is whole blocks, at least one -/
def wh (n L : Nat) : Prop := L ≠ 0 ∧ L % n = 0
instance (n L : Nat) : Decidable (wh n L) := by unfold wh; infer_instance
/-- how long the text is then -/
def mtN (n L : Nat) : Nat := if wh n L then L else padN L n
/-- the text as whole blocks, the last one turned -/
def mtF (n L : Nat) (t k1 : Nat → Nat) : Nat → Nat :=
  if wh n L then cat (L - n) t (xr (fun i => t (L - n + i)) k1) else cat (padN L n - n) (padF L t) (xr (fun i => padF L t (padN L n - n + i)) (dbl n k1))
set_option maxRecDepth 100000 in
set_option maxHeartbeats 1000000 in
theorem turn_whole (A : Option Addr) (L c : Nat) (t : Nat → Nat) (gk n : Nat) (k1 : Nat → Nat) (w : World) (hL : L ≤ 1000) (hn : n = 8 ∨ n = 16) (hw : wh n L) (hA : A = none → L = 0 ∧ c = 0) (ht : ∀ i, i < L → t i < 256) (hk : ∀ i, i < n → k1 i < 256) (hR : Reads w w.heap.size A L t) (hK : Reads w w.heap.size (some ⟨gk, 0, none⟩) n k1) :
    Calls Tryz.prog 54 #[.slice A L c, .slice (some ⟨gk, 0, none⟩) n n] w fun e w' => ∃ v, e = .returned (.tuple #[v, .nilIface]) ∧ Mem.Own w' w.heap.size 5 1 v L (cat (L - n) t (xr (fun i => t (L - n + i)) k1)) ∧ Below w.heap.size w w' := by
  obtain ⟨hw1, hw2⟩ := hw
  have hnL : n ≤ L := by rcases hn with rfl | rfl <;> omega
  have hn0 : 0 < n := by omega
  have hn16 : n ≤ 16 := by omega
  have he1 : ((L : Int) == 0) = false := by simp; omega
  have HF := hid (rem_n (u := L) hn0 hw2.symm)
  have HR := hid hR
  have HK := hid hK
  have HA := hid hA
  have Ht := hid ht
  have Hk := hid hk
  have hL5 : L ≤ 100000 := by omega
  have hrI : Hid (((L : Int) % (n : Int) != 0) = false) := hid (by rw [HF.out.2.2]; rfl)
  have hL0 : 0 < L := by omega
  have hD : L - (L - n) = n := by omega
  have hDL : L - n ≤ L := by omega
  have hne : ∀ c1, L ≤ c1 → ¬ c1 = L - n := fun c1 h => by omega
  have hDL2 : L - n + n = L := by omega
  have hsm : L - n + n ≤ 1000000 := by omega
  clear hR hK hA ht hk hw2 hw1 hn
  go_enter Tryz.func54, Tryz.ntmps54
  go_wp2_with (go_at_call 40; refine (clone_any A L c t _ hL5 HA.out HR.out).mono ?_; rintro e w1 ⟨v, rfl, ho, hB1⟩; obtain ⟨g1, c1, rfl, hc1⟩ := own_at ho hL0; have hrJ := hrI.out; have hne1 := hne c1 hc1; have Ho := hid ho; have HB1 := hid hB1; clear ho hB1)
  have HX := hid (Ho.out.reads.cut (k := L - n) (cap := c1) hDL hc1)
  rw [if_neg hne1, hD] at HX
  simp only [Option.map_some, add_zero_off] at HX
  have HK1 := hid ((HK.out.below HB1.out).more HB1.out.size)
  refine (xor_any _ _ n _ n (fun i => t (L - n + i)) k1 _ (Nat.le_trans hnL hL5) (fun i hi => Ht.out _ (by omega)) Hk.out HX.out HK1.out).mono ?_
  rintro e w2 ⟨rfl, hb2, hB2⟩
  have Ho2 := hid (own_less (Ho.out.below hB2 (Nat.le_refl _)) (by simp) hDL)
  have HR2 := hid (Blk.reads hb2)
  have HB2 := hid (HB1.out.trans (hB2.mono HB1.out.size))
  clear hb2 hB2 Ho HB1 HK HK1 HX HR
  go_wp2_with (at_builtin; (refine wpl_app_gen rfl _ _ 22 rfl w.heap.size 5 (.int .u8 0) Tryz.underlying22 info_u8 rfl _ (L - n) _ rfl Ho2.out (some ⟨w1.heap.size, 0, none⟩) n n _ _ HR2.out (fun h => by cases h) rfl hsm HB2.out.size ?_))
  intro v3 w3 ho3 hB3
  try rw [hDL2] at ho3
  obtain ⟨A3, c3, rfl, hc3, -, -⟩ := ho3.slice'
  clear Ho2 HR2
  go_wp2_with fail
  go_ret2
  exact ⟨_, rfl, ho3, HB2.out.trans hB3⟩
/-- a row that was made is one's own -/
theorem own_row {w : World} {base g n : Nat} {e : TypeId} {f : Nat → Nat} (h : Blk w g e (row n (b8 f))) (hb : base ≤ g) (hn : n ≤ 100000) : Mem.Own w base e 1 (.slice (some ⟨g, 0, none⟩) n n) n f := by
  refine ⟨by simp, .inr ⟨g, n, row n (b8 f), rfl, hb, h, Nat.le_refl _, Nat.le_trans hn (by decide), by rw [row_size, Nat.mul_one], ?_⟩⟩
  apply List.ext_getElem?
  intro i
  by_cases hi : i < n
  · rw [List.getElem?_take_of_lt (by omega), Array.getElem?_toList, row_get _ _ _ hi]
    simp [hi]
  · rw [List.getElem?_eq_none (by simp [row_size]; omega), List.getElem?_eq_none (by simp; omega)]
set_option maxRecDepth 100000 in
set_option maxHeartbeats 1000000 in
theorem turn_none (A : Option Addr) (L c : Nat) (t : Nat → Nat) (gk n M : Nat) (k1 : Nat → Nat) (w : World) (hL : L ≤ 1000) (hn : n = 8 ∨ n = 16) (hw : L = 0) (hM : M = padN L n) (hA : A = none → L = 0 ∧ c = 0) (ht : ∀ i, i < L → t i < 256) (hk : ∀ i, i < n → k1 i < 256) (hR : Reads w w.heap.size A L t) (hK : Reads w w.heap.size (some ⟨gk, 0, none⟩) n k1) :
    Calls Tryz.prog 54 #[.slice A L c, .slice (some ⟨gk, 0, none⟩) n n] w fun e w' => ∃ v, e = .returned (.tuple #[v, .nilIface]) ∧ Mem.Own w' w.heap.size 5 1 v M (cat (M - n) (padF L t) (xr (fun i => padF L t (M - n + i)) (dbl n k1))) ∧ Below w.heap.size w w' := by
  have hn0 : 0 < n := by omega
  have hn16 : n ≤ 64 := by omega
  have hnM : n ≤ M := by rw [hM]; unfold padN; exact Nat.le_mul_of_pos_left _ (Nat.succ_pos _)
  have hMs : M ≤ 1100 := by rw [hM]; exact Nat.le_trans padN_le (by omega)
  have he1 : ((L : Int) == 0) = true := by simp; omega
  have HM := hid hM
  have HR := hid hR
  have HK := hid hK
  have HA := hid hA
  have Ht := hid ht
  have Hk := hid hk
  have hL5 : L ≤ 100000 := by omega
  have hn5 : n ≤ 100000 := by omega
  have hM5 : M ≤ 100000 := by omega
  have hn10 : n ≤ 1000 := by omega
  have hD : M - (M - n) = n := by omega
  have hDM : M - n ≤ M := by omega
  have hne1 : ¬ M = M - n := by omega
  have hDM2 : M - n + n = M := by omega
  have hsm : M - n + n ≤ 1000000 := by omega
  clear hR hK hA ht hk hw hn hM
  go_enter Tryz.func54, Tryz.ntmps54
  go_wp2_with (go_at_call 40; refine (clone_any A L c t _ hL5 HA.out HR.out).mono ?_; rintro e w1 ⟨v, rfl, ho, hB1⟩; obtain ⟨A1, c1, rfl, -⟩ := ho.slice'; have HB1 := hid hB1; have HR1 := hid ((HR.out.below hB1).more hB1.size); have HK1 := hid ((HK.out.below hB1).more hB1.size); clear ho hB1 HR HK)
  refine (pad_any A L c t n M _ hL hn0 hn16 HM.out HA.out HR1.out).mono ?_
  rintro e w2 ⟨rfl, hb2, hB2⟩
  have HK2 := hid ((HK1.out.below hB2).more hB2.size)
  have HP2 := hid hb2
  have HB2 := hid (HB1.out.trans (hB2.mono HB1.out.size))
  have hlo : Hid (w.heap.size ≤ w1.heap.size) := hid HB1.out.size
  clear hb2 hB2 HK1 HB1 HR1
  go_wp2_with fail
  refine (doubled_any ⟨gk, 0, none⟩ n n k1 _ hn0 hn10 Hk.out HK2.out).mono ?_
  rintro e w3 ⟨rfl, hb3, hB3⟩
  have HP3 := hid (HP2.out.below hB3 HP2.out.lt)
  have HD3 := hid (Blk.reads hb3)
  have HB3 := hid (HB2.out.trans (hB3.mono HB2.out.size))
  clear hb3 hB3 HP2 HB2 HK2
  go_wp2_with fail
  have HX := hid ((Blk.reads HP3.out).cut (k := M - n) (cap := M) hDM (Nat.le_refl _))
  rw [if_neg hne1, hD] at HX
  simp only [Option.map_some, add_zero_off] at HX
  refine (xor_any _ _ n _ n (fun i => padF L t (M - n + i)) (dbl n k1) _ hn5 (fun i _ => padF_lt Ht.out _) (dbl_lt Hk.out) HX.out HD3.out).mono ?_
  rintro e w4 ⟨rfl, hb4, hB4⟩
  have Ho2 := hid (own_less (own_row (base := w.heap.size) (HP3.out.below hB4 HP3.out.lt) hlo.out hM5) (by simp) hDM)
  have HR2 := hid (Blk.reads hb4)
  have HB4 := hid (HB3.out.trans (hB4.mono HB3.out.size))
  clear hb4 hB4 HP3 HB3 HX HD3
  go_wp2_with (at_builtin; (refine wpl_app_gen rfl _ _ 22 rfl w.heap.size 5 (.int .u8 0) Tryz.underlying22 info_u8 rfl _ (M - n) _ rfl Ho2.out (some ⟨w3.heap.size, 0, none⟩) n n _ _ HR2.out (fun h => by cases h) rfl hsm HB4.out.size ?_))
  intro v5 w5 ho5 hB5
  try rw [hDM2] at ho5
  obtain ⟨A5, c5, rfl, hc5, -, -⟩ := ho5.slice'
  clear Ho2 HR2
  go_wp2_with fail
  go_ret2
  exact ⟨_, rfl, ho5, HB4.out.trans hB5⟩
set_option maxRecDepth 100000 in
set_option maxHeartbeats 1000000 in
theorem turn_part (A : Option Addr) (L c : Nat) (t : Nat → Nat) (gk n M : Nat) (k1 : Nat → Nat) (w : World) (hL : L ≤ 1000) (hn : n = 8 ∨ n = 16) (hw : L ≠ 0 ∧ L % n ≠ 0) (hM : M = padN L n) (hA : A = none → L = 0 ∧ c = 0) (ht : ∀ i, i < L → t i < 256) (hk : ∀ i, i < n → k1 i < 256) (hR : Reads w w.heap.size A L t) (hK : Reads w w.heap.size (some ⟨gk, 0, none⟩) n k1) :
    Calls Tryz.prog 54 #[.slice A L c, .slice (some ⟨gk, 0, none⟩) n n] w fun e w' => ∃ v, e = .returned (.tuple #[v, .nilIface]) ∧ Mem.Own w' w.heap.size 5 1 v M (cat (M - n) (padF L t) (xr (fun i => padF L t (M - n + i)) (dbl n k1))) ∧ Below w.heap.size w w' := by
  have hn0 : 0 < n := by omega
  have hn16 : n ≤ 64 := by omega
  have hnM : n ≤ M := by rw [hM]; unfold padN; exact Nat.le_mul_of_pos_left _ (Nat.succ_pos _)
  have hMs : M ≤ 1100 := by rw [hM]; exact Nat.le_trans padN_le (by omega)
  have he1 : ((L : Int) == 0) = false := by simp; omega
  have hrI : Hid (((L : Int) % (n : Int) != 0) = true) := hid (by rw [(rem_n (u := L) hn0 rfl).2.2, bne_iff_ne]; exact fun h => hw.2 (Int.natCast_eq_zero.1 h))
  have HM := hid hM
  have HR := hid hR
  have HK := hid hK
  have HA := hid hA
  have Ht := hid ht
  have Hk := hid hk
  have hL5 : L ≤ 100000 := by omega
  have hn5 : n ≤ 100000 := by omega
  have hM5 : M ≤ 100000 := by omega
  have hn10 : n ≤ 1000 := by omega
  have hD : M - (M - n) = n := by omega
  have hDM : M - n ≤ M := by omega
  have hne1 : ¬ M = M - n := by omega
  have hDM2 : M - n + n = M := by omega
  have hsm : M - n + n ≤ 1000000 := by omega
  clear hR hK hA ht hk hw hn hM
  go_enter Tryz.func54, Tryz.ntmps54
  go_wp2_with (go_at_call 40; refine (clone_any A L c t _ hL5 HA.out HR.out).mono ?_; rintro e w1 ⟨v, rfl, ho, hB1⟩; obtain ⟨A1, c1, rfl, -⟩ := ho.slice'; have hrJ := hrI.out; have HB1 := hid hB1; have HR1 := hid ((HR.out.below hB1).more hB1.size); have HK1 := hid ((HK.out.below hB1).more hB1.size); clear ho hB1 HR HK)
  refine (pad_any A L c t n M _ hL hn0 hn16 HM.out HA.out HR1.out).mono ?_
  rintro e w2 ⟨rfl, hb2, hB2⟩
  have HK2 := hid ((HK1.out.below hB2).more hB2.size)
  have HP2 := hid hb2
  have HB2 := hid (HB1.out.trans (hB2.mono HB1.out.size))
  have hlo : Hid (w.heap.size ≤ w1.heap.size) := hid HB1.out.size
  clear hb2 hB2 HK1 HB1 HR1
  go_wp2_with fail
  refine (doubled_any ⟨gk, 0, none⟩ n n k1 _ hn0 hn10 Hk.out HK2.out).mono ?_
  rintro e w3 ⟨rfl, hb3, hB3⟩
  have HP3 := hid (HP2.out.below hB3 HP2.out.lt)
  have HD3 := hid (Blk.reads hb3)
  have HB3 := hid (HB2.out.trans (hB3.mono HB2.out.size))
  clear hb3 hB3 HP2 HB2 HK2
  go_wp2_with fail
  have HX := hid ((Blk.reads HP3.out).cut (k := M - n) (cap := M) hDM (Nat.le_refl _))
  rw [if_neg hne1, hD] at HX
  simp only [Option.map_some, add_zero_off] at HX
  refine (xor_any _ _ n _ n (fun i => padF L t (M - n + i)) (dbl n k1) _ hn5 (fun i _ => padF_lt Ht.out _) (dbl_lt Hk.out) HX.out HD3.out).mono ?_
  rintro e w4 ⟨rfl, hb4, hB4⟩
  have Ho2 := hid (own_less (own_row (base := w.heap.size) (HP3.out.below hB4 HP3.out.lt) hlo.out hM5) (by simp) hDM)
  have HR2 := hid (Blk.reads hb4)
  have HB4 := hid (HB3.out.trans (hB4.mono HB3.out.size))
  clear hb4 hB4 HP3 HB3 HX HD3
  go_wp2_with (at_builtin; (refine wpl_app_gen rfl _ _ 22 rfl w.heap.size 5 (.int .u8 0) Tryz.underlying22 info_u8 rfl _ (M - n) _ rfl Ho2.out (some ⟨w3.heap.size, 0, none⟩) n n _ _ HR2.out (fun h => by cases h) rfl hsm HB4.out.size ?_))
  intro v5 w5 ho5 hB5
  try rw [hDM2] at ho5
  obtain ⟨A5, c5, rfl, hc5, -, -⟩ := ho5.slice'
  clear Ho2 HR2
  go_wp2_with fail
  go_ret2
  exact ⟨_, rfl, ho5, HB4.out.trans hB5⟩
/-- turnLast: the text as whole blocks, the last one turned -/
theorem turn_any (A : Option Addr) (L c : Nat) (t : Nat → Nat) (gk n : Nat) (k1 : Nat → Nat) (w : World) (hL : L ≤ 1000) (hn : n = 8 ∨ n = 16) (hA : A = none → L = 0 ∧ c = 0) (ht : ∀ i, i < L → t i < 256) (hk : ∀ i, i < n → k1 i < 256) (hR : Reads w w.heap.size A L t) (hK : Reads w w.heap.size (some ⟨gk, 0, none⟩) n k1) :
    Calls Tryz.prog 54 #[.slice A L c, .slice (some ⟨gk, 0, none⟩) n n] w fun e w' => ∃ v, e = .returned (.tuple #[v, .nilIface]) ∧ Mem.Own w' w.heap.size 5 1 v (mtN n L) (mtF n L t k1) ∧ Below w.heap.size w w' := by
  by_cases h : wh n L
  · unfold mtN mtF
    rw [if_pos h, if_pos h]
    exact turn_whole A L c t gk n k1 w hL hn h hA ht hk hR hK
  · unfold mtN mtF
    rw [if_neg h, if_neg h]
    rcases Nat.eq_zero_or_pos L with h0 | h0
    · exact turn_none A L c t gk n _ k1 w hL hn h0 rfl hA ht hk hR hK
    · exact turn_part A L c t gk n _ k1 w hL hn ⟨by omega, fun h1 => h ⟨by omega, h1⟩⟩ rfl hA ht hk hR hK
/-- so many blocks -/
def mtB (n L : Nat) : Nat := if wh n L then L / n else L / n + 1
theorem mtN_eq {n L : Nat} : mtN n L = mtB n L * n := by
  unfold mtN mtB padN
  split
  · next h => exact (Nat.div_mul_cancel (Nat.dvd_of_mod_eq_zero h.2)).symm
  · rfl
theorem mtB_pos {n L : Nat} : 0 < mtB n L := by
  unfold mtB
  split
  · next h =>
    obtain ⟨h1, h2⟩ := h
    rcases Nat.eq_zero_or_pos (L / n) with h3 | h3
    · have := Nat.div_add_mod L n
      rw [h3, h2] at this
      omega
    · exact h3
  · exact Nat.succ_pos _
theorem mtN_le {n L : Nat} : mtN n L ≤ L + n := by
  unfold mtN
  split
  · omega
  · exact padN_le
theorem mtF_lt {n L : Nat} {t k1 : Nat → Nat} (ht : ∀ i, i < L → t i < 256) (hk : ∀ i, i < n → k1 i < 256) : ∀ i, i < mtN n L → mtF n L t k1 i < 256 := fun i hi => by
  unfold mtN at hi
  unfold mtF
  by_cases h : wh n L
  · rw [if_pos h] at hi ⊢
    have hnL : n ≤ L := Nat.le_of_dvd (by have := h.1; omega) (Nat.dvd_of_mod_eq_zero h.2)
    unfold cat
    split
    · exact ht _ hi
    · exact xr_lt (ht _ (by omega)) (hk _ (by omega))
  · rw [if_neg h] at hi ⊢
    have hnL : n ≤ padN L n := by unfold padN; exact Nat.le_mul_of_pos_left _ (Nat.succ_pos _)
    unfold cat
    split
    · exact padF_lt ht _
    · exact xr_lt (padF_lt ht _) (dbl_lt hk _ (by omega))
def zf : Nat → Nat := fun _ => 0
theorem zf_lt (n : Nat) : ∀ i, i < n → zf i < 256 := fun _ _ => by unfold zf; omega
set_option maxRecDepth 100000 in
theorem msizeOf_any (w : World) (p : Pl) (k gc base L : Nat) (key : Nat → Nat) (h : CiAt w p k gc base L key) :
    Calls Tryz.prog 53 #[.pointer (some ⟨gc, 0, none⟩)] w fun e w' => e = .returned (.int .i64 (sz k : Int)) ∧ w = w' := by
  have H := hid h
  clear h
  go_enter Tryz.func53, Tryz.ntmps53
  go_wp2_with (go_at_call 12; refine (size_any _ p k gc _ _ _ H.out).mono ?_; rintro e w' ⟨rfl, rfl⟩)
  go_ret
  exact ⟨rfl, rfl⟩
set_option maxRecDepth 100000 in
set_option maxHeartbeats 1000000 in
/-- lastChained: the last block, chained from zeros -/
theorem last_any (w : World) (p : Pl) (k gc base L : Nat) (key : Nat → Nat) (A : Option Addr) (N M c : Nat) (x : Nat → Nat) (hk3 : k ≠ 3) (h : CiAt w p k gc base L key) (hM : M = N * sz k) (hN0 : 0 < N) (hN : M ≤ 100000) (hc : M ≤ c) (hA : A = none → M = 0) (hx : ∀ i, i < M → x i < 256) (hR : Reads w w.heap.size A M x) :
    Calls Tryz.prog 56 #[.pointer (some ⟨gc, 0, none⟩), .slice A M c] w fun e w' => ∃ g d c', e = .returned (.tuple #[.slice (some ⟨g, d, none⟩) (sz k) c', .nilIface]) ∧ sz k ≤ c' ∧ Reads w' w'.heap.size (some ⟨g, d, none⟩) (sz k) (ah k L key zf x N) ∧ Below w.heap.size w w' := by
  have H := hid h
  have HM := hid hM
  have HR := hid hR
  have HA := hid hA
  have Hx := hid hx
  have hsz := sz_or k
  have hsp := sz_pos k
  have hsM : sz k ≤ M := by rw [hM]; exact Nat.le_mul_of_pos_left _ hN0
  have hs16 : sz k ≤ 16 := by omega
  obtain ⟨J, hJ⟩ : ∃ J, N = J + 1 := ⟨N - 1, by omega⟩
  have hMJ : Hid (M - sz k = J * sz k) := hid (by rw [hM, hJ, Nat.succ_mul, Nat.add_sub_cancel])
  have HJ := hid hJ
  have hD : M - (M - sz k) = sz k := by omega
  have hDM : M - sz k ≤ M := by omega
  have hne : ∀ c1, M ≤ c1 → ¬ c1 = M - sz k := fun c1 h => by omega
  have hcc : ∀ c1, M ≤ c1 → sz k ≤ c1 - (M - sz k) := fun c1 h => by omega
  have hM0 : 0 < M := by omega
  have hB0 : Below w.heap.size w (w.alloc (.cells (row (sz k) (b8 fun _ => 0)) 5)) := (Below.refl _ _).alloc (Nat.le_refl _) _
  have HZ := hid (Blk.fresh w 5 (row (sz k) (b8 fun _ => 0)))
  have HB0 := hid hB0
  have H0 := hid (h.keep hB0)
  have HR0 := hid ((hR.below hB0).more hB0.size)
  clear h hM hR hA hx hJ hB0
  go_enter Tryz.func56, Tryz.ntmps56
  go_wp2_with (first
    | (go_at_call 12; refine (size_any _ p k gc _ _ _ H.out).mono ?_; rintro e w' ⟨rfl, rfl⟩)
    | (with_reducible refine wpl_make rfl 22 5 _ _ rfl Tryz.underlying22 info8 _ _ _ _ rfl rfl (sz k) rfl rfl (by omega) ?_))
  refine (chained_any _ p k gc _ L key ⟨w.heap.size, 0, none⟩ _ zf A N M c false x hk3 H0.out HM.out hN hc HA.out Hx.out HR0.out HZ.out.lt (fun i hi => by rw [add_zero_off]; exact HZ.out.val i hi) (zf_lt _)).mono ?_
  rintro e w1 ⟨v, rfl, ho, hB1⟩
  obtain ⟨g1, c1, rfl, hc1⟩ := own_at ho hM0
  have hne1 := hne c1 hc1
  have hcc1 := hcc c1 hc1
  have HX := hid (ho.reads.cut (k := M - sz k) (cap := c1) hDM hc1)
  rw [if_neg hne1, hD] at HX
  simp only [Option.map_some, add_zero_off] at HX
  have HX1 : Hid (Reads w1 w1.heap.size (some ⟨g1, M - sz k, none⟩) (sz k) (ah k L key zf x N)) := hid (HX.out.ext (by rw [hMJ.out, HJ.out]; exact forth_blk (N := J + 1) (j := J) (Nat.lt_succ_self J)))
  have HB1 := hid (HB0.out.trans (hB1.mono HB0.out.size))
  have H1 := hid (H0.out.keep hB1)
  clear ho hB1 HX HZ HB0 HR0 HR H H0 hne hcc
  go_wp2_with (go_at_call 12; refine (size_any _ p k gc _ _ _ H1.out).mono ?_; rintro e w' ⟨rfl, rfl⟩)
  go_ret2
  exact ⟨g1, M - sz k, _, rfl, hcc1, HX1.out, HB1.out⟩
/-- the code of a text: all of it -/
def cmacF (k Lk : Nat) (key : Nat → Nat) (L : Nat) (t : Nat → Nat) : Nat → Nat := ah k Lk key zf (mtF (sz k) L t (dbl (sz k) (tc k Lk key false zf))) (mtB (sz k) L)
set_option maxRecDepth 100000 in
set_option maxHeartbeats 1000000 in
/-- Cmac with AES and TDES -/
theorem cmac_any (w : World) (p : Pl) (k gc base Lk : Nat) (key : Nat → Nat) (A : Option Addr) (L c : Nat) (t : Nat → Nat) (n : Nat) (hk3 : k ≠ 3) (h : CiAt w p k gc base Lk key) (hL : L ≤ 1000) (hn : 1 ≤ n) (hn' : n ≤ sz k) (hA : A = none → L = 0 ∧ c = 0) (ht : ∀ i, i < L → t i < 256) (hR : Reads w w.heap.size A L t) :
    Calls Tryz.prog 31 #[.pointer (some ⟨gc, 0, none⟩), .slice A L c, .int .i64 (n : Int)] w fun e w' => ∃ v, e = .returned (.tuple #[v, .nilIface]) ∧ Mem.Own w' w.heap.size 5 1 v n (cmacF k Lk key L t) ∧ Below w.heap.size w w' := by
  have hfit := Md.CiAt.fits h
  have hkey := h.1
  have hsz := sz_or k
  have hsp := sz_pos k
  have hs16 : sz k ≤ 16 := by omega
  have hn1I : ¬ (n : Int) < 1 := by omega
  have hn2I : ¬ (n : Int) > (sz k : Int) := by omega
  have hl : ∀ i, i < sz k → tc k Lk key false zf i < 256 := tc_lt hk3 hfit hkey (zf_lt _)
  have Hl := hid hl
  have Hd := hid (dbl_lt hl)
  have HMN := hid (mtN_eq (n := sz k) (L := L))
  have HMB := hid (mtB_pos (n := sz k) (L := L))
  have hMle := mtN_le (n := sz k) (L := L)
  have HF := hid (mtF_lt (n := sz k) ht (dbl_lt hl))
  have hM0 : 0 < mtN (sz k) L := by rw [HMN.out]; exact Nat.mul_pos HMB.out hsp
  have HM0 := hid hM0
  have hMs : mtN (sz k) L ≤ 100000 := by omega
  have hB0 : Below w.heap.size w (w.alloc (.cells (row (sz k) (b8 fun _ => 0)) 5)) := (Below.refl _ _).alloc (Nat.le_refl _) _
  have HZ := hid (Blk.fresh w 5 (row (sz k) (b8 fun _ => 0)))
  have H := hid h
  have H0 := hid (h.keep hB0)
  have HR0 := hid ((hR.below hB0).more hB0.size)
  have HB0 := hid hB0
  have HA := hid hA
  have Ht := hid ht
  clear h hB0 hR hA ht hl hkey hfit hM0
  go_enter Tryz.func31, Tryz.ntmps31
  go_wp2_with (first
    | (go_at_call 53; refine (msizeOf_any _ p k gc _ _ _ H.out).mono ?_; rintro e w' ⟨rfl, rfl⟩)
    | (with_reducible refine wpl_make rfl 22 5 _ _ rfl Tryz.underlying22 info8 _ _ _ _ rfl rfl (sz k) rfl rfl (by omega) ?_))
  refine (do12 _ p k gc _ Lk key ⟨w.heap.size, 0, none⟩ (sz k) false zf hk3 H0.out HZ.out.lt (fun i hi => by rw [add_zero_off]; exact HZ.out.val i hi) (zf_lt _)).mono ?_
  rintro e w1 ⟨g1, rfl, hb1, hg1, hB1⟩
  have HR1 := hid ((HR0.out.below hB1).more hB1.size)
  have H1 := hid (H0.out.keep hB1)
  have HB1 := hid (HB0.out.trans (hB1.mono HB0.out.size))
  have HX1 := hid (Blk.reads hb1)
  clear HR0 H0 hB1 HB0 hb1 HZ H
  go_wp2_with fail
  refine (doubled_any ⟨g1, 0, none⟩ (sz k) (sz k) _ _ hsp (by omega) Hl.out HX1.out).mono ?_
  rintro e w2 ⟨rfl, hb2, hB2⟩
  have HR2 := hid ((HR1.out.below hB2).more hB2.size)
  have H2 := hid (H1.out.keep hB2)
  have HB2 := hid (HB1.out.trans (hB2.mono HB1.out.size))
  have HX2 := hid (Blk.reads hb2)
  clear HR1 H1 hB2 HB1 hb2 HX1
  go_wp2_with fail
  refine (turn_any A L c t w1.heap.size (sz k) _ _ hL hsz HA.out Ht.out Hd.out HR2.out HX2.out).mono ?_
  rintro e w3 ⟨v3, rfl, ho3, hB3⟩
  obtain ⟨A3, c3, rfl, hc3, hA3, -⟩ := ho3.slice'
  have H3 := hid (H2.out.keep hB3)
  have HB3 := hid (HB2.out.trans (hB3.mono HB2.out.size))
  have HX3 := hid ho3.reads
  have HA3 := hid hA3
  clear HR2 H2 hB3 HB2 ho3 HX2 hA3
  go_wp2_with fail
  refine (last_any _ p k gc _ Lk key A3 (mtB (sz k) L) (mtN (sz k) L) c3 _ hk3 H3.out HMN.out HMB.out hMs hc3 (fun h => (HA3.out h).1) HF.out HX3.out).mono ?_
  rintro e w4 ⟨g4, d4, c4, rfl, hc4, hR4, hB4⟩
  have HX4 := hid (hR4.less hn')
  have HB4 := hid (HB3.out.trans (hB4.mono HB3.out.size))
  have hnc : n ≤ c4 := Nat.le_trans hn' hc4
  clear H3 hB4 HB3 HX3 hR4
  go_wp2_with fail
  refine (clone_any _ n c4 _ _ (by omega) (fun h => by cases h) HX4.out).mono ?_
  rintro e w5 ⟨v5, rfl, ho5, hB5⟩
  have HB5 := hid (HB4.out.trans (hB5.mono HB4.out.size))
  obtain ⟨A5, c5, rfl, hc5, -, -⟩ := ho5.slice'
  go_wp2_with fail
  go_ret2
  exact ⟨_, rfl, own_base ho5 HB4.out.size, HB5.out⟩
theorem cmac_lt {k Lk L : Nat} {key t : Nat → Nat} (hf : fits k Lk) (hk3 : k ≠ 3) (hk : ∀ i, i < Lk → key i < 256) (ht : ∀ i, i < L → t i < 256) : ∀ i, i < sz k → cmacF k Lk key L t i < 256 := by
  have hl : ∀ i, i < sz k → tc k Lk key false zf i < 256 := tc_lt hk3 hf hk (zf_lt _)
  have hF := mtF_lt (n := sz k) ht (dbl_lt hl)
  rw [mtN_eq] at hF
  exact ah_lt (N := mtB (sz k) L) hf hk3 hk (zf_lt _) hF _ (Nat.le_refl _)
end Go.Proofs.YtmmgimpokpgnaaaGreatDoor.Mc
