/-
 mac's last chained block, whatever the cipher.
-/
import Derived.Test.YtlmnoapoofmmnaaGreatDoorMacX
import Derived.Test.YtlmnoapoofmmnaaGreatDoorModeY
import Derived.Test.YtlmnoapoofmmnaaGreatDoorRefHX
namespace Go.Proofs.YtlmnoapoofmmnaaGreatDoor.Mc
open Mem Bk Md Go.ChangeShapes Go.WideShapes Go.ChangeAt Go.RowKit
def Dry (e : Ending) (w' : World) : Prop :=
 ∃ f xf, e = .returned (.tuple #[.slice none 0 0, .iface 66 (.pointer (some ⟨f, 0, none⟩))]) ∧ (Blk w' f 69 #[xf, .iface 56 (.int .i64 13)] ∨ ∃ g xg, Blk w' f 69 #[xf, .iface 66 (.pointer (some ⟨g, 0, none⟩))] ∧ Blk w' g 69 #[xg, .iface 56 (.int .i64 13)])
theorem runO_up {σ : Type} {st : σ → (Nat → Nat) → Option (Nat → Nat) × σ} {n : Nat} {xb : Nat → Nat → Nat} {s0 : σ} {K : Nat} (h : runO st n xb s0 (List.range K) = none) : ∀ N, K ≤ N → runO st n xb s0 (List.range N) = none
 | 0, hN => by
  have : K = 0 := by omega
  subst this
  exact h
 | N + 1, hN => by
  by_cases hj : K = N + 1
  ·exact hj ▸ h
  rw [List.range_succ, runO_snoc, runO_up h N (by omega)]
  rfl
theorem runO_fail {σ : Type} {st : σ → (Nat → Nat) → Option (Nat → Nat) × σ} {n : Nat} {xb : Nat → Nat → Nat} {s0 : σ} {K N : Nat} {r : σ × (Nat → Nat) × Nat} (hK : K < N) (h : runO st n xb s0 (List.range K) = some r) (h2 : (st r.1 (xb K)).1 = none) : runO st n xb s0 (List.range N) = none := by
 refine runO_up (K := K + 1) ?_ N hK
 rw [List.range_succ, runO_snoc, h]
 show nextO st n r (xb K) = none
 unfold nextO
 rw [h2]
theorem runO_last {k L : Nat} {key : Nat → Nat} {p : Pl} {x : Nat → Nat} {s0 : (List Rw × Nat) × (Nat → Nat)} {J : Nat} {r : ((List Rw × Nat) × (Nat → Nat)) × (Nat → Nat) × Nat} (h : runO (stOF k L key p) (sz k) (fun j i => x (j * sz k + i)) s0 (List.range (J + 1)) = some r) :
  ∀ i, r.2.1 (J * sz k + i) = r.1.2 i := fun i => by
 rw [List.range_succ, runO_snoc] at h
 rcases hr : runO (stOF k L key p) (sz k) (fun j i => x (j * sz k + i)) s0 (List.range J) with _ | q
 ·rw [hr] at h
  cases h
 have hl := runO_len (stOF k L key p) (sz k) (fun j i => x (j * sz k + i)) s0 J _ q (by simp) hr
 rw [hr] at h
 replace h : nextO (stOF k L key p) (sz k) q (fun i => x (J * sz k + i)) = some r := h
 unfold nextO stOF at h
 rcases ht : turnC k L key p q.1.1.1 q.1.1.2 false (xr (fun i => x (J * sz k + i)) q.1.2) with ⟨_ | z, R', d'⟩
 ·rw [ht] at h
  cases h
 rw [ht] at h
 injection h with h
 subst h
 show cat q.2.2 q.2.1 z (J * sz k + i) = z i
 unfold cat
 rw [hl, if_neg (by omega)]
 congr 1
 omega
set_option maxRecDepth 100000 in
set_option maxHeartbeats 1000000 in
theorem last_all (w : World) (p : Pl) (d : Nat) (R : List Rw) (k gc base L : Nat) (key : Nat → Nat) (A : Option Addr) (N M c : Nat) (x : Nat → Nat) (h : CiAt w p k gc base L key) (hb : BookAt w p d R) (hM : M = N * sz k) (hN0 : 0 < N) (hN : M ≤ 100000) (hc : M ≤ c) (hA : A = none → M = 0) (hx : ∀ i, i < M → x i < 256) (hR : Reads w w.heap.size A M x) :
  Calls Tryz.prog 41 #[.pointer (some ⟨gc, 0, none⟩), .slice A M c] w fun e w' => KeptS p.S w w' ∧ ((∃ r g o c', runO (stOF k L key p) (sz k) (fun j i => x (j * sz k + i)) ((R, d), zf) (List.range N) = some r ∧ e = .returned (.tuple #[.slice (some ⟨g, o, none⟩) (sz k) c', .nilIface]) ∧ sz k ≤ c' ∧ Reads w' w'.heap.size (some ⟨g, o, none⟩) (sz k) r.1.2) ∨
   (runO (stOF k L key p) (sz k) (fun j i => x (j * sz k + i)) ((R, d), zf) (List.range N) = none ∧ Dry e w')) := by
 have H := hid h
 have HM := hid hM
 have hsz := sz_or k
 have hsp := sz_pos k
 have hsM : sz k ≤ M := by rw [hM]; exact Nat.le_mul_of_pos_left _ hN0
 have hs16 : sz k ≤ 16 := by omega
 obtain ⟨J, hJ⟩ : ∃ J, N = J + 1 := ⟨N - 1, by omega⟩
 have hMJ : Hid (M - sz k = J * sz k) := hid (by rw [hM, hJ, Nat.succ_mul, Nat.add_sub_cancel])
 have HJ := hid hJ
 have hD : M - (M - sz k) = sz k := by omega
 have hDM : M - sz k ≤ M := by omega
 have hne : ∀ c1, M ≤ c1 → ¬ c1 = M - sz k := fun c1 h => by omega
 have hcc : ∀ c1, M ≤ c1 → sz k ≤ c1 - (M - sz k) := fun c1 h => by omega
 have hM0 : 0 < M := by omega
 have hB0 : Below w.heap.size w (w.alloc (.cells (row (sz k) (b8 fun _ => 0)) 5)) := (Below.refl _ _).alloc (Nat.le_refl _) _
 have HZ := hid (Blk.fresh w 5 (row (sz k) (b8 fun _ => 0)))
 have hR0 := (hR.below hB0).more hB0.size
 have hAS : ∀ ad, A = some ad → 0 < M → ad.block ∉ p.S := fun ad e h0 => by
  obtain ⟨ad', e', -, hc'⟩ := hR h0
  rw [e] at e'
  cases e'
  have := hb.byte_out (hc' 0 h0)
  rwa [add_block] at this
 have HC := hid (chained_forth (w.alloc (.cells (row (sz k) (b8 fun _ => 0)) 5)) p d R k gc _ L key ⟨w.heap.size, 0, none⟩ (sz k) zf A N M c x (h.keep hB0) (hb.keep hB0) hM hN hc hA hAS hx hR0 HZ.out.lt (fun i hi => by rw [add_zero_off]; exact HZ.out.val i hi) (zf_lt _))
 have HB0 := hid hB0
 have HBk := hid hb
 clear h hM hR hA hx hJ hB0 hb hR0 hAS HZ
 go_enter Tryz.func41, Tryz.ntmps41
 go_wp2_with (first
  | (go_at_call 44; refine (size_any _ p k gc _ _ _ H.out).mono ?_; rintro e w' ⟨rfl, rfl⟩)
  | (with_reducible refine wpl_make rfl 22 5 _ _ rfl Tryz.underlying22 info8 _ _ _ _ rfl rfl (sz k) rfl rfl (by omega) ?_))
 refine HC.out.mono ?_
 rintro e w1 ⟨hK, ⟨r, v, hr, rfl, ho, -⟩ | ⟨K, r, f, g, xv, h0, h1, h2, rfl, h4, h5, -⟩⟩
 ·rw [← HM.out] at ho
  obtain ⟨g1, c1, rfl, hc1⟩ := own_at ho hM0
  have hne1 := hne c1 hc1
  have hcc1 := hcc c1 hc1
  have HX := hid (ho.reads.cut (k := M - sz k) (cap := c1) hDM hc1)
  rw [if_neg hne1, hD] at HX
  simp only [Option.map_some, add_zero_off] at HX
  have Hr := hid hr
  have HX1 : Hid (Reads w1 w1.heap.size (some ⟨g1, M - sz k, none⟩) (sz k) r.1.2) := hid (HX.out.ext (fun i _ => by rw [hMJ.out]; exact runO_last (HJ.out ▸ Hr.out) i))
  have HK := hid ((KeptS.of _ HB0.out).trans hK)
  have H1 := hid (H.out.keepS HBk.out HK.out)
  clear ho hK HX HB0 hne hcc HC hr HBk
  go_wp2_with (go_at_call 44; refine (size_any _ p k gc _ _ _ H1.out).mono ?_; rintro e w' ⟨rfl, rfl⟩)
  go_ret2
  exact ⟨HK.out, .inl ⟨r, g1, M - sz k, _, Hr.out, rfl, hcc1, HX1.out⟩⟩
 have Hr := hid (runO_fail h0 h1 h2)
 have HK := hid ((KeptS.of _ HB0.out).trans hK)
 have H4 := hid h4
 have H5 := hid h5
 clear hK HB0 hne hcc HC h1 h2 h4 h5 HBk
 go_wp2_with fail
 go_ret2
 exact ⟨HK.out, .inr ⟨Hr.out, f, _, rfl, .inr ⟨g, _, H4.out, H5.out⟩⟩⟩
def cmO (p : Pl) (k Lk : Nat) (key : Nat → Nat) (L : Nat) (t : Nat → Nat) (R : List Rw) (d : Nat) : Option (Nat → Nat) :=
 match turnC k Lk key p R d false zf with
 | (none, _, _) => none
 | (some l, R1, d1) => (runO (stOF k Lk key p) (sz k) (fun j i => mtF (sz k) L t (dbl (sz k) l) (j * sz k + i)) ((R1, d1), zf) (List.range (mtB (sz k) L))).map fun r => r.1.2
set_option maxRecDepth 100000 in
set_option maxHeartbeats 1000000 in
theorem cmac_all (w : World) (p : Pl) (d : Nat) (R : List Rw) (k gc base Lk : Nat) (key : Nat → Nat) (A : Option Addr) (L c : Nat) (t : Nat → Nat) (n : Nat) (h : CiAt w p k gc base Lk key) (hb : BookAt w p d R) (hL : L ≤ 1000) (hn : 1 ≤ n) (hn' : n ≤ sz k) (hA : A = none → L = 0 ∧ c = 0) (ht : ∀ i, i < L → t i < 256) (hR : Reads w w.heap.size A L t) :
  Calls Tryz.prog 20 #[.pointer (some ⟨gc, 0, none⟩), .slice A L c, .int .i64 (n : Int)] w fun e w' => KeptS p.S w w' ∧ ((∃ y v, cmO p k Lk key L t R d = some y ∧ e = .returned (.tuple #[v, .nilIface]) ∧ Mem.Own w' w.heap.size 5 1 v n y) ∨ (cmO p k Lk key L t R d = none ∧ Dry e w')) := by
 have hfit := Md.CiAt.fits h
 have hkey := h.1
 have hsz := sz_or k
 have hsp := sz_pos k
 have hs16 : sz k ≤ 16 := by omega
 have hn1I : ¬ (n : Int) < 1 := by omega
 have hn2I : ¬ (n : Int) > (sz k : Int) := by omega
 rcases htu : turnC k Lk key p R d false zf with ⟨o, R1, d1⟩
 have hti := turn_inv hfit hkey hb.inv (zf_lt _) htu
 have hcm : cmO p k Lk key L t R d = (match (o, R1, d1) with | (none, _, _) => none | (some l, R1, d1) => (runO (stOF k Lk key p) (sz k) (fun j i => mtF (sz k) L t (dbl (sz k) l) (j * sz k + i)) ((R1, d1), zf) (List.range (mtB (sz k) L))).map fun r => r.1.2) := by unfold cmO; rw [htu]
 have Hcm := hid hcm
 have Hyb := hid hti.2.1
 have HTu := hid htu
 have HMN := hid (mtN_eq (n := sz k) (L := L))
 have HMB := hid (mtB_pos (n := sz k) (L := L))
 have hMle := mtN_le (n := sz k) (L := L)
 have hM0 : 0 < mtN (sz k) L := by rw [HMN.out]; exact Nat.mul_pos HMB.out hsp
 have HM0 := hid hM0
 have hMs : mtN (sz k) L ≤ 100000 := by omega
 have hB0 : Below w.heap.size w (w.alloc (.cells (row (sz k) (b8 fun _ => 0)) 5)) := (Below.refl _ _).alloc (Nat.le_refl _) _
 have hzS : w.heap.size ∉ p.S := fun hm => by
  simp only [Pl.S, List.mem_cons, List.not_mem_nil, or_false] at hm
  rcases hm with hm | hm | hm
  ·have := hb.tape.lt; omega
  ·have := (hb.maps false).lt; have e : p.gf = p.m false := rfl; omega
  have := (hb.maps true).lt; have e : p.gk = p.m true := rfl; omega
 have HZ := hid (Blk.fresh w 5 (row (sz k) (b8 fun _ => 0)))
 have H := hid h
 have H0 := hid (h.keep hB0)
 have HK0 := hid (hb.keep hB0)
 have HR0 := hid ((hR.below hB0).more hB0.size)
 have HB0 := hid hB0
 have HA := hid hA
 have Ht := hid ht
 have HDo := hid (do_any _ p d R k gc _ Lk key ⟨w.heap.size, 0, none⟩ (sz k) false zf H0.out HK0.out HZ.out.lt hzS (fun i hi => by rw [add_zero_off]; exact HZ.out.val i hi) (zf_lt _) o R1 d1 htu)
 clear h hB0 hR hA ht hkey hfit hM0 hb hti hcm htu hzS
 go_enter Tryz.func20, Tryz.ntmps20
 go_wp2_with (first
  | (go_at_call 38; refine (msizeOf_any _ p k gc _ _ _ H.out).mono ?_; rintro e w' ⟨rfl, rfl⟩)
  | (with_reducible refine wpl_make rfl 22 5 _ _ rfl Tryz.underlying22 info8 _ _ _ _ rfl rfl (sz k) rfl rfl (by omega) ?_))
 refine HDo.out.mono ?_
 rintro e w1 ⟨hK1, hBk1, ⟨y, g1, rfl, rfl, hb1, hg1⟩ | ⟨j, x, rfl, rfl, hj, hjs⟩⟩
 ·have HR1 := hid (HK0.out.reads hK1 HR0.out)
  have H1 := hid (H0.out.keepS HK0.out hK1)
  have HK1 := hid ((KeptS.of p.S HB0.out).trans hK1)
  have HQ1 := hid hBk1
  have HX1 := hid (Blk.reads hb1)
  have Hl : Hid (∀ i, i < sz k → y i < 256) := hid (Hyb.out y rfl)
  have Hd := hid (dbl_lt Hl.out)
  have HF := hid (mtF_lt (n := sz k) Ht.out (dbl_lt Hl.out))
  clear HR0 H0 hK1 HB0 hb1 HZ H HK0 hBk1 HDo Hyb
  go_wp2_with fail
  refine (doubled_any ⟨g1, 0, none⟩ (sz k) (sz k) _ _ hsp (by omega) Hl.out HX1.out).mono ?_
  rintro e w2 ⟨rfl, hb2, hB2⟩
  have HR2 := hid ((HR1.out.below hB2).more hB2.size)
  have H2 := hid (H1.out.keep hB2)
  have HQ2 := hid (HQ1.out.keep hB2)
  have HK2 := hid (HK1.out.trans (KeptS.of _ hB2))
  have HX2 := hid (Blk.reads hb2)
  clear HR1 H1 hB2 HK1 HQ1 hb2 HX1
  go_wp2_with fail
  refine (turn_any A L c t w1.heap.size (sz k) _ _ hL hsz HA.out Ht.out Hd.out HR2.out HX2.out).mono ?_
  rintro e w3 ⟨v3, rfl, ho3, hB3⟩
  obtain ⟨A3, c3, rfl, hc3, hA3, -⟩ := ho3.slice'
  have H3 := hid (H2.out.keep hB3)
  have HQ3 := hid (HQ2.out.keep hB3)
  have HK3 := hid (HK2.out.trans (KeptS.of _ hB3))
  have HX3 := hid ho3.reads
  have HA3 := hid hA3
  clear HR2 H2 hB3 HK2 HQ2 ho3 HX2 hA3
  go_wp2_with fail
  refine (last_all _ p d1 R1 k gc _ Lk key A3 (mtB (sz k) L) (mtN (sz k) L) c3 _ H3.out HQ3.out HMN.out HMB.out hMs hc3 (fun h => (HA3.out h).1) HF.out HX3.out).mono ?_
  rintro e w4 ⟨hK4, ⟨r, g4, o4, c4, hr, rfl, hc4, hR4⟩ | ⟨hr, f, xf, rfl, hf⟩⟩
  ·have HX4 := hid (hR4.less hn')
   have HK4 := hid (HK3.out.trans hK4)
   have hnc : n ≤ c4 := Nat.le_trans hn' hc4
   have Hr := hid hr
   clear H3 hK4 HK3 HQ3 HX3 hR4 hr
   go_wp2_with fail
   refine (clone_any _ n c4 _ _ (by omega) (fun h => by cases h) HX4.out).mono ?_
   rintro e w5 ⟨v5, rfl, ho5, hB5⟩
   have HK5 := hid (HK4.out.trans (KeptS.of _ hB5))
   obtain ⟨A5, c5, rfl, hc5, -, -⟩ := ho5.slice'
   have hsz4 := HK4.out.size
   go_wp2_with fail
   go_ret2
   refine ⟨HK5.out, .inl ⟨r.1.2, _, ?_, rfl, own_base ho5 hsz4⟩⟩
   rw [Hcm.out]
   show (runO _ _ _ _ _).map _ = _
   rw [Hr.out]
   rfl
  have Hr := hid hr
  have HK4 := hid (HK3.out.trans hK4)
  have Hf := hid hf
  clear H3 hK4 HK3 HQ3 HX3 hr hf
  go_wp2_with fail
  go_ret2
  refine ⟨HK4.out, .inr ⟨?_, f, xf, rfl, Hf.out⟩⟩
  rw [Hcm.out]
  show (runO _ _ _ _ _).map _ = _
  rw [Hr.out]
  rfl
 have HK1 := hid ((KeptS.of p.S HB0.out).trans hK1)
 have Hj := hid hj
 clear HR0 H0 hK1 HB0 HZ H HK0 hBk1 HDo Hyb hj
 go_wp2_with fail
 go_ret2
 exact ⟨HK1.out, .inr ⟨Hcm.out, j, x, rfl, .inl Hj.out⟩⟩
end Go.Proofs.YtlmnoapoofmmnaaGreatDoor.Mc
