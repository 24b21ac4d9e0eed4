/-
  BlockOne returns true: its walk.
-/
import Derived.Test.YtcgbhpmakebllaaDoorBlockBackWalk
namespace Go.Proofs.YtcgbhpmakebllaaDoor.Law05
open Mem As Bk Go.ChangeShapes Go.WideShapes Go.ChangeAt Go.RowKit
theorem exec_cut {o : Oper} {a : Act} {w : World} (k : Nat) (x y : Operand) (ho : o.op = .slice 36 x none (some y) none) (g : Nat) (hx : a.eval x = .pointer (some ⟨g, 0, none⟩)) (hy : a.eval y = .int .i64 (sz k : Int)) : (execOp a.eval o).run Tryd.prog w = .ok (.value (.slice (some ⟨g, 0, none⟩) (sz k) 16)) w := by
  unfold execOp
  simp only [ho, hx, Option.map_none, Option.map_some, hy]
  simp [cutX]
set_option maxRecDepth 100000 in
theorem exec_eqbool {o : Oper} {a : Act} {w : World} (x y : Operand) (ho : o.op = .binOp .eql 4 x y 4) (p q : Bool) (hx : a.eval x = .bool p) (hy : a.eval y = .bool q) (h : (p == q) = true) : (execOp a.eval o).run Tryd.prog w = .ok (.value (.bool true)) w := by
  have : p = q := by simpa using h
  subst this
  unfold execOp
  simp only [ho, hx, hy]
  cases p <;> rfl
set_option linter.unusedSimpArgs false in
set_option maxRecDepth 100000 in
set_option maxHeartbeats 1000000 in
theorem one_true (n : Nat) (A : Option Addr) (L c : Nat) (key : Nat → Nat) (A2 : Option Addr) (n2 c2 : Nat) (F : Nat → Nat) (x z : Nat → Nat) (bk : Bool) (w : World) (hg : Laid w) (_hn : n < 256) (hR : Reads w w.heap.size A L key) (hk : ∀ i, i < L → key i < 256) (hR2 : Reads w w.heap.size A2 n2 F) (hF : ∀ i, i < n2 → F i < 256) (hA2 : A2 = none → n2 = 0 ∧ c2 = 0) (hx : ∀ i, i < 16 → x i < 256) (hz : ∀ i, i < 16 → z i < 256) :
    Calls Tryd.prog 5 #[.int .u8 (n : Int), .slice A L c, .slice A2 n2 c2, .agg (row 16 (b8 x)), .agg (row 16 (b8 z)), .bool bk] w fun e w' => e = .returned (.bool true) ∧ Below w.heap.size w w' := by
  obtain ⟨k, hkk, hkI⟩ := kind_of n
  have hB0 : Below w.heap.size w ((w.alloc (.cells (row 16 (b8 x)) 36)).alloc (.cells (row 16 (b8 z)) 36)) := ((Below.refl _ _).alloc (Nat.le_refl _) _).alloc (by simp) _
  have HX := hid ((Blk.fresh w 36 (row 16 (b8 x))).alloc (.cells (row 16 (b8 z)) 36))
  have HV : Hid (Blk ((w.alloc (.cells (row 16 (b8 x)) 36)).alloc (.cells (row 16 (b8 z)) 36)) (w.heap.size + 1) 36 (row 16 (b8 z))) := hid (by
    have := Blk.fresh (w.alloc (.cells (row 16 (b8 x)) 36)) 36 (row 16 (b8 z))
    simpa using this)
  have Hg := hid (hg.below hB0)
  have HR := hid ((hR.below hB0).more hB0.size)
  have HR2 := hid ((hR2.below hB0).more hB0.size)
  have Hk := hid hk
  have HF := hid hF
  have HA2 := hid hA2
  have Hx := hid hx
  have Hv := hid hz
  have HB0 := hid hB0
  clear hg hR hR2 hk hF hA2 hx hz hB0
  by_cases hL : L ≤ 100 ∧ n2 ≤ 2000
  · obtain ⟨hL1, hL2⟩ := hL
    have hL1I : (L : Int) ≤ 100 := by omega
    have hL2I : (n2 : Int) ≤ 2000 := by omega
    go_enter Tryd.func5, Tryd.ntmps5
    go_wp2_with fail
    generalize (w.alloc (.cells (row 16 (b8 x)) 36)).alloc (.cells (row 16 (b8 z)) 36) = w0 at *
    refine (awake_any _ Hg.out).mono ?_
    rintro e w1 ⟨rfl, hB1⟩
    have HR1 := hid ((HR.out.below hB1).more hB1.size)
    have HR21 := hid ((HR2.out.below hB1).more hB1.size)
    have HX1 := hid (HX.out.below hB1 HX.out.lt)
    have HV1 := hid (HV.out.below hB1 HV.out.lt)
    have HB1 := hid (HB0.out.trans (hB1.mono HB0.out.size))
    clear HR HR2 HX HV HB0 hB1
    go_wp2_with fail
    refine (book_any A2 n2 c2 F _ (by omega) HA2.out HF.out HR21.out).mono ?_
    rintro e w2 ⟨p, rfl, hp1, hp2, hp3, hbk, hB2⟩
    have HR2 := hid ((HR1.out.below hB2).more hB2.size)
    have HX2 := hid (HX1.out.below hB2 HX1.out.lt)
    have HV2 := hid (HV1.out.below hB2 HV1.out.lt)
    have Hbk2 := hid hbk
    have hlow : Hid (∀ g ∈ p.S, w.heap.size ≤ g) := hid (fun g hg => by have := hbk.lo.2 g hg; have := HB1.out.size; omega)
    have HB2 := hid (HB1.out.trans (hB2.mono HB1.out.size))
    clear HR1 HR21 HX1 HV1 HB1 hB2 hbk
    clear hkI
    go_wp2_with fail
    refine (right_any _ k rfl hkk A L c key _ (by omega) HR2.out).mono ?_
    rintro e w3 ⟨v, rfl, ho, hB3⟩
    obtain ⟨A3, c3, rfl, hc3, hA3, -⟩ := ho.slice'
    have HX3 := hid (HX2.out.below hB3 HX2.out.lt)
    have HV3 := hid (HV2.out.below hB3 HV2.out.lt)
    have Hbk3 := hid (Hbk2.out.keep hB3)
    have HB3 := hid (HB2.out.trans (hB3.mono HB2.out.size))
    have Ho := hid ho
    clear HR2 HX2 HV2 Hbk2 HB2 hB3 ho
    have hfit := rn_fits hkk
    have hrl := (rn_le k).1
    go_wp2_with fail
    refine (new_any k A3 (rn k) c3 (rk L key) p _ (by omega) hA3 (fun i _ => rk_lt Hk.out i) Ho.out.reads hfit).mono ?_
    rintro e w4 ⟨gc, rfl, hci, -, hB4⟩
    have HX4 := hid (HX3.out.below hB4 HX3.out.lt)
    have HV4 := hid (HV3.out.below hB4 HV3.out.lt)
    have Hbk4 := hid (Hbk3.out.keep hB4)
    have Hci4 := hid hci
    have HB4 := hid (HB3.out.trans (hB4.mono HB3.out.size))
    clear HX3 HV3 Hbk3 HB3 hB4 hci Ho
    go_wp2_with fail
    refine (size_any _ p k gc _ _ _ Hci4.out).mono ?_
    rintro e w' ⟨rfl, rfl⟩
    obtain ⟨hs1, hs2⟩ := sz_le k
    have hcut := cutX k
    have Hxs : Hid (∀ i, i < sz k → x i < 256) := hid (fun i hi => Hx.out i (by omega))
    have Hvs : Hid (∀ i, i < sz k → z i < 256) := hid (fun i hi => Hv.out i (by omega))
    rcases ht1 : turnC k (rn k) (rk L key) p [] 0 bk x with ⟨o1, R1, d1⟩
    obtain ⟨hI1, hyb, hn1, -⟩ := turn_inv hfit (fun i _ => rk_lt Hk.out i) Hbk4.out.inv Hxs.out ht1
    rcases ht2 : turnC k (rn k) (rk L key) p R1 d1 bk z with ⟨o2, R2, d2⟩
    obtain ⟨hI2, -, hn2, -⟩ := turn_inv hfit (fun i _ => rk_lt Hk.out i) hI1 Hvs.out ht2
    have Ht1 := hid ht1
    have Ht2 := hid ht2
    have HN1 := hid hn1
    have HN2 := hid hn2
    have HI0 := hid Hbk4.out.inv
    clear ht1 ht2 hyb hI1 hI2 hn1 hn2
    go_wp2_with fail
    refine (do_blk _ p 0 [] k gc _ _ _ w.heap.size 16 bk x Hci4.out Hbk4.out 36 _ HX4.out (by decide) (cs_of hs1) Hxs.out _ _ _ Ht1.out).mono ?_
    rintro e w5 ⟨hK5, hbk5, ho5⟩
    have Hci5 := hid (Hci4.out.keepS Hbk4.out hK5)
    have HX5 := hid (hK5.blk HX4.out (Hbk4.out.free HX4.out (by decide)))
    have HV5 := hid (hK5.blk HV4.out (Hbk4.out.free HV4.out (by decide)))
    have Hbk5 := hid hbk5
    have HB5 := hid (HB4.out.trans (hK5.below hlow.out HB4.out.size))
    clear hK5 hbk5 Hci4 HX4 HV4 Hbk4 HB4
    rcases ho5 with ⟨u, g5, rfl, rfl, hbg5, -⟩ | ⟨j5, xf5, rfl, rfl, -⟩
    · have HU5 := hid hbg5
      clear hbg5
      go_wp2_with fail
      refine (size_any _ p k gc _ _ _ Hci5.out).mono ?_
      rintro e w' ⟨rfl, rfl⟩
      go_wp2_with fail
      refine (do_blk _ p d1 R1 k gc _ _ _ (w.heap.size + 1) 16 bk z Hci5.out Hbk5.out 36 _ HV5.out (by decide) (cs_of hs1) Hvs.out _ _ _ Ht2.out).mono ?_
      rintro e w6 ⟨hK6, hbk6, ho6⟩
      have HB6 := hid (HB5.out.trans (hK6.below hlow.out HB5.out.size))
      rcases ho6 with ⟨v, g6, rfl, rfl, hbg6, -⟩ | ⟨j6, xf6, rfl, rfl, -⟩
      · have Hci6 := hid (Hci5.out.keepS Hbk5.out hK6)
        have HX6 := hid (hK6.blk HX5.out (Hbk5.out.free HX5.out (by decide)))
        have HV6 := hid (hK6.blk HV5.out (Hbk5.out.free HV5.out (by decide)))
        have HU6 := hid (hK6.blk HU5.out (Hbk5.out.free HU5.out (tyOf_ne k)))
        have HT6 := hid hbg6
        have HE := hid (turn_one hfit (fun i _ => rk_lt Hk.out i) HI0.out Hxs.out Hvs.out Ht1.out Ht2.out)
        clear hK6 hbk6 hbg6 Hci5 HX5 HV5 HU5 Hbk5 HB5 Ht1 Ht2
        go_wp2_with fail
        refine wp_region_held_drew (S := fun W => Below w6.heap.size w6 W) (by kernel_rfl) (Below.refl _ _).drew (fun hS0 => ?_)
        refine wpAnyH_take (i := 0) (v := .slice (some ⟨g5, 0, none⟩) (sz k) (sz k)) rfl (by kernel_rfl) (by kernel_rfl) (by kernel_rfl) (fun _ _ _ h => h) (Or.inl ⟨rfl, fun _ _ => exec_move _ rfl _ rfl⟩) hS0 ?_
        (try simp only [Act.put, List.getElem_toArray, List.getElem_cons_zero, List.getElem_cons_succ, List.setIfInBounds_toArray, List.set_cons_zero, List.set_cons_succ])
        refine wpAnyH_take (i := 1) (v := .slice (some ⟨g6, 0, none⟩) (sz k) (sz k)) rfl (by kernel_rfl) (by kernel_rfl) (by kernel_rfl) (fun _ _ _ h => h) (Or.inl ⟨rfl, fun _ _ => exec_move _ rfl _ rfl⟩) hS0 ?_
        (try simp only [Act.put, List.getElem_toArray, List.getElem_cons_zero, List.getElem_cons_succ, List.setIfInBounds_toArray, List.set_cons_zero, List.set_cons_succ])
        refine wpAnyH_take (i := 3) (v := .pointer (some ⟨gc, 0, none⟩)) rfl (by kernel_rfl) (by kernel_rfl) (by kernel_rfl) (fun _ _ _ h => h) (Or.inl ⟨rfl, fun _ _ => exec_move _ rfl _ rfl⟩) hS0 ?_
        (try simp only [Act.put, List.getElem_toArray, List.getElem_cons_zero, List.getElem_cons_succ, List.setIfInBounds_toArray, List.set_cons_zero, List.set_cons_succ])
        refine wpAnyH_take (i := 6) (v := .pointer (some ⟨gc, 0, none⟩)) rfl (by kernel_rfl) (by kernel_rfl) (by kernel_rfl) (fun _ _ _ h => h) (Or.inl ⟨rfl, fun _ _ => exec_move _ rfl _ rfl⟩) hS0 ?_
        (try simp only [Act.put, List.getElem_toArray, List.getElem_cons_zero, List.getElem_cons_succ, List.setIfInBounds_toArray, List.set_cons_zero, List.set_cons_succ])
        refine wpAnyH_ready (rs := [2]) (by kernel_rfl) (by simp) (ready_one rfl rfl (fun K hK => ?_))
        (try simp only [Act.put, List.getElem_toArray, List.getElem_cons_zero, List.getElem_cons_succ, List.setIfInBounds_toArray, List.set_cons_zero, List.set_cons_succ])
        go_simp
        refine (same_any _ _ (sz k) (sz k) (sz k) u v _ (by omega) (Blk.reads (HU6.out.below hS0 HU6.out.lt)) (Blk.reads (HT6.out.below hS0 HT6.out.lt))).mono ?_
        rintro e wA ⟨rfl, hBA⟩
        refine hK.out _ _ (hS0.trans (hBA.mono hS0.size)) (fun hS1 => ?_)
        clear hK
        (try simp only [Act.put, List.getElem_toArray, List.getElem_cons_zero, List.getElem_cons_succ, List.setIfInBounds_toArray, List.set_cons_zero, List.set_cons_succ])
        refine wpAnyH_ready (rs := [4]) (by kernel_rfl) (by simp) (ready_one rfl rfl (fun K hK => ?_))
        (try simp only [Act.put, List.getElem_toArray, List.getElem_cons_zero, List.getElem_cons_succ, List.setIfInBounds_toArray, List.set_cons_zero, List.set_cons_succ])
        go_simp
        refine (size_any _ p k gc _ _ _ (Hci6.out.keep hS1)).mono ?_
        rintro e w' ⟨rfl, rfl⟩
        refine hK.out _ _ (hS1) (fun hS2 => ?_)
        clear hK
        (try simp only [Act.put, List.getElem_toArray, List.getElem_cons_zero, List.getElem_cons_succ, List.setIfInBounds_toArray, List.set_cons_zero, List.set_cons_succ])
        refine wpAnyH_take (i := 5) (v := .slice (some ⟨w.heap.size, 0, none⟩) (sz k) 16) rfl (by kernel_rfl) (by kernel_rfl) (by kernel_rfl) (fun _ _ _ h => h) (Or.inl ⟨rfl, fun W _ => exec_cut k _ _ rfl w.heap.size rfl rfl⟩) hS2 ?_
        (try simp only [Act.put, List.getElem_toArray, List.getElem_cons_zero, List.getElem_cons_succ, List.setIfInBounds_toArray, List.set_cons_zero, List.set_cons_succ])
        refine wpAnyH_ready (rs := [7]) (by kernel_rfl) (by simp) (ready_one rfl rfl (fun K hK => ?_))
        (try simp only [Act.put, List.getElem_toArray, List.getElem_cons_zero, List.getElem_cons_succ, List.setIfInBounds_toArray, List.set_cons_zero, List.set_cons_succ])
        go_simp
        refine (size_any _ p k gc _ _ _ (Hci6.out.keep hS2)).mono ?_
        rintro e w' ⟨rfl, rfl⟩
        refine hK.out _ _ (hS2) (fun hS3 => ?_)
        clear hK
        (try simp only [Act.put, List.getElem_toArray, List.getElem_cons_zero, List.getElem_cons_succ, List.setIfInBounds_toArray, List.set_cons_zero, List.set_cons_succ])
        refine wpAnyH_take (i := 8) (v := .slice (some ⟨w.heap.size + 1, 0, none⟩) (sz k) 16) rfl (by kernel_rfl) (by kernel_rfl) (by kernel_rfl) (fun _ _ _ h => h) (Or.inl ⟨rfl, fun W _ => exec_cut k _ _ rfl (w.heap.size + 1) rfl rfl⟩) hS3 ?_
        (try simp only [Act.put, List.getElem_toArray, List.getElem_cons_zero, List.getElem_cons_succ, List.setIfInBounds_toArray, List.set_cons_zero, List.set_cons_succ])
        refine wpAnyH_ready (rs := [9]) (by kernel_rfl) (by simp) (ready_one rfl rfl (fun K hK => ?_))
        (try simp only [Act.put, List.getElem_toArray, List.getElem_cons_zero, List.getElem_cons_succ, List.setIfInBounds_toArray, List.set_cons_zero, List.set_cons_succ])
        go_simp
        refine (same_any _ _ (sz k) 16 16 x z _ (by omega) (reads_of (HX6.out.below hS3 HX6.out.lt) hs1) (reads_of (HV6.out.below hS3 HV6.out.lt) hs1)).mono ?_
        rintro e wB ⟨rfl, hBB⟩
        refine hK.out _ _ (hS3.trans (hBB.mono hS3.size)) (fun hS4 => ?_)
        clear hK
        (try simp only [Act.put, List.getElem_toArray, List.getElem_cons_zero, List.getElem_cons_succ, List.setIfInBounds_toArray, List.set_cons_zero, List.set_cons_succ])
        refine wpAnyH_take (i := 10) (v := .bool true) rfl (by kernel_rfl) (by kernel_rfl) (by kernel_rfl) (fun _ _ _ h => h) (Or.inl ⟨rfl, fun _ _ => exec_eqbool _ _ rfl _ _ rfl rfl (by rw [HE.out]; simp)⟩) hS4 ?_
        (try simp only [Act.put, List.getElem_toArray, List.getElem_cons_zero, List.getElem_cons_succ, List.setIfInBounds_toArray, List.set_cons_zero, List.set_cons_succ])
        refine wpAnyH_take (i := 11) (v := .bool true) rfl (by kernel_rfl) (by kernel_rfl) (by kernel_rfl) (fun _ _ _ h => h) (Or.inl ⟨rfl, fun _ _ => exec_assign _ rfl _ rfl⟩) hS4 ?_
        (try simp only [Act.put, List.getElem_toArray, List.getElem_cons_zero, List.getElem_cons_succ, List.setIfInBounds_toArray, List.set_cons_zero, List.set_cons_succ])
        refine wpAnyH_done (by kernel_rfl) ?_ _
        go_wp2_with fail
        go_ret
        exact ⟨rfl, HB6.out.trans (hS4.mono HB6.out.size)⟩
      · obtain ⟨rfl, -⟩ := HN2.out rfl
        go_wp2_with fail
        go_ret
        exact ⟨rfl, HB6.out⟩
    · have HK3 := hid (HN1.out rfl).1
      go_wp2_with fail
      refine (size_any _ p k gc _ _ _ Hci5.out).mono ?_
      rintro e w' ⟨rfl, rfl⟩
      go_wp2_with fail
      refine (do_blk _ p d1 R1 k gc _ _ _ (w.heap.size + 1) 16 bk z Hci5.out Hbk5.out 36 _ HV5.out (by decide) (cs_of hs1) Hvs.out _ _ _ Ht2.out).mono ?_
      rintro e w6 ⟨hK6, hbk6, ho6⟩
      have HB6 := hid (HB5.out.trans (hK6.below hlow.out HB5.out.size))
      rcases ho6 with ⟨v, g6, rfl, rfl, -⟩ | ⟨j6, xf6, rfl, rfl, -⟩
      · have hk3 := HK3.out
        subst hk3
        go_wp2_with fail
        go_ret
        exact ⟨rfl, HB6.out⟩
      · have hk3 := HK3.out
        subst hk3
        go_wp2_with fail
        go_ret
        exact ⟨rfl, HB6.out⟩
  · by_cases hL1 : L ≤ 100
    · have hL1I : (L : Int) ≤ 100 := by omega
      have hL2I : ¬ (n2 : Int) ≤ 2000 := by omega
      go_enter Tryd.func5, Tryd.ntmps5
      go_wp2_with fail
      generalize (w.alloc (.cells (row 16 (b8 x)) 36)).alloc (.cells (row 16 (b8 z)) 36) = w0 at *
      refine (awake_any _ Hg.out).mono ?_
      rintro e w1 ⟨rfl, hB1⟩
      go_wp2_with fail
      refine (awake_any _ (Hg.out.below hB1)).mono ?_
      rintro e w2 ⟨rfl, hB2⟩
      go_wp2_with fail
      go_ret
      exact ⟨rfl, HB0.out.trans ((hB1.trans (hB2.mono hB1.size)).mono HB0.out.size)⟩
    · have hL1I : ¬ (L : Int) ≤ 100 := by omega
      go_enter Tryd.func5, Tryd.ntmps5
      go_wp2_with fail
      generalize (w.alloc (.cells (row 16 (b8 x)) 36)).alloc (.cells (row 16 (b8 z)) 36) = w0 at *
      refine (awake_any _ Hg.out).mono ?_
      rintro e w1 ⟨rfl, hB1⟩
      go_wp2_with fail
      refine (awake_any _ (Hg.out.below hB1)).mono ?_
      rintro e w2 ⟨rfl, hB2⟩
      go_wp2_with fail
      go_ret
      exact ⟨rfl, HB0.out.trans ((hB1.trans (hB2.mono hB1.size)).mono HB0.out.size)⟩
end Go.Proofs.YtcgbhpmakebllaaDoor.Law05
