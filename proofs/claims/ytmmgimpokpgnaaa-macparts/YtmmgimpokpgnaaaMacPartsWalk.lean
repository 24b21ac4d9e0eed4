/-
  MacParts returns true: its walk.
-/
import Derived.Test.YtmmgimpokpgnaaaMacPartsMath
namespace Go.Proofs.Ytmmgimpokpgnaaa.Mc.Parts
open Mem Bk Md Mc Go.ChangeShapes Go.WideShapes Go.ChangeAt Go.RowKit
/-- what the walk knows of the world: both arrays, the cipher, the key -/
structure St (w W : World) (gA gB gc base : Nat) (a b : Nat → Nat) (A3 : Option Addr) (L : Nat) (key : Nat → Nat) : Prop where
  xa : Blk W gA 23 (row 8 (b8 a))
  xb : Blk W gB 23 (row 8 (b8 b))
  ci : CiAt W p0 2 gc base 24 (rk L key)
  ky : Reads W W.heap.size A3 24 (rk L key)
  bel : Below w.heap.size w W
theorem St.next {w W W' : World} {gA gB gc base : Nat} {a b : Nat → Nat} {A3 : Option Addr} {L : Nat} {key : Nat → Nat} (h : St w W gA gB gc base a b A3 L key) (hB : Below W.heap.size W W') : St w W' gA gB gc base a b A3 L key :=
  ⟨h.xa.below hB h.xa.lt, h.xb.below hB h.xb.lt, h.ci.keep hB, (h.ky.below hB).more hB.size, h.bel.trans (hB.mono h.bel.size)⟩
theorem St.cut {w W : World} {gA gB gc base : Nat} {a b : Nat → Nat} {A3 : Option Addr} {L : Nat} {key : Nat → Nat} (h : St w W gA gB gc base a b A3 L key) {n : Nat} (hn : n ≤ 8) : Reads W W.heap.size (some ⟨gA, 0, none⟩) n a ∧ Reads W W.heap.size (some ⟨gB, 0, none⟩) n b :=
  ⟨(Blk.reads h.xa).less hn, (Blk.reads h.xb).less hn⟩
/-- .. and of what was answered -/
theorem up {W W' : World} {A : Option Addr} {n : Nat} {f : Nat → Nat} (h : Reads W W.heap.size A n f) (hB : Below W.heap.size W W') : Reads W' W'.heap.size A n f := (h.below hB).more hB.size
set_option maxRecDepth 100000 in
set_option maxHeartbeats 2000000 in
set_option linter.unusedSimpArgs false in
theorem parts_true (A : Option Addr) (L c : Nat) (key a b : Nat → Nat) (u : Nat) (w : World) (hR : Reads w w.heap.size A L key) (hk : ∀ i, i < L → key i < 256) (ha : ∀ i, i < 8 → a i < 256) (hb : ∀ i, i < 8 → b i < 256) (_hu : u < 256) :
    Calls Try.prog 3 #[.slice A L c, .agg (row 8 (b8 a)), .agg (row 8 (b8 b)), .int .u8 (u : Int)] w fun e w' => e = .returned (.bool true) ∧ Below w.heap.size w w' := by
  obtain ⟨n, hn8, hnI⟩ := part_of u
  have hB0 : Below w.heap.size w ((w.alloc (.cells (row 8 (b8 a)) 23)).alloc (.cells (row 8 (b8 b)) 23)) := ((Below.refl _ _).alloc (Nat.le_refl _) _).alloc (by simp) _
  have HX := hid ((Blk.fresh w 23 (row 8 (b8 a))).alloc (.cells (row 8 (b8 b)) 23))
  have HY : Hid (Blk ((w.alloc (.cells (row 8 (b8 a)) 23)).alloc (.cells (row 8 (b8 b)) 23)) (w.heap.size + 1) 23 (row 8 (b8 b))) := hid (blk_fresh (by simp) _ _)
  have HR := hid ((hR.below hB0).more hB0.size)
  have HB0 := hid hB0
  have Hk := hid hk
  have Ha := hid ha
  have Hb := hid hb
  have Han : Hid (∀ i, i < n → a i < 256) := hid fun i hi => ha i (by omega)
  have Hbn : Hid (∀ i, i < n → b i < 256) := hid fun i hi => hb i (by omega)
  have Hpn : Hid (∀ i, i < 8 → padF n a i < 256) := hid fun i _ => padF_lt Han.out i
  have Hkk : Hid (∀ i, i < 24 → rk L key i < 256) := hid fun i _ => rk_lt hk i
  have Hkk16 : Hid (∀ i, i < 16 → rk L key i < 256) := hid fun i _ => rk_lt hk i
  have hcut8 := cut8
  have hcutn := cutN n hn8
  have hn8' : n ≤ 8 := by omega
  have hm8 : ∀ w, (Instr.makeSlice 22 (.int .i64 8) (.int .i64 8)).run Try.prog w = .ok (.slice (some ⟨w.heap.size, 0, none⟩) 8 8) (w.alloc (.cells (row 8 (b8 zf)) 5)) := fun w => by
    have hr := run_make_row' (P := Try.prog) 22 5 (.int .u8 0) 1 Try.underlying22 info8 rfl .i64 .i64 8 (by omega) (by omega) w
    rwa [made_b8] at hr
  clear hR hk ha hb hB0
  go_enter Try.func3, Try.ntmps3
  go_wp2_with fail
  generalize (w.alloc (.cells (row 8 (b8 a)) 23)).alloc (.cells (row 8 (b8 b)) 23) = w0 at *
  generalize hgA : w.heap.size = gA at *
  generalize hgB : gA + 1 = gB at *
  refine (right7_all _ 2 rfl (.inr (.inl rfl)) A L c key _ HR.out).mono ?_
  rintro e w1 ⟨v, rfl, ho, hB1⟩
  rw [rn2] at ho
  obtain ⟨A3, c3, rfl, hc3, hA3, -⟩ := ho.slice'
  have HX1 := hid (HX.out.below hB1 HX.out.lt)
  have HY1 := hid (HY.out.below hB1 HY.out.lt)
  have HB1 := hid (HB0.out.trans (hB1.mono (by have := HB0.out.size; omega)))
  have HK1 := hid ho.reads
  have HA3 := hid hA3
  clear HX HY HB0 HR hB1 ho hA3
  go_wp2_with fail
  refine (new2 A3 24 c3 (rk L key) p0 none _ (by omega) HA3.out Hkk.out HK1.out fits24).mono ?_
  rintro e w2 ⟨gc, rfl, hci, -, hB2⟩
  have H2 : Hid (St w w2 gA gB gc w1.heap.size a b A3 L key) := hid ⟨HX1.out.below hB2 HX1.out.lt, HY1.out.below hB2 HY1.out.lt, hci, (HK1.out.below hB2).more hB2.size, hgA.symm ▸ HB1.out.trans (hB2.mono (by have := HB1.out.size; omega))⟩
  clear hci hB2 HX1 HY1 HB1 HK1
  go_wp2_with fail
  refine (awake7_any _).mono ?_
  rintro e w3 ⟨rfl, hB3⟩
  have H3 := hid (H2.out.next hB3)
  clear hB3 H2
  have hBz := (Below.refl w3.heap.size w3).alloc (Nat.le_refl _) (.cells (row 8 (b8 zf)) 5)
  have HZ := hid (Blk.fresh w3 5 (row 8 (b8 zf)))
  have Hz3 := hid (H3.out.next hBz)
  clear hBz
  go_wp2_with fail
  refine (do12 _ p0 2 gc _ 24 (rk L key) ⟨w3.heap.size, 0, none⟩ 8 false zf (by omega) Hz3.out.ci HZ.out.lt (fun i hi => by rw [add_zero_off]; exact HZ.out.val i hi) (zf_lt _)).mono ?_
  rintro e w4 ⟨g4, rfl, hb4, -, hB4⟩
  have H4 := hid (Hz3.out.next hB4)
  have HL4 : Hid (Reads w4 w4.heap.size (some ⟨g4, 0, none⟩) 8 (tc 2 24 (rk L key) false zf)) := hid (Blk.reads hb4)
  clear hb4 hB4 H3 Hz3 HZ
  have hBz := (Below.refl w4.heap.size w4).alloc (Nat.le_refl _) (.cells (row 8 (b8 zf)) 5)
  have HZ := hid (Blk.reads (Blk.fresh w4 5 (row 8 (b8 zf))))
  have Hz4 := hid (H4.out.next hBz)
  have HLz := hid (up HL4.out hBz)
  clear hBz
  go_wp2_with fail
  refine (same_any _ _ 8 8 8 _ zf _ (by omega) HLz.out HZ.out).mono ?_
  rintro e w5 ⟨rfl, hB5⟩
  have H5 := hid (Hz4.out.next hB5)
  clear hB5 H4 Hz4 HZ HLz HL4 hm8
  cases hz : eqB 8 (tc 2 24 (rk L key) false zf) zf
  rotate_left
  · clear hcut8 hcutn
    go_wp2_with fail
    go_ret
    exact ⟨rfl, H5.out.bel⟩
  have Hz := hid hz
  clear hz
  go_wp2_with fail
  refine (cmac_any _ p0 2 gc _ 24 (rk L key) (some ⟨gA, 0, none⟩) 8 8 a 8 (by omega) H5.out.ci (by omega) (by omega) (by rw [sz2]; omega) (fun h => by cases h) Ha.out ((H5.out.cut (Nat.le_refl 8)).1)).mono ?_
  rintro e w6 ⟨vx, rfl, hox, hB6⟩
  obtain ⟨gx, cx, rfl, -⟩ := own_at hox (by omega)
  have H6 := hid (H5.out.next hB6)
  have Rx6 := hid hox.reads
  clear hox hB6 H5
  go_wp2_with fail
  refine (cmac_any _ p0 2 gc _ 24 (rk L key) (some ⟨gB, 0, none⟩) 8 8 b 8 (by omega) H6.out.ci (by omega) (by omega) (by rw [sz2]; omega) (fun h => by cases h) Hb.out ((H6.out.cut (Nat.le_refl 8)).2)).mono ?_
  rintro e w7 ⟨vy, rfl, hoy, hB7⟩
  obtain ⟨gy, cy, rfl, -⟩ := own_at hoy (by omega)
  have H7 := hid (H6.out.next hB7)
  have Ry7 := hid hoy.reads
  have Rx7 := hid (up Rx6.out hB7)
  clear hoy hB7 H6 Rx6
  go_wp2_with fail
  refine (cmac_any _ p0 2 gc _ 24 (rk L key) (some ⟨gA, 0, none⟩) n 8 a 8 (by omega) H7.out.ci (by omega) (by omega) (by rw [sz2]; omega) (fun h => by cases h) Han.out ((H7.out.cut hn8').1)).mono ?_
  rintro e w8 ⟨vu, rfl, hou, hB8⟩
  obtain ⟨gu, cu, rfl, -⟩ := own_at hou (by omega)
  have H8 := hid (H7.out.next hB8)
  have Ru8 := hid hou.reads
  have Rx8 := hid (up Rx7.out hB8)
  have Ry8 := hid (up Ry7.out hB8)
  clear hou hB8 H7 Rx7 Ry7
  go_wp2_with fail
  refine (cmac_any _ p0 2 gc _ 24 (rk L key) (some ⟨gB, 0, none⟩) n 8 b 8 (by omega) H8.out.ci (by omega) (by omega) (by rw [sz2]; omega) (fun h => by cases h) Hbn.out ((H8.out.cut hn8').2)).mono ?_
  rintro e w9 ⟨vv, rfl, hov, hB9⟩
  obtain ⟨gv, cv, rfl, -⟩ := own_at hov (by omega)
  have H9 := hid (H8.out.next hB9)
  have Rv9 := hid hov.reads
  have Rx9 := hid (up Rx8.out hB9)
  have Ry9 := hid (up Ry8.out hB9)
  have Ru9 := hid (up Ru8.out hB9)
  clear hov hB9 H8 Rx8 Ry8 Ru8
  go_wp2_with fail
  have E1 : Hid (eqB 8 (cmacF 2 24 (rk L key) 8 a) (cmacF 2 24 (rk L key) 8 b) = eqB 8 a b) := hid (same_whole fits24 Hkk.out Ha.out Hb.out)
  have E2 : Hid (eqB 8 (cmacF 2 24 (rk L key) n a) (cmacF 2 24 (rk L key) n b) = eqB n a b) := hid (same_cut hn8 fits24 Hkk.out Han.out Hbn.out)
  refine wp_region_held_drew (S := fun W => Below w9.heap.size w9 W) (by kernel_rfl) (Below.refl _ _).drew (fun hS0 => ?_)
  refine wpAnyH_take (i := 0) (v := .nilIface) rfl (by kernel_rfl) (by kernel_rfl) (by kernel_rfl) (fun _ _ _ h => h) (Or.inl ⟨rfl, fun _ _ => exec_move _ rfl _ rfl⟩) hS0 ?_
  (try simp only [Act.put, List.getElem_toArray, List.getElem_cons_zero, List.getElem_cons_succ, List.setIfInBounds_toArray, List.set_cons_zero, List.set_cons_succ])
  refine wpAnyH_take (i := 1) (v := .bool false) rfl (by kernel_rfl) (by kernel_rfl) (by kernel_rfl) (fun _ _ _ h => h) (Or.inl ⟨rfl, fun W _ => by go_simp⟩) hS0 ?_
  (try simp only [Act.put, List.getElem_toArray, List.getElem_cons_zero, List.getElem_cons_succ, List.setIfInBounds_toArray, List.set_cons_zero, List.set_cons_succ])
  refine wpAnyH_take (i := 2) (v := .bool false) rfl (by kernel_rfl) (by kernel_rfl) (by kernel_rfl) (fun _ _ _ h => h) (Or.inl ⟨rfl, fun _ _ => exec_move _ rfl _ rfl⟩) hS0 ?_
  (try simp only [Act.put, List.getElem_toArray, List.getElem_cons_zero, List.getElem_cons_succ, List.setIfInBounds_toArray, List.set_cons_zero, List.set_cons_succ])
  refine wpAnyH_take (i := 3) (v := .nilIface) rfl (by kernel_rfl) (by kernel_rfl) (by kernel_rfl) (fun _ _ _ h => h) (Or.inl ⟨rfl, fun _ _ => exec_move _ rfl _ rfl⟩) hS0 ?_
  (try simp only [Act.put, List.getElem_toArray, List.getElem_cons_zero, List.getElem_cons_succ, List.setIfInBounds_toArray, List.set_cons_zero, List.set_cons_succ])
  refine wpAnyH_take (i := 4) (v := .bool false) rfl (by kernel_rfl) (by kernel_rfl) (by kernel_rfl) (fun _ _ _ h => h) (Or.inl ⟨rfl, fun W _ => by go_simp⟩) hS0 ?_
  (try simp only [Act.put, List.getElem_toArray, List.getElem_cons_zero, List.getElem_cons_succ, List.setIfInBounds_toArray, List.set_cons_zero, List.set_cons_succ])
  refine wpAnyH_take (i := 5) (v := .bool false) rfl (by kernel_rfl) (by kernel_rfl) (by kernel_rfl) (fun _ _ _ h => h) (Or.inl ⟨rfl, fun W _ => by go_simp⟩) hS0 ?_
  (try simp only [Act.put, List.getElem_toArray, List.getElem_cons_zero, List.getElem_cons_succ, List.setIfInBounds_toArray, List.set_cons_zero, List.set_cons_succ])
  refine wpAnyH_take (i := 6) (v := .bool false) rfl (by kernel_rfl) (by kernel_rfl) (by kernel_rfl) (fun _ _ _ h => h) (Or.inl ⟨rfl, fun _ _ => exec_move _ rfl _ rfl⟩) hS0 ?_
  (try simp only [Act.put, List.getElem_toArray, List.getElem_cons_zero, List.getElem_cons_succ, List.setIfInBounds_toArray, List.set_cons_zero, List.set_cons_succ])
  refine wpAnyH_take (i := 7) (v := .nilIface) rfl (by kernel_rfl) (by kernel_rfl) (by kernel_rfl) (fun _ _ _ h => h) (Or.inl ⟨rfl, fun _ _ => exec_move _ rfl _ rfl⟩) hS0 ?_
  (try simp only [Act.put, List.getElem_toArray, List.getElem_cons_zero, List.getElem_cons_succ, List.setIfInBounds_toArray, List.set_cons_zero, List.set_cons_succ])
  refine wpAnyH_take (i := 8) (v := .bool false) rfl (by kernel_rfl) (by kernel_rfl) (by kernel_rfl) (fun _ _ _ h => h) (Or.inl ⟨rfl, fun W _ => by go_simp⟩) hS0 ?_
  (try simp only [Act.put, List.getElem_toArray, List.getElem_cons_zero, List.getElem_cons_succ, List.setIfInBounds_toArray, List.set_cons_zero, List.set_cons_succ])
  refine wpAnyH_take (i := 9) (v := .bool false) rfl (by kernel_rfl) (by kernel_rfl) (by kernel_rfl) (fun _ _ _ h => h) (Or.inl ⟨rfl, fun W _ => by go_simp⟩) hS0 ?_
  (try simp only [Act.put, List.getElem_toArray, List.getElem_cons_zero, List.getElem_cons_succ, List.setIfInBounds_toArray, List.set_cons_zero, List.set_cons_succ])
  refine wpAnyH_take (i := 10) (v := .bool false) rfl (by kernel_rfl) (by kernel_rfl) (by kernel_rfl) (fun _ _ _ h => h) (Or.inl ⟨rfl, fun _ _ => exec_move _ rfl _ rfl⟩) hS0 ?_
  (try simp only [Act.put, List.getElem_toArray, List.getElem_cons_zero, List.getElem_cons_succ, List.setIfInBounds_toArray, List.set_cons_zero, List.set_cons_succ])
  refine wpAnyH_take (i := 11) (v := .nilIface) rfl (by kernel_rfl) (by kernel_rfl) (by kernel_rfl) (fun _ _ _ h => h) (Or.inl ⟨rfl, fun _ _ => exec_move _ rfl _ rfl⟩) hS0 ?_
  (try simp only [Act.put, List.getElem_toArray, List.getElem_cons_zero, List.getElem_cons_succ, List.setIfInBounds_toArray, List.set_cons_zero, List.set_cons_succ])
  refine wpAnyH_take (i := 12) (v := .bool false) rfl (by kernel_rfl) (by kernel_rfl) (by kernel_rfl) (fun _ _ _ h => h) (Or.inl ⟨rfl, fun W _ => by go_simp⟩) hS0 ?_
  (try simp only [Act.put, List.getElem_toArray, List.getElem_cons_zero, List.getElem_cons_succ, List.setIfInBounds_toArray, List.set_cons_zero, List.set_cons_succ])
  refine wpAnyH_take (i := 13) (v := .bool false) rfl (by kernel_rfl) (by kernel_rfl) (by kernel_rfl) (fun _ _ _ h => h) (Or.inl ⟨rfl, fun W _ => by go_simp⟩) hS0 ?_
  (try simp only [Act.put, List.getElem_toArray, List.getElem_cons_zero, List.getElem_cons_succ, List.setIfInBounds_toArray, List.set_cons_zero, List.set_cons_succ])
  refine wpAnyH_take (i := 14) (v := .bool false) rfl (by kernel_rfl) (by kernel_rfl) (by kernel_rfl) (fun _ _ _ h => h) (Or.inl ⟨rfl, fun _ _ => exec_move _ rfl _ rfl⟩) hS0 ?_
  (try simp only [Act.put, List.getElem_toArray, List.getElem_cons_zero, List.getElem_cons_succ, List.setIfInBounds_toArray, List.set_cons_zero, List.set_cons_succ])
  refine wpAnyH_take (i := 15) (v := .slice (some ⟨gx, 0, none⟩) 8 cx) rfl (by kernel_rfl) (by kernel_rfl) (by kernel_rfl) (fun _ _ _ h => h) (Or.inl ⟨rfl, fun _ _ => exec_move _ rfl _ rfl⟩) hS0 ?_
  (try simp only [Act.put, List.getElem_toArray, List.getElem_cons_zero, List.getElem_cons_succ, List.setIfInBounds_toArray, List.set_cons_zero, List.set_cons_succ])
  refine wpAnyH_take (i := 16) (v := .slice (some ⟨gy, 0, none⟩) 8 cy) rfl (by kernel_rfl) (by kernel_rfl) (by kernel_rfl) (fun _ _ _ h => h) (Or.inl ⟨rfl, fun _ _ => exec_move _ rfl _ rfl⟩) hS0 ?_
  (try simp only [Act.put, List.getElem_toArray, List.getElem_cons_zero, List.getElem_cons_succ, List.setIfInBounds_toArray, List.set_cons_zero, List.set_cons_succ])
  refine wpAnyH_take (i := 18) (v := .agg (row 8 (b8 a))) rfl (by kernel_rfl) (by kernel_rfl) (by kernel_rfl) (fun _ _ _ h => h) (Or.inl ⟨rfl, fun W hW => exec_load 23 _ rfl _ rfl 23 8 _ (H9.out.xa.below hW H9.out.xa.lt) 5 Try.underlying23 i8a⟩) hS0 ?_
  (try simp only [Act.put, List.getElem_toArray, List.getElem_cons_zero, List.getElem_cons_succ, List.setIfInBounds_toArray, List.set_cons_zero, List.set_cons_succ])
  refine wpAnyH_take (i := 19) (v := .agg (row 8 (b8 b))) rfl (by kernel_rfl) (by kernel_rfl) (by kernel_rfl) (fun _ _ _ h => h) (Or.inl ⟨rfl, fun W hW => exec_load 23 _ rfl _ rfl 23 8 _ (H9.out.xb.below hW H9.out.xb.lt) 5 Try.underlying23 i8a⟩) hS0 ?_
  (try simp only [Act.put, List.getElem_toArray, List.getElem_cons_zero, List.getElem_cons_succ, List.setIfInBounds_toArray, List.set_cons_zero, List.set_cons_succ])
  refine wpAnyH_take (i := 20) (v := .bool (eqB 8 a b)) rfl (by kernel_rfl) (by kernel_rfl) (by kernel_rfl) (fun _ _ _ h => h) (Or.inl ⟨rfl, fun _ _ => exec_eq 23 _ _ _ rfl 8 _ _ rfl rfl 5 Try.underlying23 Try.underlying5 i8q eqA8⟩) hS0 ?_
  (try simp only [Act.put, List.getElem_toArray, List.getElem_cons_zero, List.getElem_cons_succ, List.setIfInBounds_toArray, List.set_cons_zero, List.set_cons_succ])
  refine wpAnyH_ready (rs := [17]) (by kernel_rfl) (by simp) (AllReadyH.cons rfl (fun K hK => ?_) AllReadyH.nil)
  (try simp only [Act.put, List.getElem_toArray, List.getElem_cons_zero, List.getElem_cons_succ, List.setIfInBounds_toArray, List.set_cons_zero, List.set_cons_succ])
  refine Eq.mpr (if_pos (by rfl)) ?_
  go_simp
  refine (same_any _ _ 8 cx cy _ _ _ (by omega) (up Rx9.out hS0) (up Ry9.out hS0)).mono ?_
  rintro e wq1 ⟨rfl, hBq1⟩
  rw [E1.out]
  refine hK.out _ _ (hS0.trans (hBq1.mono hS0.size)) (fun hS1 => ?_)
  (try simp only [Act.put, List.getElem_toArray, List.getElem_cons_zero, List.getElem_cons_succ, List.setIfInBounds_toArray, List.set_cons_zero, List.set_cons_succ])
  clear hK K
  refine wpAnyH_take (i := 21) (v := .bool false) rfl (by kernel_rfl) (by kernel_rfl) (by kernel_rfl) (fun _ _ _ h => h) (Or.inl ⟨rfl, fun _ _ => exec_neB _ _ _ rfl _ rfl rfl⟩) hS1 ?_
  (try simp only [Act.put, List.getElem_toArray, List.getElem_cons_zero, List.getElem_cons_succ, List.setIfInBounds_toArray, List.set_cons_zero, List.set_cons_succ])
  refine wpAnyH_take (i := 22) (v := .bool false) rfl (by kernel_rfl) (by kernel_rfl) (by kernel_rfl) (fun _ _ _ h => h) (Or.inl ⟨rfl, fun W _ => by go_simp⟩) hS1 ?_
  (try simp only [Act.put, List.getElem_toArray, List.getElem_cons_zero, List.getElem_cons_succ, List.setIfInBounds_toArray, List.set_cons_zero, List.set_cons_succ])
  refine wpAnyH_take (i := 23) (v := .bool false) rfl (by kernel_rfl) (by kernel_rfl) (by kernel_rfl) (fun _ _ _ h => h) (Or.inl ⟨rfl, fun _ _ => exec_move _ rfl _ rfl⟩) hS1 ?_
  (try simp only [Act.put, List.getElem_toArray, List.getElem_cons_zero, List.getElem_cons_succ, List.setIfInBounds_toArray, List.set_cons_zero, List.set_cons_succ])
  refine wpAnyH_take (i := 24) (v := .slice (some ⟨gu, 0, none⟩) 8 cu) rfl (by kernel_rfl) (by kernel_rfl) (by kernel_rfl) (fun _ _ _ h => h) (Or.inl ⟨rfl, fun _ _ => exec_move _ rfl _ rfl⟩) hS1 ?_
  (try simp only [Act.put, List.getElem_toArray, List.getElem_cons_zero, List.getElem_cons_succ, List.setIfInBounds_toArray, List.set_cons_zero, List.set_cons_succ])
  refine wpAnyH_take (i := 25) (v := .slice (some ⟨gv, 0, none⟩) 8 cv) rfl (by kernel_rfl) (by kernel_rfl) (by kernel_rfl) (fun _ _ _ h => h) (Or.inl ⟨rfl, fun _ _ => exec_move _ rfl _ rfl⟩) hS1 ?_
  (try simp only [Act.put, List.getElem_toArray, List.getElem_cons_zero, List.getElem_cons_succ, List.setIfInBounds_toArray, List.set_cons_zero, List.set_cons_succ])
  refine wpAnyH_take (i := 27) (v := .int .i64 (n : Int)) rfl (by kernel_rfl) (by kernel_rfl) (by kernel_rfl) (fun _ _ _ h => h) (Or.inl ⟨rfl, fun _ _ => exec_move _ rfl _ rfl⟩) hS1 ?_
  (try simp only [Act.put, List.getElem_toArray, List.getElem_cons_zero, List.getElem_cons_succ, List.setIfInBounds_toArray, List.set_cons_zero, List.set_cons_succ])
  refine wpAnyH_take (i := 28) (v := .slice (some ⟨gA, 0, none⟩) n 8) rfl (by kernel_rfl) (by kernel_rfl) (by kernel_rfl) (fun _ _ _ h => h) (Or.inl ⟨rfl, fun W _ => exec_cut 23 _ _ rfl (.pointer (some ⟨gA, 0, none⟩)) (.int .i64 (n : Int)) _ rfl rfl (hcutn gA W)⟩) hS1 ?_
  (try simp only [Act.put, List.getElem_toArray, List.getElem_cons_zero, List.getElem_cons_succ, List.setIfInBounds_toArray, List.set_cons_zero, List.set_cons_succ])
  refine wpAnyH_take (i := 29) (v := .int .i64 (n : Int)) rfl (by kernel_rfl) (by kernel_rfl) (by kernel_rfl) (fun _ _ _ h => h) (Or.inl ⟨rfl, fun _ _ => exec_move _ rfl _ rfl⟩) hS1 ?_
  (try simp only [Act.put, List.getElem_toArray, List.getElem_cons_zero, List.getElem_cons_succ, List.setIfInBounds_toArray, List.set_cons_zero, List.set_cons_succ])
  refine wpAnyH_take (i := 30) (v := .slice (some ⟨gB, 0, none⟩) n 8) rfl (by kernel_rfl) (by kernel_rfl) (by kernel_rfl) (fun _ _ _ h => h) (Or.inl ⟨rfl, fun W _ => exec_cut 23 _ _ rfl (.pointer (some ⟨gB, 0, none⟩)) (.int .i64 (n : Int)) _ rfl rfl (hcutn gB W)⟩) hS1 ?_
  (try simp only [Act.put, List.getElem_toArray, List.getElem_cons_zero, List.getElem_cons_succ, List.setIfInBounds_toArray, List.set_cons_zero, List.set_cons_succ])
  refine wpAnyH_ready (rs := [26]) (by kernel_rfl) (by simp) (AllReadyH.cons rfl (fun K hK => ?_) AllReadyH.nil)
  (try simp only [Act.put, List.getElem_toArray, List.getElem_cons_zero, List.getElem_cons_succ, List.setIfInBounds_toArray, List.set_cons_zero, List.set_cons_succ])
  refine Eq.mpr (if_pos (by rfl)) ?_
  go_simp
  refine (same_any _ _ 8 cu cv _ _ _ (by omega) (up Ru9.out hS1) (up Rv9.out hS1)).mono ?_
  rintro e wq2 ⟨rfl, hBq2⟩
  rw [E2.out]
  refine hK.out _ _ (hS1.trans (hBq2.mono hS1.size)) (fun hS2 => ?_)
  (try simp only [Act.put, List.getElem_toArray, List.getElem_cons_zero, List.getElem_cons_succ, List.setIfInBounds_toArray, List.set_cons_zero, List.set_cons_succ])
  clear hK K
  refine wpAnyH_ready (rs := [31]) (by kernel_rfl) (by simp) (AllReadyH.cons rfl (fun K hK => ?_) AllReadyH.nil)
  (try simp only [Act.put, List.getElem_toArray, List.getElem_cons_zero, List.getElem_cons_succ, List.setIfInBounds_toArray, List.set_cons_zero, List.set_cons_succ])
  refine Eq.mpr (if_pos (by rfl)) ?_
  go_simp
  refine (same_any _ _ n 8 8 a b _ (by omega) ((H9.out.next hS2).cut hn8').1 ((H9.out.next hS2).cut hn8').2).mono ?_
  rintro e wq3 ⟨rfl, hBq3⟩
  refine hK.out _ _ (hS2.trans (hBq3.mono hS2.size)) (fun hS3 => ?_)
  (try simp only [Act.put, List.getElem_toArray, List.getElem_cons_zero, List.getElem_cons_succ, List.setIfInBounds_toArray, List.set_cons_zero, List.set_cons_succ])
  clear hK K
  refine wpAnyH_take (i := 32) (v := .bool false) rfl (by kernel_rfl) (by kernel_rfl) (by kernel_rfl) (fun _ _ _ h => h) (Or.inl ⟨rfl, fun _ _ => exec_neB _ _ _ rfl _ rfl rfl⟩) hS3 ?_
  (try simp only [Act.put, List.getElem_toArray, List.getElem_cons_zero, List.getElem_cons_succ, List.setIfInBounds_toArray, List.set_cons_zero, List.set_cons_succ])
  refine wpAnyH_take (i := 33) (v := .bool false) rfl (by kernel_rfl) (by kernel_rfl) (by kernel_rfl) (fun _ _ _ h => h) (Or.inl ⟨rfl, fun W _ => by go_simp⟩) hS3 ?_
  (try simp only [Act.put, List.getElem_toArray, List.getElem_cons_zero, List.getElem_cons_succ, List.setIfInBounds_toArray, List.set_cons_zero, List.set_cons_succ])
  refine wpAnyH_done (by kernel_rfl) ?_ _
  generalize hwq : wq3 = w10 at *
  clear hwq
  have H10 := hid (H9.out.next hS3)
  have Ru10 := hid (up Ru9.out hS3)
  clear hS0 hS1 hS2 hS3 hBq1 hBq2 hBq3 H9 Rx9 Ry9 Ru9 Rv9 E1 E2
  go_wp2_with fail
  refine (pad_any (some ⟨gA, 0, none⟩) n 8 a 8 8 _ (by omega) (by omega) (by omega) (pad8 hn8).symm (fun h => by cases h) (H10.out.cut hn8').1).mono ?_
  rintro e w11 ⟨rfl, hb11, hB11⟩
  have H11 := hid (H10.out.next hB11)
  have Ru11 := hid (up Ru10.out hB11)
  have Rp11 := hid (Blk.reads hb11)
  clear hb11 hB11 H10 Ru10
  go_wp2_with fail
  refine (cmac_any _ p0 2 gc _ 24 (rk L key) (some ⟨w10.heap.size, 0, none⟩) 8 8 (padF n a) 8 (by omega) H11.out.ci (by omega) (by omega) (by rw [sz2]; omega) (fun h => by cases h) Hpn.out Rp11.out).mono ?_
  rintro e w12 ⟨vw, rfl, how, hB12⟩
  obtain ⟨gw, cw, rfl, -⟩ := own_at how (by omega)
  have H12 := hid (H11.out.next hB12)
  have Ru12 := hid (up Ru11.out hB12)
  have Rw12 := hid how.reads
  clear how hB12 H11 Ru11 Rp11
  obtain ⟨g3, rfl⟩ : ∃ g, A3 = some g := by
    obtain ⟨ad, h, -⟩ := H12.out.ky (by omega)
    exact ⟨ad, h⟩
  have hk16 : Hid (∀ {W : World}, St w W gA gB gc w1.heap.size a b (some g3) L key → Reads W W.heap.size (some g3) 16 (rk L key)) := hid fun h => h.ky.less (by omega)
  have hcut16 : ∀ W, (Instr.sliceAt 22 (.slice (some g3) 24 c3) none (some (.int .i64 16)) none).run Try.prog W = .ok (.slice (some g3) 16 c3) W := fun W => cutS g3 24 c3 16 (by omega) W
  have hc16 : 16 ≤ c3 := by omega
  go_wp2_with fail
  refine wp_region_held_drew (S := fun W => Below w12.heap.size w12 W) (by kernel_rfl) (Below.refl _ _).drew (fun hS0r => ?_)
  refine wpAnyH_take (i := 0) (v := .slice (some g3) 24 c3) rfl (by kernel_rfl) (by kernel_rfl) (by kernel_rfl) (fun _ _ _ h => h) (Or.inl ⟨rfl, fun _ _ => exec_move _ rfl _ rfl⟩) hS0r ?_
  (try simp only [Act.put, List.getElem_toArray, List.getElem_cons_zero, List.getElem_cons_succ, List.setIfInBounds_toArray, List.set_cons_zero, List.set_cons_succ])
  refine wpAnyH_take (i := 1) (v := .slice (some g3) 16 c3) rfl (by kernel_rfl) (by kernel_rfl) (by kernel_rfl) (fun _ _ _ h => h) (Or.inl ⟨rfl, fun W _ => exec_cut 22 _ _ rfl (.slice (some g3) 24 c3) (.int .i64 16) _ rfl rfl (hcut16 W)⟩) hS0r ?_
  (try simp only [Act.put, List.getElem_toArray, List.getElem_cons_zero, List.getElem_cons_succ, List.setIfInBounds_toArray, List.set_cons_zero, List.set_cons_succ])
  refine wpAnyH_take (i := 2) (v := .int .i64 (n : Int)) rfl (by kernel_rfl) (by kernel_rfl) (by kernel_rfl) (fun _ _ _ h => h) (Or.inl ⟨rfl, fun _ _ => exec_move _ rfl _ rfl⟩) hS0r ?_
  (try simp only [Act.put, List.getElem_toArray, List.getElem_cons_zero, List.getElem_cons_succ, List.setIfInBounds_toArray, List.set_cons_zero, List.set_cons_succ])
  refine wpAnyH_take (i := 3) (v := .slice (some ⟨gA, 0, none⟩) n 8) rfl (by kernel_rfl) (by kernel_rfl) (by kernel_rfl) (fun _ _ _ h => h) (Or.inl ⟨rfl, fun W _ => exec_cut 23 _ _ rfl (.pointer (some ⟨gA, 0, none⟩)) (.int .i64 (n : Int)) _ rfl rfl (hcutn gA W)⟩) hS0r ?_
  (try simp only [Act.put, List.getElem_toArray, List.getElem_cons_zero, List.getElem_cons_succ, List.setIfInBounds_toArray, List.set_cons_zero, List.set_cons_succ])
  refine wpAnyH_ready (rs := [4]) (by kernel_rfl) (by simp) (AllReadyH.cons rfl (fun K hK => ?_) AllReadyH.nil)
  (try simp only [Act.put, List.getElem_toArray, List.getElem_cons_zero, List.getElem_cons_succ, List.setIfInBounds_toArray, List.set_cons_zero, List.set_cons_succ])
  refine Eq.mpr (if_pos (by rfl)) ?_
  go_simp
  refine (retail_any _ (some g3) c3 (rk L key) (some ⟨gA, 0, none⟩) n 8 a 8 hc16 Hkk16.out (by omega) (by omega) (by omega) (fun h => by cases h) Han.out (hk16.out (H12.out.next hS0r)) ((H12.out.next hS0r).cut hn8').1).mono ?_
  rintro e wq1r ⟨vo, rfl, hoo, hBq1r⟩
  refine hK.out _ _ (hS0r.trans (hBq1r.mono hS0r.size)) (fun hS1r => ?_)
  (try simp only [Act.put, List.getElem_toArray, List.getElem_cons_zero, List.getElem_cons_succ, List.setIfInBounds_toArray, List.set_cons_zero, List.set_cons_succ])
  clear hK K
  refine wpAnyH_take (i := 5) (v := .tuple #[vo, .nilIface]) rfl (by kernel_rfl) (by kernel_rfl) (by kernel_rfl) (fun _ _ _ h => h) (Or.inl ⟨rfl, fun _ _ => exec_move _ rfl _ rfl⟩) hS1r ?_
  (try simp only [Act.put, List.getElem_toArray, List.getElem_cons_zero, List.getElem_cons_succ, List.setIfInBounds_toArray, List.set_cons_zero, List.set_cons_succ])
  refine wpAnyH_take (i := 6) (v := vo) rfl (by kernel_rfl) (by kernel_rfl) (by kernel_rfl) (fun _ _ _ h => h) (Or.inl ⟨rfl, fun _ _ => exec_extract _ 0 rfl _ rfl _ rfl⟩) hS1r ?_
  (try simp only [Act.put, List.getElem_toArray, List.getElem_cons_zero, List.getElem_cons_succ, List.setIfInBounds_toArray, List.set_cons_zero, List.set_cons_succ])
  refine wpAnyH_take (i := 7) (v := .nilIface) rfl (by kernel_rfl) (by kernel_rfl) (by kernel_rfl) (fun _ _ _ h => h) (Or.inl ⟨rfl, fun _ _ => exec_extract _ 1 rfl _ rfl _ rfl⟩) hS1r ?_
  (try simp only [Act.put, List.getElem_toArray, List.getElem_cons_zero, List.getElem_cons_succ, List.setIfInBounds_toArray, List.set_cons_zero, List.set_cons_succ])
  refine wpAnyH_take (i := 8) (v := vo) rfl (by kernel_rfl) (by kernel_rfl) (by kernel_rfl) (fun _ _ _ h => h) (Or.inl ⟨rfl, fun _ _ => exec_assign _ rfl _ rfl⟩) hS1r ?_
  (try simp only [Act.put, List.getElem_toArray, List.getElem_cons_zero, List.getElem_cons_succ, List.setIfInBounds_toArray, List.set_cons_zero, List.set_cons_succ])
  refine wpAnyH_take (i := 9) (v := .nilIface) rfl (by kernel_rfl) (by kernel_rfl) (by kernel_rfl) (fun _ _ _ h => h) (Or.inl ⟨rfl, fun _ _ => exec_assign _ rfl _ rfl⟩) hS1r ?_
  (try simp only [Act.put, List.getElem_toArray, List.getElem_cons_zero, List.getElem_cons_succ, List.setIfInBounds_toArray, List.set_cons_zero, List.set_cons_succ])
  refine wpAnyH_done (by kernel_rfl) ?_ _
  obtain ⟨go, co, rfl, -⟩ := own_at hoo (by omega)
  generalize hwq : wq1r = w13 at *
  clear hwq
  have H13 := hid (H12.out.next hS1r)
  have Ro13 := hid hoo.reads
  have Ru13 := hid (up Ru12.out hS1r)
  have Rw13 := hid (up Rw12.out hS1r)
  clear hS0r hS1r hBq1r hoo H12 Ru12 Rw12
  go_wp2_with fail
  refine wp_region_held_drew (S := fun W => Below w13.heap.size w13 W) (by kernel_rfl) (Below.refl _ _).drew (fun hS0s => ?_)
  refine wpAnyH_take (i := 0) (v := .slice (some g3) 24 c3) rfl (by kernel_rfl) (by kernel_rfl) (by kernel_rfl) (fun _ _ _ h => h) (Or.inl ⟨rfl, fun _ _ => exec_move _ rfl _ rfl⟩) hS0s ?_
  (try simp only [Act.put, List.getElem_toArray, List.getElem_cons_zero, List.getElem_cons_succ, List.setIfInBounds_toArray, List.set_cons_zero, List.set_cons_succ])
  refine wpAnyH_take (i := 1) (v := .slice (some g3) 16 c3) rfl (by kernel_rfl) (by kernel_rfl) (by kernel_rfl) (fun _ _ _ h => h) (Or.inl ⟨rfl, fun W _ => exec_cut 22 _ _ rfl (.slice (some g3) 24 c3) (.int .i64 16) _ rfl rfl (hcut16 W)⟩) hS0s ?_
  (try simp only [Act.put, List.getElem_toArray, List.getElem_cons_zero, List.getElem_cons_succ, List.setIfInBounds_toArray, List.set_cons_zero, List.set_cons_succ])
  refine wpAnyH_take (i := 2) (v := .int .i64 (n : Int)) rfl (by kernel_rfl) (by kernel_rfl) (by kernel_rfl) (fun _ _ _ h => h) (Or.inl ⟨rfl, fun _ _ => exec_move _ rfl _ rfl⟩) hS0s ?_
  (try simp only [Act.put, List.getElem_toArray, List.getElem_cons_zero, List.getElem_cons_succ, List.setIfInBounds_toArray, List.set_cons_zero, List.set_cons_succ])
  refine wpAnyH_take (i := 3) (v := .slice (some ⟨gB, 0, none⟩) n 8) rfl (by kernel_rfl) (by kernel_rfl) (by kernel_rfl) (fun _ _ _ h => h) (Or.inl ⟨rfl, fun W _ => exec_cut 23 _ _ rfl (.pointer (some ⟨gB, 0, none⟩)) (.int .i64 (n : Int)) _ rfl rfl (hcutn gB W)⟩) hS0s ?_
  (try simp only [Act.put, List.getElem_toArray, List.getElem_cons_zero, List.getElem_cons_succ, List.setIfInBounds_toArray, List.set_cons_zero, List.set_cons_succ])
  refine wpAnyH_ready (rs := [4]) (by kernel_rfl) (by simp) (AllReadyH.cons rfl (fun K hK => ?_) AllReadyH.nil)
  (try simp only [Act.put, List.getElem_toArray, List.getElem_cons_zero, List.getElem_cons_succ, List.setIfInBounds_toArray, List.set_cons_zero, List.set_cons_succ])
  refine Eq.mpr (if_pos (by rfl)) ?_
  go_simp
  refine (retail_any _ (some g3) c3 (rk L key) (some ⟨gB, 0, none⟩) n 8 b 8 hc16 Hkk16.out (by omega) (by omega) (by omega) (fun h => by cases h) Hbn.out (hk16.out (H13.out.next hS0s)) ((H13.out.next hS0s).cut hn8').2).mono ?_
  rintro e wq1s ⟨vt, rfl, hot, hBq1s⟩
  refine hK.out _ _ (hS0s.trans (hBq1s.mono hS0s.size)) (fun hS1s => ?_)
  (try simp only [Act.put, List.getElem_toArray, List.getElem_cons_zero, List.getElem_cons_succ, List.setIfInBounds_toArray, List.set_cons_zero, List.set_cons_succ])
  clear hK K
  refine wpAnyH_take (i := 5) (v := .tuple #[vt, .nilIface]) rfl (by kernel_rfl) (by kernel_rfl) (by kernel_rfl) (fun _ _ _ h => h) (Or.inl ⟨rfl, fun _ _ => exec_move _ rfl _ rfl⟩) hS1s ?_
  (try simp only [Act.put, List.getElem_toArray, List.getElem_cons_zero, List.getElem_cons_succ, List.setIfInBounds_toArray, List.set_cons_zero, List.set_cons_succ])
  refine wpAnyH_take (i := 6) (v := vt) rfl (by kernel_rfl) (by kernel_rfl) (by kernel_rfl) (fun _ _ _ h => h) (Or.inl ⟨rfl, fun _ _ => exec_extract _ 0 rfl _ rfl _ rfl⟩) hS1s ?_
  (try simp only [Act.put, List.getElem_toArray, List.getElem_cons_zero, List.getElem_cons_succ, List.setIfInBounds_toArray, List.set_cons_zero, List.set_cons_succ])
  refine wpAnyH_take (i := 7) (v := .nilIface) rfl (by kernel_rfl) (by kernel_rfl) (by kernel_rfl) (fun _ _ _ h => h) (Or.inl ⟨rfl, fun _ _ => exec_extract _ 1 rfl _ rfl _ rfl⟩) hS1s ?_
  (try simp only [Act.put, List.getElem_toArray, List.getElem_cons_zero, List.getElem_cons_succ, List.setIfInBounds_toArray, List.set_cons_zero, List.set_cons_succ])
  refine wpAnyH_take (i := 8) (v := vt) rfl (by kernel_rfl) (by kernel_rfl) (by kernel_rfl) (fun _ _ _ h => h) (Or.inl ⟨rfl, fun _ _ => exec_assign _ rfl _ rfl⟩) hS1s ?_
  (try simp only [Act.put, List.getElem_toArray, List.getElem_cons_zero, List.getElem_cons_succ, List.setIfInBounds_toArray, List.set_cons_zero, List.set_cons_succ])
  refine wpAnyH_take (i := 9) (v := .nilIface) rfl (by kernel_rfl) (by kernel_rfl) (by kernel_rfl) (fun _ _ _ h => h) (Or.inl ⟨rfl, fun _ _ => exec_assign _ rfl _ rfl⟩) hS1s ?_
  (try simp only [Act.put, List.getElem_toArray, List.getElem_cons_zero, List.getElem_cons_succ, List.setIfInBounds_toArray, List.set_cons_zero, List.set_cons_succ])
  refine wpAnyH_done (by kernel_rfl) ?_ _
  obtain ⟨gt, ct, rfl, -⟩ := own_at hot (by omega)
  generalize hwq : wq1s = w14 at *
  clear hwq
  have H14 := hid (H13.out.next hS1s)
  have Rt14 := hid hot.reads
  have Ru14 := hid (up Ru13.out hS1s)
  have Rw14 := hid (up Rw13.out hS1s)
  have Ro14 := hid (up Ro13.out hS1s)
  clear hS0s hS1s hBq1s hot H13 Ru13 Rw13 Ro13
  go_wp2_with fail
  have E3 : Hid (eqB 8 (cmacF 2 24 (rk L key) 8 (padF n a)) (cmacF 2 24 (rk L key) n a) = false) := hid (other_end hn8 fits24 Hkk.out Han.out Hz.out)
  have E4 : Hid (eqB 8 (retF (rk L key) n a) (retF (rk L key) n b) = eqB n a b) := hid (same_ret hn8 Hkk16.out Han.out Hbn.out)
  refine wp_region_held_drew (S := fun W => Below w14.heap.size w14 W) (by kernel_rfl) (Below.refl _ _).drew (fun hS0z => ?_)
  refine wpAnyH_take (i := 0) (v := .nilIface) rfl (by kernel_rfl) (by kernel_rfl) (by kernel_rfl) (fun _ _ _ h => h) (Or.inl ⟨rfl, fun _ _ => exec_move _ rfl _ rfl⟩) hS0z ?_
  (try simp only [Act.put, List.getElem_toArray, List.getElem_cons_zero, List.getElem_cons_succ, List.setIfInBounds_toArray, List.set_cons_zero, List.set_cons_succ])
  refine wpAnyH_take (i := 1) (v := .bool true) rfl (by kernel_rfl) (by kernel_rfl) (by kernel_rfl) (fun _ _ _ h => h) (Or.inl ⟨rfl, fun W _ => by go_simp⟩) hS0z ?_
  (try simp only [Act.put, List.getElem_toArray, List.getElem_cons_zero, List.getElem_cons_succ, List.setIfInBounds_toArray, List.set_cons_zero, List.set_cons_succ])
  refine wpAnyH_take (i := 2) (v := .bool true) rfl (by kernel_rfl) (by kernel_rfl) (by kernel_rfl) (fun _ _ _ h => h) (Or.inl ⟨rfl, fun _ _ => exec_move _ rfl _ rfl⟩) hS0z ?_
  (try simp only [Act.put, List.getElem_toArray, List.getElem_cons_zero, List.getElem_cons_succ, List.setIfInBounds_toArray, List.set_cons_zero, List.set_cons_succ])
  refine wpAnyH_take (i := 3) (v := .nilIface) rfl (by kernel_rfl) (by kernel_rfl) (by kernel_rfl) (fun _ _ _ h => h) (Or.inl ⟨rfl, fun _ _ => exec_move _ rfl _ rfl⟩) hS0z ?_
  (try simp only [Act.put, List.getElem_toArray, List.getElem_cons_zero, List.getElem_cons_succ, List.setIfInBounds_toArray, List.set_cons_zero, List.set_cons_succ])
  refine wpAnyH_take (i := 4) (v := .bool true) rfl (by kernel_rfl) (by kernel_rfl) (by kernel_rfl) (fun _ _ _ h => h) (Or.inl ⟨rfl, fun W _ => by go_simp⟩) hS0z ?_
  (try simp only [Act.put, List.getElem_toArray, List.getElem_cons_zero, List.getElem_cons_succ, List.setIfInBounds_toArray, List.set_cons_zero, List.set_cons_succ])
  refine wpAnyH_take (i := 5) (v := .bool true) rfl (by kernel_rfl) (by kernel_rfl) (by kernel_rfl) (fun _ _ _ h => h) (Or.inl ⟨rfl, fun W _ => by go_simp⟩) hS0z ?_
  (try simp only [Act.put, List.getElem_toArray, List.getElem_cons_zero, List.getElem_cons_succ, List.setIfInBounds_toArray, List.set_cons_zero, List.set_cons_succ])
  refine wpAnyH_take (i := 6) (v := .bool true) rfl (by kernel_rfl) (by kernel_rfl) (by kernel_rfl) (fun _ _ _ h => h) (Or.inl ⟨rfl, fun _ _ => exec_move _ rfl _ rfl⟩) hS0z ?_
  (try simp only [Act.put, List.getElem_toArray, List.getElem_cons_zero, List.getElem_cons_succ, List.setIfInBounds_toArray, List.set_cons_zero, List.set_cons_succ])
  refine wpAnyH_take (i := 7) (v := .nilIface) rfl (by kernel_rfl) (by kernel_rfl) (by kernel_rfl) (fun _ _ _ h => h) (Or.inl ⟨rfl, fun _ _ => exec_move _ rfl _ rfl⟩) hS0z ?_
  (try simp only [Act.put, List.getElem_toArray, List.getElem_cons_zero, List.getElem_cons_succ, List.setIfInBounds_toArray, List.set_cons_zero, List.set_cons_succ])
  refine wpAnyH_take (i := 8) (v := .bool true) rfl (by kernel_rfl) (by kernel_rfl) (by kernel_rfl) (fun _ _ _ h => h) (Or.inl ⟨rfl, fun W _ => by go_simp⟩) hS0z ?_
  (try simp only [Act.put, List.getElem_toArray, List.getElem_cons_zero, List.getElem_cons_succ, List.setIfInBounds_toArray, List.set_cons_zero, List.set_cons_succ])
  refine wpAnyH_take (i := 9) (v := .bool true) rfl (by kernel_rfl) (by kernel_rfl) (by kernel_rfl) (fun _ _ _ h => h) (Or.inl ⟨rfl, fun W _ => by go_simp⟩) hS0z ?_
  (try simp only [Act.put, List.getElem_toArray, List.getElem_cons_zero, List.getElem_cons_succ, List.setIfInBounds_toArray, List.set_cons_zero, List.set_cons_succ])
  refine wpAnyH_take (i := 10) (v := .bool true) rfl (by kernel_rfl) (by kernel_rfl) (by kernel_rfl) (fun _ _ _ h => h) (Or.inl ⟨rfl, fun _ _ => exec_move _ rfl _ rfl⟩) hS0z ?_
  (try simp only [Act.put, List.getElem_toArray, List.getElem_cons_zero, List.getElem_cons_succ, List.setIfInBounds_toArray, List.set_cons_zero, List.set_cons_succ])
  refine wpAnyH_take (i := 11) (v := .slice (some ⟨gw, 0, none⟩) 8 cw) rfl (by kernel_rfl) (by kernel_rfl) (by kernel_rfl) (fun _ _ _ h => h) (Or.inl ⟨rfl, fun _ _ => exec_move _ rfl _ rfl⟩) hS0z ?_
  (try simp only [Act.put, List.getElem_toArray, List.getElem_cons_zero, List.getElem_cons_succ, List.setIfInBounds_toArray, List.set_cons_zero, List.set_cons_succ])
  refine wpAnyH_take (i := 12) (v := .slice (some ⟨gu, 0, none⟩) 8 cu) rfl (by kernel_rfl) (by kernel_rfl) (by kernel_rfl) (fun _ _ _ h => h) (Or.inl ⟨rfl, fun _ _ => exec_move _ rfl _ rfl⟩) hS0z ?_
  (try simp only [Act.put, List.getElem_toArray, List.getElem_cons_zero, List.getElem_cons_succ, List.setIfInBounds_toArray, List.set_cons_zero, List.set_cons_succ])
  refine wpAnyH_ready (rs := [13]) (by kernel_rfl) (by simp) (AllReadyH.cons rfl (fun K hK => ?_) AllReadyH.nil)
  (try simp only [Act.put, List.getElem_toArray, List.getElem_cons_zero, List.getElem_cons_succ, List.setIfInBounds_toArray, List.set_cons_zero, List.set_cons_succ])
  refine Eq.mpr (if_pos (by rfl)) ?_
  go_simp
  refine (same_any _ _ 8 cw cu _ _ _ (by omega) (up Rw14.out hS0z) (up Ru14.out hS0z)).mono ?_
  rintro e wq1z ⟨rfl, hBq1z⟩
  rw [E3.out]
  refine hK.out _ _ (hS0z.trans (hBq1z.mono hS0z.size)) (fun hS1z => ?_)
  (try simp only [Act.put, List.getElem_toArray, List.getElem_cons_zero, List.getElem_cons_succ, List.setIfInBounds_toArray, List.set_cons_zero, List.set_cons_succ])
  clear hK K
  refine wpAnyH_take (i := 14) (v := .bool true) rfl (by kernel_rfl) (by kernel_rfl) (by kernel_rfl) (fun _ _ _ h => h) (Or.inl ⟨rfl, fun W _ => by go_simp⟩) hS1z ?_
  (try simp only [Act.put, List.getElem_toArray, List.getElem_cons_zero, List.getElem_cons_succ, List.setIfInBounds_toArray, List.set_cons_zero, List.set_cons_succ])
  refine wpAnyH_take (i := 15) (v := .bool true) rfl (by kernel_rfl) (by kernel_rfl) (by kernel_rfl) (fun _ _ _ h => h) (Or.inl ⟨rfl, fun W _ => by go_simp⟩) hS1z ?_
  (try simp only [Act.put, List.getElem_toArray, List.getElem_cons_zero, List.getElem_cons_succ, List.setIfInBounds_toArray, List.set_cons_zero, List.set_cons_succ])
  refine wpAnyH_take (i := 16) (v := .bool true) rfl (by kernel_rfl) (by kernel_rfl) (by kernel_rfl) (fun _ _ _ h => h) (Or.inl ⟨rfl, fun _ _ => exec_move _ rfl _ rfl⟩) hS1z ?_
  (try simp only [Act.put, List.getElem_toArray, List.getElem_cons_zero, List.getElem_cons_succ, List.setIfInBounds_toArray, List.set_cons_zero, List.set_cons_succ])
  refine wpAnyH_take (i := 17) (v := .slice (some ⟨go, 0, none⟩) 8 co) rfl (by kernel_rfl) (by kernel_rfl) (by kernel_rfl) (fun _ _ _ h => h) (Or.inl ⟨rfl, fun _ _ => exec_move _ rfl _ rfl⟩) hS1z ?_
  (try simp only [Act.put, List.getElem_toArray, List.getElem_cons_zero, List.getElem_cons_succ, List.setIfInBounds_toArray, List.set_cons_zero, List.set_cons_succ])
  refine wpAnyH_take (i := 18) (v := .slice (some ⟨gt, 0, none⟩) 8 ct) rfl (by kernel_rfl) (by kernel_rfl) (by kernel_rfl) (fun _ _ _ h => h) (Or.inl ⟨rfl, fun _ _ => exec_move _ rfl _ rfl⟩) hS1z ?_
  (try simp only [Act.put, List.getElem_toArray, List.getElem_cons_zero, List.getElem_cons_succ, List.setIfInBounds_toArray, List.set_cons_zero, List.set_cons_succ])
  refine wpAnyH_take (i := 20) (v := .int .i64 (n : Int)) rfl (by kernel_rfl) (by kernel_rfl) (by kernel_rfl) (fun _ _ _ h => h) (Or.inl ⟨rfl, fun _ _ => exec_move _ rfl _ rfl⟩) hS1z ?_
  (try simp only [Act.put, List.getElem_toArray, List.getElem_cons_zero, List.getElem_cons_succ, List.setIfInBounds_toArray, List.set_cons_zero, List.set_cons_succ])
  refine wpAnyH_take (i := 21) (v := .slice (some ⟨gA, 0, none⟩) n 8) rfl (by kernel_rfl) (by kernel_rfl) (by kernel_rfl) (fun _ _ _ h => h) (Or.inl ⟨rfl, fun W _ => exec_cut 23 _ _ rfl (.pointer (some ⟨gA, 0, none⟩)) (.int .i64 (n : Int)) _ rfl rfl (hcutn gA W)⟩) hS1z ?_
  (try simp only [Act.put, List.getElem_toArray, List.getElem_cons_zero, List.getElem_cons_succ, List.setIfInBounds_toArray, List.set_cons_zero, List.set_cons_succ])
  refine wpAnyH_take (i := 22) (v := .int .i64 (n : Int)) rfl (by kernel_rfl) (by kernel_rfl) (by kernel_rfl) (fun _ _ _ h => h) (Or.inl ⟨rfl, fun _ _ => exec_move _ rfl _ rfl⟩) hS1z ?_
  (try simp only [Act.put, List.getElem_toArray, List.getElem_cons_zero, List.getElem_cons_succ, List.setIfInBounds_toArray, List.set_cons_zero, List.set_cons_succ])
  refine wpAnyH_take (i := 23) (v := .slice (some ⟨gB, 0, none⟩) n 8) rfl (by kernel_rfl) (by kernel_rfl) (by kernel_rfl) (fun _ _ _ h => h) (Or.inl ⟨rfl, fun W _ => exec_cut 23 _ _ rfl (.pointer (some ⟨gB, 0, none⟩)) (.int .i64 (n : Int)) _ rfl rfl (hcutn gB W)⟩) hS1z ?_
  (try simp only [Act.put, List.getElem_toArray, List.getElem_cons_zero, List.getElem_cons_succ, List.setIfInBounds_toArray, List.set_cons_zero, List.set_cons_succ])
  refine wpAnyH_ready (rs := [19]) (by kernel_rfl) (by simp) (AllReadyH.cons rfl (fun K hK => ?_) AllReadyH.nil)
  (try simp only [Act.put, List.getElem_toArray, List.getElem_cons_zero, List.getElem_cons_succ, List.setIfInBounds_toArray, List.set_cons_zero, List.set_cons_succ])
  refine Eq.mpr (if_pos (by rfl)) ?_
  go_simp
  refine (same_any _ _ 8 co ct _ _ _ (by omega) (up Ro14.out hS1z) (up Rt14.out hS1z)).mono ?_
  rintro e wq2z ⟨rfl, hBq2z⟩
  rw [E4.out]
  refine hK.out _ _ (hS1z.trans (hBq2z.mono hS1z.size)) (fun hS2z => ?_)
  (try simp only [Act.put, List.getElem_toArray, List.getElem_cons_zero, List.getElem_cons_succ, List.setIfInBounds_toArray, List.set_cons_zero, List.set_cons_succ])
  clear hK K
  refine wpAnyH_ready (rs := [24]) (by kernel_rfl) (by simp) (AllReadyH.cons rfl (fun K hK => ?_) AllReadyH.nil)
  (try simp only [Act.put, List.getElem_toArray, List.getElem_cons_zero, List.getElem_cons_succ, List.setIfInBounds_toArray, List.set_cons_zero, List.set_cons_succ])
  refine Eq.mpr (if_pos (by rfl)) ?_
  go_simp
  refine (same_any _ _ n 8 8 a b _ (by omega) ((H14.out.next hS2z).cut hn8').1 ((H14.out.next hS2z).cut hn8').2).mono ?_
  rintro e wq3z ⟨rfl, hBq3z⟩
  refine hK.out _ _ (hS2z.trans (hBq3z.mono hS2z.size)) (fun hS3z => ?_)
  (try simp only [Act.put, List.getElem_toArray, List.getElem_cons_zero, List.getElem_cons_succ, List.setIfInBounds_toArray, List.set_cons_zero, List.set_cons_succ])
  clear hK K
  refine wpAnyH_take (i := 25) (v := .bool true) rfl (by kernel_rfl) (by kernel_rfl) (by kernel_rfl) (fun _ _ _ h => h) (Or.inl ⟨rfl, fun _ _ => exec_eqB _ _ _ rfl _ rfl rfl⟩) hS3z ?_
  (try simp only [Act.put, List.getElem_toArray, List.getElem_cons_zero, List.getElem_cons_succ, List.setIfInBounds_toArray, List.set_cons_zero, List.set_cons_succ])
  refine wpAnyH_take (i := 26) (v := .bool true) rfl (by kernel_rfl) (by kernel_rfl) (by kernel_rfl) (fun _ _ _ h => h) (Or.inl ⟨rfl, fun W _ => by go_simp⟩) hS3z ?_
  (try simp only [Act.put, List.getElem_toArray, List.getElem_cons_zero, List.getElem_cons_succ, List.setIfInBounds_toArray, List.set_cons_zero, List.set_cons_succ])
  refine wpAnyH_take (i := 27) (v := .bool true) rfl (by kernel_rfl) (by kernel_rfl) (by kernel_rfl) (fun _ _ _ h => h) (Or.inl ⟨rfl, fun _ _ => exec_assign _ rfl _ rfl⟩) hS3z ?_
  (try simp only [Act.put, List.getElem_toArray, List.getElem_cons_zero, List.getElem_cons_succ, List.setIfInBounds_toArray, List.set_cons_zero, List.set_cons_succ])
  refine wpAnyH_done (by kernel_rfl) ?_ _
  go_wp2_with fail
  go_ret
  exact ⟨rfl, (H14.out.next hS3z).bel⟩
end Go.Proofs.Ytmmgimpokpgnaaa.Mc.Parts
