/-
  mode.Alone and mode.Chained of AES and TDES: what they answer; what stays.
-/
import Derived.Test.YtmmgimpokpgnaaaGreatDoorMode3
namespace Go.Proofs.YtmmgimpokpgnaaaGreatDoor.Md
open Mem Bk Go.ChangeShapes Go.WideShapes Go.ChangeAt Go.RowKit
theorem tc_lt {k L : Nat} {key : Nat → Nat} {bk : Bool} {x : Nat → Nat} (hk3 : k ≠ 3) (hf : fits k L) (hk : ∀ i, i < L → key i < 256) (hx : ∀ i, i < sz k → x i < 256) : ∀ i, i < sz k → tc k L key bk x i < 256 := by
  rcases hf with ⟨rfl, hL⟩ | ⟨rfl, hL⟩ | ⟨rfl, hL⟩
  · unfold tc
    rw [if_pos rfl]
    cases bk
    · exact Aes.enc_by (ws_lt L hk) (ws_le L) hx
    · exact Aes.dec_by (ws_lt L hk) (ws_le L) hx
  · unfold tc
    rw [if_neg (by omega)]
    exact Des.tdes_by _ _ _ _
  · exact absurd rfl hk3
theorem own_base {w : World} {base base' e n : Nat} {v : Value} {f : Nat → Nat} (ho : Mem.Own w base e 1 v n f) (h : base' ≤ base) : Mem.Own w base' e 1 v n f := by
  obtain ⟨h1, h2 | ⟨k, c, cur, rfl, hbk, hblk, hnc, hcm, hsz, hcs⟩⟩ := ho
  · exact ⟨h1, .inl h2⟩
  · exact ⟨h1, .inr ⟨k, c, cur, rfl, by omega, hblk, hnc, hcm, hsz, hcs⟩⟩
theorem sz_or (k : Nat) : sz k = 8 ∨ sz k = 16 := by unfold sz; split <;> simp
theorem CiAt.fits {w : World} {p : Pl} {k gc base L : Nat} {key : Nat → Nat} (h : CiAt w p k gc base L key) : Bk.fits k L := by
  obtain ⟨_, ⟨h1, h2, _⟩ | ⟨h1, h2, _⟩ | ⟨h1, h2, _⟩⟩ := h
  · exact .inl ⟨h1, h2⟩
  · exact .inr (.inl ⟨h1, h2⟩)
  · exact .inr (.inr ⟨h1, h2⟩)
set_option maxRecDepth 100000 in
theorem al1_any (W : World) (p : Pl) (k gc base L : Nat) (key : Nat → Nat) (ad : Addr) (c kc kb : Nat) (bk : Bool) (y : Nat → Nat) (hk3 : k ≠ 3) (h : CiAt W p k gc base L key) (hkc : Blk W kc 29 #[.pointer (some ⟨gc, 0, none⟩)]) (hkb : Blk W kb 4 #[.bool bk]) (had : ad.block < W.heap.size) (hc : ∀ i, i < sz k → W.cell? (ad.add i) = some (.int .u8 ((y i : Nat) : Int))) (hy : ∀ i, i < sz k → y i < 256) :
    Calls Tryz.prog 49 #[.slice (some ad) (sz k) c, .pointer (some ⟨kc, 0, none⟩), .pointer (some ⟨kb, 0, none⟩)] W fun e w' => ∃ g, e = .returned (.tuple #[.slice (some ⟨g, 0, none⟩) (sz k) (sz k), .nilIface]) ∧ Blk w' g (tyOf k) (row (sz k) (b8 (tc k L key bk y))) ∧ W.heap.size ≤ g ∧ Below W.heap.size W w' := by
  have HD := hid (do12 W p k gc base L key ad c bk y hk3 h had hc hy)
  have hc1 : W.cell? ⟨kc, 0, none⟩ = some (.pointer (some ⟨gc, 0, none⟩)) := hkc.cell 0
  have hc2 : W.cell? ⟨kb, 0, none⟩ = some (.bool bk) := hkb.cell 0
  clear h hc hy
  go_enter Tryz.func49, Tryz.ntmps49
  go_wp2_with (go_at_call 13; refine HD.out.mono ?_; rintro e w1 ⟨g, rfl, hbg, hgs, hB⟩)
  go_ret2
  exact ⟨g, rfl, hbg, hgs, hB⟩
/-- the bytes of a text, each block alone -/
def stA (k L : Nat) (key : Nat → Nat) (bk : Bool) : Unit → (Nat → Nat) → (Nat → Nat) × Unit := fun _ y => (tc k L key bk y, ())
def aloneF (k L : Nat) (key : Nat → Nat) (bk : Bool) (x : Nat → Nat) (N : Nat) : Nat → Nat := (run (stA k L key bk) (sz k) (fun j i => x (j * sz k + i)) () (List.range N)).2.1
set_option maxRecDepth 100000 in
set_option maxHeartbeats 1000000 in
theorem alone_any (w : World) (p : Pl) (k gc base L : Nat) (key : Nat → Nat) (A : Option Addr) (N M c : Nat) (bk : Bool) (x : Nat → Nat) (hk3 : k ≠ 3) (h : CiAt w p k gc base L key) (hM : M = N * sz k) (hN : M ≤ 100000) (hc : M ≤ c) (hA : A = none → M = 0) (hx : ∀ i, i < M → x i < 256) (hR : Reads w w.heap.size A M x) :
    Calls Tryz.prog 21 #[.pointer (some ⟨gc, 0, none⟩), .slice A M c, .bool bk] w fun e w' => ∃ v, e = .returned (.tuple #[v, .nilIface]) ∧ Mem.Own w' w.heap.size 5 1 v M (aloneF k L key bk x N) ∧ Below w.heap.size w w' := by
  have hB1 : Below w.heap.size w ((w.alloc (.cells #[.pointer (some ⟨gc, 0, none⟩)] 29)).alloc (.cells #[.bool bk] 4)) := ((Below.refl _ w).alloc (Nat.le_refl _) _).alloc (by simp) _
  have hkc : Blk ((w.alloc (.cells #[.pointer (some ⟨gc, 0, none⟩)] 29)).alloc (.cells #[.bool bk] 4)) w.heap.size 29 #[.pointer (some ⟨gc, 0, none⟩)] := (Blk.fresh _ _ _).alloc _
  have hkb : Blk ((w.alloc (.cells #[.pointer (some ⟨gc, 0, none⟩)] 29)).alloc (.cells #[.bool bk] 4)) (w.heap.size + 1) 4 #[.bool bk] := blk_fresh (by simp) _ _
  have hs1 : ((w.alloc (.cells #[.pointer (some ⟨gc, 0, none⟩)] 29)).alloc (.cells #[.bool bk] 4)).heap.size = w.heap.size + 2 := by simp
  have HE := hid (each_any (fun (_ : Unit) W => Below w.heap.size w W ∧ Blk W w.heap.size 29 #[.pointer (some ⟨gc, 0, none⟩)] ∧ Blk W (w.heap.size + 1) 4 #[.bool bk]) (stA k L key bk) [] 49 #[.pointer (some ⟨w.heap.size, 0, none⟩), .pointer (some ⟨w.heap.size + 1, 0, none⟩)] (sz k) N M c A x () ((w.alloc (.cells #[.pointer (some ⟨gc, 0, none⟩)] 29)).alloc (.cells #[.bool bk] 4))
    (sz_or k) hM hN hc hA hx ((hR.below hB1).more (by omega)) (fun _ _ _ => by simp) (by simp)
    (fun _ W W' hW hB _ => ⟨hW.1.trans (hB.mono (by omega)), hW.2.1.below hB (by omega), hW.2.2.below hB (by omega)⟩) ⟨hB1, hkc, hkb⟩ (enters_of Tryz.func49 (by kernel_rfl) rfl)
    (fun _ W ad y hW hws had _ hcl hy => by
      rw [show #[Value.slice (some ad) (sz k) (sz k)] ++ #[.pointer (some ⟨w.heap.size, 0, none⟩), .pointer (some ⟨w.heap.size + 1, 0, none⟩)] = #[.slice (some ad) (sz k) (sz k), .pointer (some ⟨w.heap.size, 0, none⟩), .pointer (some ⟨w.heap.size + 1, 0, none⟩)] by simp]
      refine (al1_any W p k gc base L key ad (sz k) _ _ bk y hk3 (h.keep hW.1) hW.2.1 hW.2.2 (by omega) hcl hy).mono ?_
      rintro e W' ⟨g, rfl, hbg, -, hB⟩
      exact ⟨KeptS.of _ hB, ⟨hW.1.trans (hB.mono (by omega)), hW.2.1.below hB hW.2.1.lt, hW.2.2.below hB hW.2.2.lt⟩, g, _, rfl, hbg⟩))
  have HC := hid (h.keep hB1)
  have HM : M % sz k = 0 := by rw [hM]; exact Nat.mul_mod_left _ _
  have hHM : decide (M % sz k = 0) = true := decide_eq_true HM
  clear h hM hx hR hkc hkb HM
  go_enter Tryz.func21, Tryz.ntmps21
  go_wp2_with (first
    | (go_at_call 46; refine (sizeOf_any _ p k gc base L key HC.out).mono ?_; rintro e w1 ⟨rfl, rfl⟩)
    | (go_at_call 47; refine (whole_any A M c (sz k) (sz_or k) hN _).mono ?_; rintro e w1 ⟨rfl, rfl⟩; rw [hHM])
    | (go_at_call 48; refine HE.out.mono ?_; rintro e w1 ⟨hK, v, rfl, ho, -⟩))
  go_ret2
  exact ⟨v, rfl, own_base ho (by omega), hB1.trans ((hK.below (B := w.heap.size) (by simp) (by omega)))⟩
/-- the box of the block ahead -/
def AhAt (B gA n : Nat) (s : Nat → Nat) (W : World) : Prop :=
  ∃ ad c, Blk W gA 22 #[.slice (some ad) n c] ∧ (∀ i, i < n → s i < 256) ∧ ((ad.block < B ∧ ad.block ≠ gA ∧ ∀ i, i < n → W.cell? (ad.add i) = some (.int .u8 ((s i : Nat) : Int))) ∨ (∃ g t, ad = ⟨g, 0, none⟩ ∧ (t = 37 ∨ t = 132) ∧ Blk W g t (row n (b8 s))))
theorem AhAt.keep {B gA n : Nat} {s : Nat → Nat} {W W' : World} (h : AhAt B gA n s W) (hg : gA < B) (hB : Below B W W') (ha : ∀ g t cs, Blk W g t cs → (t = 37 ∨ t = 132) → Blk W' g t cs) : AhAt B gA n s W' := by
  obtain ⟨ad, c, h1, h2, ⟨h3, h4, h5⟩ | ⟨g, t, rfl, h3, h4⟩⟩ := h
  · exact ⟨ad, c, h1.below hB hg, h2, .inl ⟨h3, h4, fun i hi => (hB.cell (p := ad.add i) (by rw [add_block]; exact h3)).trans (h5 i hi)⟩⟩
  · exact ⟨_, c, h1.below hB hg, h2, .inr ⟨g, t, rfl, h3, ha _ _ _ h4 h3⟩⟩
theorem AhAt.reads {B gA n : Nat} {s : Nat → Nat} {W : World} (h : AhAt B gA n s W) (hB : B ≤ W.heap.size) : ∃ ad c, Blk W gA 22 #[.slice (some ad) n c] ∧ (∀ i, i < n → s i < 256) ∧ Reads W W.heap.size (some ad) n s := by
  obtain ⟨ad, c, h1, h2, ⟨h3, h4, h5⟩ | ⟨g, t, rfl, h3, h4⟩⟩ := h
  · exact ⟨ad, c, h1, h2, fun _ => ⟨ad, rfl, by omega, h5⟩⟩
  · exact ⟨_, c, h1, h2, h4.reads⟩
theorem tyOf_or (k : Nat) : tyOf k = 37 ∨ tyOf k = 132 := by unfold tyOf; split <;> simp
theorem xr_by {n : Nat} {f g : Nat → Nat} (hf : ∀ i, i < n → f i < 256) (hg : ∀ i, i < n → g i < 256) : ∀ i, i < n → xr f g i < 256 := fun i hi => xr_lt (hf i hi) (hg i hi)
set_option maxRecDepth 100000 in
set_option maxHeartbeats 1000000 in
theorem ch_any (W : World) (p : Pl) (k gc base L : Nat) (key : Nat → Nat) (ad : Addr) (c kc gA B : Nat) (s y : Nat → Nat) (hk3 : k ≠ 3) (h : CiAt W p k gc base L key) (hkc : Blk W kc 29 #[.pointer (some ⟨gc, 0, none⟩)]) (hA : AhAt B gA (sz k) s W) (hB : B ≤ W.heap.size) (had : ad.block < W.heap.size) (hc : ∀ i, i < sz k → W.cell? (ad.add i) = some (.int .u8 ((y i : Nat) : Int))) (hy : ∀ i, i < sz k → y i < 256) :
    Calls Tryz.prog 72 #[.slice (some ad) (sz k) c, .pointer (some ⟨gA, 0, none⟩), .pointer (some ⟨kc, 0, none⟩)] W fun e w' => KeptS [gA] W w' ∧ AhAt B gA (sz k) (tc k L key false (xr y s)) w' ∧ ∃ g, e = .returned (.tuple #[.slice (some ⟨g, 0, none⟩) (sz k) (sz k), .nilIface]) ∧ Blk w' g (tyOf k) (row (sz k) (b8 (tc k L key false (xr y s)))) := by
  obtain ⟨ad0, c0, hb0, hs, hR0⟩ := hA.reads hB
  have hszk : sz k ≤ 100000 := by rcases sz_or k with h | h <;> omega
  have HX := hid (xor_any (some ad) (some ad0) (sz k) c c0 y s W hszk hy hs (fun _ => ⟨ad, rfl, had, hc⟩) hR0)
  have hc1 : W.cell? ⟨gA, 0, none⟩ = some (.slice (some ad0) (sz k) c0) := hb0.cell 0
  have HI := hid h
  have Hk := hid hkc
  have hbt := tc_lt (bk := false) hk3 (CiAt.fits h) h.1 (xr_by hy hs)
  have HY := hid (xr_by hy hs)
  clear h hkc hA hR0 hc hy hs
  go_enter Tryz.func72, Tryz.ntmps72
  go_wp2_with (first
    | (go_at_call 26; refine HX.out.mono ?_; rintro e w1 ⟨rfl, hx1, hB1⟩; have hk1 := (Hk.out.below hB1 Hk.out.lt).cell 0; have hs1 := hB1.size; have hk1 : w1.cell? ⟨kc, 0, none⟩ = some (.pointer (some ⟨gc, 0, none⟩)) := hk1; have HD := hid (do12 w1 p k gc base L key ⟨W.heap.size, 0, none⟩ (sz k) false (xr y s) hk3 (HI.out.keep hB1) hx1.lt (fun i hi => by rw [add_zero_off]; exact hx1.val i hi) HY.out))
    | (go_at_call 13; refine HD.out.mono ?_; rintro e w2 ⟨g, rfl, hbg, hgs, hB2⟩; have hbA := (hb0.below hB1 hb0.lt).below hB2 (by have := hb0.lt; omega); have hcA : w2.cell? ⟨gA, 0, none⟩ = some (.slice (some ad0) (sz k) c0) := hbA.cell 0; have hfA := hbA.free 0; have hbA2 : Blk (w2.setCell ⟨gA, 0, none⟩ (.slice (some ⟨g, 0, none⟩) (sz k) (sz k))) gA 22 #[.slice (some ⟨g, 0, none⟩) (sz k) (sz k)] := hbA.setCell 0 _; have hcA2 : (w2.setCell ⟨gA, 0, none⟩ (.slice (some ⟨g, 0, none⟩) (sz k) (sz k))).cell? ⟨gA, 0, none⟩ = some (.slice (some ⟨g, 0, none⟩) (sz k) (sz k)) := hbA2.cell 0))
  go_ret2
  have hgA := hb0.lt
  have hbg2 := hbg.other ⟨gA, 0, none⟩ (.slice (some ⟨g, 0, none⟩) (sz k) (sz k)) (by show g ≠ gA; omega)
  refine ⟨(KeptS.trans (KeptS.of _ hB1) (KeptS.of _ hB2)).trans ⟨rfl, rfl, rfl, (grownBy_setCell' w2 gA _).size, fun q hq hn => (grownBy_setCell' w2 gA _).block q hq (fun e => hn (by cases e; simp))⟩, ?_, g, rfl, hbg2⟩
  exact ⟨_, _, hbA2, hbt, .inr ⟨g, _, rfl, tyOf_or k, hbg2⟩⟩
set_option maxRecDepth 100000 in
set_option maxHeartbeats 1000000 in
theorem un_any (W : World) (p : Pl) (k gc base L : Nat) (key : Nat → Nat) (ad : Addr) (c kc gA B : Nat) (s y : Nat → Nat) (hk3 : k ≠ 3) (h : CiAt W p k gc base L key) (hkc : Blk W kc 29 #[.pointer (some ⟨gc, 0, none⟩)]) (hA : AhAt B gA (sz k) s W) (hB : B ≤ W.heap.size) (had : ad.block < B) (hadA : ad.block ≠ gA) (hc : ∀ i, i < sz k → W.cell? (ad.add i) = some (.int .u8 ((y i : Nat) : Int))) (hy : ∀ i, i < sz k → y i < 256) :
    Calls Tryz.prog 71 #[.slice (some ad) (sz k) c, .pointer (some ⟨kc, 0, none⟩), .pointer (some ⟨gA, 0, none⟩)] W fun e w' => KeptS [gA] W w' ∧ AhAt B gA (sz k) y w' ∧ ∃ g, e = .returned (.tuple #[.slice (some ⟨g, 0, none⟩) (sz k) (sz k), .nilIface]) ∧ Blk w' g 5 (row (sz k) (b8 (xr (tc k L key true y) s))) := by
  obtain ⟨ad0, c0, hb0, hs, hR0⟩ := hA.reads hB
  have hszk : sz k ≤ 100000 := by rcases sz_or k with h | h <;> omega
  have HD := hid (do12 W p k gc base L key ad c true y hk3 h (by omega) hc hy)
  have hk1 : W.cell? ⟨kc, 0, none⟩ = some (.pointer (some ⟨gc, 0, none⟩)) := hkc.cell 0
  have hbt := tc_lt (bk := true) hk3 (CiAt.fits h) h.1 hy
  have Hc := hid hc
  have Hy := hid hy
  have HR := hid hR0
  clear h hkc hA hR0 hc hy
  go_enter Tryz.func71, Tryz.ntmps71
  go_wp2_with (first
    | (go_at_call 13; refine HD.out.mono ?_; rintro e w1 ⟨g, rfl, hbg, hgs, hB1⟩; have hb1 := hb0.below hB1 hb0.lt; have hs1 := hB1.size; have hc1 : w1.cell? ⟨gA, 0, none⟩ = some (.slice (some ad0) (sz k) c0) := hb1.cell 0; have HX := hid (xor_any (some ⟨g, 0, none⟩) (some ad0) (sz k) (sz k) c0 (tc k L key true y) s w1 hszk hbt hs hbg.reads ((HR.out.below hB1).more hs1)))
    | (go_at_call 26; refine HX.out.mono ?_; rintro e w2 ⟨rfl, hx2, hB2⟩; have hbA := hb1.below hB2 hb1.lt; have hcA : w2.cell? ⟨gA, 0, none⟩ = some (.slice (some ad0) (sz k) c0) := hbA.cell 0; have hfA := hbA.free 0))
  go_ret2
  have hgA := hb0.lt
  have hbA2 : Blk (w2.setCell ⟨gA, 0, none⟩ (.slice (some ad) (sz k) c)) gA 22 #[.slice (some ad) (sz k) c] := hbA.setCell 0 _
  have hx3 := hx2.other ⟨gA, 0, none⟩ (.slice (some ad) (sz k) c) (by show w1.heap.size ≠ gA; omega)
  refine ⟨(KeptS.trans (KeptS.of _ hB1) (KeptS.of _ hB2)).trans ⟨rfl, rfl, rfl, (grownBy_setCell' w2 gA _).size, fun q hq hn => (grownBy_setCell' w2 gA _).block q hq (fun e => hn (by cases e; simp))⟩, ?_, _, rfl, hx3⟩
  refine ⟨_, _, hbA2, Hy.out, .inl ⟨had, hadA, fun i hi => ?_⟩⟩
  have e1 : (w2.setCell ⟨gA, 0, none⟩ (.slice (some ad) (sz k) c)).cell? (ad.add i) = w2.cell? (ad.add i) := by
    unfold World.cell?
    rw [(grownBy_setCell' w2 gA _).block (ad.add i).block (by rw [add_block]; have := hB2.size; omega) (by rw [add_block]; intro e; cases e; exact hadA rfl)]
  rw [e1, hB2.cell (p := ad.add i) (by rw [add_block]; omega), hB1.cell (p := ad.add i) (by rw [add_block]; omega)]
  exact Hc.out i hi
set_option maxRecDepth 100000 in
theorem chain_mk (gc : Option Addr) (A : Option Addr) (n c : Nat) (w : World) :
    Calls Tryz.prog 51 #[.pointer gc, .slice A n c] w fun e w' => e = .returned (.func (.func 72) #[] #[.pointer (some ⟨w.heap.size + 1, 0, none⟩), .pointer (some ⟨w.heap.size, 0, none⟩)]) ∧ w' = (w.alloc (.cells #[.pointer gc] 29)).alloc (.cells #[.slice A n c] 22) := by
  go_enter Tryz.func51, Tryz.ntmps51
  go_wp2_with fail
  go_ret
  exact ⟨rfl, rfl⟩
set_option maxRecDepth 100000 in
theorem unchain_mk (gc : Option Addr) (A : Option Addr) (n c : Nat) (w : World) :
    Calls Tryz.prog 50 #[.pointer gc, .slice A n c] w fun e w' => e = .returned (.func (.func 71) #[] #[.pointer (some ⟨w.heap.size, 0, none⟩), .pointer (some ⟨w.heap.size + 1, 0, none⟩)]) ∧ w' = (w.alloc (.cells #[.pointer gc] 29)).alloc (.cells #[.slice A n c] 22) := by
  go_enter Tryz.func50, Tryz.ntmps50
  go_wp2_with fail
  go_ret
  exact ⟨rfl, rfl⟩
end Go.Proofs.YtmmgimpokpgnaaaGreatDoor.Md
