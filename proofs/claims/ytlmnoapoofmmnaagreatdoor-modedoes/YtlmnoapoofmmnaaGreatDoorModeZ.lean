/-
 Mode9 Mode11 Mode12 Mode13
-/
import Derived.Test.YtlmnoapoofmmnaaGreatDoorModeY
import Derived.Test.YtlmnoapoofmmnaaGreatDoorModeX
import Derived.Test.YtlmnoapoofmmnaaGreatDoorRef06b
import Derived.Test.YtlmnoapoofmmnaaGreatDoorRefLocDo
import Derived.Test.YtlmnoapoofmmnaaGreatDoorRefHX
namespace Go.Proofs.YtlmnoapoofmmnaaGreatDoor.Md
open Mem Bk Go.ChangeShapes Go.WideShapes Go.ChangeAt Go.RowKit
set_option maxRecDepth 100000 in
set_option maxHeartbeats 1000000 in
theorem un_bad (W : World) (p : Pl) (d : Nat) (R : List Rw) (k gc base L : Nat) (key : Nat → Nat) (ad : Addr) (c kc gA : Nat) (y : Nat → Nat) (h : CiAt W p k gc base L key) (hb : BookAt W p d R) (hkc : Blk W kc 25 #[.pointer (some ⟨gc, 0, none⟩)]) (had : ad.block < W.heap.size) (hadS : ad.block ∉ p.S) (hc : ∀ i, i < sz k → W.cell? (ad.add i) = some (.int .u8 ((y i : Nat) : Int))) (hy : ∀ i, i < sz k → y i < 256)
  (R' : List Rw) (d' : Nat) (ht : turnC k L key p R d true y = (none, R', d')) :
  Calls Tryz.prog 46 #[.slice (some ad) (sz k) c, .pointer (some ⟨kc, 0, none⟩), .pointer (some ⟨gA, 0, none⟩)] W fun e w' => KeptS p.S W w' ∧ BookAt w' p d' R' ∧ ∃ j xv, e = .returned (.tuple #[.slice none 0 0, .iface 66 (.pointer (some ⟨j, 0, none⟩))]) ∧ Blk w' j 69 #[xv, .iface 56 (.int .i64 13)] := by
 have HD := hid (do_any W p d R k gc base L key ad c true y h hb had hadS hc hy _ R' d' ht)
 have hk1 : W.cell? ⟨kc, 0, none⟩ = some (.pointer (some ⟨gc, 0, none⟩)) := hkc.cell 0
 clear h hb hkc hc hy ht
 go_enter Tryz.func46, Tryz.ntmps46
 go_wp2_with (go_at_call 26; refine HD.out.mono ?_; rintro e w1 ⟨hK, hBk, ⟨_, _, h0, -⟩ | ⟨j, xx, -, rfl, hj, hgs⟩⟩; exact absurd h0 (by simp))
 go_ret2
 exact ⟨hK, hBk, j, xx, rfl, hj⟩
set_option maxRecDepth 100000 in
set_option maxHeartbeats 1000000 in
theorem un_ok (W : World) (p : Pl) (d : Nat) (R : List Rw) (k gc base L : Nat) (key : Nat → Nat) (ad : Addr) (c kc gA B : Nat) (s y z : Nat → Nat) (h : CiAt W p k gc base L key) (hb : BookAt W p d R) (hkc : Blk W kc 25 #[.pointer (some ⟨gc, 0, none⟩)]) (hA : AhAt B gA (sz k) s W) (hB : B ≤ W.heap.size) (had : ad.block < B) (_ : ad.block ≠ gA) (hadS : ad.block ∉ p.S) (hAR : ∀ w', KeptS p.S W w' → AhAt B gA (sz k) s w') (hc : ∀ i, i < sz k → W.cell? (ad.add i) = some (.int .u8 ((y i : Nat) : Int))) (hy : ∀ i, i < sz k → y i < 256)
  (R' : List Rw) (d' : Nat) (ht : turnC k L key p R d true y = (some z, R', d')) (hz : ∀ i, i < sz k → z i < 256) :
  Calls Tryz.prog 46 #[.slice (some ad) (sz k) c, .pointer (some ⟨kc, 0, none⟩), .pointer (some ⟨gA, 0, none⟩)] W fun e w' => KeptS (gA :: p.S) W w' ∧ BookAt w' p d' R' ∧ Blk w' gA 22 #[.slice (some ad) (sz k) c] ∧ ∃ g, e = .returned (.tuple #[.slice (some ⟨g, 0, none⟩) (sz k) (sz k), .nilIface]) ∧ Blk w' g 5 (row (sz k) (b8 (xr z s))) := by
 have hgA : gA < W.heap.size := by obtain ⟨_, _, hb0, -⟩ := hA; exact hb0.lt
 have hszk : sz k ≤ 100000 := by rcases sz_or k with h | h <;> omega
 have HD := hid (do_any W p d R k gc base L key ad c true y h hb (by omega) hadS hc hy _ R' d' ht)
 have hk1 : W.cell? ⟨kc, 0, none⟩ = some (.pointer (some ⟨gc, 0, none⟩)) := hkc.cell 0
 have Hc := hid hc
 have Hy := hid hy
 have HR := hid hAR
 have HS := hid hadS
 clear h hb hkc hA hc hy ht hAR hadS
 go_enter Tryz.func46, Tryz.ntmps46
 go_wp2_with (first
  | (go_at_call 26; refine HD.out.mono ?_; rintro e w1 ⟨hK, hBk, ⟨z', g, h0, rfl, hbg, hgs⟩ | ⟨_, _, h0, -⟩⟩; rotate_left; (exact absurd h0 (by simp)); cases h0; have hs1 := hK.size; obtain ⟨ad0, c0, hb1, hs, hR1⟩ := (HR.out w1 hK).reads (by omega); have hc1 : w1.cell? ⟨gA, 0, none⟩ = some (.slice (some ad0) (sz k) c0) := hb1.cell 0; have HX := hid (xor_any (some ⟨g, 0, none⟩) (some ad0) (sz k) (sz k) c0 z s w1 hszk hz hs hbg.reads hR1))
  | (go_at_call 47; refine HX.out.mono ?_; rintro e w2 ⟨rfl, hx2, hB2⟩; have hbA := hb1.below hB2 hb1.lt; have hcA : w2.cell? ⟨gA, 0, none⟩ = some (.slice (some ad0) (sz k) c0) := hbA.cell 0; have hfA := hbA.free 0))
 go_ret2
 have hbA2 : Blk (w2.setCell ⟨gA, 0, none⟩ (.slice (some ad) (sz k) c)) gA 22 #[.slice (some ad) (sz k) c] := hbA.setCell 0 _
 have hx3 := hx2.other ⟨gA, 0, none⟩ (.slice (some ad) (sz k) c) (by show w1.heap.size ≠ gA; omega)
 have hK3 : KeptS [gA] w2 (w2.setCell ⟨gA, 0, none⟩ (.slice (some ad) (sz k) c)) := ⟨rfl, rfl, rfl, (grownBy_setCell' w2 gA _).size, fun q hq hn => (grownBy_setCell' w2 gA _).block q hq (fun e => hn (by cases e; simp))⟩
 have hBk := hBk.keep hB2
 refine ⟨((hK.more (by simp +contextual)).trans (KeptS.of _ hB2)).trans (hK3.more (by simp)), ?_, ?_, _, rfl, hx3⟩
 ·exact ⟨hK3.blk hBk.book (by simpa using (hbA.ne hBk.book (by decide))), hK3.blk hBk.tape (by simpa using (hbA.ne hBk.tape (by decide))), hK3.own hBk.own (fun g cs hg => by simpa using (hbA.ne hg (by decide))), fun bk => hK3.map (hBk.maps bk) (by simpa using (hBk.maps bk).ne_blk hbA), hBk.ne, hBk.inv, hBk.lo⟩
 exact hbA2
end Go.Proofs.YtlmnoapoofmmnaaGreatDoor.Md
namespace Go.Proofs.YtlmnoapoofmmnaaGreatDoor.Md
open Mem Bk Go.ChangeShapes Go.WideShapes Go.ChangeAt Go.RowKit
def stOB (k L : Nat) (key : Nat → Nat) (p : Pl) : (List Rw × Nat) × (Nat → Nat) → (Nat → Nat) → Option (Nat → Nat) × ((List Rw × Nat) × (Nat → Nat)) := fun s y =>
 match turnC k L key p s.1.1 s.1.2 true y with
 | (some z, R', d') => (some (xr z s.2), ((R', d'), y))
 | (none, R', d') => (none, ((R', d'), s.2))
def AhB (p : Pl) (B gA n : Nat) (s : Nat → Nat) (W : World) : Prop :=
 ∃ ad c, Blk W gA 22 #[.slice (some ad) n c] ∧ (∀ i, i < n → s i < 256) ∧ ad.block < B ∧ ad.block ≠ gA ∧ ad.block ∉ p.S ∧ ∀ i, i < n → W.cell? (ad.add i) = some (.int .u8 ((s i : Nat) : Int))
theorem AhB.at_ {p : Pl} {B gA n : Nat} {s : Nat → Nat} {W : World} (h : AhB p B gA n s W) : AhAt B gA n s W := by
 obtain ⟨ad, c, h1, h2, h3, h4, _, h5⟩ := h
 exact ⟨ad, c, h1, h2, .inl ⟨h3, h4, h5⟩⟩
theorem AhB.keep {p : Pl} {B gA n : Nat} {s : Nat → Nat} {W W' : World} (h : AhB p B gA n s W) (hg : gA < B) (hB : Below B W W') : AhB p B gA n s W' := by
 obtain ⟨ad, c, h1, h2, h3, h4, h6, h5⟩ := h
 exact ⟨ad, c, h1.below hB hg, h2, h3, h4, h6, fun i hi => (hB.cell (p := ad.add i) (by rw [add_block]; exact h3)).trans (h5 i hi)⟩
theorem AhB.kept {p : Pl} {B gA n : Nat} {s : Nat → Nat} {W W' : World} (h : AhB p B gA n s W) (hK : KeptS p.S W W') (hg : gA ∉ p.S) (hB : B ≤ W.heap.size) : AhB p B gA n s W' := by
 obtain ⟨ad, c, h1, h2, h3, h4, h6, h5⟩ := h
 refine ⟨ad, c, hK.blk h1 hg, h2, h3, h4, h6, fun i hi => ?_⟩
 have e1 : W'.cell? (ad.add i) = W.cell? (ad.add i) := by
  unfold World.cell?
  rw [hK.block (ad.add i).block (by rw [add_block]; omega) (by rw [add_block]; exact h6)]
 rw [e1]
 exact h5 i hi
set_option maxRecDepth 100000 in
set_option maxHeartbeats 1000000 in
theorem chained_back (w : World) (p : Pl) (d : Nat) (R : List Rw) (k gc base L : Nat) (key : Nat → Nat) (ads : Addr) (cs : Nat) (s : Nat → Nat) (A : Option Addr) (N M c : Nat) (x : Nat → Nat) (h : CiAt w p k gc base L key) (hb : BookAt w p d R) (hM : M = N * sz k) (hN : M ≤ 100000) (hc : M ≤ c) (hA : A = none → M = 0) (hAS : ∀ ad, A = some ad → 0 < M → ad.block ∉ p.S) (hx : ∀ i, i < M → x i < 256) (hR : Reads w w.heap.size A M x)
  (has : ads.block < w.heap.size) (hsc : ∀ i, i < sz k → w.cell? (ads.add i) = some (.int .u8 ((s i : Nat) : Int))) (hs : ∀ i, i < sz k → s i < 256) (hsS : ads.block ∉ p.S) :
  Calls Tryz.prog 9 #[.pointer (some ⟨gc, 0, none⟩), .slice (some ads) (sz k) cs, .slice A M c, .bool true] w (ChainOut p (stOB k L key p) (sz k) N x ((R, d), s) w) := by
 have hfit := Md.CiAt.fits h
 have hkey := h.1
 have hB1 : Below w.heap.size w ((w.alloc (.cells #[.pointer (some ⟨gc, 0, none⟩)] 25)).alloc (.cells #[.slice (some ads) (sz k) cs] 22)) := ((Below.refl _ w).alloc (Nat.le_refl _) _).alloc (by simp) _
 have hkc : Blk ((w.alloc (.cells #[.pointer (some ⟨gc, 0, none⟩)] 25)).alloc (.cells #[.slice (some ads) (sz k) cs] 22)) w.heap.size 25 #[.pointer (some ⟨gc, 0, none⟩)] := (Blk.fresh _ _ _).alloc _
 have hkb : Blk ((w.alloc (.cells #[.pointer (some ⟨gc, 0, none⟩)] 25)).alloc (.cells #[.slice (some ads) (sz k) cs] 22)) (w.heap.size + 1) 22 #[.slice (some ads) (sz k) cs] := blk_fresh (by simp) _ _
 have hs1 : ((w.alloc (.cells #[.pointer (some ⟨gc, 0, none⟩)] 25)).alloc (.cells #[.slice (some ads) (sz k) cs] 22)).heap.size = w.heap.size + 2 := by simp
 have hAh : AhB p (w.heap.size + 2) (w.heap.size + 1) (sz k) s ((w.alloc (.cells #[.pointer (some ⟨gc, 0, none⟩)] 25)).alloc (.cells #[.slice (some ads) (sz k) cs] 22)) :=
  ⟨ads, cs, hkb, hs, by omega, by omega, hsS, fun i hi => (hB1.cell (p := ads.add i) (by rw [add_block]; exact has)).trans (hsc i hi)⟩
 have hSw : ∀ g ∈ p.S, g < w.heap.size := fun g hg => by
  simp only [Pl.S, List.mem_cons, List.not_mem_nil, or_false] at hg
  rcases hg with rfl | rfl | rfl
  ·exact hb.tape.lt
  ·exact (hb.maps false).lt
  exact (hb.maps true).lt
 have hnS : ∀ g, w.heap.size ≤ g → g ∉ p.S := fun g hg hm => by have := hSw g hm; omega
 have hAS2 : ∀ ad, A = some ad → 0 < M → ad.block ∉ (w.heap.size + 1) :: p.S := fun ad e h0 => by
  obtain ⟨ad', e', hb', -⟩ := hR h0
  rw [e] at e'
  cases e'
  simp only [List.mem_cons, not_or]
  exact ⟨by omega, hAS ad e h0⟩
 have HE := hid (each_opt (fun (s : (List Rw × Nat) × (Nat → Nat)) W => BookAt W p s.1.2 s.1.1 ∧ KeptS p.S w W ∧ Blk W w.heap.size 25 #[.pointer (some ⟨gc, 0, none⟩)] ∧ AhB p (w.heap.size + 2) (w.heap.size + 1) (sz k) s.2 W) (fun (s : (List Rw × Nat) × (Nat → Nat)) W => BookAt W p s.1.2 s.1.1 ∧ KeptS p.S w W) (stOB k L key p) ((w.heap.size + 1) :: p.S) 46 #[.pointer (some ⟨w.heap.size, 0, none⟩), .pointer (some ⟨w.heap.size + 1, 0, none⟩)] (sz k) N M c A x ((R, d), s) ((w.alloc (.cells #[.pointer (some ⟨gc, 0, none⟩)] 25)).alloc (.cells #[.slice (some ads) (sz k) cs] 22))
  (sz_or k) hM hN hc hA hx ((hR.below hB1).more (by omega)) hAS2 (fun g hg => by rw [hs1]; simp only [List.mem_cons] at hg; rcases hg with rfl | hg; omega; have := hSw g hg; omega)
  (fun _ W W' hW hB ha => by rw [hs1] at hB; exact ⟨book_below hb hW.1 hW.2.1 (hB.mono (by omega)), kept_below hW.2.1 (hB.mono (by omega)), hW.2.2.1.below hB (by omega), hW.2.2.2.keep (by omega) hB⟩)
  (fun _ W W' hW hB _ => by rw [hs1] at hB; exact ⟨book_below hb hW.1 hW.2 (hB.mono (by omega)), kept_below hW.2 (hB.mono (by omega))⟩) ⟨hb.keep hB1, KeptS.of _ hB1, hkc, hAh⟩ (enters_of Tryz.func46 (by kernel_rfl) rfl)
  (fun s W ad y hW hws had hadS hcl hy => by
   rw [hs1] at hws had
   rw [show #[Value.slice (some ad) (sz k) (sz k)] ++ #[.pointer (some ⟨w.heap.size, 0, none⟩), .pointer (some ⟨w.heap.size + 1, 0, none⟩)] = #[.slice (some ad) (sz k) (sz k), .pointer (some ⟨w.heap.size, 0, none⟩), .pointer (some ⟨w.heap.size + 1, 0, none⟩)] by simp]
   rcases ht : turnC k L key p s.1.1 s.1.2 true y with ⟨o, R', d'⟩
   have hti := turn_inv hfit hkey hW.1.inv hy ht
   have hnA : w.heap.size + 1 ∉ p.S := hnS _ (by omega)
   have hCi := h.keepS hb hW.2.1
   have hadS2 : ad.block ∉ p.S := fun hm => hadS (List.mem_cons_of_mem _ hm)
   have hadA : ad.block ≠ w.heap.size + 1 := fun e => hadS (by rw [e]; exact List.mem_cons_self)
   have hAA := hW.2.2.2.at_
   have hAR : ∀ w', KeptS p.S W w' → AhAt (w.heap.size + 2) (w.heap.size + 1) (sz k) s.2 w' := fun w' hK => (hW.2.2.2.kept hK hnA (by omega)).at_
   obtain ⟨_, _, _, hsb, _⟩ := hW.2.2.2
   cases o with
   | none =>
    refine (un_bad W p s.1.2 s.1.1 k gc base L key ad (sz k) w.heap.size (w.heap.size + 1) y hCi hW.1 hW.2.2.1 (by omega) hadS2 hcl hy R' d' ht).mono ?_
    rintro e W' ⟨hK, hB, j, xv, rfl, hj⟩
    have hst : stOB k L key p s y = (none, ((R', d'), s.2)) := by unfold stOB; rw [ht]
    have hK2 : KeptS ((w.heap.size + 1) :: p.S) W W' := hK.more (by simp +contextual)
    refine ⟨hK2, .inr ⟨j, xv, by rw [hst], rfl, hj, ?_⟩⟩
    rw [hst]
    exact ⟨hB, kept_new hW.2.1 hK2 (by omega)⟩
   | some z =>
    refine (un_ok W p s.1.2 s.1.1 k gc base L key ad (sz k) w.heap.size (w.heap.size + 1) (w.heap.size + 2) s.2 y z hCi hW.1 hW.2.2.1 hAA (by omega) (by omega) hadA hadS2 hAR hcl hy R' d' ht (hti.2.1 z rfl)).mono ?_
    rintro e W' ⟨hK, hB, hA', g, rfl, hbg⟩
    have hst : stOB k L key p s y = (some (xr z s.2), ((R', d'), y)) := by unfold stOB; rw [ht]
    refine ⟨hK, .inl ⟨xr z s.2, g, _, by rw [hst], rfl, hbg, ?_⟩⟩
    rw [hst]
    refine ⟨hB, kept_new hW.2.1 hK (by omega), hK.blk hW.2.2.1 (by simp only [List.mem_cons, not_or]; exact ⟨by omega, hnS _ (Nat.le_refl _)⟩), ⟨_, _, hA', hy, by omega, hadA, hadS2, fun i hi => ?_⟩⟩
    have e1 : W'.cell? (ad.add i) = W.cell? (ad.add i) := by
     unfold World.cell?
     rw [hK.block (ad.add i).block (by rw [add_block]; omega) (by rw [add_block]; exact hadS)]
    rw [e1]
    exact hcl i hi))
 have HC := hid h
 have HM : M % sz k = 0 := by rw [hM]; exact Nat.mul_mod_left _ _
 have hHM : decide (M % sz k = 0) = true := decide_eq_true HM
 have HMN := hid hM
 clear h hb hM hx hR hkc hkb HM hAh hSw hnS hAS hAS2 hsc hs hfit hkey
 go_enter Tryz.func9, Tryz.ntmps9
 go_wp2_with (first
  | (go_at_call 22; refine (sizeOf_any _ p k gc base L key HC.out).mono ?_; rintro e w1 ⟨rfl, rfl⟩)
  | (go_at_call 23; refine (whole_any A M c (sz k) (sz_or k) hN _).mono ?_; rintro e w1 ⟨rfl, rfl⟩; rw [hHM])
  | (go_at_call 27; refine (unchain_mk _ _ _ _ _).mono ?_; rintro e w1 ⟨rfl, rfl⟩)
  | (go_at_call 24; refine HE.out.mono ?_; rintro e w1 ⟨hK, hO⟩; obtain ⟨v1, v2, rfl⟩ : ∃ v1 v2, e = .returned (.tuple #[v1, v2]) := (by rcases hO with ⟨_, _, -, rfl, -⟩ | ⟨_, _, _, _, _, -, -, -, rfl, -⟩ <;> exact ⟨_, _, rfl⟩)))
 go_ret2
 refine ⟨kept_new (KeptS.of _ hB1) hK (by omega), ?_⟩
 rcases hO with ⟨r, v, h1, h2, h3, h4⟩ | ⟨K, r, f, g, xv, h0, h1, h2, h3, h4, h5, h6⟩
 ·exact .inl ⟨r, v, h1, h2, by rw [← HMN.out]; exact own_base h3 (by omega), h4.1⟩
 exact .inr ⟨K, r, f, g, xv, h0, h1, h2, h3, h4, h5, h6.1⟩
end Go.Proofs.YtlmnoapoofmmnaaGreatDoor.Md
namespace Go.Proofs.YtlmnoapoofmmnaaGreatDoor.Md
open Mem Bk Go.ChangeShapes Go.WideShapes Go.ChangeAt Go.RowKit
set_option maxRecDepth 100000 in
theorem chained_arg (w : World) (p : Pl) (k gc base L : Nat) (key : Nat → Nat) (As : Option Addr) (ns cs : Nat) (A : Option Addr) (M c : Nat) (bk : Bool) (h : CiAt w p k gc base L key) (hns : ns ≠ sz k) :
  Calls Tryz.prog 9 #[.pointer (some ⟨gc, 0, none⟩), .slice As ns cs, .slice A M c, .bool bk] w fun e w' => e = .returned (.tuple #[.slice none 0 0, .iface 56 (.int .i64 1)]) ∧ Below w.heap.size w w' := by
 have HC := hid h
 have hI : ¬ (ns : Int) = (sz k : Int) := by omega
 clear h
 go_enter Tryz.func9, Tryz.ntmps9
 go_wp2_with (go_at_call 22; refine (sizeOf_any _ p k gc base L key HC.out).mono ?_; rintro e w1 ⟨rfl, rfl⟩)
 go_ret2
 exact ⟨rfl, Below.refl _ _⟩
set_option maxRecDepth 100000 in
theorem chained_size (w : World) (p : Pl) (k gc base L : Nat) (key : Nat → Nat) (As : Option Addr) (cs : Nat) (A : Option Addr) (M c : Nat) (bk : Bool) (h : CiAt w p k gc base L key) (hM : M % sz k ≠ 0) (hN : M ≤ 100000) :
  Calls Tryz.prog 9 #[.pointer (some ⟨gc, 0, none⟩), .slice As (sz k) cs, .slice A M c, .bool bk] w fun e w' => e = .returned (.tuple #[.slice none 0 0, .iface 56 (.int .i64 2)]) ∧ Below w.heap.size w w' := by
 have HC := hid h
 have hHM : decide (M % sz k = 0) = false := decide_eq_false hM
 clear h hM
 go_enter Tryz.func9, Tryz.ntmps9
 go_wp2_with (first
  | (go_at_call 22; refine (sizeOf_any _ p k gc base L key HC.out).mono ?_; rintro e w1 ⟨rfl, rfl⟩)
  | (go_at_call 23; refine (whole_any A M c (sz k) (sz_or k) hN _).mono ?_; rintro e w1 ⟨rfl, rfl⟩; rw [hHM]))
 go_ret2
 exact ⟨rfl, Below.refl _ _⟩
end Go.Proofs.YtlmnoapoofmmnaaGreatDoor.Md
namespace Go.Proofs.YtlmnoapoofmmnaaGreatDoor.Mr
open Mem Bk Md R6 Go.ChangeShapes Go.WideShapes Go.ChangeAt Go.RowKit
section
variable {σ : Type} {st : σ → (Nat → Nat) → Option (Nat → Nat) × σ} {p : Pl} {k Lk : Nat} {key : Nat → Nat} {bk ch : Bool} {x : Nat → Nat} {s0 : σ} {m0 : MS} {Rel : σ → MS → Prop}
def Step (st : σ → (Nat → Nat) → Option (Nat → Nat) × σ) (p : Pl) (k Lk : Nat) (key : Nat → Nat) (bk ch : Bool) (x : Nat → Nat) (Rel : σ → MS → Prop) : Prop :=
 ∀ j s m, Rel s m → (∃ y m', (st s (tb k x j)).1 = some y ∧ mNext p k Lk key bk ch x j m = some m' ∧ Rel (st s (tb k x j)).2 m' ∧ m'.out = cat (j * sz k) m.out y) ∨ ((st s (tb k x j)).1 = none ∧ mNext p k Lk key bk ch x j m = none)
theorem sim (hS : Step st p k Lk key bk ch x Rel) (h0 : Rel s0 m0) (ho : m0.out = fun _ => 0) : ∀ j,
  (∃ r m, runO st (sz k) (tb k x) s0 (List.range j) = some r ∧ mAt p k Lk key bk ch x m0 j = some m ∧ Rel r.1 m ∧ r.2.1 = m.out) ∨ (runO st (sz k) (tb k x) s0 (List.range j) = none ∧ mAt p k Lk key bk ch x m0 j = none)
 | 0 => .inl ⟨_, m0, rfl, rfl, h0, ho.symm⟩
 | j + 1 => by
  rw [List.range_succ, runO_snoc]
  rcases sim hS h0 ho j with ⟨r, m, h1, h2, h3, h4⟩ | ⟨h1, h2⟩
  ·have hl := runO_len st (sz k) (tb k x) s0 j (List.range j) r (by simp) h1
   simp only [mAt, h1, h2, Option.bind_some, nextO]
   rcases hS j r.1 m h3 with ⟨y, m', e1, e2, e3, e4⟩ | ⟨e1, e2⟩
   ·refine .inl ⟨_, m', by rw [e1], e2, e3, ?_⟩
    show cat r.2.2 r.2.1 y = _
    rw [e4, hl, h4]
   exact .inr ⟨by rw [e1], e2⟩
  exact .inr ⟨by rw [h1]; rfl, by simp only [mAt, h2]⟩
def MRes (p : Pl) (k Lk : Nat) (key : Nat → Nat) (bk ch : Bool) (x : Nat → Nat) (N : Nat) (m0 : MS) (o : Option (Nat → Nat)) (K : Nat) : Prop :=
 (∃ m, mAt p k Lk key bk ch x m0 N = some m ∧ o = some m.out) ∨ ∃ m, K < N ∧ mAt p k Lk key bk ch x m0 K = some m ∧ mNext p k Lk key bk ch x K m = none ∧ o = none
theorem mAt_upR {K : Nat} (h : mAt p k Lk key bk ch x m0 K = none) : ∀ N, K ≤ N → mAt p k Lk key bk ch x m0 N = none
 | 0, hN => by
  have : K = 0 := by omega
  subst this
  exact h
 | N + 1, hN => by
  by_cases hj : K = N + 1
  ·exact hj ▸ h
  have := mAt_upR h N (by omega)
  simp only [mAt, this]
theorem MRes.same {N K K' : Nat} {o o' : Option (Nat → Nat)} (h : MRes p k Lk key bk ch x N m0 o K) (h' : MRes p k Lk key bk ch x N m0 o' K') : o = o' ∧ (o = none → K = K') := by
 rcases h with ⟨m, h1, rfl⟩ | ⟨m, h0, h1, h2, rfl⟩ <;> rcases h' with ⟨m', g1, rfl⟩ | ⟨m', g0, g1, g2, rfl⟩
 ·rw [h1] at g1
  cases g1
  exact ⟨rfl, fun h => by cases h⟩
 ·rw [mAt_upR (mAt_end g1 g2) N g0] at h1
  cases h1
 ·rw [mAt_upR (mAt_end h1 h2) N h0] at g1
  cases g1
 refine ⟨rfl, fun _ => ?_⟩
 rcases Nat.lt_trichotomy K K' with h | h | h
 ·rw [mAt_upR (mAt_end h1 h2) K' h] at g1
  cases g1
 ·exact h
 rw [mAt_upR (mAt_end g1 g2) K h] at h1
 cases h1
theorem res_all (hS : Step st p k Lk key bk ch x Rel) (h0 : Rel s0 m0) (ho : m0.out = fun _ => 0) {N : Nat} {r : σ × (Nat → Nat) × Nat} (h : runO st (sz k) (tb k x) s0 (List.range N) = some r) (K : Nat) : MRes p k Lk key bk ch x N m0 (some r.2.1) K := by
 rcases sim hS h0 ho N with ⟨r', m, h1, h2, -, h4⟩ | ⟨h1, -⟩
 ·rw [h] at h1
  cases h1
  exact .inl ⟨m, h2, by rw [h4]⟩
 rw [h] at h1
 cases h1
theorem res_bad (hS : Step st p k Lk key bk ch x Rel) (h0 : Rel s0 m0) (ho : m0.out = fun _ => 0) {N K : Nat} (hK : K < N) {r : σ × (Nat → Nat) × Nat} (h : runO st (sz k) (tb k x) s0 (List.range K) = some r) (hb : (st r.1 (tb k x K)).1 = none) : MRes p k Lk key bk ch x N m0 none K := by
 rcases sim hS h0 ho K with ⟨r', m, h1, h2, h3, -⟩ | ⟨h1, -⟩
 ·rw [h] at h1
  cases h1
  rcases hS K r.1 m h3 with ⟨y, m', e1, -⟩ | ⟨-, e2⟩
  ·rw [hb] at e1
   cases e1
  exact .inr ⟨m, hK, h2, e2, rfl⟩
 rw [h] at h1
 cases h1
end
section
variable {p : Pl} {k Lk : Nat} {key : Nat → Nat} {bk : Bool} {x : Nat → Nat}
theorem step_alone : Step (stO k Lk key p bk) p k Lk key bk false x (fun s m => m.R = s.1 ∧ m.d = s.2) := by
 rintro j ⟨s1, s2⟩ ⟨R, d, l, out⟩ ⟨rfl, rfl⟩
 have ha : ask6 k bk false x j ⟨R, d, l, out⟩ = tb k x j := by unfold ask6; rw [if_neg (by simp)]
 unfold stO mNext
 rw [ha]
 simp only
 rcases turnC k Lk key p R d bk (tb k x j) with ⟨_ | z, R', d'⟩
 ·exact .inr ⟨rfl, rfl⟩
 exact .inl ⟨z, _, rfl, rfl, ⟨rfl, rfl⟩, by simp⟩
theorem step_forth : Step (stOF k Lk key p) p k Lk key false true x (fun s m => m.R = s.1.1 ∧ m.d = s.1.2 ∧ m.last = s.2) := by
 rintro j ⟨⟨s1, s2⟩, s3⟩ ⟨R, d, l, out⟩ ⟨rfl, rfl, rfl⟩
 have ha : ask6 k false true x j ⟨R, d, l, out⟩ = xr (tb k x j) l := by unfold ask6; rw [if_pos ⟨rfl, rfl⟩]
 unfold stOF mNext
 rw [ha]
 simp only
 rcases turnC k Lk key p R d false (xr (tb k x j) l) with ⟨_ | z, R', d'⟩
 ·exact .inr ⟨rfl, rfl⟩
 exact .inl ⟨z, _, rfl, rfl, ⟨rfl, rfl, by simp⟩, by simp⟩
theorem step_back : Step (stOB k Lk key p) p k Lk key true true x (fun s m => m.R = s.1.1 ∧ m.d = s.1.2 ∧ m.last = s.2) := by
 rintro j ⟨⟨s1, s2⟩, s3⟩ ⟨R, d, l, out⟩ ⟨rfl, rfl, rfl⟩
 have ha : ask6 k true true x j ⟨R, d, l, out⟩ = tb k x j := by unfold ask6; rw [if_neg (by simp)]
 unfold stOB mNext
 rw [ha]
 simp only
 rcases turnC k Lk key p R d true (tb k x j) with ⟨_ | z, R', d'⟩
 ·exact .inr ⟨rfl, rfl⟩
 exact .inl ⟨xr z l, _, rfl, rfl, ⟨rfl, rfl, by simp⟩, by simp⟩
end
def Ans (o : Option (Nat → Nat)) (K M : Nat) (W : World) (v1 v2 : Value) : Prop :=
 (∃ y A c, o = some y ∧ v1 = .slice A M c ∧ v2 = .nilIface ∧ M ≤ c ∧ Reads W W.heap.size A M y) ∨
  (∃ f g xv, o = none ∧ v1 = .slice none 0 0 ∧ v2 = .iface 66 (.pointer (some ⟨f, 0, none⟩)) ∧ Blk W f 69 #[.int .i64 (K : Int), .iface 66 (.pointer (some ⟨g, 0, none⟩))] ∧ Blk W g 69 #[xv, .iface 56 (.int .i64 13)])
theorem Ans.below {o : Option (Nat → Nat)} {K M : Nat} {W W' : World} {v1 v2 : Value} (h : Ans o K M W v1 v2) (hB : Below W.heap.size W W') : Ans o K M W' v1 v2 := by
 rcases h with ⟨y, A, c, h1, h2, h3, h4, h5⟩ | ⟨f, g, xv, h1, h2, h3, h4, h5⟩
 ·exact .inl ⟨y, A, c, h1, h2, h3, h4, (h5.below hB).more hB.size⟩
 exact .inr ⟨f, g, xv, h1, h2, h3, h4.below hB h4.lt, h5.below hB h5.lt⟩
theorem Ans.keepS {o : Option (Nat → Nat)} {K M d : Nat} {W W' : World} {v1 v2 : Value} {q : Pl} {R : List Rw} (h : Ans o K M W v1 v2) (hb : BookAt W q d R) (hB : KeptS q.S W W') : Ans o K M W' v1 v2 := by
 rcases h with ⟨y, A, c, h1, h2, h3, h4, h5⟩ | ⟨f, g, xv, h1, h2, h3, h4, h5⟩
 ·exact .inl ⟨y, A, c, h1, h2, h3, h4, hb.reads hB h5⟩
 exact .inr ⟨f, g, xv, h1, h2, h3, hB.blk h4 (hb.free h4 (by decide)), hB.blk h5 (hb.free h5 (by decide))⟩
theorem alone_ans (w : World) (p : Pl) (d : Nat) (R : List Rw) (k gc base L : Nat) (key : Nat → Nat) (A : Option Addr) (N M c : Nat) (bk : Bool) (x s : Nat → Nat) (h : CiAt w p k gc base L key) (hb : BookAt w p d R) (hM : M = N * sz k) (hN : M ≤ 100000) (hc : M ≤ c) (hA : A = none → M = 0) (hAS : ∀ ad, A = some ad → 0 < M → ad.block ∉ p.S) (hx : ∀ i, i < M → x i < 256) (hR : Reads w w.heap.size A M x) :
  Calls Tryz.prog 8 #[.pointer (some ⟨gc, 0, none⟩), .slice A M c, .bool bk] w fun e w' => ∃ o K v1 v2, e = .returned (.tuple #[v1, v2]) ∧ KeptS p.S w w' ∧ MRes p k L key bk false x N ⟨R, d, s, fun _ => 0⟩ o K ∧ Ans o K M w' v1 v2 := by
 refine (alone_all w p d R k gc base L key A N M c bk x h hb hM hN hc hA hAS hx hR).mono ?_
 rintro e w' ⟨hK, ⟨r, v, h1, h2, h3, -⟩ | ⟨K, r, f, g, xv, h0, h1, h2, h3, h4, h5, -⟩⟩
 ·rw [← hM] at h3
  obtain ⟨A', c', rfl, hc', -⟩ := h3.slice'
  exact ⟨_, 0, _, _, h2, hK, res_all step_alone ⟨rfl, rfl⟩ rfl h1 0, .inl ⟨_, _, _, rfl, rfl, rfl, hc', h3.reads⟩⟩
 exact ⟨_, K, _, _, h3, hK, res_bad step_alone ⟨rfl, rfl⟩ rfl h0 h1 h2, .inr ⟨f, g, xv, rfl, rfl, rfl, h4, h5⟩⟩
theorem chained_ans (w : World) (p : Pl) (d : Nat) (R : List Rw) (k gc base L : Nat) (key : Nat → Nat) (ads : Addr) (cs : Nat) (s : Nat → Nat) (A : Option Addr) (N M c : Nat) (bk : Bool) (x : Nat → Nat) (h : CiAt w p k gc base L key) (hb : BookAt w p d R) (hM : M = N * sz k) (hN : M ≤ 100000) (hc : M ≤ c) (hA : A = none → M = 0) (hAS : ∀ ad, A = some ad → 0 < M → ad.block ∉ p.S) (hx : ∀ i, i < M → x i < 256) (hR : Reads w w.heap.size A M x)
  (has : ads.block < w.heap.size) (hsc : ∀ i, i < sz k → w.cell? (ads.add i) = some (.int .u8 ((s i : Nat) : Int))) (hs : ∀ i, i < sz k → s i < 256) (hsS : ads.block ∉ p.S) :
  Calls Tryz.prog 9 #[.pointer (some ⟨gc, 0, none⟩), .slice (some ads) (sz k) cs, .slice A M c, .bool bk] w fun e w' => ∃ o K v1 v2, e = .returned (.tuple #[v1, v2]) ∧ KeptS p.S w w' ∧ MRes p k L key bk true x N ⟨R, d, s, fun _ => 0⟩ o K ∧ Ans o K M w' v1 v2 := by
 cases bk
 ·refine (chained_forth w p d R k gc base L key ads cs s A N M c x h hb hM hN hc hA hAS hx hR has hsc hs).mono ?_
  rintro e w' ⟨hK, ⟨r, v, h1, h2, h3, -⟩ | ⟨K, r, f, g, xv, h0, h1, h2, h3, h4, h5, -⟩⟩
  ·rw [← hM] at h3
   obtain ⟨A', c', rfl, hc', -⟩ := h3.slice'
   exact ⟨_, 0, _, _, h2, hK, res_all step_forth ⟨rfl, rfl, rfl⟩ rfl h1 0, .inl ⟨_, _, _, rfl, rfl, rfl, hc', h3.reads⟩⟩
  exact ⟨_, K, _, _, h3, hK, res_bad step_forth ⟨rfl, rfl, rfl⟩ rfl h0 h1 h2, .inr ⟨f, g, xv, rfl, rfl, rfl, h4, h5⟩⟩
 refine (chained_back w p d R k gc base L key ads cs s A N M c x h hb hM hN hc hA hAS hx hR has hsc hs hsS).mono ?_
 rintro e w' ⟨hK, ⟨r, v, h1, h2, h3, -⟩ | ⟨K, r, f, g, xv, h0, h1, h2, h3, h4, h5, -⟩⟩
 ·rw [← hM] at h3
  obtain ⟨A', c', rfl, hc', -⟩ := h3.slice'
  exact ⟨_, 0, _, _, h2, hK, res_all step_back ⟨rfl, rfl, rfl⟩ rfl h1 0, .inl ⟨_, _, _, rfl, rfl, rfl, hc', h3.reads⟩⟩
 exact ⟨_, K, _, _, h3, hK, res_bad step_back ⟨rfl, rfl, rfl⟩ rfl h0 h1 h2, .inr ⟨f, g, xv, rfl, rfl, rfl, h4, h5⟩⟩
def RAns (o : Option (Nat → Nat)) (K M : Nat) (w : World) (e : Ending) (w' : World) : Prop :=
 Below w.heap.size w w' ∧ ∃ bA bn bc tA tn tc, (∃ y A c, o = some y ∧ M ≤ c ∧ e = .returned (.tuple #[.agg (row 2 (bookC (.slice bA bn bc) (.slice tA tn tc))), .slice A M c, .int .i64 (-1)]) ∧ Reads w' w'.heap.size A M y) ∨
  (o = none ∧ e = .returned (.tuple #[.agg (row 2 (bookC (.slice bA bn bc) (.slice tA tn tc))), .slice none 0 0, .int .i64 (K : Int)]))
theorem rans_of {p : Pl} {k L : Nat} {key : Nat → Nat} {bk ch : Bool} {x : Nat → Nat} {N M : Nat} {m0 : MS} {w w' : World} {e : Ending} (hM : M = N * sz k) (h : RMode p k L key bk ch x N m0 w e w') : ∃ o K, MRes p k L key bk ch x N m0 o K ∧ RAns o K M w e w' := by
 obtain ⟨hB, ⟨m, bv, v, h1, h2, h3, ⟨A1, n1, c1, A2, n2, c2, rfl⟩⟩ | ⟨j, m, bv, h0, h1, h2, h3, ⟨A1, n1, c1, A2, n2, c2, rfl⟩⟩⟩ := h
 ·rw [← hM] at h3
  obtain ⟨A, c, rfl, hc, -⟩ := h3.slice'
  exact ⟨_, 0, .inl ⟨m, h1, rfl⟩, hB, A1, n1, c1, A2, n2, c2, .inl ⟨_, A, c, rfl, hc, h2, h3.reads⟩⟩
 exact ⟨_, j, .inr ⟨m, h0, h1, h2, rfl⟩, hB, A1, n1, c1, A2, n2, c2, .inr ⟨rfl, h3⟩⟩
theorem rdo_alone (p : Pl) (k Lk : Nat) (A2 : Option Addr) (n2 c2 : Nat) (F : Nat → Nat) (Ak : Option Addr) (ck : Nat) (key : Nat → Nat) (s : Nat → Nat) (A : Option Addr) (M c N : Nat) (x : Nat → Nat) (bk : Bool) (w : World) (hf : fits k Lk) (hI : Inv p.F p.n [] 0) (h2 : p.n = n2) (h3 : p.F = F) (hT : Reads w w.heap.size A2 n2 F) (hct : n2 ≤ c2) (hkey : Reads w w.heap.size Ak Lk key) (hkb : ∀ i, i < Lk → key i < 256) (hLk : Lk ≤ 1000) (hck : Lk ≤ ck) (hAk : Ak = none → Lk = 0 ∧ ck = 0)
  (hM : M = N * sz k) (hM1 : M ≤ 900) (hc : M ≤ c) (hx : ∀ i, i < M → x i < 256) (hR : Reads w w.heap.size A M x) :
  Calls Tryz.prog 12 #[.int .i64 (k : Int), .slice Ak Lk ck, .agg (row 2 (bookC (.slice none 0 0) (.slice A2 n2 c2))), .slice none 0 0, .slice A M c, .bool bk] w fun e w' => ∃ o K, MRes p k Lk key bk false x N ⟨[], 0, s, fun _ => 0⟩ o K ∧ RAns o K M w e w' := by
 subst h2 h3
 have hN : N ≤ M := by rw [hM]; exact Nat.le_mul_of_pos_right _ (Md.sz_pos k)
 have hT' : Reads w w.heap.size A2 (p.n - 0) (fun i => p.F (0 + i)) := hT.ext (fun i _ => by rw [Nat.zero_add])
 cases bk
 ·exact (rmode_alonef p k 0 Lk [] none 0 A2 c2 Ak ck key s A M c N x w hf (doC_any p k Lk Ak ck key false hf hLk hck hkb hAk) hI (fun i hi => by cases hi) hT' hct (by show 0 + N ≤ _; omega) hkey hkb (fun _ => ⟨rfl, rfl⟩) hM (by omega) hc hx hR).mono fun e w' h => rans_of hM h
 exact (rmode_aloneb p k 0 Lk [] none 0 A2 c2 Ak ck key s A M c N x w hf (doC_any p k Lk Ak ck key true hf hLk hck hkb hAk) hI (fun i hi => by cases hi) hT' hct (by show 0 + N ≤ _; omega) hkey hkb (fun _ => ⟨rfl, rfl⟩) hM (by omega) hc hx hR).mono fun e w' h => rans_of hM h
theorem rdo_chain (p : Pl) (k Lk : Nat) (A2 : Option Addr) (n2 c2 : Nat) (F : Nat → Nat) (Ak : Option Addr) (ck : Nat) (key : Nat → Nat) (As : Option Addr) (cs : Nat) (s : Nat → Nat) (A : Option Addr) (M c N : Nat) (x : Nat → Nat) (bk : Bool) (w : World) (hf : fits k Lk) (hI : Inv p.F p.n [] 0) (h2 : p.n = n2) (h3 : p.F = F) (hT : Reads w w.heap.size A2 n2 F) (hct : n2 ≤ c2) (hkey : Reads w w.heap.size Ak Lk key) (hkb : ∀ i, i < Lk → key i < 256) (hLk : Lk ≤ 1000) (hck : Lk ≤ ck) (hAk : Ak = none → Lk = 0 ∧ ck = 0)
  (hM : M = N * sz k) (hM1 : M ≤ 900) (hc : M ≤ c) (hx : ∀ i, i < M → x i < 256) (hR : Reads w w.heap.size A M x) (hs : ∀ i, i < sz k → s i < 256) (hRs : Reads w w.heap.size As (sz k) s) :
  Calls Tryz.prog 12 #[.int .i64 (k : Int), .slice Ak Lk ck, .agg (row 2 (bookC (.slice none 0 0) (.slice A2 n2 c2))), .slice As (sz k) cs, .slice A M c, .bool bk] w fun e w' => ∃ o K, MRes p k Lk key bk true x N ⟨[], 0, s, fun _ => 0⟩ o K ∧ RAns o K M w e w' := by
 subst h2 h3
 have hN : N ≤ M := by rw [hM]; exact Nat.le_mul_of_pos_right _ (Md.sz_pos k)
 have hT' : Reads w w.heap.size A2 (p.n - 0) (fun i => p.F (0 + i)) := hT.ext (fun i _ => by rw [Nat.zero_add])
 cases bk
 ·exact (rmode_forth p k 0 Lk [] none 0 A2 c2 Ak ck key As cs s A M c N x w hf (doC_any p k Lk Ak ck key false hf hLk hck hkb hAk) hI (fun i hi => by cases hi) hT' hct (by show 0 + N ≤ _; omega) hkey hkb (fun _ => ⟨rfl, rfl⟩) hM (by omega) hc hx hR hs hRs).mono fun e w' h => rans_of hM h
 exact (rmode_back p k 0 Lk [] none 0 A2 c2 Ak ck key As cs s A M c N x w hf (doC_any p k Lk Ak ck key true hf hLk hck hkb hAk) hI (fun i hi => by cases hi) hT' hct (by show 0 + N ≤ _; omega) hkey hkb (fun _ => ⟨rfl, rfl⟩) hM (by omega) hc hx hR hs hRs).mono fun e w' h => rans_of hM h
theorem keepO {w w' : World} {p q : Pl} {d e : Nat} {R Q : List Rw} (h : BookAt w p d R) (hb : BookAt w q e Q) (hB : KeptS q.S w w') (hlt : ∀ g ∈ q.S, g < p.base) : BookAt w' p d R :=
 ⟨hB.blk h.book (hb.free h.book (by decide)), hB.blk h.tape (fun hm => by have := hlt _ hm; have := h.lo.2 _ (gt_mem p); omega), hB.own h.own (fun g cs hg => hb.free hg (by decide)), fun bk => hB.map (h.maps bk) (fun hm => by have := hlt _ hm; have := h.lo.2 _ (m_mem p bk); omega), h.ne, h.inv, h.lo⟩
end Go.Proofs.YtlmnoapoofmmnaaGreatDoor.Mr
