/-
 Law06 AesZero Awake06
-/
import Derived.Test.YtlmnoapoofmmnaaGreatDoorModeX
import Derived.Test.YtlmnoapoofmmnaaGreatDoorAwX
import Derived.Test.YtlmnoapoofmmnaaGreatDoorAsX
import Derived.Deep.RegionWith
namespace Go.Proofs.YtlmnoapoofmmnaaGreatDoor.Bk
open Mem Go.ChangeShapes Go.WideShapes Go.ChangeAt Go.RowKit
set_option maxRecDepth 100000 in
set_option maxHeartbeats 1000000 in
theorem right6_any (z : Int) (k : Nat) (hz : z = (k : Int)) (hk : k = 1 ∨ k = 2 ∨ k = 3) (A : Option Addr) (L c : Nat) (key : Nat → Nat) (w : World) (hL : L ≤ 1000) (hR : Reads w w.heap.size A L key) :
  Calls Tryz.prog 6 #[.int .i64 z, .slice A L c] w fun e w' => ∃ v, e = .returned v ∧ Mem.Own w' w.heap.size 5 1 v (rn k) (rk L key) ∧ Below w.heap.size w w' := by
 subst hz
 have HR := hid hR
 clear hR
 have hm : ((k : Int) % 4) = (k : Int) := by omega
 have hB1 : Below w.heap.size w (w.alloc (.cells #[.int .i64 16, .int .i64 16, .int .i64 24, .int .i64 4] 3)) := (Below.refl _ _).alloc (Nat.le_refl _) _
 have hblk := Blk.fresh w 3 #[.int .i64 16, .int .i64 16, .int .i64 24, .int .i64 4]
 have hcell : (w.alloc (.cells #[.int .i64 16, .int .i64 16, .int .i64 24, .int .i64 4] 3)).cell? ⟨w.heap.size, k, none⟩ = some (.int .i64 (rn k : Int)) := by
  rw [hblk.cell]
  rcases hk with rfl | rfl | rfl <;> rfl
 have HB1 := hid hB1
 have hrn := (rn_le k).1
 clear hblk
 go_enter Tryz.func6, Tryz.ntmps6
 go_wp2_with fail
 clear hcell hm hB1
 go_loopw [6, 7] (fun v y wr => ∃ i : Nat, i ≤ rn k ∧ y = .int .i64 (i : Int) ∧ Mem.Own wr w.heap.size 5 1 v i (rk L key) ∧ Below w.heap.size w wr) (fun _ y _ => rn k - (intOf y).toNat)
 case atStart => exact ⟨0, by omega, rfl, Mem.Own.nil _ _ _ _ _, HB1.out⟩
 case round =>
  clear HB1
  obtain ⟨i, hi, rfl, hov, hBr⟩ := hrel
  obtain ⟨A', c', rfl, hc', -⟩ := hov.slice'
  have Hov := hid hov
  have HBr := hid hBr
  clear hov hBr
  by_cases hlt : i < rn k
  ·have hovA : Mem.Own (wr.alloc (.cells #[.int .u8 0] 5)) w.heap.size 5 1 (.slice A' i c') i (rk L key) := Hov.out.alloc _
   have hRA : Reads (wr.alloc (.cells #[.int .u8 0] 5)) (wr.heap.size + 1) (some ⟨wr.heap.size, 0, none⟩) 1 (fun _ => 0) := fun _ => ⟨_, rfl, Nat.lt_succ_self _, fun j hj => by
    have : j = 0 := by omega
    subst this
    exact (Blk.fresh wr 5 #[.int .u8 0]).cell 0⟩
   have hBa : Below w.heap.size w (wr.alloc (.cells #[.int .u8 0] 5)) := HBr.out.alloc HBr.out.size _
   have HovA := hid hovA
   have HRA := hid hRA
   have HBa := hid hBa
   clear hovA hRA hBa
   go_wp2_with (at_builtin; refine wpl_app_gen rfl _ _ 22 rfl w.heap.size 5 (.int .u8 0) Tryz.underlying22 info_u8 rfl _ i _ rfl HovA.out (some ⟨wr.heap.size, 0, none⟩) 1 1 _ _ HRA.out (fun h => by cases h) rfl (by omega) (by have := HBa.out.size; omega) ?_)
   intro v3 w3 ho3 hB3
   obtain ⟨A3, c3, rfl, hc3, -⟩ := ho3.slice'
   have HB3 := hid (HBa.out.trans hB3)
   by_cases hL0 : 0 < L
   ·have hL0I : (L : Int) > 0 := by omega
    obtain ⟨ad, rfl, had, hcs⟩ := HR.out hL0
    have hjl : i % L < L := Nat.mod_lt _ hL0
    have hcx : w3.cell? (ad.add (i % L)) = some (.int .u8 ((key (i % L) : Nat) : Int)) := (HB3.out.cell (p := ad.add (i % L)) (by rw [add_block]; exact had)).trans (hcs _ hjl)
    have hmod : (i : Int) % (L : Int) = ((i % L : Nat) : Int) := by simp
    obtain ⟨g, rfl, hgb, hgl, hcg, hfg, hoP⟩ := Bk.Own.put ho3 (Nat.lt_succ_self i) (key (i % L))
    have HoP := hid hoP
    clear hcs ho3 hoP hB3
    have Hx : Hid (rk L key i = key (i % L)) := hid (by unfold rk; rw [if_pos hL0])
    generalize i % L = j at *
    go_wp2_with (first
     | (with_reducible refine wpl_sl1 rfl 22 _ _ rfl ad L c rfl .i64 _ rfl j hmod 5 Tryz.underlying22 hjl i8q ?_)
     | (with_reducible refine wpl_ld rfl 5 _ rfl _ rfl .u8 Tryz.underlying5 _ hcx ?_)
     | (with_reducible refine wpl_sl1 rfl 22 _ _ rfl ⟨g, 0, none⟩ (i + 1) c3 rfl .i64 _ rfl i rfl 5 Tryz.underlying22 (Nat.lt_succ_self i) i8q ?_)
     | (with_reducible refine wpl_st rfl 5 _ _ rfl ⟨g, i, none⟩ rfl .u8 _ rfl i8q _ hcg hfg ?_))
    refine ⟨⟨i + 1, by omega, val_int (by omega), HoP.out.ext (fun q hq => ?_), HB3.out.setCell (by exact hgb) _⟩, by simp [intOf]; omega⟩
    by_cases hqi : q = i
    ·subst hqi; rw [upd_same, Hx.out]
    rw [upd_other _ _ _ _ hqi]; unfold cat; rw [if_pos (by omega)]
   have hL0I : ¬ (L : Int) > 0 := by omega
   go_wp2_with fail
   go_round
   case rel =>
    refine ⟨i + 1, by omega, val_int (by omega), ho3.ext (fun q hq => ?_), HB3.out⟩
    unfold cat rk
    rw [if_neg hL0]
    split <;> rfl
   case measure => simp [intOf]; omega
  have hltI : ¬ (i : Int) < (rn k : Int) := by omega
  go_wp2_with fail
  go_ret
  have : i = rn k := by omega
  subst this
  exact ⟨_, rfl, Hov.out, HBr.out⟩
set_option maxRecDepth 100000 in
set_option maxHeartbeats 1000000 in
theorem cipher6_any (k : Nat) (Ak : Option Addr) (L ck : Nat) (key : Nat → Nat) (A : Option Addr) (n c : Nat) (F : Nat → Nat) (w : World) (hL : L ≤ 32) (hAk : Ak = none → L = 0 ∧ ck = 0) (hk : ∀ i, i < L → key i < 256) (hRk : Reads w w.heap.size Ak L key) (hf : fits k L) (hn : n ≤ 65536) (hA : A = none → n = 0 ∧ c = 0) (hF : ∀ i, i < n → F i < 256) (hR : Reads w w.heap.size A n F) :
  Calls Tryz.prog 7 #[.int .i64 (k : Int), .slice Ak L ck, .slice A n c] w fun e w' => ∃ (p : Pl) (gc base : Nat), e = .returned (.tuple #[.pointer (some ⟨gc, 0, none⟩), .bool true]) ∧ p.base = w.heap.size ∧ p.n = n ∧ p.F = F ∧ BookAt w' p 0 [] ∧ CiAt w' p k gc base L key ∧ w.heap.size ≤ base ∧ w.heap.size ≤ gc ∧ Below w.heap.size w w' := by
 have HR := hid hR
 have HRk := hid hRk
 have HA := hid hA
 have HAk := hid hAk
 have HF := hid hF
 have Hk := hid hk
 have Hf := hid hf
 clear hR hA hF hRk hAk hk hf
 go_enter Tryz.func7, Tryz.ntmps7
 go_wp2_with (first
  | (go_at_call 16; refine (new_ok A n c F _ hn HA.out HR.out).mono ?_; rintro e w1 ⟨v, g, rfl, ho, hb, hgs, hB⟩; have Ho := hid ho; have Hb := hid hb; have HB := hid hB; clear ho hb hB)
  | (go_at_call 19; refine (newBook_any g w.heap.size v n F _ Hb.out Ho.out hgs hn HF.out).mono ?_; rintro e w2 ⟨p, rfl, hp1, hp2, hp3, hbk, hB2⟩; have Hbk := hid hbk; have HB2 := hid (HB.out.trans (hB2.mono HB.out.size)); clear hbk hB2)
  | (go_at_call 18; refine (new_any k Ak L ck key p _ hL HAk.out Hk.out ((HRk.out.below HB2.out).more HB2.out.size) Hf.out).mono ?_; rintro e w3 ⟨gc, rfl, hci, hgc, hB3⟩))
 go_ret2
 have hs2 := HB2.out.size
 exact ⟨p, gc, _, rfl, hp1, hp2, hp3, Hbk.out.keep hB3, hci, hs2, by omega, HB2.out.trans (hB3.mono hs2)⟩
end Go.Proofs.YtlmnoapoofmmnaaGreatDoor.Bk
namespace Go.Proofs.YtlmnoapoofmmnaaGreatDoor.Aes
open Gf
def zT : List Nat := [0, 0, 0, 0, 0, 0, 0, 0, 0, 0, 0, 0, 0, 0, 0, 0, 98, 99, 99, 99, 98, 99, 99, 99, 98, 99, 99, 99, 98, 99, 99, 99, 155, 152, 152, 201, 249, 251, 251, 170, 155, 152, 152, 201, 249, 251, 251, 170, 144, 151, 52, 80, 105, 108, 207, 250, 242, 244, 87, 51, 11, 15, 172, 153, 238, 6, 218, 123, 135, 106, 21, 129, 117, 158, 66, 178, 126, 145, 238, 43, 127, 46, 43, 136, 248, 68, 62, 9, 141, 218, 124, 187, 243, 75, 146, 144, 236, 97, 75, 133, 20, 37, 117, 140, 153, 255, 9, 55, 106, 180, 155, 167, 33, 117, 23, 135, 53, 80, 98, 11, 172, 175, 107, 60, 198, 27, 240, 155, 14, 249, 3, 51, 59, 169, 97, 56, 151, 6, 10, 4, 81, 29, 250, 159, 177, 212, 216, 226, 138, 125, 185, 218, 29, 123, 179, 222, 76, 102, 73, 65, 180, 239, 91, 203, 62, 146, 226, 17, 35, 233, 81, 207, 111, 143, 24, 142]
def zS : List (List Nat) := [[0, 0, 0, 0, 0, 0, 0, 0, 0, 0, 0, 0, 0, 0, 0, 0], [1, 0, 0, 0, 1, 0, 0, 0, 1, 0, 0, 0, 1, 0, 0, 0], [198, 228, 228, 139, 164, 135, 135, 232, 198, 228, 228, 139, 164, 135, 135, 232], [40, 45, 243, 196, 106, 243, 134, 37, 74, 78, 144, 167, 8, 144, 229, 70], [171, 210, 205, 254, 55, 90, 181, 73, 80, 160, 175, 192, 117, 154, 106, 95], [212, 111, 79, 108, 85, 184, 150, 51, 126, 5, 187, 61, 121, 121, 222, 35], [4, 242, 202, 151, 7, 120, 40, 69, 226, 47, 1, 150, 73, 197, 215, 16], [183, 170, 228, 197, 29, 37, 45, 79, 108, 146, 15, 129, 148, 229, 129, 80], [35, 231, 140, 60, 19, 33, 99, 219, 170, 192, 198, 87, 46, 3, 203, 149], [127, 254, 14, 149, 81, 165, 102, 53, 14, 52, 124, 71, 41, 41, 236, 203], [102, 233, 75, 212, 239, 138, 44, 59, 136, 76, 250, 89, 202, 52, 43, 46]]
def zB : List (List Nat) := [[99, 99, 99, 99, 99, 99, 99, 99, 99, 99, 99, 99, 99, 99, 99, 99], [124, 99, 99, 99, 124, 99, 99, 99, 124, 99, 99, 99, 124, 99, 99, 99], [180, 105, 105, 61, 73, 23, 23, 155, 180, 105, 105, 61, 73, 23, 23, 155], [52, 216, 13, 28, 2, 13, 68, 63, 214, 47, 96, 92, 48, 96, 217, 90], [98, 181, 189, 187, 154, 190, 213, 59, 83, 224, 121, 186, 157, 184, 2, 207], [72, 168, 132, 80, 252, 108, 144, 195, 243, 107, 234, 39, 182, 182, 29, 38], [242, 137, 116, 136, 197, 188, 52, 110, 152, 21, 124, 144, 59, 166, 14, 202], [169, 172, 105, 166, 164, 63, 216, 132, 80, 79, 118, 12, 34, 217, 12, 83], [38, 148, 100, 235, 125, 253, 251, 185, 172, 186, 180, 91, 49, 123, 31, 42], [210, 187, 171, 42, 209, 6, 51, 150, 171, 24, 16, 160, 165, 165, 206, 31]]
theorem zT0 : ∀ i, i < 16 → tab zT i = 0 := by decide +kernel
theorem zT1 : ∀ t, t < 40 → ∀ k, k < 4 → tab zT (16 + 4 * t + k) = tab zT (4 * t + k) ^^^ nw 16 (tab zT) t k := by decide +kernel
theorem zT_words (i : Nat) (hi : i < 176) : words 16 (fun _ => 0) i = tab zT i := words_tab 16 (by omega) _ _ 40 zT0 zT1 40 (by omega) i (by omega)
theorem zS0 : ∀ i, i < 16 → tab2 zS 0 i = 0 ^^^ tab zT (16 * 0 + i) := by decide +kernel
theorem zS1 : ∀ r, r < 10 → ∀ i, i < 16 → tab2 zB r i = box (tab2 zS r i) := by decide +kernel
theorem zS2 : ∀ r, r < 10 → ∀ i, i < 16 → tab2 zS (r + 1) i = rk (tab zT) (r + 1) (if r + 1 < 10 then mix fE (rows (tab2 zB r)) else rows (tab2 zB r)) i := by decide +kernel
theorem z_enc (i : Nat) (hi : i < 16) : enc (words 16 fun _ => 0) (rnd 16) (fun _ => 0) i = tab2 zS 10 i :=
 (encTo_ext (N := 10) (n := 176) zT_words (by omega) (fun _ _ => rfl) 10 (Nat.le_refl _) i hi).trans (enc_tab (tab zT) 10 (fun _ => 0) (tab2 zS) (tab2 zB) zS0 zS1 zS2 10 (Nat.le_refl _) i hi)
theorem z_first : enc (words 16 fun _ => 0) (rnd 16) (fun _ => 0) 0 = 102 := by rw [z_enc 0 (by omega)]; decide +kernel
end Go.Proofs.YtlmnoapoofmmnaaGreatDoor.Aes
namespace Go.Proofs.YtlmnoapoofmmnaaGreatDoor.Md
open Mem Bk As Go.ChangeShapes Go.WideShapes Go.ChangeAt Go.RowKit
theorem mk (n : Nat) (hn : n ≤ 1000) (w : World) : (Instr.makeSlice 22 (.int .i64 (n : Int)) (.int .i64 (n : Int))).run Tryz.prog w = .ok (.slice (some ⟨w.heap.size, 0, none⟩) n n) (w.alloc (.cells (row n (b8 fun _ => 0)) 5)) := by
 have hr := run_make_row' (P := Tryz.prog) 22 5 (.int .u8 0) 1 Tryz.underlying22 info8 rfl .i64 .i64 n (by omega) (by omega) w
 rwa [made_b8] at hr
theorem own_some {w : World} {base e n : Nat} {v : Value} {f : Nat → Nat} (ho : Mem.Own w base e 1 v n f) (hn : 0 < n) : ∃ g c, v = .slice (some ⟨g, 0, none⟩) n c ∧ n ≤ c := by
 rcases ho.form with ⟨_, h⟩ | ⟨g, c, cur, h, _, _, hc, _⟩
 ·omega
 exact ⟨g, c, h, hc⟩
theorem suffV {F G : World → Value → Value → Value → Prop} {R : Prop} (h1 : (∀ W v a b, F W v a b → G W v a b) → R) (h2 : ∀ W v a b, F W v a b → G W v a b) : R := h1 h2
theorem fits16 : fits 1 16 := .inl ⟨rfl, .inl rfl⟩
def zf : Nat → Nat := fun _ => 0
theorem zf_lt (n : Nat) : ∀ i, i < n → zf i < 256 := fun _ _ => by unfold zf; omega
theorem bl_zf (k j : Nat) : bl k zf j = zf := rfl
theorem xr_zf (f : Nat → Nat) : xr zf f = f := by funext i; unfold xr zf; exact Nat.zero_xor _
def ez : Nat → Nat := tc 1 16 zf false zf
theorem ah1 : ah 1 16 zf zf zf 1 = ez := by rw [ah_next, ah_zero, bl_zf, xr_zf]; rfl
theorem ah2 : ah 1 16 zf zf zf 2 = tc 1 16 zf false ez := by rw [ah_next, ah1, bl_zf, xr_zf]
theorem ez_lt : ∀ i, i < sz 1 → ez i < 256 := tc_lt (by omega) fits16 (zf_lt 16) (zf_lt _)
theorem ez_first : ez 0 = 102 := by
 unfold ez tc
 rw [if_pos rfl, if_neg (by simp)]
 exact Aes.z_first
theorem sz1 : sz 1 = 16 := rfl
theorem al_z (i : Nat) (hi : i < 16) : aloneF 1 16 zf false zf 1 i = ez i := by
 have h := alone_at (k := 1) (L := 16) (key := zf) (bk := false) (x := zf) (N := 1) (i := i) (by rw [sz1]; omega)
 rw [sz1, Nat.div_eq_of_lt hi, Nat.mod_eq_of_lt hi, bl_zf] at h
 exact h
theorem ch_z (i : Nat) (hi : i < 32) : chainF 1 16 zf false zf zf 2 i = ah 1 16 zf zf zf (i / 16 + 1) (i % 16) := by
 have h := forth_at (k := 1) (L := 16) (key := zf) (s := zf) (x := zf) (N := 2) (i := i) (by rw [sz1]; omega)
 rw [sz1] at h
 exact h
theorem z_same : eqB 16 (chainF 1 16 zf false zf zf 2) (aloneF 1 16 zf false zf 1) = true := by
 refine eqB_true fun i hi => ?_
 rw [ch_z i (by omega), al_z i hi, Nat.div_eq_of_lt hi, Nat.mod_eq_of_lt hi, ah1]
theorem z_other : eqB 16 (fun i => chainF 1 16 zf false zf zf 2 (16 + i)) (aloneF 1 16 zf false zf 1) = false := by
 cases hq : eqB 16 (fun i => chainF 1 16 zf false zf zf 2 (16 + i)) (aloneF 1 16 zf false zf 1)
 ·rfl
 exfalso
 have h := eqB_iff.1 hq
 have h1 : Eqn (sz 1) (tc 1 16 zf false ez) (tc 1 16 zf false zf) := fun i hi => by
  rw [sz1] at hi
  have := h i hi
  rw [ch_z (16 + i) (by omega), al_z i hi, show (16 + i) / 16 = 1 by omega, show (16 + i) % 16 = i by omega, ah2] at this
  exact this
 have h2 : Eqn (sz 1) (tc 1 16 zf true (tc 1 16 zf false ez)) (tc 1 16 zf true (tc 1 16 zf false zf)) := tc_ext fits16 (by omega) h1
 have h3 : Eqn (sz 1) (tc 1 16 zf true (tc 1 16 zf false ez)) ez := tc_back (bk := false) fits16 (by omega) (zf_lt 16) ez_lt
 have h4 : Eqn (sz 1) (tc 1 16 zf true (tc 1 16 zf false zf)) zf := tc_back (bk := false) fits16 (by omega) (zf_lt 16) (zf_lt _)
 have h5 := (h3 0 (sz_pos 1)).symm.trans ((h2 0 (sz_pos 1)).trans (h4 0 (sz_pos 1)))
 rw [ez_first] at h5
 cases h5
set_option maxRecDepth 100000 in
set_option maxHeartbeats 1000000 in
theorem awake6_any (w : World) (hg : Laid w) : Calls Tryz.prog 5 #[] w fun e w' => e = .returned (.bool true) ∧ Below w.heap.size w w' := by
 have Hg := hid hg
 clear hg
 have hm16 : ∀ w, (Instr.makeSlice 22 (.int .i64 16) (.int .i64 16)).run Tryz.prog w = .ok (.slice (some ⟨w.heap.size, 0, none⟩) 16 16) (w.alloc (.cells (row 16 (b8 fun _ => 0)) 5)) := mk 16 (by omega)
 have hm32 : ∀ w, (Instr.makeSlice 22 (.int .i64 32) (.int .i64 32)).run Tryz.prog w = .ok (.slice (some ⟨w.heap.size, 0, none⟩) 32 32) (w.alloc (.cells (row 32 (b8 fun _ => 0)) 5)) := mk 32 (by omega)
 have hm15 : ∀ w, (Instr.makeSlice 22 (.int .i64 15) (.int .i64 15)).run Tryz.prog w = .ok (.slice (some ⟨w.heap.size, 0, none⟩) 15 15) (w.alloc (.cells (row 15 (b8 fun _ => 0)) 5)) := mk 15 (by omega)
 go_enter Tryz.func5, Tryz.ntmps5
 have hB0 := (Below.refl w.heap.size w).alloc (Nat.le_refl _) (.cells (row 16 (b8 fun _ => 0)) 5)
 have HN := hid (new1 (some ⟨w.heap.size, 0, none⟩) 16 16 zf ⟨0, 0, 0, 0, 0, .nilIface, 0, fun _ => 0⟩ none (w.alloc (.cells (row 16 (b8 fun _ => 0)) 5)) (by omega) (fun h => by cases h) (zf_lt 16) (Blk.fresh _ _ _).reads fits16)
 go_wp2_with (go_at_call 18; refine HN.out.mono ?_; rintro e w1 ⟨gc, rfl, hci, hgc, hB1⟩)
 have hBw : Below w.heap.size w w1 := hB0.trans (hB1.mono hB0.size)
 have hs1 := hBw.size
 have HCH : ∀ (W : World) (a b : Nat), Below w1.heap.size w1 W → Blk W a 5 (row 16 (b8 zf)) → Blk W b 5 (row 32 (b8 zf)) → Calls Tryz.prog 9 #[.pointer (some ⟨gc, 0, none⟩), .slice (some ⟨a, 0, none⟩) 16 16, .slice (some ⟨b, 0, none⟩) 32 32, .bool false] W fun e w' => ∃ v, e = .returned (.tuple #[v, .nilIface]) ∧ Mem.Own w' w1.heap.size 5 1 v 32 (chainF 1 16 zf false zf zf 2) ∧ Below w1.heap.size w1 w' := fun W a b hB ha hb => by
  refine (chained_any W _ 1 gc _ 16 zf ⟨a, 0, none⟩ 16 zf (some ⟨b, 0, none⟩) 2 32 32 false zf (by omega) (hci.keep hB) rfl (by omega) (by omega) (fun h => by cases h) (zf_lt _) hb.reads ha.lt (fun i hi => by rw [add_zero_off]; exact ha.val i hi) (zf_lt _)).mono ?_
  rintro e w' ⟨v, rfl, ho, hB'⟩
  exact ⟨v, rfl, own_base ho hB.size, hB.trans (hB'.mono hB.size)⟩
 have Hci := hid hci
 clear HN hci hB0 hB1
 apply suffV (F := fun W v _ _ => Below w1.heap.size w1 W ∧ Mem.Own W w1.heap.size 5 1 v 32 (chainF 1 16 zf false zf zf 2))
 case h1 =>
  intro key
  go_region_with (go_at_call 9; refine (HCH _ _ _ (((Below.refl w1.heap.size w1).drew.alloc (by simp) _).alloc (by simp) _) (by first | exact (Blk.fresh _ _ _).alloc _ | exact blk_fresh (by simp) _ _) (by first | exact (Blk.fresh _ _ _).alloc _ | exact blk_fresh (by simp) _ _)).mono ?_; rintro e w2 ⟨v, rfl, ho2, hB2⟩)
  ·simp only [Act.put,zza,zzb,zzc,zzd,zze,zzf]
   generalize Value.slice (some ⟨w1.heap.size, 0, none⟩) 16 16 = va
   generalize Value.slice (some ⟨w1.heap.size + 1, 0, none⟩) 32 32 = vb
   exact key w2 v va vb ⟨hB2, ho2⟩
  simp only [Act.put,zza,zzb,zzc,zzd,zze,zzf]
  generalize Value.slice (some ⟨w1.heap.size + 1, 0, none⟩) 16 16 = va
  generalize Value.slice (some ⟨w1.heap.size, 0, none⟩) 32 32 = vb
  exact key w2 v va vb ⟨hB2, ho2⟩
 intro w2 v va vb ⟨hB2, ho2⟩
 try dsimp only
 obtain ⟨gx, c2, rfl, hc2⟩ := own_some ho2 (by omega)
 have hsx := hB2.size
 have hBx := (Below.refl w2.heap.size w2).alloc (Nat.le_refl _) (.cells (row 16 (b8 fun _ => 0)) 5)
 have HAL := hid (alone_any (w2.alloc (.cells (row 16 (b8 fun _ => 0)) 5)) _ 1 gc _ 16 zf (some ⟨w2.heap.size, 0, none⟩) 1 16 16 false zf (by omega) ((Hci.out.keep hB2).keep hBx) rfl (by omega) (by omega) (fun h => by cases h) (zf_lt _) (Blk.fresh w2 5 (row 16 (b8 fun _ => 0))).reads)
 have Ho2 := hid ho2
 clear HCH ho2
 go_wp2_with (go_at_call 8; refine HAL.out.mono ?_; clear HAL; rintro e w3 ⟨v3, rfl, ho3, hB3⟩)
 have hB23 := hBx.trans (hB3.mono hBx.size)
 obtain ⟨A3, c3, rfl, hc3⟩ := ho3.slice
 have hs3 := hB23.size
 have hBy := (Below.refl w3.heap.size w3).alloc (Nat.le_refl _) (.cells (row 15 (b8 fun _ => 0)) 5)
 have HAS := hid (alone_size (w3.alloc (.cells (row 15 (b8 fun _ => 0)) 5)) _ 1 gc _ 16 zf (some ⟨w3.heap.size, 0, none⟩) 15 15 false (((Hci.out.keep hB2).keep hB23).keep hBy) (by decide) (by omega))
 have Ho3 := hid ho3
 clear ho3 hBx hB3
 go_wp2_with (go_at_call 8; refine HAS.out.mono ?_; clear HAS; rintro e w4 ⟨rfl, hB4⟩)
 have hB34 := hBy.trans (hB4.mono hBy.size)
 have hs4 := hB34.size
 have hR1 : Reads w4 w2.heap.size (some ⟨gx, 0, none⟩) 32 (chainF 1 16 zf false zf zf 2) := (Ho2.out.reads.below hB23).below (hB34.mono hs3)
 have hR3 : Reads w4 w3.heap.size A3 16 (aloneF 1 16 zf false zf 1) := Ho3.out.reads.below hB34
 have hBw4 : Below w.heap.size w w4 := ((hBw.trans (hB2.mono hs1)).trans (hB23.mono (by omega))).trans (hB34.mono (by omega))
 have hR2 : Reads w4 w2.heap.size (some ((⟨gx, 0, none⟩ : Addr).add 16)) 16 (fun i => chainF 1 16 zf false zf zf 2 (16 + i)) := by
  have := hR1.cut (k := 16) (cap := c2) (by omega) hc2
  rw [if_neg (by omega)] at this
  exact this
 have HS1 : Hid (∀ W, Below w4.heap.size w4 W → Calls Tryz.prog 14 #[.slice (some ⟨gx, 0, none⟩) 16 c2, .slice A3 16 c3] W fun e w' => e = .returned (.bool true) ∧ Below w4.heap.size w4 w') := hid fun W hB => by
  refine (same_any _ _ 16 c2 c3 _ _ W (by omega) (((hR1.less (by omega)).below (hB.mono (by omega))).more (by have := hB.size; omega)) ((hR3.below (hB.mono hs4)).more (by have := hB.size; omega))).mono ?_
  rintro e w' ⟨rfl, h⟩
  exact ⟨by rw [z_same], hB.trans (h.mono hB.size)⟩
 have HS2 : Hid (∀ W, Below w4.heap.size w4 W → Calls Tryz.prog 14 #[.slice (some ((⟨gx, 0, none⟩ : Addr).add 16)) 16 (c2 - 16), .slice A3 16 c3] W fun e w' => e = .returned (.bool false) ∧ Below w4.heap.size w4 w') := hid fun W hB => by
  refine (same_any _ _ 16 (c2 - 16) c3 _ _ W (by omega) ((hR2.below (hB.mono (by omega))).more (by have := hB.size; omega)) ((hR3.below (hB.mono hs4)).more (by have := hB.size; omega))).mono ?_
  rintro e w' ⟨rfl, h⟩
  exact ⟨by rw [z_other], hB.trans (h.mono hB.size)⟩
 have Hg4 := hid (Hg.out.below hBw4)
 have hcne : ¬ c2 = 16 := by omega
 clear hR1 hR2 hR3 hBy hB4 hB34 hB23 hB2 Ho2 Ho3 Hci
 go_wp2_with (first
  | (go_at_call 14; refine (HS1.out _ (Below.refl _ _)).mono ?_; clear HS1; rintro e w5 ⟨rfl, hB5⟩)
  | (go_at_call 14; refine (HS2.out _ hB5).mono ?_; clear HS2; rintro e w6 ⟨rfl, hB6⟩)
  | (go_at_call 11; refine (code_hit 2 _ (Hg4.out.below hB6)).mono ?_; rintro e w7 ⟨rfl, hB7⟩))
 go_ret
 exact ⟨rfl, hBw4.trans ((hB6.trans (hB7.mono hB6.size)).mono hBw4.size)⟩
end Go.Proofs.YtlmnoapoofmmnaaGreatDoor.Md
