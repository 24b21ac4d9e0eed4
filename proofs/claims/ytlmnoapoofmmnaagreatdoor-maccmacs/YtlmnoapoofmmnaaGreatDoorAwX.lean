/-
 AesExample AesCmac Law07 Awake07
-/
import Derived.Test.YtlmnoapoofmmnaaGreatDoorAesX
import Derived.Test.YtlmnoapoofmmnaaGreatDoorMac3
namespace Go.Proofs.YtlmnoapoofmmnaaGreatDoor.Aes
open Gf
def tab (l : List Nat) : Nat → Nat := fun i => l.getD i 0
theorem nw_ext {L : Nat} {f g : Nat → Nat} {t k : Nat} (hk : k < 4) (hL : 4 ≤ L) (h : ∀ i, i < L + 4 * t → f i = g i) : nw L f t k = nw L g t k := by
 unfold nw
 rw [h (L + 4 * t - 4 + (k + 1) % 4) (by omega), h (L + 4 * t - 4 + k) (by omega)]
theorem words_tab (L : Nat) (hL : 4 ≤ L) (key T : Nat → Nat) (M : Nat) (h0 : ∀ i, i < L → T i = key i) (hs : ∀ t, t < M → ∀ k, k < 4 → T (L + 4 * t + k) = T (4 * t + k) ^^^ nw L T t k) :
  ∀ t, t ≤ M → ∀ i, i < L + 4 * t → ex L key t i = T i := by
 intro t
 induction t with
 | zero => intro _ i hi; show (if i < L then key i else 0) = _; rw [if_pos (by omega), h0 i (by omega)]
 | succ t ih =>
  intro ht i hi
  have ih := ih (by omega)
  show (if L + 4 * t ≤ i ∧ i < L + 4 * t + 4 then ex L key t (i - L) ^^^ nw L (ex L key t) t (i - (L + 4 * t)) else ex L key t i) = _
  by_cases h : L + 4 * t ≤ i
  ·rw [if_pos ⟨h, by omega⟩, ih _ (by omega), nw_ext (by omega) hL ih]
   have := hs t (by omega) (i - (L + 4 * t)) (by omega)
   rw [show L + 4 * t + (i - (L + 4 * t)) = i by omega, show 4 * t + (i - (L + 4 * t)) = i - L by omega] at this
   exact this.symm
  rw [if_neg (fun h' => h h'.1), ih i (by omega)]
theorem enc_tab (ws : Nat → Nat) (N : Nat) (b : Nat → Nat) (S B : Nat → Nat → Nat) (h0 : ∀ i, i < 16 → S 0 i = b i ^^^ ws (16 * 0 + i)) (hB : ∀ r, r < N → ∀ i, i < 16 → B r i = box (S r i))
  (hS : ∀ r, r < N → ∀ i, i < 16 → S (r + 1) i = rk ws (r + 1) (if r + 1 < N then mix fE (rows (B r)) else rows (B r)) i) : ∀ r, r ≤ N → Eq16 (encTo ws N b r) (S r) := by
 intro r
 induction r with
 | zero => intro _ i hi; exact (h0 i hi).symm
 | succ r ih =>
  intro hr i hi
  have e : Eq16 (rows (each box (encTo ws N b r))) (rows (B r)) := rows_ext fun j hj => by
   show box (encTo ws N b r j) = B r j
   rw [ih (by omega) j hj, hB r (by omega) j hj]
  rw [hS r (by omega) i hi]
  show (if r + 1 < N then mix fE (rows (each box (encTo ws N b r))) else rows (each box (encTo ws N b r))) i ^^^ ws (16 * (r + 1) + i) = (if r + 1 < N then mix fE (rows (B r)) else rows (B r)) i ^^^ ws (16 * (r + 1) + i)
  by_cases h : r + 1 < N
  ·rw [if_pos h, if_pos h, mix_ext fE e i hi]
  rw [if_neg h, if_neg h, e i hi]
def tab2 (l : List (List Nat)) : Nat → Nat → Nat := fun r i => (l.getD r []).getD i 0
end Go.Proofs.YtlmnoapoofmmnaaGreatDoor.Aes
namespace Go.Proofs.YtlmnoapoofmmnaaGreatDoor.Aes
open Gf
def cK : List Nat := [43, 126, 21, 22, 40, 174, 210, 166, 171, 247, 21, 136, 9, 207, 79, 60]
def cT : List Nat := [43, 126, 21, 22, 40, 174, 210, 166, 171, 247, 21, 136, 9, 207, 79, 60, 160, 250, 254, 23, 136, 84, 44, 177, 35, 163, 57, 57, 42, 108, 118, 5, 242, 194, 149, 242, 122, 150, 185, 67, 89, 53, 128, 122, 115, 89, 246, 127, 61, 128, 71, 125, 71, 22, 254, 62, 30, 35, 126, 68, 109, 122, 136, 59, 239, 68, 165, 65, 168, 82, 91, 127, 182, 113, 37, 59, 219, 11, 173, 0, 212, 209, 198, 248, 124, 131, 157, 135, 202, 242, 184, 188, 17, 249, 21, 188, 109, 136, 163, 122, 17, 11, 62, 253, 219, 249, 134, 65, 202, 0, 147, 253, 78, 84, 247, 14, 95, 95, 201, 243, 132, 166, 79, 178, 78, 166, 220, 79, 234, 210, 115, 33, 181, 141, 186, 210, 49, 43, 245, 96, 127, 141, 41, 47, 172, 119, 102, 243, 25, 250, 220, 33, 40, 209, 41, 65, 87, 92, 0, 110, 208, 20, 249, 168, 201, 238, 37, 137, 225, 63, 12, 200, 182, 99, 12, 166]
def cM : List Nat := [119, 221, 172, 48, 106, 226, 102, 204, 249, 11, 193, 30, 228, 109, 81, 59]
theorem cT0 : ∀ i, i < 16 → tab cT i = tab cK i := by decide +kernel
theorem cT1 : ∀ t, t < 40 → ∀ k, k < 4 → tab cT (16 + 4 * t + k) = tab cT (4 * t + k) ^^^ nw 16 (tab cT) t k := by decide +kernel
theorem cT_words (i : Nat) (hi : i < 176) : words 16 (tab cK) i = tab cT i := words_tab 16 (by omega) _ _ 40 cT0 cT1 40 (by omega) i (by omega)
theorem cK_lt : ∀ i, i < 16 → tab cK i < 256 := by decide +kernel
def czS : List (List Nat) := [[43, 126, 21, 22, 40, 174, 210, 166, 171, 247, 21, 136, 9, 207, 79, 60], [220, 216, 127, 111, 155, 96, 170, 143, 31, 1, 15, 4, 87, 144, 162, 211], [158, 3, 133, 9, 68, 156, 70, 114, 195, 43, 10, 117, 56, 221, 130, 160], [213, 101, 103, 2, 107, 192, 49, 243, 205, 118, 100, 224, 41, 248, 252, 50], [92, 206, 255, 251, 217, 225, 254, 152, 156, 215, 223, 57, 123, 135, 232, 167], [145, 149, 183, 248, 144, 19, 154, 83, 4, 126, 151, 72, 124, 17, 228, 203], [100, 111, 117, 41, 247, 108, 188, 69, 253, 25, 147, 166, 126, 197, 52, 251], [235, 199, 86, 89, 85, 9, 177, 214, 46, 119, 46, 169, 17, 149, 33, 196], [13, 118, 221, 9, 100, 87, 20, 72, 106, 112, 150, 95, 42, 8, 136, 1], [24, 193, 85, 162, 169, 77, 94, 115, 239, 185, 116, 18, 251, 19, 120, 29], [125, 247, 107, 12, 26, 184, 153, 179, 62, 66, 240, 71, 185, 27, 84, 111]]
def czB : List (List Nat) := [[241, 243, 89, 71, 52, 228, 181, 36, 98, 104, 89, 196, 1, 138, 132, 235], [134, 97, 210, 168, 20, 208, 172, 115, 192, 124, 118, 242, 91, 96, 58, 102], [11, 123, 151, 1, 27, 222, 90, 64, 46, 241, 103, 157, 7, 193, 19, 224], [3, 77, 133, 119, 127, 186, 199, 13, 189, 56, 67, 225, 165, 65, 176, 35], [74, 139, 22, 15, 53, 248, 187, 70, 222, 14, 158, 18, 33, 23, 155, 92], [129, 42, 169, 65, 96, 125, 184, 237, 242, 243, 136, 82, 16, 130, 105, 31], [67, 168, 157, 165, 104, 80, 101, 110, 84, 212, 220, 36, 243, 166, 24, 15], [233, 198, 177, 203, 252, 1, 200, 246, 49, 245, 49, 211, 130, 42, 253, 28], [215, 56, 193, 1, 67, 91, 250, 82, 2, 81, 144, 207, 229, 48, 196, 124], [173, 120, 252, 58, 211, 227, 88, 143, 223, 86, 146, 201, 15, 125, 188, 164]]
theorem czS0 : ∀ i, i < 16 → tab2 czS 0 i = (fun _ => 0) i ^^^ tab cT (16 * 0 + i) := by decide +kernel
theorem czS1 : ∀ r, r < 10 → ∀ i, i < 16 → tab2 czB r i = box (tab2 czS r i) := by decide +kernel
theorem czS2 : ∀ r, r < 10 → ∀ i, i < 16 → tab2 czS (r + 1) i = rk (tab cT) (r + 1) (if r + 1 < 10 then mix fE (rows (tab2 czB r)) else rows (tab2 czB r)) i := by decide +kernel
theorem cz_enc (i : Nat) (hi : i < 16) : enc (words 16 (tab cK)) (rnd 16) (fun _ => 0) i = tab2 czS 10 i :=
 (encTo_ext (N := 10) (n := 176) cT_words (by omega) (Eq16.refl _) 10 (Nat.le_refl _) i hi).trans (enc_tab (tab cT) 10 (fun _ => 0) (tab2 czS) (tab2 czB) czS0 czS1 czS2 10 (Nat.le_refl _) i hi)
def cmS : List (List Nat) := [[92, 163, 185, 38, 66, 76, 180, 106, 82, 252, 212, 150, 237, 162, 30, 7], [194, 255, 89, 57, 158, 98, 86, 242, 57, 47, 169, 81, 131, 49, 131, 70], [212, 156, 73, 80, 173, 138, 82, 131, 109, 125, 88, 73, 234, 128, 29, 78], [106, 165, 212, 239, 155, 194, 50, 103, 253, 63, 214, 53, 58, 97, 156, 1], [14, 113, 241, 108, 30, 10, 231, 77, 249, 189, 154, 113, 127, 116, 204, 137], [47, 192, 147, 148, 13, 136, 243, 128, 12, 79, 212, 226, 103, 114, 169, 187], [178, 60, 199, 6, 194, 131, 182, 140, 237, 53, 215, 69, 155, 101, 5, 245], [231, 84, 1, 98, 176, 159, 29, 191, 91, 92, 108, 14, 96, 195, 13, 10], [152, 124, 53, 195, 195, 54, 71, 50, 69, 194, 2, 105, 171, 65, 108, 141], [5, 255, 44, 241, 84, 64, 5, 122, 223, 32, 150, 160, 250, 28, 57, 145], [187, 29, 105, 41, 233, 89, 55, 40, 127, 163, 125, 18, 155, 117, 103, 70]]
def cmB : List (List Nat) := [[74, 10, 86, 247, 44, 41, 141, 2, 0, 176, 72, 144, 85, 58, 114, 197], [37, 22, 203, 18, 11, 170, 177, 137, 18, 21, 211, 209, 236, 199, 236, 90], [72, 222, 59, 83, 149, 126, 0, 236, 60, 255, 106, 59, 135, 205, 164, 47], [2, 6, 72, 223, 20, 37, 35, 133, 84, 117, 246, 150, 128, 239, 222, 124], [171, 163, 161, 80, 114, 103, 148, 227, 153, 122, 184, 163, 210, 146, 75, 167], [21, 186, 220, 34, 215, 196, 13, 205, 254, 132, 72, 152, 133, 64, 211, 234], [55, 235, 198, 111, 37, 236, 78, 100, 85, 150, 14, 110, 20, 77, 107, 230], [148, 32, 124, 170, 231, 219, 164, 8, 57, 74, 80, 171, 208, 46, 215, 103], [70, 16, 150, 46, 46, 5, 160, 35, 110, 37, 119, 249, 98, 131, 80, 93], [107, 22, 113, 161, 32, 9, 107, 218, 158, 183, 144, 224, 45, 156, 18, 129]]
theorem cmS0 : ∀ i, i < 16 → tab2 cmS 0 i = (tab cM) i ^^^ tab cT (16 * 0 + i) := by decide +kernel
theorem cmS1 : ∀ r, r < 10 → ∀ i, i < 16 → tab2 cmB r i = box (tab2 cmS r i) := by decide +kernel
theorem cmS2 : ∀ r, r < 10 → ∀ i, i < 16 → tab2 cmS (r + 1) i = rk (tab cT) (r + 1) (if r + 1 < 10 then mix fE (rows (tab2 cmB r)) else rows (tab2 cmB r)) i := by decide +kernel
theorem cm_enc (i : Nat) (hi : i < 16) : enc (words 16 (tab cK)) (rnd 16) (tab cM) i = tab2 cmS 10 i :=
 (encTo_ext (N := 10) (n := 176) cT_words (by omega) (Eq16.refl _) 10 (Nat.le_refl _) i hi).trans (enc_tab (tab cT) 10 (tab cM) (tab2 cmS) (tab2 cmB) cmS0 cmS1 cmS2 10 (Nat.le_refl _) i hi)
end Go.Proofs.YtlmnoapoofmmnaaGreatDoor.Aes
namespace Go.Proofs.YtlmnoapoofmmnaaGreatDoor.Bk
open Mem Go.ChangeShapes Go.WideShapes Go.ChangeAt Go.RowKit
set_option maxRecDepth 100000 in
set_option maxHeartbeats 1000000 in
theorem right7_all (z : Int) (k : Nat) (hz : z = (k : Int)) (hk : k = 1 ∨ k = 2 ∨ k = 3) (A : Option Addr) (L c : Nat) (key : Nat → Nat) (w : World) (hR : Reads w w.heap.size A L key) :
  Calls Tryz.prog 17 #[.int .i64 z, .slice A L c] w fun e w' => ∃ v, e = .returned v ∧ Mem.Own w' w.heap.size 5 1 v (rn k) (rk L key) ∧ Below w.heap.size w w' := by
 subst hz
 have HR := hid hR
 clear hR
 have hm : ((k : Int) % 4) = (k : Int) := by omega
 have hB1 : Below w.heap.size w (w.alloc (.cells #[.int .i64 16, .int .i64 16, .int .i64 24, .int .i64 4] 3)) := (Below.refl _ _).alloc (Nat.le_refl _) _
 have hblk := Blk.fresh w 3 #[.int .i64 16, .int .i64 16, .int .i64 24, .int .i64 4]
 have hcell : (w.alloc (.cells #[.int .i64 16, .int .i64 16, .int .i64 24, .int .i64 4] 3)).cell? ⟨w.heap.size, k, none⟩ = some (.int .i64 (rn k : Int)) := by
  rw [hblk.cell]
  rcases hk with rfl | rfl | rfl <;> rfl
 have HB1 := hid hB1
 have hrn := (rn_le k).1
 clear hblk
 go_enter Tryz.func17, Tryz.ntmps17
 go_wp2_with fail
 clear hcell hm hB1
 go_loopw [6, 7] (fun v y wr => ∃ i : Nat, i ≤ rn k ∧ y = .int .i64 (i : Int) ∧ Mem.Own wr w.heap.size 5 1 v i (rk L key) ∧ Below w.heap.size w wr) (fun _ y _ => rn k - (intOf y).toNat)
 case atStart => exact ⟨0, by omega, rfl, Mem.Own.nil _ _ _ _ _, HB1.out⟩
 case round =>
  clear HB1
  obtain ⟨i, hi, rfl, hov, hBr⟩ := hrel
  obtain ⟨A', c', rfl, hc', -⟩ := hov.slice'
  have Hov := hid hov
  have HBr := hid hBr
  clear hov hBr
  by_cases hlt : i < rn k
  ·have hovA : Mem.Own (wr.alloc (.cells #[.int .u8 0] 5)) w.heap.size 5 1 (.slice A' i c') i (rk L key) := Hov.out.alloc _
   have hRA : Reads (wr.alloc (.cells #[.int .u8 0] 5)) (wr.heap.size + 1) (some ⟨wr.heap.size, 0, none⟩) 1 (fun _ => 0) := fun _ => ⟨_, rfl, Nat.lt_succ_self _, fun j hj => by
    have : j = 0 := by omega
    subst this
    exact (Blk.fresh wr 5 #[.int .u8 0]).cell 0⟩
   have hBa : Below w.heap.size w (wr.alloc (.cells #[.int .u8 0] 5)) := HBr.out.alloc HBr.out.size _
   have HovA := hid hovA
   have HRA := hid hRA
   have HBa := hid hBa
   clear hovA hRA hBa
   go_wp2_with (at_builtin; refine wpl_app_gen rfl _ _ 22 rfl w.heap.size 5 (.int .u8 0) Tryz.underlying22 info_u8 rfl _ i _ rfl HovA.out (some ⟨wr.heap.size, 0, none⟩) 1 1 _ _ HRA.out (fun h => by cases h) rfl (by omega) (by have := HBa.out.size; omega) ?_)
   intro v3 w3 ho3 hB3
   obtain ⟨A3, c3, rfl, hc3, -⟩ := ho3.slice'
   have HB3 := hid (HBa.out.trans hB3)
   by_cases hL0 : 0 < L
   ·have hL0I : (L : Int) > 0 := by omega
    obtain ⟨ad, rfl, had, hcs⟩ := HR.out hL0
    have hjl : i % L < L := Nat.mod_lt _ hL0
    have hcx : w3.cell? (ad.add (i % L)) = some (.int .u8 ((key (i % L) : Nat) : Int)) := (HB3.out.cell (p := ad.add (i % L)) (by rw [add_block]; exact had)).trans (hcs _ hjl)
    have hmod : (i : Int) % (L : Int) = ((i % L : Nat) : Int) := by simp
    obtain ⟨g, rfl, hgb, hgl, hcg, hfg, hoP⟩ := Bk.Own.put ho3 (Nat.lt_succ_self i) (key (i % L))
    have HoP := hid hoP
    clear hcs ho3 hoP hB3
    have Hx : Hid (rk L key i = key (i % L)) := hid (by unfold rk; rw [if_pos hL0])
    generalize i % L = j at *
    go_wp2_with (first
     | (with_reducible refine wpl_sl1 rfl 22 _ _ rfl ad L c rfl .i64 _ rfl j hmod 5 Tryz.underlying22 hjl i8q ?_)
     | (with_reducible refine wpl_ld rfl 5 _ rfl _ rfl .u8 Tryz.underlying5 _ hcx ?_)
     | (with_reducible refine wpl_sl1 rfl 22 _ _ rfl ⟨g, 0, none⟩ (i + 1) c3 rfl .i64 _ rfl i rfl 5 Tryz.underlying22 (Nat.lt_succ_self i) i8q ?_)
     | (with_reducible refine wpl_st rfl 5 _ _ rfl ⟨g, i, none⟩ rfl .u8 _ rfl i8q _ hcg hfg ?_))
    refine ⟨⟨i + 1, by omega, val_int (by omega), HoP.out.ext (fun q hq => ?_), HB3.out.setCell (by exact hgb) _⟩, by simp [intOf]; omega⟩
    by_cases hqi : q = i
    ·subst hqi; rw [upd_same, Hx.out]
    rw [upd_other _ _ _ _ hqi]; unfold cat; rw [if_pos (by omega)]
   have hL0I : ¬ (L : Int) > 0 := by omega
   go_wp2_with fail
   go_round
   case rel =>
    refine ⟨i + 1, by omega, val_int (by omega), ho3.ext (fun q hq => ?_), HB3.out⟩
    unfold cat rk
    rw [if_neg hL0]
    split <;> rfl
   case measure => simp [intOf]; omega
  have hltI : ¬ (i : Int) < (rn k : Int) := by omega
  go_wp2_with fail
  go_ret
  have : i = rn k := by omega
  subst this
  exact ⟨_, rfl, Hov.out, HBr.out⟩
theorem right7_any (z : Int) (k : Nat) (hz : z = (k : Int)) (hk : k = 1 ∨ k = 2 ∨ k = 3) (A : Option Addr) (L c : Nat) (key : Nat → Nat) (w : World) (_hL : L ≤ 1000) (hR : Reads w w.heap.size A L key) :
  Calls Tryz.prog 17 #[.int .i64 z, .slice A L c] w fun e w' => ∃ v, e = .returned v ∧ Mem.Own w' w.heap.size 5 1 v (rn k) (rk L key) ∧ Below w.heap.size w w' := right7_all z k hz hk A L c key w hR
end Go.Proofs.YtlmnoapoofmmnaaGreatDoor.Bk
namespace Go.Proofs.YtlmnoapoofmmnaaGreatDoor.Mc
open Mem Bk Md Go.ChangeShapes Go.WideShapes Go.ChangeAt Go.RowKit
theorem fits16 : fits 1 16 := .inl ⟨rfl, .inl rfl⟩
theorem sz1 : sz 1 = 16 := rfl
def kK : Nat → Nat := Aes.tab Aes.cK
theorem kK_row : #[Value.int .u8 43, .int .u8 126, .int .u8 21, .int .u8 22, .int .u8 40, .int .u8 174, .int .u8 210, .int .u8 166, .int .u8 171, .int .u8 247, .int .u8 21, .int .u8 136, .int .u8 9, .int .u8 207, .int .u8 79, .int .u8 60] = row 16 (b8 kK) := by kernel_rfl
def wK : Nat → Nat := Aes.tab [187, 29, 105, 41]
theorem wK_row : #[Value.int .u8 187, .int .u8 29, .int .u8 105, .int .u8 41] = row 4 (b8 wK) := by kernel_rfl
theorem lz (i : Nat) (hi : i < 16) : tc 1 16 kK false zf i = Aes.tab2 Aes.czS 10 i := by
 unfold tc
 rw [if_pos rfl, if_neg (by simp)]
 exact Aes.cz_enc i hi
def lzT : Nat → Nat := fun i => Aes.tab2 Aes.czS 10 i
theorem last_blk : ∀ i, i < 16 → (if i = 0 then 128 else 0) ^^^ dbl 16 (dbl 16 lzT) i ^^^ 0 = Aes.tab Aes.cM i := by decide +kernel
theorem wh0 : ¬ wh 16 0 := fun h => h.1 rfl
theorem ex_text (i : Nat) (hi : i < 16) : xr (bl 1 (mtF 16 0 zf (dbl 16 (tc 1 16 kK false zf))) 0) zf i = Aes.tab Aes.cM i := by
 rw [← last_blk i hi]
 have hd : dbl 16 (dbl 16 (tc 1 16 kK false zf)) i = dbl 16 (dbl 16 lzT) i := dbl_ext (by omega) (dbl_ext (by omega) lz) i hi
 unfold xr bl mtF
 rw [if_neg wh0]
 unfold cat
 rw [if_neg (show ¬ 0 * sz 1 + i < padN 0 16 - 16 by have : padN 0 16 = 16 := rfl; omega), show 0 * sz 1 + i - (padN 0 16 - 16) = i by have : padN 0 16 = 16 := rfl; omega]
 unfold xr
 rw [hd]
 have e : padF 0 zf (padN 0 16 - 16 + i) = if i = 0 then 128 else 0 := by
  have : padN 0 16 = 16 := rfl
  rw [this, Nat.sub_self, Nat.zero_add]
  unfold padF
  rw [if_neg (by omega)]
 dsimp only
 rw [e]
 rfl
theorem ex_code (i : Nat) (hi : i < 16) : cmacF 1 16 kK 0 zf i = Aes.tab2 Aes.cmS 10 i := by
 unfold cmacF
 rw [sz1, show mtB 16 0 = 0 + 1 from rfl, ah_next, ah_zero]
 rw [tc_ext (y := Aes.tab Aes.cM) fits16 (by omega) (fun j hj => ex_text j hj) i hi]
 unfold tc
 rw [if_pos rfl, if_neg (by simp)]
 exact Aes.cm_enc i hi
theorem ex_same : eqB 4 (cmacF 1 16 kK 0 zf) wK = true := eqB_true fun i hi => by
 rw [ex_code i (by omega)]
 revert i
 decide +kernel
set_option maxRecDepth 100000 in
set_option maxHeartbeats 1000000 in
theorem awake7_any (w : World) : Calls Tryz.prog 15 #[] w fun e w' => e = .returned (.bool true) ∧ Below w.heap.size w w' := by
 have hB0 := (Below.refl w.heap.size w).alloc (Nat.le_refl _) (.cells (row 16 (b8 kK)) 5)
 have HN := hid (new1 (some ⟨w.heap.size, 0, none⟩) 16 16 kK p0 none (w.alloc (.cells (row 16 (b8 kK)) 5)) (by omega) (fun h => by cases h) Aes.cK_lt (Blk.fresh _ _ _).reads fits16)
 have HK := hid (Blk.fresh w 5 (row 16 (b8 kK)))
 have HB0 := hid hB0
 clear hB0
 have hkr := kK_row
 have hwr := wK_row
 go_enter Tryz.func15, Tryz.ntmps15
 go_wp2_with fail
 clear hkr
 refine HN.out.mono ?_
 rintro e w1 ⟨gc, rfl, hci, hgc, hB1⟩
 have HB1 := hid (HB0.out.trans (hB1.mono HB0.out.size))
 have HK1 := hid (HK.out.below hB1 HK.out.lt)
 have Hc1 := hid hci
 clear HN hB1 HB0 hci HK
 go_wp2_with fail
 refine (cmac_any _ p0 1 gc _ 16 kK none 0 0 zf 4 (by omega) Hc1.out (by omega) (by omega) (by rw [sz1]; omega) (fun _ => ⟨rfl, rfl⟩) (fun i hi => by omega) (fun h => by omega)).mono ?_
 rintro e w2 ⟨v2, rfl, ho2, hB2⟩
 obtain ⟨A2, c2, rfl, hc2, -, -⟩ := ho2.slice'
 have HB2 := hid (HB1.out.trans (hB2.mono HB1.out.size))
 have HK2 := hid (HK1.out.below hB2 HK1.out.lt)
 have HX2 := hid ho2.reads
 clear Hc1 hB2 HB1 HK1 ho2
 go_wp2_with fail
 refine (retail_any _ (some ⟨w.heap.size, 0, none⟩) 16 kK none 0 0 zf 8 (by omega) Aes.cK_lt (by omega) (by omega) (by omega) (fun _ => ⟨rfl, rfl⟩) (fun i hi => by omega) (Blk.reads HK2.out) (fun h => by omega)).mono ?_
 rintro e w3 ⟨v3, rfl, ho3, hB3⟩
 obtain ⟨A3, c3, rfl, hc3, -, -⟩ := ho3.slice'
 have HB3 := hid (HB2.out.trans (hB3.mono HB2.out.size))
 have HX3 := hid ((HX2.out.below hB3).more hB3.size)
 clear hB3 HB2 HK2 ho3 HX2
 have HW := hid (Blk.reads (Blk.fresh w3 5 (row 4 (b8 wK))))
 have hBw := (Below.refl w3.heap.size w3).alloc (Nat.le_refl _) (.cells (row 4 (b8 wK)) 5)
 have HXw := hid ((HX3.out.below hBw).more hBw.size)
 have HBw := hid (HB3.out.trans (hBw.mono HB3.out.size))
 clear hBw HX3 HB3
 go_wp2_with fail
 clear hwr
 refine (same_any A2 (some ⟨w3.heap.size, 0, none⟩) 4 c2 4 (cmacF 1 16 kK 0 zf) wK _ (by omega) HXw.out HW.out).mono ?_
 rintro e w4 ⟨rfl, hB4⟩
 rw [ex_same]
 have HB4 := hid (HBw.out.trans (hB4.mono HBw.out.size))
 clear HXw HW hB4 HBw
 go_wp2_with fail
 refine (pad_any none 0 0 zf 8 8 _ (by omega) (by omega) (by omega) rfl (fun _ => ⟨rfl, rfl⟩) (fun h => by omega)).mono ?_
 rintro e w5 ⟨rfl, -, hB5⟩
 have HB5 := hid (HB4.out.trans (hB5.mono HB4.out.size))
 clear hB5 HB4
 go_wp2_with fail
 go_ret
 exact ⟨rfl, HB5.out⟩
end Go.Proofs.YtlmnoapoofmmnaaGreatDoor.Mc
