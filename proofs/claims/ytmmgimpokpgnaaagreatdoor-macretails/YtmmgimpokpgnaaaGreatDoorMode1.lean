/-
  What package mode's small functions return: Xor, sizeOf, isWhole, and a cipher's Do without a book (AES, TDES).
-/
import Derived.Test.YtmmgimpokpgnaaaGreatDoorLaw05
import Derived.Test.YtmmgimpokpgnaaaGreatDoorTurn
namespace Go.Proofs.YtmmgimpokpgnaaaGreatDoor.Md
open Mem Bk Go.ChangeShapes Go.WideShapes Go.ChangeAt Go.RowKit
def xr (f g : Nat → Nat) : Nat → Nat := fun i => f i ^^^ g i
theorem xr_lt {f g : Nat → Nat} {i : Nat} (hf : f i < 256) (hg : g i < 256) : xr f g i < 256 := Nat.xor_lt_two_pow (n := 8) hf hg
theorem info8 : (Tryz.prog.info? 5).map (fun i => (i.zero, i.size, i.bytes)) = some (some (.int .u8 0), 1, 1) := by kernel_rfl
set_option maxRecDepth 100000 in
set_option maxHeartbeats 1000000 in
theorem xor_any (A A' : Option Addr) (n c c' : Nat) (f g : Nat → Nat) (w : World) (hn : n ≤ 100000) (hf : ∀ i, i < n → f i < 256) (hg : ∀ i, i < n → g i < 256) (hR : Reads w w.heap.size A n f) (hR' : Reads w w.heap.size A' n g) :
    Calls Tryz.prog 26 #[.slice A n c, .slice A' n c'] w fun e w' => e = .returned (.tuple #[.slice (some ⟨w.heap.size, 0, none⟩) n n, .nilIface]) ∧ Blk w' w.heap.size 5 (row n (b8 (xr f g))) ∧ Below w.heap.size w w' := by
  have HR := hid hR
  have HR' := hid hR'
  have Hf := hid hf
  have Hg := hid hg
  clear hR hR' hf hg
  go_enter Tryz.func26, Tryz.ntmps26
  go_wp2_with (with_reducible refine wpl_make rfl 22 5 _ _ rfl Tryz.underlying22 info8 _ _ _ _ rfl rfl n rfl rfl (by omega) ?_)
  go_loopw [7, 19] (fun _ i wr => ∃ (k : Nat) (m : Nat → Nat), k ≤ n ∧ i = .int .i64 k ∧ Hid (∀ j, m j = if j < k then xr f g j else 0) ∧ Blk wr w.heap.size 5 (row n (b8 m)) ∧ Below w.heap.size w wr) (fun _ i _ => n - (intOf i).toNat)
  case atStart => exact ⟨0, fun _ => 0, by omega, rfl, hid (by simp), Blk.fresh _ _ _, (Below.refl _ _).alloc (Nat.le_refl _) _⟩
  case round =>
    obtain ⟨k, m, hk, rfl, HM, hb, hB⟩ := hrel
    by_cases hlt : k < n
    · have hfk := Hf.out k hlt
      have hgk := Hg.out k hlt
      obtain ⟨ad, rfl, hbl, hcs⟩ := HR.out (by omega)
      obtain ⟨ad', rfl, hbl', hcs'⟩ := HR'.out (by omega)
      have hc := (hB.cell (p := ad.add k) (by rw [add_block]; exact hbl)).trans (hcs k hlt)
      have hc' := (hB.cell (p := ad'.add k) (by rw [add_block]; exact hbl')).trans (hcs' k hlt)
      clear hcs hcs'
      go_wp2_with fail
      refine wp_region_still_tail 12 (by kernel_rfl) (by kernel_rfl) ?_
      simp only [List.take_succ_cons, List.take_zero, List.drop_succ_cons, List.drop_zero]
      change wpStill _ _ wr.drew (fun a' => wpList _ _ _ _ a' wr.drew) _ _
      have hd : wr.drew.cell? (ad.add (k * 1)) = some (.int .u8 ((f k : Nat) : Int)) := by rw [Nat.mul_one]; exact hc
      have hd' : wr.drew.cell? (ad'.add (k * 1)) = some (.int .u8 ((g k : Nat) : Int)) := by rw [Nat.mul_one]; exact hc'
      have hb1 : Blk wr.drew w.heap.size 5 (row n (b8 m)) := hb
      have hB1 := hB.drew
      clear hc hc' hb hB
      generalize wr.drew = w2 at *
      have hv1 := hb1.val k hlt
      have hv2 := hb1.free k
      repeat (first
        | (with_reducible refine wps_sl rfl 22 _ _ rfl ad n c rfl .i64 _ rfl k rfl 5 Tryz.underlying22 hlt 1 i8q ?_)
        | (with_reducible refine wps_sl rfl 22 _ _ rfl ad' n c' rfl .i64 _ rfl k rfl 5 Tryz.underlying22 hlt 1 i8q ?_)
        | (with_reducible refine wps_sl rfl 22 _ _ rfl _ n n rfl .i64 _ rfl k rfl 5 Tryz.underlying22 hlt 1 i8q ?_)
        | (with_reducible refine wps_ld rfl 5 _ rfl _ rfl .u8 Tryz.underlying5 _ hd ?_)
        | (with_reducible refine wps_ld rfl 5 _ rfl _ rfl .u8 Tryz.underlying5 _ hd' ?_)
        | still_step)
      refine wpStill_nil ?_
      rw [Nat.mul_one, add_zero_off]
      go_wp2_with (with_reducible refine wpl_st rfl 5 _ _ rfl _ rfl .u8 _ rfl i8q _ hv1 hv2 ?_)
      go_round
      case rel =>
        rw [u8_xor_nat _ _ hfk hgk]
        exact ⟨k + 1, upd m k (xr f g k), by omega, val_int (by omega), hid (fill_step (F := xr f g) (f := fun _ => 0) HM.out), hb1.put k _, hB1.setCell (by simp) _⟩
      case measure => simp [intOf]; omega
    · go_wp2_with fail
      go_ret2
      have hm : row n (b8 m) = row n (b8 (xr f g)) := row_b8_ext (fill_end (f := fun _ => 0) HM.out (by omega))
      exact ⟨rfl, hm ▸ hb, hB⟩
set_option maxRecDepth 100000 in
theorem xor_len (A A' : Option Addr) (n n' c c' : Nat) (w : World) (hne : n ≠ n') :
    Calls Tryz.prog 26 #[.slice A n c, .slice A' n' c'] w fun e w' => e = .returned (.tuple #[.slice none 0 0, .iface 70 (.int .i64 2)]) ∧ w = w' := by
  have hne' : (n : Int) ≠ (n' : Int) := by omega
  go_enter Tryz.func26, Tryz.ntmps26
  go_wp2_with fail
  go_ret2
  exact ⟨rfl, rfl⟩
set_option maxRecDepth 100000 in
theorem sizeOf_any (w : World) (p : Pl) (k gc base L : Nat) (key : Nat → Nat) (h : CiAt w p k gc base L key) :
    Calls Tryz.prog 46 #[.pointer (some ⟨gc, 0, none⟩)] w fun e w' => e = .returned (.int .i64 (sz k : Int)) ∧ w = w' := by
  have H := hid h
  clear h
  go_enter Tryz.func46, Tryz.ntmps46
  go_wp2_with (go_at_call 12; refine (size_any w p k gc base L key H.out).mono ?_; rintro e w1 ⟨rfl, rfl⟩)
  go_ret
  exact ⟨rfl, rfl⟩
set_option maxRecDepth 100000 in
theorem whole_any (A : Option Addr) (n c m : Nat) (hm : m = 8 ∨ m = 16) (hn : n ≤ 100000) (w : World) :
    Calls Tryz.prog 47 #[.slice A n c, .int .i64 (m : Int)] w fun e w' => e = .returned (.bool (decide (n % m = 0))) ∧ w = w' := by
  go_enter Tryz.func47, Tryz.ntmps47
  rcases hm with rfl | rfl
  · by_cases h : n % 8 = 0
    · have h1 : (n : Int) % 8 = 0 := by omega
      go_wp2_with fail
      go_ret
      simp [h, h1]
    · have h1 : ¬ (n : Int) % 8 = 0 := by omega
      go_wp2_with fail
      go_ret
      simp [h, h1]
  · by_cases h : n % 16 = 0
    · have h1 : (n : Int) % 16 = 0 := by omega
      go_wp2_with fail
      go_ret
      simp [h, h1]
    · have h1 : ¬ (n : Int) % 16 = 0 := by omega
      go_wp2_with fail
      go_ret
      simp [h, h1]
/-- what AES and TDES do with a block -/
def tc (k L : Nat) (key : Nat → Nat) (bk : Bool) (x : Nat → Nat) : Nat → Nat :=
  if k = 1 then (if bk then Aes.dec (Aes.words L key) (Aes.rnd L) x else Aes.enc (Aes.words L key) (Aes.rnd L) x) else Des.tdes L key x bk
set_option maxRecDepth 100000 in
set_option maxHeartbeats 1000000 in
theorem do12 (w : World) (p : Pl) (k gc base L : Nat) (key : Nat → Nat) (ad : Addr) (c : Nat) (bk : Bool) (x : Nat → Nat) (hk3 : k ≠ 3) (h : CiAt w p k gc base L key) (had : ad.block < w.heap.size) (hc : ∀ i, i < sz k → w.cell? (ad.add i) = some (.int .u8 ((x i : Nat) : Int))) (hx : ∀ i, i < sz k → x i < 256) :
    Calls Tryz.prog 13 #[.pointer (some ⟨gc, 0, none⟩), .slice (some ad) (sz k) c, .bool bk] w fun e w' => ∃ g, e = .returned (.tuple #[.slice (some ⟨g, 0, none⟩) (sz k) (sz k), .nilIface]) ∧ Blk w' g (tyOf k) (row (sz k) (b8 (tc k L key bk x))) ∧ w.heap.size ≤ g ∧ Below w.heap.size w w' := by
  obtain ⟨h0, ⟨rfl, h2, kb, v, h3, h4, h5⟩ | ⟨rfl, h2, kb, v, h3, h4, h5⟩ | ⟨rfl, h2, kb, v, h3, h4, h5⟩⟩ := h
  · have hc0 : w.cell? ⟨gc, 0, none⟩ = some (.int .i64 16) := h3.cell 0
    have hc1 : w.cell? ⟨gc, 1, none⟩ = some (.func (.func 80) #[] #[.pointer (some ⟨kb, 0, none⟩)]) := h3.cell 1
    obtain ⟨A, ck, rfl, hck, -, -⟩ := h5.slice'
    generalize hy : tc 1 L key bk x = y
    have HT := hid (aes_turn bk ad c kb A L ck key x w h2 h0 hx h4 h5.reads had hc y (by rw [← hy, tc, if_pos rfl]))
    clear h0 h2 h3 h4 h5 hc hx hy
    have hfn := func_nil
    change Calls Tryz.prog 13 #[.pointer (some ⟨gc, 0, none⟩), .slice (some ad) 16 c, .bool bk] w _
    go_enter Tryz.func13, Tryz.ntmps13
    go_wp2_with fail
    refine HT.out.mono ?_
    rintro e w1 ⟨g, rfl, hbg, hgs, hB⟩
    go_wp2_with fail
    go_ret2
    exact ⟨g, rfl, hbg, hgs, hB⟩
  · have hc0 : w.cell? ⟨gc, 0, none⟩ = some (.int .i64 8) := h3.cell 0
    have hc1 : w.cell? ⟨gc, 1, none⟩ = some (.func (.func 83) #[] #[.pointer (some ⟨kb, 0, none⟩)]) := h3.cell 1
    obtain ⟨A, ck, rfl, hck, -, -⟩ := h5.slice'
    generalize hy : tc 2 L key bk x = y
    have HT := hid (tdes_turn bk ad c kb A L ck key x w h2 hck h0 hx h4 h5.reads had hc y (by rw [← hy, tc, if_neg (by omega)]))
    clear h0 h2 h3 h4 h5 hc hx hy
    have hfn := func_nil
    change Calls Tryz.prog 13 #[.pointer (some ⟨gc, 0, none⟩), .slice (some ad) 8 c, .bool bk] w _
    go_enter Tryz.func13, Tryz.ntmps13
    go_wp2_with fail
    refine HT.out.mono ?_
    rintro e w1 ⟨g, rfl, hbg, hgs, hB⟩
    go_wp2_with fail
    go_ret2
    exact ⟨g, rfl, hbg, hgs, hB⟩
  · exact absurd rfl hk3
end Go.Proofs.YtmmgimpokpgnaaaGreatDoor.Md
