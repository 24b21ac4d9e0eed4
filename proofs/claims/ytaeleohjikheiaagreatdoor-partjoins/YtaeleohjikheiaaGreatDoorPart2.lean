/-
  What part.Join returns.
-/
import Derived.Test.YtaeleohjikheiaaGreatDoorPart1
namespace Go.Proofs.YtaeleohjikheiaaGreatDoor.Pt
open Mem Bk Md Go.ChangeShapes Go.WideShapes Go.ChangeAt Go.RowKit
/-- a slice of byte slices: the i-th lies at a i, has l i bytes and reads as f i -/
def PartsAt (w : World) (P : Option Addr) (n : Nat) (a : Nat → Option Addr) (l c : Nat → Nat) (f : Nat → Nat → Nat) : Prop :=
  (0 < n → ∃ ad, P = some ad ∧ ad.block < w.heap.size ∧ ∀ i, i < n → w.cell? (ad.add i) = some (.slice (a i) (l i) (c i))) ∧ ∀ i, i < n → Reads w w.heap.size (a i) (l i) (f i)
theorem PartsAt.up {w w' : World} {P : Option Addr} {n : Nat} {a : Nat → Option Addr} {l c : Nat → Nat} {f : Nat → Nat → Nat} (h : PartsAt w P n a l c f) (hB : Below w.heap.size w w') : PartsAt w' P n a l c f :=
  ⟨fun hn => by
    obtain ⟨ad, h1, h2, h3⟩ := h.1 hn
    exact ⟨ad, h1, Nat.lt_of_lt_of_le h2 hB.size, fun i hi => (hB.cell (p := ad.add i) (by rw [add_block]; exact h2)).trans (h3 i hi)⟩, fun i hi => ((h.2 i hi).below hB).more hB.size⟩
/-- the first n parts, put together -/
def jn (f : Nat → Nat → Nat) : Nat → Nat → Nat
  | 0 => fun _ => 0
  | n + 1 => xr (jn f n) (f n)
theorem jn_lt {f : Nat → Nat → Nat} {L : Nat} : ∀ n, (∀ i, i < n → ∀ q, q < L → f i q < 256) → ∀ q, q < L → jn f n q < 256
  | 0, _, _, _ => by unfold jn; omega
  | n + 1, h, q, hq => xr_lt (jn_lt n (fun i hi => h i (by omega)) q hq) (h n (by omega) q hq)
/-- of TDES made odd -/
def jk (k : Nat) (g : Nat → Nat) : Nat → Nat := if k = 2 then odF g else g
theorem iSS : (Tryz.prog.info? 22).map (·.size) = some 1 := by kernel_rfl
theorem join_kind (z : Int) (h1 : z ≠ 1) (h2 : z ≠ 2) (P : Option Addr) (n c : Nat) (w : World) : Calls Tryz.prog 36 #[.int .i64 z, .slice P n c] w fun e w' => e = .returned (.tuple #[.slice none 0 0, .iface 71 (.int .i64 1)]) ∧ w' = w := by
  go_enter Tryz.func36, Tryz.ntmps36
  go_wp2_with (go_at_call 67; refine (iskind_no z h1 h2 _).mono ?_; rintro e w1 ⟨rfl, rfl⟩)
  go_ret2
  exact ⟨rfl, rfl⟩
theorem join_few (k : Nat) (hk : k = 1 ∨ k = 2) (P : Option Addr) (n c : Nat) (hn : n < 2 ∨ 3 < n) (w : World) : Calls Tryz.prog 36 #[.int .i64 (k : Int), .slice P n c] w fun e w' => e = .returned (.tuple #[.slice none 0 0, .iface 71 (.int .i64 1)]) ∧ w' = w := by
  rcases hn with h | h
  · have hI : (n : Int) < 2 := by omega
    go_enter Tryz.func36, Tryz.ntmps36
    go_wp2_with (go_at_call 67; refine (iskind_yes k hk _).mono ?_; rintro e w1 ⟨rfl, rfl⟩)
    go_ret2
    exact ⟨rfl, rfl⟩
  · have hI : ¬ (n : Int) < 2 := by omega
    have hJ : (n : Int) > 3 := by omega
    go_enter Tryz.func36, Tryz.ntmps36
    go_wp2_with (go_at_call 67; refine (iskind_yes k hk _).mono ?_; rintro e w1 ⟨rfl, rfl⟩)
    go_ret2
    exact ⟨rfl, rfl⟩
set_option maxRecDepth 100000 in
theorem join_first (k : Nat) (hk : k = 1 ∨ k = 2) (P : Option Addr) (n cp : Nat) (a : Nat → Option Addr) (l c : Nat → Nat) (f : Nat → Nat → Nat) (w : World) (hn : n = 2 ∨ n = 3) (h : PartsAt w P n a l c f) (hl : l 0 ≤ 100000) (hf : ¬ fit9 k (l 0)) :
    Calls Tryz.prog 36 #[.int .i64 (k : Int), .slice P n cp] w fun e w' => e = .returned (.tuple #[.slice none 0 0, .iface 81 (.pointer (some ⟨w.heap.size, 0, none⟩))]) ∧ Blk w' w.heap.size 84 #[.int .i64 0, .iface 71 (.int .i64 2)] ∧ Below w.heap.size w w' := by
  have hI : ¬ (n : Int) < 2 := by omega
  have hJ : ¬ (n : Int) > 3 := by omega
  have hn0 : 0 < n := by omega
  obtain ⟨ad, rfl, had, hcs⟩ := h.1 hn0
  have hc0 : w.cell? (ad.add 0) = some (.slice (a 0) (l 0) (c 0)) := hcs 0 hn0
  have HF := hid (refuse_size k hk (a 0) (l 0) (c 0) hl hf)
  generalize l 0 = l0 at *
  generalize a 0 = a0 at *
  generalize c 0 = c0 at *
  clear h hf hcs
  go_enter Tryz.func36, Tryz.ntmps36
  go_wp2_with (first
    | (go_at_call 67; refine (iskind_yes k hk _).mono ?_; rintro e w1 ⟨rfl, rfl⟩)
    | (with_reducible refine wpl_sl1 rfl 59 _ _ rfl ad n cp rfl .i64 _ rfl 0 rfl 22 Tryz.underlying59 hn0 iSS ?_)
    | (with_reducible refine wpl_val rfl _ (exec_lds 22 _ rfl (ad.add 0) rfl 5 Tryz.underlying22 _ hc0) ?_)
    | (go_at_call 61; refine (HF.out _).mono ?_; rintro e w1 ⟨rfl, rfl⟩))
  go_ret2
  exact ⟨rfl, Blk.fresh _ _ _, (Below.refl _ _).alloc (Nat.le_refl _) _⟩
set_option maxRecDepth 100000 in
set_option maxHeartbeats 1000000 in
/-- a right first part: put together, or where a part is of another length -/
theorem join_any (k : Nat) (P : Option Addr) (n cp : Nat) (a : Nat → Option Addr) (l c : Nat → Nat) (f : Nat → Nat → Nat) (L J : Nat) (w : World) (hn : n = 2 ∨ n = 3) (h : PartsAt w P n a l c f) (hL : fit9 k L) (hl : l 0 = L) (hJ : J ≤ n) (hJ0 : 0 < J) (hJl : ∀ i, i < J → l i = L) (hJn : J < n → l J ≠ L) (hb : ∀ i, i < J → ∀ q, q < L → f i q < 256) :
    Calls Tryz.prog 36 #[.int .i64 (k : Int), .slice P n cp] w fun e w' => Below w.heap.size w w' ∧ (if J = n then ∃ g, e = .returned (.tuple #[.slice (some ⟨g, 0, none⟩) L L, .nilIface]) ∧ Blk w' g 5 (row L (b8 (jk k (jn f n)))) ∧ w.heap.size ≤ g
      else ∃ g, e = .returned (.tuple #[.slice none 0 0, .iface 81 (.pointer (some ⟨g, 0, none⟩))]) ∧ Blk w' g 84 #[.int .i64 (J : Int), .iface 71 (.int .i64 2)]) := by
  have hk := hL.1
  have hL32 : L ≤ 32 := by have := hL.2; omega
  have hnI : ¬ (n : Int) < 2 := by omega
  have hnJ : ¬ (n : Int) > 3 := by omega
  have hn0 : 0 < n := by omega
  obtain ⟨ad, rfl, had, hcs⟩ := h.1 hn0
  have hc0 : w.cell? (ad.add 0) = some (.slice (a 0) L (c 0)) := by rw [← hl]; exact hcs 0 hn0
  have HF := hid (refuse_ok k (a 0) L (c 0) (by omega) hL)
  have HP := hid h
  have HC := hid hcs
  have HJl := hid hJl
  have HJn := hid hJn
  have Hb := hid hb
  have hs0 : Hid (a 0 = a 0) := hid rfl
  generalize ha0 : a 0 = a0 at hc0 HF
  generalize hc0' : c 0 = c0 at hc0 HF
  clear h hL hl hcs hJl hJn hb ha0 hc0' hs0
  go_enter Tryz.func36, Tryz.ntmps36
  go_wp2_with (first
    | (go_at_call 67; refine (iskind_yes k hk _).mono ?_; rintro e w1 ⟨rfl, rfl⟩)
    | (with_reducible refine wpl_sl1 rfl 59 _ _ rfl ad n cp rfl .i64 _ rfl 0 rfl 22 Tryz.underlying59 hn0 iSS ?_)
    | (with_reducible refine wpl_val rfl _ (exec_lds 22 _ rfl (ad.add 0) rfl 5 Tryz.underlying22 _ hc0) ?_)
    | (go_at_call 61; refine (HF.out _).mono ?_; rintro e w1 ⟨rfl, rfl⟩)
    | (with_reducible refine wpl_make rfl 22 5 _ _ rfl Tryz.underlying22 info8 _ _ _ _ rfl rfl L rfl rfl (by omega) ?_))
  generalize Value.bool (decide ((n : Int) < 2) || decide (3 < (n : Int))) = vb0 at *
  generalize Value.bool (decide ((n : Int) < 2)) = vb1 at *
  generalize Value.bool (decide (3 < (n : Int))) = vb2 at *
  have hB0 : Below w1.heap.size w1 (w1.alloc (.cells (row L (b8 fun _ => 0)) 5)) := (Below.refl _ _).alloc (Nat.le_refl _) _
  have hb0 := Blk.fresh w1 5 (row L (b8 fun _ => 0))
  go_loopw [7, 8, 9, 10, 11, 44] (fun jv _ _ _ _ iv wr => ∃ (i g : Nat), i ≤ J ∧ iv = .int .i64 (i : Int) ∧ jv = .slice (some ⟨g, 0, none⟩) L L ∧ w1.heap.size ≤ g ∧ Blk wr g 5 (row L (b8 (jn f i))) ∧ Below w1.heap.size w1 wr) (fun _ _ _ _ _ iv _ => n - (intOf iv).toNat)
  case atStart => exact ⟨0, w1.heap.size, by omega, rfl, rfl, Nat.le_refl _, hb0, hB0⟩
  case round =>
    clear hb0 hB0
    obtain ⟨i, g, hi, rfl, rfl, hg, hb, hB⟩ := hrel
    rename World => wo
    by_cases hlt : i < n
    · have hci : wo.cell? (ad.add i) = some (.slice (a i) (l i) (c i)) := (hB.cell (p := ad.add i) (by rw [add_block]; exact had)).trans (HC.out i hlt)
      by_cases hiJ : i < J
      · have hli : l i = L := HJl.out i hiJ
        rw [hli] at hci
        have HRi : Hid (Reads wo wo.heap.size (a i) L (f i)) := hid (by have := HP.out.2 i hlt; rw [hli] at this; exact (this.below hB).more hB.size)
        have Hbi := hid (Hb.out i hiJ)
        have Hjl := hid (jn_lt (L := L) i (fun q hq => Hb.out q (by omega)))
        have HXr := hid (xor_any (some ⟨g, 0, none⟩) (a i) L L (c i) (jn f i) (f i) wo (by omega) Hjl.out Hbi.out hb.reads HRi.out)
        have HB := hid hB
        generalize a i = ai at *
        generalize c i = ci at *
        clear hli hb hB
        go_wp2_with (first
          | (with_reducible refine wpl_sl1 rfl 59 _ _ rfl ad n cp rfl .i64 _ rfl i rfl 22 Tryz.underlying59 hlt iSS ?_)
          | (with_reducible refine wpl_val rfl _ (exec_lds 22 _ rfl (ad.add i) rfl 5 Tryz.underlying22 _ hci) ?_)
          | (go_at_call 68; refine HXr.out.mono ?_; rintro e w2 ⟨rfl, hx2, hB2⟩))
        go_round
        case rel => exact ⟨i + 1, wo.heap.size, by omega, val_int (by omega), rfl, HB.out.size, hx2, HB.out.trans (hB2.mono HB.out.size)⟩
        case measure => simp [intOf]; omega
      · have hiJ' : i = J := by omega
        subst hiJ'
        have hne : L ≠ l i := fun h => HJn.out hlt h.symm
        have hin : ¬ i = n := by omega
        generalize l i = li at *
        generalize a i = ai at *
        generalize c i = ci at *
        have HB := hid hB
        clear HJn hb hB
        go_wp2_with (first
          | (with_reducible refine wpl_sl1 rfl 59 _ _ rfl ad n cp rfl .i64 _ rfl i rfl 22 Tryz.underlying59 hlt iSS ?_)
          | (with_reducible refine wpl_val rfl _ (exec_lds 22 _ rfl (ad.add i) rfl 5 Tryz.underlying22 _ hci) ?_)
          | (go_at_call 68; refine (xor_len _ _ _ _ _ _ _ hne).mono ?_; rintro e w2 ⟨rfl, rfl⟩))
        go_ret2
        refine ⟨HB.out.alloc HB.out.size _, ?_⟩
        exact ⟨_, rfl, Blk.fresh _ _ _⟩
    · have hin : i = n := by omega
      have hJn : J = n := by omega
      subst hin
      subst hJn
      have Hjl := hid (jn_lt (L := L) J Hb.out)
      have HB := hid hB
      have Hbk := hid hb
      clear hb hB
      by_cases hk2 : k = 2
      rotate_left
      · have hkI : ((k : Int) == 2) = false := by simp; omega
        have hkF : Hid (row L (b8 (jk k (jn f J))) = row L (b8 (jn f J))) := hid (by unfold jk; rw [if_neg hk2])
        clear hk2
        go_wp2_with fail
        go_ret2
        exact ⟨HB.out, g, rfl, by rw [hkF.out]; exact Hbk.out, hg⟩
      · have hkI : ((k : Int) == 2) = true := by simp; omega
        have hkF : Hid (row L (b8 (jk k (jn f J))) = row L (b8 (odF (jn f J)))) := hid (by unfold jk; rw [if_pos hk2])
        clear hk2
        go_wp2_with fail
        refine (odd_any _ L L (jn f J) _ (by omega) Hjl.out Hbk.out.reads).mono ?_
        rintro e w2 ⟨rfl, hx2, hB2⟩
        go_wp2_with fail
        go_ret2
        exact ⟨HB.out.trans (hB2.mono HB.out.size), wo.heap.size, rfl, by rw [hkF.out]; exact hx2, HB.out.size⟩
end Go.Proofs.YtaeleohjikheiaaGreatDoor.Pt
