/-
  PartJoins returns true: its walk.
-/
import Derived.Test.YtaeleohjikheiaaGreatDoorLaw09
import Derived.Test.YtaeleohjikheiaaGreatDoorOpenSS
namespace Go.Proofs.YtaeleohjikheiaaGreatDoor.Pt.Joins
open Mem Bk Md Mc Pt As Go.ChangeShapes Go.WideShapes Go.ChangeAt Go.RowKit
section
variable {P : Program} {ops : Array Oper} {rest : List Oper} {o : Oper} {x : Act} {w : World}
theorem exec_slA (ty : TypeId) (p ix : Operand) (ho : o.op = .indexAddr ty p ix) (ad : Addr) (n c : Nat) (hx : x.eval p = .slice (some ad) n c) (kd : IntKind) (z : Int) (hix : x.eval ix = .int kd z) (k : Nat) (hz : z = (k : Int))
    (e : TypeId) (hu : P.underlying ty = some (.slice e)) (hk : k < n) (hs : (P.info? e).map (·.size) = some 1) : (execOp x.eval o).run P w = .ok (.value (.pointer (some (ad.add k)))) w := by
  subst hz
  have hr : (Instr.indexAt ty (.slice (some ad) n c) (.int kd (k : Int))).run P w = .ok (.pointer (some (ad.add k))) w := by
    simp [Instr.indexAt, asIntOf, Sem.run_bind, run_underlying hu, run_size hs, show ¬ n ≤ k by omega]
  unfold execOp
  simp only [ho, hx, hix, hr, Sem.run_bind, Sem.run_pure, Result.andThen_ok]
theorem exec_neI (t : TypeId) (p q : Operand) (rt : TypeId) (ho : o.op = .binOp .neq t p q rt) (u v : Int) (hx : x.eval p = .int .i64 u) (hy : x.eval q = .int .i64 v) (r : Bool) (h : (u != v) = r) : (execOp x.eval o).run P w = .ok (.value (.bool r)) w := by
  subst h
  have e : Op.intCmp BinOp.neq u v = pure (.bool (u != v)) := rfl
  unfold execOp
  simp only [ho, hx, hy, Sem.run_bind]
  simp [eqGuard, binOp, e]
end
set_option maxRecDepth 100000 in
set_option maxHeartbeats 2000000 in
theorem j_long (z : Int) (P : Option Addr) (n cp : Nat) (a : Nat → Option Addr) (l c : Nat → Nat) (f : Nat → Nat → Nat) (w : World) (hg : Laid w) (hn6 : n ≤ 6) (hp : PartsAt w P n a l c f) (K : Nat) (hK : K < n) (hKl : 100 < l K) (hKs : ∀ i, i < K → l i ≤ 100) :
    Calls Tryz.prog 7 #[.int .i64 z, .slice P n cp] w fun e w' => e = .returned (.bool true) ∧ Below w.heap.size w w' := by
  have Hs := hid hKs
  clear hKs
  have HG := hid hg
  have HP := hid hp
  have hnI : ¬ 6 < (n : Int) := by omega
  clear hg hp
  go_enter Tryz.func7, Tryz.ntmps7
  go_wp2_with fail
  refine (awake9_any _ HG.out).mono ?_
  rintro e w1 ⟨rfl, hB1⟩
  have HP1 := hid (HP.out.up hB1)
  have HB1 := hid hB1
  clear hB1 HP
  go_wp2_with fail
  generalize Value.bool (decide (6 < (n : Int))) = vb0 at *
  go_loopw [5] (fun y wr => ∃ i : Nat, i ≤ K ∧ y = .int .i64 (i : Int) ∧ wr = w1) (fun y _ => n - (intOf y).toNat)
  case atStart => exact ⟨0, by omega, rfl, rfl⟩
  case round =>
    obtain ⟨i, hi, rfl, rfl⟩ := hrel
    rename World => w1
    obtain ⟨ad, rfl, had, hcs⟩ := HP1.out.1 (by omega)
    have hlt : i < n := by omega
    have hci : w1.cell? (ad.add i) = some (.slice (a i) (l i) (c i)) := hcs i hlt
    clear hcs
    by_cases hiK : i = K
    · subst hiK
      have hlI : (100 : Int) < ((l i : Nat) : Int) := by omega
      generalize l i = li at *
      generalize a i = ai at *
      generalize c i = ci at *
      go_wp2_with (first
          | (with_reducible refine wpl_sl1 rfl 59 _ _ rfl ad n cp rfl .i64 _ rfl i rfl 22 Tryz.underlying59 hlt iSS ?_)
          | (with_reducible refine wpl_val rfl _ (exec_lds 22 _ rfl (ad.add i) rfl 5 Tryz.underlying22 _ hci) ?_))
      go_ret
      exact ⟨rfl, HB1.out⟩
    · have hli := Hs.out i (by omega)
      have hlI : ¬ (100 : Int) < ((l i : Nat) : Int) := by omega
      have hi1 : i + 1 ≤ K := by omega
      clear hiK
      generalize l i = li at *
      generalize a i = ai at *
      generalize c i = ci at *
      go_wp2_with (first
          | (with_reducible refine wpl_sl1 rfl 59 _ _ rfl ad n cp rfl .i64 _ rfl i rfl 22 Tryz.underlying59 hlt iSS ?_)
          | (with_reducible refine wpl_val rfl _ (exec_lds 22 _ rfl (ad.add i) rfl 5 Tryz.underlying22 _ hci) ?_))
      exact ⟨⟨i + 1, hi1, val_int (by omega), by first | rfl | trivial⟩, by simp [intOf]; omega⟩
set_option maxRecDepth 100000 in
set_option maxHeartbeats 2000000 in
theorem j_kind (z : Int) (P : Option Addr) (n cp : Nat) (a : Nat → Option Addr) (l c : Nat → Nat) (f : Nat → Nat → Nat) (w : World) (hg : Laid w)  (h1 : z ≠ 1) (h2 : z ≠ 2) (hn6 : n ≤ 6) (hp : PartsAt w P n a l c f) (hs : ∀ i, i < n → l i ≤ 100) :
    Calls Tryz.prog 7 #[.int .i64 z, .slice P n cp] w fun e w' => e = .returned (.bool true) ∧ Below w.heap.size w w' := by
  have Hs := hid hs
  have e1 : (z != 1) = true := by simp; exact h1
  have e2 : (z != 2) = true := by simp; exact h2
  clear hs
  have HG := hid hg
  have HP := hid hp
  have hnI : ¬ 6 < (n : Int) := by omega
  clear hg hp
  go_enter Tryz.func7, Tryz.ntmps7
  go_wp2_with fail
  refine (awake9_any _ HG.out).mono ?_
  rintro e w1 ⟨rfl, hB1⟩
  have HP1 := hid (HP.out.up hB1)
  have HB1 := hid hB1
  clear hB1 HP
  go_wp2_with fail
  generalize Value.bool (decide (6 < (n : Int))) = vb0 at *
  go_loopw [5] (fun y wr => ∃ i : Nat, i ≤ n ∧ y = .int .i64 (i : Int) ∧ wr = w1) (fun y _ => n - (intOf y).toNat)
  case atStart => exact ⟨0, by omega, rfl, rfl⟩
  case round =>
    obtain ⟨i, hi, rfl, rfl⟩ := hrel
    rename World => w1
    by_cases hlt : i < n
    · obtain ⟨ad, rfl, had, hcs⟩ := HP1.out.1 (by omega)
      have hci : w1.cell? (ad.add i) = some (.slice (a i) (l i) (c i)) := hcs i hlt
      clear hcs
      have hli := Hs.out i hlt
      have hlI : ¬ (100 : Int) < ((l i : Nat) : Int) := by omega
      generalize l i = li at *
      generalize a i = ai at *
      generalize c i = ci at *
      go_wp2_with (first
          | (with_reducible refine wpl_sl1 rfl 59 _ _ rfl ad n cp rfl .i64 _ rfl i rfl 22 Tryz.underlying59 hlt iSS ?_)
          | (with_reducible refine wpl_val rfl _ (exec_lds 22 _ rfl (ad.add i) rfl 5 Tryz.underlying22 _ hci) ?_))
      exact ⟨⟨i + 1, by omega, val_int (by omega), by first | rfl | trivial⟩, by simp [intOf]; omega⟩
    · have hiI : ¬ (i : Int) < (n : Int) := by omega
      clear hlt
      go_wp2_with fail
      refine (join_kind z h1 h2 P n cp _).mono ?_
      rintro e w2 ⟨rfl, rfl⟩
      go_wp2_with fail
      refine (code_hit 1 _ (HG.out.below HB1.out)).mono ?_
      rintro e w3 ⟨rfl, hB3⟩
      go_wp2_with fail
      go_ret
      exact ⟨rfl, HB1.out.trans (hB3.mono HB1.out.size)⟩
set_option maxRecDepth 100000 in
set_option maxHeartbeats 2000000 in
theorem j_few1 (P : Option Addr) (n cp : Nat) (a : Nat → Option Addr) (l c : Nat → Nat) (f : Nat → Nat → Nat) (w : World) (hg : Laid w) (hn2 : n < 2) (_hn6 : n ≤ 6) (hp : PartsAt w P n a l c f) (hs : ∀ i, i < n → l i ≤ 100) :
    Calls Tryz.prog 7 #[.int .i64 1, .slice P n cp] w fun e w' => e = .returned (.bool true) ∧ Below w.heap.size w w' := by
  have Hs := hid hs
  have e3 : decide ((n : Int) < 2) = true := by simp; omega
  clear hs
  have HG := hid hg
  have HP := hid hp
  have hnI : ¬ 6 < (n : Int) := by omega
  clear hg hp
  go_enter Tryz.func7, Tryz.ntmps7
  go_wp2_with fail
  refine (awake9_any _ HG.out).mono ?_
  rintro e w1 ⟨rfl, hB1⟩
  have HP1 := hid (HP.out.up hB1)
  have HB1 := hid hB1
  clear hB1 HP
  go_wp2_with fail
  generalize Value.bool (decide (6 < (n : Int))) = vb0 at *
  go_loopw [5] (fun y wr => ∃ i : Nat, i ≤ n ∧ y = .int .i64 (i : Int) ∧ wr = w1) (fun y _ => n - (intOf y).toNat)
  case atStart => exact ⟨0, by omega, rfl, rfl⟩
  case round =>
    obtain ⟨i, hi, rfl, rfl⟩ := hrel
    rename World => w1
    by_cases hlt : i < n
    · obtain ⟨ad, rfl, had, hcs⟩ := HP1.out.1 (by omega)
      have hci : w1.cell? (ad.add i) = some (.slice (a i) (l i) (c i)) := hcs i hlt
      clear hcs
      have hli := Hs.out i hlt
      have hlI : ¬ (100 : Int) < ((l i : Nat) : Int) := by omega
      generalize l i = li at *
      generalize a i = ai at *
      generalize c i = ci at *
      go_wp2_with (first
          | (with_reducible refine wpl_sl1 rfl 59 _ _ rfl ad n cp rfl .i64 _ rfl i rfl 22 Tryz.underlying59 hlt iSS ?_)
          | (with_reducible refine wpl_val rfl _ (exec_lds 22 _ rfl (ad.add i) rfl 5 Tryz.underlying22 _ hci) ?_))
      exact ⟨⟨i + 1, by omega, val_int (by omega), by first | rfl | trivial⟩, by simp [intOf]; omega⟩
    · have hiI : ¬ (i : Int) < (n : Int) := by omega
      clear hlt
      go_wp2_with fail
      refine (join_few 1 (.inl rfl) P n cp (.inl hn2) _).mono ?_
      rintro e w2 ⟨rfl, rfl⟩
      go_wp2_with fail
      refine (code_hit 1 _ (HG.out.below HB1.out)).mono ?_
      rintro e w3 ⟨rfl, hB3⟩
      go_wp2_with fail
      go_ret
      exact ⟨rfl, HB1.out.trans (hB3.mono HB1.out.size)⟩
set_option maxRecDepth 100000 in
set_option maxHeartbeats 2000000 in
theorem j_many1 (P : Option Addr) (n cp : Nat) (a : Nat → Option Addr) (l c : Nat → Nat) (f : Nat → Nat → Nat) (w : World) (hg : Laid w) (hn2 : 3 < n) (_hn6 : n ≤ 6) (hp : PartsAt w P n a l c f) (hs : ∀ i, i < n → l i ≤ 100) :
    Calls Tryz.prog 7 #[.int .i64 1, .slice P n cp] w fun e w' => e = .returned (.bool true) ∧ Below w.heap.size w w' := by
  have Hs := hid hs
  have e3 : decide ((n : Int) < 2) = false := by simp; omega
  have e4 : decide ((n : Int) > 3) = true := by simp; omega
  clear hs
  have HG := hid hg
  have HP := hid hp
  have hnI : ¬ 6 < (n : Int) := by omega
  clear hg hp
  go_enter Tryz.func7, Tryz.ntmps7
  go_wp2_with fail
  refine (awake9_any _ HG.out).mono ?_
  rintro e w1 ⟨rfl, hB1⟩
  have HP1 := hid (HP.out.up hB1)
  have HB1 := hid hB1
  clear hB1 HP
  go_wp2_with fail
  generalize Value.bool (decide (6 < (n : Int))) = vb0 at *
  go_loopw [5] (fun y wr => ∃ i : Nat, i ≤ n ∧ y = .int .i64 (i : Int) ∧ wr = w1) (fun y _ => n - (intOf y).toNat)
  case atStart => exact ⟨0, by omega, rfl, rfl⟩
  case round =>
    obtain ⟨i, hi, rfl, rfl⟩ := hrel
    rename World => w1
    by_cases hlt : i < n
    · obtain ⟨ad, rfl, had, hcs⟩ := HP1.out.1 (by omega)
      have hci : w1.cell? (ad.add i) = some (.slice (a i) (l i) (c i)) := hcs i hlt
      clear hcs
      have hli := Hs.out i hlt
      have hlI : ¬ (100 : Int) < ((l i : Nat) : Int) := by omega
      generalize l i = li at *
      generalize a i = ai at *
      generalize c i = ci at *
      go_wp2_with (first
          | (with_reducible refine wpl_sl1 rfl 59 _ _ rfl ad n cp rfl .i64 _ rfl i rfl 22 Tryz.underlying59 hlt iSS ?_)
          | (with_reducible refine wpl_val rfl _ (exec_lds 22 _ rfl (ad.add i) rfl 5 Tryz.underlying22 _ hci) ?_))
      exact ⟨⟨i + 1, by omega, val_int (by omega), by first | rfl | trivial⟩, by simp [intOf]; omega⟩
    · have hiI : ¬ (i : Int) < (n : Int) := by omega
      clear hlt
      go_wp2_with fail
      refine (join_few 1 (.inl rfl) P n cp (.inr hn2) _).mono ?_
      rintro e w2 ⟨rfl, rfl⟩
      go_wp2_with fail
      refine (code_hit 1 _ (HG.out.below HB1.out)).mono ?_
      rintro e w3 ⟨rfl, hB3⟩
      go_wp2_with fail
      go_ret
      exact ⟨rfl, HB1.out.trans (hB3.mono HB1.out.size)⟩
set_option maxRecDepth 100000 in
set_option maxHeartbeats 2000000 in
theorem j_few2 (P : Option Addr) (n cp : Nat) (a : Nat → Option Addr) (l c : Nat → Nat) (f : Nat → Nat → Nat) (w : World) (hg : Laid w) (hn2 : n < 2) (_hn6 : n ≤ 6) (hp : PartsAt w P n a l c f) (hs : ∀ i, i < n → l i ≤ 100) :
    Calls Tryz.prog 7 #[.int .i64 2, .slice P n cp] w fun e w' => e = .returned (.bool true) ∧ Below w.heap.size w w' := by
  have Hs := hid hs
  have e3 : decide ((n : Int) < 2) = true := by simp; omega
  clear hs
  have HG := hid hg
  have HP := hid hp
  have hnI : ¬ 6 < (n : Int) := by omega
  clear hg hp
  go_enter Tryz.func7, Tryz.ntmps7
  go_wp2_with fail
  refine (awake9_any _ HG.out).mono ?_
  rintro e w1 ⟨rfl, hB1⟩
  have HP1 := hid (HP.out.up hB1)
  have HB1 := hid hB1
  clear hB1 HP
  go_wp2_with fail
  generalize Value.bool (decide (6 < (n : Int))) = vb0 at *
  go_loopw [5] (fun y wr => ∃ i : Nat, i ≤ n ∧ y = .int .i64 (i : Int) ∧ wr = w1) (fun y _ => n - (intOf y).toNat)
  case atStart => exact ⟨0, by omega, rfl, rfl⟩
  case round =>
    obtain ⟨i, hi, rfl, rfl⟩ := hrel
    rename World => w1
    by_cases hlt : i < n
    · obtain ⟨ad, rfl, had, hcs⟩ := HP1.out.1 (by omega)
      have hci : w1.cell? (ad.add i) = some (.slice (a i) (l i) (c i)) := hcs i hlt
      clear hcs
      have hli := Hs.out i hlt
      have hlI : ¬ (100 : Int) < ((l i : Nat) : Int) := by omega
      generalize l i = li at *
      generalize a i = ai at *
      generalize c i = ci at *
      go_wp2_with (first
          | (with_reducible refine wpl_sl1 rfl 59 _ _ rfl ad n cp rfl .i64 _ rfl i rfl 22 Tryz.underlying59 hlt iSS ?_)
          | (with_reducible refine wpl_val rfl _ (exec_lds 22 _ rfl (ad.add i) rfl 5 Tryz.underlying22 _ hci) ?_))
      exact ⟨⟨i + 1, by omega, val_int (by omega), by first | rfl | trivial⟩, by simp [intOf]; omega⟩
    · have hiI : ¬ (i : Int) < (n : Int) := by omega
      clear hlt
      go_wp2_with fail
      refine (join_few 2 (.inr rfl) P n cp (.inl hn2) _).mono ?_
      rintro e w2 ⟨rfl, rfl⟩
      go_wp2_with fail
      refine (code_hit 1 _ (HG.out.below HB1.out)).mono ?_
      rintro e w3 ⟨rfl, hB3⟩
      go_wp2_with fail
      go_ret
      exact ⟨rfl, HB1.out.trans (hB3.mono HB1.out.size)⟩
set_option maxRecDepth 100000 in
set_option maxHeartbeats 2000000 in
theorem j_many2 (P : Option Addr) (n cp : Nat) (a : Nat → Option Addr) (l c : Nat → Nat) (f : Nat → Nat → Nat) (w : World) (hg : Laid w) (hn2 : 3 < n) (_hn6 : n ≤ 6) (hp : PartsAt w P n a l c f) (hs : ∀ i, i < n → l i ≤ 100) :
    Calls Tryz.prog 7 #[.int .i64 2, .slice P n cp] w fun e w' => e = .returned (.bool true) ∧ Below w.heap.size w w' := by
  have Hs := hid hs
  have e3 : decide ((n : Int) < 2) = false := by simp; omega
  have e4 : decide ((n : Int) > 3) = true := by simp; omega
  clear hs
  have HG := hid hg
  have HP := hid hp
  have hnI : ¬ 6 < (n : Int) := by omega
  clear hg hp
  go_enter Tryz.func7, Tryz.ntmps7
  go_wp2_with fail
  refine (awake9_any _ HG.out).mono ?_
  rintro e w1 ⟨rfl, hB1⟩
  have HP1 := hid (HP.out.up hB1)
  have HB1 := hid hB1
  clear hB1 HP
  go_wp2_with fail
  generalize Value.bool (decide (6 < (n : Int))) = vb0 at *
  go_loopw [5] (fun y wr => ∃ i : Nat, i ≤ n ∧ y = .int .i64 (i : Int) ∧ wr = w1) (fun y _ => n - (intOf y).toNat)
  case atStart => exact ⟨0, by omega, rfl, rfl⟩
  case round =>
    obtain ⟨i, hi, rfl, rfl⟩ := hrel
    rename World => w1
    by_cases hlt : i < n
    · obtain ⟨ad, rfl, had, hcs⟩ := HP1.out.1 (by omega)
      have hci : w1.cell? (ad.add i) = some (.slice (a i) (l i) (c i)) := hcs i hlt
      clear hcs
      have hli := Hs.out i hlt
      have hlI : ¬ (100 : Int) < ((l i : Nat) : Int) := by omega
      generalize l i = li at *
      generalize a i = ai at *
      generalize c i = ci at *
      go_wp2_with (first
          | (with_reducible refine wpl_sl1 rfl 59 _ _ rfl ad n cp rfl .i64 _ rfl i rfl 22 Tryz.underlying59 hlt iSS ?_)
          | (with_reducible refine wpl_val rfl _ (exec_lds 22 _ rfl (ad.add i) rfl 5 Tryz.underlying22 _ hci) ?_))
      exact ⟨⟨i + 1, by omega, val_int (by omega), by first | rfl | trivial⟩, by simp [intOf]; omega⟩
    · have hiI : ¬ (i : Int) < (n : Int) := by omega
      clear hlt
      go_wp2_with fail
      refine (join_few 2 (.inr rfl) P n cp (.inr hn2) _).mono ?_
      rintro e w2 ⟨rfl, rfl⟩
      go_wp2_with fail
      refine (code_hit 1 _ (HG.out.below HB1.out)).mono ?_
      rintro e w3 ⟨rfl, hB3⟩
      go_wp2_with fail
      go_ret
      exact ⟨rfl, HB1.out.trans (hB3.mono HB1.out.size)⟩
set_option linter.unusedSimpArgs false in
set_option maxRecDepth 100000 in
set_option maxHeartbeats 2000000 in
theorem j_first1 (P : Option Addr) (n cp : Nat) (a : Nat → Option Addr) (l c : Nat → Nat) (f : Nat → Nat → Nat) (w : World) (hg : Laid w) (hn : n = 2 ∨ n = 3) (hn6 : n ≤ 6) (hp : PartsAt w P n a l c f) (hs : ∀ i, i < n → l i ≤ 100) (hf : ¬ fit9 1 (l 0)) :
    Calls Tryz.prog 7 #[.int .i64 1, .slice P n cp] w fun e w' => e = .returned (.bool true) ∧ Below w.heap.size w w' := by
  have Hs := hid hs
  have h0s := hs 0 (by omega)
  have e3 : decide ((n : Int) < 2) = false := by simp; omega
  have e4 : decide ((n : Int) > 3) = false := by simp; omega
  have hn0 : 0 < n := by omega
  clear hs
  have HG := hid hg
  have HP := hid hp
  have hnI : ¬ 6 < (n : Int) := by omega
  clear hg hp
  go_enter Tryz.func7, Tryz.ntmps7
  go_wp2_with fail
  refine (awake9_any _ HG.out).mono ?_
  rintro e w1 ⟨rfl, hB1⟩
  have HP1 := hid (HP.out.up hB1)
  have HB1 := hid hB1
  clear hB1 HP
  go_wp2_with fail
  generalize Value.bool (decide (6 < (n : Int))) = vb0 at *
  go_loopw [5] (fun y wr => ∃ i : Nat, i ≤ n ∧ y = .int .i64 (i : Int) ∧ wr = w1) (fun y _ => n - (intOf y).toNat)
  case atStart => exact ⟨0, by omega, rfl, rfl⟩
  case round =>
    obtain ⟨i, hi, rfl, rfl⟩ := hrel
    rename World => w1
    by_cases hlt : i < n
    · obtain ⟨ad, rfl, had, hcs⟩ := HP1.out.1 (by omega)
      have hci : w1.cell? (ad.add i) = some (.slice (a i) (l i) (c i)) := hcs i hlt
      clear hcs
      have hli := Hs.out i hlt
      have hlI : ¬ (100 : Int) < ((l i : Nat) : Int) := by omega
      generalize l i = li at *
      generalize a i = ai at *
      generalize c i = ci at *
      go_wp2_with (first
          | (with_reducible refine wpl_sl1 rfl 59 _ _ rfl ad n cp rfl .i64 _ rfl i rfl 22 Tryz.underlying59 hlt iSS ?_)
          | (with_reducible refine wpl_val rfl _ (exec_lds 22 _ rfl (ad.add i) rfl 5 Tryz.underlying22 _ hci) ?_))
      exact ⟨⟨i + 1, by omega, val_int (by omega), by first | rfl | trivial⟩, by simp [intOf]; omega⟩
    · have hiI : ¬ (i : Int) < (n : Int) := by omega
      clear hlt
      go_wp2_with fail
      refine (join_first 1 (.inl rfl) P n cp a l c f _ hn HP1.out (by omega) hf).mono ?_
      rintro e w2 ⟨rfl, hb2, hB2⟩
      have HF2 := hid hb2
      have HX := hid (HB1.out.trans (hB2.mono HB1.out.size))
      have HP2 := hid (HP1.out.up hB2)
      clear hb2 hB2 HP1
      go_wp2_with fail
      go_loopw [8] (fun y wr => y = .int .i64 0 ∧ wr = w2) (fun _ _ => 0)
      case atStart => exact ⟨rfl, rfl⟩
      case round =>
        obtain ⟨rfl, rfl⟩ := hrel
        have HB := HX
        obtain ⟨ad, rfl, had, hcs⟩ := HP2.out.1 hn0
        have hcq : wr.cell? (ad.add 0) = some (.slice (a 0) (l 0) (c 0)) := hcs 0 hn0
        have hc0 := hcq
        have hqn := hn0
        have hqI : (0 : Int) < (n : Int) := by omega
        have HSZ := hid (rsized_bad 1 (l 0) (.inl rfl) hf)
        clear HP2 hcs hf
        generalize l 0 = l0 at *
        generalize a 0 = a0 at *
        generalize c 0 = c0 at *
        go_wp2_with fail
        have hcqW : ∀ W, Below wr.heap.size wr W → W.cell? (ad.add 0) = some (.slice a0 l0 c0) := fun W hW => (hW.cell (p := ad.add 0) (by rw [add_block]; exact had)).trans hcq
        have hc0W : ∀ W, Below wr.heap.size wr W → W.cell? (ad.add 0) = some (.slice a0 l0 c0) := fun W hW => (hW.cell (p := ad.add 0) (by rw [add_block]; exact had)).trans hc0
        clear hcq hc0
        refine wp_region_held_drew (S := fun W => Below wr.heap.size wr W) (by kernel_rfl) (Below.refl _ _).drew (fun hS0 => ?_)
        refine wpAnyH_take (i := 0) (v := .int .i64 1) rfl (by kernel_rfl) (by kernel_rfl) (by kernel_rfl) (fun _ _ _ h => h) (Or.inl ⟨rfl, fun _ _ => exec_move _ rfl _ rfl⟩) hS0 ?_
        (try simp only [Act.put, List.getElem_toArray, List.getElem_cons_zero, List.getElem_cons_succ, List.setIfInBounds_toArray, List.set_cons_zero, List.set_cons_succ])
        refine wpAnyH_take (i := 1) (v := .slice (some ad) n cp) rfl (by kernel_rfl) (by kernel_rfl) (by kernel_rfl) (fun _ _ _ h => h) (Or.inl ⟨rfl, fun _ _ => exec_move _ rfl _ rfl⟩) hS0 ?_
        (try simp only [Act.put, List.getElem_toArray, List.getElem_cons_zero, List.getElem_cons_succ, List.setIfInBounds_toArray, List.set_cons_zero, List.set_cons_succ])
        refine wpAnyH_take (i := 2) (v := .int .i64 0) rfl (by kernel_rfl) (by kernel_rfl) (by kernel_rfl) (fun _ _ _ h => h) (Or.inl ⟨rfl, fun _ _ => exec_move _ rfl _ rfl⟩) hS0 ?_
        (try simp only [Act.put, List.getElem_toArray, List.getElem_cons_zero, List.getElem_cons_succ, List.setIfInBounds_toArray, List.set_cons_zero, List.set_cons_succ])
        refine wpAnyH_take (i := 3) (v := .pointer (some (ad.add 0))) rfl (by kernel_rfl) (by kernel_rfl) (by kernel_rfl) (fun _ _ _ h => h) (Or.inl ⟨rfl, fun _ _ => exec_slA 59 _ _ rfl ad n cp rfl .i64 _ rfl 0 rfl 22 Tryz.underlying59 hqn iSS⟩) hS0 ?_
        (try simp only [Act.put, List.getElem_toArray, List.getElem_cons_zero, List.getElem_cons_succ, List.setIfInBounds_toArray, List.set_cons_zero, List.set_cons_succ])
        refine wpAnyH_take (i := 4) (v := .slice a0 l0 c0) rfl (by kernel_rfl) (by kernel_rfl) (by kernel_rfl) (fun _ _ _ h => h) (Or.inl ⟨rfl, fun W hW => exec_lds 22 _ rfl (ad.add 0) rfl 5 Tryz.underlying22 _ (hcqW W hW)⟩) hS0 ?_
        (try simp only [Act.put, List.getElem_toArray, List.getElem_cons_zero, List.getElem_cons_succ, List.setIfInBounds_toArray, List.set_cons_zero, List.set_cons_succ])
        refine wpAnyH_take (i := 5) (v := .int .i64 (l0 : Int)) rfl (by kernel_rfl) (by kernel_rfl) (by kernel_rfl) (fun _ _ _ h => h) (Or.inl ⟨rfl, fun W _ => by go_simp⟩) hS0 ?_
        (try simp only [Act.put, List.getElem_toArray, List.getElem_cons_zero, List.getElem_cons_succ, List.setIfInBounds_toArray, List.set_cons_zero, List.set_cons_succ])
        refine wpAnyH_ready (rs := [6]) (by kernel_rfl) (by simp) (AllReadyH.cons rfl (fun K hK => ?_) AllReadyH.nil)
        (try simp only [Act.put, List.getElem_toArray, List.getElem_cons_zero, List.getElem_cons_succ, List.setIfInBounds_toArray, List.set_cons_zero, List.set_cons_succ])
        refine Eq.mpr (if_pos (by rfl)) ?_
        go_simp
        refine (HSZ.out _).mono ?_
        rintro e wq1 ⟨rfl, hQe⟩
        have hQB : Below wr.drew.heap.size wr.drew wq1 := by rw [hQe]; exact Below.refl _ _
        clear hQe
        refine hK.out _ _ (hS0.trans (hQB.mono hS0.size)) (fun hS1 => ?_)
        (try simp only [Act.put, List.getElem_toArray, List.getElem_cons_zero, List.getElem_cons_succ, List.setIfInBounds_toArray, List.set_cons_zero, List.set_cons_succ])
        clear hK K
        refine wpAnyH_take (i := 7) (v := .bool true) rfl (by kernel_rfl) (by kernel_rfl) (by kernel_rfl) (fun _ _ _ h => h) (Or.inl ⟨rfl, fun _ _ => exec_neI _ _ _ _ rfl 2 0 rfl rfl _ rfl⟩) hS1 ?_
        (try simp only [Act.put, List.getElem_toArray, List.getElem_cons_zero, List.getElem_cons_succ, List.setIfInBounds_toArray, List.set_cons_zero, List.set_cons_succ])
        refine wpAnyH_take (i := 8) (v := .bool true) rfl (by kernel_rfl) (by kernel_rfl) (by kernel_rfl) (fun _ _ _ h => h) (Or.inl ⟨rfl, fun _ _ => exec_move _ rfl _ rfl⟩) hS1 ?_
        (try simp only [Act.put, List.getElem_toArray, List.getElem_cons_zero, List.getElem_cons_succ, List.setIfInBounds_toArray, List.set_cons_zero, List.set_cons_succ])
        refine wpAnyH_take (i := 9) (v := undef) rfl (by kernel_rfl) (by kernel_rfl) (by kernel_rfl) (fun _ _ _ h => h) (Or.inr ⟨rfl, rfl⟩) hS1 ?_
        (try simp only [Act.put, List.getElem_toArray, List.getElem_cons_zero, List.getElem_cons_succ, List.setIfInBounds_toArray, List.set_cons_zero, List.set_cons_succ])
        refine wpAnyH_take (i := 10) (v := undef) rfl (by kernel_rfl) (by kernel_rfl) (by kernel_rfl) (fun _ _ _ h => h) (Or.inr ⟨rfl, rfl⟩) hS1 ?_
        (try simp only [Act.put, List.getElem_toArray, List.getElem_cons_zero, List.getElem_cons_succ, List.setIfInBounds_toArray, List.set_cons_zero, List.set_cons_succ])
        refine wpAnyH_take (i := 11) (v := undef) rfl (by kernel_rfl) (by kernel_rfl) (by kernel_rfl) (fun _ _ _ h => h) (Or.inr ⟨rfl, rfl⟩) hS1 ?_
        (try simp only [Act.put, List.getElem_toArray, List.getElem_cons_zero, List.getElem_cons_succ, List.setIfInBounds_toArray, List.set_cons_zero, List.set_cons_succ])
        refine wpAnyH_take (i := 12) (v := undef) rfl (by kernel_rfl) (by kernel_rfl) (by kernel_rfl) (fun _ _ _ h => h) (Or.inr ⟨rfl, rfl⟩) hS1 ?_
        (try simp only [Act.put, List.getElem_toArray, List.getElem_cons_zero, List.getElem_cons_succ, List.setIfInBounds_toArray, List.set_cons_zero, List.set_cons_succ])
        refine wpAnyH_take (i := 13) (v := undef) rfl (by kernel_rfl) (by kernel_rfl) (by kernel_rfl) (fun _ _ _ h => h) (Or.inr ⟨rfl, rfl⟩) hS1 ?_
        (try simp only [Act.put, List.getElem_toArray, List.getElem_cons_zero, List.getElem_cons_succ, List.setIfInBounds_toArray, List.set_cons_zero, List.set_cons_succ])
        refine wpAnyH_take (i := 14) (v := undef) rfl (by kernel_rfl) (by kernel_rfl) (by kernel_rfl) (fun _ _ _ h => h) (Or.inr ⟨rfl, rfl⟩) hS1 ?_
        (try simp only [Act.put, List.getElem_toArray, List.getElem_cons_zero, List.getElem_cons_succ, List.setIfInBounds_toArray, List.set_cons_zero, List.set_cons_succ])
        refine wpAnyH_take (i := 15) (v := undef) rfl (by kernel_rfl) (by kernel_rfl) (by kernel_rfl) (fun _ _ _ h => h) (Or.inr ⟨rfl, rfl⟩) hS1 ?_
        (try simp only [Act.put, List.getElem_toArray, List.getElem_cons_zero, List.getElem_cons_succ, List.setIfInBounds_toArray, List.set_cons_zero, List.set_cons_succ])
        refine wpAnyH_take (i := 16) (v := undef) rfl (by kernel_rfl) (by kernel_rfl) (by kernel_rfl) (fun _ _ _ h => h) (Or.inr ⟨rfl, rfl⟩) hS1 ?_
        (try simp only [Act.put, List.getElem_toArray, List.getElem_cons_zero, List.getElem_cons_succ, List.setIfInBounds_toArray, List.set_cons_zero, List.set_cons_succ])
        refine wpAnyH_take (i := 17) (v := undef) rfl (by kernel_rfl) (by kernel_rfl) (by kernel_rfl) (fun _ _ _ h => h) (Or.inr ⟨rfl, rfl⟩) hS1 ?_
        (try simp only [Act.put, List.getElem_toArray, List.getElem_cons_zero, List.getElem_cons_succ, List.setIfInBounds_toArray, List.set_cons_zero, List.set_cons_succ])
        refine wpAnyH_take (i := 18) (v := undef) rfl (by kernel_rfl) (by kernel_rfl) (by kernel_rfl) (fun _ _ _ h => h) (Or.inr ⟨rfl, rfl⟩) hS1 ?_
        (try simp only [Act.put, List.getElem_toArray, List.getElem_cons_zero, List.getElem_cons_succ, List.setIfInBounds_toArray, List.set_cons_zero, List.set_cons_succ])
        refine wpAnyH_take (i := 19) (v := .bool true) rfl (by kernel_rfl) (by kernel_rfl) (by kernel_rfl) (fun _ _ _ h => h) (Or.inl ⟨rfl, fun W _ => by go_simp⟩) hS1 ?_
        (try simp only [Act.put, List.getElem_toArray, List.getElem_cons_zero, List.getElem_cons_succ, List.setIfInBounds_toArray, List.set_cons_zero, List.set_cons_succ])
        refine wpAnyH_done (by kernel_rfl) ?_ _
        have HX3 := hid (HX.out.trans (hS1.mono HX.out.size))
        have HB3 := HX3
        have HF3 := hid (HF2.out.below hS1 HF2.out.lt)
        clear hS0 hS1 HX HB HF2 hcqW hc0W
        go_wp2_with fail
        refine (code_fault 2 _ _ (HG.out.below HB3.out) (HF3.out.cell 1)).mono ?_
        rintro e w4 ⟨rfl, hB4⟩
        have HB4 := hid (HB3.out.trans (hB4.mono HB3.out.size))
        have HF4 := hid (HF3.out.below hB4 HF3.out.lt)
        go_wp2_with fail
        refine (at_fault _ _ _ _ (HG.out.below HB4.out) HF4.out).mono ?_
        rintro e w5 ⟨rfl, hB5⟩
        go_wp2_with fail
        go_ret
        exact ⟨rfl, HB4.out.trans (hB5.mono HB4.out.size)⟩
set_option linter.unusedSimpArgs false in
set_option maxRecDepth 100000 in
set_option maxHeartbeats 2000000 in
theorem j_first2 (P : Option Addr) (n cp : Nat) (a : Nat → Option Addr) (l c : Nat → Nat) (f : Nat → Nat → Nat) (w : World) (hg : Laid w) (hn : n = 2 ∨ n = 3) (hn6 : n ≤ 6) (hp : PartsAt w P n a l c f) (hs : ∀ i, i < n → l i ≤ 100) (hf : ¬ fit9 2 (l 0)) :
    Calls Tryz.prog 7 #[.int .i64 2, .slice P n cp] w fun e w' => e = .returned (.bool true) ∧ Below w.heap.size w w' := by
  have Hs := hid hs
  have h0s := hs 0 (by omega)
  have e3 : decide ((n : Int) < 2) = false := by simp; omega
  have e4 : decide ((n : Int) > 3) = false := by simp; omega
  have hn0 : 0 < n := by omega
  clear hs
  have HG := hid hg
  have HP := hid hp
  have hnI : ¬ 6 < (n : Int) := by omega
  clear hg hp
  go_enter Tryz.func7, Tryz.ntmps7
  go_wp2_with fail
  refine (awake9_any _ HG.out).mono ?_
  rintro e w1 ⟨rfl, hB1⟩
  have HP1 := hid (HP.out.up hB1)
  have HB1 := hid hB1
  clear hB1 HP
  go_wp2_with fail
  generalize Value.bool (decide (6 < (n : Int))) = vb0 at *
  go_loopw [5] (fun y wr => ∃ i : Nat, i ≤ n ∧ y = .int .i64 (i : Int) ∧ wr = w1) (fun y _ => n - (intOf y).toNat)
  case atStart => exact ⟨0, by omega, rfl, rfl⟩
  case round =>
    obtain ⟨i, hi, rfl, rfl⟩ := hrel
    rename World => w1
    by_cases hlt : i < n
    · obtain ⟨ad, rfl, had, hcs⟩ := HP1.out.1 (by omega)
      have hci : w1.cell? (ad.add i) = some (.slice (a i) (l i) (c i)) := hcs i hlt
      clear hcs
      have hli := Hs.out i hlt
      have hlI : ¬ (100 : Int) < ((l i : Nat) : Int) := by omega
      generalize l i = li at *
      generalize a i = ai at *
      generalize c i = ci at *
      go_wp2_with (first
          | (with_reducible refine wpl_sl1 rfl 59 _ _ rfl ad n cp rfl .i64 _ rfl i rfl 22 Tryz.underlying59 hlt iSS ?_)
          | (with_reducible refine wpl_val rfl _ (exec_lds 22 _ rfl (ad.add i) rfl 5 Tryz.underlying22 _ hci) ?_))
      exact ⟨⟨i + 1, by omega, val_int (by omega), by first | rfl | trivial⟩, by simp [intOf]; omega⟩
    · have hiI : ¬ (i : Int) < (n : Int) := by omega
      clear hlt
      go_wp2_with fail
      refine (join_first 2 (.inr rfl) P n cp a l c f _ hn HP1.out (by omega) hf).mono ?_
      rintro e w2 ⟨rfl, hb2, hB2⟩
      have HF2 := hid hb2
      have HX := hid (HB1.out.trans (hB2.mono HB1.out.size))
      have HP2 := hid (HP1.out.up hB2)
      clear hb2 hB2 HP1
      go_wp2_with fail
      go_loopw [8] (fun y wr => y = .int .i64 0 ∧ wr = w2) (fun _ _ => 0)
      case atStart => exact ⟨rfl, rfl⟩
      case round =>
        obtain ⟨rfl, rfl⟩ := hrel
        have HB := HX
        obtain ⟨ad, rfl, had, hcs⟩ := HP2.out.1 hn0
        have hcq : wr.cell? (ad.add 0) = some (.slice (a 0) (l 0) (c 0)) := hcs 0 hn0
        have hc0 := hcq
        have hqn := hn0
        have hqI : (0 : Int) < (n : Int) := by omega
        have HSZ := hid (rsized_bad 2 (l 0) (.inr rfl) hf)
        clear HP2 hcs hf
        generalize l 0 = l0 at *
        generalize a 0 = a0 at *
        generalize c 0 = c0 at *
        go_wp2_with fail
        have hcqW : ∀ W, Below wr.heap.size wr W → W.cell? (ad.add 0) = some (.slice a0 l0 c0) := fun W hW => (hW.cell (p := ad.add 0) (by rw [add_block]; exact had)).trans hcq
        have hc0W : ∀ W, Below wr.heap.size wr W → W.cell? (ad.add 0) = some (.slice a0 l0 c0) := fun W hW => (hW.cell (p := ad.add 0) (by rw [add_block]; exact had)).trans hc0
        clear hcq hc0
        refine wp_region_held_drew (S := fun W => Below wr.heap.size wr W) (by kernel_rfl) (Below.refl _ _).drew (fun hS0 => ?_)
        refine wpAnyH_take (i := 0) (v := .int .i64 2) rfl (by kernel_rfl) (by kernel_rfl) (by kernel_rfl) (fun _ _ _ h => h) (Or.inl ⟨rfl, fun _ _ => exec_move _ rfl _ rfl⟩) hS0 ?_
        (try simp only [Act.put, List.getElem_toArray, List.getElem_cons_zero, List.getElem_cons_succ, List.setIfInBounds_toArray, List.set_cons_zero, List.set_cons_succ])
        refine wpAnyH_take (i := 1) (v := .slice (some ad) n cp) rfl (by kernel_rfl) (by kernel_rfl) (by kernel_rfl) (fun _ _ _ h => h) (Or.inl ⟨rfl, fun _ _ => exec_move _ rfl _ rfl⟩) hS0 ?_
        (try simp only [Act.put, List.getElem_toArray, List.getElem_cons_zero, List.getElem_cons_succ, List.setIfInBounds_toArray, List.set_cons_zero, List.set_cons_succ])
        refine wpAnyH_take (i := 2) (v := .int .i64 0) rfl (by kernel_rfl) (by kernel_rfl) (by kernel_rfl) (fun _ _ _ h => h) (Or.inl ⟨rfl, fun _ _ => exec_move _ rfl _ rfl⟩) hS0 ?_
        (try simp only [Act.put, List.getElem_toArray, List.getElem_cons_zero, List.getElem_cons_succ, List.setIfInBounds_toArray, List.set_cons_zero, List.set_cons_succ])
        refine wpAnyH_take (i := 3) (v := .pointer (some (ad.add 0))) rfl (by kernel_rfl) (by kernel_rfl) (by kernel_rfl) (fun _ _ _ h => h) (Or.inl ⟨rfl, fun _ _ => exec_slA 59 _ _ rfl ad n cp rfl .i64 _ rfl 0 rfl 22 Tryz.underlying59 hqn iSS⟩) hS0 ?_
        (try simp only [Act.put, List.getElem_toArray, List.getElem_cons_zero, List.getElem_cons_succ, List.setIfInBounds_toArray, List.set_cons_zero, List.set_cons_succ])
        refine wpAnyH_take (i := 4) (v := .slice a0 l0 c0) rfl (by kernel_rfl) (by kernel_rfl) (by kernel_rfl) (fun _ _ _ h => h) (Or.inl ⟨rfl, fun W hW => exec_lds 22 _ rfl (ad.add 0) rfl 5 Tryz.underlying22 _ (hcqW W hW)⟩) hS0 ?_
        (try simp only [Act.put, List.getElem_toArray, List.getElem_cons_zero, List.getElem_cons_succ, List.setIfInBounds_toArray, List.set_cons_zero, List.set_cons_succ])
        refine wpAnyH_take (i := 5) (v := .int .i64 (l0 : Int)) rfl (by kernel_rfl) (by kernel_rfl) (by kernel_rfl) (fun _ _ _ h => h) (Or.inl ⟨rfl, fun W _ => by go_simp⟩) hS0 ?_
        (try simp only [Act.put, List.getElem_toArray, List.getElem_cons_zero, List.getElem_cons_succ, List.setIfInBounds_toArray, List.set_cons_zero, List.set_cons_succ])
        refine wpAnyH_ready (rs := [6]) (by kernel_rfl) (by simp) (AllReadyH.cons rfl (fun K hK => ?_) AllReadyH.nil)
        (try simp only [Act.put, List.getElem_toArray, List.getElem_cons_zero, List.getElem_cons_succ, List.setIfInBounds_toArray, List.set_cons_zero, List.set_cons_succ])
        refine Eq.mpr (if_pos (by rfl)) ?_
        go_simp
        refine (HSZ.out _).mono ?_
        rintro e wq1 ⟨rfl, hQe⟩
        have hQB : Below wr.drew.heap.size wr.drew wq1 := by rw [hQe]; exact Below.refl _ _
        clear hQe
        refine hK.out _ _ (hS0.trans (hQB.mono hS0.size)) (fun hS1 => ?_)
        (try simp only [Act.put, List.getElem_toArray, List.getElem_cons_zero, List.getElem_cons_succ, List.setIfInBounds_toArray, List.set_cons_zero, List.set_cons_succ])
        clear hK K
        refine wpAnyH_take (i := 7) (v := .bool true) rfl (by kernel_rfl) (by kernel_rfl) (by kernel_rfl) (fun _ _ _ h => h) (Or.inl ⟨rfl, fun _ _ => exec_neI _ _ _ _ rfl 2 0 rfl rfl _ rfl⟩) hS1 ?_
        (try simp only [Act.put, List.getElem_toArray, List.getElem_cons_zero, List.getElem_cons_succ, List.setIfInBounds_toArray, List.set_cons_zero, List.set_cons_succ])
        refine wpAnyH_take (i := 8) (v := .bool true) rfl (by kernel_rfl) (by kernel_rfl) (by kernel_rfl) (fun _ _ _ h => h) (Or.inl ⟨rfl, fun _ _ => exec_move _ rfl _ rfl⟩) hS1 ?_
        (try simp only [Act.put, List.getElem_toArray, List.getElem_cons_zero, List.getElem_cons_succ, List.setIfInBounds_toArray, List.set_cons_zero, List.set_cons_succ])
        refine wpAnyH_take (i := 9) (v := undef) rfl (by kernel_rfl) (by kernel_rfl) (by kernel_rfl) (fun _ _ _ h => h) (Or.inr ⟨rfl, rfl⟩) hS1 ?_
        (try simp only [Act.put, List.getElem_toArray, List.getElem_cons_zero, List.getElem_cons_succ, List.setIfInBounds_toArray, List.set_cons_zero, List.set_cons_succ])
        refine wpAnyH_take (i := 10) (v := undef) rfl (by kernel_rfl) (by kernel_rfl) (by kernel_rfl) (fun _ _ _ h => h) (Or.inr ⟨rfl, rfl⟩) hS1 ?_
        (try simp only [Act.put, List.getElem_toArray, List.getElem_cons_zero, List.getElem_cons_succ, List.setIfInBounds_toArray, List.set_cons_zero, List.set_cons_succ])
        refine wpAnyH_take (i := 11) (v := undef) rfl (by kernel_rfl) (by kernel_rfl) (by kernel_rfl) (fun _ _ _ h => h) (Or.inr ⟨rfl, rfl⟩) hS1 ?_
        (try simp only [Act.put, List.getElem_toArray, List.getElem_cons_zero, List.getElem_cons_succ, List.setIfInBounds_toArray, List.set_cons_zero, List.set_cons_succ])
        refine wpAnyH_take (i := 12) (v := undef) rfl (by kernel_rfl) (by kernel_rfl) (by kernel_rfl) (fun _ _ _ h => h) (Or.inr ⟨rfl, rfl⟩) hS1 ?_
        (try simp only [Act.put, List.getElem_toArray, List.getElem_cons_zero, List.getElem_cons_succ, List.setIfInBounds_toArray, List.set_cons_zero, List.set_cons_succ])
        refine wpAnyH_take (i := 13) (v := undef) rfl (by kernel_rfl) (by kernel_rfl) (by kernel_rfl) (fun _ _ _ h => h) (Or.inr ⟨rfl, rfl⟩) hS1 ?_
        (try simp only [Act.put, List.getElem_toArray, List.getElem_cons_zero, List.getElem_cons_succ, List.setIfInBounds_toArray, List.set_cons_zero, List.set_cons_succ])
        refine wpAnyH_take (i := 14) (v := undef) rfl (by kernel_rfl) (by kernel_rfl) (by kernel_rfl) (fun _ _ _ h => h) (Or.inr ⟨rfl, rfl⟩) hS1 ?_
        (try simp only [Act.put, List.getElem_toArray, List.getElem_cons_zero, List.getElem_cons_succ, List.setIfInBounds_toArray, List.set_cons_zero, List.set_cons_succ])
        refine wpAnyH_take (i := 15) (v := undef) rfl (by kernel_rfl) (by kernel_rfl) (by kernel_rfl) (fun _ _ _ h => h) (Or.inr ⟨rfl, rfl⟩) hS1 ?_
        (try simp only [Act.put, List.getElem_toArray, List.getElem_cons_zero, List.getElem_cons_succ, List.setIfInBounds_toArray, List.set_cons_zero, List.set_cons_succ])
        refine wpAnyH_take (i := 16) (v := undef) rfl (by kernel_rfl) (by kernel_rfl) (by kernel_rfl) (fun _ _ _ h => h) (Or.inr ⟨rfl, rfl⟩) hS1 ?_
        (try simp only [Act.put, List.getElem_toArray, List.getElem_cons_zero, List.getElem_cons_succ, List.setIfInBounds_toArray, List.set_cons_zero, List.set_cons_succ])
        refine wpAnyH_take (i := 17) (v := undef) rfl (by kernel_rfl) (by kernel_rfl) (by kernel_rfl) (fun _ _ _ h => h) (Or.inr ⟨rfl, rfl⟩) hS1 ?_
        (try simp only [Act.put, List.getElem_toArray, List.getElem_cons_zero, List.getElem_cons_succ, List.setIfInBounds_toArray, List.set_cons_zero, List.set_cons_succ])
        refine wpAnyH_take (i := 18) (v := undef) rfl (by kernel_rfl) (by kernel_rfl) (by kernel_rfl) (fun _ _ _ h => h) (Or.inr ⟨rfl, rfl⟩) hS1 ?_
        (try simp only [Act.put, List.getElem_toArray, List.getElem_cons_zero, List.getElem_cons_succ, List.setIfInBounds_toArray, List.set_cons_zero, List.set_cons_succ])
        refine wpAnyH_take (i := 19) (v := .bool true) rfl (by kernel_rfl) (by kernel_rfl) (by kernel_rfl) (fun _ _ _ h => h) (Or.inl ⟨rfl, fun W _ => by go_simp⟩) hS1 ?_
        (try simp only [Act.put, List.getElem_toArray, List.getElem_cons_zero, List.getElem_cons_succ, List.setIfInBounds_toArray, List.set_cons_zero, List.set_cons_succ])
        refine wpAnyH_done (by kernel_rfl) ?_ _
        have HX3 := hid (HX.out.trans (hS1.mono HX.out.size))
        have HB3 := HX3
        have HF3 := hid (HF2.out.below hS1 HF2.out.lt)
        clear hS0 hS1 HX HB HF2 hcqW hc0W
        go_wp2_with fail
        refine (code_fault 2 _ _ (HG.out.below HB3.out) (HF3.out.cell 1)).mono ?_
        rintro e w4 ⟨rfl, hB4⟩
        have HB4 := hid (HB3.out.trans (hB4.mono HB3.out.size))
        have HF4 := hid (HF3.out.below hB4 HF3.out.lt)
        go_wp2_with fail
        refine (at_fault _ _ _ _ (HG.out.below HB4.out) HF4.out).mono ?_
        rintro e w5 ⟨rfl, hB5⟩
        go_wp2_with fail
        go_ret
        exact ⟨rfl, HB4.out.trans (hB5.mono HB4.out.size)⟩
set_option linter.unusedSimpArgs false in
set_option maxRecDepth 100000 in
set_option maxHeartbeats 2000000 in
theorem j_unlike1 (P : Option Addr) (n cp : Nat) (a : Nat → Option Addr) (l c : Nat → Nat) (f : Nat → Nat → Nat) (w : World) (hg : Laid w) (hn : n = 2 ∨ n = 3) (L J : Nat) (hJ : J < n) (hJ0 : 0 < J) (hl0 : l 0 = L) (hJl : ∀ i, i < J → l i = L) (hJn : l J ≠ L) (hn6 : n ≤ 6) (hp : PartsAt w P n a l c f) (hs : ∀ i, i < n → l i ≤ 100) (hf : fit9 1 L) (hb : ∀ i, i < n → ∀ q, q < l i → f i q < 256) :
    Calls Tryz.prog 7 #[.int .i64 1, .slice P n cp] w fun e w' => e = .returned (.bool true) ∧ Below w.heap.size w w' := by
  have Hs := hid hs
  have HJl := hid hJl
  have hlJ := hs J hJ
  have e3 : decide ((n : Int) < 2) = false := by simp; omega
  have e4 : decide ((n : Int) > 3) = false := by simp; omega
  have hn0 : 0 < n := by omega
  have HJC := hid (join_any 1 P n cp a l c f L J)
  have Hbb : Hid (∀ i, i < J → ∀ q, q < L → f i q < 256) := hid (fun i hi q hq => hb i (by omega) q (by rw [hJl i hi]; exact hq))
  clear hs hJl hb
  have HG := hid hg
  have HP := hid hp
  have hnI : ¬ 6 < (n : Int) := by omega
  clear hg hp
  go_enter Tryz.func7, Tryz.ntmps7
  go_wp2_with fail
  refine (awake9_any _ HG.out).mono ?_
  rintro e w1 ⟨rfl, hB1⟩
  have HP1 := hid (HP.out.up hB1)
  have HB1 := hid hB1
  clear hB1 HP
  go_wp2_with fail
  generalize Value.bool (decide (6 < (n : Int))) = vb0 at *
  go_loopw [5] (fun y wr => ∃ i : Nat, i ≤ n ∧ y = .int .i64 (i : Int) ∧ wr = w1) (fun y _ => n - (intOf y).toNat)
  case atStart => exact ⟨0, by omega, rfl, rfl⟩
  case round =>
    obtain ⟨i, hi, rfl, rfl⟩ := hrel
    rename World => w1
    by_cases hlt : i < n
    · obtain ⟨ad, rfl, had, hcs⟩ := HP1.out.1 (by omega)
      have hci : w1.cell? (ad.add i) = some (.slice (a i) (l i) (c i)) := hcs i hlt
      clear hcs
      have hli := Hs.out i hlt
      have hlI : ¬ (100 : Int) < ((l i : Nat) : Int) := by omega
      generalize l i = li at *
      generalize a i = ai at *
      generalize c i = ci at *
      go_wp2_with (first
          | (with_reducible refine wpl_sl1 rfl 59 _ _ rfl ad n cp rfl .i64 _ rfl i rfl 22 Tryz.underlying59 hlt iSS ?_)
          | (with_reducible refine wpl_val rfl _ (exec_lds 22 _ rfl (ad.add i) rfl 5 Tryz.underlying22 _ hci) ?_))
      exact ⟨⟨i + 1, by omega, val_int (by omega), by first | rfl | trivial⟩, by simp [intOf]; omega⟩
    · have hiI : ¬ (i : Int) < (n : Int) := by omega
      clear hlt
      go_wp2_with fail
      refine (HJC.out _ hn HP1.out hf hl0 (Nat.le_of_lt hJ) hJ0 HJl.out (fun _ => hJn) Hbb.out).mono ?_
      rintro e w2 ⟨hB2, h2⟩
      rw [if_neg (by omega)] at h2
      obtain ⟨gf, rfl, hb2⟩ := h2
      have HF2 := hid hb2
      have HX := hid (HB1.out.trans (hB2.mono HB1.out.size))
      have HP2 := hid (HP1.out.up hB2)
      clear hb2 hB2 HP1 HJC Hbb
      go_wp2_with fail
      go_loopw [8] (fun y wr => ∃ q : Nat, q ≤ J ∧ y = .int .i64 (q : Int) ∧ Hid (Blk wr gf 84 #[.int .i64 (J : Int), .iface 71 (.int .i64 2)]) ∧ Hid (PartsAt wr P n a l c f) ∧ Hid (Below w.heap.size w wr)) (fun y _ => n - (intOf y).toNat)
      case atStart => exact ⟨0, by omega, rfl, HF2, HP2, HX⟩
      case round =>
        clear HF2 HP2 HX
        obtain ⟨q, hq, rfl, HF2, HP2, HX⟩ := hrel
        have HB := HX
        have hqn : q < n := by omega
        have hqI : (q : Int) < (n : Int) := by omega
        obtain ⟨ad, rfl, had, hcs⟩ := HP2.out.1 hn0
        have hcq : wr.cell? (ad.add q) = some (.slice (a q) (l q) (c q)) := hcs q hqn
        have hc0 : wr.cell? (ad.add 0) = some (.slice (a 0) L (c 0)) := by rw [← hl0]; exact hcs 0 hn0
        clear hcs
        by_cases hqJ : q < J
        · rw [HJl.out q hqJ] at hcq
          have HSZ := hid (rsized_ok 1 L hf)
          have hq1 : q + 1 ≤ J := by omega
          have hLL : ((L : Int) != (L : Int)) = false := by simp
          generalize ha0 : a 0 = a0 at hc0
          generalize hc0' : c 0 = c0 at hc0
          generalize haq : a q = aq at hcq
          generalize hcq' : c q = cq at hcq
          clear ha0 hc0' haq hcq'
          go_wp2_with fail
          have hcqW : ∀ W, Below wr.heap.size wr W → W.cell? (ad.add q) = some (.slice aq L cq) := fun W hW => (hW.cell (p := ad.add q) (by rw [add_block]; exact had)).trans hcq
          have hc0W : ∀ W, Below wr.heap.size wr W → W.cell? (ad.add 0) = some (.slice a0 L c0) := fun W hW => (hW.cell (p := ad.add 0) (by rw [add_block]; exact had)).trans hc0
          clear hcq hc0
          refine wp_region_held_drew (S := fun W => Below wr.heap.size wr W) (by kernel_rfl) (Below.refl _ _).drew (fun hS0 => ?_)
          refine wpAnyH_take (i := 0) (v := .int .i64 1) rfl (by kernel_rfl) (by kernel_rfl) (by kernel_rfl) (fun _ _ _ h => h) (Or.inl ⟨rfl, fun _ _ => exec_move _ rfl _ rfl⟩) hS0 ?_
          (try simp only [Act.put, List.getElem_toArray, List.getElem_cons_zero, List.getElem_cons_succ, List.setIfInBounds_toArray, List.set_cons_zero, List.set_cons_succ])
          refine wpAnyH_take (i := 1) (v := .slice (some ad) n cp) rfl (by kernel_rfl) (by kernel_rfl) (by kernel_rfl) (fun _ _ _ h => h) (Or.inl ⟨rfl, fun _ _ => exec_move _ rfl _ rfl⟩) hS0 ?_
          (try simp only [Act.put, List.getElem_toArray, List.getElem_cons_zero, List.getElem_cons_succ, List.setIfInBounds_toArray, List.set_cons_zero, List.set_cons_succ])
          refine wpAnyH_take (i := 2) (v := .int .i64 (q : Int)) rfl (by kernel_rfl) (by kernel_rfl) (by kernel_rfl) (fun _ _ _ h => h) (Or.inl ⟨rfl, fun _ _ => exec_move _ rfl _ rfl⟩) hS0 ?_
          (try simp only [Act.put, List.getElem_toArray, List.getElem_cons_zero, List.getElem_cons_succ, List.setIfInBounds_toArray, List.set_cons_zero, List.set_cons_succ])
          refine wpAnyH_take (i := 3) (v := .pointer (some (ad.add q))) rfl (by kernel_rfl) (by kernel_rfl) (by kernel_rfl) (fun _ _ _ h => h) (Or.inl ⟨rfl, fun _ _ => exec_slA 59 _ _ rfl ad n cp rfl .i64 _ rfl q rfl 22 Tryz.underlying59 hqn iSS⟩) hS0 ?_
          (try simp only [Act.put, List.getElem_toArray, List.getElem_cons_zero, List.getElem_cons_succ, List.setIfInBounds_toArray, List.set_cons_zero, List.set_cons_succ])
          refine wpAnyH_take (i := 4) (v := .slice aq L cq) rfl (by kernel_rfl) (by kernel_rfl) (by kernel_rfl) (fun _ _ _ h => h) (Or.inl ⟨rfl, fun W hW => exec_lds 22 _ rfl (ad.add q) rfl 5 Tryz.underlying22 _ (hcqW W hW)⟩) hS0 ?_
          (try simp only [Act.put, List.getElem_toArray, List.getElem_cons_zero, List.getElem_cons_succ, List.setIfInBounds_toArray, List.set_cons_zero, List.set_cons_succ])
          refine wpAnyH_take (i := 5) (v := .int .i64 (L : Int)) rfl (by kernel_rfl) (by kernel_rfl) (by kernel_rfl) (fun _ _ _ h => h) (Or.inl ⟨rfl, fun W _ => by go_simp⟩) hS0 ?_
          (try simp only [Act.put, List.getElem_toArray, List.getElem_cons_zero, List.getElem_cons_succ, List.setIfInBounds_toArray, List.set_cons_zero, List.set_cons_succ])
          refine wpAnyH_ready (rs := [6]) (by kernel_rfl) (by simp) (AllReadyH.cons rfl (fun K hK => ?_) AllReadyH.nil)
          (try simp only [Act.put, List.getElem_toArray, List.getElem_cons_zero, List.getElem_cons_succ, List.setIfInBounds_toArray, List.set_cons_zero, List.set_cons_succ])
          refine Eq.mpr (if_pos (by rfl)) ?_
          go_simp
          refine (HSZ.out _).mono ?_
          rintro e wq1 ⟨rfl, hQe⟩
          have hQB : Below wr.drew.heap.size wr.drew wq1 := by rw [hQe]; exact Below.refl _ _
          clear hQe
          refine hK.out _ _ (hS0.trans (hQB.mono hS0.size)) (fun hS1 => ?_)
          (try simp only [Act.put, List.getElem_toArray, List.getElem_cons_zero, List.getElem_cons_succ, List.setIfInBounds_toArray, List.set_cons_zero, List.set_cons_succ])
          clear hK K
          refine wpAnyH_take (i := 7) (v := .bool false) rfl (by kernel_rfl) (by kernel_rfl) (by kernel_rfl) (fun _ _ _ h => h) (Or.inl ⟨rfl, fun _ _ => exec_neI _ _ _ _ rfl 0 0 rfl rfl _ rfl⟩) hS1 ?_
          (try simp only [Act.put, List.getElem_toArray, List.getElem_cons_zero, List.getElem_cons_succ, List.setIfInBounds_toArray, List.set_cons_zero, List.set_cons_succ])
          refine wpAnyH_take (i := 8) (v := .bool false) rfl (by kernel_rfl) (by kernel_rfl) (by kernel_rfl) (fun _ _ _ h => h) (Or.inl ⟨rfl, fun _ _ => exec_move _ rfl _ rfl⟩) hS1 ?_
          (try simp only [Act.put, List.getElem_toArray, List.getElem_cons_zero, List.getElem_cons_succ, List.setIfInBounds_toArray, List.set_cons_zero, List.set_cons_succ])
          refine wpAnyH_take (i := 9) (v := .slice (some ad) n cp) rfl (by kernel_rfl) (by kernel_rfl) (by kernel_rfl) (fun _ _ _ h => h) (Or.inl ⟨rfl, fun _ _ => exec_move _ rfl _ rfl⟩) hS1 ?_
          (try simp only [Act.put, List.getElem_toArray, List.getElem_cons_zero, List.getElem_cons_succ, List.setIfInBounds_toArray, List.set_cons_zero, List.set_cons_succ])
          refine wpAnyH_take (i := 10) (v := .int .i64 (q : Int)) rfl (by kernel_rfl) (by kernel_rfl) (by kernel_rfl) (fun _ _ _ h => h) (Or.inl ⟨rfl, fun _ _ => exec_move _ rfl _ rfl⟩) hS1 ?_
          (try simp only [Act.put, List.getElem_toArray, List.getElem_cons_zero, List.getElem_cons_succ, List.setIfInBounds_toArray, List.set_cons_zero, List.set_cons_succ])
          refine wpAnyH_take (i := 11) (v := .pointer (some (ad.add q))) rfl (by kernel_rfl) (by kernel_rfl) (by kernel_rfl) (fun _ _ _ h => h) (Or.inl ⟨rfl, fun _ _ => exec_slA 59 _ _ rfl ad n cp rfl .i64 _ rfl q rfl 22 Tryz.underlying59 hqn iSS⟩) hS1 ?_
          (try simp only [Act.put, List.getElem_toArray, List.getElem_cons_zero, List.getElem_cons_succ, List.setIfInBounds_toArray, List.set_cons_zero, List.set_cons_succ])
          refine wpAnyH_take (i := 12) (v := .slice aq L cq) rfl (by kernel_rfl) (by kernel_rfl) (by kernel_rfl) (fun _ _ _ h => h) (Or.inl ⟨rfl, fun W hW => exec_lds 22 _ rfl (ad.add q) rfl 5 Tryz.underlying22 _ (hcqW W hW)⟩) hS1 ?_
          (try simp only [Act.put, List.getElem_toArray, List.getElem_cons_zero, List.getElem_cons_succ, List.setIfInBounds_toArray, List.set_cons_zero, List.set_cons_succ])
          refine wpAnyH_take (i := 13) (v := .int .i64 (L : Int)) rfl (by kernel_rfl) (by kernel_rfl) (by kernel_rfl) (fun _ _ _ h => h) (Or.inl ⟨rfl, fun W _ => by go_simp⟩) hS1 ?_
          (try simp only [Act.put, List.getElem_toArray, List.getElem_cons_zero, List.getElem_cons_succ, List.setIfInBounds_toArray, List.set_cons_zero, List.set_cons_succ])
          refine wpAnyH_take (i := 14) (v := .slice (some ad) n cp) rfl (by kernel_rfl) (by kernel_rfl) (by kernel_rfl) (fun _ _ _ h => h) (Or.inl ⟨rfl, fun _ _ => exec_move _ rfl _ rfl⟩) hS1 ?_
          (try simp only [Act.put, List.getElem_toArray, List.getElem_cons_zero, List.getElem_cons_succ, List.setIfInBounds_toArray, List.set_cons_zero, List.set_cons_succ])
          refine wpAnyH_take (i := 15) (v := .pointer (some (ad.add 0))) rfl (by kernel_rfl) (by kernel_rfl) (by kernel_rfl) (fun _ _ _ h => h) (Or.inl ⟨rfl, fun _ _ => exec_slA 59 _ _ rfl ad n cp rfl .i64 _ rfl 0 rfl 22 Tryz.underlying59 hn0 iSS⟩) hS1 ?_
          (try simp only [Act.put, List.getElem_toArray, List.getElem_cons_zero, List.getElem_cons_succ, List.setIfInBounds_toArray, List.set_cons_zero, List.set_cons_succ])
          refine wpAnyH_take (i := 16) (v := .slice a0 L c0) rfl (by kernel_rfl) (by kernel_rfl) (by kernel_rfl) (fun _ _ _ h => h) (Or.inl ⟨rfl, fun W hW => exec_lds 22 _ rfl (ad.add 0) rfl 5 Tryz.underlying22 _ (hc0W W hW)⟩) hS1 ?_
          (try simp only [Act.put, List.getElem_toArray, List.getElem_cons_zero, List.getElem_cons_succ, List.setIfInBounds_toArray, List.set_cons_zero, List.set_cons_succ])
          refine wpAnyH_take (i := 17) (v := .int .i64 (L : Int)) rfl (by kernel_rfl) (by kernel_rfl) (by kernel_rfl) (fun _ _ _ h => h) (Or.inl ⟨rfl, fun W _ => by go_simp⟩) hS1 ?_
          (try simp only [Act.put, List.getElem_toArray, List.getElem_cons_zero, List.getElem_cons_succ, List.setIfInBounds_toArray, List.set_cons_zero, List.set_cons_succ])
          refine wpAnyH_take (i := 18) (v := .bool false) rfl (by kernel_rfl) (by kernel_rfl) (by kernel_rfl) (fun _ _ _ h => h) (Or.inl ⟨rfl, fun _ _ => exec_neI _ _ _ _ rfl _ _ rfl rfl _ hLL⟩) hS1 ?_
          (try simp only [Act.put, List.getElem_toArray, List.getElem_cons_zero, List.getElem_cons_succ, List.setIfInBounds_toArray, List.set_cons_zero, List.set_cons_succ])
          refine wpAnyH_take (i := 19) (v := .bool false) rfl (by kernel_rfl) (by kernel_rfl) (by kernel_rfl) (fun _ _ _ h => h) (Or.inl ⟨rfl, fun W _ => by go_simp⟩) hS1 ?_
          (try simp only [Act.put, List.getElem_toArray, List.getElem_cons_zero, List.getElem_cons_succ, List.setIfInBounds_toArray, List.set_cons_zero, List.set_cons_succ])
          refine wpAnyH_done (by kernel_rfl) ?_ _
          have HX3 := hid (HX.out.trans (hS1.mono HX.out.size))
          have HB3 := HX3
          have HF3 := hid (HF2.out.below hS1 HF2.out.lt)
          have HP3 := hid (HP2.out.up hS1)
          clear hS0 hS1 HX HB HF2 hcqW hc0W
          go_wp2_with fail
          exact ⟨⟨q + 1, hq1, val_int (by omega), HF3, HP3, HX3⟩, by simp [intOf]; omega⟩
        · have hqJe : q = J := by omega
          subst hqJe
          have hne : (((l q : Nat) : Int) != (L : Int)) = true := by simp; omega
          by_cases hfq : fit9 1 (l q)
          · have HSZ := hid (rsized_ok 1 (l q) hfq)
            clear HJl hJn HP2 hfq Hs
            generalize l q = lq at *
            generalize ha0 : a 0 = a0 at hc0
            generalize hc0' : c 0 = c0 at hc0
            generalize haq : a q = aq at hcq
            generalize hcq' : c q = cq at hcq
            clear ha0 hc0' haq hcq'
            go_wp2_with fail
            have hcqW : ∀ W, Below wr.heap.size wr W → W.cell? (ad.add q) = some (.slice aq lq cq) := fun W hW => (hW.cell (p := ad.add q) (by rw [add_block]; exact had)).trans hcq
            have hc0W : ∀ W, Below wr.heap.size wr W → W.cell? (ad.add 0) = some (.slice a0 L c0) := fun W hW => (hW.cell (p := ad.add 0) (by rw [add_block]; exact had)).trans hc0
            clear hcq hc0
            refine wp_region_held_drew (S := fun W => Below wr.heap.size wr W) (by kernel_rfl) (Below.refl _ _).drew (fun hS0 => ?_)
            refine wpAnyH_take (i := 0) (v := .int .i64 1) rfl (by kernel_rfl) (by kernel_rfl) (by kernel_rfl) (fun _ _ _ h => h) (Or.inl ⟨rfl, fun _ _ => exec_move _ rfl _ rfl⟩) hS0 ?_
            (try simp only [Act.put, List.getElem_toArray, List.getElem_cons_zero, List.getElem_cons_succ, List.setIfInBounds_toArray, List.set_cons_zero, List.set_cons_succ])
            refine wpAnyH_take (i := 1) (v := .slice (some ad) n cp) rfl (by kernel_rfl) (by kernel_rfl) (by kernel_rfl) (fun _ _ _ h => h) (Or.inl ⟨rfl, fun _ _ => exec_move _ rfl _ rfl⟩) hS0 ?_
            (try simp only [Act.put, List.getElem_toArray, List.getElem_cons_zero, List.getElem_cons_succ, List.setIfInBounds_toArray, List.set_cons_zero, List.set_cons_succ])
            refine wpAnyH_take (i := 2) (v := .int .i64 (q : Int)) rfl (by kernel_rfl) (by kernel_rfl) (by kernel_rfl) (fun _ _ _ h => h) (Or.inl ⟨rfl, fun _ _ => exec_move _ rfl _ rfl⟩) hS0 ?_
            (try simp only [Act.put, List.getElem_toArray, List.getElem_cons_zero, List.getElem_cons_succ, List.setIfInBounds_toArray, List.set_cons_zero, List.set_cons_succ])
            refine wpAnyH_take (i := 3) (v := .pointer (some (ad.add q))) rfl (by kernel_rfl) (by kernel_rfl) (by kernel_rfl) (fun _ _ _ h => h) (Or.inl ⟨rfl, fun _ _ => exec_slA 59 _ _ rfl ad n cp rfl .i64 _ rfl q rfl 22 Tryz.underlying59 hqn iSS⟩) hS0 ?_
            (try simp only [Act.put, List.getElem_toArray, List.getElem_cons_zero, List.getElem_cons_succ, List.setIfInBounds_toArray, List.set_cons_zero, List.set_cons_succ])
            refine wpAnyH_take (i := 4) (v := .slice aq lq cq) rfl (by kernel_rfl) (by kernel_rfl) (by kernel_rfl) (fun _ _ _ h => h) (Or.inl ⟨rfl, fun W hW => exec_lds 22 _ rfl (ad.add q) rfl 5 Tryz.underlying22 _ (hcqW W hW)⟩) hS0 ?_
            (try simp only [Act.put, List.getElem_toArray, List.getElem_cons_zero, List.getElem_cons_succ, List.setIfInBounds_toArray, List.set_cons_zero, List.set_cons_succ])
            refine wpAnyH_take (i := 5) (v := .int .i64 (lq : Int)) rfl (by kernel_rfl) (by kernel_rfl) (by kernel_rfl) (fun _ _ _ h => h) (Or.inl ⟨rfl, fun W _ => by go_simp⟩) hS0 ?_
            (try simp only [Act.put, List.getElem_toArray, List.getElem_cons_zero, List.getElem_cons_succ, List.setIfInBounds_toArray, List.set_cons_zero, List.set_cons_succ])
            refine wpAnyH_ready (rs := [6]) (by kernel_rfl) (by simp) (AllReadyH.cons rfl (fun K hK => ?_) AllReadyH.nil)
            (try simp only [Act.put, List.getElem_toArray, List.getElem_cons_zero, List.getElem_cons_succ, List.setIfInBounds_toArray, List.set_cons_zero, List.set_cons_succ])
            refine Eq.mpr (if_pos (by rfl)) ?_
            go_simp
            refine (HSZ.out _).mono ?_
            rintro e wq1 ⟨rfl, hQe⟩
            have hQB : Below wr.drew.heap.size wr.drew wq1 := by rw [hQe]; exact Below.refl _ _
            clear hQe
            refine hK.out _ _ (hS0.trans (hQB.mono hS0.size)) (fun hS1 => ?_)
            (try simp only [Act.put, List.getElem_toArray, List.getElem_cons_zero, List.getElem_cons_succ, List.setIfInBounds_toArray, List.set_cons_zero, List.set_cons_succ])
            clear hK K
            refine wpAnyH_take (i := 7) (v := .bool false) rfl (by kernel_rfl) (by kernel_rfl) (by kernel_rfl) (fun _ _ _ h => h) (Or.inl ⟨rfl, fun _ _ => exec_neI _ _ _ _ rfl 0 0 rfl rfl _ rfl⟩) hS1 ?_
            (try simp only [Act.put, List.getElem_toArray, List.getElem_cons_zero, List.getElem_cons_succ, List.setIfInBounds_toArray, List.set_cons_zero, List.set_cons_succ])
            refine wpAnyH_take (i := 8) (v := .bool false) rfl (by kernel_rfl) (by kernel_rfl) (by kernel_rfl) (fun _ _ _ h => h) (Or.inl ⟨rfl, fun _ _ => exec_move _ rfl _ rfl⟩) hS1 ?_
            (try simp only [Act.put, List.getElem_toArray, List.getElem_cons_zero, List.getElem_cons_succ, List.setIfInBounds_toArray, List.set_cons_zero, List.set_cons_succ])
            refine wpAnyH_take (i := 9) (v := .slice (some ad) n cp) rfl (by kernel_rfl) (by kernel_rfl) (by kernel_rfl) (fun _ _ _ h => h) (Or.inl ⟨rfl, fun _ _ => exec_move _ rfl _ rfl⟩) hS1 ?_
            (try simp only [Act.put, List.getElem_toArray, List.getElem_cons_zero, List.getElem_cons_succ, List.setIfInBounds_toArray, List.set_cons_zero, List.set_cons_succ])
            refine wpAnyH_take (i := 10) (v := .int .i64 (q : Int)) rfl (by kernel_rfl) (by kernel_rfl) (by kernel_rfl) (fun _ _ _ h => h) (Or.inl ⟨rfl, fun _ _ => exec_move _ rfl _ rfl⟩) hS1 ?_
            (try simp only [Act.put, List.getElem_toArray, List.getElem_cons_zero, List.getElem_cons_succ, List.setIfInBounds_toArray, List.set_cons_zero, List.set_cons_succ])
            refine wpAnyH_take (i := 11) (v := .pointer (some (ad.add q))) rfl (by kernel_rfl) (by kernel_rfl) (by kernel_rfl) (fun _ _ _ h => h) (Or.inl ⟨rfl, fun _ _ => exec_slA 59 _ _ rfl ad n cp rfl .i64 _ rfl q rfl 22 Tryz.underlying59 hqn iSS⟩) hS1 ?_
            (try simp only [Act.put, List.getElem_toArray, List.getElem_cons_zero, List.getElem_cons_succ, List.setIfInBounds_toArray, List.set_cons_zero, List.set_cons_succ])
            refine wpAnyH_take (i := 12) (v := .slice aq lq cq) rfl (by kernel_rfl) (by kernel_rfl) (by kernel_rfl) (fun _ _ _ h => h) (Or.inl ⟨rfl, fun W hW => exec_lds 22 _ rfl (ad.add q) rfl 5 Tryz.underlying22 _ (hcqW W hW)⟩) hS1 ?_
            (try simp only [Act.put, List.getElem_toArray, List.getElem_cons_zero, List.getElem_cons_succ, List.setIfInBounds_toArray, List.set_cons_zero, List.set_cons_succ])
            refine wpAnyH_take (i := 13) (v := .int .i64 (lq : Int)) rfl (by kernel_rfl) (by kernel_rfl) (by kernel_rfl) (fun _ _ _ h => h) (Or.inl ⟨rfl, fun W _ => by go_simp⟩) hS1 ?_
            (try simp only [Act.put, List.getElem_toArray, List.getElem_cons_zero, List.getElem_cons_succ, List.setIfInBounds_toArray, List.set_cons_zero, List.set_cons_succ])
            refine wpAnyH_take (i := 14) (v := .slice (some ad) n cp) rfl (by kernel_rfl) (by kernel_rfl) (by kernel_rfl) (fun _ _ _ h => h) (Or.inl ⟨rfl, fun _ _ => exec_move _ rfl _ rfl⟩) hS1 ?_
            (try simp only [Act.put, List.getElem_toArray, List.getElem_cons_zero, List.getElem_cons_succ, List.setIfInBounds_toArray, List.set_cons_zero, List.set_cons_succ])
            refine wpAnyH_take (i := 15) (v := .pointer (some (ad.add 0))) rfl (by kernel_rfl) (by kernel_rfl) (by kernel_rfl) (fun _ _ _ h => h) (Or.inl ⟨rfl, fun _ _ => exec_slA 59 _ _ rfl ad n cp rfl .i64 _ rfl 0 rfl 22 Tryz.underlying59 hn0 iSS⟩) hS1 ?_
            (try simp only [Act.put, List.getElem_toArray, List.getElem_cons_zero, List.getElem_cons_succ, List.setIfInBounds_toArray, List.set_cons_zero, List.set_cons_succ])
            refine wpAnyH_take (i := 16) (v := .slice a0 L c0) rfl (by kernel_rfl) (by kernel_rfl) (by kernel_rfl) (fun _ _ _ h => h) (Or.inl ⟨rfl, fun W hW => exec_lds 22 _ rfl (ad.add 0) rfl 5 Tryz.underlying22 _ (hc0W W hW)⟩) hS1 ?_
            (try simp only [Act.put, List.getElem_toArray, List.getElem_cons_zero, List.getElem_cons_succ, List.setIfInBounds_toArray, List.set_cons_zero, List.set_cons_succ])
            refine wpAnyH_take (i := 17) (v := .int .i64 (L : Int)) rfl (by kernel_rfl) (by kernel_rfl) (by kernel_rfl) (fun _ _ _ h => h) (Or.inl ⟨rfl, fun W _ => by go_simp⟩) hS1 ?_
            (try simp only [Act.put, List.getElem_toArray, List.getElem_cons_zero, List.getElem_cons_succ, List.setIfInBounds_toArray, List.set_cons_zero, List.set_cons_succ])
            refine wpAnyH_take (i := 18) (v := .bool true) rfl (by kernel_rfl) (by kernel_rfl) (by kernel_rfl) (fun _ _ _ h => h) (Or.inl ⟨rfl, fun _ _ => exec_neI _ _ _ _ rfl _ _ rfl rfl _ hne⟩) hS1 ?_
            (try simp only [Act.put, List.getElem_toArray, List.getElem_cons_zero, List.getElem_cons_succ, List.setIfInBounds_toArray, List.set_cons_zero, List.set_cons_succ])
            refine wpAnyH_take (i := 19) (v := .bool true) rfl (by kernel_rfl) (by kernel_rfl) (by kernel_rfl) (fun _ _ _ h => h) (Or.inl ⟨rfl, fun W _ => by go_simp⟩) hS1 ?_
            (try simp only [Act.put, List.getElem_toArray, List.getElem_cons_zero, List.getElem_cons_succ, List.setIfInBounds_toArray, List.set_cons_zero, List.set_cons_succ])
            refine wpAnyH_done (by kernel_rfl) ?_ _
            have HX3 := hid (HX.out.trans (hS1.mono HX.out.size))
            have HB3 := HX3
            have HF3 := hid (HF2.out.below hS1 HF2.out.lt)
            clear hS0 hS1 HX HB HF2 hcqW hc0W
            go_wp2_with fail
            refine (code_fault 2 _ _ (HG.out.below HB3.out) (HF3.out.cell 1)).mono ?_
            rintro e w4 ⟨rfl, hB4⟩
            have HB4 := hid (HB3.out.trans (hB4.mono HB3.out.size))
            have HF4 := hid (HF3.out.below hB4 HF3.out.lt)
            go_wp2_with fail
            refine (at_fault _ _ _ _ (HG.out.below HB4.out) HF4.out).mono ?_
            rintro e w5 ⟨rfl, hB5⟩
            go_wp2_with fail
            go_ret
            exact ⟨rfl, HB4.out.trans (hB5.mono HB4.out.size)⟩
          · have HSZ := hid (rsized_bad 1 (l q) (.inl rfl) hfq)
            clear HJl hJn HP2 hfq Hs
            generalize l q = lq at *
            generalize ha0 : a 0 = a0 at hc0
            generalize hc0' : c 0 = c0 at hc0
            generalize haq : a q = aq at hcq
            generalize hcq' : c q = cq at hcq
            clear ha0 hc0' haq hcq'
            go_wp2_with fail
            have hcqW : ∀ W, Below wr.heap.size wr W → W.cell? (ad.add q) = some (.slice aq lq cq) := fun W hW => (hW.cell (p := ad.add q) (by rw [add_block]; exact had)).trans hcq
            have hc0W : ∀ W, Below wr.heap.size wr W → W.cell? (ad.add 0) = some (.slice a0 L c0) := fun W hW => (hW.cell (p := ad.add 0) (by rw [add_block]; exact had)).trans hc0
            clear hcq hc0
            refine wp_region_held_drew (S := fun W => Below wr.heap.size wr W) (by kernel_rfl) (Below.refl _ _).drew (fun hS0 => ?_)
            refine wpAnyH_take (i := 0) (v := .int .i64 1) rfl (by kernel_rfl) (by kernel_rfl) (by kernel_rfl) (fun _ _ _ h => h) (Or.inl ⟨rfl, fun _ _ => exec_move _ rfl _ rfl⟩) hS0 ?_
            (try simp only [Act.put, List.getElem_toArray, List.getElem_cons_zero, List.getElem_cons_succ, List.setIfInBounds_toArray, List.set_cons_zero, List.set_cons_succ])
            refine wpAnyH_take (i := 1) (v := .slice (some ad) n cp) rfl (by kernel_rfl) (by kernel_rfl) (by kernel_rfl) (fun _ _ _ h => h) (Or.inl ⟨rfl, fun _ _ => exec_move _ rfl _ rfl⟩) hS0 ?_
            (try simp only [Act.put, List.getElem_toArray, List.getElem_cons_zero, List.getElem_cons_succ, List.setIfInBounds_toArray, List.set_cons_zero, List.set_cons_succ])
            refine wpAnyH_take (i := 2) (v := .int .i64 (q : Int)) rfl (by kernel_rfl) (by kernel_rfl) (by kernel_rfl) (fun _ _ _ h => h) (Or.inl ⟨rfl, fun _ _ => exec_move _ rfl _ rfl⟩) hS0 ?_
            (try simp only [Act.put, List.getElem_toArray, List.getElem_cons_zero, List.getElem_cons_succ, List.setIfInBounds_toArray, List.set_cons_zero, List.set_cons_succ])
            refine wpAnyH_take (i := 3) (v := .pointer (some (ad.add q))) rfl (by kernel_rfl) (by kernel_rfl) (by kernel_rfl) (fun _ _ _ h => h) (Or.inl ⟨rfl, fun _ _ => exec_slA 59 _ _ rfl ad n cp rfl .i64 _ rfl q rfl 22 Tryz.underlying59 hqn iSS⟩) hS0 ?_
            (try simp only [Act.put, List.getElem_toArray, List.getElem_cons_zero, List.getElem_cons_succ, List.setIfInBounds_toArray, List.set_cons_zero, List.set_cons_succ])
            refine wpAnyH_take (i := 4) (v := .slice aq lq cq) rfl (by kernel_rfl) (by kernel_rfl) (by kernel_rfl) (fun _ _ _ h => h) (Or.inl ⟨rfl, fun W hW => exec_lds 22 _ rfl (ad.add q) rfl 5 Tryz.underlying22 _ (hcqW W hW)⟩) hS0 ?_
            (try simp only [Act.put, List.getElem_toArray, List.getElem_cons_zero, List.getElem_cons_succ, List.setIfInBounds_toArray, List.set_cons_zero, List.set_cons_succ])
            refine wpAnyH_take (i := 5) (v := .int .i64 (lq : Int)) rfl (by kernel_rfl) (by kernel_rfl) (by kernel_rfl) (fun _ _ _ h => h) (Or.inl ⟨rfl, fun W _ => by go_simp⟩) hS0 ?_
            (try simp only [Act.put, List.getElem_toArray, List.getElem_cons_zero, List.getElem_cons_succ, List.setIfInBounds_toArray, List.set_cons_zero, List.set_cons_succ])
            refine wpAnyH_ready (rs := [6]) (by kernel_rfl) (by simp) (AllReadyH.cons rfl (fun K hK => ?_) AllReadyH.nil)
            (try simp only [Act.put, List.getElem_toArray, List.getElem_cons_zero, List.getElem_cons_succ, List.setIfInBounds_toArray, List.set_cons_zero, List.set_cons_succ])
            refine Eq.mpr (if_pos (by rfl)) ?_
            go_simp
            refine (HSZ.out _).mono ?_
            rintro e wq1 ⟨rfl, hQe⟩
            have hQB : Below wr.drew.heap.size wr.drew wq1 := by rw [hQe]; exact Below.refl _ _
            clear hQe
            refine hK.out _ _ (hS0.trans (hQB.mono hS0.size)) (fun hS1 => ?_)
            (try simp only [Act.put, List.getElem_toArray, List.getElem_cons_zero, List.getElem_cons_succ, List.setIfInBounds_toArray, List.set_cons_zero, List.set_cons_succ])
            clear hK K
            refine wpAnyH_take (i := 7) (v := .bool true) rfl (by kernel_rfl) (by kernel_rfl) (by kernel_rfl) (fun _ _ _ h => h) (Or.inl ⟨rfl, fun _ _ => exec_neI _ _ _ _ rfl 2 0 rfl rfl _ rfl⟩) hS1 ?_
            (try simp only [Act.put, List.getElem_toArray, List.getElem_cons_zero, List.getElem_cons_succ, List.setIfInBounds_toArray, List.set_cons_zero, List.set_cons_succ])
            refine wpAnyH_take (i := 8) (v := .bool true) rfl (by kernel_rfl) (by kernel_rfl) (by kernel_rfl) (fun _ _ _ h => h) (Or.inl ⟨rfl, fun _ _ => exec_move _ rfl _ rfl⟩) hS1 ?_
            (try simp only [Act.put, List.getElem_toArray, List.getElem_cons_zero, List.getElem_cons_succ, List.setIfInBounds_toArray, List.set_cons_zero, List.set_cons_succ])
            refine wpAnyH_take (i := 9) (v := undef) rfl (by kernel_rfl) (by kernel_rfl) (by kernel_rfl) (fun _ _ _ h => h) (Or.inr ⟨rfl, rfl⟩) hS1 ?_
            (try simp only [Act.put, List.getElem_toArray, List.getElem_cons_zero, List.getElem_cons_succ, List.setIfInBounds_toArray, List.set_cons_zero, List.set_cons_succ])
            refine wpAnyH_take (i := 10) (v := undef) rfl (by kernel_rfl) (by kernel_rfl) (by kernel_rfl) (fun _ _ _ h => h) (Or.inr ⟨rfl, rfl⟩) hS1 ?_
            (try simp only [Act.put, List.getElem_toArray, List.getElem_cons_zero, List.getElem_cons_succ, List.setIfInBounds_toArray, List.set_cons_zero, List.set_cons_succ])
            refine wpAnyH_take (i := 11) (v := undef) rfl (by kernel_rfl) (by kernel_rfl) (by kernel_rfl) (fun _ _ _ h => h) (Or.inr ⟨rfl, rfl⟩) hS1 ?_
            (try simp only [Act.put, List.getElem_toArray, List.getElem_cons_zero, List.getElem_cons_succ, List.setIfInBounds_toArray, List.set_cons_zero, List.set_cons_succ])
            refine wpAnyH_take (i := 12) (v := undef) rfl (by kernel_rfl) (by kernel_rfl) (by kernel_rfl) (fun _ _ _ h => h) (Or.inr ⟨rfl, rfl⟩) hS1 ?_
            (try simp only [Act.put, List.getElem_toArray, List.getElem_cons_zero, List.getElem_cons_succ, List.setIfInBounds_toArray, List.set_cons_zero, List.set_cons_succ])
            refine wpAnyH_take (i := 13) (v := undef) rfl (by kernel_rfl) (by kernel_rfl) (by kernel_rfl) (fun _ _ _ h => h) (Or.inr ⟨rfl, rfl⟩) hS1 ?_
            (try simp only [Act.put, List.getElem_toArray, List.getElem_cons_zero, List.getElem_cons_succ, List.setIfInBounds_toArray, List.set_cons_zero, List.set_cons_succ])
            refine wpAnyH_take (i := 14) (v := undef) rfl (by kernel_rfl) (by kernel_rfl) (by kernel_rfl) (fun _ _ _ h => h) (Or.inr ⟨rfl, rfl⟩) hS1 ?_
            (try simp only [Act.put, List.getElem_toArray, List.getElem_cons_zero, List.getElem_cons_succ, List.setIfInBounds_toArray, List.set_cons_zero, List.set_cons_succ])
            refine wpAnyH_take (i := 15) (v := undef) rfl (by kernel_rfl) (by kernel_rfl) (by kernel_rfl) (fun _ _ _ h => h) (Or.inr ⟨rfl, rfl⟩) hS1 ?_
            (try simp only [Act.put, List.getElem_toArray, List.getElem_cons_zero, List.getElem_cons_succ, List.setIfInBounds_toArray, List.set_cons_zero, List.set_cons_succ])
            refine wpAnyH_take (i := 16) (v := undef) rfl (by kernel_rfl) (by kernel_rfl) (by kernel_rfl) (fun _ _ _ h => h) (Or.inr ⟨rfl, rfl⟩) hS1 ?_
            (try simp only [Act.put, List.getElem_toArray, List.getElem_cons_zero, List.getElem_cons_succ, List.setIfInBounds_toArray, List.set_cons_zero, List.set_cons_succ])
            refine wpAnyH_take (i := 17) (v := undef) rfl (by kernel_rfl) (by kernel_rfl) (by kernel_rfl) (fun _ _ _ h => h) (Or.inr ⟨rfl, rfl⟩) hS1 ?_
            (try simp only [Act.put, List.getElem_toArray, List.getElem_cons_zero, List.getElem_cons_succ, List.setIfInBounds_toArray, List.set_cons_zero, List.set_cons_succ])
            refine wpAnyH_take (i := 18) (v := undef) rfl (by kernel_rfl) (by kernel_rfl) (by kernel_rfl) (fun _ _ _ h => h) (Or.inr ⟨rfl, rfl⟩) hS1 ?_
            (try simp only [Act.put, List.getElem_toArray, List.getElem_cons_zero, List.getElem_cons_succ, List.setIfInBounds_toArray, List.set_cons_zero, List.set_cons_succ])
            refine wpAnyH_take (i := 19) (v := .bool true) rfl (by kernel_rfl) (by kernel_rfl) (by kernel_rfl) (fun _ _ _ h => h) (Or.inl ⟨rfl, fun W _ => by go_simp⟩) hS1 ?_
            (try simp only [Act.put, List.getElem_toArray, List.getElem_cons_zero, List.getElem_cons_succ, List.setIfInBounds_toArray, List.set_cons_zero, List.set_cons_succ])
            refine wpAnyH_done (by kernel_rfl) ?_ _
            have HX3 := hid (HX.out.trans (hS1.mono HX.out.size))
            have HB3 := HX3
            have HF3 := hid (HF2.out.below hS1 HF2.out.lt)
            clear hS0 hS1 HX HB HF2 hcqW hc0W
            go_wp2_with fail
            refine (code_fault 2 _ _ (HG.out.below HB3.out) (HF3.out.cell 1)).mono ?_
            rintro e w4 ⟨rfl, hB4⟩
            have HB4 := hid (HB3.out.trans (hB4.mono HB3.out.size))
            have HF4 := hid (HF3.out.below hB4 HF3.out.lt)
            go_wp2_with fail
            refine (at_fault _ _ _ _ (HG.out.below HB4.out) HF4.out).mono ?_
            rintro e w5 ⟨rfl, hB5⟩
            go_wp2_with fail
            go_ret
            exact ⟨rfl, HB4.out.trans (hB5.mono HB4.out.size)⟩
set_option linter.unusedSimpArgs false in
set_option maxRecDepth 100000 in
set_option maxHeartbeats 2000000 in
theorem j_unlike2 (P : Option Addr) (n cp : Nat) (a : Nat → Option Addr) (l c : Nat → Nat) (f : Nat → Nat → Nat) (w : World) (hg : Laid w) (hn : n = 2 ∨ n = 3) (L J : Nat) (hJ : J < n) (hJ0 : 0 < J) (hl0 : l 0 = L) (hJl : ∀ i, i < J → l i = L) (hJn : l J ≠ L) (hn6 : n ≤ 6) (hp : PartsAt w P n a l c f) (hs : ∀ i, i < n → l i ≤ 100) (hf : fit9 2 L) (hb : ∀ i, i < n → ∀ q, q < l i → f i q < 256) :
    Calls Tryz.prog 7 #[.int .i64 2, .slice P n cp] w fun e w' => e = .returned (.bool true) ∧ Below w.heap.size w w' := by
  have Hs := hid hs
  have HJl := hid hJl
  have hlJ := hs J hJ
  have e3 : decide ((n : Int) < 2) = false := by simp; omega
  have e4 : decide ((n : Int) > 3) = false := by simp; omega
  have hn0 : 0 < n := by omega
  have HJC := hid (join_any 2 P n cp a l c f L J)
  have Hbb : Hid (∀ i, i < J → ∀ q, q < L → f i q < 256) := hid (fun i hi q hq => hb i (by omega) q (by rw [hJl i hi]; exact hq))
  clear hs hJl hb
  have HG := hid hg
  have HP := hid hp
  have hnI : ¬ 6 < (n : Int) := by omega
  clear hg hp
  go_enter Tryz.func7, Tryz.ntmps7
  go_wp2_with fail
  refine (awake9_any _ HG.out).mono ?_
  rintro e w1 ⟨rfl, hB1⟩
  have HP1 := hid (HP.out.up hB1)
  have HB1 := hid hB1
  clear hB1 HP
  go_wp2_with fail
  generalize Value.bool (decide (6 < (n : Int))) = vb0 at *
  go_loopw [5] (fun y wr => ∃ i : Nat, i ≤ n ∧ y = .int .i64 (i : Int) ∧ wr = w1) (fun y _ => n - (intOf y).toNat)
  case atStart => exact ⟨0, by omega, rfl, rfl⟩
  case round =>
    obtain ⟨i, hi, rfl, rfl⟩ := hrel
    rename World => w1
    by_cases hlt : i < n
    · obtain ⟨ad, rfl, had, hcs⟩ := HP1.out.1 (by omega)
      have hci : w1.cell? (ad.add i) = some (.slice (a i) (l i) (c i)) := hcs i hlt
      clear hcs
      have hli := Hs.out i hlt
      have hlI : ¬ (100 : Int) < ((l i : Nat) : Int) := by omega
      generalize l i = li at *
      generalize a i = ai at *
      generalize c i = ci at *
      go_wp2_with (first
          | (with_reducible refine wpl_sl1 rfl 59 _ _ rfl ad n cp rfl .i64 _ rfl i rfl 22 Tryz.underlying59 hlt iSS ?_)
          | (with_reducible refine wpl_val rfl _ (exec_lds 22 _ rfl (ad.add i) rfl 5 Tryz.underlying22 _ hci) ?_))
      exact ⟨⟨i + 1, by omega, val_int (by omega), by first | rfl | trivial⟩, by simp [intOf]; omega⟩
    · have hiI : ¬ (i : Int) < (n : Int) := by omega
      clear hlt
      go_wp2_with fail
      refine (HJC.out _ hn HP1.out hf hl0 (Nat.le_of_lt hJ) hJ0 HJl.out (fun _ => hJn) Hbb.out).mono ?_
      rintro e w2 ⟨hB2, h2⟩
      rw [if_neg (by omega)] at h2
      obtain ⟨gf, rfl, hb2⟩ := h2
      have HF2 := hid hb2
      have HX := hid (HB1.out.trans (hB2.mono HB1.out.size))
      have HP2 := hid (HP1.out.up hB2)
      clear hb2 hB2 HP1 HJC Hbb
      go_wp2_with fail
      go_loopw [8] (fun y wr => ∃ q : Nat, q ≤ J ∧ y = .int .i64 (q : Int) ∧ Hid (Blk wr gf 84 #[.int .i64 (J : Int), .iface 71 (.int .i64 2)]) ∧ Hid (PartsAt wr P n a l c f) ∧ Hid (Below w.heap.size w wr)) (fun y _ => n - (intOf y).toNat)
      case atStart => exact ⟨0, by omega, rfl, HF2, HP2, HX⟩
      case round =>
        clear HF2 HP2 HX
        obtain ⟨q, hq, rfl, HF2, HP2, HX⟩ := hrel
        have HB := HX
        have hqn : q < n := by omega
        have hqI : (q : Int) < (n : Int) := by omega
        obtain ⟨ad, rfl, had, hcs⟩ := HP2.out.1 hn0
        have hcq : wr.cell? (ad.add q) = some (.slice (a q) (l q) (c q)) := hcs q hqn
        have hc0 : wr.cell? (ad.add 0) = some (.slice (a 0) L (c 0)) := by rw [← hl0]; exact hcs 0 hn0
        clear hcs
        by_cases hqJ : q < J
        · rw [HJl.out q hqJ] at hcq
          have HSZ := hid (rsized_ok 2 L hf)
          have hq1 : q + 1 ≤ J := by omega
          have hLL : ((L : Int) != (L : Int)) = false := by simp
          generalize ha0 : a 0 = a0 at hc0
          generalize hc0' : c 0 = c0 at hc0
          generalize haq : a q = aq at hcq
          generalize hcq' : c q = cq at hcq
          clear ha0 hc0' haq hcq'
          go_wp2_with fail
          have hcqW : ∀ W, Below wr.heap.size wr W → W.cell? (ad.add q) = some (.slice aq L cq) := fun W hW => (hW.cell (p := ad.add q) (by rw [add_block]; exact had)).trans hcq
          have hc0W : ∀ W, Below wr.heap.size wr W → W.cell? (ad.add 0) = some (.slice a0 L c0) := fun W hW => (hW.cell (p := ad.add 0) (by rw [add_block]; exact had)).trans hc0
          clear hcq hc0
          refine wp_region_held_drew (S := fun W => Below wr.heap.size wr W) (by kernel_rfl) (Below.refl _ _).drew (fun hS0 => ?_)
          refine wpAnyH_take (i := 0) (v := .int .i64 2) rfl (by kernel_rfl) (by kernel_rfl) (by kernel_rfl) (fun _ _ _ h => h) (Or.inl ⟨rfl, fun _ _ => exec_move _ rfl _ rfl⟩) hS0 ?_
          (try simp only [Act.put, List.getElem_toArray, List.getElem_cons_zero, List.getElem_cons_succ, List.setIfInBounds_toArray, List.set_cons_zero, List.set_cons_succ])
          refine wpAnyH_take (i := 1) (v := .slice (some ad) n cp) rfl (by kernel_rfl) (by kernel_rfl) (by kernel_rfl) (fun _ _ _ h => h) (Or.inl ⟨rfl, fun _ _ => exec_move _ rfl _ rfl⟩) hS0 ?_
          (try simp only [Act.put, List.getElem_toArray, List.getElem_cons_zero, List.getElem_cons_succ, List.setIfInBounds_toArray, List.set_cons_zero, List.set_cons_succ])
          refine wpAnyH_take (i := 2) (v := .int .i64 (q : Int)) rfl (by kernel_rfl) (by kernel_rfl) (by kernel_rfl) (fun _ _ _ h => h) (Or.inl ⟨rfl, fun _ _ => exec_move _ rfl _ rfl⟩) hS0 ?_
          (try simp only [Act.put, List.getElem_toArray, List.getElem_cons_zero, List.getElem_cons_succ, List.setIfInBounds_toArray, List.set_cons_zero, List.set_cons_succ])
          refine wpAnyH_take (i := 3) (v := .pointer (some (ad.add q))) rfl (by kernel_rfl) (by kernel_rfl) (by kernel_rfl) (fun _ _ _ h => h) (Or.inl ⟨rfl, fun _ _ => exec_slA 59 _ _ rfl ad n cp rfl .i64 _ rfl q rfl 22 Tryz.underlying59 hqn iSS⟩) hS0 ?_
          (try simp only [Act.put, List.getElem_toArray, List.getElem_cons_zero, List.getElem_cons_succ, List.setIfInBounds_toArray, List.set_cons_zero, List.set_cons_succ])
          refine wpAnyH_take (i := 4) (v := .slice aq L cq) rfl (by kernel_rfl) (by kernel_rfl) (by kernel_rfl) (fun _ _ _ h => h) (Or.inl ⟨rfl, fun W hW => exec_lds 22 _ rfl (ad.add q) rfl 5 Tryz.underlying22 _ (hcqW W hW)⟩) hS0 ?_
          (try simp only [Act.put, List.getElem_toArray, List.getElem_cons_zero, List.getElem_cons_succ, List.setIfInBounds_toArray, List.set_cons_zero, List.set_cons_succ])
          refine wpAnyH_take (i := 5) (v := .int .i64 (L : Int)) rfl (by kernel_rfl) (by kernel_rfl) (by kernel_rfl) (fun _ _ _ h => h) (Or.inl ⟨rfl, fun W _ => by go_simp⟩) hS0 ?_
          (try simp only [Act.put, List.getElem_toArray, List.getElem_cons_zero, List.getElem_cons_succ, List.setIfInBounds_toArray, List.set_cons_zero, List.set_cons_succ])
          refine wpAnyH_ready (rs := [6]) (by kernel_rfl) (by simp) (AllReadyH.cons rfl (fun K hK => ?_) AllReadyH.nil)
          (try simp only [Act.put, List.getElem_toArray, List.getElem_cons_zero, List.getElem_cons_succ, List.setIfInBounds_toArray, List.set_cons_zero, List.set_cons_succ])
          refine Eq.mpr (if_pos (by rfl)) ?_
          go_simp
          refine (HSZ.out _).mono ?_
          rintro e wq1 ⟨rfl, hQe⟩
          have hQB : Below wr.drew.heap.size wr.drew wq1 := by rw [hQe]; exact Below.refl _ _
          clear hQe
          refine hK.out _ _ (hS0.trans (hQB.mono hS0.size)) (fun hS1 => ?_)
          (try simp only [Act.put, List.getElem_toArray, List.getElem_cons_zero, List.getElem_cons_succ, List.setIfInBounds_toArray, List.set_cons_zero, List.set_cons_succ])
          clear hK K
          refine wpAnyH_take (i := 7) (v := .bool false) rfl (by kernel_rfl) (by kernel_rfl) (by kernel_rfl) (fun _ _ _ h => h) (Or.inl ⟨rfl, fun _ _ => exec_neI _ _ _ _ rfl 0 0 rfl rfl _ rfl⟩) hS1 ?_
          (try simp only [Act.put, List.getElem_toArray, List.getElem_cons_zero, List.getElem_cons_succ, List.setIfInBounds_toArray, List.set_cons_zero, List.set_cons_succ])
          refine wpAnyH_take (i := 8) (v := .bool false) rfl (by kernel_rfl) (by kernel_rfl) (by kernel_rfl) (fun _ _ _ h => h) (Or.inl ⟨rfl, fun _ _ => exec_move _ rfl _ rfl⟩) hS1 ?_
          (try simp only [Act.put, List.getElem_toArray, List.getElem_cons_zero, List.getElem_cons_succ, List.setIfInBounds_toArray, List.set_cons_zero, List.set_cons_succ])
          refine wpAnyH_take (i := 9) (v := .slice (some ad) n cp) rfl (by kernel_rfl) (by kernel_rfl) (by kernel_rfl) (fun _ _ _ h => h) (Or.inl ⟨rfl, fun _ _ => exec_move _ rfl _ rfl⟩) hS1 ?_
          (try simp only [Act.put, List.getElem_toArray, List.getElem_cons_zero, List.getElem_cons_succ, List.setIfInBounds_toArray, List.set_cons_zero, List.set_cons_succ])
          refine wpAnyH_take (i := 10) (v := .int .i64 (q : Int)) rfl (by kernel_rfl) (by kernel_rfl) (by kernel_rfl) (fun _ _ _ h => h) (Or.inl ⟨rfl, fun _ _ => exec_move _ rfl _ rfl⟩) hS1 ?_
          (try simp only [Act.put, List.getElem_toArray, List.getElem_cons_zero, List.getElem_cons_succ, List.setIfInBounds_toArray, List.set_cons_zero, List.set_cons_succ])
          refine wpAnyH_take (i := 11) (v := .pointer (some (ad.add q))) rfl (by kernel_rfl) (by kernel_rfl) (by kernel_rfl) (fun _ _ _ h => h) (Or.inl ⟨rfl, fun _ _ => exec_slA 59 _ _ rfl ad n cp rfl .i64 _ rfl q rfl 22 Tryz.underlying59 hqn iSS⟩) hS1 ?_
          (try simp only [Act.put, List.getElem_toArray, List.getElem_cons_zero, List.getElem_cons_succ, List.setIfInBounds_toArray, List.set_cons_zero, List.set_cons_succ])
          refine wpAnyH_take (i := 12) (v := .slice aq L cq) rfl (by kernel_rfl) (by kernel_rfl) (by kernel_rfl) (fun _ _ _ h => h) (Or.inl ⟨rfl, fun W hW => exec_lds 22 _ rfl (ad.add q) rfl 5 Tryz.underlying22 _ (hcqW W hW)⟩) hS1 ?_
          (try simp only [Act.put, List.getElem_toArray, List.getElem_cons_zero, List.getElem_cons_succ, List.setIfInBounds_toArray, List.set_cons_zero, List.set_cons_succ])
          refine wpAnyH_take (i := 13) (v := .int .i64 (L : Int)) rfl (by kernel_rfl) (by kernel_rfl) (by kernel_rfl) (fun _ _ _ h => h) (Or.inl ⟨rfl, fun W _ => by go_simp⟩) hS1 ?_
          (try simp only [Act.put, List.getElem_toArray, List.getElem_cons_zero, List.getElem_cons_succ, List.setIfInBounds_toArray, List.set_cons_zero, List.set_cons_succ])
          refine wpAnyH_take (i := 14) (v := .slice (some ad) n cp) rfl (by kernel_rfl) (by kernel_rfl) (by kernel_rfl) (fun _ _ _ h => h) (Or.inl ⟨rfl, fun _ _ => exec_move _ rfl _ rfl⟩) hS1 ?_
          (try simp only [Act.put, List.getElem_toArray, List.getElem_cons_zero, List.getElem_cons_succ, List.setIfInBounds_toArray, List.set_cons_zero, List.set_cons_succ])
          refine wpAnyH_take (i := 15) (v := .pointer (some (ad.add 0))) rfl (by kernel_rfl) (by kernel_rfl) (by kernel_rfl) (fun _ _ _ h => h) (Or.inl ⟨rfl, fun _ _ => exec_slA 59 _ _ rfl ad n cp rfl .i64 _ rfl 0 rfl 22 Tryz.underlying59 hn0 iSS⟩) hS1 ?_
          (try simp only [Act.put, List.getElem_toArray, List.getElem_cons_zero, List.getElem_cons_succ, List.setIfInBounds_toArray, List.set_cons_zero, List.set_cons_succ])
          refine wpAnyH_take (i := 16) (v := .slice a0 L c0) rfl (by kernel_rfl) (by kernel_rfl) (by kernel_rfl) (fun _ _ _ h => h) (Or.inl ⟨rfl, fun W hW => exec_lds 22 _ rfl (ad.add 0) rfl 5 Tryz.underlying22 _ (hc0W W hW)⟩) hS1 ?_
          (try simp only [Act.put, List.getElem_toArray, List.getElem_cons_zero, List.getElem_cons_succ, List.setIfInBounds_toArray, List.set_cons_zero, List.set_cons_succ])
          refine wpAnyH_take (i := 17) (v := .int .i64 (L : Int)) rfl (by kernel_rfl) (by kernel_rfl) (by kernel_rfl) (fun _ _ _ h => h) (Or.inl ⟨rfl, fun W _ => by go_simp⟩) hS1 ?_
          (try simp only [Act.put, List.getElem_toArray, List.getElem_cons_zero, List.getElem_cons_succ, List.setIfInBounds_toArray, List.set_cons_zero, List.set_cons_succ])
          refine wpAnyH_take (i := 18) (v := .bool false) rfl (by kernel_rfl) (by kernel_rfl) (by kernel_rfl) (fun _ _ _ h => h) (Or.inl ⟨rfl, fun _ _ => exec_neI _ _ _ _ rfl _ _ rfl rfl _ hLL⟩) hS1 ?_
          (try simp only [Act.put, List.getElem_toArray, List.getElem_cons_zero, List.getElem_cons_succ, List.setIfInBounds_toArray, List.set_cons_zero, List.set_cons_succ])
          refine wpAnyH_take (i := 19) (v := .bool false) rfl (by kernel_rfl) (by kernel_rfl) (by kernel_rfl) (fun _ _ _ h => h) (Or.inl ⟨rfl, fun W _ => by go_simp⟩) hS1 ?_
          (try simp only [Act.put, List.getElem_toArray, List.getElem_cons_zero, List.getElem_cons_succ, List.setIfInBounds_toArray, List.set_cons_zero, List.set_cons_succ])
          refine wpAnyH_done (by kernel_rfl) ?_ _
          have HX3 := hid (HX.out.trans (hS1.mono HX.out.size))
          have HB3 := HX3
          have HF3 := hid (HF2.out.below hS1 HF2.out.lt)
          have HP3 := hid (HP2.out.up hS1)
          clear hS0 hS1 HX HB HF2 hcqW hc0W
          go_wp2_with fail
          exact ⟨⟨q + 1, hq1, val_int (by omega), HF3, HP3, HX3⟩, by simp [intOf]; omega⟩
        · have hqJe : q = J := by omega
          subst hqJe
          have hne : (((l q : Nat) : Int) != (L : Int)) = true := by simp; omega
          by_cases hfq : fit9 2 (l q)
          · have HSZ := hid (rsized_ok 2 (l q) hfq)
            clear HJl hJn HP2 hfq Hs
            generalize l q = lq at *
            generalize ha0 : a 0 = a0 at hc0
            generalize hc0' : c 0 = c0 at hc0
            generalize haq : a q = aq at hcq
            generalize hcq' : c q = cq at hcq
            clear ha0 hc0' haq hcq'
            go_wp2_with fail
            have hcqW : ∀ W, Below wr.heap.size wr W → W.cell? (ad.add q) = some (.slice aq lq cq) := fun W hW => (hW.cell (p := ad.add q) (by rw [add_block]; exact had)).trans hcq
            have hc0W : ∀ W, Below wr.heap.size wr W → W.cell? (ad.add 0) = some (.slice a0 L c0) := fun W hW => (hW.cell (p := ad.add 0) (by rw [add_block]; exact had)).trans hc0
            clear hcq hc0
            refine wp_region_held_drew (S := fun W => Below wr.heap.size wr W) (by kernel_rfl) (Below.refl _ _).drew (fun hS0 => ?_)
            refine wpAnyH_take (i := 0) (v := .int .i64 2) rfl (by kernel_rfl) (by kernel_rfl) (by kernel_rfl) (fun _ _ _ h => h) (Or.inl ⟨rfl, fun _ _ => exec_move _ rfl _ rfl⟩) hS0 ?_
            (try simp only [Act.put, List.getElem_toArray, List.getElem_cons_zero, List.getElem_cons_succ, List.setIfInBounds_toArray, List.set_cons_zero, List.set_cons_succ])
            refine wpAnyH_take (i := 1) (v := .slice (some ad) n cp) rfl (by kernel_rfl) (by kernel_rfl) (by kernel_rfl) (fun _ _ _ h => h) (Or.inl ⟨rfl, fun _ _ => exec_move _ rfl _ rfl⟩) hS0 ?_
            (try simp only [Act.put, List.getElem_toArray, List.getElem_cons_zero, List.getElem_cons_succ, List.setIfInBounds_toArray, List.set_cons_zero, List.set_cons_succ])
            refine wpAnyH_take (i := 2) (v := .int .i64 (q : Int)) rfl (by kernel_rfl) (by kernel_rfl) (by kernel_rfl) (fun _ _ _ h => h) (Or.inl ⟨rfl, fun _ _ => exec_move _ rfl _ rfl⟩) hS0 ?_
            (try simp only [Act.put, List.getElem_toArray, List.getElem_cons_zero, List.getElem_cons_succ, List.setIfInBounds_toArray, List.set_cons_zero, List.set_cons_succ])
            refine wpAnyH_take (i := 3) (v := .pointer (some (ad.add q))) rfl (by kernel_rfl) (by kernel_rfl) (by kernel_rfl) (fun _ _ _ h => h) (Or.inl ⟨rfl, fun _ _ => exec_slA 59 _ _ rfl ad n cp rfl .i64 _ rfl q rfl 22 Tryz.underlying59 hqn iSS⟩) hS0 ?_
            (try simp only [Act.put, List.getElem_toArray, List.getElem_cons_zero, List.getElem_cons_succ, List.setIfInBounds_toArray, List.set_cons_zero, List.set_cons_succ])
            refine wpAnyH_take (i := 4) (v := .slice aq lq cq) rfl (by kernel_rfl) (by kernel_rfl) (by kernel_rfl) (fun _ _ _ h => h) (Or.inl ⟨rfl, fun W hW => exec_lds 22 _ rfl (ad.add q) rfl 5 Tryz.underlying22 _ (hcqW W hW)⟩) hS0 ?_
            (try simp only [Act.put, List.getElem_toArray, List.getElem_cons_zero, List.getElem_cons_succ, List.setIfInBounds_toArray, List.set_cons_zero, List.set_cons_succ])
            refine wpAnyH_take (i := 5) (v := .int .i64 (lq : Int)) rfl (by kernel_rfl) (by kernel_rfl) (by kernel_rfl) (fun _ _ _ h => h) (Or.inl ⟨rfl, fun W _ => by go_simp⟩) hS0 ?_
            (try simp only [Act.put, List.getElem_toArray, List.getElem_cons_zero, List.getElem_cons_succ, List.setIfInBounds_toArray, List.set_cons_zero, List.set_cons_succ])
            refine wpAnyH_ready (rs := [6]) (by kernel_rfl) (by simp) (AllReadyH.cons rfl (fun K hK => ?_) AllReadyH.nil)
            (try simp only [Act.put, List.getElem_toArray, List.getElem_cons_zero, List.getElem_cons_succ, List.setIfInBounds_toArray, List.set_cons_zero, List.set_cons_succ])
            refine Eq.mpr (if_pos (by rfl)) ?_
            go_simp
            refine (HSZ.out _).mono ?_
            rintro e wq1 ⟨rfl, hQe⟩
            have hQB : Below wr.drew.heap.size wr.drew wq1 := by rw [hQe]; exact Below.refl _ _
            clear hQe
            refine hK.out _ _ (hS0.trans (hQB.mono hS0.size)) (fun hS1 => ?_)
            (try simp only [Act.put, List.getElem_toArray, List.getElem_cons_zero, List.getElem_cons_succ, List.setIfInBounds_toArray, List.set_cons_zero, List.set_cons_succ])
            clear hK K
            refine wpAnyH_take (i := 7) (v := .bool false) rfl (by kernel_rfl) (by kernel_rfl) (by kernel_rfl) (fun _ _ _ h => h) (Or.inl ⟨rfl, fun _ _ => exec_neI _ _ _ _ rfl 0 0 rfl rfl _ rfl⟩) hS1 ?_
            (try simp only [Act.put, List.getElem_toArray, List.getElem_cons_zero, List.getElem_cons_succ, List.setIfInBounds_toArray, List.set_cons_zero, List.set_cons_succ])
            refine wpAnyH_take (i := 8) (v := .bool false) rfl (by kernel_rfl) (by kernel_rfl) (by kernel_rfl) (fun _ _ _ h => h) (Or.inl ⟨rfl, fun _ _ => exec_move _ rfl _ rfl⟩) hS1 ?_
            (try simp only [Act.put, List.getElem_toArray, List.getElem_cons_zero, List.getElem_cons_succ, List.setIfInBounds_toArray, List.set_cons_zero, List.set_cons_succ])
            refine wpAnyH_take (i := 9) (v := .slice (some ad) n cp) rfl (by kernel_rfl) (by kernel_rfl) (by kernel_rfl) (fun _ _ _ h => h) (Or.inl ⟨rfl, fun _ _ => exec_move _ rfl _ rfl⟩) hS1 ?_
            (try simp only [Act.put, List.getElem_toArray, List.getElem_cons_zero, List.getElem_cons_succ, List.setIfInBounds_toArray, List.set_cons_zero, List.set_cons_succ])
            refine wpAnyH_take (i := 10) (v := .int .i64 (q : Int)) rfl (by kernel_rfl) (by kernel_rfl) (by kernel_rfl) (fun _ _ _ h => h) (Or.inl ⟨rfl, fun _ _ => exec_move _ rfl _ rfl⟩) hS1 ?_
            (try simp only [Act.put, List.getElem_toArray, List.getElem_cons_zero, List.getElem_cons_succ, List.setIfInBounds_toArray, List.set_cons_zero, List.set_cons_succ])
            refine wpAnyH_take (i := 11) (v := .pointer (some (ad.add q))) rfl (by kernel_rfl) (by kernel_rfl) (by kernel_rfl) (fun _ _ _ h => h) (Or.inl ⟨rfl, fun _ _ => exec_slA 59 _ _ rfl ad n cp rfl .i64 _ rfl q rfl 22 Tryz.underlying59 hqn iSS⟩) hS1 ?_
            (try simp only [Act.put, List.getElem_toArray, List.getElem_cons_zero, List.getElem_cons_succ, List.setIfInBounds_toArray, List.set_cons_zero, List.set_cons_succ])
            refine wpAnyH_take (i := 12) (v := .slice aq lq cq) rfl (by kernel_rfl) (by kernel_rfl) (by kernel_rfl) (fun _ _ _ h => h) (Or.inl ⟨rfl, fun W hW => exec_lds 22 _ rfl (ad.add q) rfl 5 Tryz.underlying22 _ (hcqW W hW)⟩) hS1 ?_
            (try simp only [Act.put, List.getElem_toArray, List.getElem_cons_zero, List.getElem_cons_succ, List.setIfInBounds_toArray, List.set_cons_zero, List.set_cons_succ])
            refine wpAnyH_take (i := 13) (v := .int .i64 (lq : Int)) rfl (by kernel_rfl) (by kernel_rfl) (by kernel_rfl) (fun _ _ _ h => h) (Or.inl ⟨rfl, fun W _ => by go_simp⟩) hS1 ?_
            (try simp only [Act.put, List.getElem_toArray, List.getElem_cons_zero, List.getElem_cons_succ, List.setIfInBounds_toArray, List.set_cons_zero, List.set_cons_succ])
            refine wpAnyH_take (i := 14) (v := .slice (some ad) n cp) rfl (by kernel_rfl) (by kernel_rfl) (by kernel_rfl) (fun _ _ _ h => h) (Or.inl ⟨rfl, fun _ _ => exec_move _ rfl _ rfl⟩) hS1 ?_
            (try simp only [Act.put, List.getElem_toArray, List.getElem_cons_zero, List.getElem_cons_succ, List.setIfInBounds_toArray, List.set_cons_zero, List.set_cons_succ])
            refine wpAnyH_take (i := 15) (v := .pointer (some (ad.add 0))) rfl (by kernel_rfl) (by kernel_rfl) (by kernel_rfl) (fun _ _ _ h => h) (Or.inl ⟨rfl, fun _ _ => exec_slA 59 _ _ rfl ad n cp rfl .i64 _ rfl 0 rfl 22 Tryz.underlying59 hn0 iSS⟩) hS1 ?_
            (try simp only [Act.put, List.getElem_toArray, List.getElem_cons_zero, List.getElem_cons_succ, List.setIfInBounds_toArray, List.set_cons_zero, List.set_cons_succ])
            refine wpAnyH_take (i := 16) (v := .slice a0 L c0) rfl (by kernel_rfl) (by kernel_rfl) (by kernel_rfl) (fun _ _ _ h => h) (Or.inl ⟨rfl, fun W hW => exec_lds 22 _ rfl (ad.add 0) rfl 5 Tryz.underlying22 _ (hc0W W hW)⟩) hS1 ?_
            (try simp only [Act.put, List.getElem_toArray, List.getElem_cons_zero, List.getElem_cons_succ, List.setIfInBounds_toArray, List.set_cons_zero, List.set_cons_succ])
            refine wpAnyH_take (i := 17) (v := .int .i64 (L : Int)) rfl (by kernel_rfl) (by kernel_rfl) (by kernel_rfl) (fun _ _ _ h => h) (Or.inl ⟨rfl, fun W _ => by go_simp⟩) hS1 ?_
            (try simp only [Act.put, List.getElem_toArray, List.getElem_cons_zero, List.getElem_cons_succ, List.setIfInBounds_toArray, List.set_cons_zero, List.set_cons_succ])
            refine wpAnyH_take (i := 18) (v := .bool true) rfl (by kernel_rfl) (by kernel_rfl) (by kernel_rfl) (fun _ _ _ h => h) (Or.inl ⟨rfl, fun _ _ => exec_neI _ _ _ _ rfl _ _ rfl rfl _ hne⟩) hS1 ?_
            (try simp only [Act.put, List.getElem_toArray, List.getElem_cons_zero, List.getElem_cons_succ, List.setIfInBounds_toArray, List.set_cons_zero, List.set_cons_succ])
            refine wpAnyH_take (i := 19) (v := .bool true) rfl (by kernel_rfl) (by kernel_rfl) (by kernel_rfl) (fun _ _ _ h => h) (Or.inl ⟨rfl, fun W _ => by go_simp⟩) hS1 ?_
            (try simp only [Act.put, List.getElem_toArray, List.getElem_cons_zero, List.getElem_cons_succ, List.setIfInBounds_toArray, List.set_cons_zero, List.set_cons_succ])
            refine wpAnyH_done (by kernel_rfl) ?_ _
            have HX3 := hid (HX.out.trans (hS1.mono HX.out.size))
            have HB3 := HX3
            have HF3 := hid (HF2.out.below hS1 HF2.out.lt)
            clear hS0 hS1 HX HB HF2 hcqW hc0W
            go_wp2_with fail
            refine (code_fault 2 _ _ (HG.out.below HB3.out) (HF3.out.cell 1)).mono ?_
            rintro e w4 ⟨rfl, hB4⟩
            have HB4 := hid (HB3.out.trans (hB4.mono HB3.out.size))
            have HF4 := hid (HF3.out.below hB4 HF3.out.lt)
            go_wp2_with fail
            refine (at_fault _ _ _ _ (HG.out.below HB4.out) HF4.out).mono ?_
            rintro e w5 ⟨rfl, hB5⟩
            go_wp2_with fail
            go_ret
            exact ⟨rfl, HB4.out.trans (hB5.mono HB4.out.size)⟩
          · have HSZ := hid (rsized_bad 2 (l q) (.inr rfl) hfq)
            clear HJl hJn HP2 hfq Hs
            generalize l q = lq at *
            generalize ha0 : a 0 = a0 at hc0
            generalize hc0' : c 0 = c0 at hc0
            generalize haq : a q = aq at hcq
            generalize hcq' : c q = cq at hcq
            clear ha0 hc0' haq hcq'
            go_wp2_with fail
            have hcqW : ∀ W, Below wr.heap.size wr W → W.cell? (ad.add q) = some (.slice aq lq cq) := fun W hW => (hW.cell (p := ad.add q) (by rw [add_block]; exact had)).trans hcq
            have hc0W : ∀ W, Below wr.heap.size wr W → W.cell? (ad.add 0) = some (.slice a0 L c0) := fun W hW => (hW.cell (p := ad.add 0) (by rw [add_block]; exact had)).trans hc0
            clear hcq hc0
            refine wp_region_held_drew (S := fun W => Below wr.heap.size wr W) (by kernel_rfl) (Below.refl _ _).drew (fun hS0 => ?_)
            refine wpAnyH_take (i := 0) (v := .int .i64 2) rfl (by kernel_rfl) (by kernel_rfl) (by kernel_rfl) (fun _ _ _ h => h) (Or.inl ⟨rfl, fun _ _ => exec_move _ rfl _ rfl⟩) hS0 ?_
            (try simp only [Act.put, List.getElem_toArray, List.getElem_cons_zero, List.getElem_cons_succ, List.setIfInBounds_toArray, List.set_cons_zero, List.set_cons_succ])
            refine wpAnyH_take (i := 1) (v := .slice (some ad) n cp) rfl (by kernel_rfl) (by kernel_rfl) (by kernel_rfl) (fun _ _ _ h => h) (Or.inl ⟨rfl, fun _ _ => exec_move _ rfl _ rfl⟩) hS0 ?_
            (try simp only [Act.put, List.getElem_toArray, List.getElem_cons_zero, List.getElem_cons_succ, List.setIfInBounds_toArray, List.set_cons_zero, List.set_cons_succ])
            refine wpAnyH_take (i := 2) (v := .int .i64 (q : Int)) rfl (by kernel_rfl) (by kernel_rfl) (by kernel_rfl) (fun _ _ _ h => h) (Or.inl ⟨rfl, fun _ _ => exec_move _ rfl _ rfl⟩) hS0 ?_
            (try simp only [Act.put, List.getElem_toArray, List.getElem_cons_zero, List.getElem_cons_succ, List.setIfInBounds_toArray, List.set_cons_zero, List.set_cons_succ])
            refine wpAnyH_take (i := 3) (v := .pointer (some (ad.add q))) rfl (by kernel_rfl) (by kernel_rfl) (by kernel_rfl) (fun _ _ _ h => h) (Or.inl ⟨rfl, fun _ _ => exec_slA 59 _ _ rfl ad n cp rfl .i64 _ rfl q rfl 22 Tryz.underlying59 hqn iSS⟩) hS0 ?_
            (try simp only [Act.put, List.getElem_toArray, List.getElem_cons_zero, List.getElem_cons_succ, List.setIfInBounds_toArray, List.set_cons_zero, List.set_cons_succ])
            refine wpAnyH_take (i := 4) (v := .slice aq lq cq) rfl (by kernel_rfl) (by kernel_rfl) (by kernel_rfl) (fun _ _ _ h => h) (Or.inl ⟨rfl, fun W hW => exec_lds 22 _ rfl (ad.add q) rfl 5 Tryz.underlying22 _ (hcqW W hW)⟩) hS0 ?_
            (try simp only [Act.put, List.getElem_toArray, List.getElem_cons_zero, List.getElem_cons_succ, List.setIfInBounds_toArray, List.set_cons_zero, List.set_cons_succ])
            refine wpAnyH_take (i := 5) (v := .int .i64 (lq : Int)) rfl (by kernel_rfl) (by kernel_rfl) (by kernel_rfl) (fun _ _ _ h => h) (Or.inl ⟨rfl, fun W _ => by go_simp⟩) hS0 ?_
            (try simp only [Act.put, List.getElem_toArray, List.getElem_cons_zero, List.getElem_cons_succ, List.setIfInBounds_toArray, List.set_cons_zero, List.set_cons_succ])
            refine wpAnyH_ready (rs := [6]) (by kernel_rfl) (by simp) (AllReadyH.cons rfl (fun K hK => ?_) AllReadyH.nil)
            (try simp only [Act.put, List.getElem_toArray, List.getElem_cons_zero, List.getElem_cons_succ, List.setIfInBounds_toArray, List.set_cons_zero, List.set_cons_succ])
            refine Eq.mpr (if_pos (by rfl)) ?_
            go_simp
            refine (HSZ.out _).mono ?_
            rintro e wq1 ⟨rfl, hQe⟩
            have hQB : Below wr.drew.heap.size wr.drew wq1 := by rw [hQe]; exact Below.refl _ _
            clear hQe
            refine hK.out _ _ (hS0.trans (hQB.mono hS0.size)) (fun hS1 => ?_)
            (try simp only [Act.put, List.getElem_toArray, List.getElem_cons_zero, List.getElem_cons_succ, List.setIfInBounds_toArray, List.set_cons_zero, List.set_cons_succ])
            clear hK K
            refine wpAnyH_take (i := 7) (v := .bool true) rfl (by kernel_rfl) (by kernel_rfl) (by kernel_rfl) (fun _ _ _ h => h) (Or.inl ⟨rfl, fun _ _ => exec_neI _ _ _ _ rfl 2 0 rfl rfl _ rfl⟩) hS1 ?_
            (try simp only [Act.put, List.getElem_toArray, List.getElem_cons_zero, List.getElem_cons_succ, List.setIfInBounds_toArray, List.set_cons_zero, List.set_cons_succ])
            refine wpAnyH_take (i := 8) (v := .bool true) rfl (by kernel_rfl) (by kernel_rfl) (by kernel_rfl) (fun _ _ _ h => h) (Or.inl ⟨rfl, fun _ _ => exec_move _ rfl _ rfl⟩) hS1 ?_
            (try simp only [Act.put, List.getElem_toArray, List.getElem_cons_zero, List.getElem_cons_succ, List.setIfInBounds_toArray, List.set_cons_zero, List.set_cons_succ])
            refine wpAnyH_take (i := 9) (v := undef) rfl (by kernel_rfl) (by kernel_rfl) (by kernel_rfl) (fun _ _ _ h => h) (Or.inr ⟨rfl, rfl⟩) hS1 ?_
            (try simp only [Act.put, List.getElem_toArray, List.getElem_cons_zero, List.getElem_cons_succ, List.setIfInBounds_toArray, List.set_cons_zero, List.set_cons_succ])
            refine wpAnyH_take (i := 10) (v := undef) rfl (by kernel_rfl) (by kernel_rfl) (by kernel_rfl) (fun _ _ _ h => h) (Or.inr ⟨rfl, rfl⟩) hS1 ?_
            (try simp only [Act.put, List.getElem_toArray, List.getElem_cons_zero, List.getElem_cons_succ, List.setIfInBounds_toArray, List.set_cons_zero, List.set_cons_succ])
            refine wpAnyH_take (i := 11) (v := undef) rfl (by kernel_rfl) (by kernel_rfl) (by kernel_rfl) (fun _ _ _ h => h) (Or.inr ⟨rfl, rfl⟩) hS1 ?_
            (try simp only [Act.put, List.getElem_toArray, List.getElem_cons_zero, List.getElem_cons_succ, List.setIfInBounds_toArray, List.set_cons_zero, List.set_cons_succ])
            refine wpAnyH_take (i := 12) (v := undef) rfl (by kernel_rfl) (by kernel_rfl) (by kernel_rfl) (fun _ _ _ h => h) (Or.inr ⟨rfl, rfl⟩) hS1 ?_
            (try simp only [Act.put, List.getElem_toArray, List.getElem_cons_zero, List.getElem_cons_succ, List.setIfInBounds_toArray, List.set_cons_zero, List.set_cons_succ])
            refine wpAnyH_take (i := 13) (v := undef) rfl (by kernel_rfl) (by kernel_rfl) (by kernel_rfl) (fun _ _ _ h => h) (Or.inr ⟨rfl, rfl⟩) hS1 ?_
            (try simp only [Act.put, List.getElem_toArray, List.getElem_cons_zero, List.getElem_cons_succ, List.setIfInBounds_toArray, List.set_cons_zero, List.set_cons_succ])
            refine wpAnyH_take (i := 14) (v := undef) rfl (by kernel_rfl) (by kernel_rfl) (by kernel_rfl) (fun _ _ _ h => h) (Or.inr ⟨rfl, rfl⟩) hS1 ?_
            (try simp only [Act.put, List.getElem_toArray, List.getElem_cons_zero, List.getElem_cons_succ, List.setIfInBounds_toArray, List.set_cons_zero, List.set_cons_succ])
            refine wpAnyH_take (i := 15) (v := undef) rfl (by kernel_rfl) (by kernel_rfl) (by kernel_rfl) (fun _ _ _ h => h) (Or.inr ⟨rfl, rfl⟩) hS1 ?_
            (try simp only [Act.put, List.getElem_toArray, List.getElem_cons_zero, List.getElem_cons_succ, List.setIfInBounds_toArray, List.set_cons_zero, List.set_cons_succ])
            refine wpAnyH_take (i := 16) (v := undef) rfl (by kernel_rfl) (by kernel_rfl) (by kernel_rfl) (fun _ _ _ h => h) (Or.inr ⟨rfl, rfl⟩) hS1 ?_
            (try simp only [Act.put, List.getElem_toArray, List.getElem_cons_zero, List.getElem_cons_succ, List.setIfInBounds_toArray, List.set_cons_zero, List.set_cons_succ])
            refine wpAnyH_take (i := 17) (v := undef) rfl (by kernel_rfl) (by kernel_rfl) (by kernel_rfl) (fun _ _ _ h => h) (Or.inr ⟨rfl, rfl⟩) hS1 ?_
            (try simp only [Act.put, List.getElem_toArray, List.getElem_cons_zero, List.getElem_cons_succ, List.setIfInBounds_toArray, List.set_cons_zero, List.set_cons_succ])
            refine wpAnyH_take (i := 18) (v := undef) rfl (by kernel_rfl) (by kernel_rfl) (by kernel_rfl) (fun _ _ _ h => h) (Or.inr ⟨rfl, rfl⟩) hS1 ?_
            (try simp only [Act.put, List.getElem_toArray, List.getElem_cons_zero, List.getElem_cons_succ, List.setIfInBounds_toArray, List.set_cons_zero, List.set_cons_succ])
            refine wpAnyH_take (i := 19) (v := .bool true) rfl (by kernel_rfl) (by kernel_rfl) (by kernel_rfl) (fun _ _ _ h => h) (Or.inl ⟨rfl, fun W _ => by go_simp⟩) hS1 ?_
            (try simp only [Act.put, List.getElem_toArray, List.getElem_cons_zero, List.getElem_cons_succ, List.setIfInBounds_toArray, List.set_cons_zero, List.set_cons_succ])
            refine wpAnyH_done (by kernel_rfl) ?_ _
            have HX3 := hid (HX.out.trans (hS1.mono HX.out.size))
            have HB3 := HX3
            have HF3 := hid (HF2.out.below hS1 HF2.out.lt)
            clear hS0 hS1 HX HB HF2 hcqW hc0W
            go_wp2_with fail
            refine (code_fault 2 _ _ (HG.out.below HB3.out) (HF3.out.cell 1)).mono ?_
            rintro e w4 ⟨rfl, hB4⟩
            have HB4 := hid (HB3.out.trans (hB4.mono HB3.out.size))
            have HF4 := hid (HF3.out.below hB4 HF3.out.lt)
            go_wp2_with fail
            refine (at_fault _ _ _ _ (HG.out.below HB4.out) HF4.out).mono ?_
            rintro e w5 ⟨rfl, hB5⟩
            go_wp2_with fail
            go_ret
            exact ⟨rfl, HB4.out.trans (hB5.mono HB4.out.size)⟩
set_option linter.unusedSimpArgs false in
set_option maxRecDepth 100000 in
set_option maxHeartbeats 2000000 in
theorem j_all1 (P : Option Addr) (n cp : Nat) (a : Nat → Option Addr) (l c : Nat → Nat) (f : Nat → Nat → Nat) (w : World) (hg : Laid w) (hn : n = 2 ∨ n = 3) (L : Nat) (hJl : ∀ i, i < n → l i = L) (hn6 : n ≤ 6) (hp : PartsAt w P n a l c f) (hs : ∀ i, i < n → l i ≤ 100) (hf : fit9 1 L) (hb : ∀ i, i < n → ∀ q, q < l i → f i q < 256) :
    Calls Tryz.prog 7 #[.int .i64 1, .slice P n cp] w fun e w' => e = .returned (.bool true) ∧ Below w.heap.size w w' := by
  have Hs := hid hs
  have HJl := hid hJl
  have hL32 : L ≤ 32 := by have := hf.2; omega
  have e3 : decide ((n : Int) < 2) = false := by simp; omega
  have e4 : decide ((n : Int) > 3) = false := by simp; omega
  have hn0 : 0 < n := by omega
  have HJC := hid (join_any 1 P n cp a l c f L n)
  have Hbb : Hid (∀ i, i < n → ∀ q, q < L → f i q < 256) := hid (fun i hi q hq => hb i hi q (by rw [hJl i hi]; exact hq))
  have HRJ := hid (rjoin_any 1 (.inl rfl) P n cp a l c f L)
  clear hs hJl hb
  have HG := hid hg
  have HP := hid hp
  have hnI : ¬ 6 < (n : Int) := by omega
  clear hg hp
  go_enter Tryz.func7, Tryz.ntmps7
  go_wp2_with fail
  refine (awake9_any _ HG.out).mono ?_
  rintro e w1 ⟨rfl, hB1⟩
  have HP1 := hid (HP.out.up hB1)
  have HB1 := hid hB1
  clear hB1 HP
  go_wp2_with fail
  generalize Value.bool (decide (6 < (n : Int))) = vb0 at *
  go_loopw [5] (fun y wr => ∃ i : Nat, i ≤ n ∧ y = .int .i64 (i : Int) ∧ wr = w1) (fun y _ => n - (intOf y).toNat)
  case atStart => exact ⟨0, by omega, rfl, rfl⟩
  case round =>
    obtain ⟨i, hi, rfl, rfl⟩ := hrel
    rename World => w1
    by_cases hlt : i < n
    · obtain ⟨ad, rfl, had, hcs⟩ := HP1.out.1 (by omega)
      have hci : w1.cell? (ad.add i) = some (.slice (a i) (l i) (c i)) := hcs i hlt
      clear hcs
      have hli := Hs.out i hlt
      have hlI : ¬ (100 : Int) < ((l i : Nat) : Int) := by omega
      generalize l i = li at *
      generalize a i = ai at *
      generalize c i = ci at *
      go_wp2_with (first
          | (with_reducible refine wpl_sl1 rfl 59 _ _ rfl ad n cp rfl .i64 _ rfl i rfl 22 Tryz.underlying59 hlt iSS ?_)
          | (with_reducible refine wpl_val rfl _ (exec_lds 22 _ rfl (ad.add i) rfl 5 Tryz.underlying22 _ hci) ?_))
      exact ⟨⟨i + 1, by omega, val_int (by omega), by first | rfl | trivial⟩, by simp [intOf]; omega⟩
    · have hiI : ¬ (i : Int) < (n : Int) := by omega
      clear hlt
      go_wp2_with fail
      refine (HJC.out _ hn HP1.out hf (HJl.out 0 hn0) (Nat.le_refl _) hn0 HJl.out (fun h => by omega) Hbb.out).mono ?_
      rintro e w2 ⟨hB2, h2⟩
      simp only [if_true] at h2
      obtain ⟨gj, rfl, hb2, -⟩ := h2
      have HJ2 := hid hb2
      have HX := hid (HB1.out.trans (hB2.mono HB1.out.size))
      have HP2 := hid (HP1.out.up hB2)
      clear hb2 hB2 HP1 HJC
      go_wp2_with fail
      go_loopw [8] (fun y wr => ∃ q : Nat, q ≤ n ∧ y = .int .i64 (q : Int) ∧ Hid (Blk wr gj 5 (row L (b8 (jk 1 (jn f n))))) ∧ Hid (PartsAt wr P n a l c f) ∧ Hid (Below w.heap.size w wr)) (fun y _ => n - (intOf y).toNat)
      case atStart => exact ⟨0, by omega, rfl, HJ2, HP2, HX⟩
      case round =>
        clear HJ2 HP2 HX
        obtain ⟨q, hq, rfl, HF2, HP2, HX⟩ := hrel
        have HB := HX
        by_cases hqn : q < n
        · have hqI : (q : Int) < (n : Int) := by omega
          obtain ⟨ad, rfl, had, hcs⟩ := HP2.out.1 hn0
          have hcq : wr.cell? (ad.add q) = some (.slice (a q) L (c q)) := by rw [← HJl.out q hqn]; exact hcs q hqn
          have hc0 : wr.cell? (ad.add 0) = some (.slice (a 0) L (c 0)) := by rw [← HJl.out 0 hn0]; exact hcs 0 hn0
          clear hcs
          have HSZ := hid (rsized_ok 1 L hf)
          have hq1 : q + 1 ≤ n := by omega
          have hLL : ((L : Int) != (L : Int)) = false := by simp
          generalize ha0 : a 0 = a0 at hc0
          generalize hc0' : c 0 = c0 at hc0
          generalize haq : a q = aq at hcq
          generalize hcq' : c q = cq at hcq
          clear ha0 hc0' haq hcq'
          go_wp2_with fail
          have hcqW : ∀ W, Below wr.heap.size wr W → W.cell? (ad.add q) = some (.slice aq L cq) := fun W hW => (hW.cell (p := ad.add q) (by rw [add_block]; exact had)).trans hcq
          have hc0W : ∀ W, Below wr.heap.size wr W → W.cell? (ad.add 0) = some (.slice a0 L c0) := fun W hW => (hW.cell (p := ad.add 0) (by rw [add_block]; exact had)).trans hc0
          clear hcq hc0
          refine wp_region_held_drew (S := fun W => Below wr.heap.size wr W) (by kernel_rfl) (Below.refl _ _).drew (fun hS0 => ?_)
          refine wpAnyH_take (i := 0) (v := .int .i64 1) rfl (by kernel_rfl) (by kernel_rfl) (by kernel_rfl) (fun _ _ _ h => h) (Or.inl ⟨rfl, fun _ _ => exec_move _ rfl _ rfl⟩) hS0 ?_
          (try simp only [Act.put, List.getElem_toArray, List.getElem_cons_zero, List.getElem_cons_succ, List.setIfInBounds_toArray, List.set_cons_zero, List.set_cons_succ])
          refine wpAnyH_take (i := 1) (v := .slice (some ad) n cp) rfl (by kernel_rfl) (by kernel_rfl) (by kernel_rfl) (fun _ _ _ h => h) (Or.inl ⟨rfl, fun _ _ => exec_move _ rfl _ rfl⟩) hS0 ?_
          (try simp only [Act.put, List.getElem_toArray, List.getElem_cons_zero, List.getElem_cons_succ, List.setIfInBounds_toArray, List.set_cons_zero, List.set_cons_succ])
          refine wpAnyH_take (i := 2) (v := .int .i64 (q : Int)) rfl (by kernel_rfl) (by kernel_rfl) (by kernel_rfl) (fun _ _ _ h => h) (Or.inl ⟨rfl, fun _ _ => exec_move _ rfl _ rfl⟩) hS0 ?_
          (try simp only [Act.put, List.getElem_toArray, List.getElem_cons_zero, List.getElem_cons_succ, List.setIfInBounds_toArray, List.set_cons_zero, List.set_cons_succ])
          refine wpAnyH_take (i := 3) (v := .pointer (some (ad.add q))) rfl (by kernel_rfl) (by kernel_rfl) (by kernel_rfl) (fun _ _ _ h => h) (Or.inl ⟨rfl, fun _ _ => exec_slA 59 _ _ rfl ad n cp rfl .i64 _ rfl q rfl 22 Tryz.underlying59 hqn iSS⟩) hS0 ?_
          (try simp only [Act.put, List.getElem_toArray, List.getElem_cons_zero, List.getElem_cons_succ, List.setIfInBounds_toArray, List.set_cons_zero, List.set_cons_succ])
          refine wpAnyH_take (i := 4) (v := .slice aq L cq) rfl (by kernel_rfl) (by kernel_rfl) (by kernel_rfl) (fun _ _ _ h => h) (Or.inl ⟨rfl, fun W hW => exec_lds 22 _ rfl (ad.add q) rfl 5 Tryz.underlying22 _ (hcqW W hW)⟩) hS0 ?_
          (try simp only [Act.put, List.getElem_toArray, List.getElem_cons_zero, List.getElem_cons_succ, List.setIfInBounds_toArray, List.set_cons_zero, List.set_cons_succ])
          refine wpAnyH_take (i := 5) (v := .int .i64 (L : Int)) rfl (by kernel_rfl) (by kernel_rfl) (by kernel_rfl) (fun _ _ _ h => h) (Or.inl ⟨rfl, fun W _ => by go_simp⟩) hS0 ?_
          (try simp only [Act.put, List.getElem_toArray, List.getElem_cons_zero, List.getElem_cons_succ, List.setIfInBounds_toArray, List.set_cons_zero, List.set_cons_succ])
          refine wpAnyH_ready (rs := [6]) (by kernel_rfl) (by simp) (AllReadyH.cons rfl (fun K hK => ?_) AllReadyH.nil)
          (try simp only [Act.put, List.getElem_toArray, List.getElem_cons_zero, List.getElem_cons_succ, List.setIfInBounds_toArray, List.set_cons_zero, List.set_cons_succ])
          refine Eq.mpr (if_pos (by rfl)) ?_
          go_simp
          refine (HSZ.out _).mono ?_
          rintro e wq1 ⟨rfl, hQe⟩
          have hQB : Below wr.drew.heap.size wr.drew wq1 := by rw [hQe]; exact Below.refl _ _
          clear hQe
          refine hK.out _ _ (hS0.trans (hQB.mono hS0.size)) (fun hS1 => ?_)
          (try simp only [Act.put, List.getElem_toArray, List.getElem_cons_zero, List.getElem_cons_succ, List.setIfInBounds_toArray, List.set_cons_zero, List.set_cons_succ])
          clear hK K
          refine wpAnyH_take (i := 7) (v := .bool false) rfl (by kernel_rfl) (by kernel_rfl) (by kernel_rfl) (fun _ _ _ h => h) (Or.inl ⟨rfl, fun _ _ => exec_neI _ _ _ _ rfl 0 0 rfl rfl _ rfl⟩) hS1 ?_
          (try simp only [Act.put, List.getElem_toArray, List.getElem_cons_zero, List.getElem_cons_succ, List.setIfInBounds_toArray, List.set_cons_zero, List.set_cons_succ])
          refine wpAnyH_take (i := 8) (v := .bool false) rfl (by kernel_rfl) (by kernel_rfl) (by kernel_rfl) (fun _ _ _ h => h) (Or.inl ⟨rfl, fun _ _ => exec_move _ rfl _ rfl⟩) hS1 ?_
          (try simp only [Act.put, List.getElem_toArray, List.getElem_cons_zero, List.getElem_cons_succ, List.setIfInBounds_toArray, List.set_cons_zero, List.set_cons_succ])
          refine wpAnyH_take (i := 9) (v := .slice (some ad) n cp) rfl (by kernel_rfl) (by kernel_rfl) (by kernel_rfl) (fun _ _ _ h => h) (Or.inl ⟨rfl, fun _ _ => exec_move _ rfl _ rfl⟩) hS1 ?_
          (try simp only [Act.put, List.getElem_toArray, List.getElem_cons_zero, List.getElem_cons_succ, List.setIfInBounds_toArray, List.set_cons_zero, List.set_cons_succ])
          refine wpAnyH_take (i := 10) (v := .int .i64 (q : Int)) rfl (by kernel_rfl) (by kernel_rfl) (by kernel_rfl) (fun _ _ _ h => h) (Or.inl ⟨rfl, fun _ _ => exec_move _ rfl _ rfl⟩) hS1 ?_
          (try simp only [Act.put, List.getElem_toArray, List.getElem_cons_zero, List.getElem_cons_succ, List.setIfInBounds_toArray, List.set_cons_zero, List.set_cons_succ])
          refine wpAnyH_take (i := 11) (v := .pointer (some (ad.add q))) rfl (by kernel_rfl) (by kernel_rfl) (by kernel_rfl) (fun _ _ _ h => h) (Or.inl ⟨rfl, fun _ _ => exec_slA 59 _ _ rfl ad n cp rfl .i64 _ rfl q rfl 22 Tryz.underlying59 hqn iSS⟩) hS1 ?_
          (try simp only [Act.put, List.getElem_toArray, List.getElem_cons_zero, List.getElem_cons_succ, List.setIfInBounds_toArray, List.set_cons_zero, List.set_cons_succ])
          refine wpAnyH_take (i := 12) (v := .slice aq L cq) rfl (by kernel_rfl) (by kernel_rfl) (by kernel_rfl) (fun _ _ _ h => h) (Or.inl ⟨rfl, fun W hW => exec_lds 22 _ rfl (ad.add q) rfl 5 Tryz.underlying22 _ (hcqW W hW)⟩) hS1 ?_
          (try simp only [Act.put, List.getElem_toArray, List.getElem_cons_zero, List.getElem_cons_succ, List.setIfInBounds_toArray, List.set_cons_zero, List.set_cons_succ])
          refine wpAnyH_take (i := 13) (v := .int .i64 (L : Int)) rfl (by kernel_rfl) (by kernel_rfl) (by kernel_rfl) (fun _ _ _ h => h) (Or.inl ⟨rfl, fun W _ => by go_simp⟩) hS1 ?_
          (try simp only [Act.put, List.getElem_toArray, List.getElem_cons_zero, List.getElem_cons_succ, List.setIfInBounds_toArray, List.set_cons_zero, List.set_cons_succ])
          refine wpAnyH_take (i := 14) (v := .slice (some ad) n cp) rfl (by kernel_rfl) (by kernel_rfl) (by kernel_rfl) (fun _ _ _ h => h) (Or.inl ⟨rfl, fun _ _ => exec_move _ rfl _ rfl⟩) hS1 ?_
          (try simp only [Act.put, List.getElem_toArray, List.getElem_cons_zero, List.getElem_cons_succ, List.setIfInBounds_toArray, List.set_cons_zero, List.set_cons_succ])
          refine wpAnyH_take (i := 15) (v := .pointer (some (ad.add 0))) rfl (by kernel_rfl) (by kernel_rfl) (by kernel_rfl) (fun _ _ _ h => h) (Or.inl ⟨rfl, fun _ _ => exec_slA 59 _ _ rfl ad n cp rfl .i64 _ rfl 0 rfl 22 Tryz.underlying59 hn0 iSS⟩) hS1 ?_
          (try simp only [Act.put, List.getElem_toArray, List.getElem_cons_zero, List.getElem_cons_succ, List.setIfInBounds_toArray, List.set_cons_zero, List.set_cons_succ])
          refine wpAnyH_take (i := 16) (v := .slice a0 L c0) rfl (by kernel_rfl) (by kernel_rfl) (by kernel_rfl) (fun _ _ _ h => h) (Or.inl ⟨rfl, fun W hW => exec_lds 22 _ rfl (ad.add 0) rfl 5 Tryz.underlying22 _ (hc0W W hW)⟩) hS1 ?_
          (try simp only [Act.put, List.getElem_toArray, List.getElem_cons_zero, List.getElem_cons_succ, List.setIfInBounds_toArray, List.set_cons_zero, List.set_cons_succ])
          refine wpAnyH_take (i := 17) (v := .int .i64 (L : Int)) rfl (by kernel_rfl) (by kernel_rfl) (by kernel_rfl) (fun _ _ _ h => h) (Or.inl ⟨rfl, fun W _ => by go_simp⟩) hS1 ?_
          (try simp only [Act.put, List.getElem_toArray, List.getElem_cons_zero, List.getElem_cons_succ, List.setIfInBounds_toArray, List.set_cons_zero, List.set_cons_succ])
          refine wpAnyH_take (i := 18) (v := .bool false) rfl (by kernel_rfl) (by kernel_rfl) (by kernel_rfl) (fun _ _ _ h => h) (Or.inl ⟨rfl, fun _ _ => exec_neI _ _ _ _ rfl _ _ rfl rfl _ hLL⟩) hS1 ?_
          (try simp only [Act.put, List.getElem_toArray, List.getElem_cons_zero, List.getElem_cons_succ, List.setIfInBounds_toArray, List.set_cons_zero, List.set_cons_succ])
          refine wpAnyH_take (i := 19) (v := .bool false) rfl (by kernel_rfl) (by kernel_rfl) (by kernel_rfl) (fun _ _ _ h => h) (Or.inl ⟨rfl, fun W _ => by go_simp⟩) hS1 ?_
          (try simp only [Act.put, List.getElem_toArray, List.getElem_cons_zero, List.getElem_cons_succ, List.setIfInBounds_toArray, List.set_cons_zero, List.set_cons_succ])
          refine wpAnyH_done (by kernel_rfl) ?_ _
          have HX3 := hid (HX.out.trans (hS1.mono HX.out.size))
          have HB3 := HX3
          have HF3 := hid (HF2.out.below hS1 HF2.out.lt)
          have HP3 := hid (HP2.out.up hS1)
          clear hS0 hS1 HX HB HF2 hcqW hc0W
          go_wp2_with fail
          exact ⟨⟨q + 1, hq1, val_int (by omega), HF3, HP3, HX3⟩, by simp [intOf]; omega⟩
        · have hqI : ¬ (q : Int) < (n : Int) := by omega
          clear hqn
          go_wp2_with fail
          refine (HRJ.out _ hn0 (by omega) (by omega) HP2.out HJl.out Hbb.out).mono ?_
          rintro e w4 ⟨v4, rfl, ho4, hB4⟩
          obtain ⟨A4, c4, rfl, hc4, -, -⟩ := ho4.slice'
          have HJ4 := hid (HF2.out.below hB4 HF2.out.lt).reads
          have HV4 := hid ho4.reads
          have HB4 := hid (HX.out.trans (hB4.mono HX.out.size))
          clear ho4 hB4
          go_wp2_with fail
          refine (same_any _ A4 L L c4 (jk 1 (jn f n)) (jk 1 (jn f n)) _ (by omega) HJ4.out HV4.out).mono ?_
          rintro e w5 ⟨rfl, hB5⟩
          rw [show eqB L (jk 1 (jn f n)) (jk 1 (jn f n)) = true from eqB_true (fun _ _ => rfl)]
          go_wp2_with fail
          go_ret
          exact ⟨rfl, HB4.out.trans (hB5.mono HB4.out.size)⟩
set_option linter.unusedSimpArgs false in
set_option maxRecDepth 100000 in
set_option maxHeartbeats 2000000 in
theorem j_all2 (P : Option Addr) (n cp : Nat) (a : Nat → Option Addr) (l c : Nat → Nat) (f : Nat → Nat → Nat) (w : World) (hg : Laid w) (hn : n = 2 ∨ n = 3) (L : Nat) (hJl : ∀ i, i < n → l i = L) (hn6 : n ≤ 6) (hp : PartsAt w P n a l c f) (hs : ∀ i, i < n → l i ≤ 100) (hf : fit9 2 L) (hb : ∀ i, i < n → ∀ q, q < l i → f i q < 256) :
    Calls Tryz.prog 7 #[.int .i64 2, .slice P n cp] w fun e w' => e = .returned (.bool true) ∧ Below w.heap.size w w' := by
  have Hs := hid hs
  have HJl := hid hJl
  have hL32 : L ≤ 32 := by have := hf.2; omega
  have e3 : decide ((n : Int) < 2) = false := by simp; omega
  have e4 : decide ((n : Int) > 3) = false := by simp; omega
  have hn0 : 0 < n := by omega
  have HJC := hid (join_any 2 P n cp a l c f L n)
  have Hbb : Hid (∀ i, i < n → ∀ q, q < L → f i q < 256) := hid (fun i hi q hq => hb i hi q (by rw [hJl i hi]; exact hq))
  have HRJ := hid (rjoin_any 2 (.inr rfl) P n cp a l c f L)
  clear hs hJl hb
  have HG := hid hg
  have HP := hid hp
  have hnI : ¬ 6 < (n : Int) := by omega
  clear hg hp
  go_enter Tryz.func7, Tryz.ntmps7
  go_wp2_with fail
  refine (awake9_any _ HG.out).mono ?_
  rintro e w1 ⟨rfl, hB1⟩
  have HP1 := hid (HP.out.up hB1)
  have HB1 := hid hB1
  clear hB1 HP
  go_wp2_with fail
  generalize Value.bool (decide (6 < (n : Int))) = vb0 at *
  go_loopw [5] (fun y wr => ∃ i : Nat, i ≤ n ∧ y = .int .i64 (i : Int) ∧ wr = w1) (fun y _ => n - (intOf y).toNat)
  case atStart => exact ⟨0, by omega, rfl, rfl⟩
  case round =>
    obtain ⟨i, hi, rfl, rfl⟩ := hrel
    rename World => w1
    by_cases hlt : i < n
    · obtain ⟨ad, rfl, had, hcs⟩ := HP1.out.1 (by omega)
      have hci : w1.cell? (ad.add i) = some (.slice (a i) (l i) (c i)) := hcs i hlt
      clear hcs
      have hli := Hs.out i hlt
      have hlI : ¬ (100 : Int) < ((l i : Nat) : Int) := by omega
      generalize l i = li at *
      generalize a i = ai at *
      generalize c i = ci at *
      go_wp2_with (first
          | (with_reducible refine wpl_sl1 rfl 59 _ _ rfl ad n cp rfl .i64 _ rfl i rfl 22 Tryz.underlying59 hlt iSS ?_)
          | (with_reducible refine wpl_val rfl _ (exec_lds 22 _ rfl (ad.add i) rfl 5 Tryz.underlying22 _ hci) ?_))
      exact ⟨⟨i + 1, by omega, val_int (by omega), by first | rfl | trivial⟩, by simp [intOf]; omega⟩
    · have hiI : ¬ (i : Int) < (n : Int) := by omega
      clear hlt
      go_wp2_with fail
      refine (HJC.out _ hn HP1.out hf (HJl.out 0 hn0) (Nat.le_refl _) hn0 HJl.out (fun h => by omega) Hbb.out).mono ?_
      rintro e w2 ⟨hB2, h2⟩
      simp only [if_true] at h2
      obtain ⟨gj, rfl, hb2, -⟩ := h2
      have HJ2 := hid hb2
      have HX := hid (HB1.out.trans (hB2.mono HB1.out.size))
      have HP2 := hid (HP1.out.up hB2)
      clear hb2 hB2 HP1 HJC
      go_wp2_with fail
      go_loopw [8] (fun y wr => ∃ q : Nat, q ≤ n ∧ y = .int .i64 (q : Int) ∧ Hid (Blk wr gj 5 (row L (b8 (jk 2 (jn f n))))) ∧ Hid (PartsAt wr P n a l c f) ∧ Hid (Below w.heap.size w wr)) (fun y _ => n - (intOf y).toNat)
      case atStart => exact ⟨0, by omega, rfl, HJ2, HP2, HX⟩
      case round =>
        clear HJ2 HP2 HX
        obtain ⟨q, hq, rfl, HF2, HP2, HX⟩ := hrel
        have HB := HX
        by_cases hqn : q < n
        · have hqI : (q : Int) < (n : Int) := by omega
          obtain ⟨ad, rfl, had, hcs⟩ := HP2.out.1 hn0
          have hcq : wr.cell? (ad.add q) = some (.slice (a q) L (c q)) := by rw [← HJl.out q hqn]; exact hcs q hqn
          have hc0 : wr.cell? (ad.add 0) = some (.slice (a 0) L (c 0)) := by rw [← HJl.out 0 hn0]; exact hcs 0 hn0
          clear hcs
          have HSZ := hid (rsized_ok 2 L hf)
          have hq1 : q + 1 ≤ n := by omega
          have hLL : ((L : Int) != (L : Int)) = false := by simp
          generalize ha0 : a 0 = a0 at hc0
          generalize hc0' : c 0 = c0 at hc0
          generalize haq : a q = aq at hcq
          generalize hcq' : c q = cq at hcq
          clear ha0 hc0' haq hcq'
          go_wp2_with fail
          have hcqW : ∀ W, Below wr.heap.size wr W → W.cell? (ad.add q) = some (.slice aq L cq) := fun W hW => (hW.cell (p := ad.add q) (by rw [add_block]; exact had)).trans hcq
          have hc0W : ∀ W, Below wr.heap.size wr W → W.cell? (ad.add 0) = some (.slice a0 L c0) := fun W hW => (hW.cell (p := ad.add 0) (by rw [add_block]; exact had)).trans hc0
          clear hcq hc0
          refine wp_region_held_drew (S := fun W => Below wr.heap.size wr W) (by kernel_rfl) (Below.refl _ _).drew (fun hS0 => ?_)
          refine wpAnyH_take (i := 0) (v := .int .i64 2) rfl (by kernel_rfl) (by kernel_rfl) (by kernel_rfl) (fun _ _ _ h => h) (Or.inl ⟨rfl, fun _ _ => exec_move _ rfl _ rfl⟩) hS0 ?_
          (try simp only [Act.put, List.getElem_toArray, List.getElem_cons_zero, List.getElem_cons_succ, List.setIfInBounds_toArray, List.set_cons_zero, List.set_cons_succ])
          refine wpAnyH_take (i := 1) (v := .slice (some ad) n cp) rfl (by kernel_rfl) (by kernel_rfl) (by kernel_rfl) (fun _ _ _ h => h) (Or.inl ⟨rfl, fun _ _ => exec_move _ rfl _ rfl⟩) hS0 ?_
          (try simp only [Act.put, List.getElem_toArray, List.getElem_cons_zero, List.getElem_cons_succ, List.setIfInBounds_toArray, List.set_cons_zero, List.set_cons_succ])
          refine wpAnyH_take (i := 2) (v := .int .i64 (q : Int)) rfl (by kernel_rfl) (by kernel_rfl) (by kernel_rfl) (fun _ _ _ h => h) (Or.inl ⟨rfl, fun _ _ => exec_move _ rfl _ rfl⟩) hS0 ?_
          (try simp only [Act.put, List.getElem_toArray, List.getElem_cons_zero, List.getElem_cons_succ, List.setIfInBounds_toArray, List.set_cons_zero, List.set_cons_succ])
          refine wpAnyH_take (i := 3) (v := .pointer (some (ad.add q))) rfl (by kernel_rfl) (by kernel_rfl) (by kernel_rfl) (fun _ _ _ h => h) (Or.inl ⟨rfl, fun _ _ => exec_slA 59 _ _ rfl ad n cp rfl .i64 _ rfl q rfl 22 Tryz.underlying59 hqn iSS⟩) hS0 ?_
          (try simp only [Act.put, List.getElem_toArray, List.getElem_cons_zero, List.getElem_cons_succ, List.setIfInBounds_toArray, List.set_cons_zero, List.set_cons_succ])
          refine wpAnyH_take (i := 4) (v := .slice aq L cq) rfl (by kernel_rfl) (by kernel_rfl) (by kernel_rfl) (fun _ _ _ h => h) (Or.inl ⟨rfl, fun W hW => exec_lds 22 _ rfl (ad.add q) rfl 5 Tryz.underlying22 _ (hcqW W hW)⟩) hS0 ?_
          (try simp only [Act.put, List.getElem_toArray, List.getElem_cons_zero, List.getElem_cons_succ, List.setIfInBounds_toArray, List.set_cons_zero, List.set_cons_succ])
          refine wpAnyH_take (i := 5) (v := .int .i64 (L : Int)) rfl (by kernel_rfl) (by kernel_rfl) (by kernel_rfl) (fun _ _ _ h => h) (Or.inl ⟨rfl, fun W _ => by go_simp⟩) hS0 ?_
          (try simp only [Act.put, List.getElem_toArray, List.getElem_cons_zero, List.getElem_cons_succ, List.setIfInBounds_toArray, List.set_cons_zero, List.set_cons_succ])
          refine wpAnyH_ready (rs := [6]) (by kernel_rfl) (by simp) (AllReadyH.cons rfl (fun K hK => ?_) AllReadyH.nil)
          (try simp only [Act.put, List.getElem_toArray, List.getElem_cons_zero, List.getElem_cons_succ, List.setIfInBounds_toArray, List.set_cons_zero, List.set_cons_succ])
          refine Eq.mpr (if_pos (by rfl)) ?_
          go_simp
          refine (HSZ.out _).mono ?_
          rintro e wq1 ⟨rfl, hQe⟩
          have hQB : Below wr.drew.heap.size wr.drew wq1 := by rw [hQe]; exact Below.refl _ _
          clear hQe
          refine hK.out _ _ (hS0.trans (hQB.mono hS0.size)) (fun hS1 => ?_)
          (try simp only [Act.put, List.getElem_toArray, List.getElem_cons_zero, List.getElem_cons_succ, List.setIfInBounds_toArray, List.set_cons_zero, List.set_cons_succ])
          clear hK K
          refine wpAnyH_take (i := 7) (v := .bool false) rfl (by kernel_rfl) (by kernel_rfl) (by kernel_rfl) (fun _ _ _ h => h) (Or.inl ⟨rfl, fun _ _ => exec_neI _ _ _ _ rfl 0 0 rfl rfl _ rfl⟩) hS1 ?_
          (try simp only [Act.put, List.getElem_toArray, List.getElem_cons_zero, List.getElem_cons_succ, List.setIfInBounds_toArray, List.set_cons_zero, List.set_cons_succ])
          refine wpAnyH_take (i := 8) (v := .bool false) rfl (by kernel_rfl) (by kernel_rfl) (by kernel_rfl) (fun _ _ _ h => h) (Or.inl ⟨rfl, fun _ _ => exec_move _ rfl _ rfl⟩) hS1 ?_
          (try simp only [Act.put, List.getElem_toArray, List.getElem_cons_zero, List.getElem_cons_succ, List.setIfInBounds_toArray, List.set_cons_zero, List.set_cons_succ])
          refine wpAnyH_take (i := 9) (v := .slice (some ad) n cp) rfl (by kernel_rfl) (by kernel_rfl) (by kernel_rfl) (fun _ _ _ h => h) (Or.inl ⟨rfl, fun _ _ => exec_move _ rfl _ rfl⟩) hS1 ?_
          (try simp only [Act.put, List.getElem_toArray, List.getElem_cons_zero, List.getElem_cons_succ, List.setIfInBounds_toArray, List.set_cons_zero, List.set_cons_succ])
          refine wpAnyH_take (i := 10) (v := .int .i64 (q : Int)) rfl (by kernel_rfl) (by kernel_rfl) (by kernel_rfl) (fun _ _ _ h => h) (Or.inl ⟨rfl, fun _ _ => exec_move _ rfl _ rfl⟩) hS1 ?_
          (try simp only [Act.put, List.getElem_toArray, List.getElem_cons_zero, List.getElem_cons_succ, List.setIfInBounds_toArray, List.set_cons_zero, List.set_cons_succ])
          refine wpAnyH_take (i := 11) (v := .pointer (some (ad.add q))) rfl (by kernel_rfl) (by kernel_rfl) (by kernel_rfl) (fun _ _ _ h => h) (Or.inl ⟨rfl, fun _ _ => exec_slA 59 _ _ rfl ad n cp rfl .i64 _ rfl q rfl 22 Tryz.underlying59 hqn iSS⟩) hS1 ?_
          (try simp only [Act.put, List.getElem_toArray, List.getElem_cons_zero, List.getElem_cons_succ, List.setIfInBounds_toArray, List.set_cons_zero, List.set_cons_succ])
          refine wpAnyH_take (i := 12) (v := .slice aq L cq) rfl (by kernel_rfl) (by kernel_rfl) (by kernel_rfl) (fun _ _ _ h => h) (Or.inl ⟨rfl, fun W hW => exec_lds 22 _ rfl (ad.add q) rfl 5 Tryz.underlying22 _ (hcqW W hW)⟩) hS1 ?_
          (try simp only [Act.put, List.getElem_toArray, List.getElem_cons_zero, List.getElem_cons_succ, List.setIfInBounds_toArray, List.set_cons_zero, List.set_cons_succ])
          refine wpAnyH_take (i := 13) (v := .int .i64 (L : Int)) rfl (by kernel_rfl) (by kernel_rfl) (by kernel_rfl) (fun _ _ _ h => h) (Or.inl ⟨rfl, fun W _ => by go_simp⟩) hS1 ?_
          (try simp only [Act.put, List.getElem_toArray, List.getElem_cons_zero, List.getElem_cons_succ, List.setIfInBounds_toArray, List.set_cons_zero, List.set_cons_succ])
          refine wpAnyH_take (i := 14) (v := .slice (some ad) n cp) rfl (by kernel_rfl) (by kernel_rfl) (by kernel_rfl) (fun _ _ _ h => h) (Or.inl ⟨rfl, fun _ _ => exec_move _ rfl _ rfl⟩) hS1 ?_
          (try simp only [Act.put, List.getElem_toArray, List.getElem_cons_zero, List.getElem_cons_succ, List.setIfInBounds_toArray, List.set_cons_zero, List.set_cons_succ])
          refine wpAnyH_take (i := 15) (v := .pointer (some (ad.add 0))) rfl (by kernel_rfl) (by kernel_rfl) (by kernel_rfl) (fun _ _ _ h => h) (Or.inl ⟨rfl, fun _ _ => exec_slA 59 _ _ rfl ad n cp rfl .i64 _ rfl 0 rfl 22 Tryz.underlying59 hn0 iSS⟩) hS1 ?_
          (try simp only [Act.put, List.getElem_toArray, List.getElem_cons_zero, List.getElem_cons_succ, List.setIfInBounds_toArray, List.set_cons_zero, List.set_cons_succ])
          refine wpAnyH_take (i := 16) (v := .slice a0 L c0) rfl (by kernel_rfl) (by kernel_rfl) (by kernel_rfl) (fun _ _ _ h => h) (Or.inl ⟨rfl, fun W hW => exec_lds 22 _ rfl (ad.add 0) rfl 5 Tryz.underlying22 _ (hc0W W hW)⟩) hS1 ?_
          (try simp only [Act.put, List.getElem_toArray, List.getElem_cons_zero, List.getElem_cons_succ, List.setIfInBounds_toArray, List.set_cons_zero, List.set_cons_succ])
          refine wpAnyH_take (i := 17) (v := .int .i64 (L : Int)) rfl (by kernel_rfl) (by kernel_rfl) (by kernel_rfl) (fun _ _ _ h => h) (Or.inl ⟨rfl, fun W _ => by go_simp⟩) hS1 ?_
          (try simp only [Act.put, List.getElem_toArray, List.getElem_cons_zero, List.getElem_cons_succ, List.setIfInBounds_toArray, List.set_cons_zero, List.set_cons_succ])
          refine wpAnyH_take (i := 18) (v := .bool false) rfl (by kernel_rfl) (by kernel_rfl) (by kernel_rfl) (fun _ _ _ h => h) (Or.inl ⟨rfl, fun _ _ => exec_neI _ _ _ _ rfl _ _ rfl rfl _ hLL⟩) hS1 ?_
          (try simp only [Act.put, List.getElem_toArray, List.getElem_cons_zero, List.getElem_cons_succ, List.setIfInBounds_toArray, List.set_cons_zero, List.set_cons_succ])
          refine wpAnyH_take (i := 19) (v := .bool false) rfl (by kernel_rfl) (by kernel_rfl) (by kernel_rfl) (fun _ _ _ h => h) (Or.inl ⟨rfl, fun W _ => by go_simp⟩) hS1 ?_
          (try simp only [Act.put, List.getElem_toArray, List.getElem_cons_zero, List.getElem_cons_succ, List.setIfInBounds_toArray, List.set_cons_zero, List.set_cons_succ])
          refine wpAnyH_done (by kernel_rfl) ?_ _
          have HX3 := hid (HX.out.trans (hS1.mono HX.out.size))
          have HB3 := HX3
          have HF3 := hid (HF2.out.below hS1 HF2.out.lt)
          have HP3 := hid (HP2.out.up hS1)
          clear hS0 hS1 HX HB HF2 hcqW hc0W
          go_wp2_with fail
          exact ⟨⟨q + 1, hq1, val_int (by omega), HF3, HP3, HX3⟩, by simp [intOf]; omega⟩
        · have hqI : ¬ (q : Int) < (n : Int) := by omega
          clear hqn
          go_wp2_with fail
          refine (HRJ.out _ hn0 (by omega) (by omega) HP2.out HJl.out Hbb.out).mono ?_
          rintro e w4 ⟨v4, rfl, ho4, hB4⟩
          obtain ⟨A4, c4, rfl, hc4, -, -⟩ := ho4.slice'
          have HJ4 := hid (HF2.out.below hB4 HF2.out.lt).reads
          have HV4 := hid ho4.reads
          have HB4 := hid (HX.out.trans (hB4.mono HX.out.size))
          clear ho4 hB4
          go_wp2_with fail
          refine (same_any _ A4 L L c4 (jk 2 (jn f n)) (jk 2 (jn f n)) _ (by omega) HJ4.out HV4.out).mono ?_
          rintro e w5 ⟨rfl, hB5⟩
          rw [show eqB L (jk 2 (jn f n)) (jk 2 (jn f n)) = true from eqB_true (fun _ _ => rfl)]
          go_wp2_with fail
          go_ret
          exact ⟨rfl, HB4.out.trans (hB5.mono HB4.out.size)⟩
/-- the first place where it doesn't hold -/
theorem first_not (p : Nat → Prop) : ∀ n, (∀ i, i < n → p i) ∨ ∃ J, J < n ∧ ¬ p J ∧ ∀ i, i < J → p i
  | 0 => .inl fun i hi => by omega
  | n + 1 => by
    rcases first_not p n with h | ⟨J, h1, h2, h3⟩
    · by_cases hn : p n
      · refine .inl fun i hi => ?_
        by_cases hin : i = n
        · subst hin; exact hn
        · exact h i (by omega)
      · exact .inr ⟨n, by omega, hn, h⟩
    · exact .inr ⟨J, by omega, h2, h3⟩
set_option maxRecDepth 100000 in
theorem joins_true (z : Int) (P : Option Addr) (n cp : Nat) (a : Nat → Option Addr) (l c : Nat → Nat) (f : Nat → Nat → Nat) (w : World) (hg : Laid w) (_q : (Lit.int .i64 z).wf = true) (hp : PartsAt w P n a l c f) (hb : ∀ i, i < n → ∀ q, q < l i → f i q < 256) :
    Calls Tryz.prog 7 #[.int .i64 z, .slice P n cp] w fun e w' => e = .returned (.bool true) ∧ Below w.heap.size w w' := by
  by_cases hn6 : n ≤ 6
  · rcases first_not (fun i => l i ≤ 100) n with hs | ⟨K, h1, h2, h3⟩
    · by_cases hz1 : z = 1
      · subst hz1
        by_cases hn2 : n < 2
        · exact j_few1 P n cp a l c f w hg hn2 hn6 hp hs
        · by_cases hn3 : 3 < n
          · exact j_many1 P n cp a l c f w hg hn3 hn6 hp hs
          · by_cases hf : fit9 1 (l 0)
            · rcases first_not (fun i => l i = l 0) n with ha | ⟨J, h1, h2, h3⟩
              · exact j_all1 P n cp a l c f w hg (by omega) (l 0) ha hn6 hp hs hf hb
              · have hJ0 : 0 < J := Nat.pos_of_ne_zero (fun h => h2 (by rw [h]))
                exact j_unlike1 P n cp a l c f w hg (by omega) (l 0) J h1 hJ0 rfl h3 h2 hn6 hp hs hf hb
            · exact j_first1 P n cp a l c f w hg (by omega) hn6 hp hs hf
      · by_cases hz2 : z = 2
        · subst hz2
          by_cases hn2 : n < 2
          · exact j_few2 P n cp a l c f w hg hn2 hn6 hp hs
          · by_cases hn3 : 3 < n
            · exact j_many2 P n cp a l c f w hg hn3 hn6 hp hs
            · by_cases hf : fit9 2 (l 0)
              · rcases first_not (fun i => l i = l 0) n with ha | ⟨J, h1, h2, h3⟩
                · exact j_all2 P n cp a l c f w hg (by omega) (l 0) ha hn6 hp hs hf hb
                · have hJ0 : 0 < J := Nat.pos_of_ne_zero (fun h => h2 (by rw [h]))
                  exact j_unlike2 P n cp a l c f w hg (by omega) (l 0) J h1 hJ0 rfl h3 h2 hn6 hp hs hf hb
              · exact j_first2 P n cp a l c f w hg (by omega) hn6 hp hs hf
        · exact j_kind z P n cp a l c f w hg hz1 hz2 hn6 hp hs
    · exact j_long z P n cp a l c f w hg hn6 hp K h1 (by omega) h3
  · have hnI : 6 < (n : Int) := by omega
    have HG := hid hg
    clear hg hp hb
    go_enter Tryz.func7, Tryz.ntmps7
    go_wp2_with fail
    refine (awake9_any _ HG.out).mono ?_
    rintro e w1 ⟨rfl, hB1⟩
    go_wp2_with fail
    refine (awake9_any _ (HG.out.below hB1)).mono ?_
    rintro e w2 ⟨rfl, hB2⟩
    go_wp2_with fail
    go_ret
    exact ⟨rfl, hB1.trans (hB2.mono hB1.size)⟩
end Go.Proofs.YtaeleohjikheiaaGreatDoor.Pt.Joins
