/-
  BlockNews returns true: its walk.
-/
import Derived.Test.YtcgbhpmakebllaaDoorAwake05
namespace Go.Proofs.YtcgbhpmakebllaaDoor.Law05
open Mem As Bk Go.ChangeShapes Go.WideShapes Go.ChangeAt Go.RowKit
theorem reff_any (z : Int) (hz : z = 1 ∨ z = 2 ∨ z = 3) (L : Nat) (w : World) (hL : L ≤ 1000000) : Calls Tryd.prog 12 #[.int .i64 z, .int .i64 (L : Int)] w fun e w' => e = .returned (.bool (fitB z L)) ∧ w = w' := by
  rcases hz with rfl | rfl | rfl
  · by_cases a1 : L = 16
    · subst a1
      go_enter Tryd.func12, Tryd.ntmps12
      go_wp2_with fail
      go_ret
      exact ⟨rfl, rfl⟩
    · by_cases a2 : L = 24
      · subst a2
        go_enter Tryd.func12, Tryd.ntmps12
        go_wp2_with fail
        go_ret
        exact ⟨rfl, rfl⟩
      · by_cases a3 : L = 32
        · subst a3
          go_enter Tryd.func12, Tryd.ntmps12
          go_wp2_with fail
          go_ret
          exact ⟨rfl, rfl⟩
        · have b1 : (L : Int) ≠ 16 := by omega
          have b2 : (L : Int) ≠ 24 := by omega
          have b3 : (L : Int) ≠ 32 := by omega
          go_enter Tryd.func12, Tryd.ntmps12
          go_wp2_with fail
          go_ret
          exact ⟨by simp [fitB, a1, a2, a3, b3]; omega, rfl⟩
  · by_cases a1 : L = 8
    · subst a1
      go_enter Tryd.func12, Tryd.ntmps12
      go_wp2_with fail
      go_ret
      exact ⟨rfl, rfl⟩
    · by_cases a2 : L = 16
      · subst a2
        go_enter Tryd.func12, Tryd.ntmps12
        go_wp2_with fail
        go_ret
        exact ⟨rfl, rfl⟩
      · by_cases a3 : L = 24
        · subst a3
          go_enter Tryd.func12, Tryd.ntmps12
          go_wp2_with fail
          go_ret
          exact ⟨rfl, rfl⟩
        · have b1 : (L : Int) ≠ 8 := by omega
          have b2 : (L : Int) ≠ 16 := by omega
          have b3 : (L : Int) ≠ 24 := by omega
          go_enter Tryd.func12, Tryd.ntmps12
          go_wp2_with fail
          go_ret
          exact ⟨by simp [fitB, a1, a2, a3, b3]; omega, rfl⟩
  · by_cases a1 : 1 ≤ L
    · have b1 : (L : Int) ≥ 1 := by omega
      go_enter Tryd.func12, Tryd.ntmps12
      go_wp2_with fail
      go_ret
      refine ⟨?_, rfl⟩
      have e : decide ((L : Int) ≤ 32) = decide (L ≤ 32) := by simp; omega
      simp [fitB, a1, e]
    · have b1 : ¬ (L : Int) ≥ 1 := by omega
      go_enter Tryd.func12, Tryd.ntmps12
      go_wp2_with fail
      go_ret
      refine ⟨?_, rfl⟩
      simp [fitB, a1]
def p0 : Pl := ⟨0, 0, 0, 0, 0, .nilIface, 0, fun _ => 0⟩
set_option maxRecDepth 100000 in
theorem news_other_true (z : Int) (hz : z < 1 ∨ 3 < z) (A : Option Addr) (L c : Nat) (key : Nat → Nat) (w : World) (hg : Laid w) (hR : Reads w w.heap.size A L key) (hk : ∀ i, i < L → key i < 256) (hA : A = none → L = 0 ∧ c = 0) (hL : L ≤ 100) :
    Calls Tryd.prog 3 #[.int .i64 z, .slice A L c, .bool true] w fun e w' => e = .returned (.bool true) ∧ Below w.heap.size w w' := by
  rcases hz with hz | hz
  · have Hg := hid hg
    have HR := hid hR
    have Hk := hid hk
    have HA := hid hA
    have hLI : (L : Int) ≤ 100 := by omega
    clear hg hR hk hA
    go_enter Tryd.func3, Tryd.ntmps3
    go_wp2_with fail
    refine (awake_any _ Hg.out).mono ?_
    rintro e w1 ⟨rfl, hB1⟩
    go_wp2_with fail
    refine (book_any none 0 0 (fun _ => 0) _ (by omega) (fun _ => ⟨rfl, rfl⟩) (fun i hi => by omega) (fun h => by omega)).mono ?_
    rintro e w2 ⟨p, rfl, -, -, -, hbk, hB2⟩
    clear hbk
    have HB := hid (hB1.trans (hB2.mono hB1.size))
    clear hB1 hB2
    go_wp2_with fail
    refine (new_kind z A L c (some ⟨p.gb, 0, none⟩) _ (.inl ⟨by omega, by omega, by omega⟩)).mono ?_
    rintro e w' ⟨rfl, rfl⟩
    go_wp2_with fail
    refine (code_hit 1 _ (Hg.out.below HB.out)).mono ?_
    rintro e w4 ⟨rfl, hB4⟩
    go_wp2_with fail
    go_ret
    exact ⟨rfl, HB.out.trans (hB4.mono HB.out.size)⟩
  · have hz1 : ¬ z < 1 := by omega
    have Hg := hid hg
    have HR := hid hR
    have Hk := hid hk
    have HA := hid hA
    have hLI : (L : Int) ≤ 100 := by omega
    clear hg hR hk hA
    go_enter Tryd.func3, Tryd.ntmps3
    go_wp2_with fail
    refine (awake_any _ Hg.out).mono ?_
    rintro e w1 ⟨rfl, hB1⟩
    go_wp2_with fail
    refine (book_any none 0 0 (fun _ => 0) _ (by omega) (fun _ => ⟨rfl, rfl⟩) (fun i hi => by omega) (fun h => by omega)).mono ?_
    rintro e w2 ⟨p, rfl, -, -, -, hbk, hB2⟩
    clear hbk
    have HB := hid (hB1.trans (hB2.mono hB1.size))
    clear hB1 hB2
    go_wp2_with fail
    refine (new_kind z A L c (some ⟨p.gb, 0, none⟩) _ (.inl ⟨by omega, by omega, by omega⟩)).mono ?_
    rintro e w' ⟨rfl, rfl⟩
    go_wp2_with fail
    refine (code_hit 1 _ (Hg.out.below HB.out)).mono ?_
    rintro e w4 ⟨rfl, hB4⟩
    go_wp2_with fail
    go_ret
    exact ⟨rfl, HB.out.trans (hB4.mono HB.out.size)⟩
set_option maxRecDepth 100000 in
theorem news_1_true_bad (A : Option Addr) (L c : Nat) (key : Nat → Nat) (w : World) (hg : Laid w) (hR : Reads w w.heap.size A L key) (hk : ∀ i, i < L → key i < 256) (hA : A = none → L = 0 ∧ c = 0) (hL : L ≤ 100) (hf : fitB 1 L = false) :
    Calls Tryd.prog 3 #[.int .i64 1, .slice A L c, .bool true] w fun e w' => e = .returned (.bool true) ∧ Below w.heap.size w w' := by
  have Hg := hid hg
  have HR := hid hR
  have Hk := hid hk
  have HA := hid hA
  have hLI : (L : Int) ≤ 100 := by omega
  clear hg hR hk hA
  go_enter Tryd.func3, Tryd.ntmps3
  go_wp2_with fail
  refine (awake_any _ Hg.out).mono ?_
  rintro e w1 ⟨rfl, hB1⟩
  go_wp2_with fail
  refine (book_any none 0 0 (fun _ => 0) _ (by omega) (fun _ => ⟨rfl, rfl⟩) (fun i hi => by omega) (fun h => by omega)).mono ?_
  rintro e w2 ⟨p, rfl, -, -, -, hbk, hB2⟩
  clear hbk
  have HB := hid (hB1.trans (hB2.mono hB1.size))
  clear hB1 hB2
  go_wp2_with fail
  refine (new_len 1 (.inl rfl) A L c (some ⟨p.gb, 0, none⟩) (by simp) _ (by omega) hf).mono ?_
  rintro e w' ⟨rfl, rfl⟩
  go_wp2_with fail
  refine (reff_any 1 (.inl rfl) L _ (by omega)).mono ?_
  rintro e w' ⟨rfl, rfl⟩
  rw [hf]
  go_wp2_with fail
  refine (code_hit 2 _ (Hg.out.below HB.out)).mono ?_
  rintro e w4 ⟨rfl, hB4⟩
  go_wp2_with fail
  go_ret
  exact ⟨rfl, HB.out.trans (hB4.mono HB.out.size)⟩
set_option maxRecDepth 100000 in
theorem news_1_true_ok (A : Option Addr) (L c : Nat) (key : Nat → Nat) (w : World) (hg : Laid w) (hR : Reads w w.heap.size A L key) (hk : ∀ i, i < L → key i < 256) (hA : A = none → L = 0 ∧ c = 0) (hL : L ≤ 100) (hf : fitB 1 L = true) :
    Calls Tryd.prog 3 #[.int .i64 1, .slice A L c, .bool true] w fun e w' => e = .returned (.bool true) ∧ Below w.heap.size w w' := by
  have Hg := hid hg
  have HR := hid hR
  have Hk := hid hk
  have HA := hid hA
  have hLI : (L : Int) ≤ 100 := by omega
  clear hg hR hk hA
  go_enter Tryd.func3, Tryd.ntmps3
  go_wp2_with fail
  refine (awake_any _ Hg.out).mono ?_
  rintro e w1 ⟨rfl, hB1⟩
  go_wp2_with fail
  refine (book_any none 0 0 (fun _ => 0) _ (by omega) (fun _ => ⟨rfl, rfl⟩) (fun i hi => by omega) (fun h => by omega)).mono ?_
  rintro e w2 ⟨p, rfl, -, -, -, hbk, hB2⟩
  clear hbk
  have HB := hid (hB1.trans (hB2.mono hB1.size))
  clear hB1 hB2
  have hfit : fits 1 L := fitB_fits.1 hf
  have hL2 : L ≤ 32 := by
    rcases hfit with ⟨_, h⟩ | ⟨_, h⟩ | ⟨_, h⟩
    · rcases h with h | h | h <;> omega
    · rcases h with h | h | h <;> omega
    · exact h.2
  go_wp2_with fail
  refine (new1 A L c key p0 (some ⟨p.gb, 0, none⟩) _ hL2 HA.out Hk.out ((HR.out.below HB.out).more HB.out.size) hfit).mono ?_
  rintro e w3 ⟨gc, rfl, hci, -, hB3⟩
  have Hci := hid hci
  have HB3 := hid (HB.out.trans (hB3.mono HB.out.size))
  clear hci hB3 HB
  go_wp2_with fail
  refine (reff_any 1 (.inl rfl) L _ (by omega)).mono ?_
  rintro e w' ⟨rfl, rfl⟩
  rw [hf]
  go_wp2_with fail
  refine (size_any _ p0 1 gc _ _ _ Hci.out).mono ?_
  rintro e w' ⟨rfl, rfl⟩
  rw [show ((sz 1 : Nat) : Int) = 16 from rfl]
  go_wp2_with fail
  go_ret
  exact ⟨rfl, HB3.out⟩
set_option maxRecDepth 100000 in
theorem news_2_true_bad (A : Option Addr) (L c : Nat) (key : Nat → Nat) (w : World) (hg : Laid w) (hR : Reads w w.heap.size A L key) (hk : ∀ i, i < L → key i < 256) (hA : A = none → L = 0 ∧ c = 0) (hL : L ≤ 100) (hf : fitB 2 L = false) :
    Calls Tryd.prog 3 #[.int .i64 2, .slice A L c, .bool true] w fun e w' => e = .returned (.bool true) ∧ Below w.heap.size w w' := by
  have Hg := hid hg
  have HR := hid hR
  have Hk := hid hk
  have HA := hid hA
  have hLI : (L : Int) ≤ 100 := by omega
  clear hg hR hk hA
  go_enter Tryd.func3, Tryd.ntmps3
  go_wp2_with fail
  refine (awake_any _ Hg.out).mono ?_
  rintro e w1 ⟨rfl, hB1⟩
  go_wp2_with fail
  refine (book_any none 0 0 (fun _ => 0) _ (by omega) (fun _ => ⟨rfl, rfl⟩) (fun i hi => by omega) (fun h => by omega)).mono ?_
  rintro e w2 ⟨p, rfl, -, -, -, hbk, hB2⟩
  clear hbk
  have HB := hid (hB1.trans (hB2.mono hB1.size))
  clear hB1 hB2
  go_wp2_with fail
  refine (new_len 2 (.inr (.inl rfl)) A L c (some ⟨p.gb, 0, none⟩) (by simp) _ (by omega) hf).mono ?_
  rintro e w' ⟨rfl, rfl⟩
  go_wp2_with fail
  refine (reff_any 2 (.inr (.inl rfl)) L _ (by omega)).mono ?_
  rintro e w' ⟨rfl, rfl⟩
  rw [hf]
  go_wp2_with fail
  refine (code_hit 2 _ (Hg.out.below HB.out)).mono ?_
  rintro e w4 ⟨rfl, hB4⟩
  go_wp2_with fail
  go_ret
  exact ⟨rfl, HB.out.trans (hB4.mono HB.out.size)⟩
set_option maxRecDepth 100000 in
theorem news_2_true_ok (A : Option Addr) (L c : Nat) (key : Nat → Nat) (w : World) (hg : Laid w) (hR : Reads w w.heap.size A L key) (hk : ∀ i, i < L → key i < 256) (hA : A = none → L = 0 ∧ c = 0) (hL : L ≤ 100) (hf : fitB 2 L = true) :
    Calls Tryd.prog 3 #[.int .i64 2, .slice A L c, .bool true] w fun e w' => e = .returned (.bool true) ∧ Below w.heap.size w w' := by
  have Hg := hid hg
  have HR := hid hR
  have Hk := hid hk
  have HA := hid hA
  have hLI : (L : Int) ≤ 100 := by omega
  clear hg hR hk hA
  go_enter Tryd.func3, Tryd.ntmps3
  go_wp2_with fail
  refine (awake_any _ Hg.out).mono ?_
  rintro e w1 ⟨rfl, hB1⟩
  go_wp2_with fail
  refine (book_any none 0 0 (fun _ => 0) _ (by omega) (fun _ => ⟨rfl, rfl⟩) (fun i hi => by omega) (fun h => by omega)).mono ?_
  rintro e w2 ⟨p, rfl, -, -, -, hbk, hB2⟩
  clear hbk
  have HB := hid (hB1.trans (hB2.mono hB1.size))
  clear hB1 hB2
  have hfit : fits 2 L := fitB_fits.1 hf
  have hL2 : L ≤ 32 := by
    rcases hfit with ⟨_, h⟩ | ⟨_, h⟩ | ⟨_, h⟩
    · rcases h with h | h | h <;> omega
    · rcases h with h | h | h <;> omega
    · exact h.2
  go_wp2_with fail
  refine (new2 A L c key p0 (some ⟨p.gb, 0, none⟩) _ hL2 HA.out Hk.out ((HR.out.below HB.out).more HB.out.size) hfit).mono ?_
  rintro e w3 ⟨gc, rfl, hci, -, hB3⟩
  have Hci := hid hci
  have HB3 := hid (HB.out.trans (hB3.mono HB.out.size))
  clear hci hB3 HB
  go_wp2_with fail
  refine (reff_any 2 (.inr (.inl rfl)) L _ (by omega)).mono ?_
  rintro e w' ⟨rfl, rfl⟩
  rw [hf]
  go_wp2_with fail
  refine (size_any _ p0 2 gc _ _ _ Hci.out).mono ?_
  rintro e w' ⟨rfl, rfl⟩
  rw [show ((sz 2 : Nat) : Int) = 8 from rfl]
  go_wp2_with fail
  go_ret
  exact ⟨rfl, HB3.out⟩
set_option maxRecDepth 100000 in
theorem news_3_true_bad (A : Option Addr) (L c : Nat) (key : Nat → Nat) (w : World) (hg : Laid w) (hR : Reads w w.heap.size A L key) (hk : ∀ i, i < L → key i < 256) (hA : A = none → L = 0 ∧ c = 0) (hL : L ≤ 100) (hf : fitB 3 L = false) :
    Calls Tryd.prog 3 #[.int .i64 3, .slice A L c, .bool true] w fun e w' => e = .returned (.bool true) ∧ Below w.heap.size w w' := by
  have Hg := hid hg
  have HR := hid hR
  have Hk := hid hk
  have HA := hid hA
  have hLI : (L : Int) ≤ 100 := by omega
  clear hg hR hk hA
  go_enter Tryd.func3, Tryd.ntmps3
  go_wp2_with fail
  refine (awake_any _ Hg.out).mono ?_
  rintro e w1 ⟨rfl, hB1⟩
  go_wp2_with fail
  refine (book_any none 0 0 (fun _ => 0) _ (by omega) (fun _ => ⟨rfl, rfl⟩) (fun i hi => by omega) (fun h => by omega)).mono ?_
  rintro e w2 ⟨p, rfl, -, -, -, hbk, hB2⟩
  clear hbk
  have HB := hid (hB1.trans (hB2.mono hB1.size))
  clear hB1 hB2
  go_wp2_with fail
  refine (new_len 3 (.inr (.inr rfl)) A L c (some ⟨p.gb, 0, none⟩) (by simp) _ (by omega) hf).mono ?_
  rintro e w' ⟨rfl, rfl⟩
  go_wp2_with fail
  refine (reff_any 3 (.inr (.inr rfl)) L _ (by omega)).mono ?_
  rintro e w' ⟨rfl, rfl⟩
  rw [hf]
  go_wp2_with fail
  refine (code_hit 2 _ (Hg.out.below HB.out)).mono ?_
  rintro e w4 ⟨rfl, hB4⟩
  go_wp2_with fail
  go_ret
  exact ⟨rfl, HB.out.trans (hB4.mono HB.out.size)⟩
set_option maxRecDepth 100000 in
theorem news_3_true_ok (A : Option Addr) (L c : Nat) (key : Nat → Nat) (w : World) (hg : Laid w) (hR : Reads w w.heap.size A L key) (hk : ∀ i, i < L → key i < 256) (hA : A = none → L = 0 ∧ c = 0) (hL : L ≤ 100) (hf : fitB 3 L = true) :
    Calls Tryd.prog 3 #[.int .i64 3, .slice A L c, .bool true] w fun e w' => e = .returned (.bool true) ∧ Below w.heap.size w w' := by
  have Hg := hid hg
  have HR := hid hR
  have Hk := hid hk
  have HA := hid hA
  have hLI : (L : Int) ≤ 100 := by omega
  clear hg hR hk hA
  go_enter Tryd.func3, Tryd.ntmps3
  go_wp2_with fail
  refine (awake_any _ Hg.out).mono ?_
  rintro e w1 ⟨rfl, hB1⟩
  go_wp2_with fail
  refine (book_any none 0 0 (fun _ => 0) _ (by omega) (fun _ => ⟨rfl, rfl⟩) (fun i hi => by omega) (fun h => by omega)).mono ?_
  rintro e w2 ⟨p, rfl, -, -, -, hbk, hB2⟩
  clear hbk
  have HB := hid (hB1.trans (hB2.mono hB1.size))
  clear hB1 hB2
  have hfit : fits 3 L := fitB_fits.1 hf
  have hL2 : L ≤ 32 := by
    rcases hfit with ⟨_, h⟩ | ⟨_, h⟩ | ⟨_, h⟩
    · rcases h with h | h | h <;> omega
    · rcases h with h | h | h <;> omega
    · exact h.2
  go_wp2_with fail
  refine (new3 A L c key p _ hL2 HA.out Hk.out ((HR.out.below HB.out).more HB.out.size) hfit).mono ?_
  rintro e w3 ⟨gc, rfl, hci, -, hB3⟩
  have Hci := hid hci
  have HB3 := hid (HB.out.trans (hB3.mono HB.out.size))
  clear hci hB3 HB
  go_wp2_with fail
  refine (reff_any 3 (.inr (.inr rfl)) L _ (by omega)).mono ?_
  rintro e w' ⟨rfl, rfl⟩
  rw [hf]
  go_wp2_with fail
  refine (size_any _ p 3 gc _ _ _ Hci.out).mono ?_
  rintro e w' ⟨rfl, rfl⟩
  rw [show ((sz 3 : Nat) : Int) = 16 from rfl]
  go_wp2_with fail
  go_ret
  exact ⟨rfl, HB3.out⟩
set_option maxRecDepth 100000 in
theorem news_other_false (z : Int) (hz : z < 1 ∨ 3 < z) (A : Option Addr) (L c : Nat) (key : Nat → Nat) (w : World) (hg : Laid w) (hR : Reads w w.heap.size A L key) (hk : ∀ i, i < L → key i < 256) (hA : A = none → L = 0 ∧ c = 0) (hL : L ≤ 100) :
    Calls Tryd.prog 3 #[.int .i64 z, .slice A L c, .bool false] w fun e w' => e = .returned (.bool true) ∧ Below w.heap.size w w' := by
  rcases hz with hz | hz
  · have Hg := hid hg
    have HR := hid hR
    have Hk := hid hk
    have HA := hid hA
    have hLI : (L : Int) ≤ 100 := by omega
    clear hg hR hk hA
    go_enter Tryd.func3, Tryd.ntmps3
    go_wp2_with fail
    refine (awake_any _ Hg.out).mono ?_
    rintro e w1 ⟨rfl, hB1⟩
    have HB := hid hB1
    clear hB1
    go_wp2_with fail
    refine (new_kind z A L c none _ (.inl ⟨by omega, by omega, by omega⟩)).mono ?_
    rintro e w' ⟨rfl, rfl⟩
    go_wp2_with fail
    refine (code_hit 1 _ (Hg.out.below HB.out)).mono ?_
    rintro e w4 ⟨rfl, hB4⟩
    go_wp2_with fail
    go_ret
    exact ⟨rfl, HB.out.trans (hB4.mono HB.out.size)⟩
  · have hz1 : ¬ z < 1 := by omega
    have Hg := hid hg
    have HR := hid hR
    have Hk := hid hk
    have HA := hid hA
    have hLI : (L : Int) ≤ 100 := by omega
    clear hg hR hk hA
    go_enter Tryd.func3, Tryd.ntmps3
    go_wp2_with fail
    refine (awake_any _ Hg.out).mono ?_
    rintro e w1 ⟨rfl, hB1⟩
    have HB := hid hB1
    clear hB1
    go_wp2_with fail
    refine (new_kind z A L c none _ (.inl ⟨by omega, by omega, by omega⟩)).mono ?_
    rintro e w' ⟨rfl, rfl⟩
    go_wp2_with fail
    refine (code_hit 1 _ (Hg.out.below HB.out)).mono ?_
    rintro e w4 ⟨rfl, hB4⟩
    go_wp2_with fail
    go_ret
    exact ⟨rfl, HB.out.trans (hB4.mono HB.out.size)⟩
set_option maxRecDepth 100000 in
theorem news_1_false_bad (A : Option Addr) (L c : Nat) (key : Nat → Nat) (w : World) (hg : Laid w) (hR : Reads w w.heap.size A L key) (hk : ∀ i, i < L → key i < 256) (hA : A = none → L = 0 ∧ c = 0) (hL : L ≤ 100) (hf : fitB 1 L = false) :
    Calls Tryd.prog 3 #[.int .i64 1, .slice A L c, .bool false] w fun e w' => e = .returned (.bool true) ∧ Below w.heap.size w w' := by
  have Hg := hid hg
  have HR := hid hR
  have Hk := hid hk
  have HA := hid hA
  have hLI : (L : Int) ≤ 100 := by omega
  clear hg hR hk hA
  go_enter Tryd.func3, Tryd.ntmps3
  go_wp2_with fail
  refine (awake_any _ Hg.out).mono ?_
  rintro e w1 ⟨rfl, hB1⟩
  have HB := hid hB1
  clear hB1
  go_wp2_with fail
  refine (new_len 1 (.inl rfl) A L c none (by simp) _ (by omega) hf).mono ?_
  rintro e w' ⟨rfl, rfl⟩
  go_wp2_with fail
  refine (reff_any 1 (.inl rfl) L _ (by omega)).mono ?_
  rintro e w' ⟨rfl, rfl⟩
  rw [hf]
  go_wp2_with fail
  refine (code_hit 2 _ (Hg.out.below HB.out)).mono ?_
  rintro e w4 ⟨rfl, hB4⟩
  go_wp2_with fail
  go_ret
  exact ⟨rfl, HB.out.trans (hB4.mono HB.out.size)⟩
set_option maxRecDepth 100000 in
theorem news_1_false_ok (A : Option Addr) (L c : Nat) (key : Nat → Nat) (w : World) (hg : Laid w) (hR : Reads w w.heap.size A L key) (hk : ∀ i, i < L → key i < 256) (hA : A = none → L = 0 ∧ c = 0) (hL : L ≤ 100) (hf : fitB 1 L = true) :
    Calls Tryd.prog 3 #[.int .i64 1, .slice A L c, .bool false] w fun e w' => e = .returned (.bool true) ∧ Below w.heap.size w w' := by
  have Hg := hid hg
  have HR := hid hR
  have Hk := hid hk
  have HA := hid hA
  have hLI : (L : Int) ≤ 100 := by omega
  clear hg hR hk hA
  go_enter Tryd.func3, Tryd.ntmps3
  go_wp2_with fail
  refine (awake_any _ Hg.out).mono ?_
  rintro e w1 ⟨rfl, hB1⟩
  have HB := hid hB1
  clear hB1
  have hfit : fits 1 L := fitB_fits.1 hf
  have hL2 : L ≤ 32 := by
    rcases hfit with ⟨_, h⟩ | ⟨_, h⟩ | ⟨_, h⟩
    · rcases h with h | h | h <;> omega
    · rcases h with h | h | h <;> omega
    · exact h.2
  go_wp2_with fail
  refine (new1 A L c key p0 none _ hL2 HA.out Hk.out ((HR.out.below HB.out).more HB.out.size) hfit).mono ?_
  rintro e w3 ⟨gc, rfl, hci, -, hB3⟩
  have Hci := hid hci
  have HB3 := hid (HB.out.trans (hB3.mono HB.out.size))
  clear hci hB3 HB
  go_wp2_with fail
  refine (reff_any 1 (.inl rfl) L _ (by omega)).mono ?_
  rintro e w' ⟨rfl, rfl⟩
  rw [hf]
  go_wp2_with fail
  refine (size_any _ p0 1 gc _ _ _ Hci.out).mono ?_
  rintro e w' ⟨rfl, rfl⟩
  rw [show ((sz 1 : Nat) : Int) = 16 from rfl]
  go_wp2_with fail
  go_ret
  exact ⟨rfl, HB3.out⟩
set_option maxRecDepth 100000 in
theorem news_2_false_bad (A : Option Addr) (L c : Nat) (key : Nat → Nat) (w : World) (hg : Laid w) (hR : Reads w w.heap.size A L key) (hk : ∀ i, i < L → key i < 256) (hA : A = none → L = 0 ∧ c = 0) (hL : L ≤ 100) (hf : fitB 2 L = false) :
    Calls Tryd.prog 3 #[.int .i64 2, .slice A L c, .bool false] w fun e w' => e = .returned (.bool true) ∧ Below w.heap.size w w' := by
  have Hg := hid hg
  have HR := hid hR
  have Hk := hid hk
  have HA := hid hA
  have hLI : (L : Int) ≤ 100 := by omega
  clear hg hR hk hA
  go_enter Tryd.func3, Tryd.ntmps3
  go_wp2_with fail
  refine (awake_any _ Hg.out).mono ?_
  rintro e w1 ⟨rfl, hB1⟩
  have HB := hid hB1
  clear hB1
  go_wp2_with fail
  refine (new_len 2 (.inr (.inl rfl)) A L c none (by simp) _ (by omega) hf).mono ?_
  rintro e w' ⟨rfl, rfl⟩
  go_wp2_with fail
  refine (reff_any 2 (.inr (.inl rfl)) L _ (by omega)).mono ?_
  rintro e w' ⟨rfl, rfl⟩
  rw [hf]
  go_wp2_with fail
  refine (code_hit 2 _ (Hg.out.below HB.out)).mono ?_
  rintro e w4 ⟨rfl, hB4⟩
  go_wp2_with fail
  go_ret
  exact ⟨rfl, HB.out.trans (hB4.mono HB.out.size)⟩
set_option maxRecDepth 100000 in
theorem news_2_false_ok (A : Option Addr) (L c : Nat) (key : Nat → Nat) (w : World) (hg : Laid w) (hR : Reads w w.heap.size A L key) (hk : ∀ i, i < L → key i < 256) (hA : A = none → L = 0 ∧ c = 0) (hL : L ≤ 100) (hf : fitB 2 L = true) :
    Calls Tryd.prog 3 #[.int .i64 2, .slice A L c, .bool false] w fun e w' => e = .returned (.bool true) ∧ Below w.heap.size w w' := by
  have Hg := hid hg
  have HR := hid hR
  have Hk := hid hk
  have HA := hid hA
  have hLI : (L : Int) ≤ 100 := by omega
  clear hg hR hk hA
  go_enter Tryd.func3, Tryd.ntmps3
  go_wp2_with fail
  refine (awake_any _ Hg.out).mono ?_
  rintro e w1 ⟨rfl, hB1⟩
  have HB := hid hB1
  clear hB1
  have hfit : fits 2 L := fitB_fits.1 hf
  have hL2 : L ≤ 32 := by
    rcases hfit with ⟨_, h⟩ | ⟨_, h⟩ | ⟨_, h⟩
    · rcases h with h | h | h <;> omega
    · rcases h with h | h | h <;> omega
    · exact h.2
  go_wp2_with fail
  refine (new2 A L c key p0 none _ hL2 HA.out Hk.out ((HR.out.below HB.out).more HB.out.size) hfit).mono ?_
  rintro e w3 ⟨gc, rfl, hci, -, hB3⟩
  have Hci := hid hci
  have HB3 := hid (HB.out.trans (hB3.mono HB.out.size))
  clear hci hB3 HB
  go_wp2_with fail
  refine (reff_any 2 (.inr (.inl rfl)) L _ (by omega)).mono ?_
  rintro e w' ⟨rfl, rfl⟩
  rw [hf]
  go_wp2_with fail
  refine (size_any _ p0 2 gc _ _ _ Hci.out).mono ?_
  rintro e w' ⟨rfl, rfl⟩
  rw [show ((sz 2 : Nat) : Int) = 8 from rfl]
  go_wp2_with fail
  go_ret
  exact ⟨rfl, HB3.out⟩
set_option maxRecDepth 100000 in
theorem news_3_false_none (A : Option Addr) (L c : Nat) (key : Nat → Nat) (w : World) (hg : Laid w) (hR : Reads w w.heap.size A L key) (hk : ∀ i, i < L → key i < 256) (hA : A = none → L = 0 ∧ c = 0) (hL : L ≤ 100)  :
    Calls Tryd.prog 3 #[.int .i64 3, .slice A L c, .bool false] w fun e w' => e = .returned (.bool true) ∧ Below w.heap.size w w' := by
  have Hg := hid hg
  have HR := hid hR
  have Hk := hid hk
  have HA := hid hA
  have hLI : (L : Int) ≤ 100 := by omega
  clear hg hR hk hA
  go_enter Tryd.func3, Tryd.ntmps3
  go_wp2_with fail
  refine (awake_any _ Hg.out).mono ?_
  rintro e w1 ⟨rfl, hB1⟩
  have HB := hid hB1
  clear hB1
  go_wp2_with fail
  refine (new_kind 3 A L c none _ (.inr ⟨rfl, rfl⟩)).mono ?_
  rintro e w' ⟨rfl, rfl⟩
  go_wp2_with fail
  refine (code_hit 1 _ (Hg.out.below HB.out)).mono ?_
  rintro e w4 ⟨rfl, hB4⟩
  go_wp2_with fail
  go_ret
  exact ⟨rfl, HB.out.trans (hB4.mono HB.out.size)⟩
set_option maxRecDepth 100000 in
theorem news_true (z : Int) (A : Option Addr) (L c : Nat) (key : Nat → Nat) (wi : Bool) (w : World) (hg : Laid w) (_hz : (Lit.int .i64 z).wf = true) (hR : Reads w w.heap.size A L key) (hk : ∀ i, i < L → key i < 256) (hA : A = none → L = 0 ∧ c = 0) :
    Calls Tryd.prog 3 #[.int .i64 z, .slice A L c, .bool wi] w fun e w' => e = .returned (.bool true) ∧ Below w.heap.size w w' := by
  by_cases hL : L ≤ 100
  · by_cases h1 : z = 1
    · subst h1
      cases hf : fitB 1 L <;> cases wi
      · exact news_1_false_bad A L c key w hg hR hk hA hL hf
      · exact news_1_true_bad A L c key w hg hR hk hA hL hf
      · exact news_1_false_ok A L c key w hg hR hk hA hL hf
      · exact news_1_true_ok A L c key w hg hR hk hA hL hf
    · by_cases h2 : z = 2
      · subst h2
        cases hf : fitB 2 L <;> cases wi
        · exact news_2_false_bad A L c key w hg hR hk hA hL hf
        · exact news_2_true_bad A L c key w hg hR hk hA hL hf
        · exact news_2_false_ok A L c key w hg hR hk hA hL hf
        · exact news_2_true_ok A L c key w hg hR hk hA hL hf
      · by_cases h3 : z = 3
        · subst h3
          cases wi
          · exact news_3_false_none A L c key w hg hR hk hA hL
          · cases hf : fitB 3 L
            · exact news_3_true_bad A L c key w hg hR hk hA hL hf
            · exact news_3_true_ok A L c key w hg hR hk hA hL hf
        · cases wi
          · exact news_other_false z (by omega) A L c key w hg hR hk hA hL
          · exact news_other_true z (by omega) A L c key w hg hR hk hA hL
  · have hLI : ¬ (L : Int) ≤ 100 := by omega
    have Hg := hid hg
    clear hg
    go_enter Tryd.func3, Tryd.ntmps3
    go_wp2_with fail
    refine (awake_any _ Hg.out).mono ?_
    rintro e w1 ⟨rfl, hB1⟩
    go_wp2_with fail
    refine (awake_any _ (Hg.out.below hB1)).mono ?_
    rintro e w2 ⟨rfl, hB2⟩
    go_wp2_with fail
    go_ret
    exact ⟨rfl, hB1.trans (hB2.mono hB1.size)⟩
end Go.Proofs.YtcgbhpmakebllaaDoor.Law05
