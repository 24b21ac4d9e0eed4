/-
  What lockboxref09's Sized, Even, Odd and Join return.
-/
import Derived.Test.YtaeleohjikheiaaGreatDoorPart2
import Derived.Test.YtaeleohjikheiaaGreatDoorRef03A
namespace Go.Proofs.YtaeleohjikheiaaGreatDoor.Pt
open Mem Bk Md Go.ChangeShapes Go.WideShapes Go.ChangeAt Go.RowKit
theorem rsized_kind (z : Int) (h1 : z ≠ 1) (h2 : z ≠ 2) (n : Nat) (w : World) : Calls Tryz.prog 32 #[.int .i64 z, .int .i64 (n : Int)] w fun e w' => e = .returned (.int .i64 1) ∧ w' = w := by
  have e1 : (z != 1) = true := by simp; exact h1
  have e2 : (z != 2) = true := by simp; exact h2
  go_enter Tryz.func32, Tryz.ntmps32
  go_wp2_with fail
  go_ret
  exact ⟨rfl, rfl⟩
theorem rsized_ok (k n : Nat) (h : fit9 k n) (w : World) : Calls Tryz.prog 32 #[.int .i64 (k : Int), .int .i64 (n : Int)] w fun e w' => e = .returned (.int .i64 0) ∧ w' = w := by
  have hc : (k = 1 ∧ n = 16) ∨ (k = 1 ∧ n = 24) ∨ (k = 1 ∧ n = 32) ∨ (k = 2 ∧ n = 16) ∨ (k = 2 ∧ n = 24) := by unfold fit9 at h; omega
  clear h
  rcases hc with ⟨rfl, rfl⟩ | ⟨rfl, rfl⟩ | ⟨rfl, rfl⟩ | ⟨rfl, rfl⟩ | ⟨rfl, rfl⟩
  all_goals
    go_enter Tryz.func32, Tryz.ntmps32
    go_wp2_with fail
    go_ret
    exact ⟨rfl, rfl⟩
theorem rsized_bad (k n : Nat) (hk : k = 1 ∨ k = 2) (h : ¬ fit9 k n) (w : World) : Calls Tryz.prog 32 #[.int .i64 (k : Int), .int .i64 (n : Int)] w fun e w' => e = .returned (.int .i64 2) ∧ w' = w := by
  rcases hk with rfl | rfl
  · have h3 : n ≠ 16 ∧ n ≠ 24 ∧ n ≠ 32 := by unfold fit9 at h; omega
    have e1 : ((n : Int) == 16) = false := by simp; omega
    have e2 : ((n : Int) == 24) = false := by simp; omega
    have e3 : ((n : Int) == 32) = false := by simp; omega
    clear h h3
    go_enter Tryz.func32, Tryz.ntmps32
    go_wp2_with fail
    go_ret
    exact ⟨rfl, rfl⟩
  · have h3 : n ≠ 16 ∧ n ≠ 24 := by unfold fit9 at h; omega
    have e1 : ((n : Int) == 16) = false := by simp; omega
    have e2 : ((n : Int) == 24) = false := by simp; omega
    clear h h3
    go_enter Tryz.func32, Tryz.ntmps32
    go_wp2_with fail
    go_ret
    exact ⟨rfl, rfl⟩
/-- the first bits' sum, from the highest on -/
def pcs (b : Nat) : Nat → Nat
  | 0 => 0
  | q + 1 => pcs b q + b / 2 ^ (7 - q) % 2
theorem pcs_le (b : Nat) : ∀ q, pcs b q ≤ q
  | 0 => Nat.le_refl _
  | q + 1 => by unfold pcs; have := pcs_le b q; omega
theorem pcs_all : ∀ b, b < 256 → pcs b 8 = pc b := by decide +kernel
/-- where the first even byte is, or -1 -/
def evI (J L : Nat) : Int := if J < L then (J : Int) else -1
set_option maxRecDepth 100000 in
set_option maxHeartbeats 2000000 in
theorem reven_any (A : Option Addr) (L c : Nat) (f : Nat → Nat) (J : Nat) (w : World) (hL : L ≤ 1000) (hc : L ≤ c) (hf : ∀ i, i < L → f i < 256) (hR : Reads w w.heap.size A L f) (hJ : J ≤ L) (hodd : ∀ i, i < J → pc (f i) % 2 = 1) (hJe : J < L → pc (f J) % 2 = 0) :
    Calls Tryz.prog 33 #[.slice A L c] w fun e w' => e = .returned (.int .i64 (evI J L)) ∧ Below w.heap.size w w' := by
  have HR := hid hR
  have Hf := hid hf
  have Ho := hid hodd
  have He := hid hJe
  clear hR hf hodd hJe
  go_enter Tryz.func33, Tryz.ntmps33
  go_wp2_with fail
  go_loopw [3] (fun y wr => ∃ k : Nat, k ≤ J ∧ y = .int .i64 (k : Int) ∧ Below w.heap.size w wr) (fun y _ => L - (intOf y).toNat)
  case atStart => exact ⟨0, by omega, rfl, Below.refl _ _⟩
  case round =>
    obtain ⟨k, hk, rfl, hB⟩ := hrel
    rename World => wo
    by_cases hlt : k < L
    · have hfk := Hf.out k hlt
      obtain ⟨ad, rfl, hbl, hcs⟩ := HR.out (by omega)
      have hkc : ¬ c = k := by omega
      have hk1c : k + 1 ≤ c := by omega
      have hR1 : Reads wo wo.heap.size (some (ad.add k)) 1 (fun _ => f k) := fun _ => ⟨_, rfl, by rw [add_block]; exact Nat.lt_of_lt_of_le hbl hB.size, fun i hi => by
        obtain rfl : i = 0 := by omega
        rw [add_add]
        exact (hB.cell (p := ad.add (k + 0)) (by rw [add_block]; exact hbl)).trans (hcs _ hlt)⟩
      have HR1 := hid hR1
      have HB := hid hB
      clear hcs hR1 hB
      go_wp2_with (go_at_call 64; refine (Des.bits_any _ 1 _ (fun _ => f k) (by omega) (by omega) (fun _ _ => hfk) _ HR1.out).mono ?_; rintro e w2 ⟨A2, c2, rfl, hc2, hL2, hB2⟩)
      obtain ⟨ad2, rfl, hbl2⟩ := hL2.some
      have HC2 : Hid (∀ q, q < 8 → w2.cell? (ad2.add q) = some (.int .i64 ((f k / 2 ^ (7 - q) % 2 : Nat) : Int))) := hid (fun q hq => by
        rw [hL2.at q (by omega)]
        unfold iv Des.bitsF
        rw [show q / 8 = 0 by omega, show q % 8 = q by omega])
      have HB2 := hid (HB.out.trans (hB2.mono HB.out.size))
      clear hL2 hB2 HB HR1
      go_loopw [5, 6] (fun nv kv wr => ∃ q : Nat, q ≤ 8 ∧ kv = .int .i64 (q : Int) ∧ nv = .int .i64 ((pcs (f k) q : Nat) : Int) ∧ wr = w2) (fun _ kv _ => 8 - (intOf kv).toNat)
      case atStart => exact ⟨0, by omega, rfl, rfl, rfl⟩
      case round =>
        obtain ⟨q, hq, rfl, rfl, rfl⟩ := hrel
        have hple := pcs_le (f k) q
        by_cases hq8 : q < 8
        · have hcq := HC2.out q hq8
          have hps : pcs (f k) (q + 1) = pcs (f k) q + f k / 2 ^ (7 - q) % 2 := rfl
          have hb1 : f k / 2 ^ (7 - q) % 2 < 2 := Nat.mod_lt _ (by omega)
          have Hps := hid hps
          clear hps
          generalize f k / 2 ^ (7 - q) % 2 = bq at *
          go_wp2_with (first
            | (with_reducible refine wpl_sl1 rfl 68 _ _ rfl ad2 8 c2 rfl .i64 _ rfl q rfl 3 Tryz.underlying68 hq8 Des.iI ?_)
            | (with_reducible refine wpl_ld rfl 3 _ rfl _ rfl .i64 Tryz.underlying3 _ hcq ?_))
          exact ⟨⟨q + 1, by omega, val_int (by omega), val_int (by rw [Hps.out]; omega), by first | rfl | trivial⟩, by simp [intOf]; omega⟩
        · obtain rfl : q = 8 := by omega
          have hp8 := pcs_all (f k) hfk
          rw [hp8]
          rw [hp8] at hple
          by_cases hkJ : k < J
          · have hodd := Ho.out k hkJ
            have hm : (((pc (f k) : Nat) : Int) % 2 == 0) = false := by simp; omega
            clear hp8
            generalize pc (f k) = z at *
            clear hodd
            go_wp2_with fail
            exact ⟨⟨k + 1, by omega, val_int (by omega), HB2.out⟩, by simp [intOf]; omega⟩
          · obtain rfl : k = J := by omega
            have heven := He.out hlt
            have hm : (((pc (f k) : Nat) : Int) % 2 == 0) = true := by simp; omega
            have hev : evI k L = (k : Int) := by unfold evI; rw [if_pos hlt]
            clear hp8
            generalize pc (f k) = z at *
            clear heven
            go_wp2_with fail
            go_ret
            exact ⟨by rw [hev]; rfl, HB2.out⟩
    · have hkI : ¬ (k : Int) < (L : Int) := by omega
      have hev : evI J L = -1 := by unfold evI; rw [if_neg (by omega)]
      go_wp2_with fail
      go_ret
      exact ⟨rfl, hB⟩
theorem one_blk (w : World) (b : Nat) : Reads (w.alloc (.cells #[.int .u8 (b : Int)] 5)) (w.heap.size + 1) (some ⟨w.heap.size, 0, none⟩) 1 (fun _ => b) := fun _ => ⟨_, rfl, Nat.lt_succ_self _, fun j hj => by
  have : j = 0 := by omega
  subst this
  exact (Blk.fresh w 5 #[.int .u8 (b : Int)]).cell 0⟩
theorem reven_one (A : Option Addr) (c b : Nat) (w : World) (hc : 1 ≤ c) (hb : b < 256) (hR : Reads w w.heap.size A 1 (fun _ => b)) :
    Calls Tryz.prog 33 #[.slice A 1 c] w fun e w' => e = .returned (.int .i64 (if pc b % 2 = 0 then 0 else -1)) ∧ Below w.heap.size w w' := by
  by_cases h : pc b % 2 = 0
  · refine (reven_any A 1 c (fun _ => b) 0 w (by omega) hc (fun _ _ => hb) hR (by omega) (fun i hi => by omega) (fun _ => h)).mono ?_
    rintro e w' ⟨rfl, hB⟩
    rw [if_pos h]
    exact ⟨rfl, hB⟩
  · refine (reven_any A 1 c (fun _ => b) 1 w (by omega) hc (fun _ _ => hb) hR (by omega) (fun i hi => by omega) (fun h => by omega)).mono ?_
    rintro e w' ⟨rfl, hB⟩
    rw [if_neg h]
    exact ⟨rfl, hB⟩
set_option maxRecDepth 100000 in
set_option maxHeartbeats 2000000 in
theorem rodd_any (A : Option Addr) (L c : Nat) (f : Nat → Nat) (w : World) (hL : L ≤ 1000) (hf : ∀ i, i < L → f i < 256) (hR : Reads w w.heap.size A L f) :
    Calls Tryz.prog 31 #[.slice A L c] w fun e w' => ∃ v, e = .returned v ∧ Mem.Own w' w.heap.size 5 1 v L (odF f) ∧ Below w.heap.size w w' := by
  have HR := hid hR
  have Hf := hid hf
  clear hR hf
  go_enter Tryz.func31, Tryz.ntmps31
  go_wp2_with fail
  go_loopw [3, 4] (fun v y wr => ∃ i : Nat, i ≤ L ∧ y = .int .i64 (i : Int) ∧ Mem.Own wr w.heap.size 5 1 v i (odF f) ∧ Below w.heap.size w wr) (fun _ y _ => L - (intOf y).toNat)
  case atStart => exact ⟨0, by omega, rfl, Mem.Own.nil _ _ _ _ _, Below.refl _ _⟩
  case round =>
    obtain ⟨i, hi, rfl, hov, hB⟩ := hrel
    obtain ⟨A', c', rfl, hc', -⟩ := hov.slice'
    have Hov := hid hov
    have HB := hid hB
    clear hov hB
    by_cases hlt : i < L
    · have hfi := Hf.out i hlt
      obtain ⟨ad, rfl, had, hcs⟩ := HR.out (by omega)
      have hcx : wr.cell? (ad.add i) = some (.int .u8 ((f i : Nat) : Int)) := (HB.out.cell (p := ad.add i) (by rw [add_block]; exact had)).trans (hcs _ hlt)
      have hod : Hid (odF f i = od (f i)) := hid rfl
      clear hcs
      generalize f i = b at *
      have hBa : Below w.heap.size w (wr.alloc (.cells #[.int .u8 (b : Int)] 5)) := HB.out.alloc HB.out.size _
      have HE := hid (reven_one (some ⟨wr.heap.size, 0, none⟩) 1 b (wr.alloc (.cells #[.int .u8 (b : Int)] 5)) (by omega) hfi (by have := one_blk wr b; simpa using this))
      have Hov1 := hid (Hov.out.alloc (.cells #[.int .u8 (b : Int)] 5))
      have HBa := hid hBa
      clear hBa
      obtain ⟨x, hx⟩ : ∃ x, x = od b := ⟨_, rfl⟩
      rw [← hx] at hod
      by_cases he : pc b % 2 = 0
      · have hup := od_up b hfi he
        rw [if_pos he] at HE
        rw [← hx] at hup
        clear he hx
        by_cases h2 : b % 2 = 1
        · rw [if_pos h2] at hup
          have hb2 : (((b : Nat) : Int) % 2 == 1) = true := by simp; omega
          have hb1 : ((b : Int) - 1) = ((x : Nat) : Int) := by omega
          have hw8 : IntKind.u8.wrap ((b : Int) - 1) = ((x : Nat) : Int) := by rw [hb1]; simp [IntKind.wrap_u8]; omega
          clear h2 hb1 hup
          go_wp2_with (first
            | (with_reducible refine wpl_sl1 rfl 22 _ _ rfl ad L c rfl .i64 _ rfl i rfl 5 Tryz.underlying22 hlt i8q ?_)
            | (with_reducible refine wpl_ld rfl 5 _ rfl _ rfl .u8 Tryz.underlying5 _ hcx ?_)
            | (go_at_call 33; refine HE.out.mono ?_; rintro e w2 ⟨rfl, hB2⟩; have HB2 := hid (HBa.out.trans (hB2.mono HBa.out.size)); have HovA := hid ((Hov1.out.below hB2 (Nat.le_refl _)).alloc (.cells #[.int .u8 ((x : Nat) : Int)] 5)); have HRA := hid (one_blk w2 x); have HBA := hid (HB2.out.alloc HB2.out.size (.cells #[.int .u8 ((x : Nat) : Int)] 5)); have hsA := HBA.out.size; have hs2 : (w2.alloc (.cells #[.int .u8 ((x : Nat) : Int)] 5)).heap.size = w2.heap.size + 1 := (by simp); have hs3 : w.heap.size ≤ w2.heap.size + 1 := (by omega); clear hB2 hsA hs2)
            | (at_builtin; refine wpl_app_gen rfl _ _ 22 rfl w.heap.size 5 (.int .u8 0) Tryz.underlying22 info_u8 rfl _ i _ rfl HovA.out (some ⟨w2.heap.size, 0, none⟩) 1 1 _ _ HRA.out (fun h => by cases h) rfl (by omega) (by simpa using hs3) ?_))
          intro v3 w3 ho3 hB3
          obtain ⟨A3, c3, rfl, hc3, -⟩ := ho3.slice'
          go_wp2_with fail
          refine ⟨⟨i + 1, by omega, val_int (by omega), ho3.ext (fun q hq => ?_), HBA.out.trans hB3⟩, by simp [intOf]; omega⟩
          unfold cat
          by_cases hqi : q < i
          · rw [if_pos hqi]
          · obtain rfl : q = i := by omega
            rw [if_neg hqi, hod.out]
        · rw [if_neg h2] at hup
          have hb2 : (((b : Nat) : Int) % 2 == 1) = false := by simp; omega
          have hb1 : ((b : Int) + 1) = ((x : Nat) : Int) := by omega
          have hw8 : IntKind.u8.wrap ((b : Int) + 1) = ((x : Nat) : Int) := by rw [hb1]; simp [IntKind.wrap_u8]; omega
          clear h2 hb1 hup
          go_wp2_with (first
            | (with_reducible refine wpl_sl1 rfl 22 _ _ rfl ad L c rfl .i64 _ rfl i rfl 5 Tryz.underlying22 hlt i8q ?_)
            | (with_reducible refine wpl_ld rfl 5 _ rfl _ rfl .u8 Tryz.underlying5 _ hcx ?_)
            | (go_at_call 33; refine HE.out.mono ?_; rintro e w2 ⟨rfl, hB2⟩; have HB2 := hid (HBa.out.trans (hB2.mono HBa.out.size)); have HovA := hid ((Hov1.out.below hB2 (Nat.le_refl _)).alloc (.cells #[.int .u8 ((x : Nat) : Int)] 5)); have HRA := hid (one_blk w2 x); have HBA := hid (HB2.out.alloc HB2.out.size (.cells #[.int .u8 ((x : Nat) : Int)] 5)); have hsA := HBA.out.size; have hs2 : (w2.alloc (.cells #[.int .u8 ((x : Nat) : Int)] 5)).heap.size = w2.heap.size + 1 := (by simp); have hs3 : w.heap.size ≤ w2.heap.size + 1 := (by omega); clear hB2 hsA hs2)
            | (at_builtin; refine wpl_app_gen rfl _ _ 22 rfl w.heap.size 5 (.int .u8 0) Tryz.underlying22 info_u8 rfl _ i _ rfl HovA.out (some ⟨w2.heap.size, 0, none⟩) 1 1 _ _ HRA.out (fun h => by cases h) rfl (by omega) (by simpa using hs3) ?_))
          intro v3 w3 ho3 hB3
          obtain ⟨A3, c3, rfl, hc3, -⟩ := ho3.slice'
          go_wp2_with fail
          refine ⟨⟨i + 1, by omega, val_int (by omega), ho3.ext (fun q hq => ?_), HBA.out.trans hB3⟩, by simp [intOf]; omega⟩
          unfold cat
          by_cases hqi : q < i
          · rw [if_pos hqi]
          · obtain rfl : q = i := by omega
            rw [if_neg hqi, hod.out]
      · rw [if_neg he] at HE
        have hxb : x = b := by rw [hx]; exact od_same b hfi (by omega)
        subst hxb
        clear he hx
        go_wp2_with (first
          | (with_reducible refine wpl_sl1 rfl 22 _ _ rfl ad L c rfl .i64 _ rfl i rfl 5 Tryz.underlying22 hlt i8q ?_)
          | (with_reducible refine wpl_ld rfl 5 _ rfl _ rfl .u8 Tryz.underlying5 _ hcx ?_)
          | (go_at_call 33; refine HE.out.mono ?_; rintro e w2 ⟨rfl, hB2⟩; have HB2 := hid (HBa.out.trans (hB2.mono HBa.out.size)); have HovA := hid ((Hov1.out.below hB2 (Nat.le_refl _)).alloc (.cells #[.int .u8 ((x : Nat) : Int)] 5)); have HRA := hid (one_blk w2 x); have HBA := hid (HB2.out.alloc HB2.out.size (.cells #[.int .u8 ((x : Nat) : Int)] 5)); have hsA := HBA.out.size; have hs2 : (w2.alloc (.cells #[.int .u8 ((x : Nat) : Int)] 5)).heap.size = w2.heap.size + 1 := (by simp); have hs3 : w.heap.size ≤ w2.heap.size + 1 := (by omega); clear hB2 hsA hs2)
          | (at_builtin; refine wpl_app_gen rfl _ _ 22 rfl w.heap.size 5 (.int .u8 0) Tryz.underlying22 info_u8 rfl _ i _ rfl HovA.out (some ⟨w2.heap.size, 0, none⟩) 1 1 _ _ HRA.out (fun h => by cases h) rfl (by omega) (by simpa using hs3) ?_))
        intro v3 w3 ho3 hB3
        obtain ⟨A3, c3, rfl, hc3, -⟩ := ho3.slice'
        go_wp2_with fail
        refine ⟨⟨i + 1, by omega, val_int (by omega), ho3.ext (fun q hq => ?_), HBA.out.trans hB3⟩, by simp [intOf]; omega⟩
        unfold cat
        by_cases hqi : q < i
        · rw [if_pos hqi]
        · obtain rfl : q = i := by omega
          rw [if_neg hqi, hod.out]
    · have hiL : i = L := by omega
      have hiI : ¬ (i : Int) < (L : Int) := by omega
      go_wp2_with fail
      go_ret
      subst hiL
      exact ⟨_, rfl, Hov.out, HB.out⟩
set_option maxRecDepth 100000 in
set_option maxHeartbeats 2000000 in
theorem rjoin_any (k : Nat) (_hk : k = 1 ∨ k = 2) (P : Option Addr) (n cp : Nat) (a : Nat → Option Addr) (l c : Nat → Nat) (f : Nat → Nat → Nat) (L : Nat) (w : World) (hn0 : 0 < n) (hn : n ≤ 100) (hL : L ≤ 1000) (h : PartsAt w P n a l c f) (hl : ∀ i, i < n → l i = L) (hb : ∀ i, i < n → ∀ q, q < L → f i q < 256) :
    Calls Tryz.prog 37 #[.int .i64 (k : Int), .slice P n cp] w fun e w' => ∃ v, e = .returned v ∧ Mem.Own w' w.heap.size 5 1 v L (jk k (jn f n)) ∧ Below w.heap.size w w' := by
  obtain ⟨ad, rfl, had, hcs⟩ := h.1 hn0
  have HC : Hid (∀ W, Below w.heap.size w W → ∀ i, i < n → W.cell? (ad.add i) = some (.slice (a i) L (c i))) := hid (fun W hW i hi => by
    rw [← hl i hi]
    exact (hW.cell (p := ad.add i) (by rw [add_block]; exact had)).trans (hcs i hi))
  have HR : Hid (∀ i, i < n → Reads w w.heap.size (a i) L (f i)) := hid (fun i hi => by have := h.2 i hi; rwa [hl i hi] at this)
  have Hb := hid hb
  have Hjl := hid (fun q => jn_lt (f := f) (L := L) q)
  clear h hl hb hcs
  go_enter Tryz.func37, Tryz.ntmps37
  go_wp2_with fail
  go_loopw [5, 6] (fun v y wr => ∃ i : Nat, i ≤ L ∧ y = .int .i64 (i : Int) ∧ Mem.Own wr w.heap.size 5 1 v i (jn f n) ∧ Below w.heap.size w wr) (fun _ y _ => L - (intOf y).toNat)
  case atStart => exact ⟨0, by omega, rfl, Mem.Own.nil _ _ _ _ _, Below.refl _ _⟩
  case round =>
    obtain ⟨i, hi, rfl, hov, hB⟩ := hrel
    rename World => wo
    obtain ⟨A', c', rfl, hc', -⟩ := hov.slice'
    have Hov := hid hov
    have HB := hid hB
    clear hov hB
    have hc0 : wo.cell? (ad.add 0) = some (.slice (a 0) L (c 0)) := HC.out wo HB.out 0 hn0
    by_cases hlt : i < L
    · go_wp2_with (first
        | (with_reducible refine wpl_sl1 rfl 59 _ _ rfl ad n cp rfl .i64 _ rfl 0 rfl 22 Tryz.underlying59 hn0 iSS ?_)
        | (with_reducible refine wpl_val rfl _ (exec_lds 22 _ rfl (ad.add 0) rfl 5 Tryz.underlying22 _ hc0) ?_))
      go_loopw [7, 8] (fun xv kv wr => ∃ q : Nat, q ≤ n ∧ kv = .int .i64 (q : Int) ∧ xv = .int .u8 ((jn f q i : Nat) : Int) ∧ wr = wo) (fun _ kv _ => n - (intOf kv).toNat)
      case atStart => exact ⟨0, by omega, rfl, rfl, rfl⟩
      case round =>
        obtain ⟨q, hq, rfl, rfl, rfl⟩ := hrel
        by_cases hqn : q < n
        · have hcq : wr.cell? (ad.add q) = some (.slice (a q) L (c q)) := HC.out wr HB.out q hqn
          obtain ⟨ad2, had2, hbl2, hcs2⟩ := HR.out q hqn (by omega)
          rw [had2] at hcq
          have hcx : wr.cell? (ad2.add i) = some (.int .u8 ((f q i : Nat) : Int)) := (HB.out.cell (p := ad2.add i) (by rw [add_block]; exact hbl2)).trans (hcs2 i hlt)
          have hjq : jn f q i < 256 := Hjl.out q (fun r hr => Hb.out r (by omega)) i hlt
          have hfq : f q i < 256 := Hb.out q hqn i hlt
          have Hjn : Hid (jn f (q + 1) i = jn f q i ^^^ f q i) := hid rfl
          generalize c q = cq at *
          generalize f q i = y at *
          clear hcs2 had2
          go_wp2_with (first
            | (with_reducible refine wpl_sl1 rfl 59 _ _ rfl ad n cp rfl .i64 _ rfl q rfl 22 Tryz.underlying59 hqn iSS ?_)
            | (with_reducible refine wpl_val rfl _ (exec_lds 22 _ rfl (ad.add q) rfl 5 Tryz.underlying22 _ hcq) ?_)
            | (with_reducible refine wpl_sl1 rfl 22 _ _ rfl ad2 L cq rfl .i64 _ rfl i rfl 5 Tryz.underlying22 hlt i8q ?_)
            | (with_reducible refine wpl_ld rfl 5 _ rfl _ rfl .u8 Tryz.underlying5 _ hcx ?_))
          rw [u8_xor_nat _ _ hjq hfq, ← Hjn.out]
          exact ⟨⟨q + 1, by omega, val_int (by omega), by first | rfl | trivial, by first | rfl | trivial⟩, by simp [intOf]; omega⟩
        · obtain rfl : q = n := by omega
          have HovA := hid (Hov.out.alloc (.cells #[.int .u8 ((jn f q i : Nat) : Int)] 5))
          have HRA := hid (one_blk wr (jn f q i))
          have HBA := hid (HB.out.alloc HB.out.size (.cells #[.int .u8 ((jn f q i : Nat) : Int)] 5))
          have hsA := HB.out.size
          have hs3 : w.heap.size ≤ wr.heap.size + 1 := by omega
          clear hsA
          generalize hz : jn f q i = z at *
          go_wp2_with (at_builtin; refine wpl_app_gen rfl _ _ 22 rfl w.heap.size 5 (.int .u8 0) Tryz.underlying22 info_u8 rfl _ i _ rfl HovA.out (some ⟨wr.heap.size, 0, none⟩) 1 1 _ _ HRA.out (fun h => by cases h) rfl (by omega) (by simpa using hs3) ?_)
          intro v3 w3 ho3 hB3
          obtain ⟨A3, c3, rfl, hc3, -⟩ := ho3.slice'
          go_wp2_with fail
          refine ⟨⟨i + 1, by omega, val_int (by omega), ho3.ext (fun r hr => ?_), HBA.out.trans hB3⟩, by simp [intOf]; omega⟩
          unfold cat
          by_cases hri : r < i
          · rw [if_pos hri]
          · obtain rfl : r = i := by omega
            rw [if_neg hri, hz]
    · have hiL : i = L := by omega
      have hiI : ¬ (i : Int) < (L : Int) := by omega
      rw [hiL] at Hov
      clear hiL
      by_cases hk2 : k = 2
      · have hkI : ((k : Int) == 2) = true := by simp; omega
        have hj : jk k (jn f n) = odF (jn f n) := by unfold jk; rw [if_pos hk2]
        have Hj := hid hj
        clear hk2 hj
        have hil : i = L := by omega
        subst hil
        go_wp2_with (first
          | (with_reducible refine wpl_sl1 rfl 59 _ _ rfl ad n cp rfl .i64 _ rfl 0 rfl 22 Tryz.underlying59 hn0 iSS ?_)
          | (with_reducible refine wpl_val rfl _ (exec_lds 22 _ rfl (ad.add 0) rfl 5 Tryz.underlying22 _ hc0) ?_)
          | (go_at_call 31; refine (rodd_any A' i c' (jn f n) _ hL (Hjl.out n Hb.out) Hov.out.reads).mono ?_; rintro e w2 ⟨v2, rfl, ho2, hB2⟩; obtain ⟨A2, c2, rfl, hc2, -⟩ := ho2.slice'))
        go_ret
        exact ⟨_, rfl, by rw [Hj.out]; exact own_base ho2 HB.out.size, HB.out.trans (hB2.mono HB.out.size)⟩
      · have hkI : ((k : Int) == 2) = false := by simp; omega
        have hj : jk k (jn f n) = jn f n := by unfold jk; rw [if_neg hk2]
        have Hj := hid hj
        clear hk2 hj
        have hil : i = L := by omega
        subst hil
        go_wp2_with (first
          | (with_reducible refine wpl_sl1 rfl 59 _ _ rfl ad n cp rfl .i64 _ rfl 0 rfl 22 Tryz.underlying59 hn0 iSS ?_)
          | (with_reducible refine wpl_val rfl _ (exec_lds 22 _ rfl (ad.add 0) rfl 5 Tryz.underlying22 _ hc0) ?_))
        go_ret
        exact ⟨_, rfl, by rw [Hj.out]; exact Hov.out, HB.out⟩
end Go.Proofs.YtaeleohjikheiaaGreatDoor.Pt
