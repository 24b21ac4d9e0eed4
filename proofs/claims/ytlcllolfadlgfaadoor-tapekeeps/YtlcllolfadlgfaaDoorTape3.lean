/-
  What Digits of package tape returns.
-/
import Derived.Test.YtlcllolfadlgfaaDoorTape2
import Derived.Laws.BytesString
namespace Go.Proofs.YtlcllolfadlgfaaDoor.Mem
open Go.ChangeShapes Go.WideShapes Go.ChangeAt Go.RowKit
/-- how many of the first k bytes are digits -/
def cntD (f : Nat → Nat) : Nat → Nat
  | 0 => 0
  | k + 1 => if f k < 250 then cntD f k + 1 else cntD f k
/-- the digits of the first k bytes, as characters -/
def digD (f : Nat → Nat) : Nat → Nat → Nat
  | 0 => fun _ => 0
  | k + 1 => if f k < 250 then upd (digD f k) (cntD f k) (48 + f k % 10) else digD f k
theorem cntD_le (f : Nat → Nat) (k : Nat) : cntD f k ≤ k := by
  induction k with
  | zero => simp [cntD]
  | succ k ih => unfold cntD; split <;> omega
theorem cntD_mono (f : Nat → Nat) {j k : Nat} (h : j ≤ k) : cntD f j ≤ cntD f k := by
  induction k with
  | zero => have : j = 0 := by omega
            subst this; exact Nat.le_refl _
  | succ k ih =>
    rcases Nat.lt_or_ge j (k + 1) with h' | h'
    · have := ih (by omega)
      have e : cntD f (k + 1) = if f k < 250 then cntD f k + 1 else cntD f k := rfl
      rw [e]; split <;> omega
    · have : j = k + 1 := by omega
      subst this; exact Nat.le_refl _
theorem cntD_succ (f : Nat → Nat) (k : Nat) : cntD f (k + 1) ≤ cntD f k + 1 := by
  show cntD f (k + 1) ≤ _
  simp only [cntD]; split <;> omega
theorem cntD_ext {f g : Nat → Nat} {n : Nat} (h : ∀ i, i < n → f i = g i) : ∀ k, k ≤ n → cntD f k = cntD g k := by
  intro k hk
  induction k with
  | zero => rfl
  | succ k ih => simp only [cntD]; rw [h k (by omega), ih (by omega)]
theorem digD_ext {f g : Nat → Nat} {n : Nat} (h : ∀ i, i < n → f i = g i) : ∀ k, k ≤ n → digD f k = digD g k := by
  intro k hk
  induction k with
  | zero => rfl
  | succ k ih => simp only [digD]; rw [h k (by omega), ih (by omega), cntD_ext h k (by omega)]
theorem stop_one {f : Nat → Nat} {k k' z : Nat} (h1 : cntD f k = z) (h2 : ∀ j, j < k → cntD f j < z) (h1' : cntD f k' = z) (h2' : ∀ j, j < k' → cntD f j < z) : k = k' := by
  rcases Nat.lt_trichotomy k k' with h | h | h
  · have := h2' k h; omega
  · exact h
  · have := h2 k' h; omega
theorem cat_upd (n : Nat) (f : Nat → Nat) (x : Nat) (i : Nat) (hi : i < n + 1) : cat n f (fun _ => x) i = upd f n x i := by
  unfold cat upd
  by_cases h : i < n
  · rw [if_pos h, if_neg (by omega)]
  · rw [if_neg h, if_pos (by omega)]
/-- these bytes as a string -/
def strF (n : Nat) (f : Nat → Nat) : ByteArray := ((List.range n).map (fun i => ((f i : Nat) : Int))).foldl (fun r n => r.push (UInt8.ofNat n.toNat)) ByteArray.empty
theorem strF_ext {n : Nat} {f g : Nat → Nat} (h : ∀ i, i < n → f i = g i) : strF n f = strF n g := by
  unfold strF
  congr 1
  apply List.map_congr_left
  intro i hi
  rw [h i (List.mem_range.1 hi)]
theorem conv_own {w : World} {base : Nat} {v : Value} {n : Nat} {f : Nat → Nat} (h : Own w base 5 1 v n f) : (convert 22 9 v).run Tryd.prog w = .ok (.string (strF n f)) w := by
  rcases h.form with ⟨rfl, rfl⟩ | ⟨g, c, cur, rfl, _, _, _, hb, _, hcs⟩
  · rw [run_convert_bytes_string w 22 9 5 none 0 0 Tryd.underlying22 Tryd.underlying5 Tryd.underlying9]
    rfl
  · rw [run_convert_bytes_string w 22 9 5 _ _ _ Tryd.underlying22 Tryd.underlying5 Tryd.underlying9]
    have hl := run_loadCells (P := Tryd.prog) w ⟨g, 0, none⟩ n (b8 f) (fun j hj => by rw [add_zero_off, hb.cell]; exact hcs j (by omega))
    rw [run_bytesToString w ⟨g, 0, none⟩ n c ((List.range n).map (fun i => ((f i : Nat) : Int))) (by rw [hl, List.map_map]; rfl)]
    rfl
theorem make_own (w : World) (z : Nat) (hz : z ≤ 1000000) : ∃ w', (Instr.makeSlice 22 (.int .i64 0) (.int .i64 (z : Int))).run Tryd.prog w = .ok (.slice (some ⟨w.heap.size, 0, none⟩) 0 z) w' ∧ (∀ f, Own w' w.heap.size 5 1 (.slice (some ⟨w.heap.size, 0, none⟩) 0 z) 0 f) ∧ Below w.heap.size w w' := by
  obtain ⟨i, hi, hz0, hz1, hz2⟩ := info_parts info8t
  obtain ⟨w', h1, h2, h3⟩ := run_make_own (P := Tryd.prog) w w.heap.size 22 5 i _ 1 Tryd.underlying22 hi hz0 hz1 .i64 .i64 z (by rw [hz2]; omega) (by unfold maxLen; omega) (Nat.le_refl _)
  exact ⟨w', h1, fun f => by simpa [Own] using h2, (Below.refl _ w).grown h3 (Nat.le_refl _) (fun k hk => by cases hk)⟩
theorem one_reads (w : World) (y : Int) (x : Nat) (h : y = (x : Int)) : Reads (w.alloc (.cells #[.int .u8 y] 5)) (w.heap.size + 1) (some ⟨w.heap.size, 0, none⟩) 1 (fun _ => x) := fun _ =>
  ⟨_, rfl, Nat.lt_succ_self _, fun i hi => by
    have : i = 0 := by omega
    subst this h
    exact (Blk.fresh w 5 #[.int .u8 (x : Int)]).cell 0⟩
theorem row1b (x : Nat) : #[Value.int .u8 (x : Int)] = row 1 (b8 fun _ => x) := by
  unfold row b8
  rfl
theorem digits_neg (p : Value) (z : Int) (w : World) (hz : z < 0) : Calls Tryd.prog 21 #[p, .int .i64 z] w fun e w' => e = .returned (.tuple #[.string ⟨#[]⟩, .iface 61 (.int .i64 1)]) ∧ w = w' := by
  go_enter Tryd.func21, Tryd.ntmps21
  go_wp2_with (go_at_call 35; refine (refuse_neg p z _ hz).mono ?_; rintro e w1 ⟨rfl, rfl⟩)
  go_ret2
  exact ⟨rfl, rfl⟩
/-- the digits of bytes d on, or that there are too few -/
def DigOut (g : Nat) (v : Value) (n d : Nat) (z : Int) (f : Nat → Nat) (w : World) (e : Ending) (w' : World) : Prop :=
  (∃ k, k ≤ n - d ∧ (cntD (fun i => f (d + i)) k : Int) = z ∧ (∀ j, j < k → (cntD (fun i => f (d + i)) j : Int) < z) ∧ e = .returned (.tuple #[.string (strF (cntD (fun i => f (d + i)) k) (digD (fun i => f (d + i)) k)), .nilIface]) ∧ Kept g w w' ∧ Blk w' g 65 #[v, .int .i64 ((d + k : Nat) : Int)]) ∨
  ((cntD (fun i => f (d + i)) (n - d) : Int) < z ∧ ∃ k, e = .returned (.tuple #[.string ⟨#[]⟩, .iface 67 (.pointer (some ⟨k, 0, none⟩))]) ∧ Blk w' k 70 #[.int .i64 ((n : Int) - (d : Int)), .iface 61 (.int .i64 13)] ∧ w.heap.size ≤ k ∧ Below w.heap.size w w')
theorem digits_few (g : Nat) (A : Option Addr) (n c d : Nat) (z : Int) (f : Nat → Nat) (w : World) (hb : Blk w g 65 #[.slice A n c, .int .i64 (d : Int)]) (hd : d ≤ n) (hn : n ≤ 1000000) (hz : (n : Int) - (d : Int) < z) :
    Calls Tryd.prog 21 #[.pointer (some ⟨g, 0, none⟩), .int .i64 z] w (DigOut g (.slice A n c) n d z f w) := by
  have Hb := hid hb
  clear hb
  go_enter Tryd.func21, Tryd.ntmps21
  go_wp2_with (go_at_call 35; refine (refuse_few g A n c d z _ Hb.out hd hn hz).mono ?_; rintro e w1 ⟨k, rfl, hk, hks, hB⟩)
  go_ret2
  have := cntD_le (fun i => f (d + i)) (n - d)
  exact .inr ⟨by omega, k, rfl, hk, hks, hB⟩
set_option maxRecDepth 100000 in
set_option maxHeartbeats 1000000 in
theorem digits_any (g base : Nat) (A : Option Addr) (n c d z : Nat) (f : Nat → Nat) (w : World) (hb : Blk w g 65 #[.slice A n c, .int .i64 (d : Int)]) (ho : Own w base 5 1 (.slice A n c) n f) (hd : d + z ≤ n) (hn : n ≤ 100000) (hf : ∀ i, i < n → f i < 256) :
    Calls Tryd.prog 21 #[.pointer (some ⟨g, 0, none⟩), .int .i64 (z : Int)] w (DigOut g (.slice A n c) n d (z : Int) f w) := by
  have HR := hid ho.reads
  have Hb := hid hb
  have Hf := hid hf
  clear ho hb hf
  have HF : Hid (∃ F : Nat → Nat, F = fun i => f (d + i)) := ⟨_, rfl⟩
  obtain ⟨F, hF⟩ := HF.out
  have HF := hid hF
  clear hF
  go_enter Tryd.func21, Tryd.ntmps21
  go_wp2_with (go_at_call 35; refine (refuse_ok g A n c d (z : Int) _ Hb.out (by omega) (by omega) (by omega) (by omega)).mono ?_; rintro e w1 ⟨rfl, hB⟩; obtain ⟨w2, hmk, hom, hB2⟩ := make_own w1 z (by omega); have hb2 := (Hb.out.below hB Hb.out.lt).below hB2 (Nat.lt_of_lt_of_le Hb.out.lt hB.size); have hc1 : w2.cell? ⟨g, 1, none⟩ = some (.int .i64 (d : Int)) := hb2.cell 1)
  have ho2 : Own w2 w.heap.size 5 1 (.slice (some ⟨w1.heap.size, 0, none⟩) 0 z) 0 (digD F 0) := (hom _).more hB.size
  have hB02 : Below w.heap.size w w2 := hB.trans (hB2.mono hB.size)
  clear hmk hom hc1 hb2 hB2 hB
  go_loopw [7, 8] (fun v y wr => ∃ k : Nat, k ≤ n - d ∧ y = .int .i64 ((d : Int) + (k : Int)) ∧ cntD F k ≤ z ∧ Hid (∀ j, j < k → cntD F j < z) ∧ Own wr w.heap.size 5 1 v (cntD F k) (digD F k) ∧ Below w.heap.size w wr) (fun _ y _ => n - (intOf y).toNat)
  case atStart => exact ⟨0, by omega, val_int (by omega), by simp [cntD], hid (fun j hj => by omega), ho2, hB02⟩
  case round =>
    clear ho2 hB02
    obtain ⟨k, hk, rfl, hcz, HJ, hov, hBr⟩ := hrel
    obtain ⟨A', c', rfl, hc', -⟩ := hov.slice'
    have Hov := hid hov
    have hbr := Hb.out.below hBr Hb.out.lt
    have hc0 : wr.cell? ⟨g, 0, none⟩ = some (.slice A n c) := hbr.cell 0
    have hfr := hbr.free 1
    have hc1 : wr.cell? ⟨g, 1, none⟩ = some (.int .i64 (d : Int)) := hbr.cell 1
    have Hbr := hid hbr
    have Hcz := hid hcz
    clear hov hbr hcz
    generalize hm : cntD F k = m at *
    have Hm := hid hm
    clear hm
    by_cases hlt : m < z
    · by_cases hend : d + k = n
      · have hendI : (d : Int) + (k : Int) = (n : Int) := by omega
        go_wp2_with (go_at_call 36; refine (ended_any g A n c d _ Hbr.out (by omega) (by omega)).mono ?_; rintro e w3 ⟨kf, rfl, hkf, hks, hB3⟩)
        go_ret2
        refine .inr ⟨?_, kf, rfl, hkf, Nat.le_trans hBr.size hks, hBr.trans (hB3.mono hBr.size)⟩
        have e : n - d = k := by omega
        rw [← HF.out, e, Hm.out]; omega
      · have hendI : (d : Int) + (k : Int) ≠ (n : Int) := by omega
        obtain ⟨ad, rfl, had, hcs⟩ := HR.out (by omega)
        have hcx : wr.cell? (ad.add (d + k)) = some (.int .u8 ((f (d + k) : Nat) : Int)) := by
          exact (hBr.cell (p := ad.add (d + k)) (by rw [add_block]; exact had)).trans (hcs _ (by omega))
        have hx := Hf.out (d + k) (by omega)
        have hFx := hid (congrFun HF.out k)
        generalize f (d + k) = x at *
        clear hcs
        by_cases hdig : x < 250
        · have hdigI : (x : Int) < 250 := by omega
          have hovA : Own (wr.alloc (.cells #[.int .u8 (48 + (x : Int) % 10)] 5)) w.heap.size 5 1 (.slice A' m c') m (digD F k) := Hov.out.alloc _
          have hRA : Reads (wr.alloc (.cells #[.int .u8 (48 + (x : Int) % 10)] 5)) (wr.heap.size + 1) (some ⟨wr.heap.size, 0, none⟩) 1 (fun _ => 48 + x % 10) := one_reads wr _ _ (by omega)
          have hBa : Below w.heap.size w (wr.alloc (.cells #[.int .u8 (48 + (x : Int) % 10)] 5)) := hBr.alloc hBr.size _
          have HovA := hid hovA
          have HRA := hid hRA
          clear hovA hRA
          go_wp2_with (at_builtin; refine wpl_app_gen rfl _ _ 22 rfl w.heap.size 5 (.int .u8 0) Tryd.underlying22 info8t rfl _ m _ rfl HovA.out (some ⟨wr.heap.size, 0, none⟩) 1 1 _ _ HRA.out (fun h => by cases h) rfl (by omega) (by have := hBa.size; omega) ?_)
          intro v3 w3 ho3 hB3
          go_wp2_with fail
          go_round
          case rel =>
            have e1 : cntD F (k + 1) = m + 1 := by simp only [cntD]; rw [hFx.out, if_pos hdig, Hm.out]
            have e2 : digD F (k + 1) = upd (digD F k) m (48 + x % 10) := by simp only [digD]; rw [hFx.out, if_pos hdig, Hm.out]
            refine ⟨k + 1, by omega, val_int (by omega), by omega, hid (fun j hj => ?_), ?_, hBa.trans hB3⟩
            · rcases Nat.lt_or_ge j k with h | h
              · exact HJ.out j h
              · have : j = k := by omega
                subst this; rw [Hm.out]; exact hlt
            · rw [e1, e2]; exact ho3.ext (fun i hi => cat_upd m _ _ i (by omega))
          case measure => simp [intOf]; omega
        · have hdigI : ¬ (x : Int) < 250 := by omega
          go_wp2_with fail
          go_round
          case rel =>
            have e1 : cntD F (k + 1) = m := by simp only [cntD]; rw [hFx.out, if_neg hdig, Hm.out]
            have e2 : digD F (k + 1) = digD F k := by simp only [digD]; rw [hFx.out, if_neg hdig]
            refine ⟨k + 1, by omega, val_int (by omega), by omega, hid (fun j hj => ?_), ?_, hBr⟩
            · rcases Nat.lt_or_ge j k with h | h
              · exact HJ.out j h
              · have : j = k := by omega
                subst this; rw [Hm.out]; exact hlt
            · rw [e1, e2]; exact Hov.out
          case measure => simp [intOf]; omega
    · have hk2 : Kept g wr (wr.setCell ⟨g, 1, none⟩ (.int .i64 ((d : Int) + (k : Int)))) := (Kept.refl g wr).setCell 1 _
      have hcv := conv_own (hk2.own Hbr.out (by decide) Hov.out)
      have Hk2 := hid hk2
      clear hk2
      go_wp2_with fail
      go_ret2
      have e : (d : Int) + (k : Int) = ((d + k : Nat) : Int) := by omega
      refine .inl ⟨k, hk, ?_, ?_, ?_, (Kept.of hBr).trans Hk2.out, ?_⟩
      · rw [← HF.out, Hm.out]; have := Hcz.out; omega
      · intro j hj; rw [← HF.out]; have := HJ.out j hj; omega
      · rw [← HF.out, Hm.out]; rfl
      · rw [← e]; exact Hbr.out.setCell 1 _
end Go.Proofs.YtlcllolfadlgfaaDoor.Mem
