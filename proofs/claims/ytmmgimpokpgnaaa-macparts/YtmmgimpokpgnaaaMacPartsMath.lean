/-
  For MacParts: what its codes are of one block; the operations of its regions.
-/
import Derived.Test.YtmmgimpokpgnaaaAwake07
import Derived.Deep.RegionHeld3
namespace Go.Proofs.Ytmmgimpokpgnaaa.Mc.Parts
open Mem Bk Md Mc Go.ChangeShapes Go.WideShapes Go.ChangeAt Go.RowKit
section
variable {key t : Nat → Nat} {Lk : Nat}
theorem xr_zf (f : Nat → Nat) : xr f zf = f := by funext i; unfold xr zf; exact Nat.xor_zero _
/-- what a whole block is turned by -/
def k1 (Lk : Nat) (key : Nat → Nat) : Nat → Nat := dbl 8 (tc 2 Lk key false zf)
theorem wh8 : wh 8 8 := ⟨by omega, by omega⟩
theorem nwh {n : Nat} (hn : n < 8) : ¬ wh 8 n := fun h => by have h1 := h.1; have h2 := h.2; omega
theorem cmac_blk (hf : fits 2 Lk) : Eqn 8 (cmacF 2 Lk key 8 t) (tc 2 Lk key false (xr t (k1 Lk key))) := by
  unfold cmacF
  rw [sz2, show mtB 8 8 = 0 + 1 from rfl, ah_next, ah_zero, xr_zf]
  refine tc_ext hf (by omega) fun i hi => ?_
  rw [sz2] at hi
  unfold bl mtF
  rw [if_pos wh8]
  unfold cat
  rw [sz2, if_neg (by omega), show 0 * 8 + i - (8 - 8) = i by omega]
  unfold xr k1
  dsimp only
  rw [show 8 - 8 + i = i by omega]
theorem pad8 {n : Nat} (hn : n < 8) : padN n 8 = 8 := by unfold padN; omega
theorem cmac_cut {n : Nat} (hn : n < 8) (hf : fits 2 Lk) : Eqn 8 (cmacF 2 Lk key n t) (tc 2 Lk key false (xr (padF n t) (dbl 8 (k1 Lk key)))) := by
  unfold cmacF
  have hb : mtB 8 n = 0 + 1 := by unfold mtB; rw [if_neg (nwh hn)]; omega
  rw [sz2, hb, ah_next, ah_zero, xr_zf]
  refine tc_ext hf (by omega) fun i hi => ?_
  rw [sz2] at hi
  unfold bl mtF
  rw [if_neg (nwh hn), pad8 hn]
  unfold cat
  rw [sz2, if_neg (by omega), show 0 * 8 + i - (8 - 8) = i by omega]
  unfold xr k1
  dsimp only
  rw [show 8 - 8 + i = i by omega]
theorem ret_cut {n : Nat} (hn : n < 8) : Eqn 8 (retF key n t) (tc 2 8 key false (tc 2 8 (fun i => key (8 + i)) true (tc 2 8 key false (padF n t)))) := by
  unfold retF
  have hb : n / 8 + 1 = 0 + 1 := by omega
  rw [hb, ah_next, ah_zero, xr_zf]
  refine tc_ext fits8 (by omega) (tc_ext fits8 (by omega) (tc_ext fits8 (by omega) fun i hi => ?_))
  unfold bl
  rw [Nat.zero_mul, Nat.zero_add]
end
theorem eqB_congr {n : Nat} {f g f' g' : Nat → Nat} (h : Eqn n f f') (h' : Eqn n g g') : eqB n f g = eqB n f' g' := by
  rw [Bool.eq_iff_iff, eqB_iff, eqB_iff]
  exact ⟨fun q i hi => (h i hi).symm.trans ((q i hi).trans (h' i hi)), fun q i hi => (h i hi).trans ((q i hi).trans (h' i hi).symm)⟩
/-- enciphered blocks are alike just if the blocks are -/
theorem eqB_tc {Lk : Nat} {key x y : Nat → Nat} {bk : Bool} (hf : fits 2 Lk) (hk : ∀ i, i < Lk → key i < 256) (hx : ∀ i, i < 8 → x i < 256) (hy : ∀ i, i < 8 → y i < 256) : eqB 8 (tc 2 Lk key bk x) (tc 2 Lk key bk y) = eqB 8 x y := by
  rw [Bool.eq_iff_iff, eqB_iff, eqB_iff]
  refine ⟨fun h => ?_, fun h => tc_ext hf (by omega) h⟩
  have h1 : Eqn 8 (tc 2 Lk key (!bk) (tc 2 Lk key bk x)) (tc 2 Lk key (!bk) (tc 2 Lk key bk y)) := tc_ext hf (by omega) h
  have h2 : Eqn 8 (tc 2 Lk key (!bk) (tc 2 Lk key bk x)) x := tc_back hf (by omega) hk hx
  have h3 : Eqn 8 (tc 2 Lk key (!bk) (tc 2 Lk key bk y)) y := tc_back hf (by omega) hk hy
  exact fun i hi => (h2 i hi).symm.trans ((h1 i hi).trans (h3 i hi))
theorem xor_inj {a b c : Nat} (h : a ^^^ c = b ^^^ c) : a = b := by
  have := congrArg (· ^^^ c) h
  simpa [Nat.xor_assoc] using this
theorem eqB_xr {n : Nat} {f g k : Nat → Nat} : eqB n (xr f k) (xr g k) = eqB n f g := by
  rw [Bool.eq_iff_iff, eqB_iff, eqB_iff]
  exact ⟨fun h i hi => xor_inj (h i hi), fun h i hi => by unfold xr; rw [h i hi]⟩
theorem eqB_pad {n : Nat} {f g : Nat → Nat} (hn : n < 8) : eqB 8 (padF n f) (padF n g) = eqB n f g := by
  rw [Bool.eq_iff_iff, eqB_iff, eqB_iff]
  refine ⟨fun h i hi => ?_, fun h i hi => ?_⟩
  · have := h i (by omega)
    unfold padF at this
    rwa [if_pos hi, if_pos hi] at this
  · unfold padF
    by_cases h1 : i < n
    · rw [if_pos h1, if_pos h1, h i h1]
    · rw [if_neg h1, if_neg h1]
section
variable {Lk n : Nat} {key a b : Nat → Nat}
theorem tz_lt (hf : fits 2 Lk) (hk : ∀ i, i < Lk → key i < 256) : ∀ i, i < 8 → tc 2 Lk key false zf i < 256 := tc_lt (by omega) hf hk (zf_lt _)
theorem k1_lt (hf : fits 2 Lk) (hk : ∀ i, i < Lk → key i < 256) : ∀ i, i < 8 → k1 Lk key i < 256 := dbl_lt (tz_lt hf hk)
theorem same_whole (hf : fits 2 Lk) (hk : ∀ i, i < Lk → key i < 256) (ha : ∀ i, i < 8 → a i < 256) (hb : ∀ i, i < 8 → b i < 256) : eqB 8 (cmacF 2 Lk key 8 a) (cmacF 2 Lk key 8 b) = eqB 8 a b := by
  rw [eqB_congr (cmac_blk hf) (cmac_blk hf), eqB_tc hf hk (fun i hi => xr_lt (ha i hi) (k1_lt hf hk i hi)) (fun i hi => xr_lt (hb i hi) (k1_lt hf hk i hi)), eqB_xr]
theorem same_cut (hn : n < 8) (hf : fits 2 Lk) (hk : ∀ i, i < Lk → key i < 256) (ha : ∀ i, i < n → a i < 256) (hb : ∀ i, i < n → b i < 256) : eqB 8 (cmacF 2 Lk key n a) (cmacF 2 Lk key n b) = eqB n a b := by
  rw [eqB_congr (cmac_cut hn hf) (cmac_cut hn hf), eqB_tc hf hk (fun i hi => xr_lt (padF_lt ha i) (dbl_lt (k1_lt hf hk) i hi)) (fun i hi => xr_lt (padF_lt hb i) (dbl_lt (k1_lt hf hk) i hi)), eqB_xr, eqB_pad hn]
theorem other_end (hn : n < 8) (hf : fits 2 Lk) (hk : ∀ i, i < Lk → key i < 256) (ha : ∀ i, i < n → a i < 256) (hz : eqB 8 (tc 2 Lk key false zf) zf = false) : eqB 8 (cmacF 2 Lk key 8 (padF n a)) (cmacF 2 Lk key n a) = false := by
  rw [eqB_congr (cmac_blk hf) (cmac_cut hn hf), eqB_tc hf hk (fun i hi => xr_lt (padF_lt ha i) (k1_lt hf hk i hi)) (fun i hi => xr_lt (padF_lt ha i) (dbl_lt (k1_lt hf hk) i hi))]
  cases hq : eqB 8 (xr (padF n a) (k1 Lk key)) (xr (padF n a) (dbl 8 (k1 Lk key)))
  · rfl
  · exfalso
    have h := eqB_iff.1 hq
    have h1 : Eqn 8 (k1 Lk key) (dbl 8 (k1 Lk key)) := fun i hi => by
      have := h i hi
      unfold xr at this
      rw [Nat.xor_comm, Nat.xor_comm (padF n a i)] at this
      exact xor_inj this
    have h2 := turns_unlike (tz_lt hf hk) h1
    rw [eqB_true (fun i hi => by rw [h2 i hi]; rfl)] at hz
    cases hz
theorem same_ret (hn : n < 8) (hk : ∀ i, i < 16 → key i < 256) (ha : ∀ i, i < n → a i < 256) (hb : ∀ i, i < n → b i < 256) : eqB 8 (retF key n a) (retF key n b) = eqB n a b := by
  have hk1 : ∀ i, i < 8 → key i < 256 := fun i hi => hk i (by omega)
  have hk2 : ∀ i, i < 8 → key (8 + i) < 256 := fun i hi => hk _ (by omega)
  have h1 : ∀ {f : Nat → Nat}, (∀ i, i < 8 → f i < 256) → ∀ i, i < 8 → tc 2 8 key false f i < 256 := fun hf => tc_lt (by omega) fits8 hk1 hf
  have h2 : ∀ {f : Nat → Nat}, (∀ i, i < 8 → f i < 256) → ∀ i, i < 8 → tc 2 8 (fun i => key (8 + i)) true f i < 256 := fun hf => tc_lt (by omega) fits8 hk2 hf
  have pa : ∀ i, i < 8 → padF n a i < 256 := fun i _ => padF_lt ha i
  have pb : ∀ i, i < 8 → padF n b i < 256 := fun i _ => padF_lt hb i
  rw [eqB_congr (ret_cut hn) (ret_cut hn), eqB_tc fits8 hk1 (h2 (h1 pa)) (h2 (h1 pb)), eqB_tc fits8 hk2 (h1 pa) (h1 pb), eqB_tc fits8 hk1 pa pb, eqB_pad hn]
end
theorem rn2 : rn 2 = 24 := rfl
theorem fits24 : fits 2 24 := rn_fits (k := 2) (.inr (.inl rfl))
theorem cut8 (g : Nat) (w : World) : (Instr.sliceAt 23 (.pointer (some ⟨g, 0, none⟩)) none none none).run Try.prog w = .ok (.slice (some ⟨g, 0, none⟩) 8 8) w := by kernel_rfl
theorem cut_0 (g : Nat) (w : World) : (Instr.sliceAt 23 (.pointer (some ⟨g, 0, none⟩)) none (some (.int .i64 ((0 : Nat) : Int))) none).run Try.prog w = .ok (.slice (some ⟨g, 0, none⟩) 0 8) w := by kernel_rfl
theorem cut_1 (g : Nat) (w : World) : (Instr.sliceAt 23 (.pointer (some ⟨g, 0, none⟩)) none (some (.int .i64 ((1 : Nat) : Int))) none).run Try.prog w = .ok (.slice (some ⟨g, 0, none⟩) 1 8) w := by kernel_rfl
theorem cut_2 (g : Nat) (w : World) : (Instr.sliceAt 23 (.pointer (some ⟨g, 0, none⟩)) none (some (.int .i64 ((2 : Nat) : Int))) none).run Try.prog w = .ok (.slice (some ⟨g, 0, none⟩) 2 8) w := by kernel_rfl
theorem cut_3 (g : Nat) (w : World) : (Instr.sliceAt 23 (.pointer (some ⟨g, 0, none⟩)) none (some (.int .i64 ((3 : Nat) : Int))) none).run Try.prog w = .ok (.slice (some ⟨g, 0, none⟩) 3 8) w := by kernel_rfl
theorem cut_4 (g : Nat) (w : World) : (Instr.sliceAt 23 (.pointer (some ⟨g, 0, none⟩)) none (some (.int .i64 ((4 : Nat) : Int))) none).run Try.prog w = .ok (.slice (some ⟨g, 0, none⟩) 4 8) w := by kernel_rfl
theorem cut_5 (g : Nat) (w : World) : (Instr.sliceAt 23 (.pointer (some ⟨g, 0, none⟩)) none (some (.int .i64 ((5 : Nat) : Int))) none).run Try.prog w = .ok (.slice (some ⟨g, 0, none⟩) 5 8) w := by kernel_rfl
theorem cut_6 (g : Nat) (w : World) : (Instr.sliceAt 23 (.pointer (some ⟨g, 0, none⟩)) none (some (.int .i64 ((6 : Nat) : Int))) none).run Try.prog w = .ok (.slice (some ⟨g, 0, none⟩) 6 8) w := by kernel_rfl
theorem cut_7 (g : Nat) (w : World) : (Instr.sliceAt 23 (.pointer (some ⟨g, 0, none⟩)) none (some (.int .i64 ((7 : Nat) : Int))) none).run Try.prog w = .ok (.slice (some ⟨g, 0, none⟩) 7 8) w := by kernel_rfl
theorem cutN (n : Nat) (hn : n < 8) (g : Nat) (w : World) : (Instr.sliceAt 23 (.pointer (some ⟨g, 0, none⟩)) none (some (.int .i64 (n : Int))) none).run Try.prog w = .ok (.slice (some ⟨g, 0, none⟩) n 8) w := by
  have h : n = 0 ∨ n = 1 ∨ n = 2 ∨ n = 3 ∨ n = 4 ∨ n = 5 ∨ n = 6 ∨ n = 7 := by omega
  rcases h with rfl | rfl | rfl | rfl | rfl | rfl | rfl | rfl
  · exact cut_0 g w
  · exact cut_1 g w
  · exact cut_2 g w
  · exact cut_3 g w
  · exact cut_4 g w
  · exact cut_5 g w
  · exact cut_6 g w
  · exact cut_7 g w
theorem cutS (g : Addr) (n c m : Nat) (h : m ≤ c) (w : World) : (Instr.sliceAt 22 (.slice (some g) n c) none (some (.int .i64 (m : Int))) none).run Try.prog w = .ok (.slice (some g) m c) w := by
  have hu : Try.prog.underlying 22 = some (.slice (Try.prog.elem 22)) := by kernel_rfl
  have he : Try.prog.elem 22 = 5 := by kernel_rfl
  rw [run_sliceAt_slice w 22 _ _ _ _ hu, run_slice_h w 22 _ _ _ hu .i64 (m : Int) (by omega) (by omega), he, run_size i8q]
  simp [Result.andThen, sliced, Addr.add]
theorem part_of (u : Nat) : ∃ n : Nat, n < 8 ∧ (u : Int) % 8 = (n : Int) := ⟨u % 8, by omega, by omega⟩
section
variable {P : Program} {o : Oper} {x : Act} {w : World}
theorem exec_cut (ty : TypeId) (p : Operand) (hi : Operand) (ho : o.op = .slice ty p none (some hi) none) (u z v : Value) (hp : x.eval p = u) (hh : x.eval hi = z) (hr : (Instr.sliceAt ty u none (some z) none).run P w = .ok v w) : (execOp x.eval o).run P w = .ok (.value v) w := by
  subst hp; subst hh
  unfold execOp
  simp [ho, hr]
end
theorem eq_bool (b : Bool) (w : World) : (Op.equal 4 (.bool b) (.bool b)).run Try.prog w = .ok true w := by cases b <;> kernel_rfl
section
variable {o : Oper} {x : Act} {w : World}
theorem exec_neB (rt : TypeId) (p q : Operand) (ho : o.op = .binOp .neq 4 p q rt) (b : Bool) (hp : x.eval p = .bool b) (hq : x.eval q = .bool b) : (execOp x.eval o).run Try.prog w = .ok (.value (.bool false)) w := by
  have h := eq_bool b w
  unfold execOp
  simp [ho, hp, hq, eqGuard, binOp, h]
theorem exec_eqB (rt : TypeId) (p q : Operand) (ho : o.op = .binOp .eql 4 p q rt) (b : Bool) (hp : x.eval p = .bool b) (hq : x.eval q = .bool b) : (execOp x.eval o).run Try.prog w = .ok (.value (.bool true)) w := by
  have h := eq_bool b w
  unfold execOp
  simp [ho, hp, hq, eqGuard, binOp, h]
end
theorem i8a : (Try.prog.info? 23).map (·.size) = some 8 := by kernel_rfl
theorem eqA8 : Try.prog.eqGuardType Try.prog.depth 23 = false := by kernel_rfl
end Go.Proofs.Ytmmgimpokpgnaaa.Mc.Parts
