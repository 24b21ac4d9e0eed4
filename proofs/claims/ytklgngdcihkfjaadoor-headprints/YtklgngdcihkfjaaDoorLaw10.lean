/-
 Heads held against each other; lockboxlaw10's own example.
-/
import Derived.Test.YtklgngdcihkfjaaDoorHd5
import Derived.Test.YtklgngdcihkfjaaDoorHd9
namespace Go.Proofs.YtklgngdcihkfjaaDoor.Hd
open Mem As Go.ChangeShapes Go.WideShapes Go.ChangeAt Go.RowKit
def hdEq (a b : Hd) : Bool := a.v == b.v && (sameS a.n a.f b.n b.f && (a.a == b.a && (a.k == b.k && (sameS a.m a.g b.m b.g && a.x == b.x))))
theorem natInt_beq (a b : Nat) : ((a : Int) == (b : Int)) = (a == b) := by
 rw [Bool.eq_iff_iff]
 simp only [beq_iff_eq]
 omega
set_option linter.unusedSimpArgs false in
set_option maxRecDepth 100000 in
theorem run_eqH (a b : Hd) (oka : a.Ok) (okb : b.Ok) (w : World) : (Op.equalIn 10000 23 (.agg (hdC a)) (.agg (hdC b))).run Tryd.prog w = .ok (hdEq a b) w := by
 rw [run_equalIn_agg w 9999 23 _ _ (by kernel_rfl) (by kernel_rfl)]
 have hf : ∀ (d : Nat) (x y : Array Value), Op.eqFields d x y (Tryd.prog.fieldsOf 23).toList = Op.eqFields d x y (Tryd.prog.fieldsOf 23).toList := fun _ _ _ => rfl
 have e1 := natInt_beq a.v b.v
 have e2 := natInt_beq a.a b.a
 have e3 := natInt_beq a.k b.k
 have e4 := natInt_beq a.x b.x
 have e5 := strF_eq (n := a.n) (m := b.n) (f := a.f) (g := b.f) (fun i _ => oka.f i) (fun i _ => okb.f i)
 have e6 := strF_eq (n := a.m) (m := b.m) (f := a.g) (g := b.g) (fun i _ => oka.g i) (fun i _ => okb.g i)
 unfold hdC hdEq sameS
 go_simp
 clear e1 e2 e3 e4 e5 e6 hf
 by_cases h1 : a.v = b.v
 ·by_cases h2 : a.n = b.n
  ·cases h3 : eqB a.n a.f b.f
   ·simp [h1, h2, h3]
   by_cases h4 : a.a = b.a
   ·by_cases h5 : a.k = b.k
    ·by_cases h6 : a.m = b.m
     ·cases h7 : eqB a.m a.g b.g
      ·simp [h1, h2, h4, h5, h6, h7]
      by_cases h8 : a.x = b.x <;> simp_all
     simp [h1, h2, h3, h4, h5, h6]
    simp [h1, h2, h3, h4, h5]
   simp [h1, h2, h3, h4]
  simp [h1, h2]
 simp [h1]
theorem eqGuardH : Tryd.prog.eqGuardType Tryd.prog.depth 23 = false := by kernel_rfl
section
variable {o : Oper} {a : Act} {w : World}
theorem exec_eqH (x y : Operand) (rt : TypeId) (ho : o.op = .binOp .eql 23 x y rt) (h k : Hd) (hx : a.eval x = .agg (hdC h)) (hy : a.eval y = .agg (hdC k)) (okh : h.Ok) (okk : k.Ok) (b : Bool) (hb : hdEq h k = b) : (execOp a.eval o).run Tryd.prog w = .ok (.value (.bool b)) w := by
 subst hb
 unfold execOp
 simp only [ho, hx, hy, Sem.run_bind, run_eqGuard_agg w .eql 23 x y _ _ eqGuardH, run_eql_struct, run_eqH h k okh okk, Sem.run_pure, Result.andThen_ok]
theorem exec_neH (x y : Operand) (rt : TypeId) (ho : o.op = .binOp .neq 23 x y rt) (h k : Hd) (hx : a.eval x = .agg (hdC h)) (hy : a.eval y = .agg (hdC k)) (okh : h.Ok) (okk : k.Ok) (b : Bool) (hb : (!hdEq h k) = b) : (execOp a.eval o).run Tryd.prog w = .ok (.value (.bool b)) w := by
 subst hb
 unfold execOp
 simp only [ho, hx, hy, Sem.run_bind, run_eqGuard_agg w .neq 23 x y _ _ eqGuardH, run_neq_struct, run_eqH h k okh okk, Sem.run_pure, Result.andThen_ok]
end
def noH : Hd := ⟨0, 0, fun _ => 0, 0, 0, 0, fun _ => 0, 0⟩
theorem noH_ok : noH.Ok := ⟨by decide, fun _ => Nat.zero_lt_succ _, by decide, by decide, fun _ => Nat.zero_lt_succ _, by decide⟩
theorem noHd_eq : noHd = hdC noH := rfl
theorem hdEq_refl (h : Hd) : hdEq h h = true := by
 unfold hdEq sameS
 simp [eqB_true (fun i _ => rfl)]
def exF : Nat → Nat := fun i => ([66, 48, 48, 49, 54, 80, 48, 84, 69, 48, 48, 69, 48, 48, 48, 48] : List Nat).getD i 0
theorem exF_lt : ∀ i, exF i < 256 := fun i => by
 by_cases h : i < 16
 ·exact (show ∀ i, i < 16 → exF i < 256 by decide) i h
 unfold exF
 rw [List.getD_eq_getElem?_getD, List.getElem?_eq_none (by simp; omega)]
 decide
def exS : ByteArray := ⟨#[66, 48, 48, 49, 54, 80, 48, 84, 69, 48, 48, 69, 48, 48, 48, 48]⟩
theorem exS_eq : strF 16 exF = exS := by kernel_rfl
def exC : Array Value := #[.int .u8 66, .string ⟨#[80, 48]⟩, .int .u8 84, .int .u8 69, .string ⟨#[48, 48]⟩, .int .u8 69]
theorem exC_eq : hdC (cutH exF) = exC := by kernel_rfl
theorem oneX : exC.all (·.oneCell') = true := by kernel_rfl
theorem sizeX : (Tryd.prog.info? 23).map (·.size) = some exC.size := iHead
theorem holdX : noHd.size = exC.size := rfl
theorem ex_par : parZ exF = -1 := by kernel_rfl
theorem ex_len : (lenZ fun i => exF (1 + i)) = 16 := by kernel_rfl
theorem ex_wrong : wrong (cutH exF) = -1 := by kernel_rfl
theorem ex_pr : strF 16 (prF (cutH exF) 16) = exS := by kernel_rfl
theorem ex_parse (w : World) (hg : Laid w) : Calls Tryd.prog 15 #[.string ⟨#[66, 48, 48, 49, 54, 80, 48, 84, 69, 48, 48, 69, 48, 48, 48, 48]⟩] w fun e w' => e = .returned (.tuple #[.agg exC, .int .i64 16, .nilIface]) ∧ Below w.heap.size w w' := by
 have h := parse_any 16 exF exF_lt (by omega) (by omega) w hg
 rw [exS_eq] at h
 unfold exS at h
 refine h.mono fun e w' ⟨hB, h2⟩ => ⟨?_, hB⟩
 rcases h2 with ⟨-, h2⟩ | ⟨h2, -⟩
 ·rw [h2, exC_eq, ex_len]
 rw [ex_par] at h2
 omega
theorem ex_print (w : World) (hT : Tab w) : Calls Tryd.prog 9 #[.agg exC, .int .i64 16] w fun e w' => e = .returned (.tuple #[.string ⟨#[66, 48, 48, 49, 54, 80, 48, 84, 69, 48, 48, 69, 48, 48, 48, 48]⟩, .nilIface]) ∧ Below w.heap.size w w' := by
 have h := print_ok (cutH exF) (cutH_ok exF_lt) ex_wrong 16 (by omega) (by omega) w hT
 rw [exC_eq, ex_pr] at h
 exact h
theorem ex_fits (w : World) : Calls Tryd.prog 17 #[.agg exC, .string ⟨#[80, 48]⟩, .int .u8 69] w fun e w' => e = .returned .nilIface ∧ Below w.heap.size w w' := by
 have h := fits_any (cutH exF) (cutH_ok exF_lt) 2 (fun i => exF (5 + i)) (fun _ => exF_lt _) 69 w
 have hz : fitsZ (cutH exF) 2 (fun i => exF (5 + i)) 69 = -1 := by kernel_rfl
 have hs : strF 2 (fun i => exF (5 + i)) = ⟨#[80, 48]⟩ := by kernel_rfl
 rw [hz, hs, exC_eq] at h
 refine h.mono fun e w' ⟨hB, h2⟩ => ⟨?_, hB⟩
 rcases h2 with ⟨-, h2⟩ | ⟨h2, -⟩
 ·exact h2
 omega
theorem ex_short (w : World) : Calls Tryd.prog 15 #[.string ⟨#[66, 48, 48, 49]⟩] w fun e w' => e = .returned (.tuple #[.agg noHd, .int .i64 0, .iface 44 (.int .i64 2)]) ∧ Below w.heap.size w w' := by
 have h := parse_short 4 exF (by omega) w
 have hs : strF 4 exF = ⟨#[66, 48, 48, 49]⟩ := by kernel_rfl
 rw [hs] at h
 exact h
set_option maxRecDepth 100000 in
theorem awake10_any (w : World) (hg : Laid w) (hT : Tab w) : Calls Tryd.prog 8 #[] w fun e w' => e = .returned (.bool true) ∧ Below w.heap.size w w' := by
 go_enter Tryd.func8, Tryd.ntmps8
 go_wp2_with fail
 refine (ex_parse _ hg).mono ?_
 rintro e w1 ⟨rfl, hB1⟩
 have hg1 := hg.below hB1
 have hT1 := hT.below hB1
 have hb1 := Blk.fresh w1 23 noHd
 have hb2 := hb1.setRow exC
 have hB2 := below_setRow' (hB1.alloc hB1.size (.cells noHd 23)) hB1.size exC
 have hB12 := below_setRow' ((Below.refl w1.heap.size w1).alloc (Nat.le_refl _) (.cells noHd 23)) (Nat.le_refl _) exC
 have Hb1 := hid hb1
 have Hb2 := hid hb2
 have HB2 := hid hB2
 have Hg2 := hid (hg1.below hB12)
 have HT2 := hid (hT1.below hB12)
 clear hb1 hb2 hB2 hB12 hg1 hT1 hB1 hg hT
 go_wp2_with (first
  | (with_reducible refine wpl_alloc rfl 23 rfl _ zHead ?_)
  | (with_reducible refine wpl_storeH rfl 23 _ _ rfl w1.heap.size exC rfl rfl 23 _ Hb1.out sizeX holdX oneX ?_)
  | (with_reducible refine wpl_valw rfl _ (exec_ldcs 23 _ rfl w1.heap.size rfl 23 _ Hb2.out _ Tryd.underlying23 sizeX) ?_))
 refine (ex_print _ HT2.out).mono ?_
 rintro e w2 ⟨rfl, hB2⟩
 obtain ⟨g, hgg⟩ : ∃ g, g = w1.heap.size := ⟨_, rfl⟩
 have hb2 := Hb2.out.below hB2 Hb2.out.lt
 rw [← hgg] at hb2 ⊢
 clear hgg
 have Hb3 := hid hb2
 have Hg3 := hid (Hg2.out.below hB2)
 have HB3 := hid (HB2.out.trans (hB2.mono HB2.out.size))
 clear hb2 hB2 Hb1 Hb2 HB2 Hg2 HT2
 go_wp2_with fail
 refine (ex_short _).mono ?_
 rintro e w3 ⟨rfl, hB3⟩
 have hb4 := Hb3.out.below hB3 Hb3.out.lt
 have hg4 := Hg3.out.below hB3
 have hB4 := HB3.out.trans (hB3.mono HB3.out.size)
 have hn1 := Blk.fresh w3 23 noHd
 have hB5 := below_setRow' ((Below.refl w3.heap.size w3).alloc (Nat.le_refl _) (.cells noHd 23)) (Nat.le_refl _) noHd
 have hb5 := hb4.below hB5 hb4.lt
 have Hn1 := hid hn1
 have Hb5 := hid hb5
 have Hg5 := hid (hg4.below hB5)
 have HB5 := hid (hB4.trans (hB5.mono hB4.size))
 have hc1 := hid ((hb5.cell 1).trans (show exC[1]? = some (.string ⟨#[80, 48]⟩) from rfl))
 have hc2 := hid ((hb5.cell 2).trans (show exC[2]? = some (.int .u8 84) from rfl))
 have hc3 := hid ((hb5.cell 3).trans (show exC[3]? = some (.int .u8 69) from rfl))
 clear hb4 hg4 hB4 hB5 hb5 hn1 hB3 Hb3 Hg3 HB3
 go_wp2_with (first
  | (with_reducible refine wpl_alloc rfl 23 rfl _ zHead ?_)
  | (with_reducible refine wpl_storeH rfl 23 _ _ rfl w3.heap.size noHd rfl rfl 23 _ Hn1.out sizeN rfl oneNo ?_)
  | ((with_reducible refine wpg_val ?_ _ (exec_ldc 9 _ rfl ⟨g, 1, none⟩ rfl _ hc1.out (.inr Tryd.underlying9)) ?_); exact rfl)
  | ((with_reducible refine wpg_val ?_ _ (exec_ldc 5 _ rfl ⟨g, 2, none⟩ rfl _ hc2.out (.inl ⟨_, Tryd.underlying5⟩)) ?_); exact rfl)
  | ((with_reducible refine wpg_val ?_ _ (exec_ldc 5 _ rfl ⟨g, 3, none⟩ rfl _ hc3.out (.inl ⟨_, Tryd.underlying5⟩)) ?_); exact rfl))
 refine (code_hit 2 _ Hg5.out).mono ?_
 rintro e w5 ⟨rfl, hB6⟩
 have Hb6 := hid (Hb5.out.below hB6 Hb5.out.lt)
 have HB6 := hid (HB5.out.trans (hB6.mono HB5.out.size))
 clear hB6 Hb5 Hg5 HB5 hc1 hc2 hc3 Hn1
 go_wp2_with (first
  | ((with_reducible refine wpg_val ?_ _ (exec_ldcs 23 _ rfl g rfl 23 _ Hb6.out _ Tryd.underlying23 sizeX) ?_); exact rfl))
 refine (ex_fits _).mono ?_
 rintro e w6 ⟨rfl, hB7⟩
 have HB7 := hid (HB6.out.trans (hB7.mono HB6.out.size))
 clear hB7
 go_wp2_with fail
 go_ret
 exact ⟨rfl, HB7.out⟩
end Go.Proofs.YtklgngdcihkfjaaDoor.Hd
