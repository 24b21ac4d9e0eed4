/-
  The statements of layer 2: what their walks share.
-/
import Derived.Test.YtlcllolfadlgfaaDoorAwake02
namespace Go.Proofs.YtlcllolfadlgfaaDoor.Aes
open Go.ChangeShapes Go.WideShapes Go.ChangeAt Go.RowKit Mem
/-- the block that came in, the short key, all that was there -/
def Lw (w0 cur : World) (hs : Nat) (b : Nat → Nat) (A : Option Addr) (N : Nat) (g : Nat → Nat) : Prop := Blk cur hs 23 (row 16 (b8 b)) ∧ Reads cur cur.heap.size A N g ∧ Below hs w0 cur
section
variable {w0 cur w' : World} {hs N : Nat} {b g : Nat → Nat} {A : Option Addr}
theorem Lw.blk (h : Lw w0 cur hs b A N g) : Blk cur hs 23 (row 16 (b8 b)) := h.1
theorem Lw.reads (h : Lw w0 cur hs b A N g) : Reads cur cur.heap.size A N g := h.2.1
theorem Lw.bel (h : Lw w0 cur hs b A N g) : Below hs w0 cur := h.2.2
theorem Lw.below (h : Lw w0 cur hs b A N g) (hb : Below cur.heap.size cur w') : Lw w0 w' hs b A N g :=
  ⟨h.1.below hb h.1.lt, (h.2.1.below hb).more hb.size, h.2.2.trans (hb.mono (Nat.le_of_lt h.1.lt))⟩
theorem Lw.alloc (h : Lw w0 cur hs b A N g) (o : Obj) : Lw w0 (cur.alloc o) hs b A N g := h.below ((Below.refl _ _).alloc (Nat.le_refl _) o)
end
theorem short' (A : Option Addr) (L c wh : Nat) (z : Int) (hz : z = wh) (f : Nat → Nat) (w : World) (hL2 : L ≤ 100) (hR : Reads w w.heap.size A L f) :
    Calls Tryd.prog 9 #[.slice A L c, .int .u8 z] w (NewBytes (kn L wh) (fun i => f (i % L)) w) := by
  subst hz; exact short_any A L c wh f w hL2 hR
theorem kn_key (L wh : Nat) (hL : 0 < L) (hw : wh < 3) : IsKey (kn L wh) := by
  unfold kn IsKey
  rw [if_neg (by omega)]
  rcases (show wh = 0 ∨ wh = 1 ∨ wh = 2 by omega) with rfl | rfl | rfl <;> simp
def ByN (N : Nat) (g : Nat → Nat) : Prop := ∀ i, i < N → g i < 256
theorem mod_by {f : Nat → Nat} {L : Nat} (hL : 0 < L) (hf : ∀ i, i < L → f i < 256) (N : Nat) : ByN N (fun i => f (i % L)) := fun _ _ => hf _ (Nat.mod_lt _ hL)
theorem exec_eqT {P : Program} {o : Oper} {a : Act} {w : World} (ty : TypeId) (x y : Operand) (rt : TypeId) (ho : o.op = .binOp .eql ty x y rt) (n : Nat) (f g : Nat → Nat) (hx : a.eval x = .agg (row n (b8 f))) (hy : a.eval y = .agg (row n (b8 g))) (r : Bool) (h : eqB n f g = r) (e : TypeId)
    (ht : P.underlying ty = some (.array n e)) (he : P.underlying e = some (.int .u8)) (hs : (P.info? e).map (·.size) = some 1) (hm : P.eqGuardType P.depth ty = false) :
    (execOp a.eval o).run P w = .ok (.value (.bool r)) w := by
  subst h; exact exec_eq ty x y rt ho n f g hx hy e ht he hs hm
theorem eq33 : Tryd.prog.eqGuardType Tryd.prog.depth 23 = false := by kernel_rfl
end Go.Proofs.YtlcllolfadlgfaaDoor.Aes
