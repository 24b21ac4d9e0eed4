/-
  The chapter's example, reckoned.
-/
import Derived.Test.YtknjboflkclglaaDoorDesMath
namespace Go.Proofs.YtknjboflkclglaaDoor.Des
def exK (i : Nat) : Nat := [19, 52, 87, 121, 155, 188, 223, 241].getD i 0
def exB (i : Nat) : Nat := [1, 35, 69, 103, 137, 171, 205, 239].getD i 0
def exC (i : Nat) : Nat := [133, 232, 19, 84, 15, 10, 180, 5].getD i 0
def exR : List Nat := [29699430183026, 133791886330341, 94543139753881, 126090959598877, 137353186988968, 109561366215471, 260054766196924, 272173063289851, 247235160696705, 195658438559311, 36695460205446, 129132311898089, 166875887221313, 104744453596986, 210631860764426, 223465186400245]
def exS : List (Nat × Nat) := [(3422604543, 4037734570), (4037734570, 4014630212), (4014630212, 3422648073), (3422648073, 2723941364), (2723941364, 1998716997), (1998716997, 2320475703), (2320475703, 3915894121), (3915894121, 105560592), (105560592, 3580447632), (3580447632, 612157050), (612157050, 3084244914), (3084244914, 3312991352), (3312991352, 1975326808), (1975326808, 415438170), (415438170, 3263993357), (3263993357, 1128411700), (1128411700, 172808597)]
theorem exKn : num exK 8 = 1383827165325090801 := by decide +kernel
theorem exBn : pk ip 64 (num exB 8) 64 = 14699974583363760298 := by decide +kernel
theorem exR_ok : ∀ r, r < 16 → rounds 1383827165325090801 r = exR.getD r 0 := by decide +kernel
theorem exS_ok : ∀ r, r < 16 → exS.getD (r + 1) (0, 0) = ((exS.getD r (0, 0)).2, (exS.getD r (0, 0)).1 ^^^ ff (exS.getD r (0, 0)).2 (exR.getD r 0)) := by decide +kernel
theorem exF : ∀ r, r ≤ 16 → fe (fun r => exR.getD r 0) 3422604543 4037734570 r = exS.getD r (0, 0) := by
  intro r
  induction r with
  | zero => intro _; rfl
  | succ r ih => intro h; rw [fe, ih (by omega), exS_ok r (by omega)]
theorem exE : ∀ i, i < 8 → byt (fin (exS.getD 16 (0, 0))) i = exC i := by decide +kernel
theorem ex_des (i : Nat) (hi : i < 8) : des exK exB false i = exC i := by
  have hk : ∀ j, j < 16 → kk exK false j = (fun r => exR.getD r 0) j := fun j hj => by
    show rounds (num exK 8) j = _
    rw [exKn]; exact exR_ok j hj
  rw [← exE i hi, ← exF 16 (by omega)]
  show byt (blk (kk exK false) (num exB 8)) i = _
  rw [blk_ext _ hk]
  unfold blk
  rw [exBn]
theorem exK_by : By8 exK := by
  have : ∀ i, i < 8 → exK i < 256 := by decide
  exact this
theorem exB_by : By8 exB := by
  have : ∀ i, i < 8 → exB i < 256 := by decide
  exact this
theorem ex_tdes (i : Nat) (hi : i < 8) : tdes 8 exK exB false i = exC i := by
  rw [tdes_one (k := exK) (fun j _ i _ => by unfold tkey; rw [if_pos rfl]) exB_by]
  exact ex_des i hi
end Go.Proofs.YtknjboflkclglaaDoor.Des
