/-
  DES with a key of zeros, of a block of zeros, reckoned; TDES with sixteen zeros.
-/
import Derived.Test.YtaeleohjikheiaaGreatDoorDesX
namespace Go.Proofs.YtaeleohjikheiaaGreatDoor.Des
def z0 : Nat → Nat := fun _ => 0
def zC (i : Nat) : Nat := [140, 166, 77, 233, 193, 177, 35, 167].getD i 0
def zS3 : List (Nat × Nat) := [(0, 0), (0, 3638090684), (3638090684, 3879398735), (3879398735, 1543138214), (1543138214, 1581638231), (1581638231, 2333703136), (2333703136, 4259940682), (4259940682, 434047836), (434047836, 2423919600), (2423919600, 2283342928), (2283342928, 634474876), (634474876, 4092563838), (4092563838, 2531497746), (2531497746, 1516086090), (1516086090, 93105418), (93105418, 3152678338), (3152678338, 471894012)]
theorem zK_ok : ∀ r, r < 16 → rounds 0 r = 0 := by decide +kernel
theorem zn : num z0 8 = 0 := by decide +kernel
theorem zp : pk ip 64 0 64 = 0 := by decide +kernel
theorem zS3_ok : ∀ r, r < 16 → zS3.getD (r + 1) (0, 0) = ((zS3.getD r (0, 0)).2, (zS3.getD r (0, 0)).1 ^^^ ff (zS3.getD r (0, 0)).2 0) := by decide +kernel
theorem zF : ∀ r, r ≤ 16 → fe (fun _ => 0) 0 0 r = zS3.getD r (0, 0) := by
  intro r
  induction r with
  | zero => intro _; rfl
  | succ r ih => intro h; rw [fe, ih (by omega), zS3_ok r (by omega)]
theorem zE : ∀ i, i < 8 → byt (fin (zS3.getD 16 (0, 0))) i = zC i := by decide +kernel
theorem z_des (i : Nat) (hi : i < 8) : des z0 z0 false i = zC i := by
  have hk : ∀ j, j < 16 → kk z0 false j = (fun _ => 0) j := fun j hj => by
    show rounds (num z0 8) j = _
    rw [zn]; exact zK_ok j hj
  rw [← zE i hi, ← zF 16 (by omega)]
  show byt (blk (kk z0 false) (num z0 8)) i = _
  rw [zn, blk_ext _ hk]
  unfold blk
  rw [zp]
theorem z0_by : By8 z0 := fun _ _ => by unfold z0; omega
theorem z_tdes (i : Nat) (hi : i < 8) : tdes 16 z0 z0 false i = zC i := by
  rw [tdes_one (k := z0) (fun j _ i _ => by unfold tkey; rw [if_neg (by omega), if_pos rfl]; rfl) z0_by]
  exact z_des i hi
end Go.Proofs.YtaeleohjikheiaaGreatDoor.Des
