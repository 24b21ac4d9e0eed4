/-
 What lockboxref02.Same returns: whether two byte slices read alike.
-/
import Derived.Test.YtlmacfmfmjhidaaGreatDoorMemX
namespace Go.Proofs.YtlmacfmfmjhidaaGreatDoor.Mem
open Go.ChangeShapes Go.WideShapes Go.ChangeAt Go.RowKit
theorem i8m:(Tryz.prog.info? 5).map (·.size)=some 1:=by kernel_rfl
set_option maxRecDepth 100000 in
set_option maxHeartbeats 2000000 in
theorem same_yes (A A':Option Addr) (n c c':Nat) (f:Nat→Nat) (w:World) (hn:n≤100000) (hR:Reads w w.heap.size A n f) (hR':Reads w w.heap.size A' n f):
  Calls Tryz.prog 17 #[.slice A n c, .slice A' n c'] w fun e w'=>e= .returned (.bool true)∧Below w.heap.size w w':=by
 have HR:=hid hR
 have HR':=hid hR'
 clear hR hR'
 go_enter Tryz.func17,Tryz.ntmps17
 go_wp2_with fail
 go_loopw [5] (fun i wr=> ∃k:Nat,k≤n∧i= .int .i64 k∧Below w.heap.size w wr) (fun i _=>n-(intOf i).toNat)
 case atStart=>exact⟨0,by omega,rfl,Below.refl _ _⟩
 case round=>
  obtain⟨k,hk,rfl,hB⟩:=hrel
  by_cases hlt:k<n
  ·obtain⟨ad,rfl,hbl,hcs⟩:=HR.out (by omega)
   obtain⟨ad',rfl,hbl',hcs'⟩:=HR'.out (by omega)
   have hc:=(hB.cell (p:=ad.add k) (by rw[add_block];exact hbl)).trans (hcs k hlt)
   have hc':=(hB.cell (p:=ad'.add k) (by rw[add_block];exact hbl')).trans (hcs' k hlt)
   clear hcs hcs'
   go_wp2_with fail
   refine wp_region_still_lit (by kernel_rfl) (by kernel_rfl) ?_
   change wpStill _ _ wr.drew _ _ _
   have hd:wr.drew.cell? (ad.add (k*1))=some (.int .u8 ((f k:Nat):Int)):=by rw[Nat.mul_one];exact hc
   have hd':wr.drew.cell? (ad'.add (k*1))=some (.int .u8 ((f k:Nat):Int)):=by rw[Nat.mul_one];exact hc'
   clear hc hc'
   have hB':=hB.drew
   generalize hw2:wr.drew=w2 at*
   repeat (first
    | (with_reducible refine wps_sl rfl 22 _ _ rfl ad n c rfl .i64 _ rfl k rfl 5 Tryz.underlying22 hlt 1 i8m ?_)
    | (with_reducible refine wps_sl rfl 22 _ _ rfl ad' n c' rfl .i64 _ rfl k rfl 5 Tryz.underlying22 hlt 1 i8m ?_)
    | (with_reducible refine wps_ld rfl 5 _ rfl _ rfl .u8 Tryz.underlying5 _ hd ?_)
    | (with_reducible refine wps_ld rfl 5 _ rfl _ rfl .u8 Tryz.underlying5 _ hd' ?_)
    | still_step)
   refine wpStill_nil ?_
   go_wp2_with fail
   go_round
   case rel=>exact⟨k+1,by omega,val_int (by omega),hB'⟩
   case measure=>simp[intOf];omega
  go_wp2_with fail
  go_ret
  exact⟨rfl,hB⟩
end Go.Proofs.YtlmacfmfmjhidaaGreatDoor.Mem
