/-
 Bytes as a string: the conversion of a byte slice.
-/
import Derived.Test.YtlmacfmfmjhidaaGreatDoorMemX
import Derived.Laws.BytesString
namespace Go.Proofs.YtlmacfmfmjhidaaGreatDoor.Mem
open Go.ChangeShapes Go.WideShapes Go.ChangeAt Go.RowKit
def strF (n:Nat) (f:Nat→Nat):ByteArray:=((List.range n).map (fun i=>((f i:Nat):Int))).foldl (fun r n=>r.push (UInt8.ofNat n.toNat)) ByteArray.empty
theorem strF_ext {n:Nat}{f g:Nat→Nat} (h: ∀i,i<n→f i=g i):strF n f=strF n g:=by
 unfold strF
 congr 1
 apply List.map_congr_left
 intro i hi
 rw[h i (List.mem_range.1 hi)]
theorem conv_own {w:World}{base:Nat}{v:Value}{n:Nat}{f:Nat→Nat} (h:Own w base 5 1 v n f):(convert 22 9 v).run Tryz.prog w= .ok (.string (strF n f)) w:=by
 rcases h.form with⟨rfl,rfl⟩ | ⟨g,c,cur,rfl,_,_,_,hb,_,hcs⟩
 ·rw[run_convert_bytes_string w 22 9 5 none 0 0 Tryz.underlying22 Tryz.underlying5 Tryz.underlying9]
  rfl
 rw[run_convert_bytes_string w 22 9 5 _ _ _ Tryz.underlying22 Tryz.underlying5 Tryz.underlying9]
 have hl:=run_loadCells (P:=Tryz.prog) w ⟨g,0,none⟩ n (b8 f) (fun j hj=>by rw[add_zero_off,hb.cell];exact hcs j (by omega))
 rw[run_bytesToString w ⟨g,0,none⟩ n c ((List.range n).map (fun i=>((f i:Nat):Int))) (by rw[hl,List.map_map];rfl)]
 rfl
theorem strF_go (f:Nat→Nat): ∀(n:Nat) (acc:ByteArray),(((List.range n).map (fun i=>((f i:Nat):Int))).foldl (fun r n=>r.push (UInt8.ofNat n.toNat)) acc).size=acc.size+n:=by
 intro n
 induction n with
 | zero=>intro acc;simp
 | succ n ih=>intro acc;rw[List.range_succ,List.map_append,List.foldl_append];simp only[List.map_cons,List.map_nil,List.foldl_cons,List.foldl_nil];rw[ByteArray.size_push,ih];omega
theorem strF_size (n:Nat) (f:Nat→Nat):(strF n f).size=n:=by unfold strF;rw[strF_go];simp
end Go.Proofs.YtlmacfmfmjhidaaGreatDoor.Mem
