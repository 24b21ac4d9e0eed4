/-
 Strings as functions: what a string of n bytes reads as; put together, cut, held against each other; a string's operations.
-/
import Derived.Test.YtlmacfmfmjhidaaGreatDoorConv
import Derived.Test.YtlmacfmfmjhidaaGreatDoorMemX
import Derived.Laws.BytesArg
import Derived.Laws.Strings
import Derived.Laws.Concat
import Derived.Laws.Strings2
import Derived.Laws.IdiomStrings
namespace Go.Proofs.YtlmacfmfmjhidaaGreatDoor.Mem
open Go.ChangeShapes Go.WideShapes Go.ChangeAt Go.RowKit
theorem strF_mk (n:Nat) (f:Nat→Nat):strF n f=⟨((List.range n).map fun i=>UInt8.ofNat (f i)).toArray⟩:=by
 unfold strF
 rw[foldl_push_bytes,List.map_map]
 show ByteArray.mk (#[]++_)=_
 rw[Array.empty_append]
 rfl
theorem strF_toList (n:Nat) (f:Nat→Nat):(strF n f).toList=(List.range n).map fun i=>UInt8.ofNat (f i):=by
 rw[strF_mk,ByteArray.toList_mk]
theorem strF_of (s:ByteArray): ∃f:Nat→Nat,(∀i,f i<256)∧s=strF s.size f:=by
 refine⟨fun i=>(s.data[i]?.getD 0).toNat,fun i=>UInt8.toNat_lt _,?_⟩
 rw[strF_mk]
 have h:((List.range s.size).map fun i=>UInt8.ofNat ((s.data[i]?.getD 0).toNat)).toArray=s.data:=by
  apply Array.ext
  ·simp only[List.size_toArray,List.length_map,List.length_range]
   rfl
  intro i h1 h2
  simp only[List.getElem_toArray,List.getElem_map,List.getElem_range,Array.getElem?_eq_getElem h2,Option.getD_some,UInt8.ofNat_toNat]
 rw[h]
theorem byteAt_strF {n:Nat}{f:Nat→Nat}{k:Nat} (hk:k<n) (hf:f k<256):byteAt (strF n f) k=some (f k):=by
 unfold byteAt
 rw[strF_mk]
 have h:(⟨((List.range n).map fun i=>UInt8.ofNat (f i)).toArray⟩:ByteArray).data[k]? =some (UInt8.ofNat (f k)):=by
  simp[hk]
 rw[h]
 simp[UInt8.toNat_ofNat',Nat.mod_eq_of_lt hf]
theorem strF_cat (n m:Nat) (f g:Nat→Nat):strF n f++strF m g=strF (n+m) (cat n f g):=by
 rw[strF_mk,strF_mk,strF_mk,ByteArray.mk_append_mk]
 congr 1
 congr 1
 rw[List.range_add,List.map_append,List.map_map]
 congr 1
 ·apply List.map_congr_left
  intro i hi
  have:=List.mem_range.1 hi
  unfold cat
  rw[if_pos this]
 apply List.map_congr_left
 intro i hi
 show UInt8.ofNat (g i)=UInt8.ofNat (cat n f g (n+i))
 unfold cat
 rw[if_neg (by omega),show n+i-n=i by omega]
theorem strF_cut {n:Nat}{f:Nat→Nat}{a b:Nat} (hab:a≤b) (hb:b≤n):(strF n f).extract a b=strF (b-a) (fun i=>f (a+i)):=by
 rw[strF_mk,strF_mk,ByteArray.extract_mk]
 congr 1
 congr 1
 apply List.ext_getElem?
 intro i
 by_cases hi:i<b-a
 ·simp[hi,show a+i<n by omega]
 simp[hi]
 omega
theorem strF_eq {n m:Nat}{f g:Nat→Nat} (hf: ∀i,i<n→f i<256) (hg: ∀i,i<m→g i<256):((strF n f).toList == (strF m g).toList)=(decide (n=m) && eqB n f g):=by
 rw[strF_toList,strF_toList,Bool.eq_iff_iff]
 simp only[beq_iff_eq,Bool.and_eq_true,decide_eq_true_eq,eqB_iff]
 constructor
 ·intro h
  have hl:n=m:=by have:=congrArg List.length h;simpa using this
  subst hl
  refine⟨rfl,fun i hi=>?_⟩
  have e:=congrArg (fun l=>l[i]?) h
  simp only[List.getElem?_map,List.getElem?_range hi,Option.map_some,Option.some.injEq] at e
  have e':=congrArg UInt8.toNat e
  simp only[UInt8.toNat_ofNat',Nat.reducePow] at e'
  rw[Nat.mod_eq_of_lt (hf i hi),Nat.mod_eq_of_lt (hg i hi)] at e'
  exact e'
 rintro⟨rfl,h⟩
 apply List.map_congr_left
 intro i hi
 rw[h i (List.mem_range.1 hi)]
section
variable {P:Program}{ops:Array Oper}{rest:List Oper}{o:Oper}{a:Act}{w:World}
theorem exec_cat (t:TypeId) (x y:Operand) (rt:TypeId) (ho:o.op= .binOp .add t x y rt) (n m:Nat) (f g:Nat→Nat) (hx:a.eval x= .string (strF n f)) (hy:a.eval y= .string (strF m g)) (hn:n+m≤1000000):
  (execOp a.eval o).run P w= .ok (.value (.string (strF (n+m) (cat n f g)))) w:=by
 have h:(Op.stringOp .add (strF n f) (strF m g)).run P w= .ok (.string (strF (n+m) (cat n f g))) w:=by
  rw[run_string_add_sum w _ _ (by rw[strF_size,strF_size];omega),strF_cat]
 unfold execOp
 simp only[ho,hx,hy,Sem.run_bind,binOp_string_add]
 simp[eqGuard,h]
theorem exec_nes (t:TypeId) (x y:Operand) (rt:TypeId) (ho:o.op= .binOp .neq t x y rt) (n m:Nat) (f g:Nat→Nat) (hx:a.eval x= .string (strF n f)) (hy:a.eval y= .string (strF m g)) (hf: ∀i,i<n→f i<256) (hg: ∀i,i<m→g i<256):
  (execOp a.eval o).run P w= .ok (.value (.bool (!(decide (n=m) && eqB n f g)))) w:=by
 unfold execOp
 simp only[ho,hx,hy,Sem.run_bind,binOp_string_neq,strF_eq hf hg]
 simp[eqGuard]
end
end Go.Proofs.YtlmacfmfmjhidaaGreatDoor.Mem
