/-
 BookMath BMap
-/
import Derived.Test.YtlmacfmfmjhidaaGreatDoorMemX
import Derived.Test.YtlmacfmfmjhidaaGreatDoorTapeX
import Derived.DeepKeys4
import Derived.Maps.OwnSet
namespace Go.Proofs.YtlmacfmfmjhidaaGreatDoor.Bk
open Mem
structure Rw where
 k:ByteArray
 x:Nat→Nat
 y:Nat→Nat
def fr (bk:Bool) (r:Rw):Nat→Nat:=if bk then r.y else r.x
def mk (bk:Bool) (s:ByteArray) (a b:Nat→Nat):Rw:=if bk then⟨s,b,a⟩ else⟨s,a,b⟩
theorem eqB_symm {n:Nat}{f g:Nat→Nat} (h:eqB n f g=true):eqB n g f=true:=eqB_true fun i hi=>(eqB_iff.1 h i hi).symm
theorem eqB_trans {n:Nat}{f g h:Nat→Nat} (a:eqB n f g=true) (b:eqB n g h=true):eqB n f h=true:=eqB_true fun i hi=>(eqB_iff.1 a i hi).trans (eqB_iff.1 b i hi)
theorem eqB_bool {n m:Nat}{f g p q:Nat→Nat} (h:eqB n f g=true↔eqB m p q=true):eqB n f g=eqB m p q:=by
 cases h1:eqB n f g<;>cases h2:eqB m p q<;>simp_all
def hitR (bk:Bool) (s:ByteArray) (f:Nat→Nat) (r:Rw):Bool:=decide (r.k=s) && eqB 16 (fr bk r) f
theorem hitR_iff {bk:Bool}{s:ByteArray}{f:Nat→Nat}{r:Rw}:hitR bk s f r=true↔r.k=s∧eqB 16 (fr bk r) f=true:=by simp[hitR]
def hit (bk:Bool) (L:List Rw) (s:ByteArray) (f:Nat→Nat):Bool:=L.any (hitR bk s f)
def drawTo (F:Nat→Nat) (n:Nat) (tk:(Nat→Nat)→Bool) (d:Nat):Bool×Nat:=
 if d+16≤n then(if tk (fun i=>F (d+i)) then drawTo F n tk (d+16) else(true,d)) else(false,d)
termination_by n-d
def askL (F:Nat→Nat) (n:Nat) (s:ByteArray) (L:List Rw) (d:Nat) (bk:Bool) (x:Nat→Nat):Option (Nat→Nat)×List Rw×Nat:=
 match L.find? (hitR bk s x) with
 | some r=>(some (fr (!bk) r),L,d)
 | none=>match drawTo F n (hit (!bk) L s) d with
  | (true,e)=>(some (fun i=>F (e+i)),L++ [mk bk s x (fun i=>F (e+i))],e+16)
  | (false,e)=>(none,L,e)
def Good (r:Rw):Prop:=r.k.size≤32∧(∀i,i<16→r.x i<256)∧∀i,i<16→r.y i<256
theorem Good.fr {r:Rw} (h:Good r) (bk:Bool): ∀i,i<16→fr bk r i<256:=by cases bk;exact h.2.1;exact h.2.2
def Uniq (L:List Rw):Prop:=L.Pairwise fun r r'=>r.k=r'.k→∀bk,eqB 16 (fr bk r) (fr bk r')=false
theorem Uniq.one {L:List Rw} (h:Uniq L){bk:Bool}{s:ByteArray}{f:Nat→Nat}{r r':Rw} (hr:r∈L) (hr':r'∈L) (h1:hitR bk s f r=true) (h2:hitR bk s f r'=true):r=r':=by
 obtain⟨k1,e1⟩:=hitR_iff.1 h1
 obtain⟨k2,e2⟩:=hitR_iff.1 h2
 have e12:=eqB_trans e1 (eqB_symm e2)
 obtain⟨i,hi,rfl⟩:=List.getElem_of_mem hr
 obtain⟨j,hj,rfl⟩:=List.getElem_of_mem hr'
 have hp:=List.pairwise_iff_getElem.1 h
 rcases Nat.lt_trichotomy i j with hij | hij | hij
 ·have:=hp i j hi hj hij (k1.trans k2.symm) bk
  rw[e12] at this;cases this
 ·subst hij;rfl
 have:=hp j i hj hi hij (k2.trans k1.symm) bk
 rw[eqB_symm e12] at this;cases this
section
variable {F:Nat→Nat}{n:Nat}{s:ByteArray}{L:List Rw}{d:Nat}{bk:Bool}{x:Nat→Nat}
structure Inv (F:Nat→Nat) (n:Nat) (L:List Rw) (d:Nat):Prop where
 hd:d≤n
 hn:n≤65536
 hF: ∀i,i<n→F i<256
 rows:16*L.length≤d
 good: ∀r∈L,Good r
 uniq:Uniq L
end
end Go.Proofs.YtlmacfmfmjhidaaGreatDoor.Bk
namespace Go.Proofs.YtlmacfmfmjhidaaGreatDoor.Bk
open Mem Go.ChangeShapes Go.WideShapes Go.ChangeAt Go.RowKit Go.MapKept
open Go.ChangeMaps (setBlock heap_setBlock_same heap_setBlock_other)
open Go.Maps (Keyed)
def sv (s:ByteArray) (f:Nat→Nat):Nat→Value:=fun i=>if i=0 then .string s else b8 f (i-1)
def sideC (s:ByteArray) (f:Nat→Nat):Array Value:=row 17 (sv s f)
def ent (bk:Bool) (r:Rw) (i:Nat):MapEntry:=⟨.agg (sideC r.k (fr bk r)), .agg (row 16 (b8 (fr (!bk) r))),i⟩
def ents (bk:Bool) (L:List Rw):Array MapEntry:=(L.zipIdx.map fun p=>ent bk p.1 p.2).toArray
def MapAt (w:World) (b:Nat) (bk:Bool) (L:List Rw):Prop:=w.heap[b]? =some (.map (ents bk L) L.length)
theorem MapAt.out {w:World}{b:Nat}{bk:Bool}{L:List Rw} (h:MapAt w b bk L):w.heap[b]? =some (.map (ents bk L) L.length):=h
theorem MapAt.lt {w:World}{b:Nat}{bk:Bool}{L:List Rw} (h:MapAt w b bk L):b<w.heap.size:=(Array.getElem?_eq_some_iff.1 h).1
theorem MapAt.fresh (w:World) (bk:Bool):MapAt (w.alloc (.map #[] 0)) w.heap.size bk []:=(MapKept.heap_alloc w _).1
theorem MapAt.alloc {w:World}{b:Nat}{bk:Bool}{L:List Rw} (h:MapAt w b bk L) (o:Obj):MapAt (w.alloc o) b bk L:=(Below.heap_alloc w o b h.lt).trans h
theorem MapAt.ne_blk {w:World}{b g:Nat}{bk:Bool}{L:List Rw}{t:TypeId}{cs:Array Value} (h:MapAt w b bk L) (hb:Blk w g t cs):b≠g:=by
 rintro rfl
 have:=h.out.symm.trans hb.out
 simp at this
section
variable {w:World}{b:Nat}{bk:Bool}{L:List Rw}
end
structure KeptS (S:List Nat) (w w':World):Prop where
 os:w'.os=w.os
 tape:w'.tape=w.tape
 output:w'.output=w.output
 size:w.heap.size≤w'.heap.size
 block: ∀k,k<w.heap.size→k∉S→w'.heap[k]? =w.heap[k]?
section
variable {S:List Nat}{a b c w w':World}
theorem KeptS.refl (S:List Nat) (w:World):KeptS S w w:=⟨rfl,rfl,rfl,Nat.le_refl _,fun _ _ _=>rfl⟩
theorem KeptS.trans (h:KeptS S a b) (h':KeptS S b c):KeptS S a c:=
 ⟨h'.os.trans h.os,h'.tape.trans h.tape,h'.output.trans h.output,Nat.le_trans h.size h'.size,fun k hk hg=>(h'.block k (Nat.lt_of_lt_of_le hk h.size) hg).trans (h.block k hk hg)⟩
theorem KeptS.of (S:List Nat) (h:Below w.heap.size w w'):KeptS S w w':=⟨h.os,h.tape,h.output,h.size,fun k hk _=>h.block k hk⟩
theorem KeptS.below (h:KeptS S w w'){B:Nat} (hS: ∀g∈S,B≤g) (hB:B≤w.heap.size):Below B w w':=
 ⟨h.os,h.tape,h.output,h.size,fun k hk=>h.block k (Nat.lt_of_lt_of_le hk hB) (fun hs=>by have:=hS k hs;omega)⟩
theorem KeptS.more {T:List Nat} (h:KeptS S w w') (hT: ∀g∈S,g∈T):KeptS T w w':=⟨h.os,h.tape,h.output,h.size,fun k hk hs=>h.block k hk (fun e=>hs (hT k e))⟩
theorem KeptS.blk {k:Nat}{t:TypeId}{cs:Array Value} (h:KeptS S w w') (hb:Blk w k t cs) (hk:k∉S):Blk w' k t cs:=(h.block k hb.lt hk).trans hb
theorem KeptS.map {k:Nat}{bk:Bool}{L:List Rw} (h:KeptS S w w') (hb:MapAt w k bk L) (hk:k∉S):MapAt w' k bk L:=(h.block k hb.lt hk).trans hb
theorem KeptS.own {base e n:Nat}{v:Value}{f:Nat→Nat} (h:KeptS S w w') (ho:Own w base e 1 v n f) (hS: ∀g cs,Blk w g e cs→g∉S):Own w' base e 1 v n f:=by
 obtain⟨h1,h2 | ⟨k,c,cur,rfl,hbk,hblk,hnc,hcm,hsz,hcs⟩⟩:=ho
 ·exact⟨h1, .inl h2⟩
 exact⟨h1, .inr ⟨k,c,cur,rfl,hbk,h.blk hblk (hS k cur hblk),hnc,hcm,hsz,hcs⟩⟩
end
theorem MapAt.put {w:World}{b:Nat}{bk:Bool}{L:List Rw} (h:MapAt w b bk L) (L':List Rw):MapAt (setBlock w b (.map (ents bk L') L'.length)) b bk L':=heap_setBlock_same h _
theorem MapAt.other {w:World}{b g:Nat}{bk bk':Bool}{L L':List Rw} (h:MapAt w b bk L) (hg:MapAt w g bk' L') (hne:b≠g) (o:Obj):MapAt (setBlock w g o) b bk L:=(heap_setBlock_other hg o hne).trans h
end Go.Proofs.YtlmacfmfmjhidaaGreatDoor.Bk
