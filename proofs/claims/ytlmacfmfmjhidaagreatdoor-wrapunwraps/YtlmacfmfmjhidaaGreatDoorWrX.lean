/-
 WrMath Wr1 WrConv Wr2 Wr3 Wr4 Wr5
-/
import Derived.Test.YtlmacfmfmjhidaaGreatDoorMacX
import Derived.Test.YtlmacfmfmjhidaaGreatDoorDigX
import Derived.Test.YtlmacfmfmjhidaaGreatDoorConcat
import Derived.Test.YtlmacfmfmjhidaaGreatDoorStrF
import Derived.Lib.ConvBytes
import Derived.Test.YtlmacfmfmjhidaaGreatDoorHdX
import Derived.Test.YtlmacfmfmjhidaaGreatDoorAsMiss
import Derived.Test.YtlmacfmfmjhidaaGreatDoorAsX
namespace Go.Proofs.YtlmacfmfmjhidaaGreatDoor.Wr
open Mem Bk Md Mc Dg
def kd (v:Nat):Nat:=if v=66 then 2 else if v=68 then 1 else 0
def ka (a:Nat):Nat:=if a=84 then 2 else if a=65 then 1 else 0
def kfit (k L:Nat):Prop:=L=16∨L=24∨(L=32∧k=1)
instance kfit_dec (k L:Nat):Decidable (kfit k L):=inferInstanceAs (Decidable (L=16∨L=24∨(L=32∧k=1)))
theorem kfit_le {k L:Nat} (h:kfit k L):16≤L∧L≤32:=by unfold kfit at h;omega
theorem kfit_fits {k L:Nat} (h:kfit k L) (hk:k=1∨k=2):fits k L:=by
 unfold kfit at h
 rcases hk with rfl | rfl
 ·exact .inl ⟨rfl,by unfold Aes.IsKey;omega⟩
 exact .inr (.inl ⟨rfl,by unfold Des.IsTKey;omega⟩)
def fill (s n:Nat):Nat:=(s-(n%s+2)%s)%s
theorem fill_lt {s n:Nat} (hs:s=8∨s=16):fill s n<s:=Nat.mod_lt _ (by omega)
def num (k L:Nat):Nat:=if k=1 then L/8 else L/8-2
def btF (L:Nat):Nat→Nat:=fun i=>if i=0 then 8*L/256%256 else 8*L%256
theorem btF_lt (L i:Nat):btF L i<256:=by unfold btF;split<;>omega
def sixF (k L e j:Nat):Nat→Nat:=fun i=>if i=0 then j else if i=2 then e else if i=5 then num k L else 0
def askD (k L e j:Nat):Nat→Nat:=cat 6 (sixF k L e j) (btF L)
theorem num_lt {k L:Nat} (h:kfit k L):num k L<5:=by
 have:=kfit_le h
 unfold num
 split<;>omega
theorem askD_lt {k L e j:Nat} (h:kfit k L) (he:e<256) (hj:j<256) (i:Nat):askD k L e j i<256:=by
 have:=num_lt h
 unfold askD cat sixF
 split
 ·split
  ·exact hj
  split
  ·exact he
  split<;>omega
 exact btF_lt _ _
def kyF (k L:Nat) (key:Nat→Nat) (e:Nat):Nat→Nat:=fun i=>cmacF k L key 8 (askD k L e (i/sz k+1)) (i%sz k)
theorem kyF_lt {k L e:Nat}{key:Nat→Nat} (h:kfit k L) (hk:k=1∨k=2) (hb: ∀i,i<L→key i<256) (he:e<256): ∀i,i<L→kyF k L key e i<256:=fun i hi=>by
 have hL:=kfit_le h
 have hs:0<sz k:=Md.sz_pos k
 have hd:i/sz k≤i:=Nat.div_le_self _ _
 exact cmac_lt (L:=8) (kfit_fits h hk) (by omega) hb (fun t _=>askD_lt h he (by omega) t) _ (Nat.mod_lt _ hs)
theorem ky_step {k L e j:Nat}{key:Nat→Nat} (i:Nat) (hi:i< (j+1)*sz k):cat (j*sz k) (kyF k L key e) (cmacF k L key 8 (askD k L e (j+1))) i=kyF k L key e i:=by
 have hs:0<sz k:=Md.sz_pos k
 unfold cat
 split
 ·rfl
 rename_i h
 have h1:i=j*sz k+(i-j*sz k):=by omega
 have h2:i-j*sz k<sz k:=by rw[Nat.succ_mul] at hi;omega
 have h3:=in_at (k:=k) (j:=j) h2
 rw[← h1] at h3
 unfold kyF
 rw[h3.1,h3.2]
def txF (L:Nat) (key fl:Nat→Nat):Nat→Nat:=cat (2+L) (cat 2 (btF L) key) fl
def cdF (k L:Nat) (W:Nat→Nat) (M:Nat) (P tx:Nat→Nat):Nat→Nat:=cmacF k L (kyF k L W 1) (16+M) (cat 16 P tx)
def hdF (k L:Nat) (W:Nat→Nat) (M:Nat) (cd tx:Nat→Nat):Nat→Nat:=chainF k L (kyF k L W 0) false cd tx (M/sz k)
def blF (M:Nat) (P hd cd:Nat→Nat):Nat→Nat:=cat (16+2*M) (cat 16 P (hexF hd)) (hexF cd)
end Go.Proofs.YtlmacfmfmjhidaaGreatDoor.Wr
namespace Go.Proofs.YtlmacfmfmjhidaaGreatDoor.Wr
open Mem Bk Md Mc Go.ChangeShapes Go.WideShapes Go.ChangeAt Go.RowKit
theorem kov_any (v:Nat) (w:World):Calls Tryz.prog 51 #[.int .u8 (v:Int)] w fun e w'=>e= .returned (.int .i64 (kd v:Int))∧w'=w:=by
 by_cases h:v=66
 ·subst h
  go_enter Tryz.func51,Tryz.ntmps51
  go_wp2_with fail
  go_ret
  exact⟨rfl,rfl⟩
 have h1:((v:Int) == 66)=false:=by simp;omega
 by_cases h2:v=68
 ·subst h2
  go_enter Tryz.func51,Tryz.ntmps51
  go_wp2_with fail
  go_ret
  exact⟨rfl,rfl⟩
 have h3:((v:Int) == 68)=false:=by simp;omega
 have hk:kd v=0:=by unfold kd;rw[if_neg h,if_neg h2]
 rw[hk]
 clear h h2 hk
 go_enter Tryz.func51,Tryz.ntmps51
 go_wp2_with fail
 go_ret
 exact⟨rfl,rfl⟩
theorem koa_any (v:Nat) (w:World):Calls Tryz.prog 24 #[.int .u8 (v:Int)] w fun e w'=>e= .returned (.int .i64 (ka v:Int))∧w'=w:=by
 by_cases h:v=84
 ·subst h
  go_enter Tryz.func24,Tryz.ntmps24
  go_wp2_with fail
  go_ret
  exact⟨rfl,rfl⟩
 have h1:((v:Int) == 84)=false:=by simp;omega
 by_cases h2:v=65
 ·subst h2
  go_enter Tryz.func24,Tryz.ntmps24
  go_wp2_with fail
  go_ret
  exact⟨rfl,rfl⟩
 have h3:((v:Int) == 65)=false:=by simp;omega
 have hk:ka v=0:=by unfold ka;rw[if_neg h,if_neg h2]
 rw[hk]
 clear h h2 hk
 go_enter Tryz.func24,Tryz.ntmps24
 go_wp2_with fail
 go_ret
 exact⟨rfl,rfl⟩
theorem kfits_1 (L:Nat) (w:World):Calls Tryz.prog 23 #[.int .i64 1, .int .i64 (L:Int)] w fun e w'=>e= .returned (.bool (decide (kfit 1 L)))∧w'=w:=by
 by_cases h:L=32
 ·subst h
  go_enter Tryz.func23,Tryz.ntmps23
  go_wp2_with fail
  go_ret
  exact⟨rfl,rfl⟩
 have h1:((L:Int) == 32)=false:=by simp;omega
 by_cases h2:L=16
 ·subst h2
  go_enter Tryz.func23,Tryz.ntmps23
  go_wp2_with fail
  go_ret
  exact⟨rfl,rfl⟩
 have h3:((L:Int) == 16)=false:=by simp;omega
 by_cases h4:L=24
 ·subst h4
  go_enter Tryz.func23,Tryz.ntmps23
  go_wp2_with fail
  go_ret
  exact⟨rfl,rfl⟩
 have h5:((L:Int) == 24)=false:=by simp;omega
 have hk:decide (kfit 1 L)=false:=by unfold kfit;simp;omega
 rw[hk]
 clear h h2 h4 hk
 go_enter Tryz.func23,Tryz.ntmps23
 go_wp2_with fail
 go_ret
 exact⟨rfl,rfl⟩
theorem kfits_2 (L:Nat) (w:World):Calls Tryz.prog 23 #[.int .i64 2, .int .i64 (L:Int)] w fun e w'=>e= .returned (.bool (decide (kfit 2 L)))∧w'=w:=by
 by_cases h2:L=16
 ·subst h2
  go_enter Tryz.func23,Tryz.ntmps23
  go_wp2_with fail
  go_ret
  exact⟨rfl,rfl⟩
 have h3:((L:Int) == 16)=false:=by simp;omega
 by_cases h4:L=24
 ·subst h4
  go_enter Tryz.func23,Tryz.ntmps23
  go_wp2_with fail
  go_ret
  exact⟨rfl,rfl⟩
 have h5:((L:Int) == 24)=false:=by simp;omega
 have hk:decide (kfit 2 L)=false:=by unfold kfit;simp;omega
 rw[hk]
 clear h2 h4 hk
 go_enter Tryz.func23,Tryz.ntmps23
 go_wp2_with fail
 go_ret
 exact⟨rfl,rfl⟩
theorem kfits_any (k L:Nat) (hk:k=1∨k=2) (w:World):Calls Tryz.prog 23 #[.int .i64 (k:Int), .int .i64 (L:Int)] w fun e w'=>e= .returned (.bool (decide (kfit k L)))∧w'=w:=by
 rcases hk with rfl | rfl
 ·exact kfits_1 L w
 exact kfits_2 L w
def bz (v:Nat):Nat:=if v=66 then 8 else if v=68 then 16 else 0
theorem bsz_any (v:Nat) (w:World):Calls Tryz.prog 45 #[.int .u8 (v:Int)] w fun e w'=>e= .returned (.int .i64 (bz v:Int))∧w'=w:=by
 by_cases h:v=66
 ·subst h
  go_enter Tryz.func45,Tryz.ntmps45
  go_wp2_with (go_at_call 51;refine(kov_any 66 _).mono ?_;rintro e w1 ⟨rfl,rfl⟩)
  go_ret
  exact⟨rfl,rfl⟩
 by_cases h2:v=68
 ·subst h2
  go_enter Tryz.func45,Tryz.ntmps45
  go_wp2_with (go_at_call 51;refine(kov_any 68 _).mono ?_;rintro e w1 ⟨rfl,rfl⟩)
  go_ret
  exact⟨rfl,rfl⟩
 have hk:kd v=0:=by unfold kd;rw[if_neg h,if_neg h2]
 have hb:bz v=0:=by unfold bz;rw[if_neg h,if_neg h2]
 rw[hb]
 clear h h2 hb
 go_enter Tryz.func45,Tryz.ntmps45
 go_wp2_with (go_at_call 51;refine(kov_any v _).mono ?_;rintro e w1 ⟨rfl,rfl⟩;rw[hk])
 go_ret
 exact⟨rfl,rfl⟩
theorem num_any (k L:Nat) (hk:k=1∨k=2) (hL:L=16∨L=24∨L=32) (w:World):Calls Tryz.prog 102 #[.int .i64 (k:Int), .int .i64 (L:Int)] w fun e w'=>e= .returned (.int .u8 (num k L:Int))∧w'=w:=by
 rcases hk with rfl | rfl<;>rcases hL with rfl | rfl | rfl
 all_goals
  go_enter Tryz.func102,Tryz.ntmps102
  go_wp2_with fail
  go_ret
  exact⟨rfl,rfl⟩
theorem bits_any (A:Option Addr) (L c:Nat) (w:World) (hL:L=16∨L=24∨L=32):Calls Tryz.prog 53 #[.slice A L c] w fun e w'=>e= .returned (.slice (some ⟨w.heap.size,0,none⟩) 2 2)∧w'=w.alloc (.cells (row 2 (b8 (btF L))) 5):=by
 have hb:=Dg.bs2
 rcases hL with rfl | rfl | rfl
 all_goals
  go_enter Tryz.func53,Tryz.ntmps53
  go_wp2_with fail
  go_ret
  exact⟨rfl,rfl⟩
def whB (d s:Nat):Bool:=decide (d%(2*s)=0∧4*s≤d)
theorem whole_w (z:Int) (s:Nat) (hs:s=8∨s=16) (d:Nat) (hz:z=(d:Int)) (w:World):Calls Tryz.prog 39 #[.int .i64 z, .int .i64 (s:Int)] w fun e w'=>e= .returned (.bool (whB d s))∧w'=w:=by
 subst hz
 rcases hs with rfl | rfl
 ·by_cases h:d%16=0
  ·have h1:(d:Int)%16=0:=by omega
   go_enter Tryz.func39,Tryz.ntmps39
   go_wp2_with fail
   go_ret
   simp[whB,h]
   omega
  have h1: ¬(d:Int)%16=0:=by omega
  go_enter Tryz.func39,Tryz.ntmps39
  go_wp2_with fail
  go_ret
  simp[whB,h]
 by_cases h:d%32=0
 ·have h1:(d:Int)%32=0:=by omega
  go_enter Tryz.func39,Tryz.ntmps39
  go_wp2_with fail
  go_ret
  simp[whB,h]
  omega
 have h1: ¬(d:Int)%32=0:=by omega
 go_enter Tryz.func39,Tryz.ntmps39
 go_wp2_with fail
 go_ret
 simp[whB,h]
end Go.Proofs.YtlmacfmfmjhidaaGreatDoor.Wr
namespace Go.Proofs.YtlmacfmfmjhidaaGreatDoor.Wr
open Mem Go.ChangeShapes Go.WideShapes Go.ChangeAt Go.RowKit
theorem run_storeCells_lo (P:Program) (g o:Nat) (t:TypeId) (fz:Nat×Nat): ∀(vs:List Value) (i:Nat) (cur:Array Value) (w:World),w.heap[g]? =some (.cells cur t fz)→o+i+vs.length≤fz.1→o+i+vs.length≤cur.size→(∀v∈vs,v.oneCell'=true)→
  (storeCells ⟨g,o,none⟩ vs i).run P w= .ok () (w.setRow g (cur.toList.take (o+i)++vs++cur.toList.drop (o+i+vs.length)).toArray)
 | [],i,cur,w,hg,_,_,_=>by
  simp only[storeCells,List.append_nil,List.length_nil,Nat.add_zero,List.take_append_drop,Array.toArray_toList]
  rw[setRow_self w g cur t fz hg]
  rfl
 | v::rest,i,cur,w,hg,hfz,hl,h1=>by
  have hi:o+i<cur.size:=by simp at hl;omega
  have hadd:(⟨g,o,none⟩:Addr).add i=⟨g,o+i,none⟩:=by unfold Addr.add;split<;>simp_all
  have hcell:w.cell? ⟨g,o+i,none⟩=some cur[o+i]:=by simp[World.cell?,hg,hi]
  have hfro:w.frozen? ⟨g,o+i,none⟩=false:=by
   obtain⟨lo,hi'⟩:=fz
   simp only[World.frozen?,hg,Bool.and_eq_false_iff,decide_eq_false_iff_not]
   left
   simp at hfz ⊢
   omega
  have hst:(store ((⟨g,o,none⟩:Addr).add i) v).run P w= .ok () (w.setRow g (cur.setIfInBounds (o+i) v)):=by
   rw[hadd,run_store P w _ v _ (h1 v (by simp)),hcell]
   simp[hfro,setCell_eq_setRow w g (o+i) cur t fz v hg]
  have ih:=run_storeCells_lo P g o t fz rest (i+1) (cur.setIfInBounds (o+i) v) (w.setRow g (cur.setIfInBounds (o+i) v)) (setRow_heap w g cur _ t _ hg) (by simp at hfz ⊢;omega) (by simp at hl ⊢;omega) (fun x hx=>h1 x (by simp[hx]))
  simp only[storeCells,Sem.run_bind,hst,Result.andThen_ok,ih,setRow_setRow]
  congr 3
  have e:=list_seg_step cur.toList (o+i) v rest (by simp at hl ⊢;omega)
  simpa [Array.toList_setIfInBounds,Nat.add_assoc] using e
def Cv (w:World) (g n c:Nat) (f:Nat→Nat):Prop:= ∃cur,w.heap[g]? =some (.cells cur 5 (c,c+1))∧cur.size=c∧n≤c∧c≤maxLen∧∀i,i<n→cur[i]? =some (.int .u8 ((f i:Nat):Int))
theorem below_bytes (w:World) (e:TypeId) (s:ByteArray):Below w.heap.size w (Lib.bytesWorld w e s):=
 ⟨rfl,rfl,rfl,by rw[Lib.bytesWorld_size];omega,fun k hk=>Lib.bytesWorld_at_old w e s k hk⟩
theorem cv_new (w:World) (n:Nat) (f:Nat→Nat) (hn:n≤1000000) (hf: ∀i,i<n→f i<256):Cv (Lib.bytesWorld w 5 (strF n f)) w.heap.size n (grownCap w n 0 5) f:=by
 have hsz:=strF_size n f
 have hge:=grownCap_ge w n 0 5
 have hcm:grownCap w n 0 5≤maxLen:=grownCap_le_maxLen w n 0 5 (by unfold maxLen;omega)
 have hs:(Lib.bytesCells w 5 (strF n f)).size=grownCap w n 0 5:=by
  have e1:(strF n f).data.size=n:=hsz
  simp[Lib.bytesCells,hsz,e1]
  omega
 refine⟨_,by rw[Lib.bytesWorld_at_new,hs],hs,hge,hcm,fun i hi=>?_⟩
 have hb:=byteAt_strF (n:=n) (f:=f) hi (hf i hi)
 have e1:(strF n f).data.size=n:=hsz
 rw[strF_mk] at*
 simp[Lib.bytesCells,hi,Array.getElem?_append]
 have:=hf i hi
 omega
theorem exec_bytes {o:Oper}{a:Act}{w:World} (x:Operand) (ho:o.op= .convert 9 22 x) (n:Nat) (f:Nat→Nat) (hx:a.eval x= .string (strF n f)):
  (execOp a.eval o).run Tryz.prog w= .ok (.value (.slice (some ⟨w.heap.size,0,none⟩) n (grownCap w n 0 5))) (Lib.bytesWorld w 5 (strF n f)):=by
 have hr:=Lib.run_convert_string_bytes (P:=Tryz.prog) w 9 22 5 (strF n f) Tryz.underlying9 Tryz.underlying22 Tryz.underlying5
 rw[strF_size] at hr
 rw[← hx] at hr
 unfold execOp
 simp[ho,hr]
theorem info8v:(Tryz.prog.info? 5).map (fun i=>(i.zero,i.size,i.bytes))=some (some (.int .u8 0),1,1):=by kernel_rfl
theorem wp_app_cv {o:Oper}{a:Act}{w:World}{K:Act→World→Prop}{Q:Exit→Act→World→Prop} (p q:Operand) (ho:o.op= .call {callee:= .builtin .append,args:=#[p,q],argTypes:=#[22,22]}) (g n c:Nat) (f:Nat→Nat) (hp:a.eval p= .slice (some ⟨g,0,none⟩) n c) (hc:Cv w g n c f)
  (ad:Addr) (m c2:Nat) (h:Nat→Nat) (B:Nat) (hR:Reads w B (some ad) m h) (hq:a.eval q= .slice (some ad) m c2) (hm:0<m) (hn:n+m≤1000000)
  (hK: ∀g' c' w',n+m≤c'→Reads w' w'.heap.size (some ⟨g',0,none⟩) (n+m) (cat n f h)→Below g w w'→K (a.put o.dst (.slice (some ⟨g',0,none⟩) (n+m) c')) w'):o.wp Tryz.prog a w K Q:=by
 obtain⟨i,hi,hz0,hz1,hz2⟩:=info_parts info8v
 obtain⟨cur,hg,hcs,hnc,hcm,hcv⟩:=hc
 obtain⟨ad',he,hbl,hrd⟩:=hR hm
 cases he
 have hlt:g<w.heap.size:=by
  rcases Nat.lt_or_ge g w.heap.size with h' | h'
  ·exact h'
  rw[Array.getElem?_eq_none h'] at hg;cases hg
 have hnl:((List.range m).map (b8 h)).length=m*i.size:=by rw[hz1];simp
 have hnews: ∀j u,((List.range m).map (b8 h))[j]? =some u→w.cell? (ad.add j)=some u:=by
  intro j u hu
  by_cases hj:j<m
  ·simp[hj] at hu
   subst hu
   exact hrd j hj
  rw[List.getElem?_eq_none (by simp;omega)] at hu;cases hu
 have h1: ∀u∈(List.range m).map (b8 h),u.oneCell'=true:=by
  intro u hu
  simp only[List.mem_map] at hu
  obtain⟨i,_,rfl⟩:=hu
  rfl
 have hgc: ∀j,(⟨g,0,none⟩:Addr).add j=⟨g,j,none⟩:=fun j=>add_zero_off g j
 by_cases hroom:n+m≤c
 ·have hfit:n*i.size+((List.range m).map (b8 h)).length≤cur.size:=by rw[hnl,hz1,hcs];omega
  have hf:=run_firstCells_some (P:=Tryz.prog) w i.size m ad m c2 ((List.range m).map (b8 h)) hnl hnews
  have hst:=run_storeCells_lo Tryz.prog g (n*i.size) 5 (c,c+1) ((List.range m).map (b8 h)) 0 cur w hg (by rw[hnl,hz1];show n*1+0+m*1≤c;omega) (by simpa using hfit) h1
  simp only[Nat.add_zero] at hst
  have hr:(Builtin.append_ #[22,22] o.type #[.slice (some ⟨g,0,none⟩) n c, .slice (some ad) m c2]).run Tryz.prog w= .ok (.slice (some ⟨g,0,none⟩) (n+m) c) (w.setRow g (cur.toList.take (n*i.size)++(List.range m).map (b8 h)++cur.toList.drop (n*i.size+((List.range m).map (b8 h)).length)).toArray):=by
   simp[Builtin.append_,run_underlying Tryz.underlying22,sizeOf,typeInfo,hi,Builtin.lenOf,hroom,hf,Addr.add_lit,hst]
  unfold Oper.wp execOp
  simp only[ho,resolve,invoke,builtin,Sem.run_bind,Sem.run_pure,Result.andThen_ok,List.map_toArray,List.map_cons,List.map_nil,hp,hq,hr]
  refine hK g c _ hroom (fun _=>⟨_,rfl,by simpa using hlt,fun j hj=>?_⟩) (below_setRow' (Below.refl _ _) (Nat.le_refl _) _)
  rw[hgc,cell_of_row _ g j _ 5 (c,c+1) (setRow_heap w g cur _ 5 _ hg),hz1]
  simp only[Nat.mul_one,List.getElem?_toArray]
  by_cases hjn:j<n
  ·rw[List.getElem?_append_left (by simp;omega),List.getElem?_append_left (by simp;omega),List.getElem?_take,if_pos hjn]
   have:=hcv j hjn
   unfold cat
   rw[if_pos hjn,Array.getElem?_toList]
   exact this
  have hl:(cur.toList.take n).length=n:=by simp;omega
  rw[List.getElem?_append_left (by simp;omega),List.getElem?_append_right (by omega),hl]
  have:j-n<m:=by omega
  unfold cat
  rw[if_neg hjn]
  simp[this,b8]
 have holds: ∀j u,((List.range n).map (b8 f))[j]? =some u→w.cell? ((⟨g,0,none⟩:Addr).add j)=some u:=by
  intro j u hu
  by_cases hj:j<n
  ·simp[hj] at hu
   subst hu
   rw[hgc,cell_of_row w g j _ 5 (c,c+1) hg]
   exact hcv j hj
  rw[List.getElem?_eq_none (by simp;omega)] at hu;cases hu
 have hr:=run_append_grow (P:=Tryz.prog) w 22 o.type 5 i (.int .u8 0) Tryz.underlying22 hi hz0 ⟨g,0,none⟩ n c ((List.range n).map (b8 f)) (by rw[hz1];simp) holds ad m c2 ((List.range m).map (b8 h)) hnl hnews (by omega) (by omega) (growslice_fits (by omega) (by rw[hz2];omega))
 have hge:=grownCap_ge w (n+m) c 5
 unfold Oper.wp execOp
 simp only[ho,resolve,invoke,builtin,Sem.run_bind,Sem.run_pure,Result.andThen_ok,List.map_toArray,List.map_cons,List.map_nil,hp,hq,hr]
 refine hK _ _ _ hge (fun _=>⟨_,rfl,by simp,fun j hj=>?_⟩) ((Below.refl _ _).drew.alloc (Nat.le_of_lt hlt) _)
 have hB:=heap_alloc_new w.drew (.cells (((List.range n).map (b8 f)).toArray++((List.range m).map (b8 h)).toArray++Builtin.zeroCells (Value.int .u8 0).cells (grownCap w (n+m) c 5-(n+m))) 5)
 have hds:w.drew.heap.size=w.heap.size:=rfl
 rw[hds] at hB
 rw[add_zero_off,cell_of_row _ w.heap.size j _ 5 (0,0) hB,Array.getElem?_append_left (by simp;omega)]
 by_cases hjn:j<n
 ·rw[Array.getElem?_append_left (by simp;omega)]
  unfold cat
  rw[if_pos hjn]
  simp[hjn,b8]
 rw[Array.getElem?_append_right (by simp;omega)]
 have:j-n<m:=by omega
 unfold cat
 rw[if_neg hjn]
 simp[this,b8]
end Go.Proofs.YtlmacfmfmjhidaaGreatDoor.Wr
namespace Go.Proofs.YtlmacfmfmjhidaaGreatDoor.Wr
open Mem Bk Md Mc Go.ChangeShapes Go.WideShapes Go.ChangeAt Go.RowKit
section
variable {o:Oper}{x:Act}{w:World}
theorem wuS8:Tryz.prog.underlying 22=some (.slice (Tryz.prog.elem 22)):=by kernel_rfl
theorem weS8:Tryz.prog.elem 22=5:=by kernel_rfl
theorem wi8:(Tryz.prog.info? 5).map (fun i=>(i.zero,i.size,i.bytes))=some (some (.int .u8 0),1,1):=by kernel_rfl
theorem wcutH (p hi:Operand) (ho:o.op= .slice 22 p none (some hi) none) (g:Addr) (M c q:Nat) (z:Int) (hp:x.eval p= .slice (some g) M c) (hl:x.eval hi= .int .i64 z) (hz:z=(q:Int)) (hc:q≤c):(execOp x.eval o).run Tryz.prog w= .ok (.value (.slice (some g) q c)) w:=by
 subst hz
 have hr:(Instr.sliceAt 22 (.slice (some g) M c) none (some (.int .i64 (q:Int))) none).run Tryz.prog w= .ok (.slice (some g) q c) w:=by
  rw[run_sliceAt_slice w 22 _ _ _ _ wuS8,run_slice_h w 22 _ _ _ wuS8 .i64 (q:Int) (by omega) (by omega),weS8,run_size Dg.i8q]
  simp[Result.andThen,sliced,Addr.add]
 rw[← hp,← hl] at hr
 unfold execOp
 simp[ho,hr]
theorem wcutL (p lo:Operand) (ho:o.op= .slice 22 p (some lo) none none) (g:Addr) (M c q n:Nat) (z:Int) (hp:x.eval p= .slice (some g) M c) (hl:x.eval lo= .int .i64 z) (hz:z=(q:Int)) (hM:M=q+n) (hn:0<n) (hc:M≤c):(execOp x.eval o).run Tryz.prog w= .ok (.value (.slice (some (g.add q)) n (c-q))) w:=by
 subst hz hM
 have hr:(Instr.sliceAt 22 (.slice (some g) (q+n) c) (some (.int .i64 (q:Int))) none none).run Tryz.prog w= .ok (.slice (some (g.add q)) n (c-q)) w:=by
  rw[run_sliceAt_slice w 22 _ _ _ _ wuS8,run_slice_l w 22 _ _ _ wuS8 .i64 (q:Int) (by omega) (by omega),weS8,run_size Dg.i8q]
  simp[Result.andThen,sliced,show¬c=q by omega]
 rw[← hp,← hl] at hr
 unfold execOp
 simp[ho,hr]
theorem wcutB (p lo hi:Operand) (ho:o.op= .slice 22 p (some lo) (some hi) none) (g:Addr) (M c q n:Nat) (y z:Int) (hp:x.eval p= .slice (some g) M c) (hl:x.eval lo= .int .i64 y) (hh:x.eval hi= .int .i64 z) (hy:y=(q:Int)) (hz:z=((q+n:Nat):Int)) (hn:0<n) (hc:q+n≤c):(execOp x.eval o).run Tryz.prog w= .ok (.value (.slice (some (g.add q)) n (c-q))) w:=by
 subst hy hz
 have hr:(Instr.sliceAt 22 (.slice (some g) M c) (some (.int .i64 (q:Int))) (some (.int .i64 ((q+n:Nat):Int))) none).run Tryz.prog w= .ok (.slice (some (g.add q)) n (c-q)) w:=by
  rw[run_sliceAt_slice w 22 _ _ _ _ wuS8,run_slice_lh w 22 _ _ _ wuS8 .i64 .i64 (q:Int) ((q+n:Nat):Int) (by omega) (by omega) (by omega),weS8,run_size Dg.i8q]
  simp[Result.andThen,sliced,show¬c=q by omega]
  omega
 rw[← hp,← hl,← hh] at hr
 unfold execOp
 simp[ho,hr]
end
def pz:Pl:=⟨0,0,0,0,0,undef,0,fun _=>0⟩
theorem newk (k:Nat) (hk:k=1∨k=2) (A:Option Addr) (L c:Nat) (key:Nat→Nat) (w:World) (hf:kfit k L) (hA:A=none→L=0∧c=0) (hb: ∀i,i<L→key i<256) (hR:Reads w w.heap.size A L key):
  Calls Tryz.prog 50 #[.int .i64 (k:Int), .slice A L c, .pointer none] w fun e w'=> ∃gc,e= .returned (.tuple #[.pointer (some ⟨gc,0,none⟩), .nilIface])∧CiAt w' pz k gc w.heap.size L key∧w.heap.size≤gc∧Below w.heap.size w w':=by
 have hL:=kfit_le hf
 have hff:=kfit_fits hf hk
 rcases hk with rfl | rfl
 ·exact new1 A L c key pz none w hL.2 hA hb hR hff
 exact new2 A L c key pz none w hL.2 hA hb hR hff
theorem bs6 (x y z:Int) (w:World):(Instr.buildSlice 22 6 #[(0, .int .u8 x),(1, .int .u8 0),(2, .int .u8 y),(3, .int .u8 0),(4, .int .u8 0),(5, .int .u8 z)]).run Tryz.prog w= .ok (.slice (some ⟨w.heap.size,0,none⟩) 6 6) (w.alloc (.cells #[.int .u8 x, .int .u8 0, .int .u8 y, .int .u8 0, .int .u8 0, .int .u8 z] 5)):=by kernel_rfl
theorem six_row (k L e j:Nat): #[Value.int .u8 ((j:Int)+1), .int .u8 0, .int .u8 (e:Int), .int .u8 0, .int .u8 0, .int .u8 (num k L:Int)]=row 6 (b8 (sixF k L e (j+1))):=rfl
theorem rounds_le {k L j:Nat} (h:kfit k L) (hk:k=1∨k=2) (hj:j*sz k<L):j≤2:=by
 unfold kfit at h
 rcases hk with rfl | rfl
 ·have e:sz 1=16:=rfl
  rw[e] at hj
  omega
 have e:sz 2=8:=rfl
 rw[e] at hj
 omega
set_option maxRecDepth 100000 in
set_option maxHeartbeats 1000000 in
theorem derive_any (k:Nat) (hk:k=1∨k=2) (e:Nat) (he:e<2) (A:Option Addr) (L c:Nat) (key:Nat→Nat) (w:World) (hf:kfit k L) (hA:A=none→L=0∧c=0) (hb: ∀i,i<L→key i<256) (hR:Reads w w.heap.size A L key):
  Calls Tryz.prog 77 #[.int .i64 (k:Int), .slice A L c, .int .u8 (e:Int)] w fun x w'=> ∃v,x= .returned (.tuple #[v, .nilIface])∧Mem.Own w' w.heap.size 5 1 v L (kyF k L key e)∧Below w.heap.size w w':=by
 have hL:=kfit_le hf
 have hk3:k≠3:=by omega
 have hsp:=sz_pos k
 have hs:=sz_or k
 have Hf:=hid hf
 have hL3:Hid (L=16∨L=24∨L=32):=hid (by unfold kfit at hf;omega)
 have Hk:=hid hk
 have HA:=hid hA
 have Hb:=hid hb
 have HR:=hid hR
 clear hf hA hb hR hk
 go_enter Tryz.func77,Tryz.ntmps77
 go_wp2_with fail
 refine(newk k Hk.out A L c key w Hf.out HA.out Hb.out HR.out).mono ?_
 rintro x w1 ⟨gc,rfl,hci,-,hB1⟩
 have HC:=hid hci
 have HB1:=hid hB1
 have HR1:=hid ((HR.out.below hB1).more hB1.size)
 clear hci hB1 HR
 go_wp2_with fail
 go_loopw [10,11,12,13,14] (fun v x _ _ _ wr=> ∃j m:Nat,Hid (m=j*sz k)∧j≤3∧Hid (Mem.Own wr w1.heap.size 5 1 v m (kyF k L key e))∧x= .int .u8 ((j+1:Nat):Int)∧Hid (Below w1.heap.size w1 wr)) (fun _ x _ _ _ _=>5-(intOf x).toNat)
 case atStart=>exact⟨0,0,hid (by omega),by omega,hid (Mem.Own.nil _ _ _ _ _),rfl,hid (Below.refl _ _)⟩
 case round=>
  obtain⟨j,m,HM,hj,HO,rfl,HB⟩:=hrel
  obtain⟨A',c',rfl,hc',hA',-⟩:=HO.out.slice'
  by_cases hlt:m<L
  ·have hj2:j≤2:=rounds_le Hf.out Hk.out (by have:=HM.out;omega)
   have HC1:=hid (HC.out.keep HB.out)
   have HR2:=hid ((HR1.out.below HB.out).more HB.out.size)
   have hltI:(m:Int)< (L:Int):=by omega
   have h6:=bs6
   have h6r:=six_row k L e j
   have Hm1:=hid HM.out
   clear HM
   go_wp2_with (first
    | (go_at_call 102;refine(num_any k L Hk.out hL3.out _).mono ?_;rintro x2 w2 ⟨rfl,rfl⟩)
    | (go_at_call 53;refine(bits_any A L c _ hL3.out).mono ?_;rintro x3 w3 ⟨rfl,hw3⟩;have H6:Hid (Mem.Own w3 w2.heap.size 5 1 (.slice (some ⟨w2.heap.size,0,none⟩) 6 6) 6 (sixF k L e (j+1))):=hid (by rw[hw3];exact Mc.own_row ((Blk.fresh _ _ _).alloc _) (Nat.le_refl _) (by omega));have H2:Hid (Reads w3 w3.heap.size (some ⟨w2.heap.size+1,0,none⟩) 2 (btF L)):=hid (by rw[hw3];simpa using Blk.reads (Blk.fresh (w2.alloc (.cells (row 6 (b8 (sixF k L e (j+1)))) 5)) 5 (row 2 (b8 (btF L)))));have HB3:Hid (Below w2.heap.size w2 w3):=hid (by rw[hw3];exact((Below.refl _ _).alloc (Nat.le_refl _) _).alloc (by simp) _);clear hw3)
    | (at_builtin; (refine wpl_app_gen rfl _ _ 22 rfl w2.heap.size 5 (.int .u8 0) Tryz.underlying22 wi8 rfl _ 6 _ rfl H6.out _ 2 2 _ _ H2.out (fun h=>by cases h) rfl (by omega) HB3.out.size ?_)))
   intro v4 w4 ho4 hB4
   obtain⟨A4,c4,rfl,hc4,hA4,-⟩:=ho4.slice'
   have HR4:Hid (Reads w4 w4.heap.size A4 8 (askD k L e (j+1))):=hid ho4.reads
   have HA4:=hid hA4
   have HB4:=hid (HB3.out.trans hB4)
   have HC4:=hid (HC1.out.keep HB4.out)
   clear HC1 ho4 hA4 hB4 HB3 H2 H6 h6 h6r
   go_wp2_with (go_at_call 55;refine(size_any _ pz k gc _ L key HC4.out).mono ?_;rintro x5 w5 ⟨rfl,rfl⟩)
   refine(cmac_any _ pz k gc w.heap.size L key A4 8 c4 (askD k L e (j+1)) (sz k) hk3 HC4.out (by omega) hsp (Nat.le_refl _) HA4.out (fun i _=>askD_lt Hf.out (by omega) (by omega) i) HR4.out).mono ?_
   rintro x6 w6 ⟨v6,rfl,ho6,hB6⟩
   obtain⟨A6,c6,rfl,hc6,hA6,-⟩:=ho6.slice'
   have HR6:=hid ho6.reads
   have HA6:=hid hA6
   have HB6:=hid (HB4.out.trans (hB6.mono HB4.out.size))
   have HO6:=hid (HO.out.below HB6.out (Nat.le_refl _))
   have HB7:=hid (HB.out.trans (HB6.out.mono HB.out.size))
   clear ho6 hA6 hB6 HB4 HC4 HR4 HO HB
   have hm1:m+sz k≤1000000:=by omega
   go_wp2_with (at_builtin; (refine wpl_app_gen rfl _ _ 22 rfl w1.heap.size 5 (.int .u8 0) Tryz.underlying22 wi8 rfl _ m _ rfl HO6.out A6 (sz k) c6 _ _ HR6.out HA6.out rfl hm1 HB7.out.size ?_))
   intro v7 w7 ho7 hB7
   have HB8:=hid (HB7.out.trans hB7)
   have HO7:=hid ho7
   clear ho7 hB7 HB7 HO6 HR6
   go_wp2_with fail
   go_round
   case rel=>
    refine⟨j+1,m+sz k,hid (by rw[Hm1.out,Nat.succ_mul]),by omega,hid ?_,val_int (by omega),HB8⟩
    have e1:=Hm1.out
    subst e1
    have e2:j*sz k+sz k=(j+1)*sz k:=by rw[Nat.succ_mul]
    rw[e2]
    have:=HO7.out
    rw[e2] at this
    exact this.ext fun i hi=>ky_step i (by rwa[Nat.mul_one] at hi)
   case measure=>simp[intOf];omega
  have hltI: ¬(m:Int)< (L:Int):=by omega
  have hLm:L≤m:=by omega
  have HRc:=hid (HO.out.reads.less hLm)
  have HB2:=hid (HB1.out.trans (HB.out.mono HB1.out.size))
  obtain⟨ad,rfl⟩: ∃ad,A'=some ad:=by
   cases A' with
   | none=>have:=(hA' rfl).1;omega
   | some ad=>exact⟨ad,rfl⟩
  have hm0:=HB2.out.size
  clear HM HR1 HC HB HO
  go_wp2_with (with_reducible refine wpl_val rfl _ (wcutH _ _ rfl ad m c' L _ rfl rfl rfl (by omega)) ?_)
  refine(clone_any (some ad) L c' _ _ (by omega) (fun h=>by cases h) HRc.out).mono ?_
  rintro x2 w2 ⟨v2,rfl,ho2,hB3⟩
  have HB3:=hid (HB2.out.trans (hB3.mono hm0))
  obtain⟨A2,c2,rfl,hc2,-,-⟩:=ho2.slice'
  go_wp2_with fail
  go_ret2
  exact⟨_,rfl,own_base ho2 hm0,HB3.out⟩
theorem keys_size (v k:Nat) (hv:kd v=k) (hk:k=1∨k=2) (A:Option Addr) (L c:Nat) (hf: ¬kfit k L) (w:World):
  Calls Tryz.prog 49 #[.int .u8 (v:Int), .slice A L c] w fun x w'=>x= .returned (.tuple #[.slice none 0 0, .slice none 0 0, .iface 56 (.int .i64 2)])∧w'=w:=by
 have hk0:((k:Int) == 0)=false:=by simp;omega
 have hd:decide (kfit k L)=false:=decide_eq_false hf
 have Hk:=hid hk
 have Hv:=hid hv
 clear hf hk hv
 go_enter Tryz.func49,Tryz.ntmps49
 go_wp2_with (first
  | (go_at_call 51;refine(kov_any v _).mono ?_;rintro x1 w1 ⟨rfl,rfl⟩;rw[Hv.out])
  | (go_at_call 23;refine(kfits_any k L Hk.out _).mono ?_;rintro x1 w1 ⟨rfl,rfl⟩;rw[hd]))
 go_ret3
 exact⟨rfl,rfl⟩
set_option maxRecDepth 100000 in
theorem keys_ok (v k:Nat) (hv:kd v=k) (hk:k=1∨k=2) (A:Option Addr) (L c:Nat) (key:Nat→Nat) (w:World) (hf:kfit k L) (hA:A=none→L=0∧c=0) (hb: ∀i,i<L→key i<256) (hR:Reads w w.heap.size A L key):
  Calls Tryz.prog 49 #[.int .u8 (v:Int), .slice A L c] w fun x w'=> ∃v1 v2,x= .returned (.tuple #[v1,v2, .nilIface])∧Mem.Own w' w.heap.size 5 1 v1 L (kyF k L key 0)∧Mem.Own w' w.heap.size 5 1 v2 L (kyF k L key 1)∧Below w.heap.size w w':=by
 have hk0:((k:Int) == 0)=false:=by simp;omega
 have hd:decide (kfit k L)=true:=decide_eq_true hf
 have Hk:=hid hk
 have Hv:=hid hv
 have Hf:=hid hf
 have HA:=hid hA
 have Hb:=hid hb
 have HR:=hid hR
 clear hf hk hv hA hb hR
 go_enter Tryz.func49,Tryz.ntmps49
 go_wp2_with (first
  | (go_at_call 51;refine(kov_any v _).mono ?_;rintro x1 w1 ⟨rfl,rfl⟩;rw[Hv.out])
  | (go_at_call 23;refine(kfits_any k L Hk.out _).mono ?_;rintro x1 w1 ⟨rfl,rfl⟩;rw[hd]))
 refine(derive_any k Hk.out 0 (by omega) A L c key _ Hf.out HA.out Hb.out HR.out).mono ?_
 rintro x3 w3 ⟨v1,rfl,ho1,hB1⟩
 obtain⟨A1,c1,rfl,-⟩:=ho1.slice'
 have HB1:=hid hB1
 have HO1:=hid ho1
 have HR1:=hid ((HR.out.below hB1).more hB1.size)
 clear hB1 ho1
 go_wp2_with fail
 refine(derive_any k Hk.out 1 (by omega) A L c key _ Hf.out HA.out Hb.out HR1.out).mono ?_
 rintro x4 w4 ⟨v2,rfl,ho2,hB2⟩
 obtain⟨A2,c2,rfl,-⟩:=ho2.slice'
 have HB2:=hid (HB1.out.trans (hB2.mono HB1.out.size))
 have HO2:=hid (own_base ho2 HB1.out.size)
 have HO3:=hid (HO1.out.below hB2 (Nat.le_refl _))
 clear hB2 ho2
 go_wp2_with fail
 go_ret3
 exact⟨_,_,rfl,HO3.out,HO2.out,HB2.out⟩
end Go.Proofs.YtlmacfmfmjhidaaGreatDoor.Wr
namespace Go.Proofs.YtlmacfmfmjhidaaGreatDoor.Wr
open Mem Bk Md Mc Hd Dg Go.ChangeShapes Go.WideShapes Go.ChangeAt Go.RowKit
def fillZ (v:Nat) (z:Int):Nat:=if z<0 then 0 else if v=66 then fill 8 z.toNat else if v=68 then fill 16 z.toNat else 0
set_option maxRecDepth 100000 in
theorem fill_any (h:Hd) (z:Int) (w:World):Calls Tryz.prog 19 #[.agg (hdC h), .int .i64 z] w fun e w'=>e= .returned (.int .i64 (fillZ h.v z:Int))∧Below w.heap.size w w':=by
 have hB0:Below w.heap.size w (w.alloc (.cells (hdC h) 24)):=(Below.refl _ _).alloc (Nat.le_refl _) _
 have hc0:(w.alloc (.cells (hdC h) 24)).cell? ⟨w.heap.size,0,none⟩=some (.int .u8 (h.v:Int)):=((Blk.fresh w 24 (hdC h)).cell 0).trans rfl
 have HB0:=hid hB0
 clear hB0
 by_cases hn:z<0
 ·have hf:fillZ h.v z=0:=by unfold fillZ;rw[if_pos hn]
  rw[hf]
  by_cases hb:bz h.v=0
  ·go_enter Tryz.func19,Tryz.ntmps19
   go_wp2_with (first
    | (with_reducible refine wpl_valw rfl _ (exec_ldc 5 _ rfl ⟨w.heap.size,0,none⟩ rfl _ hc0 (.inl ⟨_,Tryz.underlying5⟩)) ?_)
    | (go_at_call 45;refine(bsz_any h.v _).mono ?_;rintro x1 w1 ⟨rfl,rfl⟩;rw[hb]))
   go_ret
   exact⟨rfl,HB0.out⟩
  have hb0:((bz h.v:Int) == 0)=false:=by simp;omega
  go_enter Tryz.func19,Tryz.ntmps19
  go_wp2_with (first
   | (with_reducible refine wpl_valw rfl _ (exec_ldc 5 _ rfl ⟨w.heap.size,0,none⟩ rfl _ hc0 (.inl ⟨_,Tryz.underlying5⟩)) ?_)
   | (go_at_call 45;refine(bsz_any h.v _).mono ?_;rintro x1 w1 ⟨rfl,rfl⟩))
  go_ret
  exact⟨rfl,HB0.out⟩
 obtain⟨n,rfl⟩: ∃n:Nat,z=(n:Int):=⟨z.toNat,by omega⟩
 have hn0: ¬(n:Int)<0:=by omega
 by_cases h1:h.v=66
 ·have hb:(bz h.v:Int)=8:=by unfold bz;rw[if_pos h1];rfl
  have hf:fillZ h.v (n:Int)=fill 8 n:=by unfold fillZ;rw[if_neg hn,if_pos h1];rfl
  rw[hf]
  obtain⟨r,hr⟩: ∃r:Nat,Hid (n%8=r):=⟨_,hid rfl⟩
  obtain⟨u,hu⟩: ∃u:Nat,Hid ((r+2)%8=u):=⟨_,hid rfl⟩
  have hq:Hid (((8-u:Nat):Int)%8=(fill 8 n:Int)):=hid (by unfold fill;rw[hr.out,hu.out];omega)
  have hu8:u<8:=by have:=hu.out;omega
  have hr8:r<8:=by have:=hr.out;omega
  have e1:(0:Int)≤(n:Int)∧(0:Int)<8∧(n:Int)%8=(r:Int):=⟨by omega,by omega,by have:=hr.out;omega⟩
  have e2:(0:Int)≤(r:Int)+2∧(0:Int)<8∧((r:Int)+2)%8=(u:Int):=⟨by omega,by omega,by have:=hu.out;omega⟩
  have e3:(0:Int)≤8-(u:Int)∧(0:Int)<8∧(8-(u:Int))%8=(fill 8 n:Int):=⟨by omega,by omega,by have:=hq.out;omega⟩
  have E1:=hid e1
  have E2:=hid e2
  have E3:=hid e3
  clear e1 e2 e3 hr hu hq
  clear h1 hf hn
  go_enter Tryz.func19,Tryz.ntmps19
  go_wp2_with (first
   | (with_reducible refine wpl_valw rfl _ (exec_ldc 5 _ rfl ⟨w.heap.size,0,none⟩ rfl _ hc0 (.inl ⟨_,Tryz.underlying5⟩)) ?_)
   | (go_at_call 45;refine(bsz_any h.v _).mono ?_;rintro x1 w1 ⟨rfl,rfl⟩;rw[hb])
   | (with_reducible refine wpl_val rfl _ (exec_remN _ _ _ _ rfl _ _ _ rfl rfl E1.out) ?_)
   | (with_reducible refine wpl_val rfl _ (exec_remN _ _ _ _ rfl _ _ _ rfl rfl E2.out) ?_)
   | (with_reducible refine wpl_val rfl _ (exec_remN _ _ _ _ rfl _ _ _ rfl rfl E3.out) ?_))
  go_ret
  exact⟨rfl,HB0.out⟩
 by_cases h2:h.v=68
 ·have hb:(bz h.v:Int)=16:=by unfold bz;rw[if_neg h1,if_pos h2];rfl
  have hf:fillZ h.v (n:Int)=fill 16 n:=by unfold fillZ;rw[if_neg hn,if_neg h1,if_pos h2];rfl
  rw[hf]
  obtain⟨r,hr⟩: ∃r:Nat,Hid (n%16=r):=⟨_,hid rfl⟩
  obtain⟨u,hu⟩: ∃u:Nat,Hid ((r+2)%16=u):=⟨_,hid rfl⟩
  have hq:Hid (((16-u:Nat):Int)%16=(fill 16 n:Int)):=hid (by unfold fill;rw[hr.out,hu.out];omega)
  have hu8:u<16:=by have:=hu.out;omega
  have hr8:r<16:=by have:=hr.out;omega
  have e1:(0:Int)≤(n:Int)∧(0:Int)<16∧(n:Int)%16=(r:Int):=⟨by omega,by omega,by have:=hr.out;omega⟩
  have e2:(0:Int)≤(r:Int)+2∧(0:Int)<16∧((r:Int)+2)%16=(u:Int):=⟨by omega,by omega,by have:=hu.out;omega⟩
  have e3:(0:Int)≤16-(u:Int)∧(0:Int)<16∧(16-(u:Int))%16=(fill 16 n:Int):=⟨by omega,by omega,by have:=hq.out;omega⟩
  have E1:=hid e1
  have E2:=hid e2
  have E3:=hid e3
  clear e1 e2 e3 hr hu hq
  clear h1 h2 hf hn
  go_enter Tryz.func19,Tryz.ntmps19
  go_wp2_with (first
   | (with_reducible refine wpl_valw rfl _ (exec_ldc 5 _ rfl ⟨w.heap.size,0,none⟩ rfl _ hc0 (.inl ⟨_,Tryz.underlying5⟩)) ?_)
   | (go_at_call 45;refine(bsz_any h.v _).mono ?_;rintro x1 w1 ⟨rfl,rfl⟩;rw[hb])
   | (with_reducible refine wpl_val rfl _ (exec_remN _ _ _ _ rfl _ _ _ rfl rfl E1.out) ?_)
   | (with_reducible refine wpl_val rfl _ (exec_remN _ _ _ _ rfl _ _ _ rfl rfl E2.out) ?_)
   | (with_reducible refine wpl_val rfl _ (exec_remN _ _ _ _ rfl _ _ _ rfl rfl E3.out) ?_))
  go_ret
  exact⟨rfl,HB0.out⟩
 have hb:bz h.v=0:=by unfold bz;rw[if_neg h1,if_neg h2]
 have hf:fillZ h.v (n:Int)=0:=by unfold fillZ;rw[if_neg hn,if_neg h1,if_neg h2]
 rw[hf]
 clear h1 h2 hf hn
 go_enter Tryz.func19,Tryz.ntmps19
 go_wp2_with (first
  | (with_reducible refine wpl_valw rfl _ (exec_ldc 5 _ rfl ⟨w.heap.size,0,none⟩ rfl _ hc0 (.inl ⟨_,Tryz.underlying5⟩)) ?_)
  | (go_at_call 45;refine(bsz_any h.v _).mono ?_;rintro x1 w1 ⟨rfl,rfl⟩;rw[hb]))
 go_ret
 exact⟨rfl,HB0.out⟩
theorem fillZ_of {v k n:Nat} (hv:kd v=k) (hk:k=1∨k=2):fillZ v (n:Int)=fill (sz k) n:=by
 unfold kd at hv
 unfold fillZ
 rw[if_neg (by omega)]
 by_cases h1:v=66
 ·rw[if_pos h1] at hv ⊢
  subst hv
  rfl
 rw[if_neg h1] at hv ⊢
 by_cases h2:v=68
 ·rw[if_pos h2] at hv ⊢
  subst hv
  rfl
 rw[if_neg h2] at hv
 omega
def prV (g1 g2:Nat):Array Value:=#[.pointer (some ⟨g1,0,none⟩), .pointer (some ⟨g2,0,none⟩)]
def PairAt (w:World) (k L:Nat) (W:Nat→Nat) (g1 g2:Nat):Prop:=(∃b,CiAt w pz k g1 b L (kyF k L W 0))∧∃b,CiAt w pz k g2 b L (kyF k L W 1)
theorem PairAt.keep {w w':World}{k L:Nat}{W:Nat→Nat}{g1 g2:Nat} (h:PairAt w k L W g1 g2) (hB:Below w.heap.size w w'):PairAt w' k L W g1 g2:=
 ⟨h.1.imp fun _ h=>h.keep hB,h.2.imp fun _ h=>h.keep hB⟩
theorem blk_ne {w:World}{g k:Nat}{t t':TypeId}{cs ds:Array Value} (h:Blk w g t cs) (h':Blk w k t' ds) (ht:t≠t'):g≠k:=fun e=>by
 subst e
 have:=Option.some.inj (h.symm.trans h')
 injection this with _ h2
 exact ht h2
theorem own_pr {w:World}{base n g:Nat}{v:Value}{f:Nat→Nat}{ds:Array Value} (h:Mem.Own w base 5 1 v n f) (hg:Blk w g 51 ds) (cs:Array Value):Mem.Own (w.setRow g cs) base 5 1 v n f:=by
 refine⟨h.1,?_⟩
 rcases h.2 with h2 | ⟨k,cap,cur,hv,hbg,hk,r⟩
 ·exact .inl h2
 exact .inr ⟨k,cap,cur,hv,hbg,(setRow_other w g k cs (blk_ne hk hg (by decide))).trans hk,r⟩
theorem ci_pr {w:World}{k gc base L g:Nat}{key:Nat→Nat}{ds:Array Value} (h:CiAt w pz k gc base L key) (hk:k=1∨k=2) (hg:Blk w g 51 ds) (cs:Array Value):CiAt (w.setRow g cs) pz k gc base L key:=by
 obtain⟨h0,⟨h1,h2,kb,v,h3,h4,h5⟩ | ⟨h1,h2,kb,v,h3,h4,h5⟩ | ⟨h1,_⟩⟩:=h
 ·exact⟨h0, .inl ⟨h1,h2,kb,v,h3.otherRow _ _ (blk_ne h3 hg (by decide)),h4.otherRow _ _ (blk_ne h4 hg (by decide)),own_pr h5 hg cs⟩⟩
 ·exact⟨h0, .inr (.inl ⟨h1,h2,kb,v,h3.otherRow _ _ (blk_ne h3 hg (by decide)),h4.otherRow _ _ (blk_ne h4 hg (by decide)),own_pr h5 hg cs⟩)⟩
 omega
theorem PairAt.store {w:World}{k L:Nat}{W:Nat→Nat}{g1 g2 g:Nat}{ds:Array Value} (h:PairAt w k L W g1 g2) (hk:k=1∨k=2) (hg:Blk w g 51 ds) (cs:Array Value):PairAt (w.setRow g cs) k L W g1 g2:=
 ⟨h.1.imp fun _ h=>ci_pr h hk hg cs,h.2.imp fun _ h=>ci_pr h hk hg cs⟩
theorem iPair:(Tryz.prog.info? 51).map (·.size)=some 2:=by kernel_rfl
def noPr:Array Value:=#[.pointer none, .pointer none]
theorem zPair:(Tryz.prog.info? 51).map (·.zero)=some (some (.agg noPr)):=by kernel_rfl
theorem builtP0:Tryz.prog.built 51 []=some noPr:=by kernel_rfl
theorem oneP0:noPr.all (·.oneCell')=true:=by kernel_rfl
theorem oneP (g1 g2:Nat):(prV g1 g2).all (·.oneCell')=true:=by simp[prV,Value.oneCell']
theorem builtP (g1 g2:Nat):Tryz.prog.built 51 [(0, .pointer (some ⟨g1,0,none⟩)),(1, .pointer (some ⟨g2,0,none⟩))]=some (prV g1 g2):=by kernel_rfl
section
variable {P:Program}{fn:Func}{R:Ending→World→Prop}{a:Act}{w:World}{o:Oper}
theorem ret_cs2 {p q:Tmp}{ty:TypeId} (h:fn.results=#[.cell p ty, .tmp q]) (hd:a.defers=[]) (g:Nat) (hp:a.tmps.getD p undef= .pointer (some ⟨g,0,none⟩)) (v:Value) (hq:a.tmps.getD q undef=v)
  (t:TypeId) (cs:Array Value) (hg:Blk w g t cs) (fs:Array Field) (hu:P.underlying ty=some (.struct fs)) (hi:(P.info? ty).map (·.size)=some cs.size) (hR:R (.returned (.tuple #[.agg cs,v])) w):bodyPost P fn R .ret a w:=by
 refine bodyPost_ret ?_ hd hR
 have hl:=run_loadVar_row (P:=P) w g t ty cs (0,0) _ hg hu rfl hi
 have hp':a.tmps[p]?.getD undef= .pointer (some ⟨g,0,none⟩):=by simpa using hp
 have hq':a.tmps[q]?.getD undef=v:=by simpa using hq
 simp[results,h,hp',hq',asAddr,hl]
theorem wpl_buildP {ops:Array Oper}{rest:List Oper}{Q:Exit→Act→World→Prop} (hgd:o.guard=none) (ty:TypeId) (p q:Operand) (ho:o.op= .build ty #[(0,p),(1,q)]) (x y:Value) (hp:a.eval p=x) (hq:a.eval q=y) (cs:Array Value) (hb:P.built ty [(0,x),(1,y)]=some cs)
  (h:wpList P ops Q rest (a.put o.dst (.agg cs)) w):wpList P ops Q (o::rest) a w:=by
 refine wpList_plain hgd fun _ hK=>?_
 have hr:=run_build (P:=P) w ty #[(0,x),(1,y)] cs hb
 unfold Oper.wp execOp
 simp only[ho,List.map_toArray,List.map_cons,List.map_nil,hp,hq,hr,Sem.run_bind,Sem.run_pure,Result.andThen_ok]
 exact hK _ _ h
end
theorem sizePn:(Tryz.prog.info? 51).map (·.size)=some noPr.size:=iPair
theorem sizeP (g1 g2:Nat):(Tryz.prog.info? 51).map (·.size)=some (prV g1 g2).size:=iPair
theorem pair_size (v k:Nat) (hv:kd v=k) (hk:k=1∨k=2) (A:Option Addr) (L c:Nat) (hf: ¬kfit k L) (w:World):
  Calls Tryz.prog 22 #[.int .u8 (v:Int), .slice A L c] w fun x w'=>x= .returned (.tuple #[.agg noPr, .iface 56 (.int .i64 2)])∧Below w.heap.size w w':=by
 have Hp:=hid (Blk.fresh w 51 noPr)
 have HB:=hid ((Below.refl w.heap.size w).alloc (Nat.le_refl _) (.cells noPr 51))
 have Hk:=hid hk
 have Hv:=hid hv
 have Hf:=hid hf
 clear hk hv hf
 go_enter Tryz.func22,Tryz.ntmps22
 go_wp2_with (first
  | (with_reducible refine wpl_alloc rfl 51 rfl _ zPair ?_)
  | (with_reducible refine wpl_build0 rfl 51 rfl _ builtP0 ?_)
  | (with_reducible refine wpl_storeH rfl 51 _ _ rfl w.heap.size noPr rfl rfl 51 _ Hp.out sizePn rfl oneP0 ?_)
  | (go_at_call 49;refine(keys_size v k Hv.out Hk.out A L c Hf.out _).mono ?_;rintro x1 w1 ⟨rfl,rfl⟩))
 exact ret_cs2 Tryz.results22 rfl w.heap.size rfl _ rfl 51 _ (Hp.out.setRow _) _ Tryz.underlying51 sizePn ⟨rfl,below_setRow' HB.out (Nat.le_refl _) _⟩
set_option maxRecDepth 100000 in
set_option maxHeartbeats 1000000 in
theorem pair_ok (v k:Nat) (hv:kd v=k) (hk:k=1∨k=2) (A:Option Addr) (L c:Nat) (W:Nat→Nat) (w:World) (hf:kfit k L) (hA:A=none→L=0∧c=0) (hb: ∀i,i<L→W i<256) (hR:Reads w w.heap.size A L W):
  Calls Tryz.prog 22 #[.int .u8 (v:Int), .slice A L c] w fun x w'=> ∃g1 g2,x= .returned (.tuple #[.agg (prV g1 g2), .nilIface])∧PairAt w' k L W g1 g2∧Below w.heap.size w w':=by
 have Hp:=hid (Blk.fresh w 51 noPr)
 have hB0:=(Below.refl w.heap.size w).alloc (Nat.le_refl _) (.cells noPr 51)
 have HR:=hid ((hR.below hB0).more hB0.size)
 have HB:=hid hB0
 have Hk:=hid hk
 have Hv:=hid hv
 have Hf:=hid hf
 have HA:=hid hA
 have Hb:=hid hb
 clear hk hv hf hB0 hR hA hb
 go_enter Tryz.func22,Tryz.ntmps22
 go_wp2_with (with_reducible refine wpl_alloc rfl 51 rfl _ zPair ?_)
 refine(keys_ok v k Hv.out Hk.out A L c W _ Hf.out HA.out Hb.out HR.out).mono ?_
 rintro x1 w1 ⟨v1,v2,rfl,ho1,ho2,hB1⟩
 obtain⟨A1,c1,rfl,hc1,hA1,-⟩:=ho1.slice'
 obtain⟨A2,c2,rfl,hc2,hA2,-⟩:=ho2.slice'
 have HR1:=hid ho1.reads
 have HR2:=hid ho2.reads
 have HA1:=hid hA1
 have HA2:=hid hA2
 have Hp1:=hid (Hp.out.below hB1 Hp.out.lt)
 have HB1:=hid (HB.out.trans (hB1.mono HB.out.size))
 clear ho1 ho2 hA1 hA2 Hp hB1 HB HR HA
 go_wp2_with (go_at_call 51;refine(kov_any v _).mono ?_;rintro x2 w2 ⟨rfl,rfl⟩;rw[Hv.out])
 refine(newk k Hk.out A1 L c1 _ _ Hf.out HA1.out (kyF_lt Hf.out Hk.out Hb.out (by omega)) HR1.out).mono ?_
 rintro x3 w3 ⟨g1,rfl,hci1,-,hB3⟩
 have HC1:=hid hci1
 have HR3:=hid ((HR2.out.below hB3).more hB3.size)
 have Hp3:=hid (Hp1.out.below hB3 Hp1.out.lt)
 have HB3:=hid (HB1.out.trans (hB3.mono HB1.out.size))
 clear hci1 hB3 HR1 HR2 Hp1 HB1
 go_wp2_with (go_at_call 51;refine(kov_any v _).mono ?_;rintro x2 w4 ⟨rfl,rfl⟩;rw[Hv.out])
 refine(newk k Hk.out A2 L c2 _ _ Hf.out HA2.out (kyF_lt Hf.out Hk.out Hb.out (by omega)) HR3.out).mono ?_
 rintro x5 w5 ⟨g2,rfl,hci2,-,hB5⟩
 have HP:Hid (PairAt w5 k L W g1 g2):=hid ⟨⟨_,HC1.out.keep hB5⟩,⟨_,hci2⟩⟩
 have Hp5:=hid (Hp3.out.below hB5 Hp3.out.lt)
 have HB5:=hid (HB3.out.trans (hB5.mono HB3.out.size))
 clear hci2 hB5 HR3 HC1 Hp3 HB3
 go_wp2_with (first
  | (with_reducible refine wpl_buildP rfl 51 _ _ rfl _ _ rfl rfl _ (builtP g1 g2) ?_)
  | (with_reducible refine wpl_storeH rfl 51 _ _ rfl w.heap.size (prV g1 g2) rfl rfl 51 _ Hp5.out (sizeP g1 g2) rfl (oneP g1 g2) ?_))
 exact ret_cs2 Tryz.results22 rfl w.heap.size rfl _ rfl 51 _ (Hp5.out.setRow _) _ Tryz.underlying51 (sizeP g1 g2) ⟨g1,g2,rfl,HP.out.store Hk.out Hp5.out _,below_setRow' HB5.out (Nat.le_refl _) _⟩
section
variable {P:Program}{o:Oper}{a:Act}{w:World}
theorem exec_ldP (ty:TypeId) (x:Operand) (ho:o.op= .load ty x) (p:Addr) (hx:a.eval x= .pointer (some p)) (v:Value) (hv:w.cell? p=some v) (hu: ∃k,P.underlying ty=some (.pointer k)):
  (execOp a.eval o).run P w= .ok (.value v) w:=by
 have hr:(Instr.loadAt ty (.pointer (some p))).run P w= .ok v w:=by
  obtain⟨k,hu⟩:=hu
  simp[Instr.loadAt,Instr.sureAddr,loadVar,isAgg,Sem.run_bind,run_underlying hu,hv]
 unfold execOp
 simp only[ho,hx,hr,Sem.run_bind,Sem.run_pure,Result.andThen_ok]
end
theorem psize_any (w:World) (k L:Nat) (W:Nat→Nat) (g1 g2:Nat) (h:PairAt w k L W g1 g2):
  Calls Tryz.prog 27 #[.agg (prV g1 g2)] w fun e w'=>e= .returned (.int .i64 (sz k:Int))∧Below w.heap.size w w':=by
 have hB0:=(Below.refl w.heap.size w).alloc (Nat.le_refl _) (.cells (prV g1 g2) 51)
 have hc0:(w.alloc (.cells (prV g1 g2) 51)).cell? ⟨w.heap.size,0,none⟩=some (.pointer (some ⟨g1,0,none⟩)):=((Blk.fresh w 51 (prV g1 g2)).cell 0).trans rfl
 have H:=hid (h.keep hB0)
 have HB:=hid hB0
 clear h hB0
 go_enter Tryz.func27,Tryz.ntmps27
 go_wp2_with (first
  | (with_reducible refine wpl_valw rfl _ (exec_ldP 49 _ rfl ⟨w.heap.size,0,none⟩ rfl _ hc0 ⟨_,Tryz.underlying49⟩) ?_)
  | (go_at_call 55;obtain⟨b,hc⟩:=H.out.1;refine(size_any _ pz k g1 b L _ hc).mono ?_;rintro x1 w1 ⟨rfl,rfl⟩))
 go_ret
 exact⟨rfl,HB.out⟩
set_option maxRecDepth 100000 in
set_option maxHeartbeats 1000000 in
set_option linter.unusedSimpArgs false in
theorem pcode_any (w:World) (k L:Nat) (W:Nat→Nat) (g1 g2:Nat) (h:PairAt w k L W g1 g2) (hk:k=1∨k=2) (n:Nat) (f:Nat→Nat) (hn:n≤500) (hfb: ∀i,i<n→f i<256) (ad:Addr) (M c:Nat) (tx:Nat→Nat) (hM0:0<M) (hM:M≤400) (htx: ∀i,i<M→tx i<256) (hR:Reads w w.heap.size (some ad) M tx):
  Calls Tryz.prog 56 #[.agg (prV g1 g2), .string (strF n f), .slice (some ad) M c] w fun e w'=> ∃v,e= .returned (.tuple #[v, .nilIface])∧Mem.Own w' w.heap.size 5 1 v (sz k) (cmacF k L (kyF k L W 1) (n+M) (cat n f tx))∧Below w.heap.size w w':=by
 have hB0:=(Below.refl w.heap.size w).alloc (Nat.le_refl _) (.cells (prV g1 g2) 51)
 have H:=hid (h.keep hB0)
 have HR:=hid ((hR.below hB0).more hB0.size)
 have HB:=hid hB0
 have Hp:=hid (Blk.fresh w 51 (prV g1 g2))
 have hsp:=sz_pos k
 have hk3:k≠3:=by omega
 have Hfb:=hid hfb
 have Htx:=hid htx
 have Hct:=hid (show∀i,i<n+M→cat n f tx i<256 from fun i hi=>by
  unfold cat
  split
  ·exact hfb i (by assumption)
  exact htx _ (by omega))
 clear h hB0 hR hfb htx
 go_enter Tryz.func56,Tryz.ntmps56
 go_wp2_with fail
 generalize hw1:w.alloc (.cells (prV g1 g2) 51)=w1 at H HR HB Hp ⊢
 have hc1:w1.cell? ⟨w.heap.size,1,none⟩=some (.pointer (some ⟨g2,0,none⟩)):=(Hp.out.cell 1).trans rfl
 have hlt:w.heap.size<w1.heap.size:=Hp.out.lt
 clear hw1
 refine wp_region_held_drew (S:=fun W=>Below w1.heap.size w1 W) (by kernel_rfl) (Below.refl _ _).drew (fun hS0=>?_)
 refine ztk (i:=0) (v:= .pointer (some ⟨w.heap.size,1,none⟩)) rfl (fun W _=>by go_simp) hS0 ?_
 (try simp only[Act.put,zza,zzb,zzc,zzd,zze,zzf])
 refine ztk (i:=1) (v:= .pointer (some ⟨g2,0,none⟩)) rfl (fun W hW=>exec_ldP 49 _ rfl ⟨w.heap.size,1,none⟩ rfl _ ((hW.cell (p:=⟨w.heap.size,1,none⟩) hlt).trans hc1) ⟨_,Tryz.underlying49⟩) hS0 ?_
 (try simp only[Act.put,zza,zzb,zzc,zzd,zze,zzf])
 refine ztk (i:=2) (v:= .string (strF n f)) rfl (fun _ _=>exec_move _ rfl _ rfl) hS0 ?_
 (try simp only[Act.put,zza,zzb,zzc,zzd,zze,zzf])
 refine ztk (i:=4) (v:= .slice (some ad) M c) rfl (fun _ _=>exec_move _ rfl _ rfl) hS0 ?_
 (try simp only[Act.put,zza,zzb,zzc,zzd,zze,zzf])
 refine ztk (i:=6) (v:= .agg (prV g1 g2)) rfl (fun W hW=>exec_ldcs 51 _ rfl w.heap.size rfl 51 _ (Hp.out.below hW Hp.out.lt) _ Tryz.underlying51 (sizeP g1 g2)) hS0 ?_
 (try simp only[Act.put,zza,zzb,zzc,zzd,zze,zzf])
 refine wpAnyH_ready (rs:=[3]) (by kernel_rfl) (by simp) (AllReadyH.cons rfl (fun K hK=>?_) AllReadyH.nil)
 (try simp only[Act.put,zza,zzb,zzc,zzd,zze,zzf])
 refine Eq.mpr (if_pos (by rfl)) ?_
 refine wp_vw _ (exec_bytes _ rfl n f rfl) ?_
 have hcv:=cv_new w1.drew n f (by omega) Hfb.out
 have hbb:=below_bytes w1.drew 5 (strF n f)
 have hgz:=hS0.size
 refine hK.out _ _ (hS0.trans (hbb.mono hS0.size)) (fun hS1=>?_)
 (try simp only[Act.put,zza,zzb,zzc,zzd,zze,zzf])
 clear hK K
 generalize hwb:Lib.bytesWorld w1.drew 5 (strF n f)=wb at*
 clear hwb
 have hRb:=(HR.out.below hS1).more (hS1).size
 refine wpAnyH_ready (rs:=[5]) (by kernel_rfl) (by simp) (AllReadyH.cons rfl (fun K hK=>?_) AllReadyH.nil)
 (try simp only[Act.put,zza,zzb,zzc,zzd,zze,zzf])
 refine Eq.mpr (if_pos (by rfl)) ?_
 refine wp_app_cv _ _ rfl _ n _ f rfl hcv ad M c tx _ hRb rfl hM0 (by omega) ?_
 intro g3 c3 w3 hc3 hR3 hB3
 refine hK.out _ _ (hS1.trans (hB3.mono hgz)) (fun hS2=>?_)
 (try simp only[Act.put,zza,zzb,zzc,zzd,zze,zzf])
 clear hK K
 refine wpAnyH_ready (rs:=[7]) (by kernel_rfl) (by simp) (AllReadyH.cons rfl (fun K hK=>?_) AllReadyH.nil)
 (try simp only[Act.put,zza,zzb,zzc,zzd,zze,zzf])
 refine Eq.mpr (if_pos (by rfl)) ?_
 go_simp
 refine(psize_any _ k L W g1 g2 (H.out.keep hS2)).mono ?_
 rintro e wq3 ⟨rfl,hB4⟩
 have hR4:=(hR3.below hB4).more hB4.size
 refine hK.out _ _ (hS2.trans (hB4.mono hS2.size)) (fun hS3=>?_)
 (try simp only[Act.put,zza,zzb,zzc,zzd,zze,zzf])
 clear hK K
 refine wpAnyH_ready (rs:=[8]) (by kernel_rfl) (by simp) (AllReadyH.cons rfl (fun K hK=>?_) AllReadyH.nil)
 (try simp only[Act.put,zza,zzb,zzc,zzd,zze,zzf])
 refine Eq.mpr (if_pos (by rfl)) ?_
 go_simp
 refine(cmac_any _ pz k g2 _ L _ (some ⟨g3,0,none⟩) (n+M) c3 (cat n f tx) (sz k) hk3 (H.out.2.choose_spec.keep hS3) (by omega) hsp (Nat.le_refl _) (fun h=>by cases h) Hct.out hR4).mono ?_
 rintro e wq4 ⟨v5,rfl,ho5,hB5⟩
 have hgz5:=hS3.size
 refine hK.out _ _ (hS3.trans (hB5.mono hS3.size)) (fun hS4=>?_)
 (try simp only[Act.put,zza,zzb,zzc,zzd,zze,zzf])
 clear hK K
 refine ztk (i:=9) (v:=v5) rfl (fun _ _=>exec_extract _ 0 rfl _ rfl _ rfl) hS4 ?_
 (try simp only[Act.put,zza,zzb,zzc,zzd,zze,zzf])
 refine ztk (i:=10) (v:= .nilIface) rfl (fun _ _=>exec_extract _ 1 rfl _ rfl _ rfl) hS4 ?_
 (try simp only[Act.put,zza,zzb,zzc,zzd,zze,zzf])
 refine ztk (i:=11) (v:=v5) rfl (fun _ _=>exec_assign _ rfl _ rfl) hS4 ?_
 (try simp only[Act.put,zza,zzb,zzc,zzd,zze,zzf])
 refine ztk (i:=12) (v:= .nilIface) rfl (fun _ _=>exec_assign _ rfl _ rfl) hS4 ?_
 (try simp only[Act.put,zza,zzb,zzc,zzd,zze,zzf])
 refine wpAnyH_done (by kernel_rfl) ?_ _
 obtain⟨A5,c5,rfl,-⟩:=ho5.slice'
 go_wp2_with fail
 go_ret2
 exact⟨_,rfl,own_base ho5 (Nat.le_trans HB.out.size hgz5),HB.out.trans (hS4.mono HB.out.size)⟩
theorem cells_reads {w:World}{ad:Addr}{n:Nat}{f:Nat→Nat} (h:Reads w w.heap.size (some ad) n f) (hn:0<n):ad.block<w.heap.size∧∀i,i<n→w.cell? (ad.add i)=some (.int .u8 ((f i:Nat):Int)):=by
 obtain⟨ad',he,h1,h2⟩:=h hn
 cases he
 exact⟨h1,h2⟩
set_option maxRecDepth 100000 in
set_option maxHeartbeats 1000000 in
theorem seal_any (w:World) (k L:Nat) (W:Nat→Nat) (g1 g2:Nat) (h:PairAt w k L W g1 g2) (hk:k=1∨k=2) (hf:kfit k L) (hb: ∀i,i<L→W i<256) (n:Nat) (f:Nat→Nat) (hn:n≤500) (hfb: ∀i,i<n→f i<256) (ad:Addr) (M N c:Nat) (tx:Nat→Nat) (hM0:0<M) (hM:M≤400) (hMN:M=N*sz k) (hc:M≤c) (htx: ∀i,i<M→tx i<256) (hR:Reads w w.heap.size (some ad) M tx)
  (cd hd:Nat→Nat) (hcd:cd=cmacF k L (kyF k L W 1) (n+M) (cat n f tx)) (hhd:hd=chainF k L (kyF k L W 0) false cd tx N):
  Calls Tryz.prog 28 #[.agg (prV g1 g2), .string (strF n f), .slice (some ad) M c] w fun e w'=>e= .returned (.tuple #[.string (strF (n+2*M+2*sz k) (cat (n+2*M) (cat n f (hexF hd)) (hexF cd))), .nilIface])∧Below w.heap.size w w':=by
 have hsp:=sz_pos k
 have hso:=sz_or k
 have hk3:k≠3:=by omega
 have hfit:=kfit_fits hf hk
 have hct: ∀i,i<n+M→cat n f tx i<256:=fun i hi=>by
  unfold cat
  split
  ·exact hfb i (by assumption)
  exact htx _ (by omega)
 have hcb: ∀i,i<sz k→cd i<256:=hcd▸cmac_lt hfit hk3 (kyF_lt hf hk hb (by omega)) hct
 have hhb: ∀i,i<M→hd i<256:=fun i hi=>by
  subst hMN
  rw[hhd]
  exact chain_lt hfit hk3 (kyF_lt hf hk hb (by omega)) hcb htx i hi
 have hB0:=(Below.refl w.heap.size w).alloc (Nat.le_refl _) (.cells (prV g1 g2) 51)
 have H:=hid (h.keep hB0)
 have HR:=hid ((hR.below hB0).more hB0.size)
 have HB:=hid hB0
 have Hp:=hid (Blk.fresh w 51 (prV g1 g2))
 have Hfb:=hid hfb
 have Htx:=hid htx
 have Hcb:=hid hcb
 have Hhb:=hid hhb
 have Hcd:=hid hcd
 have Hhd:=hid hhd
 have HMN:=hid hMN
 clear h hB0 hR hfb htx hct hb hf hfit hcb hhb hcd hhd hMN
 go_enter Tryz.func28,Tryz.ntmps28
 go_wp2_with (with_reducible refine wpl_valw rfl _ (exec_ldcs 51 _ rfl w.heap.size rfl 51 _ Hp.out _ Tryz.underlying51 (sizeP g1 g2)) ?_)
 refine(pcode_any _ k L W g1 g2 H.out hk n f hn Hfb.out ad M c tx hM0 hM Htx.out HR.out).mono ?_
 rintro x1 w1 ⟨v1,rfl,ho1,hB1⟩
 rw[← Hcd.out] at ho1
 obtain⟨gc,cc,rfl,hcc⟩:=own_at ho1 hsp
 have H1:=hid (H.out.keep hB1)
 have HR1:=hid ((HR.out.below hB1).more hB1.size)
 have Hp1:=hid (Hp.out.below hB1 Hp.out.lt)
 have HB1:=hid (HB.out.trans (hB1.mono HB.out.size))
 have HC1:=hid ho1.reads
 have hc0:w1.cell? ⟨w.heap.size,0,none⟩=some (.pointer (some ⟨g1,0,none⟩)):=(Hp1.out.cell 0).trans rfl
 clear ho1 hB1 HR H Hp HB
 go_wp2_with (with_reducible refine wpl_valw rfl _ (exec_ldP 49 _ rfl ⟨w.heap.size,0,none⟩ rfl _ hc0 ⟨_,Tryz.underlying49⟩) ?_)
 obtain⟨b1,hci⟩:=H1.out.1
 refine(chained_any _ pz k g1 b1 L _ ⟨gc,0,none⟩ cc cd (some ad) N M c false tx hk3 hci HMN.out (by omega) hc (fun h=>by cases h) Htx.out HR1.out (cells_reads HC1.out hsp).1 (cells_reads HC1.out hsp).2 Hcb.out).mono ?_
 rintro x2 w2 ⟨v2,rfl,ho2,hB2⟩
 rw[← Hhd.out] at ho2
 obtain⟨gh,ch,rfl,hch⟩:=own_at ho2 hM0
 have HH2:=hid ho2.reads
 have HC2:=hid ((HC1.out.below hB2).more hB2.size)
 have HB2:=hid (HB1.out.trans (hB2.mono HB1.out.size))
 clear ho2 hB2 hci hc0 HR1 H1 Hp1 HB1 HC1
 go_wp2_with fail
 refine(Dg.hex_any _ M ch hd _ (by omega) Hhb.out HH2.out).mono ?_
 rintro x3 w3 ⟨rfl,hB3⟩
 have HC3:=hid ((HC2.out.below hB3).more hB3.size)
 have HB3:=hid (HB2.out.trans (hB3.mono HB2.out.size))
 clear hB3 HC2 HB2 HH2
 go_wp2_with (with_reducible refine wpl_val rfl _ (exec_cat _ _ _ _ rfl n (2*M) f (Dg.hexF hd) rfl rfl (by omega)) ?_)
 refine(Dg.hex_any _ (sz k) cc cd _ (by omega) Hcb.out HC3.out).mono ?_
 rintro x4 w4 ⟨rfl,hB4⟩
 have HB4:=hid (HB3.out.trans (hB4.mono HB3.out.size))
 clear hB4 HC3 HB3
 go_wp2_with (with_reducible refine wpl_val rfl _ (exec_cat _ _ _ _ rfl (n+2*M) (2*sz k) _ (Dg.hexF cd) rfl rfl (by omega)) ?_)
 go_ret2
 exact⟨rfl,HB4.out⟩
end Go.Proofs.YtlmacfmfmjhidaaGreatDoor.Wr
namespace Go.Proofs.YtlmacfmfmjhidaaGreatDoor.Wr
open Mem Bk Md Mc Hd Dg As Go.ChangeShapes Go.WideShapes Go.ChangeAt Go.RowKit
def triLen (L1 L2 L3 k:Nat):Nat:=if k=0 then 0 else if k=1 then L1 else if k=2 then L1+L2 else L1+L2+L3
theorem tri0 {L1 L2:Nat}{f1 f2 f3:Nat→Nat}{i:Nat} (hi:i<L1):cat 0 (cat (L1+L2) (cat L1 f1 f2) f3) f1 i=cat (L1+L2) (cat L1 f1 f2) f3 i:=by
 show(if i<0 then cat (L1+L2) (cat L1 f1 f2) f3 i else f1 (i-0))=(if i<L1+L2 then(if i<L1 then f1 i else f2 (i-L1)) else f3 (i-(L1+L2)))
 rw[if_neg (by omega),if_pos (by omega),if_pos hi]
 rfl
theorem tri1 {L1 L2:Nat}{f1 f2 f3:Nat→Nat}{i:Nat} (hi:i<L1+L2):cat L1 (cat (L1+L2) (cat L1 f1 f2) f3) f2 i=cat (L1+L2) (cat L1 f1 f2) f3 i:=by
 show(if i<L1 then cat (L1+L2) (cat L1 f1 f2) f3 i else f2 (i-L1))=(if i<L1+L2 then(if i<L1 then f1 i else f2 (i-L1)) else f3 (i-(L1+L2)))
 by_cases h:i<L1
 ·rw[if_pos h]
  rfl
 rw[if_neg h,if_pos hi,if_neg h]
theorem tri2 {L1 L2:Nat}{f1 f2 f3:Nat→Nat} (i:Nat):cat (L1+L2) (cat (L1+L2) (cat L1 f1 f2) f3) f3 i=cat (L1+L2) (cat L1 f1 f2) f3 i:=by
 show(if i<L1+L2 then cat (L1+L2) (cat L1 f1 f2) f3 i else f3 (i-(L1+L2)))=(if i<L1+L2 then cat L1 f1 f2 i else f3 (i-(L1+L2)))
 by_cases h:i<L1+L2
 ·rw[if_pos h,if_pos h]
  show(if i<L1+L2 then cat L1 f1 f2 i else f3 (i-(L1+L2)))=_
  rw[if_pos h]
 rw[if_neg h,if_neg h]
set_option maxRecDepth 100000 in
set_option maxHeartbeats 2000000 in
theorem concat3_any (g:Nat) (A1 A2 A3:Option Addr) (L1 L2 L3 c1 c2 c3:Nat) (f1 f2 f3:Nat→Nat) (h1:0<L1) (h2:0<L2) (h3:0<L3) (hL:L1+L2+L3≤1000) (w:World) (hb:Blk w g 22 #[.slice A1 L1 c1, .slice A2 L2 c2, .slice A3 L3 c3]) (hR1:Reads w w.heap.size A1 L1 f1) (hR2:Reads w w.heap.size A2 L2 f2) (hR3:Reads w w.heap.size A3 L3 f3):
  Calls Tryz.prog 52 #[.slice (some ⟨g,0,none⟩) 3 3] w fun e w'=> ∃A c,e= .returned (.slice A (L1+L2+L3) c)∧L1+L2+L3≤c∧Reads w' w'.heap.size A (L1+L2+L3) (cat (L1+L2) (cat L1 f1 f2) f3)∧Below w.heap.size w w':=by
 have hc0:w.cell? ⟨g,0,none⟩=some (.slice A1 L1 c1):=hb.cell 0
 have hc1:w.cell? ⟨g,1,none⟩=some (.slice A2 L2 c2):=hb.cell 1
 have hc2:w.cell? ⟨g,2,none⟩=some (.slice A3 L3 c3):=hb.cell 2
 have hg:=hb.lt
 have HR1:=hid hR1
 have HR2:=hid hR2
 have HR3:=hid hR3
 clear hR1 hR2 hR3
 go_enter Tryz.func52,Tryz.ntmps52
 go_wp2_with fail
 go_loop [3,11] (fun n i=> ∃k:Nat,k≤3∧n= .int .i64 (triLen L1 L2 L3 k:Nat)∧i= .int .i64 k) (fun _ i=>3-(intOf i).toNat)
 case atStart=>exact⟨0,by omega,rfl,rfl⟩
 case round=>
  obtain⟨k,hk,rfl,rfl⟩:=hrel
  rcases(show k=0∨k=1∨k=2∨k=3 by omega) with rfl | rfl | rfl | rfl
  ·have et:triLen L1 L2 L3 0=0:=rfl
   go_wp2_with (first
    | (with_reducible refine wpl_slb rfl 126 _ _ rfl _ _ _ rfl .i64 _ rfl 0 rfl 22 Tryz.underlying126 (by omega) iS8 ?_)
    | (with_reducible refine wpl_lds rfl 22 _ rfl _ rfl 5 Tryz.underlying22 _ hc0 ?_))
   exact⟨⟨1,by omega,val_int (by show _=((L1:Nat):Int);omega),rfl⟩,by simp[intOf]⟩
  ·have et:triLen L1 L2 L3 1=L1:=rfl
   go_wp2_with (first
    | (with_reducible refine wpl_slb rfl 126 _ _ rfl _ _ _ rfl .i64 _ rfl 1 rfl 22 Tryz.underlying126 (by omega) iS8 ?_)
    | (with_reducible refine wpl_lds rfl 22 _ rfl _ rfl 5 Tryz.underlying22 _ hc1 ?_))
   exact⟨⟨2,by omega,val_int (by show _=((L1+L2:Nat):Int);omega),rfl⟩,by simp[intOf]⟩
  ·have et:triLen L1 L2 L3 2=L1+L2:=rfl
   go_wp2_with (first
    | (with_reducible refine wpl_slb rfl 126 _ _ rfl _ _ _ rfl .i64 _ rfl 2 rfl 22 Tryz.underlying126 (by omega) iS8 ?_)
    | (with_reducible refine wpl_lds rfl 22 _ rfl _ rfl 5 Tryz.underlying22 _ hc2 ?_))
   exact⟨⟨3,by omega,val_int (by show _=((L1+L2+L3:Nat):Int);omega),rfl⟩,by simp[intOf]⟩
  have et:triLen L1 L2 L3 3=L1+L2+L3:=rfl
  go_wp2_with fail
  refine(grow_of _ (L1+L2+L3) (by omega) (by omega) hL _).mono ?_
  rintro e w1 ⟨c,rfl,hc,ho,hB⟩
  have HR1a:Hid (∀wx,Below w.heap.size w wx→Reads wx w.heap.size A1 L1 f1):=hid (fun _ h=>HR1.out.below h)
  have HR2a:Hid (∀wx,Below w.heap.size w wx→Reads wx w.heap.size A2 L2 f2):=hid (fun _ h=>HR2.out.below h)
  have HR3a:Hid (∀wx,Below w.heap.size w wx→Reads wx w.heap.size A3 L3 f3):=hid (fun _ h=>HR3.out.below h)
  have HD0:=hid hc0
  have HD1:=hid hc1
  have HD2:=hid hc2
  clear HR1 HR2 HR3 hc0 hc1 hc2 hb et
  go_wp2_with fail
  go_loopw [6,8,27] (fun v _ i wr=> ∃k:Nat,k≤3∧Mem.Own wr w.heap.size 5 1 v (triLen L1 L2 L3 k) (cat (L1+L2) (cat L1 f1 f2) f3)∧i= .int .i64 k∧Below w.heap.size w wr) (fun _ _ i _=>3-(intOf i).toNat)
  case atStart=>exact⟨0,by omega,ho.ext (fun i hi=>by omega),rfl,hB⟩
  case round=>
   clear ho hB
   obtain⟨k,hk,ho,rfl,hB⟩:=hrel
   rcases(show k=0∨k=1∨k=2∨k=3 by omega) with rfl | rfl | rfl | rfl
   ·have hq:triLen L1 L2 L3 0+L1≤1000000:=by show 0+L1≤_;omega
    have hRa:=HR1a.out wr hB
    have hda:wr.cell? ⟨g,0,none⟩=some (.slice A1 L1 c1):=(hB.cell (p:=⟨g,0,none⟩) hg).trans HD0.out
    go_wp2_with (first
     | (with_reducible refine wpl_slb rfl 126 _ _ rfl _ _ _ rfl .i64 _ rfl 0 rfl 22 Tryz.underlying126 (by omega) iS8 ?_)
     | (with_reducible refine wpl_lds rfl 22 _ rfl _ rfl 5 Tryz.underlying22 _ hda ?_)
     | (at_builtin;refine wpl_app_src rfl _ _ 22 rfl w.heap.size 5 (.int .u8 0) Tryz.underlying22 info8c rfl _ _ _ rfl ho A1 L1 c1 f1 _ hRa h1 rfl hq hB.size ?_))
    intro v2 w2 ho2 hB2
    go_wp2_with fail
    refine⟨⟨1,by omega,?_,rfl,hB.trans (hB2.mono (Nat.le_refl _))⟩,by simp[intOf]⟩
    have:=ho2.ext (g:=cat (L1+L2) (cat L1 f1 f2) f3) (fun i hi=>tri0 (by have h9:i< (0+L1)*1:=hi;omega))
    simpa [triLen] using this
   ·have hq:triLen L1 L2 L3 1+L2≤1000000:=by show L1+L2≤_;omega
    have hRa:=HR2a.out wr hB
    have hda:wr.cell? ⟨g,1,none⟩=some (.slice A2 L2 c2):=(hB.cell (p:=⟨g,1,none⟩) hg).trans HD1.out
    go_wp2_with (first
     | (with_reducible refine wpl_slb rfl 126 _ _ rfl _ _ _ rfl .i64 _ rfl 1 rfl 22 Tryz.underlying126 (by omega) iS8 ?_)
     | (with_reducible refine wpl_lds rfl 22 _ rfl _ rfl 5 Tryz.underlying22 _ hda ?_)
     | (at_builtin;refine wpl_app_src rfl _ _ 22 rfl w.heap.size 5 (.int .u8 0) Tryz.underlying22 info8c rfl _ _ _ rfl ho A2 L2 c2 f2 _ hRa h2 rfl hq hB.size ?_))
    intro v2 w2 ho2 hB2
    go_wp2_with fail
    refine⟨⟨2,by omega,?_,rfl,hB.trans (hB2.mono (Nat.le_refl _))⟩,by simp[intOf]⟩
    have:=ho2.ext (g:=cat (L1+L2) (cat L1 f1 f2) f3) (fun i hi=>tri1 (by have h9:i< (L1+L2)*1:=hi;omega))
    simpa [triLen] using this
   ·have hq:triLen L1 L2 L3 2+L3≤1000000:=by show L1+L2+L3≤_;omega
    have hRa:=HR3a.out wr hB
    have hda:wr.cell? ⟨g,2,none⟩=some (.slice A3 L3 c3):=(hB.cell (p:=⟨g,2,none⟩) hg).trans HD2.out
    go_wp2_with (first
     | (with_reducible refine wpl_slb rfl 126 _ _ rfl _ _ _ rfl .i64 _ rfl 2 rfl 22 Tryz.underlying126 (by omega) iS8 ?_)
     | (with_reducible refine wpl_lds rfl 22 _ rfl _ rfl 5 Tryz.underlying22 _ hda ?_)
     | (at_builtin;refine wpl_app_src rfl _ _ 22 rfl w.heap.size 5 (.int .u8 0) Tryz.underlying22 info8c rfl _ _ _ rfl ho A3 L3 c3 f3 _ hRa h3 rfl hq hB.size ?_))
    intro v2 w2 ho2 hB2
    go_wp2_with fail
    refine⟨⟨3,by omega,?_,rfl,hB.trans (hB2.mono (Nat.le_refl _))⟩,by simp[intOf]⟩
    have:=ho2.ext (g:=cat (L1+L2) (cat L1 f1 f2) f3) (fun i _=>tri2 i)
    simpa [triLen] using this
   go_wp2_with fail
   obtain⟨A,c',rfl,hc'⟩:=ho.slice
   go_ret
   exact⟨A,c',rfl,hc',ho.reads,hB⟩
theorem bs3W (A0 A1 A2:Option Addr) (n0 c0 n1 c1 n2 c2:Nat) (w:World):(Instr.buildSlice 126 3 #[(0, .slice A0 n0 c0),(1, .slice A1 n1 c1),(2, .slice A2 n2 c2)]).run Tryz.prog w= .ok (.slice (some ⟨w.heap.size,0,none⟩) 3 3) (w.alloc (.cells #[.slice A0 n0 c0, .slice A1 n1 c1, .slice A2 n2 c2] 22)):=by kernel_rfl
set_option maxRecDepth 100000 in
theorem lay_any (A A':Option Addr) (L c Lf c' M:Nat) (hM:M=2+L+Lf) (key fl:Nat→Nat) (w:World) (hL:L=16∨L=24∨L=32) (hf0:0<Lf) (hf:Lf≤16) (hR:Reads w w.heap.size A L key) (hR2:Reads w w.heap.size A' Lf fl):
  Calls Tryz.prog 25 #[.slice A L c, .slice A' Lf c'] w fun e w'=> ∃ad c2,e= .returned (.slice (some ad) M c2)∧M≤c2∧Reads w' w'.heap.size (some ad) M (txF L key fl)∧Below w.heap.size w w':=by
 subst hM
 have hB0:=(Below.refl w.heap.size w).alloc (Nat.le_refl _) (.cells (row 2 (b8 (btF L))) 5)
 have hB1:=hB0.alloc hB0.size (.cells #[.slice (some ⟨w.heap.size,0,none⟩) 2 2, .slice A L c, .slice A' Lf c'] 22)
 have HB:=hid hB1
 have HRb:=hid (((Blk.reads (Blk.fresh w 5 (row 2 (b8 (btF L))))).below (Below.refl _ _ |>.alloc (Nat.le_refl _) (.cells #[.slice (some ⟨w.heap.size,0,none⟩) 2 2, .slice A L c, .slice A' Lf c'] 22))).more (Nat.le_of_lt (by simp)):Reads ((w.alloc (.cells (row 2 (b8 (btF L))) 5)).alloc (.cells #[.slice (some ⟨w.heap.size,0,none⟩) 2 2, .slice A L c, .slice A' Lf c'] 22)) ((w.alloc (.cells (row 2 (b8 (btF L))) 5)).alloc (.cells #[.slice (some ⟨w.heap.size,0,none⟩) 2 2, .slice A L c, .slice A' Lf c'] 22)).heap.size (some ⟨w.heap.size,0,none⟩) 2 (btF L))
 have HR:=hid ((hR.below hB1).more hB1.size)
 have HR2:=hid ((hR2.below hB1).more hB1.size)
 have HS:=hid (Blk.fresh (w.alloc (.cells (row 2 (b8 (btF L))) 5)) 22 #[.slice (some ⟨w.heap.size,0,none⟩) 2 2, .slice A L c, .slice A' Lf c'])
 have h3:=bs3W
 have HL:=hid hL
 have hL3:0<L∧L≤32:=by omega
 clear hB0 hB1 hR hR2 hL
 go_enter Tryz.func25,Tryz.ntmps25
 go_wp2_with (go_at_call 53;refine(bits_any A L c _ HL.out).mono ?_;rintro x1 w1 ⟨rfl,rfl⟩)
 refine(concat3_any _ (some ⟨w.heap.size,0,none⟩) A A' 2 L Lf 2 c c' (btF L) key fl (by omega) hL3.1 hf0 (by omega) _ (by simpa using HS.out) HRb.out HR.out HR2.out).mono ?_
 rintro x2 w2 ⟨A2,c2,rfl,hc2,hR2,hB2⟩
 obtain⟨ad,rfl,-⟩:=hR2 (by omega)
 have HR2:=hid hR2
 have HB2:=hid (HB.out.trans (hB2.mono HB.out.size))
 clear hR2 hB2 h3
 go_wp2_with fail
 go_ret
 exact⟨_,_,rfl,hc2,HR2.out,HB2.out⟩
def EA (v:Value) (c a:Int) (w:World):Prop:=
 (v= .nilIface∧c=0∧a= -1)∨(v= .iface 56 (.int .i64 c)∧a= -1)∨(∃g,v= .iface 65 (.pointer (some ⟨g,0,none⟩))∧Blk w g 68 #[.int .i64 a, .iface 56 (.int .i64 c)])∨
 ∃g g0 z,v= .iface 65 (.pointer (some ⟨g,0,none⟩))∧Blk w g 68 #[.int .i64 a, .iface 65 (.pointer (some ⟨g0,0,none⟩))]∧Blk w g0 68 #[z, .iface 56 (.int .i64 c)]
theorem EA.below {v:Value}{c a:Int}{w w':World} (h:EA v c a w) (hB:Below w.heap.size w w'):EA v c a w':=by
 rcases h with h | h | ⟨g,h1,h2⟩ | ⟨g,g0,z,h1,h2,h3⟩
 ·exact .inl h
 ·exact .inr (.inl h)
 ·exact .inr (.inr (.inl ⟨g,h1,h2.below hB h2.lt⟩))
 exact .inr (.inr (.inr ⟨g,g0,z,h1,h2.below hB h2.lt,h3.below hB h3.lt⟩))
theorem EA.head {v:Value}{c a:Int}{w:World}{k:Nat}{ds:Array Value} (h:EA v c a w) (hk:Blk w k 24 ds) (cs:Array Value):EA v c a (w.setRow k cs):=by
 rcases h with h | h | ⟨g,h1,h2⟩ | ⟨g,g0,z,h1,h2,h3⟩
 ·exact .inl h
 ·exact .inr (.inl h)
 ·exact .inr (.inr (.inl ⟨g,h1,h2.otherRow _ _ (blk_ne h2 hk (by decide))⟩))
 exact .inr (.inr (.inr ⟨g,g0,z,h1,h2.otherRow _ _ (blk_ne h2 hk (by decide)),h3.otherRow _ _ (blk_ne h3 hk (by decide))⟩))
theorem EA.code {v:Value}{c a:Int}{w:World} (h:EA v c a w) (hg:Laid w):Calls Tryz.prog 9 #[v] w fun e w2=>e= .returned (.int .i64 c)∧Below w.heap.size w w2:=by
 rcases h with⟨rfl,rfl,-⟩ | ⟨rfl,-⟩ | ⟨g,rfl,h2⟩ | ⟨g,g0,z,rfl,h2,h3⟩
 ·exact code_nil w
 ·exact code_hit c w hg
 ·exact code_fault c g w hg (h2.cell 1)
 exact code_fault2 c g g0 w hg (h2.cell 1) (h3.cell 1)
theorem EA.at {v:Value}{c a:Int}{w:World} (h:EA v c a w) (hg:Laid w):Calls Tryz.prog 10 #[v] w fun e w2=>e= .returned (.int .i64 a)∧Below w.heap.size w w2:=by
 rcases h with⟨rfl,-,rfl⟩ | ⟨rfl,rfl⟩ | ⟨g,rfl,h2⟩ | ⟨g,g0,z,rfl,h2,h3⟩
 ·exact at_nil w
 ·exact at_errno c w hg
 ·exact at_fault a _ g w hg h2
 exact at_fault a _ g w hg h2
theorem ea_nil (w:World):EA .nilIface 0 (-1) w:= .inl ⟨rfl,rfl,rfl⟩
theorem ea_no (n:Int) (w:World):EA (.iface 56 (.int .i64 n)) n (-1) w:= .inr (.inl ⟨rfl,rfl⟩)
theorem ea_fault {w:World}{g:Nat}{z n:Int} (h:Blk w g 68 #[.int .i64 z, .iface 56 (.int .i64 n)]):EA (.iface 65 (.pointer (some ⟨g,0,none⟩))) n z w:= .inr (.inr (.inl ⟨g,rfl,h⟩))
theorem wrong_kd {h:Hd} (hw:wrong h= -1):kd h.v=1∨kd h.v=2:=by
 have hv:verB h.v=true:=by
  cases hv:verB h.v
  ·rw[wrong,if_pos hv] at hw
   cases hw
  rfl
 simp only[verB,Bool.or_eq_true,beq_iff_eq] at hv
 unfold kd
 rcases hv with h | h
 ·rw[if_pos h];exact .inr rfl
 rw[if_neg (by omega),if_pos h];exact .inl rfl
theorem wrong_ka {h:Hd} (hw:wrong h= -1):ka h.a=1∨ka h.a=2:=by
 have hv:algB h.a=true:=by
  cases hv:algB h.a
  ·exfalso
   unfold wrong at hw
   (repeat' split at hw)<;>simp_all
  rfl
 simp only[algB,Bool.or_eq_true,beq_iff_eq] at hv
 unfold ka
 rcases hv with h | h
 ·rw[if_pos h];exact .inr rfl
 rw[if_neg (by omega),if_pos h];exact .inl rfl
set_option maxRecDepth 100000 in
theorem wrap_head (A A2 A3:Option Addr) (L c L2 c2 L3 c3:Nat) (h:Hd) (ok:h.Ok) (hw:0≤wrong h) (w:World) (hg:Laid w):
  Calls Tryz.prog 7 #[.slice A L c, .agg (hdC h), .slice A2 L2 c2, .slice A3 L3 c3] w fun e w'=>Below w.heap.size w w'∧∃v,e= .returned (.tuple #[.string ⟨#[]⟩,v])∧EA v 6 (wrong h) w':=by
 have hB0:=(Below.refl w.heap.size w).alloc (Nat.le_refl _) (.cells (hdC h) 24)
 have Hh:=hid (Blk.fresh w 24 (hdC h))
 have HB:=hid hB0
 have HG:=hid (hg.below hB0)
 have HR:=hid (right_any h ok)
 have Hw:=hid hw
 clear hB0 hw hg ok HG
 go_enter Tryz.func7,Tryz.ntmps7
 go_wp2_with (first
  | (with_reducible refine wpl_valw rfl _ (exec_ldcs 24 _ rfl w.heap.size rfl 24 _ Hh.out _ Tryz.underlying24 (sizeC _)) ?_))
 refine(HR.out _).mono ?_
 rintro e w1 ⟨hB1,v1,rfl,ho⟩
 rcases ho with⟨ho,-⟩ | ⟨-,g1,hg1,rfl,hb⟩
 ·have:=Hw.out
  omega
 have HE:=hid (ea_fault hb)
 have HB1:=hid (HB.out.trans (hB1.mono HB.out.size))
 clear hB1 hb hg1 HR
 go_wp2_with fail
 go_ret2
 exact⟨HB1.out,_,rfl,HE.out⟩
set_option maxRecDepth 100000 in
theorem wrap_keys (A A2 A3:Option Addr) (L c L2 c2 L3 c3 k:Nat) (h:Hd) (ok:h.Ok) (hw:wrong h= -1) (hv:kd h.v=k) (hf: ¬kfit k L) (w:World):
  Calls Tryz.prog 7 #[.slice A L c, .agg (hdC h), .slice A2 L2 c2, .slice A3 L3 c3] w fun e w'=>Below w.heap.size w w'∧e= .returned (.tuple #[.string ⟨#[]⟩, .iface 56 (.int .i64 2)]):=by
 have hB0:=(Below.refl w.heap.size w).alloc (Nat.le_refl _) (.cells (hdC h) 24)
 have Hh:=hid (Blk.fresh w 24 (hdC h))
 have HB:=hid hB0
 have HR:=hid (right_any h ok)
 have Hk:Hid (k=1∨k=2):=hid (hv▸wrong_kd hw)
 rw[hw] at HR
 have Hv:=hid hv
 have Hf:=hid hf
 clear hB0 hw ok hv hf
 go_enter Tryz.func7,Tryz.ntmps7
 go_wp2_with (with_reducible refine wpl_valw rfl _ (exec_ldcs 24 _ rfl w.heap.size rfl 24 _ Hh.out _ Tryz.underlying24 (sizeC _)) ?_)
 refine(HR.out _).mono ?_
 rintro e w1 ⟨hB1,v1,rfl,ho⟩
 rcases ho with⟨-,rfl⟩ | ⟨ho,-⟩
 rotate_left
 ·omega
 have HB1:=hid (HB.out.trans (hB1.mono HB.out.size))
 have Hh1:=hid (Hh.out.below hB1 Hh.out.lt)
 have hcv:w1.cell? ⟨w.heap.size,0,none⟩=some (.int .u8 (h.v:Int)):=(Hh1.out.cell 0).trans rfl
 clear hB1 HR HB Hh
 go_wp2_with (with_reducible refine wpl_valw rfl _ (exec_ldc 5 _ rfl ⟨w.heap.size,0,none⟩ rfl _ hcv (.inl ⟨_,Tryz.underlying5⟩)) ?_)
 refine(pair_size h.v k Hv.out Hk.out A L c Hf.out _).mono ?_
 rintro e w2 ⟨rfl,hB2⟩
 have HB2:=hid (HB1.out.trans (hB2.mono HB1.out.size))
 have HP2:=hid (Blk.fresh w2 51 noPr)
 have HB3:=hid (HB2.out.alloc HB2.out.size (.cells noPr 51))
 clear hB2 HB1 hcv Hh1
 go_wp2_with (first
  | (with_reducible refine wpl_alloc rfl 51 rfl _ zPair ?_)
  | (with_reducible refine wpl_storeH rfl 51 _ _ rfl w2.heap.size noPr rfl rfl 51 _ HP2.out sizePn rfl oneP0 ?_))
 go_ret2
 exact⟨below_setRow' HB3.out HB2.out.size _,rfl⟩
set_option maxRecDepth 100000 in
set_option maxHeartbeats 1000000 in
theorem wrap_size1 (A A2 A3:Option Addr) (L c L2 c2 L3 c3 k:Nat) (W:Nat→Nat) (h:Hd) (ok:h.Ok) (hw:wrong h= -1) (hv:kd h.v=k) (hf:kfit k L) (hA:A=none→L=0∧c=0) (hb: ∀i,i<L→W i<256) (w:World) (hX:Reads w w.heap.size A L W) (hn: ¬kfit (ka h.a) L2):
  Calls Tryz.prog 7 #[.slice A L c, .agg (hdC h), .slice A2 L2 c2, .slice A3 L3 c3] w fun e w'=>Below w.heap.size w w'∧e= .returned (.tuple #[.string ⟨#[]⟩, .iface 56 (.int .i64 2)]):=by
 have hB0:=(Below.refl w.heap.size w).alloc (Nat.le_refl _) (.cells (hdC h) 24)
 have Hh:=hid (Blk.fresh w 24 (hdC h))
 have HB:=hid hB0
 have HR:=hid (right_any h ok)
 have Hk:Hid (k=1∨k=2):=hid (hv▸wrong_kd hw)
 have Hka:=hid (wrong_ka hw)
 have Hw:=hid hw
 rw[hw] at HR
 have Hv:=hid hv
 have Hf:=hid hf
 have HA:=hid hA
 have Hb:=hid hb
 have HX:=hid ((hX.below hB0).more hB0.size)
 have hdk:decide (kfit (ka h.a) L2)=false:=decide_eq_false hn
 clear hn hB0 hw ok hv hf hA hb hX
 go_enter Tryz.func7,Tryz.ntmps7
 go_wp2_with (with_reducible refine wpl_valw rfl _ (exec_ldcs 24 _ rfl w.heap.size rfl 24 _ Hh.out _ Tryz.underlying24 (sizeC _)) ?_)
 refine(HR.out _).mono ?_
 rintro e w1 ⟨hB1,v1,rfl,ho⟩
 rcases ho with⟨-,rfl⟩ | ⟨ho,-⟩
 rotate_left
 ·omega
 have HB1:=hid (HB.out.trans (hB1.mono HB.out.size))
 have Hh1:=hid (Hh.out.below hB1 Hh.out.lt)
 have HX1:=hid ((HX.out.below hB1).more hB1.size)
 have hcv:w1.cell? ⟨w.heap.size,0,none⟩=some (.int .u8 (h.v:Int)):=(Hh1.out.cell 0).trans rfl
 clear hB1 HR HB Hh HX
 go_wp2_with (with_reducible refine wpl_valw rfl _ (exec_ldc 5 _ rfl ⟨w.heap.size,0,none⟩ rfl _ hcv (.inl ⟨_,Tryz.underlying5⟩)) ?_)
 refine(pair_ok h.v k Hv.out Hk.out A L c W _ Hf.out HA.out Hb.out HX1.out).mono ?_
 rintro e w2 ⟨g1,g2,rfl,hP2,hB2⟩
 have HB2:=hid (HB1.out.trans (hB2.mono HB1.out.size))
 have HP2:=hid (Blk.fresh w2 51 noPr)
 have hB3:=(Below.refl w2.heap.size w2).alloc (Nat.le_refl _) (.cells noPr 51)
 have hB4:Below w2.heap.size w2 ((w2.alloc (.cells noPr 51)).setRow w2.heap.size (prV g1 g2)):=below_setRow' hB3 (Nat.le_refl _) _
 have HQ4:=hid ((hP2.keep hB3).store Hk.out HP2.out (prV g1 g2))
 have HP4:=hid (HP2.out.setRow (prV g1 g2))
 have Hh4:=hid ((Hh1.out.below hB2 Hh1.out.lt).below hB4 (Nat.lt_of_lt_of_le Hh1.out.lt hB2.size))
 have HB4:=hid (HB2.out.trans (hB4.mono HB2.out.size))
 have hca:((w2.alloc (.cells noPr 51)).setRow w2.heap.size (prV g1 g2)).cell? ⟨w.heap.size,2,none⟩=some (.int .u8 (h.a:Int)):=(Hh4.out.cell 2).trans rfl
 clear hP2 hB2 HB1 hcv Hh1 HX1 hB3 hB4 HB2
 go_wp2_with (first
  | (with_reducible refine wpl_alloc rfl 51 rfl _ zPair ?_)
  | (with_reducible refine wpl_storeH rfl 51 _ _ rfl w2.heap.size (prV g1 g2) rfl rfl 51 _ HP2.out (sizeP g1 g2) rfl (oneP g1 g2) ?_)
  | (with_reducible refine wpl_valw rfl _ (exec_ldc 5 _ rfl ⟨w.heap.size,2,none⟩ rfl _ hca (.inl ⟨_,Tryz.underlying5⟩)) ?_)
  | (go_at_call 24;refine(koa_any h.a _).mono ?_;rintro x3 w3 ⟨rfl,rfl⟩)
  | (go_at_call 23;refine(kfits_any (ka h.a) L2 Hka.out _).mono ?_;rintro x3 w3 ⟨rfl,rfl⟩;rw[hdk]))
 go_ret2
 exact⟨HB4.out,rfl⟩
set_option maxRecDepth 100000 in
set_option maxHeartbeats 1000000 in
theorem wrap_size2 (A A2 A3:Option Addr) (L c L2 c2 L3 c3 k:Nat) (W:Nat→Nat) (h:Hd) (ok:h.Ok) (hw:wrong h= -1) (hv:kd h.v=k) (hf:kfit k L) (hA:A=none→L=0∧c=0) (hb: ∀i,i<L→W i<256) (w:World) (hX:Reads w w.heap.size A L W) (hn:kfit (ka h.a) L2) (hn3:L3≠fill (sz k) L2):
  Calls Tryz.prog 7 #[.slice A L c, .agg (hdC h), .slice A2 L2 c2, .slice A3 L3 c3] w fun e w'=>Below w.heap.size w w'∧e= .returned (.tuple #[.string ⟨#[]⟩, .iface 56 (.int .i64 2)]):=by
 have hB0:=(Below.refl w.heap.size w).alloc (Nat.le_refl _) (.cells (hdC h) 24)
 have Hh:=hid (Blk.fresh w 24 (hdC h))
 have HB:=hid hB0
 have HR:=hid (right_any h ok)
 have Hk:Hid (k=1∨k=2):=hid (hv▸wrong_kd hw)
 have Hka:=hid (wrong_ka hw)
 have Hw:=hid hw
 rw[hw] at HR
 have Hv:=hid hv
 have Hf:=hid hf
 have HA:=hid hA
 have Hb:=hid hb
 have HX:=hid ((hX.below hB0).more hB0.size)
 have hdk:decide (kfit (ka h.a) L2)=true:=decide_eq_true hn
 have HF:=hid (fillZ_of (n:=L2) hv (hv▸wrong_kd hw))
 have hne:((L3:Int) != (fill (sz k) L2:Int))=true:=by simp;omega
 clear hn hn3 hB0 hw ok hv hf hA hb hX
 go_enter Tryz.func7,Tryz.ntmps7
 go_wp2_with (with_reducible refine wpl_valw rfl _ (exec_ldcs 24 _ rfl w.heap.size rfl 24 _ Hh.out _ Tryz.underlying24 (sizeC _)) ?_)
 refine(HR.out _).mono ?_
 rintro e w1 ⟨hB1,v1,rfl,ho⟩
 rcases ho with⟨-,rfl⟩ | ⟨ho,-⟩
 rotate_left
 ·omega
 have HB1:=hid (HB.out.trans (hB1.mono HB.out.size))
 have Hh1:=hid (Hh.out.below hB1 Hh.out.lt)
 have HX1:=hid ((HX.out.below hB1).more hB1.size)
 have hcv:w1.cell? ⟨w.heap.size,0,none⟩=some (.int .u8 (h.v:Int)):=(Hh1.out.cell 0).trans rfl
 clear hB1 HR HB Hh HX
 go_wp2_with (with_reducible refine wpl_valw rfl _ (exec_ldc 5 _ rfl ⟨w.heap.size,0,none⟩ rfl _ hcv (.inl ⟨_,Tryz.underlying5⟩)) ?_)
 refine(pair_ok h.v k Hv.out Hk.out A L c W _ Hf.out HA.out Hb.out HX1.out).mono ?_
 rintro e w2 ⟨g1,g2,rfl,hP2,hB2⟩
 have HB2:=hid (HB1.out.trans (hB2.mono HB1.out.size))
 have HP2:=hid (Blk.fresh w2 51 noPr)
 have hB3:=(Below.refl w2.heap.size w2).alloc (Nat.le_refl _) (.cells noPr 51)
 have hB4:Below w2.heap.size w2 ((w2.alloc (.cells noPr 51)).setRow w2.heap.size (prV g1 g2)):=below_setRow' hB3 (Nat.le_refl _) _
 have HQ4:=hid ((hP2.keep hB3).store Hk.out HP2.out (prV g1 g2))
 have HP4:=hid (HP2.out.setRow (prV g1 g2))
 have Hh4:=hid ((Hh1.out.below hB2 Hh1.out.lt).below hB4 (Nat.lt_of_lt_of_le Hh1.out.lt hB2.size))
 have HB4:=hid (HB2.out.trans (hB4.mono HB2.out.size))
 have hca:((w2.alloc (.cells noPr 51)).setRow w2.heap.size (prV g1 g2)).cell? ⟨w.heap.size,2,none⟩=some (.int .u8 (h.a:Int)):=(Hh4.out.cell 2).trans rfl
 clear hP2 hB2 HB1 hcv Hh1 HX1 hB3 hB4 HB2
 go_wp2_with (first
  | (with_reducible refine wpl_alloc rfl 51 rfl _ zPair ?_)
  | (with_reducible refine wpl_storeH rfl 51 _ _ rfl w2.heap.size (prV g1 g2) rfl rfl 51 _ HP2.out (sizeP g1 g2) rfl (oneP g1 g2) ?_)
  | (with_reducible refine wpl_valw rfl _ (exec_ldc 5 _ rfl ⟨w.heap.size,2,none⟩ rfl _ hca (.inl ⟨_,Tryz.underlying5⟩)) ?_)
  | ((with_reducible refine wpg_val ?_ _ (exec_ldcs 24 _ rfl w.heap.size rfl 24 _ Hh4.out _ Tryz.underlying24 (sizeC _)) ?_);exact rfl)
  | (go_at_call 24;refine(koa_any h.a _).mono ?_;rintro x3 w3 ⟨rfl,rfl⟩)
  | (go_at_call 23;refine(kfits_any (ka h.a) L2 Hka.out _).mono ?_;rintro x3 w3 ⟨rfl,rfl⟩;rw[hdk])
  | (go_at_call 19;refine(fill_any h (L2:Int) _).mono ?_;rintro x5 w5 ⟨rfl,hB5⟩;rw[HF.out];have HB5:=hid (HB4.out.trans (hB5.mono HB4.out.size));clear hB5))
 go_ret2
 exact⟨HB5.out,rfl⟩
section
variable {P:Program}{o:Oper}{a:Act}{w:World}
theorem exec_addN (t:TypeId) (x y:Operand) (rt:TypeId) (ho:o.op= .binOp .add t x y rt) (p q r:Int) (hx:a.eval x= .int .i64 p) (hy:a.eval y= .int .i64 q) (h:p+q=r∧0≤r∧r≤100000):(execOp a.eval o).run P w= .ok (.value (.int .i64 r)) w:=
 exec_arith .add (.inl rfl) t x y rt ho p q hx hy r h.1 (by have:=h.2;omega) (by have:=h.2;omega)
end
theorem whole_tx {k L Lf:Nat} (hk:k=1∨k=2) (hL:L=16∨L=24∨L=32) (hf:Lf=fill (sz k) L): ∃N,2+L+Lf=N*sz k∧0<Lf∧Lf≤16∧0<N:=by
 rcases hk with rfl | rfl<;>rcases hL with rfl | rfl | rfl<;>subst hf
 ·exact⟨2,rfl,by decide,by decide,by decide⟩
 ·exact⟨2,rfl,by decide,by decide,by decide⟩
 ·exact⟨3,rfl,by decide,by decide,by decide⟩
 ·exact⟨3,rfl,by decide,by decide,by decide⟩
 ·exact⟨4,rfl,by decide,by decide,by decide⟩
 exact⟨5,rfl,by decide,by decide,by decide⟩
theorem txF_lt {L Lf:Nat}{key fl:Nat→Nat} (hk: ∀i,i<L→key i<256) (hf: ∀i,i<Lf→fl i<256): ∀i,i<2+L+Lf→txF L key fl i<256:=fun i hi=>by
 unfold txF cat
 split
 ·split
  ·exact btF_lt _ _
  exact hk _ (by omega)
 exact hf _ (by omega)
theorem prF_lt {h:Hd} (ok:h.Ok) (n:Nat): ∀i,i<16→prF h n i<256:=fun i _=>by
 obtain⟨hv,hf,ha,hk,hg,hx⟩:=ok
 unfold prF
 repeat' split
 all_goals first
  | exact hv
  | exact dgF_lt _ _
  | exact hf _
  | exact ha
  | exact hk
  | exact hg _
  | exact hx
  | decide
set_option maxRecDepth 100000 in
set_option maxHeartbeats 2000000 in
set_option linter.unusedSimpArgs false in
theorem wrap_ok (A A2 A3:Option Addr) (L c L2 c2 L3 c3 k:Nat) (W key fl:Nat→Nat) (h:Hd) (ok:h.Ok) (hw:wrong h= -1) (hv:kd h.v=k) (hf:kfit k L) (hA:A=none→L=0∧c=0) (hb: ∀i,i<L→W i<256) (w:World) (hX:Reads w w.heap.size A L W) (hn:kfit (ka h.a) L2) (hn3:L3=fill (sz k) L2)
  (hK:Reads w w.heap.size A2 L2 key) (hkb: ∀i,i<L2→key i<256) (hL:Reads w w.heap.size A3 L3 fl) (hlb: ∀i,i<L3→fl i<256) (hT:Tab w) (M N T:Nat) (hM:M=2+L2+L3) (hMN:M=N*sz k) (hTT:T=16+2*M+2*sz k) (tx cd hd:Nat→Nat) (htx:tx=txF L2 key fl) (hcd:cd=cdF k L W M (prF h T) tx) (hhd:hd=hdF k L W M cd tx):
  Calls Tryz.prog 7 #[.slice A L c, .agg (hdC h), .slice A2 L2 c2, .slice A3 L3 c3] w fun e w'=>Below w.heap.size w w'∧e= .returned (.tuple #[.string (strF T (blF M (prF h T) hd cd)), .nilIface]):=by
 have hB0:=(Below.refl w.heap.size w).alloc (Nat.le_refl _) (.cells (hdC h) 24)
 have Hh:=hid (Blk.fresh w 24 (hdC h))
 have HB:=hid hB0
 have HR:=hid (right_any h ok)
 have Hk:Hid (k=1∨k=2):=hid (hv▸wrong_kd hw)
 have Hka:=hid (wrong_ka hw)
 have Hw:=hid hw
 rw[hw] at HR
 have Hv:=hid hv
 have Hf:=hid hf
 have HA:=hid hA
 have Hb:=hid hb
 have HX:=hid ((hX.below hB0).more hB0.size)
 have hdk:decide (kfit (ka h.a) L2)=true:=decide_eq_true hn
 have HF:=hid (fillZ_of (n:=L2) hv (hv▸wrong_kd hw))
 have hne:((L3:Int) != (fill (sz k) L2:Int))=false:=by simp;omega
 have Hok:=hid ok
 have HL2:Hid (L2=16∨L2=24∨L2=32):=hid (by unfold kfit at hn;omega)
 have hL2:16≤L2∧L2≤32:=by have:=HL2.out;omega
 obtain⟨N',hN,h30,h316,-⟩:=whole_tx (hv▸wrong_kd hw) HL2.out hn3
 have hsp:=sz_pos k
 have hso:=sz_or k
 have HK:=hid ((hK.below hB0).more hB0.size)
 have HL:=hid ((hL.below hB0).more hB0.size)
 have HT:=hid (hT.below hB0)
 have Hkb:=hid hkb
 have Hlb:=hid hlb
 have HMe:=hid hM
 have HMN:=hid hMN
 have HTT:=hid hTT
 have Hcd:=hid hcd
 have Hhd:=hid hhd
 have HM0:0<M:=by omega
 have HM4:M≤400:=by omega
 have hT1:16≤T:=by omega
 have hT2:T≤9999:=by omega
 have Hmz:Hid (M/sz k=N):=hid (by rw[hMN];exact Nat.mul_div_cancel _ hsp)
 have Htb:Hid (∀i,i<M→tx i<256):=hid (by rw[hM,htx];exact txF_lt hkb hlb)
 have Htx:=hid htx
 clear hN hK hL hT hkb hlb hM hMN hTT hcd hhd htx
 clear hn hn3 hB0 hw ok hv hf hA hb hX
 go_enter Tryz.func7,Tryz.ntmps7
 go_wp2_with (with_reducible refine wpl_valw rfl _ (exec_ldcs 24 _ rfl w.heap.size rfl 24 _ Hh.out _ Tryz.underlying24 (sizeC _)) ?_)
 refine(HR.out _).mono ?_
 rintro e w1 ⟨hB1,v1,rfl,ho⟩
 rcases ho with⟨-,rfl⟩ | ⟨ho,-⟩
 rotate_left
 ·omega
 have HB1:=hid (HB.out.trans (hB1.mono HB.out.size))
 have Hh1:=hid (Hh.out.below hB1 Hh.out.lt)
 have HX1:=hid ((HX.out.below hB1).more hB1.size)
 have HK1:=hid ((HK.out.below hB1).more hB1.size)
 have HL1:=hid ((HL.out.below hB1).more hB1.size)
 have HT1:=hid (HT.out.below hB1)
 have hcv:w1.cell? ⟨w.heap.size,0,none⟩=some (.int .u8 (h.v:Int)):=(Hh1.out.cell 0).trans rfl
 clear hB1 HR HB Hh HX
 go_wp2_with (with_reducible refine wpl_valw rfl _ (exec_ldc 5 _ rfl ⟨w.heap.size,0,none⟩ rfl _ hcv (.inl ⟨_,Tryz.underlying5⟩)) ?_)
 refine(pair_ok h.v k Hv.out Hk.out A L c W _ Hf.out HA.out Hb.out HX1.out).mono ?_
 rintro e w2 ⟨g1,g2,rfl,hP2,hB2⟩
 have HB2:=hid (HB1.out.trans (hB2.mono HB1.out.size))
 have HP2:=hid (Blk.fresh w2 51 noPr)
 have hB3:=(Below.refl w2.heap.size w2).alloc (Nat.le_refl _) (.cells noPr 51)
 have hB4:Below w2.heap.size w2 ((w2.alloc (.cells noPr 51)).setRow w2.heap.size (prV g1 g2)):=below_setRow' hB3 (Nat.le_refl _) _
 have HQ4:=hid ((hP2.keep hB3).store Hk.out HP2.out (prV g1 g2))
 have HP4:=hid (HP2.out.setRow (prV g1 g2))
 have Hh4:=hid ((Hh1.out.below hB2 Hh1.out.lt).below hB4 (Nat.lt_of_lt_of_le Hh1.out.lt hB2.size))
 have HB4:=hid (HB2.out.trans (hB4.mono HB2.out.size))
 have hca:((w2.alloc (.cells noPr 51)).setRow w2.heap.size (prV g1 g2)).cell? ⟨w.heap.size,2,none⟩=some (.int .u8 (h.a:Int)):=(Hh4.out.cell 2).trans rfl
 have HK4:=hid ((((HK1.out.below hB2).more hB2.size).below hB4).more hB4.size)
 have HL4:=hid ((((HL1.out.below hB2).more hB2.size).below hB4).more hB4.size)
 have HT4:=hid ((HT1.out.below hB2).below hB4)
 have hw2:w2.heap.size< ((w2.alloc (.cells noPr 51)).setRow w2.heap.size (prV g1 g2)).heap.size:=by simp
 clear hP2 hB2 HB1 hcv Hh1 HX1 hB3 hB4 HB2
 go_wp2_with (first
  | (with_reducible refine wpl_alloc rfl 51 rfl _ zPair ?_)
  | (with_reducible refine wpl_storeH rfl 51 _ _ rfl w2.heap.size (prV g1 g2) rfl rfl 51 _ HP2.out (sizeP g1 g2) rfl (oneP g1 g2) ?_)
  | (with_reducible refine wpl_valw rfl _ (exec_ldc 5 _ rfl ⟨w.heap.size,2,none⟩ rfl _ hca (.inl ⟨_,Tryz.underlying5⟩)) ?_)
  | ((with_reducible refine wpg_val ?_ _ (exec_ldcs 24 _ rfl w.heap.size rfl 24 _ Hh4.out _ Tryz.underlying24 (sizeC _)) ?_);exact rfl)
  | (go_at_call 24;refine(koa_any h.a _).mono ?_;rintro x3 w3 ⟨rfl,rfl⟩)
  | (go_at_call 23;refine(kfits_any (ka h.a) L2 Hka.out _).mono ?_;rintro x3 w3 ⟨rfl,rfl⟩;rw[hdk])
  | (go_at_call 19;refine(fill_any h (L2:Int) _).mono ?_;rintro x5 w5 ⟨rfl,hB5⟩;rw[HF.out];have HB5:=hid (HB4.out.trans (hB5.mono HB4.out.size));have HK5:=hid ((HK4.out.below hB5).more hB5.size);have HL5:=hid ((HL4.out.below hB5).more hB5.size);have HT5:=hid (HT4.out.below hB5);have HQ5:=hid (HQ4.out.keep hB5);have HP5:=hid (HP4.out.below hB5 HP4.out.lt);have Hh5:=hid (Hh4.out.below hB5 Hh4.out.lt);clear hB5 HB4 HK4 HL4 HT4 HQ4 HP4 Hh4 hca))
 refine(lay_any A2 A3 L2 c2 L3 c3 M HMe.out key fl _ HL2.out h30 h316 HK5.out HL5.out).mono ?_
 rintro e w6 ⟨ad,c6,rfl,hc6,hR6,hB6⟩
 have HT6:=hid (HT5.out.below hB6)
 have HQ6:=hid (HQ5.out.keep hB6)
 have HP6:=hid (HP5.out.below hB6 HP5.out.lt)
 have Hh6:=hid (Hh5.out.below hB6 Hh5.out.lt)
 have HB6:=hid (HB5.out.trans (hB6.mono HB5.out.size))
 have HR6:Hid (Reads w6 w6.heap.size (some ad) M tx):=hid (by rw[Htx.out];exact hR6)
 clear hB6 hR6 HT5 HQ5 HP5 Hh5 HB5 HK5 HL5
 go_wp2_with fail
 refine wp_region_held_drew (S:=fun W=>Below w6.heap.size w6 W) (by kernel_rfl) (Below.refl _ _).drew (fun hS0=>?_)
 refine ztk (i:=0) (v:= .agg (hdC h)) rfl (fun W hW=>exec_ldcs 24 _ rfl w.heap.size rfl 24 _ (Hh6.out.below hW Hh6.out.lt) _ Tryz.underlying24 (sizeC _)) hS0 ?_
 (try simp only[Act.put,zza,zzb,zzc,zzd,zze,zzf])
 refine ztk (i:=1) (v:= .slice (some ad) M c6) rfl (fun _ _=>exec_move _ rfl _ rfl) hS0 ?_
 (try simp only[Act.put,zza,zzb,zzc,zzd,zze,zzf])
 refine ztk (i:=2) (v:= .int .i64 (M:Int)) rfl (fun W _=>by go_simp) hS0 ?_
 (try simp only[Act.put,zza,zzb,zzc,zzd,zze,zzf])
 refine ztk (i:=3) (v:= .agg (prV g1 g2)) rfl (fun W hW=>exec_ldcs 51 _ rfl w2.heap.size rfl 51 _ (HP6.out.below hW HP6.out.lt) _ Tryz.underlying51 (sizeP g1 g2)) hS0 ?_
 (try simp only[Act.put,zza,zzb,zzc,zzd,zze,zzf])
 refine wpAnyH_ready (rs:=[4]) (by kernel_rfl) (by simp) (AllReadyH.cons rfl (fun K hK=>?_) AllReadyH.nil)
 (try simp only[Act.put,zza,zzb,zzc,zzd,zze,zzf])
 refine Eq.mpr (if_pos (by rfl)) ?_
 go_simp
 refine(psize_any _ k L W g1 g2 (HQ6.out.keep hS0)).mono ?_
 rintro e wq1 ⟨rfl,hB7⟩
 refine hK.out _ _ (hS0.trans (hB7.mono hS0.size)) (fun hS1=>?_)
 (try simp only[Act.put,zza,zzb,zzc,zzd,zze,zzf])
 clear hK K
 refine ztk (i:=5) (v:= .int .i64 ((M+sz k:Nat):Int)) rfl (fun _ _=>exec_addN _ _ _ _ rfl _ _ _ rfl rfl ⟨by omega,by omega,by omega⟩) hS1 ?_
 (try simp only[Act.put,zza,zzb,zzc,zzd,zze,zzf])
 refine ztk (i:=6) (v:= .int .i64 ((2*(M+sz k):Nat):Int)) rfl (fun _ _=>exec_mulN _ _ _ _ rfl _ _ _ rfl rfl ⟨by omega,by omega,by omega⟩) hS1 ?_
 (try simp only[Act.put,zza,zzb,zzc,zzd,zze,zzf])
 refine ztk (i:=7) (v:= .int .i64 (T:Int)) rfl (fun _ _=>exec_addN _ _ _ _ rfl _ _ _ rfl rfl ⟨by have:=HTT.out;omega,by omega,by omega⟩) hS1 ?_
 (try simp only[Act.put,zza,zzb,zzc,zzd,zze,zzf])
 refine wpAnyH_ready (rs:=[8]) (by kernel_rfl) (by simp) (AllReadyH.cons rfl (fun K hK=>?_) AllReadyH.nil)
 (try simp only[Act.put,zza,zzb,zzc,zzd,zze,zzf])
 refine Eq.mpr (if_pos (by rfl)) ?_
 go_simp
 refine(print_ok h Hok.out Hw.out T hT1 hT2 _ (HT6.out.below hS1)).mono ?_
 rintro e wq2 ⟨rfl,hB8⟩
 refine hK.out _ _ (hS1.trans (hB8.mono hS1.size)) (fun hS2=>?_)
 (try simp only[Act.put,zza,zzb,zzc,zzd,zze,zzf])
 clear hK K
 refine ztk (i:=9) (v:= .tuple #[.string (strF 16 (prF h T)), .nilIface]) rfl (fun _ _=>exec_move _ rfl _ rfl) hS2 ?_
 (try simp only[Act.put,zza,zzb,zzc,zzd,zze,zzf])
 refine ztk (i:=10) (v:= .string (strF 16 (prF h T))) rfl (fun _ _=>exec_extract _ 0 rfl _ rfl _ rfl) hS2 ?_
 (try simp only[Act.put,zza,zzb,zzc,zzd,zze,zzf])
 refine ztk (i:=11) (v:= .nilIface) rfl (fun _ _=>exec_extract _ 1 rfl _ rfl _ rfl) hS2 ?_
 (try simp only[Act.put,zza,zzb,zzc,zzd,zze,zzf])
 refine ztk (i:=12) (v:= .string (strF 16 (prF h T))) rfl (fun _ _=>exec_assign _ rfl _ rfl) hS2 ?_
 (try simp only[Act.put,zza,zzb,zzc,zzd,zze,zzf])
 refine ztk (i:=13) (v:= .nilIface) rfl (fun _ _=>exec_assign _ rfl _ rfl) hS2 ?_
 (try simp only[Act.put,zza,zzb,zzc,zzd,zze,zzf])
 refine wpAnyH_done (by kernel_rfl) ?_ _
 have HQ8:=hid (HQ6.out.keep hS2)
 have HP8:=hid (HP6.out.below hS2 HP6.out.lt)
 have HR8:=hid ((HR6.out.below hS2).more (hS2).size)
 have HB8:=hid (HB6.out.trans (hS2.mono HB6.out.size))
 clear hS0 hS1 hS2 hB7 hB8 HQ6 HP6 HR6 HB6 Hh6 HT6
 go_wp2_with (with_reducible refine wpl_valw rfl _ (exec_ldcs 51 _ rfl w2.heap.size rfl 51 _ HP8.out _ Tryz.underlying51 (sizeP g1 g2)) ?_)
 refine(seal_any _ k L W g1 g2 HQ8.out Hk.out Hf.out Hb.out 16 (prF h T) (by omega) (prF_lt Hok.out T) ad M N c6 tx HM0 HM4 HMN.out hc6 Htb.out HR8.out cd hd Hcd.out (by rw[Hhd.out];unfold hdF;rw[Hmz.out])).mono ?_
 rintro e w9 ⟨rfl,hB9⟩
 rw[← HTT.out]
 have HB9:=hid (HB8.out.trans (hB9.mono HB8.out.size))
 clear hB9
 go_wp2_with fail
 go_ret2
 exact⟨HB9.out,rfl⟩
end Go.Proofs.YtlmacfmfmjhidaaGreatDoor.Wr
namespace Go.Proofs.YtlmacfmfmjhidaaGreatDoor.Wr
open Mem Bk Md Mc Hd Dg As Go.ChangeShapes Go.WideShapes Go.ChangeAt Go.RowKit
theorem behind_any (i:Nat) (hi:i≤100000) (g0:Nat) (w:World) (hg:Laid w) (hF:Blk w g0 68 #[.int .i64 (i:Int), .iface 56 (.int .i64 16)]):
  Calls Tryz.prog 72 #[.iface 65 (.pointer (some ⟨g0,0,none⟩))] w fun e w'=> ∃g,e= .returned (.iface 65 (.pointer (some ⟨g,0,none⟩)))∧EA (.iface 65 (.pointer (some ⟨g,0,none⟩))) 16 ((16+i:Nat):Int) w'∧Below w.heap.size w w':=by
 have HF:=hid hF
 have HG:=hid hg
 have hg0:=hF.lt
 clear hg hF
 go_enter Tryz.func72,Tryz.ntmps72
 go_wp2_with (go_at_call 31;refine(as_box ⟨g0,0,none⟩ w HG.out).mono ?_;rintro e w1 ⟨rfl,hB1,hc1⟩;have hF1:=HF.out.below hB1 hg0;have hc0:w1.cell? ⟨g0,0,none⟩=some (.int .i64 (i:Int)):=(hF1.cell 0).trans rfl;have HF1:=hid hF1;have HB1:=hid hB1;clear hF1 hB1)
 go_ret
 have hb:=Blk.fresh w1 68 #[.int .i64 (16+(i:Int)), .iface 65 (.pointer (some ⟨g0,0,none⟩))]
 have hb2:=HF1.out.alloc (.cells #[.int .i64 (16+(i:Int)), .iface 65 (.pointer (some ⟨g0,0,none⟩))] 68)
 exact⟨_,rfl, .inr (.inr (.inr ⟨_,g0,_,rfl,by simpa using hb,hb2⟩)),HB1.out.alloc HB1.out.size _⟩
section
variable {P:Program}{o:Oper}{a x:Act}{w:World}
theorem exec_slW (ty:TypeId) (p ix:Operand) (ho:o.op= .indexAddr ty p ix) (ad:Addr) (n c:Nat) (hx:x.eval p= .slice (some ad) n c) (kd:IntKind) (z:Int) (hix:x.eval ix= .int kd z) (k:Nat) (hz:z=(k:Int))
  (e:TypeId) (hu:P.underlying ty=some (.slice e)) (hk:k<n) (hs:(P.info? e).map (·.size)=some 1):(execOp x.eval o).run P w= .ok (.value (.pointer (some (ad.add k)))) w:=by
 subst hz
 have hr:(Instr.indexAt ty (.slice (some ad) n c) (.int kd (k:Int))).run P w= .ok (.pointer (some (ad.add k))) w:=by
  simp[Instr.indexAt,asIntOf,Sem.run_bind,run_underlying hu,run_size hs,show¬n≤k by omega]
 unfold execOp
 simp only[ho,hx,hix,hr,Sem.run_bind,Sem.run_pure,Result.andThen_ok]
theorem exec_cW (t t':TypeId) (x:Operand) (ho:o.op= .convert t t' x) (n:Nat) (hn:n<256) (hx:a.eval x= .int .u8 (n:Int)) (ht:P.underlying t=some (.int .u8)) (ht':P.underlying t'=some (.int .i64)):(execOp a.eval o).run P w= .ok (.value (.int .i64 (n:Int))) w:=by
 have hw:IntKind.i64.wrap (n:Int)=(n:Int):=wrap_i64 _ _ rfl (by omega) (by omega)
 have e:(convert t t' (.int .u8 (n:Int))).run P w= .ok (.int .i64 (n:Int)) w:=by
  simp[convert,run_underlying ht,run_underlying ht',Conv.intToInt,hw]
 unfold execOp
 simp only[ho,hx,e,Sem.run_bind,Sem.run_pure,Result.andThen_ok]
theorem exec_shlW (t:TypeId) (x y:Operand) (rt:TypeId) (ho:o.op= .binOp .shl t x y rt) (n:Nat) (hn:n<256) (hx:a.eval x= .int .i64 (n:Int)) (hy:a.eval y= .int .u64 8):(execOp a.eval o).run P w= .ok (.value (.int .i64 ((256*n:Nat):Int))) w:=by
 have e:Op.shift .shl .i64 (n:Int) .u64 8=pure (.int .i64 (IntKind.i64.wrap ((n:Int)*2^(8:Int).toNat))):=shift_shl .i64 .u64 (n:Int) 8 (by omega) (by decide)
 have e2:IntKind.i64.wrap ((n:Int)*2^(8:Int).toNat)=((256*n:Nat):Int):=wrap_i64 _ _ (by show(n:Int)*256=_;omega) (by omega) (by omega)
 unfold execOp
 simp only[ho,hx,hy,Sem.run_bind,binOp_shl,e,e2]
 simp[eqGuard]
theorem exec_orW (t:TypeId) (x y:Operand) (rt:TypeId) (ho:o.op= .binOp .or t x y rt) (n m:Nat) (hn:n<256) (hm:m<256) (hx:a.eval x= .int .i64 ((256*n:Nat):Int)) (hy:a.eval y= .int .i64 (m:Int)):(execOp a.eval o).run P w= .ok (.value (.int .i64 ((256*n+m:Nat):Int))) w:=by
 have e:Op.intBits BinOp.or IntKind.i64 ((256*n:Nat):Int) (m:Int)=pure (.int .i64 (bits .or .i64 ((256*n:Nat):Int) (m:Int))):=rfl
 have h:bits .or .i64 ((256*n:Nat):Int) (m:Int)=((256*n+m:Nat):Int):=by
  rw[i64_or_nat _ _ (by omega) (by omega)]
  have:=Nat.two_pow_add_eq_or_of_lt (i:=8) (b:=m) (by omega) n
  rw[show 256*n=2^8*n by omega,this]
 unfold execOp
 simp only[ho,hx,hy,Sem.run_bind]
 simp only[eqGuard,binOp]
 simp only[e,h]
 simp
end
def formP (k a M b:Nat):Prop:=b%8=0∧kfit (ka a) (b/8)∧M=2+b/8+fill (sz k) (b/8)
set_option maxRecDepth 100000 in
set_option maxHeartbeats 1000000 in
set_option linter.unusedSimpArgs false in
theorem keyof_bad (h:Hd) (k:Nat) (hv:kd h.v=k) (hk:k=1∨k=2) (hka:ka h.a=1∨ka h.a=2) (ad:Addr) (M c:Nat) (tx:Nat→Nat) (hM2:2≤M) (hM:M≤10000) (hxb: ∀i,i<M→tx i<256) (w:World) (hR:Reads w w.heap.size (some ad) M tx) (q:Nat) (hq:q=(256*tx 0+tx 1)/8) (hn: ¬formP k h.a M (256*tx 0+tx 1)):
  Calls Tryz.prog 41 #[.agg (hdC h), .slice (some ad) M c] w fun e w'=>e= .returned (.tuple #[.slice none 0 0, .iface 56 (.int .i64 6)])∧Below w.heap.size w w':=by
 have hB0:=(Below.refl w.heap.size w).alloc (Nat.le_refl _) (.cells (hdC h) 24)
 have Hh:=hid (Blk.fresh w 24 (hdC h))
 have hR0:=(hR.below hB0).more hB0.size
 have HR:=hid hR0
 have HB:=hid hB0
 have hx0:=hxb 0 (by omega)
 have hx1:=hxb 1 (by omega)
 have Hxb:=hid hxb
 have Hv:=hid hv
 have Hk:=hid hk
 have Hka:=hid hka
 have Hn:=hid hn
 have Hq:=hid hq
 clear hn hq hB0 hR hxb hv hk hka hR0
 go_enter Tryz.func41,Tryz.ntmps41
 go_wp2_with fail
 generalize hw1:w.alloc (.cells (hdC h) 24)=w1 at HR HB Hh ⊢
 clear hw1
 have hal:=(cells_reads HR.out (by omega)).1
 have hcs:=(cells_reads HR.out (by omega)).2
 have hs0:w1.cell? (ad.add 0)=some (.int .u8 ((tx 0:Nat):Int)):=hcs 0 (by omega)
 have hs1:w1.cell? (ad.add 1)=some (.int .u8 ((tx 1:Nat):Int)):=hcs 1 (by omega)
 have ha0:(ad.add 0).block<w1.heap.size:=by rw[add_block];exact hal
 have ha1:(ad.add 1).block<w1.heap.size:=by rw[add_block];exact hal
 clear hcs
 refine wp_region_held_drew (S:=fun W=>Below w1.heap.size w1 W) (by kernel_rfl) (Below.refl _ _).drew (fun hS0=>?_)
 refine ztk (i:=0) (v:= .slice (some ad) M c) rfl (fun _ _=>exec_move _ rfl _ rfl) hS0 ?_
 (try simp only[Act.put,zza,zzb,zzc,zzd,zze,zzf])
 refine ztk (i:=1) (v:= .pointer (some (ad.add 0))) rfl (fun _ _=>exec_slW 22 _ _ rfl ad M c rfl .i64 _ rfl 0 rfl 5 Tryz.underlying22 (by omega) Dg.i8q) hS0 ?_
 (try simp only[Act.put,zza,zzb,zzc,zzd,zze,zzf])
 refine ztk (i:=2) (v:= .int .u8 ((tx 0:Nat):Int)) rfl (fun W hW=>exec_ld 5 _ rfl _ rfl .u8 Tryz.underlying5 _ ((hW.cell (p:=ad.add 0) ha0).trans hs0)) hS0 ?_
 (try simp only[Act.put,zza,zzb,zzc,zzd,zze,zzf])
 refine ztk (i:=3) (v:= .int .i64 ((tx 0:Nat):Int)) rfl (fun _ _=>exec_cW _ _ _ rfl _ hx0 rfl Tryz.underlying5 Tryz.underlying3) hS0 ?_
 (try simp only[Act.put,zza,zzb,zzc,zzd,zze,zzf])
 refine ztk (i:=4) (v:= .int .i64 ((256*tx 0:Nat):Int)) rfl (fun _ _=>exec_shlW _ _ _ _ rfl _ hx0 rfl rfl) hS0 ?_
 (try simp only[Act.put,zza,zzb,zzc,zzd,zze,zzf])
 refine ztk (i:=5) (v:= .slice (some ad) M c) rfl (fun _ _=>exec_move _ rfl _ rfl) hS0 ?_
 (try simp only[Act.put,zza,zzb,zzc,zzd,zze,zzf])
 refine ztk (i:=6) (v:= .pointer (some (ad.add 1))) rfl (fun _ _=>exec_slW 22 _ _ rfl ad M c rfl .i64 _ rfl 1 rfl 5 Tryz.underlying22 (by omega) Dg.i8q) hS0 ?_
 (try simp only[Act.put,zza,zzb,zzc,zzd,zze,zzf])
 refine ztk (i:=7) (v:= .int .u8 ((tx 1:Nat):Int)) rfl (fun W hW=>exec_ld 5 _ rfl _ rfl .u8 Tryz.underlying5 _ ((hW.cell (p:=ad.add 1) ha1).trans hs1)) hS0 ?_
 (try simp only[Act.put,zza,zzb,zzc,zzd,zze,zzf])
 refine ztk (i:=8) (v:= .int .i64 ((tx 1:Nat):Int)) rfl (fun _ _=>exec_cW _ _ _ rfl _ hx1 rfl Tryz.underlying5 Tryz.underlying3) hS0 ?_
 (try simp only[Act.put,zza,zzb,zzc,zzd,zze,zzf])
 refine ztk (i:=9) (v:= .int .i64 ((256*tx 0+tx 1:Nat):Int)) rfl (fun _ _=>exec_orW _ _ _ _ rfl _ _ hx0 hx1 rfl rfl) hS0 ?_
 (try simp only[Act.put,zza,zzb,zzc,zzd,zze,zzf])
 refine ztk (i:=10) (v:= .int .i64 ((256*tx 0+tx 1:Nat):Int)) rfl (fun _ _=>exec_assign _ rfl _ rfl) hS0 ?_
 (try simp only[Act.put,zza,zzb,zzc,zzd,zze,zzf])
 refine wpAnyH_done (by kernel_rfl) ?_ _
 obtain⟨w2,hw2⟩: ∃w2,w2=w1.drew:=⟨_,rfl⟩
 rw[← hw2] at hS0 ⊢
 have HR2:=hid ((HR.out.below hS0).more hS0.size)
 have Hh2:=hid (Hh.out.below hS0 Hh.out.lt)
 have HB2:=hid (HB.out.trans (hS0.mono HB.out.size))
 have hca:w2.cell? ⟨w.heap.size,2,none⟩=some (.int .u8 (h.a:Int)):=(Hh2.out.cell 2).trans rfl
 generalize hbb:256*tx 0+tx 1=b at*
 clear hS0 hw2 hs0 hs1 ha0 ha1 hal HR Hh HB
 have E1:Hid ((0:Int)≤(b:Int)∧(0:Int)<8∧(b:Int)/8=(q:Int)∧(0:Int)≤(q:Int)∧(q:Int)≤100000):=hid ⟨by omega,by omega,by have:=Hq.out;omega,by omega,by have:=Hq.out;omega⟩
 have E2:Hid ((0:Int)≤(b:Int)∧(0:Int)<8∧(b:Int)%8=((b%8:Nat):Int)):=hid ⟨by omega,by omega,by omega⟩
 by_cases h1:b%8=0
 ·have e0:(((b%8:Nat):Int) != 0)=false:=by simp;omega
  by_cases h2:kfit (ka h.a) q
  ·have hdk:decide (kfit (ka h.a) q)=true:=decide_eq_true h2
   have HF:=hid (fillZ_of (n:=q) Hv.out Hk.out)
   have h3:M≠2+q+fill (sz k) q:=fun h3=>Hn.out ⟨h1,by rw[← Hq.out];exact h2,by rw[← Hq.out];exact h3⟩
   have hfl:fill (sz k) q<sz k:=fill_lt (sz_or k)
   have hs16:sz k≤16:=by have:=sz_or k;omega
   have hq8:q≤10000:=by have:=kfit_le h2;omega
   have E3:Hid (((2:Int)+(q:Int))=((2+q:Nat):Int)∧(0:Int)≤((2+q:Nat):Int)∧((2+q:Nat):Int)≤100000):=hid ⟨by omega,by omega,by omega⟩
   have E4:Hid ((((2+q:Nat):Int)+(fill (sz k) q:Int))=((2+q+fill (sz k) q:Nat):Int)∧(0:Int)≤((2+q+fill (sz k) q:Nat):Int)∧((2+q+fill (sz k) q:Nat):Int)≤100000):=hid ⟨by omega,by omega,by omega⟩
   generalize hrr:b%8=r at*
   generalize hss:2+q+fill (sz k) q=s at*
   have e1:((M:Int) != (s:Int))=true:=by simp;omega
   clear h1 h2 h3 hrr hss hfl
   go_wp2_with (first
    | (with_reducible refine wpl_val rfl _ (exec_quoN _ _ _ _ rfl _ _ _ rfl rfl E1.out) ?_)
    | (with_reducible refine wpl_val rfl _ (exec_remN _ _ _ _ rfl _ _ _ rfl rfl E2.out) ?_)
    | (with_reducible refine wpl_val rfl _ (exec_addN _ _ _ _ rfl _ _ _ rfl rfl E3.out) ?_)
    | (with_reducible refine wpl_val rfl _ (exec_addN _ _ _ _ rfl _ _ _ rfl rfl E4.out) ?_)
    | ((with_reducible refine wpg_val ?_ _ (exec_ldc 5 _ rfl ⟨w.heap.size,2,none⟩ rfl _ hca (.inl ⟨_,Tryz.underlying5⟩)) ?_);exact rfl)
    | (with_reducible refine wpl_valw rfl _ (exec_ldcs 24 _ rfl w.heap.size rfl 24 _ Hh2.out _ Tryz.underlying24 (sizeC _)) ?_)
    | (go_at_call 24;refine(koa_any h.a _).mono ?_;rintro x3 w3 ⟨rfl,hw3⟩;subst hw3)
    | (go_at_call 23;refine(kfits_any (ka h.a) q Hka.out _).mono ?_;rintro x3 w3 ⟨rfl,hw3⟩;subst hw3;rw[hdk])
    | (go_at_call 19;refine(fill_any h (q:Int) _).mono ?_;rintro x5 w5 ⟨rfl,hB5⟩;rw[HF.out];have HB5:=hid (HB2.out.trans (hB5.mono HB2.out.size));clear hB5))
   go_ret2
   exact⟨rfl,HB5.out⟩
  have hdk:decide (kfit (ka h.a) q)=false:=decide_eq_false h2
  generalize hrr:b%8=r at*
  clear h1 h2 hrr
  go_wp2_with (first
   | (with_reducible refine wpl_val rfl _ (exec_quoN _ _ _ _ rfl _ _ _ rfl rfl E1.out) ?_)
   | (with_reducible refine wpl_val rfl _ (exec_remN _ _ _ _ rfl _ _ _ rfl rfl E2.out) ?_)
   | ((with_reducible refine wpg_val ?_ _ (exec_ldc 5 _ rfl ⟨w.heap.size,2,none⟩ rfl _ hca (.inl ⟨_,Tryz.underlying5⟩)) ?_);exact rfl)
   | (go_at_call 24;refine(koa_any h.a _).mono ?_;rintro x3 w3 ⟨rfl,hw3⟩;subst hw3)
   | (go_at_call 23;refine(kfits_any (ka h.a) q Hka.out _).mono ?_;rintro x3 w3 ⟨rfl,hw3⟩;subst hw3;rw[hdk]))
  go_ret2
  exact⟨rfl,HB2.out⟩
 have e0:(((b%8:Nat):Int) != 0)=true:=by simp;omega
 generalize hrr:b%8=r at*
 clear h1 hrr
 go_wp2_with (first
  | (with_reducible refine wpl_val rfl _ (exec_quoN _ _ _ _ rfl _ _ _ rfl rfl E1.out) ?_)
  | (with_reducible refine wpl_val rfl _ (exec_remN _ _ _ _ rfl _ _ _ rfl rfl E2.out) ?_))
 go_ret2
 exact⟨rfl,HB2.out⟩
theorem reads_tail {w:World}{B:Nat}{ad:Addr}{M n q:Nat}{f:Nat→Nat} (h:Reads w B (some ad) M f) (hq:q+n≤M):Reads w B (some (ad.add q)) n (fun i=>f (q+i)):=fun hn=>by
 obtain⟨ad',he,h1,h2⟩:=h (by omega)
 cases he
 exact⟨_,rfl,by rw[add_block];exact h1,fun i hi=>by rw[add_add];exact h2 _ (by omega)⟩
set_option maxRecDepth 100000 in
set_option maxHeartbeats 1000000 in
set_option linter.unusedSimpArgs false in
theorem keyof_ok (h:Hd) (k:Nat) (hv:kd h.v=k) (hk:k=1∨k=2) (hka:ka h.a=1∨ka h.a=2) (ad:Addr) (M c:Nat) (tx:Nat→Nat) (hM2:2≤M) (hM:M≤10000) (hc:M≤c) (hxb: ∀i,i<M→tx i<256) (w:World) (hR:Reads w w.heap.size (some ad) M tx) (q:Nat) (hq:q=(256*tx 0+tx 1)/8) (hn:formP k h.a M (256*tx 0+tx 1)):
  Calls Tryz.prog 41 #[.agg (hdC h), .slice (some ad) M c] w fun e w'=> ∃v,e= .returned (.tuple #[v, .nilIface])∧Mem.Own w' w.heap.size 5 1 v q (fun i=>tx (2+i))∧Below w.heap.size w w':=by
 have hB0:=(Below.refl w.heap.size w).alloc (Nat.le_refl _) (.cells (hdC h) 24)
 have Hh:=hid (Blk.fresh w 24 (hdC h))
 have hR0:=(hR.below hB0).more hB0.size
 have HR:=hid hR0
 have HB:=hid hB0
 have hx0:=hxb 0 (by omega)
 have hx1:=hxb 1 (by omega)
 have Hxb:=hid hxb
 have Hv:=hid hv
 have Hk:=hid hk
 have Hka:=hid hka
 have Hn:=hid hn
 have Hq:=hid hq
 clear hn hq hB0 hR hxb hv hk hka hR0
 go_enter Tryz.func41,Tryz.ntmps41
 go_wp2_with fail
 generalize hw1:w.alloc (.cells (hdC h) 24)=w1 at HR HB Hh ⊢
 clear hw1
 have hal:=(cells_reads HR.out (by omega)).1
 have hcs:=(cells_reads HR.out (by omega)).2
 have hs0:w1.cell? (ad.add 0)=some (.int .u8 ((tx 0:Nat):Int)):=hcs 0 (by omega)
 have hs1:w1.cell? (ad.add 1)=some (.int .u8 ((tx 1:Nat):Int)):=hcs 1 (by omega)
 have ha0:(ad.add 0).block<w1.heap.size:=by rw[add_block];exact hal
 have ha1:(ad.add 1).block<w1.heap.size:=by rw[add_block];exact hal
 clear hcs
 refine wp_region_held_drew (S:=fun W=>Below w1.heap.size w1 W) (by kernel_rfl) (Below.refl _ _).drew (fun hS0=>?_)
 refine ztk (i:=0) (v:= .slice (some ad) M c) rfl (fun _ _=>exec_move _ rfl _ rfl) hS0 ?_
 (try simp only[Act.put,zza,zzb,zzc,zzd,zze,zzf])
 refine ztk (i:=1) (v:= .pointer (some (ad.add 0))) rfl (fun _ _=>exec_slW 22 _ _ rfl ad M c rfl .i64 _ rfl 0 rfl 5 Tryz.underlying22 (by omega) Dg.i8q) hS0 ?_
 (try simp only[Act.put,zza,zzb,zzc,zzd,zze,zzf])
 refine ztk (i:=2) (v:= .int .u8 ((tx 0:Nat):Int)) rfl (fun W hW=>exec_ld 5 _ rfl _ rfl .u8 Tryz.underlying5 _ ((hW.cell (p:=ad.add 0) ha0).trans hs0)) hS0 ?_
 (try simp only[Act.put,zza,zzb,zzc,zzd,zze,zzf])
 refine ztk (i:=3) (v:= .int .i64 ((tx 0:Nat):Int)) rfl (fun _ _=>exec_cW _ _ _ rfl _ hx0 rfl Tryz.underlying5 Tryz.underlying3) hS0 ?_
 (try simp only[Act.put,zza,zzb,zzc,zzd,zze,zzf])
 refine ztk (i:=4) (v:= .int .i64 ((256*tx 0:Nat):Int)) rfl (fun _ _=>exec_shlW _ _ _ _ rfl _ hx0 rfl rfl) hS0 ?_
 (try simp only[Act.put,zza,zzb,zzc,zzd,zze,zzf])
 refine ztk (i:=5) (v:= .slice (some ad) M c) rfl (fun _ _=>exec_move _ rfl _ rfl) hS0 ?_
 (try simp only[Act.put,zza,zzb,zzc,zzd,zze,zzf])
 refine ztk (i:=6) (v:= .pointer (some (ad.add 1))) rfl (fun _ _=>exec_slW 22 _ _ rfl ad M c rfl .i64 _ rfl 1 rfl 5 Tryz.underlying22 (by omega) Dg.i8q) hS0 ?_
 (try simp only[Act.put,zza,zzb,zzc,zzd,zze,zzf])
 refine ztk (i:=7) (v:= .int .u8 ((tx 1:Nat):Int)) rfl (fun W hW=>exec_ld 5 _ rfl _ rfl .u8 Tryz.underlying5 _ ((hW.cell (p:=ad.add 1) ha1).trans hs1)) hS0 ?_
 (try simp only[Act.put,zza,zzb,zzc,zzd,zze,zzf])
 refine ztk (i:=8) (v:= .int .i64 ((tx 1:Nat):Int)) rfl (fun _ _=>exec_cW _ _ _ rfl _ hx1 rfl Tryz.underlying5 Tryz.underlying3) hS0 ?_
 (try simp only[Act.put,zza,zzb,zzc,zzd,zze,zzf])
 refine ztk (i:=9) (v:= .int .i64 ((256*tx 0+tx 1:Nat):Int)) rfl (fun _ _=>exec_orW _ _ _ _ rfl _ _ hx0 hx1 rfl rfl) hS0 ?_
 (try simp only[Act.put,zza,zzb,zzc,zzd,zze,zzf])
 refine ztk (i:=10) (v:= .int .i64 ((256*tx 0+tx 1:Nat):Int)) rfl (fun _ _=>exec_assign _ rfl _ rfl) hS0 ?_
 (try simp only[Act.put,zza,zzb,zzc,zzd,zze,zzf])
 refine wpAnyH_done (by kernel_rfl) ?_ _
 obtain⟨w2,hw2⟩: ∃w2,w2=w1.drew:=⟨_,rfl⟩
 rw[← hw2] at hS0 ⊢
 have HR2:=hid ((HR.out.below hS0).more hS0.size)
 have Hh2:=hid (Hh.out.below hS0 Hh.out.lt)
 have HB2:=hid (HB.out.trans (hS0.mono HB.out.size))
 have hca:w2.cell? ⟨w.heap.size,2,none⟩=some (.int .u8 (h.a:Int)):=(Hh2.out.cell 2).trans rfl
 generalize hbb:256*tx 0+tx 1=b at*
 clear hS0 hw2 hs0 hs1 ha0 ha1 hal HR Hh HB
 have E1:Hid ((0:Int)≤(b:Int)∧(0:Int)<8∧(b:Int)/8=(q:Int)∧(0:Int)≤(q:Int)∧(q:Int)≤100000):=hid ⟨by omega,by omega,by have:=Hq.out;omega,by omega,by have:=Hq.out;omega⟩
 have E2:Hid ((0:Int)≤(b:Int)∧(0:Int)<8∧(b:Int)%8=((b%8:Nat):Int)):=hid ⟨by omega,by omega,by omega⟩
 have h1:b%8=0:=Hn.out.1
 have h2:kfit (ka h.a) q:=by rw[Hq.out];exact Hn.out.2.1
 have h3:M=2+q+fill (sz k) q:=by rw[Hq.out];exact Hn.out.2.2
 have e0:(((b%8:Nat):Int) != 0)=false:=by simp;omega
 have hdk:decide (kfit (ka h.a) q)=true:=decide_eq_true h2
 have HF:=hid (fillZ_of (n:=q) Hv.out Hk.out)
 have hfl:fill (sz k) q<sz k:=fill_lt (sz_or k)
 have hs16:sz k≤16:=by have:=sz_or k;omega
 have hqq:=kfit_le h2
 have hq0:0<q:=by omega
 have hqM:2+q≤M:=by omega
 have E3:Hid (((2:Int)+(q:Int))=((2+q:Nat):Int)∧(0:Int)≤((2+q:Nat):Int)∧((2+q:Nat):Int)≤100000):=hid ⟨by omega,by omega,by omega⟩
 have E4:Hid ((((2+q:Nat):Int)+(fill (sz k) q:Int))=((2+q+fill (sz k) q:Nat):Int)∧(0:Int)≤((2+q+fill (sz k) q:Nat):Int)∧((2+q+fill (sz k) q:Nat):Int)≤100000):=hid ⟨by omega,by omega,by omega⟩
 have HRq:=hid (reads_tail (q:=2) (n:=q) HR2.out hqM)
 generalize hrr:b%8=r at*
 generalize hss:2+q+fill (sz k) q=s at*
 have e1:((M:Int) != (s:Int))=false:=by simp;omega
 have hcq:2+q≤c:=by omega
 clear h1 h2 h3 hrr hss hfl Hn
 go_wp2_with (first
  | (with_reducible refine wpl_val rfl _ (exec_quoN _ _ _ _ rfl _ _ _ rfl rfl E1.out) ?_)
  | (with_reducible refine wpl_val rfl _ (exec_remN _ _ _ _ rfl _ _ _ rfl rfl E2.out) ?_)
  | (with_reducible refine wpl_val rfl _ (exec_addN _ _ _ _ rfl _ _ _ rfl rfl E3.out) ?_)
  | (with_reducible refine wpl_val rfl _ (exec_addN _ _ _ _ rfl _ _ _ rfl rfl E4.out) ?_)
  | (with_reducible refine wpl_val rfl _ (wcutB _ _ _ rfl ad M c 2 q _ _ rfl rfl rfl rfl rfl hq0 hcq) ?_)
  | ((with_reducible refine wpg_val ?_ _ (exec_ldc 5 _ rfl ⟨w.heap.size,2,none⟩ rfl _ hca (.inl ⟨_,Tryz.underlying5⟩)) ?_);exact rfl)
  | (with_reducible refine wpl_valw rfl _ (exec_ldcs 24 _ rfl w.heap.size rfl 24 _ Hh2.out _ Tryz.underlying24 (sizeC _)) ?_)
  | (go_at_call 24;refine(koa_any h.a _).mono ?_;rintro x3 w3 ⟨rfl,hw3⟩;subst hw3)
  | (go_at_call 23;refine(kfits_any (ka h.a) q Hka.out _).mono ?_;rintro x3 w3 ⟨rfl,hw3⟩;subst hw3;rw[hdk])
  | (go_at_call 19;refine(fill_any h (q:Int) _).mono ?_;rintro x5 w5 ⟨rfl,hB5⟩;rw[HF.out];have HB5:=hid (HB2.out.trans (hB5.mono HB2.out.size));have HR5:=hid ((HRq.out.below hB5).more hB5.size);clear hB5))
 refine(Mem.clone_any (some (ad.add 2)) q (c-2) _ _ (by omega) (fun h=>by cases h) HR5.out).mono ?_
 rintro x6 w6 ⟨v6,rfl,ho6,hB6⟩
 have HB6:=hid (HB5.out.trans (hB6.mono HB5.out.size))
 have HO6:=hid (own_base ho6 HB5.out.size)
 obtain⟨A6,c6,rfl,-⟩:=ho6.slice'
 clear hB6 ho6
 go_wp2_with fail
 go_ret2
 exact⟨_,rfl,HO6.out,HB6.out⟩
structure Dec (k L:Nat) (W:Nat→Nat) (M N:Nat) (f hd cd tx:Nat→Nat):Prop where
 eh: ∀i,i<M→unhF (fun j=>f (16+j)) i=hd i
 ec: ∀i,i<sz k→unhF (fun j=>f (16+j)) (M+i)=cd i
 et: ∀i,i<M→chainF k L (kyF k L W 0) true cd hd N i=tx i
def cmF (k L:Nat) (W:Nat→Nat) (M:Nat) (f tx:Nat→Nat):Nat→Nat:=cmacF k L (kyF k L W 1) (16+M) (cat 16 f tx)
set_option maxRecDepth 100000 in
theorem open_bad (n:Nat) (f:Nat→Nat) (hf: ∀i,f i<256) (hn:16≤n) (hn2:n≤10000) (i:Nat) (hb:BadD 16 (n-16) (fun j=>f (16+j)) i) (g1 g2:Nat) (w:World) (hg:Laid w):
  Calls Tryz.prog 40 #[.agg (prV g1 g2), .string (strF n f)] w fun e w'=> ∃g,e= .returned (.tuple #[.slice none 0 0, .iface 65 (.pointer (some ⟨g,0,none⟩))])∧EA (.iface 65 (.pointer (some ⟨g,0,none⟩))) 16 ((16+i:Nat):Int) w'∧Below w.heap.size w w':=by
 have hB0:=(Below.refl w.heap.size w).alloc (Nat.le_refl _) (.cells (prV g1 g2) 51)
 have HG:=hid (hg.below hB0)
 have HB:=hid hB0
 have Hf:=hid hf
 have hi:i≤100000:=by have:=hb.1;omega
 have Hb:=hid hb
 clear hB0 hg hf hb
 go_enter Tryz.func40,Tryz.ntmps40
 go_wp2_with (with_reducible refine wpl_valw rfl _ (exec_cutSl 9 _ _ rfl n f 16 rfl rfl 16 rfl hn Tryz.underlying9) ?_)
 refine(unhex_bad (n-16) (fun j=>f (16+j)) i _ (fun _=>Hf.out _) (by omega) Hb.out).mono ?_
 rintro e w1 ⟨rfl,hF,hB1⟩
 have HG1:=hid (HG.out.below hB1)
 have HB1:=hid (HB.out.trans (hB1.mono HB.out.size))
 have HF:=hid hF
 clear hF hB1
 go_wp2_with fail
 refine(behind_any i hi _ w1 HG1.out (by simpa using HF.out)).mono ?_
 rintro e w2 ⟨g,rfl,hE,hB2⟩
 have HE:=hid hE
 have HB2:=hid (HB1.out.trans (hB2.mono HB1.out.size))
 clear hE hB2
 go_wp2_with fail
 go_ret2
 exact⟨g,rfl,HE.out,HB2.out⟩
section
variable {P:Program}{o:Oper}{a:Act}{w:World}
theorem exec_subN (t:TypeId) (x y:Operand) (rt:TypeId) (ho:o.op= .binOp .sub t x y rt) (p q r:Int) (hx:a.eval x= .int .i64 p) (hy:a.eval y= .int .i64 q) (h:p-q=r∧0≤r∧r≤100000):(execOp a.eval o).run P w= .ok (.value (.int .i64 r)) w:=
 exec_arith .sub (.inr (.inl rfl)) t x y rt ho p q hx hy r h.1 (by have:=h.2;omega) (by have:=h.2;omega)
end
set_option maxRecDepth 100000 in
set_option maxHeartbeats 2000000 in
set_option linter.unusedSimpArgs false in
theorem open_any (k L:Nat) (W:Nat→Nat) (hk:k=1∨k=2) (hfk:kfit k L) (hb: ∀i,i<L→W i<256) (n M N:Nat) (f hd cd tx:Nat→Nat) (hf: ∀i,f i<256) (hn:n=16+2*M+2*sz k) (hMN:M=N*sz k) (hM0:0<M) (hM:M≤400) (hall:AllD 16 (n-16) (fun j=>f (16+j))) (hdec:Dec k L W M N f hd cd tx) (g1 g2:Nat) (w:World) (h:PairAt w k L W g1 g2) (r:Bool) (heq:eqB (sz k) (cmF k L W M f tx) cd=r):
  Calls Tryz.prog 40 #[.agg (prV g1 g2), .string (strF n f)] w fun e w'=>Below w.heap.size w w'∧((r=true∧∃ad c,e= .returned (.tuple #[.slice (some ad) M c, .nilIface])∧M≤c∧Reads w' w'.heap.size (some ad) M tx)∨(r=false∧e= .returned (.tuple #[.slice none 0 0, .iface 56 (.int .i64 4)]))):=by
 have hsp:=sz_pos k
 have hso:=sz_or k
 have hk3:k≠3:=by omega
 have hfit:=kfit_fits hfk hk
 have hB0:=(Below.refl w.heap.size w).alloc (Nat.le_refl _) (.cells (prV g1 g2) 51)
 have H:=hid (h.keep hB0)
 have HB:=hid hB0
 have Hp:=hid (Blk.fresh w 51 (prV g1 g2))
 have Hf:=hid hf
 have HA:=hid hall
 have HMN:=hid hMN
 have Hn:=hid hn
 have Hd:=hid hdec
 have hBL: ∀i,i<M+sz k→unhF (fun j=>f (16+j)) i<256:=fun i hi=>unhF_lt hall (by omega)
 have hhb: ∀i,i<M→hd i<256:=fun i hi=>by rw[← hdec.eh i hi];exact hBL i (by omega)
 have hcb: ∀i,i<sz k→cd i<256:=fun i hi=>by rw[← hdec.ec i hi];exact hBL _ (by omega)
 have htb: ∀i,i<M→tx i<256:=fun i hi=>by
  rw[← hdec.et i hi]
  subst hMN
  exact chain_lt hfit hk3 (kyF_lt (e:=0) hfk hk hb (by decide)) hcb hhb i hi
 have hmb: ∀i,i<sz k→cmF k L W M f tx i<256:=cmac_lt (L:=16+M) hfit hk3 (kyF_lt (e:=1) hfk hk hb (by decide)) (fun i hi=>by
  unfold cat
  split
  ·exact hf i
  exact htb _ (by omega))
 have Hhb:=hid hhb
 have Hcb:=hid hcb
 have Htb:=hid htb
 have Hmb:=hid hmb
 have hn16:16≤n:=by omega
 have hB2M:n-16=2*(M+sz k):=by omega
 have HB2M:=hid hB2M
 have Heq:=hid heq
 clear hB0 h hf hall hMN hn hdec hBL hhb hcb htb hmb hb hfk hfit hB2M heq
 go_enter Tryz.func40,Tryz.ntmps40
 go_wp2_with (with_reducible refine wpl_valw rfl _ (exec_cutSl 9 _ _ rfl n f 16 rfl rfl 16 rfl hn16 Tryz.underlying9) ?_)
 refine(unhex_ok (n-16) (M+sz k) (fun j=>f (16+j)) _ (fun _=>Hf.out _) (by have:=HB2M.out;omega) HA.out HB2M.out).mono ?_
 rintro e w1 ⟨rfl,hb1,hB1⟩
 have e0:(w.alloc (.cells (prV g1 g2) 51)).heap.size=w.heap.size+1:=by simp
 rw[e0] at hb1
 have hRb:=Blk.reads hb1
 have HRh:=hid ((hRb.less (m:=M) (by omega)).ext fun i hi=>Hd.out.eh i hi)
 have HRc:=hid ((reads_tail (q:=M) (n:=sz k) hRb (Nat.le_refl _)).ext fun i hi=>Hd.out.ec i hi)
 have H1:=hid (H.out.keep hB1)
 have Hp1:=hid (Hp.out.below hB1 Hp.out.lt)
 have HB1:=hid (HB.out.trans (hB1.mono HB.out.size))
 clear hb1 hB1 hRb e0 H Hp HB
 have E1:Hid (((M+sz k:Nat):Int)-(sz k:Int)=(M:Int)∧(0:Int)≤(M:Int)∧(M:Int)≤100000):=hid ⟨by omega,by omega,by omega⟩
 have eBI:((M+sz k:Nat):Int)=((M+sz k:Nat):Int):=rfl
 generalize hBB:M+sz k=B' at*
 clear eBI
 go_wp2_with (first
  | (with_reducible refine wpl_valw rfl _ (exec_ldcs 51 _ rfl w.heap.size rfl 51 _ Hp1.out _ Tryz.underlying51 (sizeP g1 g2)) ?_)
  | (with_reducible refine wpl_val rfl _ (exec_subN _ _ _ _ rfl _ _ _ rfl rfl E1.out) ?_)
  | (go_at_call 27;refine(psize_any _ k L W g1 g2 H1.out).mono ?_;rintro x2 w2 ⟨rfl,hB2⟩;have H2:=hid (H1.out.keep hB2);have Hp2:=hid (Hp1.out.below hB2 Hp1.out.lt);have HRh2:=hid ((HRh.out.below hB2).more hB2.size);have HRc2:=hid ((HRc.out.below hB2).more hB2.size);have HB2:=hid (HB1.out.trans (hB2.mono HB1.out.size));clear hB2 H1 Hp1 HRh HRc HB1))
 have hc0:w2.cell? ⟨w.heap.size,0,none⟩=some (.pointer (some ⟨g1,0,none⟩)):=(Hp2.out.cell 0).trans rfl
 have hlt:w.heap.size<w2.heap.size:=Hp2.out.lt
 obtain⟨ads,hads⟩: ∃a:Addr,a=(⟨w.heap.size+1,0,none⟩:Addr).add M:=⟨_,rfl⟩
 have hcutL:Hid (∀(x:Act) (o:Oper) (w0:World) (p lo:Operand),o.op= .slice 22 p (some lo) none none→x.eval p= .slice (some ⟨w.heap.size+1,0,none⟩) B' B'→x.eval lo= .int .i64 (M:Int)→(execOp x.eval o).run Tryz.prog w0= .ok (.value (.slice (some ads) (sz k) (B'-M))) w0):=hid fun x o w0 p lo h1 h2 h3=>hads▸wcutL p lo h1 ⟨w.heap.size+1,0,none⟩ B' B' M (sz k) _ h2 h3 rfl hBB.symm hsp (Nat.le_refl _)
 rw[← hads] at HRc2
 clear hads
 refine wp_region_held_drew (S:=fun W=>Below w2.heap.size w2 W) (by kernel_rfl) (Below.refl _ _).drew (fun hS0=>?_)
 refine ztk (i:=0) (v:= .pointer (some ⟨w.heap.size,0,none⟩)) rfl (fun W _=>by go_simp) hS0 ?_
 (try simp only[Act.put,zza,zzb,zzc,zzd,zze,zzf])
 refine ztk (i:=1) (v:= .pointer (some ⟨g1,0,none⟩)) rfl (fun W hW=>exec_ldP 49 _ rfl ⟨w.heap.size,0,none⟩ rfl _ ((hW.cell (p:=⟨w.heap.size,0,none⟩) hlt).trans hc0) ⟨_,Tryz.underlying49⟩) hS0 ?_
 (try simp only[Act.put,zza,zzb,zzc,zzd,zze,zzf])
 refine ztk (i:=2) (v:= .slice (some ⟨w.heap.size+1,0,none⟩) B' B') rfl (fun _ _=>exec_move _ rfl _ rfl) hS0 ?_
 (try simp only[Act.put,zza,zzb,zzc,zzd,zze,zzf])
 refine ztk (i:=3) (v:= .int .i64 (M:Int)) rfl (fun _ _=>exec_move _ rfl _ rfl) hS0 ?_
 (try simp only[Act.put,zza,zzb,zzc,zzd,zze,zzf])
 refine ztk (i:=4) (v:= .slice (some ads) (sz k) (B'-M)) rfl (fun _ _=>hcutL.out _ _ _ _ _ rfl rfl rfl) hS0 ?_
 (try simp only[Act.put,zza,zzb,zzc,zzd,zze,zzf])
 refine ztk (i:=5) (v:= .slice (some ⟨w.heap.size+1,0,none⟩) B' B') rfl (fun _ _=>exec_move _ rfl _ rfl) hS0 ?_
 (try simp only[Act.put,zza,zzb,zzc,zzd,zze,zzf])
 refine ztk (i:=6) (v:= .int .i64 (M:Int)) rfl (fun _ _=>exec_move _ rfl _ rfl) hS0 ?_
 (try simp only[Act.put,zza,zzb,zzc,zzd,zze,zzf])
 refine ztk (i:=7) (v:= .slice (some ⟨w.heap.size+1,0,none⟩) M B') rfl (fun _ _=>wcutH _ _ rfl ⟨w.heap.size+1,0,none⟩ B' B' M _ rfl rfl rfl (by omega)) hS0 ?_
 (try simp only[Act.put,zza,zzb,zzc,zzd,zze,zzf])
 refine wpAnyH_ready (rs:=[8]) (by kernel_rfl) (by simp) (AllReadyH.cons rfl (fun K hK=>?_) AllReadyH.nil)
 (try simp only[Act.put,zza,zzb,zzc,zzd,zze,zzf])
 refine Eq.mpr (if_pos (by rfl)) ?_
 go_simp
 refine(chained_any _ pz k g1 _ L _ ads (B'-M) cd (some ⟨w.heap.size+1,0,none⟩) N M B' true hd hk3 (H2.out.1.choose_spec.keep hS0) HMN.out (by omega) (by omega) (fun h=>by cases h) Hhb.out ((HRh2.out.below hS0).more (hS0).size) (cells_reads ((HRc2.out.below hS0).more (hS0).size) hsp).1 (cells_reads ((HRc2.out.below hS0).more (hS0).size) hsp).2 Hcb.out).mono ?_
 rintro e wq1 ⟨v3,rfl,ho3,hB3⟩
 refine hK.out _ _ (hS0.trans (hB3.mono hS0.size)) (fun hS1=>?_)
 (try simp only[Act.put,zza,zzb,zzc,zzd,zze,zzf])
 clear hK K
 refine ztk (i:=9) (v:= .tuple #[v3, .nilIface]) rfl (fun _ _=>exec_move _ rfl _ rfl) hS1 ?_
 (try simp only[Act.put,zza,zzb,zzc,zzd,zze,zzf])
 refine ztk (i:=10) (v:=v3) rfl (fun _ _=>exec_extract _ 0 rfl _ rfl _ rfl) hS1 ?_
 (try simp only[Act.put,zza,zzb,zzc,zzd,zze,zzf])
 refine ztk (i:=11) (v:= .nilIface) rfl (fun _ _=>exec_extract _ 1 rfl _ rfl _ rfl) hS1 ?_
 (try simp only[Act.put,zza,zzb,zzc,zzd,zze,zzf])
 refine ztk (i:=12) (v:=v3) rfl (fun _ _=>exec_assign _ rfl _ rfl) hS1 ?_
 (try simp only[Act.put,zza,zzb,zzc,zzd,zze,zzf])
 refine ztk (i:=13) (v:= .nilIface) rfl (fun _ _=>exec_assign _ rfl _ rfl) hS1 ?_
 (try simp only[Act.put,zza,zzb,zzc,zzd,zze,zzf])
 refine wpAnyH_done (by kernel_rfl) ?_ _
 obtain⟨g3,c3,rfl,hc3⟩:=own_at ho3 hM0
 have HR3:=hid (ho3.reads.ext fun i hi=>Hd.out.et i hi)
 have H3:=hid (H2.out.keep hS1)
 have Hp3:=hid (Hp2.out.below hS1 Hp2.out.lt)
 have HRc3:=hid ((HRc2.out.below hS1).more (hS1).size)
 have HB3:=hid (HB2.out.trans (hS1.mono HB2.out.size))
 clear ho3 hS0 hS1 hB3 H2 Hp2 HRc2 HRh2 HB2 hc0 hlt
 go_wp2_with fail
 generalize hw3:wq1=w3 at*
 clear hw3
 refine wp_region_held_drew (S:=fun W=>Below w3.heap.size w3 W) (by kernel_rfl) (Below.refl _ _).drew (fun hS0y=>?_)
 refine ztk (i:=0) (v:= .agg (prV g1 g2)) rfl (fun W hW=>exec_ldcs 51 _ rfl w.heap.size rfl 51 _ (Hp3.out.below hW Hp3.out.lt) _ Tryz.underlying51 (sizeP g1 g2)) hS0y ?_
 (try simp only[Act.put,zza,zzb,zzc,zzd,zze,zzf])
 refine ztk (i:=1) (v:= .string (strF n f)) rfl (fun _ _=>exec_move _ rfl _ rfl) hS0y ?_
 (try simp only[Act.put,zza,zzb,zzc,zzd,zze,zzf])
 refine ztk (i:=2) (v:= .string (strF 16 f)) rfl (fun _ _=>exec_cutSh 9 _ _ rfl n f 16 rfl rfl 16 rfl hn16 Tryz.underlying9) hS0y ?_
 (try simp only[Act.put,zza,zzb,zzc,zzd,zze,zzf])
 refine ztk (i:=3) (v:= .slice (some ⟨g3,0,none⟩) M c3) rfl (fun _ _=>exec_move _ rfl _ rfl) hS0y ?_
 (try simp only[Act.put,zza,zzb,zzc,zzd,zze,zzf])
 refine wpAnyH_ready (rs:=[4]) (by kernel_rfl) (by simp) (AllReadyH.cons rfl (fun K hK=>?_) AllReadyH.nil)
 (try simp only[Act.put,zza,zzb,zzc,zzd,zze,zzf])
 refine Eq.mpr (if_pos (by rfl)) ?_
 go_simp
 refine(pcode_any _ k L W g1 g2 (H3.out.keep hS0y) hk 16 f (by omega) (fun i _=>Hf.out i) ⟨g3,0,none⟩ M c3 tx hM0 hM Htb.out ((HR3.out.below hS0y).more (hS0y).size)).mono ?_
 rintro e wq1y ⟨v4,rfl,ho4,hB4⟩
 refine hK.out _ _ (hS0y.trans (hB4.mono hS0y.size)) (fun hS1y=>?_)
 (try simp only[Act.put,zza,zzb,zzc,zzd,zze,zzf])
 clear hK K
 refine ztk (i:=5) (v:= .tuple #[v4, .nilIface]) rfl (fun _ _=>exec_move _ rfl _ rfl) hS1y ?_
 (try simp only[Act.put,zza,zzb,zzc,zzd,zze,zzf])
 refine ztk (i:=6) (v:=v4) rfl (fun _ _=>exec_extract _ 0 rfl _ rfl _ rfl) hS1y ?_
 (try simp only[Act.put,zza,zzb,zzc,zzd,zze,zzf])
 refine ztk (i:=7) (v:= .nilIface) rfl (fun _ _=>exec_extract _ 1 rfl _ rfl _ rfl) hS1y ?_
 (try simp only[Act.put,zza,zzb,zzc,zzd,zze,zzf])
 refine ztk (i:=8) (v:=v4) rfl (fun _ _=>exec_assign _ rfl _ rfl) hS1y ?_
 (try simp only[Act.put,zza,zzb,zzc,zzd,zze,zzf])
 refine ztk (i:=9) (v:= .nilIface) rfl (fun _ _=>exec_assign _ rfl _ rfl) hS1y ?_
 (try simp only[Act.put,zza,zzb,zzc,zzd,zze,zzf])
 refine wpAnyH_done (by kernel_rfl) ?_ _
 obtain⟨g4,c4,rfl,hc4⟩:=own_at ho4 hsp
 have HR4:Hid (Reads wq1y wq1y.heap.size (some ⟨g4,0,none⟩) (sz k) (cmF k L W M f tx)):=hid ho4.reads
 have HT4:=hid ((HR3.out.below hS1y).more (hS1y).size)
 have HRc4:=hid ((HRc3.out.below hS1y).more (hS1y).size)
 have HB4:=hid (HB3.out.trans (hS1y.mono HB3.out.size))
 clear ho4 hS0y hS1y hB4 H3 Hp3 HRc3 HR3 HB3
 go_wp2_with (with_reducible refine wpl_val rfl _ (hcutL.out _ _ _ _ _ rfl rfl rfl) ?_)
 refine(equal_any (some ⟨g4,0,none⟩) (some ads) (sz k) c4 (B'-M) _ cd _ (by omega) Hmb.out Hcb.out HR4.out HRc4.out).mono ?_
 rintro e w5 ⟨rfl,hB5⟩
 rw[Heq.out]
 have HT5:=hid ((HT4.out.below hB5).more hB5.size)
 have HB5:=hid (HB4.out.trans (hB5.mono HB4.out.size))
 clear hB5 HR4 HT4 HRc4 HB4 hcutL
 cases r
 ·go_wp2_with fail
  go_ret2
  exact⟨HB5.out,by first | exact .inr ⟨rfl,rfl⟩ | rfl⟩
 go_wp2_with fail
 go_ret2
 exact⟨HB5.out,by first | exact .inl ⟨rfl,_,_,rfl,hc3,HT5.out⟩ | exact⟨_,_,rfl,hc3,HT5.out⟩⟩
end Go.Proofs.YtlmacfmfmjhidaaGreatDoor.Wr
