/-
 RefLoc RefXor Ref06 RefPad RefDbl RefCmac
-/
import Derived.Test.YtlmacfmfmjhidaaGreatDoorRefHX
import Derived.Test.YtlmacfmfmjhidaaGreatDoorModeX
import Derived.Maps.AppendAt
import Derived.Test.YtlmacfmfmjhidaaGreatDoorLst
import Derived.Test.YtlmacfmfmjhidaaGreatDoorMacX
import Derived.Test.YtlmacfmfmjhidaaGreatDoorRef03X
import Derived.Deep.RegionHeld3
import Derived.Test.YtlmacfmfmjhidaaGreatDoorLaw05
namespace Go.Proofs.YtlmacfmfmjhidaaGreatDoor.Bk
open Mem Go.ChangeShapes Go.WideShapes Go.ChangeAt Go.RowKit
def LocP (P:Nat→Prop) (w w':World):Nat→Prop:=fun g=>g<w'.heap.size∧(P g∨w.heap.size≤g)
end Go.Proofs.YtlmacfmfmjhidaaGreatDoor.Bk
namespace Go.Proofs.YtlmacfmfmjhidaaGreatDoor.Md
open Mem Bk Go.ChangeShapes Go.WideShapes Go.ChangeAt Go.RowKit
theorem bs8 (x:Int) (w:World):(Instr.buildSlice 22 1 #[(0, .int .u8 x)]).run Tryz.prog w= .ok (.slice (some ⟨w.heap.size,0,none⟩) 1 1) (w.alloc (.cells #[.int .u8 x] 5)):=by kernel_rfl
theorem exec_xor8 {P:Program}{o:Oper}{a:Act}{w:World} (t:TypeId) (x y:Operand) (rt:TypeId) (ho:o.op= .binOp .xor t x y rt) (p q:Int) (hx:a.eval x= .int .u8 p) (hy:a.eval y= .int .u8 q) (r:Int) (hr:bits .xor .u8 p q=r):(execOp a.eval o).run P w= .ok (.value (.int .u8 r)) w:=by
 have e:Op.intBits BinOp.xor IntKind.u8 p q=pure (.int .u8 (bits .xor .u8 p q)):=rfl
 unfold execOp
 simp[ho,hx,hy,eqGuard,binOp,e,hr]
set_option linter.unusedSimpArgs false in
set_option maxRecDepth 100000 in
set_option maxHeartbeats 1000000 in
theorem rxor_any (A A':Option Addr) (n c c':Nat) (f g:Nat→Nat) (w:World) (hn:n≤1000) (hf: ∀i,i<n→f i<256) (hg: ∀i,i<n→g i<256) (hR:Reads w w.heap.size A n f) (hR':Reads w w.heap.size A' n g):
  Calls Tryz.prog 66 #[.slice A n c, .slice A' n c'] w fun e w'=> ∃v,e= .returned v∧Mem.Own w' w.heap.size 5 1 v n (xr f g)∧Below w.heap.size w w':=by
 have HR:=hid hR
 have HR':=hid hR'
 have Hf:=hid hf
 have Hg:=hid hg
 clear hR hR' hf hg
 go_enter Tryz.func66,Tryz.ntmps66
 go_wp2_with fail
 go_loopw [5,6] (fun v i wr=> ∃k:Nat,k≤n∧i= .int .i64 k∧Mem.Own wr w.heap.size 5 1 v k (xr f g)∧Below w.heap.size w wr) (fun _ i _=>n-(intOf i).toNat)
 case atStart=>exact⟨0,by omega,rfl,Mem.Own.nil _ _ _ _ _,Below.refl _ _⟩
 case round=>
  obtain⟨k,hk,rfl,ho,hB⟩:=hrel
  obtain⟨Av,cv,rfl,hcv⟩:=ho.slice
  have Ho:=hid ho
  clear ho
  by_cases hlt:k<n
  ·have hfk:=Hf.out k hlt
   have hgk:=Hg.out k hlt
   have hltI:(k:Int)< (n:Int):=by omega
   obtain⟨ad,rfl,hbl,hcs⟩:=HR.out (by omega)
   obtain⟨ad',rfl,hbl',hcs'⟩:=HR'.out (by omega)
   have hc:=(hB.cell (p:=ad.add k) (by rw[add_block];exact hbl)).trans (hcs k hlt)
   have hc':=(hB.cell (p:=ad'.add k) (by rw[add_block];exact hbl')).trans (hcs' k hlt)
   clear hcs hcs'
   go_wp2_with fail
   have C1:Hid (∀W,Below w.heap.size wr W→W.cell? (ad.add k)=some (.int .u8 ((f k:Nat):Int))):=hid fun W hW=>(hW.cell (p:=ad.add k) (by rw[add_block];exact hbl)).trans hc
   have C2:Hid (∀W,Below w.heap.size wr W→W.cell? (ad'.add k)=some (.int .u8 ((g k:Nat):Int))):=hid fun W hW=>(hW.cell (p:=ad'.add k) (by rw[add_block];exact hbl')).trans hc'
   have HX:Hid (bits .xor .u8 ((f k:Nat):Int) ((g k:Nat):Int)=((f k ^^^ g k:Nat):Int)):=hid (u8_xor_nat _ _ hfk hgk)
   clear hc hc'
   have hsz:=hB.size
   refine wp_region_held_drew (S:=fun W=>Below w.heap.size wr W) (by kernel_rfl) (Below.refl _ _).drew (fun hS0=>?_)
   refine ztk (i:=0) (v:= .slice Av k cv) rfl (fun _ _=>exec_move _ rfl _ rfl) hS0 ?_
   (try simp only[Act.put,zza,zzb,zzc,zzd,zze,zzf])
   refine ztk (i:=1) (v:= .slice (some ad) n c) rfl (fun _ _=>exec_move _ rfl _ rfl) hS0 ?_
   (try simp only[Act.put,zza,zzb,zzc,zzd,zze,zzf])
   refine ztk (i:=2) (v:= .int .i64 (k:Int)) rfl (fun _ _=>exec_move _ rfl _ rfl) hS0 ?_
   (try simp only[Act.put,zza,zzb,zzc,zzd,zze,zzf])
   refine ztk (i:=3) (v:= .pointer (some (ad.add k))) rfl (fun _ _=>exec_sl1 22 _ _ rfl ad n c rfl .i64 _ rfl k rfl 5 Tryz.underlying22 hlt i8q) hS0 ?_
   (try simp only[Act.put,zza,zzb,zzc,zzd,zze,zzf])
   refine ztk (i:=4) (v:= .int .u8 ((f k:Nat):Int)) rfl (fun W hW=>exec_ld 5 _ rfl _ rfl .u8 Tryz.underlying5 _ (C1.out W hW)) hS0 ?_
   (try simp only[Act.put,zza,zzb,zzc,zzd,zze,zzf])
   refine ztk (i:=5) (v:=(.slice (some ad') n c')) rfl (fun _ _=>exec_move _ rfl _ rfl) hS0 ?_
   (try simp only[Act.put,zza,zzb,zzc,zzd,zze,zzf])
   refine ztk (i:=6) (v:= .int .i64 (k:Int)) rfl (fun _ _=>exec_move _ rfl _ rfl) hS0 ?_
   (try simp only[Act.put,zza,zzb,zzc,zzd,zze,zzf])
   refine ztk (i:=7) (v:=(.pointer (some (ad'.add k)))) rfl (fun _ _=>exec_sl1 22 _ _ rfl ad' n c' rfl .i64 _ rfl k rfl 5 Tryz.underlying22 hlt i8q) hS0 ?_
   (try simp only[Act.put,zza,zzb,zzc,zzd,zze,zzf])
   refine ztk (i:=8) (v:= .int .u8 ((g k:Nat):Int)) rfl (fun W hW=>exec_ld 5 _ rfl _ rfl .u8 Tryz.underlying5 _ (C2.out W hW)) hS0 ?_
   (try simp only[Act.put,zza,zzb,zzc,zzd,zze,zzf])
   refine ztk (i:=9) (v:= .int .u8 ((f k ^^^ g k:Nat):Int)) rfl (fun _ _=>exec_xor8 _ _ _ _ rfl _ _ rfl rfl _ HX.out) hS0 ?_
   (try simp only[Act.put,zza,zzb,zzc,zzd,zze,zzf])
   refine wpAnyH_ready (rs:=[10]) (by kernel_rfl) (by simp) (AllReadyH.cons rfl (fun K hK=>?_) AllReadyH.nil)
   (try simp only[Act.put,zza,zzb,zzc,zzd,zze,zzf])
   refine Eq.mpr (if_pos (by rfl)) ?_
   refine wp_bs 22 _ rfl (.int .u8 ((f k ^^^ g k:Nat):Int)) rfl #[.int .u8 ((f k ^^^ g k:Nat):Int)] 5 (bs8 _ _) ?_
   (try simp only[Act.put,zza,zzb,zzc,zzd,zze,zzf])
   refine hK.out _ _ (hS0.alloc (Nat.le_trans hsz hS0.size) _) (fun hS1=>?_)
   (try simp only[Act.put,zza,zzb,zzc,zzd,zze,zzf])
   clear hK K
   refine wpAnyH_ready (rs:=[11]) (by kernel_rfl) (by simp) (AllReadyH.cons rfl (fun K hK=>?_) AllReadyH.nil)
   (try simp only[Act.put,zza,zzb,zzc,zzd,zze,zzf])
   refine Eq.mpr (if_pos (by rfl)) ?_
   have ho7:Mem.Own wr.drew w.heap.size 5 1 (.slice Av k cv) k (xr f g):=Ho.out
   have hRA:Reads (wr.drew.alloc (.cells #[.int .u8 ((f k ^^^ g k:Nat):Int)] 5)) (wr.heap.size+1) (some ⟨wr.heap.size,0,none⟩) 1 (fun _=>f k ^^^ g k):=fun _=>⟨_,rfl,Nat.lt_succ_self _,fun j hj=>by
    have:j=0:=by omega
    subst this
    exact(Blk.fresh wr.drew 5 #[.int .u8 ((f k ^^^ g k:Nat):Int)]).cell 0⟩
   refine wp_app_gen _ _ 22 rfl w.heap.size 5 (.int .u8 0) Tryz.underlying22 info_u8 rfl _ k _ rfl (ho7.alloc _) (some ⟨wr.heap.size,0,none⟩) 1 1 _ _ hRA (fun h=>by cases h) rfl (by omega) (Nat.le_trans hsz hS1.size) ?_
   intro v' w1 ho1 hB1
   (try simp only[Act.put,zza,zzb,zzc,zzd,zze,zzf])
   refine hK.out _ _ (hS1.trans hB1) (fun hS2=>?_)
   (try simp only[Act.put,zza,zzb,zzc,zzd,zze,zzf])
   clear hK K
   refine ztk (i:=12) (v:=v') rfl (fun _ _=>exec_assign _ rfl _ rfl) hS2 ?_
   (try simp only[Act.put,zza,zzb,zzc,zzd,zze,zzf])
   refine wpAnyH_done (by kernel_rfl) ?_ _
   have Ho1:=hid ho1
   have HB1:=hid (hB.trans hS2)
   clear ho1 hB1 hS0 hS1 hS2 hRA ho7 C1 C2 hB Ho
   go_wp2_with fail
   go_round
   case rel=>
    refine⟨k+1,by omega,val_int (by omega),Ho1.out.ext (fun q hq=>?_),HB1.out⟩
    unfold cat
    by_cases hqk:q<k
    ·rw[if_pos hqk]
    rw[if_neg hqk]
    have:q=k:=by omega
    subst this
    rfl
   case measure=>simp[intOf];omega
  have hltI: ¬(k:Int)< (n:Int):=by omega
  obtain rfl:k=n:=by omega
  go_wp2_with fail
  go_ret
  exact⟨_,rfl,Ho.out,hB⟩
end Go.Proofs.YtlmacfmfmjhidaaGreatDoor.Md
namespace Go.Proofs.YtlmacfmfmjhidaaGreatDoor.R6
open Mem Bk Md Go.ChangeShapes Go.WideShapes Go.ChangeAt Go.RowKit
def tb (k:Nat) (x:Nat→Nat) (j:Nat):Nat→Nat:=fun i=>x (j*sz k+i)
theorem kept_row {w:World} (gm:Nat) (cs:Array Value):KeptS [gm] w (w.setRow gm cs):=⟨rfl,rfl,rfl,by simp,fun j _ hs=>setRow_other w gm j cs (by simpa using hs)⟩
theorem own_row {w:World}{base n gm:Nat}{v:Value}{f:Nat→Nat}{ds:Array Value} (h:Mem.Own w base 5 1 v n f) (hg:Blk w gm 72 ds) (cs:Array Value):Mem.Own (w.setRow gm cs) base 5 1 v n f:=
 (kept_row (w:=w) gm cs).own h (fun j es hj=>by simpa using hg.ne hj (by decide))
theorem cells2 {w:World}{g:Nat}{S T:Value} (h:Blk w g 72 (row 2 (bookC S T))): ∀i,i<2→w.cell? ((⟨g,0,none⟩:Addr).add i)=some (bookC S T i):=fun i hi=>by
 rw[add_zero_off,h.cell,row_get _ _ _ hi]
theorem wpl_store_blk {P:Program}{ops:Array Oper}{rest:List Oper}{o:Oper}{a:Act}{w:World}{Q:Exit→Act→World→Prop} (hgd:o.guard=none) (ty:TypeId) (x y:Operand) (ho:o.op= .store ty x y) (g:Nat) (cells:Array Value) (hx:a.eval x= .pointer (some ⟨g,0,none⟩)) (hy:a.eval y= .agg cells)
  (t:TypeId) (old:Array Value) (hg:Blk w g t old) (hi:(P.info? ty).map (·.size)=some cells.size) (hold:old.size=cells.size) (h1:cells.all (·.oneCell')=true)
  (h:wpList P ops Q rest (a.put o.dst undef) (w.setRow g cells)):wpList P ops Q (o::rest) a w:=
 wpList_plain hgd fun _ hK=>wp_store_row ty x y ho g cells hx hy t old hg hi hold h1 (hK _ _ h)
theorem exec_cutLH {P:Program}{o:Oper}{a:Act}{w:World} (ty:TypeId) (p lo hi:Operand) (ho:o.op= .slice ty p (some lo) (some hi) none) (u y z v:Value) (hp:a.eval p=u) (hl:a.eval lo=y) (hh:a.eval hi=z) (hr:(Instr.sliceAt ty u (some y) (some z) none).run P w= .ok v w):(execOp a.eval o).run P w= .ok (.value v) w:=by
 subst hp;subst hl;subst hh
 unfold execOp
 simp[ho,hr]
theorem uS8:Tryz.prog.underlying 22=some (.slice (Tryz.prog.elem 22)):=by kernel_rfl
theorem eS8:Tryz.prog.elem 22=5:=by kernel_rfl
theorem cutLoHi (g:Addr) (n c l m:Nat) (h:l≤m) (hm:m≤c) (hc:l<c) (w:World):(Instr.sliceAt 22 (.slice (some g) n c) (some (.int .i64 (l:Int))) (some (.int .i64 (m:Int))) none).run Tryz.prog w= .ok (.slice (some (g.add l)) (m-l) (c-l)) w:=by
 rw[run_sliceAt_slice w 22 _ _ _ _ uS8,run_slice_lh w 22 _ _ _ uS8 .i64 .i64 (l:Int) (m:Int) (by omega) (by omega) (by omega),eS8,run_size i8q]
 simp[Result.andThen,sliced,show¬c=l by omega]
theorem exec_cutB {o:Oper}{a:Act}{w:World} (p lo hi:Operand) (ho:o.op= .slice 22 p (some lo) (some hi) none) (g:Addr) (M c q n:Nat) (z:Int) (hp:a.eval p= .slice (some g) M c) (hl:a.eval lo= .int .i64 (q:Int)) (hh:a.eval hi= .int .i64 z) (hz:z=((q+n:Nat):Int)) (hn:0<n) (hc:q+n≤c):(execOp a.eval o).run Tryz.prog w= .ok (.value (.slice (some (g.add q)) n (c-q))) w:=by
 subst hz
 have h:=cutLoHi g M c q (q+n) (by omega) hc (by omega) w
 rw[Nat.add_sub_cancel_left] at h
 exact exec_cutLH 22 p lo hi ho _ _ _ _ hp hl hh h
theorem rsize_any (k:Nat) (hk:k=1∨k=2∨k=3) (w:World):Calls Tryz.prog 34 #[.int .i64 (k:Int)] w fun e w'=>e= .returned (.int .i64 (sz k:Int))∧w'=w:=by
 rcases hk with rfl | rfl | rfl
 ·go_enter Tryz.func34,Tryz.ntmps34
  go_wp2
  go_ret
  exact⟨rfl,rfl⟩
 ·go_enter Tryz.func34,Tryz.ntmps34
  go_wp2
  go_ret
  exact⟨rfl,rfl⟩
 go_enter Tryz.func34,Tryz.ntmps34
 go_wp2
 go_ret
 exact⟨rfl,rfl⟩
theorem sz_pos (k:Nat):0<sz k∧sz k≤16:=by unfold sz;split<;>omega
def offV (b:Nat) (w:World) (v:Value):Nat→Prop:=fun g=>g<w.heap.size∧v.ownBlock≠some g∧g≠b
section
variable {w w' wx w3:World}{b n Lk:Nat}{v v':Value}{A:Option Addr}{f:Nat→Nat}{R:List Rw}
theorem off0 (hB:Below w.heap.size w w'): ∀g,g<w.heap.size→offV w.heap.size w' (.slice none 0 0) g:=fun g hg=>⟨Nat.lt_of_lt_of_le hg hB.size,by simp[Value.ownBlock],by omega⟩
theorem reads_off0 (h:Reads w w.heap.size A n f) (hB:Below w.heap.size w w'):ReadsP w' (offV w.heap.size w' (.slice none 0 0)) A n f:=
 ((show ReadsP w (fun g=>g<w.heap.size) A n f from h).keep (fun g hg=>hB.block g hg)).moreP (off0 hB)
theorem loc_same (hb:b<wx.heap.size) (o:Obj) (cs:Array Value): ∀g,LocP (offV b wx v) wx w3 g→((w3.alloc o).setRow b cs).heap[g]? =w3.heap[g]? :=fun g hg=>by
 have hne:g≠b:=by rcases hg.2 with h | h;exact h.2.2;omega
 exact(setRow_other _ b g cs hne).trans (Below.heap_alloc w3 o g hg.1)
theorem loc_off (hb:b<wx.heap.size) (hv: ∀g,v.ownBlock=some g→g<wx.heap.size) (o:Obj) (cs:Array Value): ∀g,LocP (offV b wx v) wx w3 g→offV b ((w3.alloc o).setRow b cs) v g:=fun g hg=>by
 refine⟨by have:=hg.1;simp;omega,fun e=>?_,?_⟩
 ·rcases hg.2 with h | h
  ·exact h.2.1 e
  have:=hv g e;omega
 rcases hg.2 with h | h
 ·exact h.2.2
 omega
theorem reads_offL (h:ReadsP w3 (LocP (offV b wx v) wx w3) A n f) (hb:b<wx.heap.size) (hv: ∀g,v.ownBlock=some g→g<wx.heap.size) (o:Obj) (cs:Array Value):ReadsP ((w3.alloc o).setRow b cs) (offV b ((w3.alloc o).setRow b cs) v) A n f:=
 (h.keep (loc_same hb o cs)).moreP (loc_off hb hv o cs)
theorem grow_same (hg:w.grownBy w' v.ownBlock): ∀g,offV b w v g→w'.heap[g]? =w.heap[g]? :=fun g h=>hg.block g h.1 (fun e=>h.2.1 e.symm)
theorem grow_off (hg:w.grownBy w' v.ownBlock) (hv:v'.ownBlock=v.ownBlock∨v'.ownBlock=some w.heap.size): ∀g,offV b w v g→offV b w' v' g:=fun g h=>by
 refine⟨Nat.lt_of_lt_of_le h.1 hg.size,fun e=>?_,h.2.2⟩
 rcases hv with hv | hv
 ·exact h.2.1 (hv▸e)
 rw[hv] at e
 injection e with e
 have:=h.1
 omega
theorem reads_offG (h:ReadsP w (offV b w v) A n f) (hg:w.grownBy w' v.ownBlock) (hv:v'.ownBlock=v.ownBlock∨v'.ownBlock=some w.heap.size):ReadsP w' (offV b w' v') A n f:=
 (h.keep (grow_same hg)).moreP (grow_off hg hv)
end
theorem cat_list6 (a b:Nat) (f g:Nat→Nat):(List.range (a*1)).map (b8 f)++(List.range b).map (b8 g)=(List.range ((a+b)*1)).map (b8 (cat a f g)):=by
 rw[Nat.mul_one,Nat.mul_one]
 exact cat_list a b f g
theorem wpl_app_at {P:Program}{ops:Array Oper}{rest:List Oper}{o:Oper}{a:Act}{w:World}{Q:Exit→Act→World→Prop} (hgd:o.guard=none) (p q:Operand) (t:TypeId) (ho:o.op= .call {callee:= .builtin .append,args:=#[p,q],argTypes:=#[t,t]}) (base:Nat) (e:TypeId) (ht:P.underlying t=some (.slice e))
  (hinfo:(P.info? e).map (fun i=>(i.zero,i.size,i.bytes))=some (some (.int .u8 0),1,1)) (v:Value) (n:Nat) (f:Nat→Nat) (hp:a.eval p=v) (hown:Mem.Own w base e 1 v n f)
  (ad:Addr) (m c:Nat) (g:Nat→Nat) (hR: ∀i,i<m→w.cell? (ad.add i)=some (.int .u8 ((g i:Nat):Int))) (hq:a.eval q= .slice (some ad) m c) (hn:n+m≤1000000) (hbase:base≤w.heap.size)
  (h: ∀v' w',Mem.Own w' base e 1 v' (n+m) (cat n f g)→Below base w w'→w.grownBy w' v.ownBlock→(v'.ownBlock=v.ownBlock∨v'.ownBlock=some w.heap.size)→wpList P ops Q rest (a.put o.dst v') w'):wpList P ops Q (o::rest) a w:=by
 obtain⟨i,hi,hz0,hz1,hz2⟩:=info_parts hinfo
 obtain⟨v',w',hr,h2,h3,-,h5⟩:=run_append_own_at (P:=P) w base t o.type e i (.int .u8 0) 1 1 ht hi hz0 hz1 hz2 rfl (by omega) v n _ hown ad m c ((List.range m).map (b8 g)) (by simp) (by
   intro j u hu
   by_cases hj:j<m
   ·simp[hj] at hu
    subst hu
    exact hR j hj
   ·rw[List.getElem?_eq_none (by simp;omega)] at hu;cases hu) (by
   intro u hu
   simp only[List.mem_map] at hu
   obtain⟨i,_,rfl⟩:=hu
   rfl) (by unfold maxLen;omega) (by omega) hbase
 refine wpList_plain hgd fun _ hK=>?_
 unfold Oper.wp execOp
 simp only[ho,resolve,invoke,builtin,Sem.run_bind,Sem.run_pure,Result.andThen_ok,List.map_toArray,List.map_cons,List.map_nil,hp,hq,hr]
 rw[cat_list6] at h2
 refine hK _ _ (h v' w' h2 ?_ h3 h5)
 exact(Below.refl base w).grown h3 hbase (fun k hk=>(World.ownsRow.lt hown k hk).1)
theorem own_base6 {w:World}{base base' n:Nat}{v:Value}{f:Nat→Nat} (ho:Mem.Own w base 5 1 v n f) (h:base'≤base):Mem.Own w base' 5 1 v n f:=Md.own_base ho h
end Go.Proofs.YtlmacfmfmjhidaaGreatDoor.R6
namespace Go.Proofs.YtlmacfmfmjhidaaGreatDoor.Mc
open Mem Bk Md Go.ChangeShapes Go.WideShapes Go.ChangeAt Go.RowKit
def lenV:Value→Nat
 | .slice _ n _=>n
 | _=>0
theorem no_mult {L n m:Nat} (h1:L<m) (h2:m<padN L n):m%n≠0:=fun h=>by
 have e1:=Nat.div_add_mod L n
 have e2:=Nat.div_add_mod m n
 rw[h,Nat.add_zero] at e2
 unfold padN at h2
 have h3:L/n<m/n:=by
  apply Classical.byContradiction
  intro hq
  have:=Nat.mul_le_mul_left n (Nat.le_of_not_lt hq)
  omega
 have h4:=Nat.mul_le_mul_right n (Nat.succ_le_of_lt h3)
 rw[Nat.mul_comm (m/n)] at h4
 have h5:(L/n).succ*n=(L/n+1)*n:=rfl
 omega
theorem up {W W':World}{A:Option Addr}{n:Nat}{f:Nat→Nat} (h:Reads W W.heap.size A n f) (hB:Below W.heap.size W W'):Reads W' W'.heap.size A n f:=(h.below hB).more hB.size
theorem bs1 (x:Int) (w:World):(Instr.buildSlice 22 1 #[(0, .int .u8 x)]).run Tryz.prog w= .ok (.slice (some ⟨w.heap.size,0,none⟩) 1 1) (w.alloc (.cells #[.int .u8 x] 5)):=by kernel_rfl
theorem one_reads (w:World) (x:Nat):Reads (w.alloc (.cells #[.int .u8 (x:Int)] 5)) (w.heap.size+1) (some ⟨w.heap.size,0,none⟩) 1 (fun _=>x):=fun _=>⟨_,rfl,Nat.lt_succ_self _,fun j hj=>by
 have:j=0:=by omega
 subst this
 exact(Blk.fresh w 5 #[.int .u8 (x:Int)]).cell 0⟩
set_option maxRecDepth 100000 in
set_option maxHeartbeats 1000000 in
theorem rpad_any (A:Option Addr) (L c:Nat) (f:Nat→Nat) (n M:Nat) (w:World) (hL:L≤1000) (hn:1≤n) (hn':n≤64) (hM:M=padN L n) (hA:A=none→L=0∧c=0) (hR:Reads w w.heap.size A L f):
  Calls Tryz.prog 65 #[.slice A L c, .int .i64 (n:Int)] w fun e w'=> ∃v,e= .returned v∧Mem.Own w' w.heap.size 5 1 v M (padF L f)∧Below w.heap.size w w':=by
 have hLM:L<M:=by rw[hM];exact padN_gt hn
 have hML:M≤L+n:=by rw[hM];exact padN_le
 have Hno:Hid (∀m,L<m→m<M→((m:Int)%(n:Int) != 0)=true):=hid fun m h1 h2=>by
  rw[(rem_n (u:=m) hn rfl).2.2,bne_iff_ne]
  exact fun h=>no_mult h1 (hM▸h2) (Int.natCast_eq_zero.1 h)
 have Hyes:Hid (((M:Int)%(n:Int) != 0)=false):=hid (by
  rw[(rem_n (u:=M) hn rfl).2.2]
  have:M%n=0:=by rw[hM];unfold padN;exact Nat.mul_mod_left _ _
  rw[this];rfl)
 have HA:=hid hA
 have hMs:M≤2000:=by omega
 have hBe:=(Below.refl w.heap.size w).alloc (Nat.le_refl _) (.cells #[] 5)
 have He:=hid (Mem.Own.empty w w.heap.size 5 (fun _=>0) (Nat.le_refl _))
 have HRe:=hid ((hR.below hBe).more hBe.size)
 have HBe:=hid hBe
 have hL6:0+L≤1000000:=by omega
 have hL7:L+1≤1000000:=by omega
 clear hM hA hR hBe
 go_enter Tryz.func65,Tryz.ntmps65
 go_wp2_with (at_builtin; (refine wpl_app_gen rfl _ _ 22 rfl w.heap.size 5 (.int .u8 0) Tryz.underlying22 info_u8 rfl _ 0 _ rfl He.out A L c _ _ HRe.out HA.out rfl hL6 (by simp) ?_))
 intro v1 w1 ho1 hB1
 try rw[Nat.zero_add] at ho1
 have hB01:=HBe.out.trans hB1
 obtain⟨A1,c1,rfl,hc1,-,-⟩:=ho1.slice'
 have hBn:=(Below.refl w1.heap.size w1).alloc (Nat.le_refl _) (.cells #[.int .u8 128] 5)
 have Ho1:=hid (ho1.below hBn (Nat.le_refl _))
 have HN1:=hid (one_reads w1 128)
 have HB1:=hid (hB01.trans (hBn.mono hB01.size))
 have hs1:=HB1.out.size
 clear ho1 hB1 He HRe HBe hBn hB01
 go_wp2_with (at_builtin; (refine wpl_app_gen rfl _ _ 22 rfl w.heap.size 5 (.int .u8 0) Tryz.underlying22 info_u8 rfl _ L _ rfl Ho1.out (some ⟨w1.heap.size,0,none⟩) 1 1 _ _ HN1.out (fun h=>by cases h) rfl hL7 hs1 ?_))
 intro v2 w2 ho2 hB2
 have HB2:=hid (HB1.out.trans hB2)
 have Ho2:Hid (Mem.Own w2 w.heap.size 5 1 v2 (L+1) (padF L f)):=hid (ho2.ext (fun i hi=>by
  unfold cat padF
  by_cases h1:i<L
  ·simp[h1]
  have:i=L:=by omega
  simp[this]))
 clear ho2 hB2 Ho1 HN1 HB1 hs1
 go_wp2_with fail
 go_loopw [5] (fun v wr=> ∃m:Nat,L<m∧m≤M∧Mem.Own wr w.heap.size 5 1 v m (padF L f)∧Below w.heap.size w wr) (fun v _=>M-lenV v)
 case atStart=>exact⟨L+1,by omega,by omega,Ho2.out,HB2.out⟩
 case round=>
  clear Ho2 HB2
  obtain⟨m,hm1,hm2,ho,hB⟩:=hrel
  obtain⟨g,cm,rfl,hcm⟩:=own_at ho (by omega)
  by_cases hlt:m<M
  ·have hno:=Hno.out m hm1 hlt
   have hBn:=(Below.refl wr.heap.size wr).alloc (Nat.le_refl _) (.cells #[.int .u8 0] 5)
   have Ho:=hid (ho.below hBn (Nat.le_refl _))
   have HN:=hid (one_reads wr 0)
   have HB:=hid (hB.trans (hBn.mono hB.size))
   have hs:=HB.out.size
   have hm6:m+1≤1000000:=by omega
   have hmM:m+1≤M:=by omega
   have hLm:L<m+1:=by omega
   have hdec:M-(m+1)<M-m:=by omega
   clear ho hB hBn
   go_wp2_with (at_builtin; (refine wpl_app_gen rfl _ _ 22 rfl w.heap.size 5 (.int .u8 0) Tryz.underlying22 info_u8 rfl _ m _ rfl Ho.out (some ⟨wr.heap.size,0,none⟩) 1 1 _ _ HN.out (fun h=>by cases h) rfl hm6 hs ?_))
   intro v3 w3 ho3 hB3
   obtain⟨A3,c3,rfl,hc3,-,-⟩:=ho3.slice'
   clear hno
   have Ho3:Hid (Mem.Own w3 w.heap.size 5 1 (.slice A3 (m+1) c3) (m+1) (padF L f)):=hid (ho3.ext (fun i hi=>by
    unfold cat
    by_cases h1:i<m
    ·rw[if_pos h1]
    rw[if_neg h1]
    unfold padF
    rw[if_neg (by omega),if_neg (by omega)]))
   have HB3:=hid (HB.out.trans hB3)
   clear ho3 hB3 Ho HN HB
   go_wp2_with fail
   go_round
   case rel=>exact⟨m+1,hLm,hmM,Ho3.out,HB3.out⟩
   case measure=>exact hdec
  have hmM:m=M:=by omega
  have hyes:=Hyes.out
  rw[← hmM] at hyes
  have HmM:=hid hmM
  clear hmM
  go_wp2_with fail
  go_ret
  refine⟨_,rfl,?_,hB⟩
  have h:=HmM.out
  subst h
  exact ho
section
variable {P:Program}{o:Oper}{x:Act}{w:World}
theorem exec_cutH (ty:TypeId) (p hi:Operand) (ho:o.op= .slice ty p none (some hi) none) (u z v:Value) (hp:x.eval p=u) (hh:x.eval hi=z) (hr:(Instr.sliceAt ty u none (some z) none).run P w= .ok v w):(execOp x.eval o).run P w= .ok (.value v) w:=by
 subst hp;subst hh
 unfold execOp
 simp[ho,hr]
theorem exec_cutL (ty:TypeId) (p lo:Operand) (ho:o.op= .slice ty p (some lo) none none) (u z v:Value) (hp:x.eval p=u) (hh:x.eval lo=z) (hr:(Instr.sliceAt ty u (some z) none none).run P w= .ok v w):(execOp x.eval o).run P w= .ok (.value v) w:=by
 subst hp;subst hh
 unfold execOp
 simp[ho,hr]
theorem exec_cutLH (ty:TypeId) (p lo hi:Operand) (ho:o.op= .slice ty p (some lo) (some hi) none) (u y z v:Value) (hp:x.eval p=u) (hl:x.eval lo=y) (hh:x.eval hi=z) (hr:(Instr.sliceAt ty u (some y) (some z) none).run P w= .ok v w):(execOp x.eval o).run P w= .ok (.value v) w:=by
 subst hp;subst hl;subst hh
 unfold execOp
 simp[ho,hr]
end
theorem uS8:Tryz.prog.underlying 22=some (.slice (Tryz.prog.elem 22)):=by kernel_rfl
theorem eS8:Tryz.prog.elem 22=5:=by kernel_rfl
theorem cutHi (g:Addr) (n c m:Nat) (h:m≤c) (w:World):(Instr.sliceAt 22 (.slice (some g) n c) none (some (.int .i64 (m:Int))) none).run Tryz.prog w= .ok (.slice (some g) m c) w:=by
 rw[run_sliceAt_slice w 22 _ _ _ _ uS8,run_slice_h w 22 _ _ _ uS8 .i64 (m:Int) (by omega) (by omega),eS8,run_size i8q]
 simp[Result.andThen,sliced,Addr.add]
theorem cutLo (g:Addr) (n c m:Nat) (h:m≤n) (hc:m<c) (w:World):(Instr.sliceAt 22 (.slice (some g) n c) (some (.int .i64 (m:Int))) none none).run Tryz.prog w= .ok (.slice (some (g.add m)) (n-m) (c-m)) w:=by
 rw[run_sliceAt_slice w 22 _ _ _ _ uS8,run_slice_l w 22 _ _ _ uS8 .i64 (m:Int) (by omega) (by omega),eS8,run_size i8q]
 simp[Result.andThen,sliced,show¬c=m by omega]
theorem cutLoHi (g:Addr) (n c l m:Nat) (h:l≤m) (hm:m≤c) (hc:l<c) (w:World):(Instr.sliceAt 22 (.slice (some g) n c) (some (.int .i64 (l:Int))) (some (.int .i64 (m:Int))) none).run Tryz.prog w= .ok (.slice (some (g.add l)) (m-l) (c-l)) w:=by
 rw[run_sliceAt_slice w 22 _ _ _ _ uS8,run_slice_lh w 22 _ _ _ uS8 .i64 .i64 (l:Int) (m:Int) (by omega) (by omega) (by omega),eS8,run_size i8q]
 simp[Result.andThen,sliced,show¬c=l by omega]
end Go.Proofs.YtlmacfmfmjhidaaGreatDoor.Mc
namespace Go.Proofs.YtlmacfmfmjhidaaGreatDoor.Rm
open Mem Des Bk Md Mc Go.ChangeShapes Go.WideShapes Go.ChangeAt Go.RowKit
set_option maxRecDepth 100000 in
set_option maxHeartbeats 2000000 in
theorem bytes_M (A:Option Addr) (c M:Nat) (hM0:0<M) (hM1:M≤100) (l:Nat→Nat) (hl: ∀t,l t<2) (w:World) (N:Nat) (hN:N=8*M) (hL:Lst w 3 A N (iv .i64 l)):
  Calls Tryz.prog 97 #[.slice A N c] w fun e w'=> ∃A' c',e= .returned (.slice A' M c')∧M≤c'∧Lst w' 5 A' M (iv .u8 fun i=>b2 l i 8)∧Below w.heap.size w w'∧Mem.Own w' w.heap.size 5 1 (.slice A' M c') M (fun i=>b2 l i 8):=by
 obtain⟨ad,rfl,had⟩:=hL.some
 have HL:=hid hL
 have Hl:=hid hl
 have HN:=hid hN
 have hN8:(N:Int)=8*(M:Int):=by omega
 clear hL hl hN
 go_enter Tryz.func97,Tryz.ntmps97
 go_wp2_with fail
 go_loopw [3,4] (fun v i wr=> ∃m:Nat,m≤M∧OwnV wr w.heap.size 5 v m (iv .u8 fun i=>b2 l i 8)∧i= .int .i64 (8*(m:Int))∧Below w.heap.size w wr) (fun _ i _=>N-(intOf i).toNat)
 case atStart=>exact⟨0,by omega,OwnV.nil _ _ _ _,rfl,Below.refl _ _⟩
 case round=>
  obtain⟨m,hm,ho,rfl,hB⟩:=hrel
  by_cases hlt:m<M
  ·have e1:decide (8*(m:Int)+8≤(N:Int))=true:=by simp;have:=HN.out;omega
   go_wp2_with fail
   go_loop [5,6] (fun x k=> ∃q:Nat,q≤8∧x= .int .i64 (b2 l m q:Nat)∧k= .int .i64 q) (fun _ k=>8-(intOf k).toNat)
   case atStart=>exact⟨0,by omega,rfl,rfl⟩
   case round=>
    obtain⟨q,hq,rfl,rfl⟩:=hrel
    have hb:=b2_lt Hl.out m q
    have hb8:2^q≤2^8:=Nat.pow_le_pow_right (by omega) hq
    by_cases hlt2:q<8
    ·have hl2:=Hl.out (8*m+q)
     have hi:8*m+q<N:=by have:=HN.out;omega
     have HC:Hid (wr.cell? (ad.add (8*m+q))=some (.int .i64 ((l (8*m+q):Nat):Int))):=hid ((hB.cell (by rw[add_block];exact had)).trans (HL.out.at _ hi))
     have hbq:b2 l m q<256:=by omega
     go_wp2_with (first
      | (with_reducible refine wpl_sl1 rfl 152 _ _ rfl ad N c rfl .i64 _ rfl (8*m+q) (by omega) 3 Tryz.underlying152 hi iI ?_)
      | (with_reducible refine wpl_ld rfl 3 _ rfl _ rfl .i64 Tryz.underlying3 _ HC.out ?_))
     have hbs:b2 l m (q+1)=2*b2 l m q+l (8*m+q):=rfl
     exact⟨⟨q+1,by omega,by first | exact val_int (by rw[hbs];omega) | (rw[hbs];omega),by first | exact val_int (by omega) | omega⟩,by simp[intOf];omega⟩
    have hq8:Hid (b2 l m q=b2 l m 8):=hid (by rw[show q=8 by omega])
    have hbq:b2 l m q<256:=by omega
    go_wp2_with (at_builtin;refine wpl_appN rfl _ _ 22 rfl w.heap.size 5 (.int .u8 0) 1 Tryz.underlying22 infoB rfl _ m _ rfl ho 1 (fun _=> .int .u8 ((b2 l m q:Nat):Int)) _ (row1v _ _ (val_int (by omega))) (fun _=>rfl) rfl (by omega) (by omega) hB.size ?_)
    intro v' w1 ho1 hB1 _
    have ho2:OwnV w1 w.heap.size 5 v' (m+1) (iv .u8 fun i=>b2 l i 8):=ho1.ext (fun i hi=>by
     unfold catV
     by_cases h:i<m
     ·rw[if_pos h]
     rw[if_neg h,hq8.out];obtain rfl:i=m:=by omega
     rfl)
    have hB2:=hB.trans hB1
    clear ho1 hB1 hB ho
    go_wp2_with fail
    exact⟨⟨m+1,by omega,ho2,val_int (by omega),hB2⟩,by have:=HN.out;simp[intOf];omega⟩
  have e1:decide (8*(m:Int)+8≤(N:Int))=false:=by simp;have:=HN.out;omega
  go_wp2_with fail
  have hlst:OwnV wr w.heap.size 5 u3 M (iv .u8 fun i=>b2 l i 8):=by
   have hm8:m=M:=by omega
   rw[hm8] at ho;exact ho
  have hown:Mem.Own wr w.heap.size 5 1 u3 M (fun i=>b2 l i 8):=by
   have h0:wr.ownsRow w.heap.size 5 1 u3 M ((List.range M).map (iv .u8 fun i=>b2 l i 8)):=hlst
   unfold Mem.Own
   rw[Nat.mul_one]
   exact h0
  obtain⟨A',c',rfl,hc',hL'⟩:=hlst.lst (by omega)
  go_ret
  exact⟨A',c',rfl,hc',hL',hB,hown⟩
theorem b2_same {l l':Nat→Nat}{i j:Nat}: ∀q,(∀t,t<q→l (8*i+t)=l' (8*j+t))→b2 l i q=b2 l' j q
 | 0,_=>rfl
 | q+1,h=>by
  unfold b2
  rw[b2_same q (fun t ht=>h t (by omega)),h q (by omega)]
def up7 (a c:Nat):Nat→Nat:=fun t=>if t<7 then a/2^(6-t)%2 else c
theorem up7_b2: ∀a,a<256→∀c,c<2→b2 (up7 a c) 0 8=(a*2%256) ||| c:=by decide+kernel
def shB (n:Nat) (f:Nat→Nat):Nat→Nat:=fun t=>if t<8*n-1 then bitsF f (1+t) else 0
theorem sh_b2 {n:Nat}{f:Nat→Nat} (hf: ∀i,i<n→f i<256){i:Nat} (hi:i<n):b2 (shB n f) i 8=sh n f i:=by
 have hc:(if i+1<n then f (i+1)/128 else 0)<2:=by
  split
  ·have:=hf (i+1) (by assumption);omega
  omega
 unfold sh
 rw[← up7_b2 (f i) (hf i hi) _ hc]
 refine b2_same 8 fun t ht=>?_
 unfold shB up7 bitsF
 rw[Nat.mul_zero,Nat.zero_add]
 by_cases h7:t<7
 ·rw[if_pos (by omega),if_pos h7,show(1+(8*i+t))/8=i by omega,show(1+(8*i+t))%8=1+t by omega,show 7-(1+t)=6-t by omega]
 have h7':t=7:=by omega
 subst h7'
 rw[if_neg (show¬7<7 by omega)]
 by_cases hl:i+1<n
 ·rw[if_pos (by omega),if_pos hl,show(1+(8*i+7))/8=i+1 by omega,show(1+(8*i+7))%8=0 by omega]
  have:=hf (i+1) hl
  show f (i+1)/128%2=f (i+1)/128
  omega
 rw[if_neg (by omega),if_neg hl]
set_option maxRecDepth 100000 in
set_option maxHeartbeats 2000000 in
theorem rdbl_any (A:Option Addr) (n c:Nat) (f:Nat→Nat) (w:World) (hn:n=8∨n=16) (hf: ∀i,i<n→f i<256) (hR:Reads w w.heap.size A n f):
  Calls Tryz.prog 64 #[.slice A n c] w fun e w'=> ∃v,e= .returned v∧Mem.Own w' w.heap.size 5 1 v n (dbl n f)∧Below w.heap.size w w':=by
 have Hf:=hid hf
 have HR:=hid hR
 clear hf hR
 have hn0:0<n:=by omega
 go_enter Tryz.func64,Tryz.ntmps64
 have h8n:1≤8*n:=by omega
 go_wp2_with (first
  | (go_at_call 96;refine(bits_any A n c f hn0 (by omega) Hf.out _ HR.out).mono ?_;rintro e w1 ⟨A1,c1,rfl,hc1,hL1,hB1⟩;obtain⟨ad1,rfl,hbl1⟩:=hL1.some;have HL1:=hid hL1;have HB1:=hid hB1;have H0:=hid (OwnV.empty w1 w1.heap.size 3 (iv .i64 fun _=>0) (Nat.le_refl _));have HLe:=hid ((hL1.alloc (.cells #[] 3)).cut 1 (by omega));have HBe:=hid ((Below.refl w1.heap.size w1).alloc (Nat.le_refl _) (.cells #[] 3));have hsize1:w1.heap.size≤(w1.alloc (.cells #[] 3)).heap.size:=(by simp);clear hL1 hB1)
  | (at_builtin;refine wpl_appV rfl _ _ 152 rfl w1.heap.size 3 (.int .i64 0) 8 Tryz.underlying152 infoI rfl _ 0 (iv .i64 fun _=>0) rfl H0.out ⟨ad1.block,ad1.off+1,none⟩ (8*n-1) (c1-1) (fun i=>iv .i64 (bitsF f) (1+i)) (fun i hi=>HLe.out.at i hi) (fun _=>rfl) rfl (by omega) (by omega) hsize1 ?_))
 intro v2 w2 ho2 hB2 _
 have hB12:=HBe.out.trans hB2
 have ho2b:OwnV w2 w1.heap.size 3 v2 (8*n-1) (iv .i64 fun t=>bitsF f (1+t)):=by
  try rw[Nat.zero_add] at ho2
  exact ho2.ext (fun i hi=>by unfold catV;rw[if_neg (by omega)];rfl)
 have Ho2:=hid ho2b
 have HL2:Hid (w2.cell? (ad1.add 0)=some (iv .i64 (bitsF f) 0)):=hid ((hB12.cell (p:=ad1.add 0) (by rw[add_block];exact hbl1)).trans (HL1.out.at 0 (by omega)))
 have HB2:=hid (HB1.out.trans (hB12.mono HB1.out.size))
 have hs12:=hB12.size
 have hs01:=HB1.out.size
 clear ho2 ho2b hB2 hB12 H0 HLe HBe HB1 HL1 hsize1
 go_wp2_with (at_builtin;refine wpl_appN rfl _ _ 152 rfl w1.heap.size 3 (.int .i64 0) 8 Tryz.underlying152 infoI rfl _ (8*n-1) _ rfl Ho2.out 1 (fun _=> .int .i64 0) _ (row1v _ _ rfl) (fun _=>rfl) rfl (by omega) (by omega) hs12 ?_)
 intro v3 w3 ho3 hB3 _
 have e8:8*n-1+1=8*n:=by omega
 try rw[e8] at ho3
 have ho3b:OwnV w3 w1.heap.size 3 v3 (8*n) (iv .i64 (shB n f)):=ho3.ext (fun i hi=>by
  unfold catV iv shB
  by_cases h:i<8*n-1
  ·rw[if_pos h,if_pos h]
  rw[if_neg h,if_neg h]
  rfl)
 obtain⟨A3,c3,rfl,hc3,hL3⟩:=ho3b.lst (by omega)
 have HL3:=hid hL3
 have HL23:Hid (w3.cell? (ad1.add 0)=some (iv .i64 (bitsF f) 0)):=hid ((hB3.cell (p:=ad1.add 0) (by rw[add_block];exact hbl1)).trans HL2.out)
 have hs13:=hB3.size
 have HB3:=hid (HB2.out.trans (hB3.mono (by have:=HB2.out.size;omega)))
 clear ho3 ho3b hL3 HL2 HB2 Ho2
 go_wp2_with fail
 refine(bytes_M A3 c3 n (by omega) (by omega) (shB n f) (fun t=>by unfold shB;split;exact Nat.mod_lt _ (by omega);omega) _ (8*n) rfl HL3.out).mono ?_
 rintro e w4 ⟨A4,c4,rfl,hc4,-,hB4,ho4⟩
 have Ho4:Hid (Mem.Own w4 w3.heap.size 5 1 (.slice A4 n c4) n (sh n f)):=hid (ho4.ext (fun i hi=>sh_b2 Hf.out (by omega)))
 have HL4:Hid (w4.cell? (ad1.add 0)=some (iv .i64 (bitsF f) 0)):=hid ((hB4.cell (p:=ad1.add 0) (by rw[add_block];omega)).trans HL23.out)
 have HB4:=hid (HB3.out.trans (hB4.mono HB3.out.size))
 have hs1:=HB3.out.size
 clear ho4 hB4 HL23 HB3 HL3
 have h0n:0<8*n:=by omega
 have h00:bitsF f 0=f 0/128:=by
  have:=Hf.out 0 hn0
  unfold bitsF
  show f 0/128%2=f 0/128
  omega
 have hb0:w4.cell? (ad1.add 0)=some (.int .i64 ((f 0/128:Nat):Int)):=by
  rw[← h00]
  exact HL4.out
 have hdb: ∀i,dbl n f i=if f 0/128=1∧i+1=n then sh n f i ^^^ en n else sh n f i:=fun _=>rfl
 have Hdb:=hid hdb
 have Hf0:=hid (Hf.out 0 hn0)
 clear h00 hdb
 generalize f 0/128=tb at*
 by_cases ht:tb=1
 ·have htI:((tb:Int) == 1)=true:=by simp;omega
  by_cases hn8:n=8
  ·have hnI:((n:Int) == 8)=true:=by simp;omega
   have hnJ:((n:Int) == 16)=false:=by simp;omega
   have Hn8:=hid hn8
   clear hn8
   have hi:7<n:=by have:=Hn8.out;omega
   have hx0:sh n f 7<256:=sh_lt Hf.out _ hi
   obtain⟨g,hgA,hgb,hgl,hcg,hfg,hoP⟩:=Bk.Own.put Ho4.out hi (sh n f 7 ^^^ 27)
   cases hgA
   have HoP:=hid hoP
   have hxr:bits .xor .u8 ((sh n f 7:Nat):Int) 27=((sh n f 7 ^^^ 27:Nat):Int):=u8_xor_nat _ 27 hx0 (by omega)
   generalize hy:sh n f 7=y at*
   have hb02:(w4.setCell ⟨g,7,none⟩ (.int .u8 ((y ^^^ 27:Nat):Int))).cell? (ad1.add 0)=some (.int .i64 ((tb:Nat):Int)):=(((Below.refl w3.heap.size w4).setCell (p:=⟨g,7,none⟩) hgb (.int .u8 ((y ^^^ 27:Nat):Int))).cell (p:=ad1.add 0) (by rw[add_block];omega)).trans hb0
   clear hoP
   go_wp2_with (first
    | (with_reducible refine wpl_ld rfl 3 _ rfl _ rfl .i64 Tryz.underlying3 _ hb02 ?_)
    | (with_reducible refine wpl_sl1 rfl 152 _ _ rfl ad1 (8*n) c1 rfl .i64 _ rfl 0 rfl 3 Tryz.underlying152 h0n Des.iI ?_)
    | (with_reducible refine wpl_ld rfl 3 _ rfl _ rfl .i64 Tryz.underlying3 _ hb0 ?_)
    | (with_reducible refine wpl_slb rfl 22 _ _ rfl g n c4 rfl .i64 _ rfl 7 rfl 5 Tryz.underlying22 hi i8q ?_)
    | (with_reducible refine wpl_ld rfl 5 _ rfl _ rfl .u8 Tryz.underlying5 _ hcg ?_)
    | (with_reducible refine wpl_st rfl 5 _ _ rfl _ rfl .u8 _ rfl i8q _ hcg hfg ?_))
   go_ret
   refine⟨_,rfl,own_base (HoP.out.ext (fun i hi=>?_)) hs1,HB4.out.setCell (by show w.heap.size≤g;omega) _⟩
   rw[Hdb.out]
   unfold upd
   by_cases h7:i=7
   ·subst h7
    rw[if_pos rfl,if_pos ⟨ht,by have:=Hn8.out;omega⟩,← hy]
    unfold en
    rw[if_pos Hn8.out]
   rw[if_neg h7,if_neg (by have:=Hn8.out;omega)]
  have hnI:((n:Int) == 8)=false:=by simp;omega
  have hnJ:((n:Int) == 16)=true:=by simp;omega
  have hi:15<n:=by omega
  have hx0:sh n f 15<256:=sh_lt Hf.out _ hi
  obtain⟨g,hgA,hgb,hgl,hcg,hfg,hoP⟩:=Bk.Own.put Ho4.out hi (sh n f 15 ^^^ 135)
  cases hgA
  have HoP:=hid hoP
  have hxr:bits .xor .u8 ((sh n f 15:Nat):Int) 135=((sh n f 15 ^^^ 135:Nat):Int):=u8_xor_nat _ 135 hx0 (by omega)
  generalize hy:sh n f 15=y at*
  have hb02:(w4.setCell ⟨g,15,none⟩ (.int .u8 ((y ^^^ 135:Nat):Int))).cell? (ad1.add 0)=some (.int .i64 ((tb:Nat):Int)):=(((Below.refl w3.heap.size w4).setCell (p:=⟨g,15,none⟩) hgb (.int .u8 ((y ^^^ 135:Nat):Int))).cell (p:=ad1.add 0) (by rw[add_block];omega)).trans hb0
  clear hoP
  go_wp2_with (first
   | (with_reducible refine wpl_ld rfl 3 _ rfl _ rfl .i64 Tryz.underlying3 _ hb02 ?_)
   | (with_reducible refine wpl_sl1 rfl 152 _ _ rfl ad1 (8*n) c1 rfl .i64 _ rfl 0 rfl 3 Tryz.underlying152 h0n Des.iI ?_)
   | (with_reducible refine wpl_ld rfl 3 _ rfl _ rfl .i64 Tryz.underlying3 _ hb0 ?_)
   | (with_reducible refine wpl_slb rfl 22 _ _ rfl g n c4 rfl .i64 _ rfl 15 rfl 5 Tryz.underlying22 hi i8q ?_)
   | (with_reducible refine wpl_ld rfl 5 _ rfl _ rfl .u8 Tryz.underlying5 _ hcg ?_)
   | (with_reducible refine wpl_st rfl 5 _ _ rfl _ rfl .u8 _ rfl i8q _ hcg hfg ?_))
  go_ret
  refine⟨_,rfl,own_base (HoP.out.ext (fun i hi=>?_)) hs1,HB4.out.setCell (by show w.heap.size≤g;omega) _⟩
  rw[Hdb.out]
  unfold upd
  by_cases h7:i=15
  ·subst h7
   rw[if_pos rfl,if_pos ⟨ht,by omega⟩,← hy]
   unfold en
   rw[if_neg hn8]
  rw[if_neg h7,if_neg (by omega)]
 have htI:((tb:Int) == 1)=false:=by simp;omega
 go_wp2_with (first
  | (with_reducible refine wpl_sl1 rfl 152 _ _ rfl ad1 (8*n) c1 rfl .i64 _ rfl 0 rfl 3 Tryz.underlying152 h0n Des.iI ?_)
  | (with_reducible refine wpl_ld rfl 3 _ rfl _ rfl .i64 Tryz.underlying3 _ hb0 ?_))
 go_ret
 exact⟨_,rfl,own_base (Ho4.out.ext (fun i hi=>by rw[Hdb.out,if_neg (fun h=>ht h.1)])) hs1,HB4.out⟩
end Go.Proofs.YtlmacfmfmjhidaaGreatDoor.Rm
namespace Go.Proofs.YtlmacfmfmjhidaaGreatDoor.Rc
open Mem Bk Md Mc R6 Rm Go.ChangeShapes Go.WideShapes Go.ChangeAt Go.RowKit
section
variable {P:Program}{o:Oper}{a:Act}{w w':World}{K:Act→World→Prop}{Q:Exit→Act→World→Prop}
theorem wp_valw2 (v:Value) (hr:(execOp a.eval o).run P w= .ok (.value v) w') (h:K (a.put o.dst v) w'):o.wp P a w K Q:=by
 unfold Oper.wp
 rw[hr]
 exact h
theorem exec_mk (x y:Operand) (ho:o.op= .makeSlice 22 x y) (n:Nat) (hn:n≤1000) (hx:a.eval x= .int .i64 (n:Int)) (hy:a.eval y= .int .i64 (n:Int)):(execOp a.eval o).run Tryz.prog w= .ok (.value (.slice (some ⟨w.heap.size,0,none⟩) n n)) (w.alloc (.cells (row n (b8 Mc.zf)) 5)):=by
 have hr:=run_make_row' (P:=Tryz.prog) 22 5 (.int .u8 0) 1 Tryz.underlying22 info8 rfl .i64 .i64 n (by omega) (by omega) w
 rw[made_b8] at hr
 unfold execOp
 simp[ho,hx,hy,hr]
 rfl
theorem exec_cutLZ (p lo:Operand) (ho:o.op= .slice 22 p (some lo) none none) (g:Addr) (M c q n:Nat) (z:Int) (hp:a.eval p= .slice (some g) M c) (hl:a.eval lo= .int .i64 z) (hz:z=(q:Int)) (hM:M=q+n) (hn:0<n) (hc:M≤c):(execOp a.eval o).run Tryz.prog w= .ok (.value (.slice (some (g.add q)) n (c-q))) w:=by
 subst hz hM
 have h:=cutLo g (q+n) c q (by omega) (by omega) w
 rw[Nat.add_sub_cancel_left] at h
 exact exec_cutL 22 p lo ho _ _ _ hp hl h
theorem exec_cutHZ (p hi:Operand) (ho:o.op= .slice 22 p none (some hi) none) (g:Addr) (M c q:Nat) (z:Int) (hp:a.eval p= .slice (some g) M c) (hl:a.eval hi= .int .i64 z) (hz:z=(q:Int)) (hc:q≤c):(execOp a.eval o).run Tryz.prog w= .ok (.value (.slice (some g) q c)) w:=by
 subst hz
 exact exec_cutH 22 p hi ho _ _ _ hp hl (cutHi g M c q hc w)
end
section
variable {p:Pl}{k Lk:Nat}{o:Option (Nat→Nat)}{R':List Rw}{d' b:Nat}{w1 wc w3:World}{Ar:Option Addr}{cr:Nat}{At:Option Addr}{ct:Nat}{v:Value}{ok:Bool}{t:TypeId}{old cs:Array Value}
end
end Go.Proofs.YtlmacfmfmjhidaaGreatDoor.Rc
