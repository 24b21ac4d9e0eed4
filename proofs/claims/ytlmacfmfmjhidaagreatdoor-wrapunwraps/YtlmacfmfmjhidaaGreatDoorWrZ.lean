/-
 Wr9 Wr10 Wr11
-/
import Derived.Test.YtlmacfmfmjhidaaGreatDoorWrY
import Derived.Test.YtlmacfmfmjhidaaGreatDoorRbX
namespace Go.Proofs.YtlmacfmfmjhidaaGreatDoor.Wr
open Mem Bk Md Mc R6 Rc Dg Go.ChangeShapes Go.WideShapes Go.ChangeAt Go.RowKit
theorem rcmac12 (k Lk:Nat) (hk:k=1∨k=2) (hf:fits k Lk) (Ak:Option Addr) (ck:Nat) (key:Nat→Nat) (hck:Lk≤ck) (hkb: ∀i,i<Lk→key i<256) (A:Option Addr) (L c:Nat) (t:Nat→Nat) (w:World) (hkey:Reads w w.heap.size Ak Lk key) (hL:L≤500) (hA:A=none→L=0∧c=0) (ht: ∀i,i<L→t i<256) (hR:Reads w w.heap.size A L t) (hl0: ¬L=0:=by omega):
  Calls Tryz.prog 33 #[.int .i64 (k:Int), .slice Ak Lk ck,bk0, .slice A L c] w fun e w'=> ∃bA bn bc tA tn tc A' c',e= .returned (.tuple #[.agg (row 2 (bookC (.slice bA bn bc) (.slice tA tn tc))), .slice A' (sz k) c', .bool true])∧sz k≤c'∧Reads w' w'.heap.size A' (sz k) (cmacF k Lk key L t)∧Below w.heap.size w w':=by
 refine(Rb.rcmac0 k Lk hk hf Ak ck key hck hkb A L c t w hkey hL hl0 hA ht hR).mono ?_
 rintro e w' ⟨A',c',rfl,hc,hr,hB⟩
 exact⟨none,0,0,none,0,0,A',c',by rw[Rb.bk0_row],hc,hr,hB⟩
theorem rmode12 (k Lk:Nat) (hk:k=1∨k=2) (hf:fits k Lk) (Ak:Option Addr) (ck:Nat) (key:Nat→Nat) (hck:Lk≤ck) (hkb: ∀i,i<Lk→key i<256) (bk:Bool) (As:Option Addr) (cs:Nat) (s:Nat→Nat) (A:Option Addr) (M c N:Nat) (x:Nat→Nat) (w:World) (hkey:Reads w w.heap.size Ak Lk key) (hM:M=N*sz k) (hM1:M≤500) (hc:M≤c) (hx: ∀i,i<M→x i<256) (hR:Reads w w.heap.size A M x) (hs: ∀i,i<sz k→s i<256) (hRs:Reads w w.heap.size As (sz k) s):
  Calls Tryz.prog 36 #[.int .i64 (k:Int), .slice Ak Lk ck,bk0, .slice As (sz k) cs, .slice A M c, .bool bk] w fun e w'=> ∃bA bn bc tA tn tc v,e= .returned (.tuple #[.agg (row 2 (bookC (.slice bA bn bc) (.slice tA tn tc))),v, .int .i64 (-1)])∧Mem.Own w' w.heap.size 5 1 v M (chainF k Lk key bk s x N)∧Below w.heap.size w w':=by
 cases bk
 ·refine(Rb.rmode0f k Lk hk hf Ak ck key hck hkb As cs s A M c N x w hkey hM (by omega) hc hx hR hs hRs).mono ?_
  rintro e w' ⟨v,rfl,ho,hB⟩
  exact⟨none,0,0,none,0,0,v,by rw[Rb.bk0_row],ho,hB⟩
 refine(Rb.rmode0b k Lk hk hf Ak ck key hck hkb As cs s A M c N x w hkey hM (by omega) hc hx hR hs hRs).mono ?_
 rintro e w' ⟨v,rfl,ho,hB⟩
 exact⟨none,0,0,none,0,0,v,by rw[Rb.bk0_row],ho,hB⟩
end Go.Proofs.YtlmacfmfmjhidaaGreatDoor.Wr
namespace Go.Proofs.YtlmacfmfmjhidaaGreatDoor.Wr
open Mem Bk Md Mc R6 Rc Dg Go.ChangeShapes Go.WideShapes Go.ChangeAt Go.RowKit
theorem rkind_any (v:Nat) (w:World):Calls Tryz.prog 32 #[.int .u8 (v:Int)] w fun e w'=>e= .returned (.int .i64 (kd v:Int))∧w'=w:=by
 by_cases h:v=66
 ·subst h
  go_enter Tryz.func32,Tryz.ntmps32
  go_wp2_with fail
  go_ret
  exact⟨rfl,rfl⟩
 have h1:((v:Int) == 66)=false:=by simp;omega
 by_cases h2:v=68
 ·subst h2
  go_enter Tryz.func32,Tryz.ntmps32
  go_wp2_with fail
  go_ret
  exact⟨rfl,rfl⟩
 have h3:((v:Int) == 68)=false:=by simp;omega
 have hk:kd v=0:=by unfold kd;rw[if_neg h,if_neg h2]
 rw[hk]
 clear h h2 hk
 go_enter Tryz.func32,Tryz.ntmps32
 go_wp2_with fail
 go_ret
 exact⟨rfl,rfl⟩
theorem kfit_32 {a:Nat} (ha:ka a=1∨ka a=2):decide (kfit (ka a) 32)=((a:Int) == 65):=by
 unfold ka kfit at*
 by_cases h1:a=84
 ·subst h1
  rfl
 rw[if_neg h1] at ha ⊢
 by_cases h2:a=65
 ·subst h2
  rfl
 rw[if_neg h2] at ha
 omega
theorem rfits_any (a L:Nat) (ha:ka a=1∨ka a=2) (w:World):Calls Tryz.prog 12 #[.int .u8 (a:Int), .int .i64 (L:Int)] w fun e w'=>e= .returned (.bool (decide (kfit (ka a) L)))∧w'=w:=by
 by_cases h1:L=16
 ·subst h1
  go_enter Tryz.func12,Tryz.ntmps12
  go_wp2_with fail
  go_ret
  exact⟨by simp[kfit],rfl⟩
 have i1:((L:Int) == 16)=false:=by simp;omega
 by_cases h2:L=24
 ·subst h2
  go_enter Tryz.func12,Tryz.ntmps12
  go_wp2_with fail
  go_ret
  exact⟨by simp[kfit],rfl⟩
 have i2:((L:Int) == 24)=false:=by simp;omega
 by_cases h3:L=32
 ·subst h3
  rw[kfit_32 ha]
  clear ha i1 i2 h1 h2
  go_enter Tryz.func12,Tryz.ntmps12
  go_wp2_with fail
  go_ret
  exact⟨rfl,rfl⟩
 have i3:((L:Int) == 32)=false:=by simp;omega
 have hk:decide (kfit (ka a) L)=false:=decide_eq_false (by unfold kfit;omega)
 rw[hk]
 clear ha h1 h2 h3 hk
 go_enter Tryz.func12,Tryz.ntmps12
 go_wp2_with fail
 go_ret
 exact⟨rfl,rfl⟩
set_option maxRecDepth 100000 in
theorem rfill_k (v n k:Nat) (hv:kd v=k) (hk:k=1∨k=2) (w:World):Calls Tryz.prog 13 #[.int .u8 (v:Int), .int .i64 (n:Int)] w fun e w'=>e= .returned (.int .i64 (fill (sz k) n:Int))∧w'=w:=by
 obtain⟨r,hr⟩: ∃r,r=n%sz k:=⟨_,rfl⟩
 obtain⟨F,hF⟩: ∃F,F=fill (sz k) n:=⟨_,rfl⟩
 have hs:=sz_or k
 have hlt:Hid (∀j,j<F→(r+2+j)%sz k≠0):=hid fun j hj=>by
  unfold fill at hF
  rw[← hr] at hF
  rcases hs with e | e<;>rw[e] at hF hr ⊢ <;>omega
 have heq:Hid ((r+2+F)%sz k=0):=hid (by
  unfold fill at hF
  rw[← hr] at hF
  rcases hs with e | e<;>rw[e] at hF hr ⊢ <;>omega)
 have hF16:F≤16:=by
  have:=fill_lt (n:=n) hs
  omega
 have hr16:r≤16:=by rcases hs with e | e<;>rw[e] at hr<;>omega
 have hsp:=Md.sz_pos k
 have E1:Hid ((0:Int)≤(n:Int)∧(0:Int)< (sz k:Int)∧(n:Int)%(sz k:Int)=(r:Int)):=hid ⟨by omega,by omega,by rw[hr];rfl⟩
 have k0:((k:Int) == 0)=false:=by simp;omega
 have n0:decide ((n:Int)<0)=false:=by simp
 rw[← hF]
 have Hv:=hid hv
 have Hk3:Hid (k=1∨k=2∨k=3):=hid (by omega)
 clear hr hF hs hv hk
 go_enter Tryz.func13,Tryz.ntmps13
 go_wp2_with (first
  | (go_at_call 32;refine(rkind_any v _).mono ?_;rintro x1 w1 ⟨rfl,rfl⟩;rw[Hv.out])
  | (go_at_call 34;refine(rsize_any k Hk3.out _).mono ?_;rintro x1 w1 ⟨rfl,rfl⟩))
 go_loop [6] (fun y=> ∃j:Nat,j≤F∧y= .int .i64 (j:Int)) (fun y=>20-(intOf y).toNat)
 case atStart=>exact⟨0,by omega,rfl⟩
 case round=>
  obtain⟨j,hj,rfl⟩:=hrel
  obtain⟨q,hq⟩: ∃q,q=(r+2+j)%sz k:=⟨_,rfl⟩
  have E2:Hid ((0:Int)≤((r:Int)+2+(j:Int))∧(0:Int)< (sz k:Int)∧((r:Int)+2+(j:Int))%(sz k:Int)=(q:Int)):=hid ⟨by omega,by omega,by rw[hq];rfl⟩
  by_cases hjF:j<F
  ·have hq0:((q:Int) != 0)=true:=by have:=hlt.out j hjF;simp;omega
   clear hq
   go_wp2_with (first
    | (with_reducible refine wpl_val rfl _ (exec_remN _ _ _ _ rfl _ _ _ rfl rfl E1.out) ?_)
    | (with_reducible refine wpl_val rfl _ (exec_remN _ _ _ _ rfl _ _ _ rfl rfl E2.out) ?_))
   go_round
   case rel=>exact⟨j+1,by omega,val_int (by omega)⟩
   case measure=>simp[intOf];omega
  obtain rfl:j=F:=by omega
  have hq0:((q:Int) != 0)=false:=by have:=heq.out;simp;omega
  clear hq
  go_wp2_with (first
   | (with_reducible refine wpl_val rfl _ (exec_remN _ _ _ _ rfl _ _ _ rfl rfl E1.out) ?_)
   | (with_reducible refine wpl_val rfl _ (exec_remN _ _ _ _ rfl _ _ _ rfl rfl E2.out) ?_))
  go_ret
  exact⟨rfl,rfl⟩
theorem rfill_0 (v:Nat) (z:Int) (hv:kd v=0) (w:World):Calls Tryz.prog 13 #[.int .u8 (v:Int), .int .i64 z] w fun e w'=>e= .returned (.int .i64 0)∧w'=w:=by
 go_enter Tryz.func13,Tryz.ntmps13
 go_wp2_with (go_at_call 32;refine(rkind_any v _).mono ?_;rintro x1 w1 ⟨rfl,rfl⟩;rw[hv])
 go_ret
 exact⟨rfl,rfl⟩
theorem rfill_n (v:Nat) (z:Int) (hz:z<0) (w:World):Calls Tryz.prog 13 #[.int .u8 (v:Int), .int .i64 z] w fun e w'=>e= .returned (.int .i64 0)∧w'=w:=by
 by_cases hv:kd v=0
 ·exact rfill_0 v z hv w
 have k0:((kd v:Int) == 0)=false:=by simp;omega
 clear hv
 go_enter Tryz.func13,Tryz.ntmps13
 go_wp2_with (go_at_call 32;refine(rkind_any v _).mono ?_;rintro x1 w1 ⟨rfl,rfl⟩)
 go_ret
 exact⟨rfl,rfl⟩
theorem rfill_any (v:Nat) (z:Int) (w:World):Calls Tryz.prog 13 #[.int .u8 (v:Int), .int .i64 z] w fun e w'=>e= .returned (.int .i64 (fillZ v z:Int))∧w'=w:=by
 by_cases hz:z<0
 ·have e:fillZ v z=0:=by unfold fillZ;rw[if_pos hz]
  rw[e]
  exact rfill_n v z hz w
 obtain⟨n,rfl⟩: ∃n:Nat,z=(n:Int):=⟨z.toNat,by omega⟩
 by_cases hv:kd v=0
 ·have e:fillZ v (n:Int)=0:=by
   unfold fillZ
   unfold kd at hv
   rw[if_neg hz]
   split at hv
   ·omega
   split at hv
   ·omega
   rw[if_neg (by assumption),if_neg (by assumption)]
  rw[e]
  exact rfill_0 v _ hv w
 have hk:kd v=1∨kd v=2:=by
  unfold kd at hv ⊢
  split
  ·exact .inr rfl
  split
  ·exact .inl rfl
  rename_i h1 h2
  rw[if_neg h1,if_neg h2] at hv
  exact absurd rfl hv
 rw[fillZ_of rfl hk]
 exact rfill_k v n _ rfl hk w
end Go.Proofs.YtlmacfmfmjhidaaGreatDoor.Wr
namespace Go.Proofs.YtlmacfmfmjhidaaGreatDoor.Wr
open Mem Bk Md Mc R6 Rc Dg Go.ChangeShapes Go.WideShapes Go.ChangeAt Go.RowKit
theorem rkeys_size (v k:Nat) (hv:kd v=k) (hk:k=1∨k=2) (A:Option Addr) (L c:Nat) (hf: ¬kfit k L) (w:World):
  Calls Tryz.prog 11 #[.int .u8 (v:Int), .slice A L c] w fun e w'=>e= .returned (.tuple #[.slice none 0 0, .slice none 0 0, .int .i64 2])∧w'=w:=by
 have hk0:((k:Int) == 0)=false:=by simp;omega
 have c16:((L:Int) != 16)=true:=by unfold kfit at hf;simp;omega
 have c24:((L:Int) != 24)=true:=by unfold kfit at hf;simp;omega
 have Hv:=hid hv
 by_cases h32:L=32
 ·have c32:((L:Int) != 32)=false:=by simp;omega
  have k2:((k:Int) == 2)=true:=by unfold kfit at hf;simp;omega
  clear hf hk hv h32
  go_enter Tryz.func11,Tryz.ntmps11
  go_wp2_with (go_at_call 32;refine(rkind_any v _).mono ?_;rintro x1 w1 ⟨rfl,rfl⟩;rw[Hv.out])
  go_ret3
  exact⟨rfl,rfl⟩
 have c32:((L:Int) != 32)=true:=by simp;omega
 clear hf hk hv h32
 go_enter Tryz.func11,Tryz.ntmps11
 go_wp2_with (go_at_call 32;refine(rkind_any v _).mono ?_;rintro x1 w1 ⟨rfl,rfl⟩;rw[Hv.out])
 go_ret3
 exact⟨rfl,rfl⟩
theorem bs8W (x y z u v:Int) (w:World):(Instr.buildSlice 22 8 #[(0, .int .u8 x),(1, .int .u8 0),(2, .int .u8 y),(3, .int .u8 0),(4, .int .u8 0),(5, .int .u8 z),(6, .int .u8 u),(7, .int .u8 v)]).run Tryz.prog w= .ok (.slice (some ⟨w.heap.size,0,none⟩) 8 8) (w.alloc (.cells #[.int .u8 x, .int .u8 0, .int .u8 y, .int .u8 0, .int .u8 0, .int .u8 z, .int .u8 u, .int .u8 v] 5)):=by kernel_rfl
theorem zAS2:(Tryz.prog.info? 69).map (·.zero)=some (some (.agg #[.slice none 0 0, .slice none 0 0])):=by kernel_rfl
theorem builtB0:Tryz.prog.built 72 []=some #[.slice none 0 0, .slice none 0 0]:=by kernel_rfl
theorem own_cell {w:World}{base n g i:Nat}{v u:Value}{f:Nat→Nat}{ds:Array Value} (h:Mem.Own w base 5 1 v n f) (hg:Blk w g 69 ds):Mem.Own (w.setCell ⟨g,i,none⟩ u) base 5 1 v n f:=by
 refine⟨h.1,?_⟩
 rcases h.2 with h2 | ⟨k,cap,cur,hv,hbg,hk,r⟩
 ·exact .inl h2
 exact .inr ⟨k,cap,cur,hv,hbg,(heap_setCell_other w ⟨g,i,none⟩ k u (blk_ne hk hg (by decide))).trans hk,r⟩
theorem own_keep {w w':World}{base n g c B:Nat}{f:Nat→Nat} (h:Mem.Own w base 5 1 (.slice (some ⟨g,0,none⟩) n c) n f) (hg:g<B) (hB:Below B w w'):Mem.Own w' base 5 1 (.slice (some ⟨g,0,none⟩) n c) n f:=by
 refine⟨h.1,?_⟩
 rcases h.2 with h2 | ⟨k,cap,cur,hv,hbg,hk,r⟩
 ·exact .inl h2
 have e:g=k:=by injection hv with h3;injection h3 with h4;injection h4
 subst e
 exact .inr ⟨g,cap,cur,hv,hbg,(hB.block g hg).trans hk,r⟩
theorem wpl_stV {P:Program}{ops:Array Oper}{rest:List Oper}{o:Oper}{a:Act}{w:World}{Q:Exit→Act→World→Prop} (hgd:o.guard=none) (ty:TypeId) (x y:Operand) (ho:o.op= .store ty x y) (p:Addr) (hx:a.eval x= .pointer (some p)) (A:Option Addr) (n c:Nat) (hy:a.eval y= .slice A n c)
  (hs:(P.info? ty).map (·.size)=some 1) (old:Value) (hc:w.cell? p=some old) (hf:w.frozen? p=false)
  (h:wpList P ops Q rest (a.put o.dst undef) (w.setCell p (.slice A n c))):wpList P ops Q (o::rest) a w:=by
 refine wpList_plain hgd fun _ hK=>?_
 have hr:(Instr.storeAt ty (.pointer (some p)) (.slice A n c)).run P w= .ok () (w.setCell p (.slice A n c)):=by
  have h1:(store p (.slice A n c)).run P w= .ok () (w.setCell p (.slice A n c)):=by rw[run_store P w p _ _ (by rfl)];simp[hc,hf]
  have h0:p.add 0=p:=by simp[Addr.add]
  simp[Instr.storeAt,Instr.sureAddr,storeVar,Value.cells,Sem.run_bind,run_size hs,storeCells,h0,h1]
 unfold Oper.wp execOp
 simp only[ho,hx,hy,Sem.run_bind,hr,Sem.run_pure,Result.andThen_ok]
 exact hK _ _ h
set_option maxRecDepth 100000 in
set_option maxHeartbeats 40000000 in
set_option linter.unusedSimpArgs false in
theorem rkeys_ok (v k:Nat) (hv:kd v=k) (hk:k=1∨k=2) (A:Option Addr) (L c:Nat) (W:Nat→Nat) (w:World) (hf:kfit k L) (hc:L≤c) (hb: ∀i,i<L→W i<256) (hR:Reads w w.heap.size A L W):
  Calls Tryz.prog 11 #[.int .u8 (v:Int), .slice A L c] w fun e w'=> ∃A1 c1 A2 c2,e= .returned (.tuple #[.slice A1 L c1, .slice A2 L c2, .int .i64 0])∧L≤c1∧L≤c2∧Reads w' w'.heap.size A1 L (kyF k L W 0)∧Reads w' w'.heap.size A2 L (kyF k L W 1)∧Below w.heap.size w w':=by
 have hL:=kfit_le hf
 have hsp:=Md.sz_pos k
 have hso:=sz_or k
 have hk0:((k:Int) == 0)=false:=by simp;omega
 have hcase:(((L:Int) != 16)=false∧((k:Int) == 2)=false∧L/8=num k L)∨(((L:Int) != 16)=true∧((L:Int) != 24)=false∧((k:Int) == 2)=false∧L/8=num k L)∨(((L:Int) != 16)=true∧((L:Int) != 24)=true∧((L:Int) != 32)=false∧((k:Int) == 2)=false∧L/8=num k L)∨(((L:Int) != 16)=false∧((k:Int) == 2)=true∧L/8=num k L+2)∨(((L:Int) != 16)=true∧((L:Int) != 24)=false∧((k:Int) == 2)=true∧L/8=num k L+2):=by
  unfold kfit at hf
  rcases hk with rfl | rfl
  ·rcases hf with rfl | rfl | ⟨rfl,-⟩
   ·exact .inl ⟨rfl,rfl,rfl⟩
   ·exact .inr (.inl ⟨rfl,rfl,rfl,rfl⟩)
   exact .inr (.inr (.inl ⟨rfl,rfl,rfl,rfl,rfl⟩))
  rcases hf with rfl | rfl | ⟨-,h⟩
  ·exact .inr (.inr (.inr (.inl ⟨rfl,rfl,rfl⟩)))
  ·exact .inr (.inr (.inr (.inr ⟨rfl,rfl,rfl,rfl⟩)))
  omega
 have hnm:num k L<5:=num_lt hf
 have Hfit:=hid (kfit_fits hf hk)
 have Hv:=hid hv
 have Hk:=hid hk
 have Hf:=hid hf
 have Hb:=hid hb
 have HX:=hid hR
 have E3:Hid ((8:Int)*(L:Int)=((8*L:Nat):Int)∧(0:Int)≤((8*L:Nat):Int)∧((8*L:Nat):Int)≤100000):=hid ⟨by omega,by omega,by omega⟩
 have E4:Hid ((0:Int)≤((8*L:Nat):Int)∧(0:Int)<256∧((8*L:Nat):Int)/256=((8*L/256%256:Nat):Int)∧(0:Int)≤((8*L/256%256:Nat):Int)∧((8*L/256%256:Nat):Int)≤100000):=hid ⟨by omega,by omega,by omega,by omega,by omega⟩
 have E5:Hid ((0:Int)≤((8*L:Nat):Int)∧(0:Int)<256∧((8*L:Nat):Int)%256=((8*L%256:Nat):Int)):=hid ⟨by omega,by omega,by omega⟩
 have l4:8*L/256%256<256:=Nat.mod_lt _ (by decide)
 have l5:8*L%256<256:=Nat.mod_lt _ (by decide)
 have Hnum:Hid (∃nm,nm=num k L):=hid ⟨_,rfl⟩
 have hb8:=bs8W
 clear hv hk hf hb hR
 go_enter Tryz.func11,Tryz.ntmps11
 rcases hcase with⟨c16,k2,q8⟩ | ⟨c16,c24,k2,q8⟩ | ⟨c16,c24,c32,k2,q8⟩ | ⟨c16,k2,q8⟩ | ⟨c16,c24,k2,q8⟩
 all_goals
  have E1:Hid ((0:Int)≤(L:Int)∧(0:Int)<8∧(L:Int)/8=((L/8:Nat):Int)∧(0:Int)≤((L/8:Nat):Int)∧((L/8:Nat):Int)≤100000):=hid ⟨by omega,by omega,by omega,by omega,by omega⟩
  rw[q8] at E1
  have E2:Hid (((num k L+2:Nat):Int)-2=(num k L:Int)∧(0:Int)≤(num k L:Int)∧(num k L:Int)≤100000):=hid ⟨by omega,by omega,by omega⟩
  clear q8
  go_wp2_with (first
   | (go_at_call 32;refine(rkind_any v _).mono ?_;rintro x1 w1 ⟨rfl,hw1⟩;subst hw1;rw[Hv.out])
   | (with_reducible refine wpl_val rfl _ (exec_quoN _ _ _ _ rfl _ _ _ rfl rfl E1.out) ?_)
   | (with_reducible refine wpl_val rfl _ (exec_subN _ _ _ _ rfl _ _ _ rfl rfl E2.out) ?_)
   | (with_reducible refine wpl_alloc rfl 69 rfl _ zAS2 ?_))
  obtain⟨wa0,hwa0⟩: ∃x,x=w1.alloc (.cells #[.slice none 0 0, .slice none 0 0] 69):=⟨_,rfl⟩
  rw[← hwa0]
  have HA0:Hid (Blk wa0 w1.heap.size 69 #[.slice none 0 0, .slice none 0 0]):=hid (by rw[hwa0];exact Blk.fresh _ _ _)
  have HB0:Hid (Below w1.heap.size w1 wa0):=hid (by rw[hwa0];exact(Below.refl _ _).alloc (Nat.le_refl _) _)
  clear hwa0
  have hbw0:=HA0.out.lt
  refine wp_loop_rounds 3 ?_
  rw[rounds_succ]
  go_wp2_with fail
  go_loopw [12,13,14,15] (fun x _ _ _ wr=> ∃(j m:Nat) (A':Option Addr) (c':Nat),Hid (m=j*sz k)∧j≤3∧x= .int .i64 ((j+1:Nat):Int)∧Hid (Mem.Own wr wa0.heap.size 5 1 (.slice A' m c') m (kyF k L W 0))∧Hid (Blk wr w1.heap.size 69 #[.slice A' m c', .slice none 0 0])∧Hid (Below w1.heap.size w1 wr)∧wa0.heap.size≤wr.heap.size) (fun x _ _ _ _=>5-(intOf x).toNat)
  case atStart=>exact⟨0,0,none,0,hid (by omega),by omega,rfl,hid (Mem.Own.nil _ _ _ _ _),HA0,HB0,Nat.le_refl _⟩
  case round=>
   clear HA0 HB0
   obtain⟨j,m,A',c',HM,hj,rfl,HO,HA,HB,hle⟩:=hrel
   obtain⟨-,-,he',hc',hA',-⟩:=HO.out.slice'
   have hci:wr.cell? ⟨w1.heap.size,0,none⟩=some (.slice A' m c'):=(HA.out.cell 0).trans rfl
   have hwl:=HA.out.lt
   by_cases hlt:m<L
   ·have hltI:(m:Int)< (L:Int):=by omega
    have hj2:j≤2:=rounds_le Hf.out Hk.out (by have:=HM.out;omega)
    have hjc:j+1<256:=by omega
    have HXr:=hid ((HX.out.below HB.out).more HB.out.size)
    have Hm1:=hid HM.out
    clear HM
    go_wp2_with (first
     | (with_reducible refine wpl_at rfl 69 _ _ rfl w1.heap.size rfl .i64 _ rfl 0 rfl 2 22 Tryz.underlying69 (by omega) iS8 ?_)
     | (with_reducible refine wpl_lds rfl 22 _ rfl ⟨w1.heap.size,0,none⟩ rfl 5 Tryz.underlying22 _ hci ?_)
     | (with_reducible refine wpl_build0 rfl 72 rfl _ builtB0 ?_)
     | (with_reducible refine wpl_val rfl _ (exec_c8 _ _ _ rfl (j+1) hjc rfl Tryz.underlying3 Tryz.underlying5) ?_)
     | (with_reducible refine wpl_val rfl _ (exec_c8 _ _ _ rfl (num k L) (by omega) rfl Tryz.underlying3 Tryz.underlying5) ?_)
     | (with_reducible refine wpl_val rfl _ (exec_c8 _ _ _ rfl 0 (by omega) rfl Tryz.underlying3 Tryz.underlying5) ?_)
     | (with_reducible refine wpl_val rfl _ (exec_c8 _ _ _ rfl (8*L/256%256) l4 rfl Tryz.underlying3 Tryz.underlying5) ?_)
     | (with_reducible refine wpl_val rfl _ (exec_c8 _ _ _ rfl (8*L%256) l5 rfl Tryz.underlying3 Tryz.underlying5) ?_)
     | (with_reducible refine wpl_val rfl _ (exec_mulN _ _ _ _ rfl _ _ _ rfl rfl E3.out) ?_)
     | (with_reducible refine wpl_val rfl _ (exec_quoN _ _ _ _ rfl _ _ _ rfl rfl E4.out) ?_)
     | (with_reducible refine wpl_val rfl _ (exec_remN _ _ _ _ rfl _ _ _ rfl rfl E5.out) ?_))
    have HXa:Hid (∀o,Reads (wr.alloc o) (wr.alloc o).heap.size A L W):=hid fun o=>(HXr.out.below ((Below.refl _ _).alloc (Nat.le_refl _) o)).more (Nat.le_of_lt (by simp))
    refine(rcmac12 k L Hk.out Hfit.out A c W hc Hb.out (some ⟨wr.heap.size,0,none⟩) 8 8 (askD k L 0 (j+1)) _ (HXa.out _) (by omega) (fun h=>by cases h) (fun i _=>askD_lt Hf.out (by omega) hjc i) (Blk.reads (n:=8) (t:=5) (by exact Blk.fresh _ _ _))).mono ?_
    rintro e w2 ⟨bA,bn,bc,tA,tn,tc,A2,c2,rfl,hc2,hR2,hB2⟩
    have hB2':Below wr.heap.size wr w2:=((Below.refl wr.heap.size wr).alloc (Nat.le_refl _) _).trans (hB2.mono (by simp))
    have hB3':=(Below.refl w2.heap.size w2).alloc (Nat.le_refl _) (.cells (row 2 (bookC (.slice bA bn bc) (.slice tA tn tc))) 72)
    have hB3:=hB2'.trans (hB3'.mono hB2'.size)
    have HR3:=hid ((hR2.below hB3').more hB3'.size)
    have HA3:=hid (HA.out.below hB3 hwl)
    have HO3:=hid (HO.out.below hB3 (Nat.le_refl _))
    have HB3:=hid (HB.out.trans (hB3.mono HB.out.size))
    have hle3:wa0.heap.size≤(w2.alloc (.cells (row 2 (bookC (.slice bA bn bc) (.slice tA tn tc))) 72)).heap.size:=Nat.le_trans hle hB3.size
    have hcx:(w2.alloc (.cells (row 2 (bookC (.slice bA bn bc) (.slice tA tn tc))) 72)).cell? ⟨w1.heap.size,0,none⟩=some (.slice A' m c'):=(HA3.out.cell 0).trans rfl
    have hA2:Hid (A2=none→sz k=0∧c2=0):=hid fun h=>by
     obtain⟨ad,h1,-⟩:=HR3.out hsp
     rw[h] at h1
     cases h1
    have hm1:m+sz k≤1000000:=by omega
    clear hB2 hB2' hB3' hB3 hR2 HO HA HB HXr HXa hci
    go_wp2_with (first
     | (with_reducible refine wpl_alloc rfl 72 rfl _ zRB2 ?_)
     | (with_reducible refine wpl_store_newS rfl 72 _ _ rfl w2 _ 2 _ (one2 _ _ _ _ _ _) rfl rfl 72 iRB (row_size _ _) ?_)
     | (with_reducible refine wpl_at rfl 69 _ _ rfl w1.heap.size rfl .i64 _ rfl 0 rfl 2 22 Tryz.underlying69 (by omega) iS8 ?_)
     | (with_reducible refine wpl_lds rfl 22 _ rfl ⟨w1.heap.size,0,none⟩ rfl 5 Tryz.underlying22 _ hcx ?_)
     | (at_builtin; (refine wpl_app_gen rfl _ _ 22 rfl wa0.heap.size 5 (.int .u8 0) Tryz.underlying22 wi8 rfl _ m _ rfl HO3.out A2 (sz k) c2 _ _ HR3.out hA2.out rfl hm1 hle3 ?_)))
    intro v4 w4 ho4 hB4
    obtain⟨A4,c4,rfl,-⟩:=ho4.slice'
    have HA4:=hid (HA3.out.below hB4 hbw0)
    have HO4:Hid (Mem.Own w4 wa0.heap.size 5 1 (.slice A4 (m+sz k) c4) (m+sz k) (kyF k L W 0)):=hid (by
     have e1:=Hm1.out
     have e2:m+sz k=(j+1)*sz k:=by rw[e1,Nat.succ_mul]
     refine ho4.ext fun i hi=>?_
     rw[Nat.mul_one,e2] at hi
     rw[e1]
     exact ky_step i hi)
    have HB4:=hid (HB3.out.trans (hB4.mono (Nat.le_of_lt hbw0)))
    have hle4:wa0.heap.size≤w4.heap.size:=Nat.le_trans hle3 hB4.size
    have hc4:w4.cell? ⟨w1.heap.size,0,none⟩=some (.slice A' m c'):=(HA4.out.cell 0).trans rfl
    have hf4:w4.frozen? ⟨w1.heap.size,0,none⟩=false:=HA4.out.free 0
    clear ho4 hB4 HA3 HO3 HB3 HR3 hcx hle3 hA2
    go_wp2_with (first
     | (with_reducible refine wpl_at rfl 69 _ _ rfl w1.heap.size rfl .i64 _ rfl 0 rfl 2 22 Tryz.underlying69 (by omega) iS8 ?_)
     | (with_reducible refine wpl_stV rfl 22 _ _ rfl ⟨w1.heap.size,0,none⟩ rfl A4 (m+sz k) c4 rfl iS8 _ hc4 hf4 ?_))
    go_round
    case rel=>exact⟨j+1,m+sz k,A4,c4,hid (by rw[Hm1.out,Nat.succ_mul]),by omega,val_int (by omega),hid (own_cell HO4.out HA4.out),hid (HA4.out.setCell 0 _),hid (HB4.out.setCell (p:=⟨w1.heap.size,0,none⟩) (Nat.le_refl _) _),by simpa using hle4⟩
    case measure=>simp[intOf];omega
   have hltI: ¬(m:Int)< (L:Int):=by omega
   have hLm:L≤m:=by omega
   obtain⟨gq,cq,hq1,hcq⟩:=own_at HO.out (by omega)
   have hq2:A'=some ⟨gq,0,none⟩:=by injection hq1
   have hq3:c'=cq:=by injection hq1
   subst hq2 hq3
   have hf4:wr.frozen? ⟨w1.heap.size,0,none⟩=false:=HA.out.free 0
   have HW:=hid (own_cell (i:=0) (u:= .slice (some ⟨gq,0,none⟩) L c') (own_base (own_less HO.out (by simp) hLm) (Nat.zero_le _)) HA.out)
   have HA5:=hid (HA.out.setCell 0 (.slice (some ⟨gq,0,none⟩) L c'))
   have HB5:=hid (HB.out.setCell (p:=⟨w1.heap.size,0,none⟩) (Nat.le_refl _) (.slice (some ⟨gq,0,none⟩) L c'))
   have hcc:L≤c':=by omega
   clear HO HA HB HM hq1
   go_wp2_with (first
    | (with_reducible refine wpl_at rfl 69 _ _ rfl w1.heap.size rfl .i64 _ rfl 0 rfl 2 22 Tryz.underlying69 (by omega) iS8 ?_)
    | (with_reducible refine wpl_lds rfl 22 _ rfl ⟨w1.heap.size,0,none⟩ rfl 5 Tryz.underlying22 _ hci ?_)
    | (with_reducible refine wpl_val rfl _ (wcutH _ _ rfl ⟨gq,0,none⟩ m c' L _ rfl rfl rfl hcc) ?_)
    | (with_reducible refine wpl_stV rfl 22 _ _ rfl ⟨w1.heap.size,0,none⟩ rfl (some ⟨gq,0,none⟩) L c' rfl iS8 _ hci hf4 ?_))
   obtain⟨wa,hwa⟩: ∃x,x=wr.setCell ⟨w1.heap.size,0,none⟩ (.slice (some ⟨gq,0,none⟩) L c'):=⟨_,rfl⟩
   rw[← hwa] at HW HA5 HB5 ⊢
   clear hwa hci hf4
   rw[rounds_succ]
   go_wp2_with fail
   have hbw1:=HA5.out.lt
   have hg0:gq<wa.heap.size:=by
    exact(cells_reads HW.out.reads (by omega)).1
   obtain⟨ga0,hga⟩: ∃x,x=gq:=⟨_,rfl⟩
   obtain⟨ca0,hca⟩: ∃x,x=c':=⟨_,rfl⟩
   rw[← hga] at HW HA5 hg0 ⊢
   rw[← hca] at HW HA5 hcc ⊢
   obtain⟨wa1,hwa⟩: ∃x,x=wa:=⟨_,rfl⟩
   rw[← hwa] at HW HA5 HB5 hg0 hbw1 ⊢
   have HA1:=HA5
   have HB1:=HB5
   have HV1:=HW
   have hca0:=hcc
   clear HA5 HB5 HW hwa hga hca hLm hltI hcq hcc hlt
   go_loopw [12,13,14,15] (fun x _ _ _ wr=> ∃(j m:Nat) (A':Option Addr) (c':Nat),Hid (m=j*sz k)∧j≤3∧x= .int .i64 ((j+1:Nat):Int)∧Hid (Mem.Own wr wa1.heap.size 5 1 (.slice A' m c') m (kyF k L W 1))∧Hid (Blk wr w1.heap.size 69 #[.slice (some ⟨ga0,0,none⟩) L ca0, .slice A' m c'])∧Hid (Below w1.heap.size w1 wr)∧wa1.heap.size≤wr.heap.size∧Hid (Mem.Own wr 0 5 1 (.slice (some ⟨ga0,0,none⟩) L ca0) L (kyF k L W 0))) (fun x _ _ _ _=>5-(intOf x).toNat)
   case atStart=>exact⟨0,0,none,0,hid (by omega),by omega,rfl,hid (Mem.Own.nil _ _ _ _ _),HA1,HB1,Nat.le_refl _,HV1⟩
   case round=>
    clear HA1 HB1 HV1
    obtain⟨j,m,A',c',HM,hj,rfl,HO,HA,HB,hle,HV⟩:=hrel
    obtain⟨-,-,he',hc',hA',-⟩:=HO.out.slice'
    have hci:wr.cell? ⟨w1.heap.size,1,none⟩=some (.slice A' m c'):=(HA.out.cell 1).trans rfl
    have hwl:=HA.out.lt
    by_cases hlt:m<L
    ·have hltI:(m:Int)< (L:Int):=by omega
     have hj2:j≤2:=rounds_le Hf.out Hk.out (by have:=HM.out;omega)
     have hjc:j+1<256:=by omega
     have HXr:=hid ((HX.out.below HB.out).more HB.out.size)
     have Hm1:=hid HM.out
     clear HM
     go_wp2_with (first
      | (with_reducible refine wpl_at rfl 69 _ _ rfl w1.heap.size rfl .i64 _ rfl 1 rfl 2 22 Tryz.underlying69 (by omega) iS8 ?_)
      | (with_reducible refine wpl_lds rfl 22 _ rfl ⟨w1.heap.size,1,none⟩ rfl 5 Tryz.underlying22 _ hci ?_)
      | (with_reducible refine wpl_build0 rfl 72 rfl _ builtB0 ?_)
      | (with_reducible refine wpl_val rfl _ (exec_c8 _ _ _ rfl (j+1) hjc rfl Tryz.underlying3 Tryz.underlying5) ?_)
      | (with_reducible refine wpl_val rfl _ (exec_c8 _ _ _ rfl (num k L) (by omega) rfl Tryz.underlying3 Tryz.underlying5) ?_)
      | (with_reducible refine wpl_val rfl _ (exec_c8 _ _ _ rfl 1 (by omega) rfl Tryz.underlying3 Tryz.underlying5) ?_)
      | (with_reducible refine wpl_val rfl _ (exec_c8 _ _ _ rfl (8*L/256%256) l4 rfl Tryz.underlying3 Tryz.underlying5) ?_)
      | (with_reducible refine wpl_val rfl _ (exec_c8 _ _ _ rfl (8*L%256) l5 rfl Tryz.underlying3 Tryz.underlying5) ?_)
      | (with_reducible refine wpl_val rfl _ (exec_mulN _ _ _ _ rfl _ _ _ rfl rfl E3.out) ?_)
      | (with_reducible refine wpl_val rfl _ (exec_quoN _ _ _ _ rfl _ _ _ rfl rfl E4.out) ?_)
      | (with_reducible refine wpl_val rfl _ (exec_remN _ _ _ _ rfl _ _ _ rfl rfl E5.out) ?_))
     have HXa:Hid (∀o,Reads (wr.alloc o) (wr.alloc o).heap.size A L W):=hid fun o=>(HXr.out.below ((Below.refl _ _).alloc (Nat.le_refl _) o)).more (Nat.le_of_lt (by simp))
     refine(rcmac12 k L Hk.out Hfit.out A c W hc Hb.out (some ⟨wr.heap.size,0,none⟩) 8 8 (askD k L 1 (j+1)) _ (HXa.out _) (by omega) (fun h=>by cases h) (fun i _=>askD_lt Hf.out (by omega) hjc i) (Blk.reads (n:=8) (t:=5) (by exact Blk.fresh _ _ _))).mono ?_
     rintro e w2 ⟨bA,bn,bc,tA,tn,tc,A2,c2,rfl,hc2,hR2,hB2⟩
     have hB2':Below wr.heap.size wr w2:=((Below.refl wr.heap.size wr).alloc (Nat.le_refl _) _).trans (hB2.mono (by simp))
     have hB3':=(Below.refl w2.heap.size w2).alloc (Nat.le_refl _) (.cells (row 2 (bookC (.slice bA bn bc) (.slice tA tn tc))) 72)
     have hB3:=hB2'.trans (hB3'.mono hB2'.size)
     have HR3:=hid ((hR2.below hB3').more hB3'.size)
     have HA3:=hid (HA.out.below hB3 hwl)
     have HO3:=hid (HO.out.below hB3 (Nat.le_refl _))
     have HB3:=hid (HB.out.trans (hB3.mono HB.out.size))
     have hle3:wa1.heap.size≤(w2.alloc (.cells (row 2 (bookC (.slice bA bn bc) (.slice tA tn tc))) 72)).heap.size:=Nat.le_trans hle hB3.size
     have HV3:=hid (own_keep HV.out hg0 (hB3.mono hle))
     have hcx:(w2.alloc (.cells (row 2 (bookC (.slice bA bn bc) (.slice tA tn tc))) 72)).cell? ⟨w1.heap.size,1,none⟩=some (.slice A' m c'):=(HA3.out.cell 1).trans rfl
     have hA2:Hid (A2=none→sz k=0∧c2=0):=hid fun h=>by
      obtain⟨ad,h1,-⟩:=HR3.out hsp
      rw[h] at h1
      cases h1
     have hm1:m+sz k≤1000000:=by omega
     clear hB2 hB2' hB3' hB3 hR2 HO HA HB HXr HXa hci HV
     go_wp2_with (first
      | (with_reducible refine wpl_alloc rfl 72 rfl _ zRB2 ?_)
      | (with_reducible refine wpl_store_newS rfl 72 _ _ rfl w2 _ 2 _ (one2 _ _ _ _ _ _) rfl rfl 72 iRB (row_size _ _) ?_)
      | (with_reducible refine wpl_at rfl 69 _ _ rfl w1.heap.size rfl .i64 _ rfl 1 rfl 2 22 Tryz.underlying69 (by omega) iS8 ?_)
      | (with_reducible refine wpl_lds rfl 22 _ rfl ⟨w1.heap.size,1,none⟩ rfl 5 Tryz.underlying22 _ hcx ?_)
      | (at_builtin; (refine wpl_app_gen rfl _ _ 22 rfl wa1.heap.size 5 (.int .u8 0) Tryz.underlying22 wi8 rfl _ m _ rfl HO3.out A2 (sz k) c2 _ _ HR3.out hA2.out rfl hm1 hle3 ?_)))
     intro v4 w4 ho4 hB4
     obtain⟨A4,c4,rfl,-⟩:=ho4.slice'
     have HA4:=hid (HA3.out.below hB4 hbw1)
     have HO4:Hid (Mem.Own w4 wa1.heap.size 5 1 (.slice A4 (m+sz k) c4) (m+sz k) (kyF k L W 1)):=hid (by
      have e1:=Hm1.out
      have e2:m+sz k=(j+1)*sz k:=by rw[e1,Nat.succ_mul]
      refine ho4.ext fun i hi=>?_
      rw[Nat.mul_one,e2] at hi
      rw[e1]
      exact ky_step i hi)
     have HB4:=hid (HB3.out.trans (hB4.mono (Nat.le_of_lt hbw1)))
     have hle4:wa1.heap.size≤w4.heap.size:=Nat.le_trans hle3 hB4.size
     have HV4:=hid (own_keep HV3.out hg0 hB4)
     have hc4:w4.cell? ⟨w1.heap.size,1,none⟩=some (.slice A' m c'):=(HA4.out.cell 1).trans rfl
     have hf4:w4.frozen? ⟨w1.heap.size,1,none⟩=false:=HA4.out.free 1
     clear ho4 hB4 HA3 HO3 HB3 HR3 hcx hle3 hA2 HV3
     go_wp2_with (first
      | (with_reducible refine wpl_at rfl 69 _ _ rfl w1.heap.size rfl .i64 _ rfl 1 rfl 2 22 Tryz.underlying69 (by omega) iS8 ?_)
      | (with_reducible refine wpl_stV rfl 22 _ _ rfl ⟨w1.heap.size,1,none⟩ rfl A4 (m+sz k) c4 rfl iS8 _ hc4 hf4 ?_))
     go_round
     case rel=>exact⟨j+1,m+sz k,A4,c4,hid (by rw[Hm1.out,Nat.succ_mul]),by omega,val_int (by omega),hid (own_cell HO4.out HA4.out),hid (HA4.out.setCell 1 _),hid (HB4.out.setCell (p:=⟨w1.heap.size,1,none⟩) (Nat.le_refl _) _),by simpa using hle4,hid (own_cell HV4.out HA4.out)⟩
     case measure=>simp[intOf];omega
    have hltI: ¬(m:Int)< (L:Int):=by omega
    have hLm:L≤m:=by omega
    obtain⟨gq,cq,hq1,hcq⟩:=own_at HO.out (by omega)
    have hq2:A'=some ⟨gq,0,none⟩:=by injection hq1
    have hq3:c'=cq:=by injection hq1
    subst hq2 hq3
    have hf4:wr.frozen? ⟨w1.heap.size,1,none⟩=false:=HA.out.free 1
    have HW:=hid (own_cell (i:=1) (u:= .slice (some ⟨gq,0,none⟩) L c') (own_base (own_less HO.out (by simp) hLm) (Nat.zero_le _)) HA.out)
    have HA5:=hid (HA.out.setCell 1 (.slice (some ⟨gq,0,none⟩) L c'))
    have HB5:=hid (HB.out.setCell (p:=⟨w1.heap.size,1,none⟩) (Nat.le_refl _) (.slice (some ⟨gq,0,none⟩) L c'))
    have hcc:L≤c':=by omega
    have HV5:=hid (own_cell (i:=1) (u:= .slice (some ⟨gq,0,none⟩) L c') HV.out HA.out)
    clear HO HA HB HM hq1 HV
    go_wp2_with (first
     | (with_reducible refine wpl_at rfl 69 _ _ rfl w1.heap.size rfl .i64 _ rfl 1 rfl 2 22 Tryz.underlying69 (by omega) iS8 ?_)
     | (with_reducible refine wpl_lds rfl 22 _ rfl ⟨w1.heap.size,1,none⟩ rfl 5 Tryz.underlying22 _ hci ?_)
     | (with_reducible refine wpl_val rfl _ (wcutH _ _ rfl ⟨gq,0,none⟩ m c' L _ rfl rfl rfl hcc) ?_)
     | (with_reducible refine wpl_stV rfl 22 _ _ rfl ⟨w1.heap.size,1,none⟩ rfl (some ⟨gq,0,none⟩) L c' rfl iS8 _ hci hf4 ?_))
    obtain⟨wa,hwa⟩: ∃x,x=wr.setCell ⟨w1.heap.size,1,none⟩ (.slice (some ⟨gq,0,none⟩) L c'):=⟨_,rfl⟩
    rw[← hwa] at HW HA5 HB5 HV5 ⊢
    clear hwa hci hf4
    rw[rounds_succ]
    go_wp2_with fail
    have HA9:=HA5
    have HB9:=HB5
    have HV9:=HV5
    have HW9:=HW
    clear HA5 HB5 HV5 HW
    refine wp_region_held_drew (S:=fun W=>Below wa.heap.size wa W) (by kernel_rfl) (Below.refl _ _).drew (fun hS0=>?_)
    refine ztk (i:=0) (v:= .pointer (some ⟨w1.heap.size,0,none⟩)) rfl (fun W _=>by go_simp) hS0 ?_
    (try simp only[Act.put,zza,zzb,zzc,zzd,zze,zzf])
    refine ztk (i:=1) (v:= .slice (some ⟨ga0,0,none⟩) L ca0) rfl (fun W hW=>Bk.exec_lds 22 _ rfl ⟨w1.heap.size,0,none⟩ rfl 5 Tryz.underlying22 _ ((hW.cell (p:=⟨w1.heap.size,0,none⟩) HA9.out.lt).trans ((HA9.out.cell 0).trans rfl))) hS0 ?_
    (try simp only[Act.put,zza,zzb,zzc,zzd,zze,zzf])
    refine ztk (i:=2) (v:= .pointer (some ⟨w1.heap.size,1,none⟩)) rfl (fun W _=>by go_simp) hS0 ?_
    (try simp only[Act.put,zza,zzb,zzc,zzd,zze,zzf])
    refine ztk (i:=3) (v:= .slice (some ⟨gq,0,none⟩) L c') rfl (fun W hW=>Bk.exec_lds 22 _ rfl ⟨w1.heap.size,1,none⟩ rfl 5 Tryz.underlying22 _ ((hW.cell (p:=⟨w1.heap.size,1,none⟩) HA9.out.lt).trans ((HA9.out.cell 1).trans rfl))) hS0 ?_
    (try simp only[Act.put,zza,zzb,zzc,zzd,zze,zzf])
    refine ztk (i:=4) (v:= .slice (some ⟨ga0,0,none⟩) L ca0) rfl (fun _ _=>exec_assign _ rfl _ rfl) hS0 ?_
    (try simp only[Act.put,zza,zzb,zzc,zzd,zze,zzf])
    refine ztk (i:=5) (v:= .slice (some ⟨gq,0,none⟩) L c') rfl (fun _ _=>exec_assign _ rfl _ rfl) hS0 ?_
    (try simp only[Act.put,zza,zzb,zzc,zzd,zze,zzf])
    refine ztk (i:=6) (v:= .int .i64 0) rfl (fun _ _=>exec_assign _ rfl _ rfl) hS0 ?_
    (try simp only[Act.put,zza,zzb,zzc,zzd,zze,zzf])
    refine wpAnyH_done (by kernel_rfl) ?_ _
    go_wp2_with fail
    go_ret3
    have hfw:=Below.drew (Below.refl wa.heap.size wa)
    exact⟨_,_,_,_,rfl,hca0,hcc,(HV9.out.reads.below hfw).more hfw.size,(HW9.out.reads.below hfw).more hfw.size,HB9.out.trans (hfw.mono HB9.out.size)⟩
end Go.Proofs.YtlmacfmfmjhidaaGreatDoor.Wr
