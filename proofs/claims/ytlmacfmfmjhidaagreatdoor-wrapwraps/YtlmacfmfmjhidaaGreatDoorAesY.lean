/-
 AesWords AesCipher AesExt
-/
import Derived.Test.YtlmacfmfmjhidaaGreatDoorAesX
import Derived.Test.YtlmacfmfmjhidaaGreatDoorMemX
namespace Go.Proofs.YtlmacfmfmjhidaaGreatDoor.Aes
open Go.ChangeShapes Go.WideShapes Go.ChangeAt Go.RowKit Mem
def SameW (W:Nat→Nat) (L:Nat) (key:Nat→Nat) (t:Nat):Prop:= ∀k,k<4→W k=nw L (ex L key t) t k
theorem info8:(Tryz.prog.info? 5).map (fun i=>(i.zero,i.size,i.bytes))=some (some (.int .u8 0),1,1):=by kernel_rfl
theorem wat' (A:Option Addr) (n c p:Nat) (z:Int) (hz:z=p) (f:Nat→Nat) (w:World) (hp:p+4≤n) (hn:n≤1000) (B:Nat) (hB0:B≤w.heap.size) (hR:Reads w B A n f):
  Calls Tryz.prog 162 #[.slice A n c, .int .i64 z] w fun e w'=>e= .returned (.agg (row 4 (b8 fun i=>f (p+i))))∧Below w.heap.size w w':=by
 subst hz;exact wat_any A n c p f w hp hn B hB0 hR
theorem words_bad (A:Option Addr) (L c:Nat) (hL:rnd L=0) (w:World):
  Calls Tryz.prog 142 #[.slice A L c] w fun e w'=>e= .returned (.tuple #[.slice none 0 0, .iface 56 (.int .i64 2)])∧w=w':=by
 have HL:=hid hL
 clear hL
 go_enter Tryz.func142,Tryz.ntmps142
 go_wp2_with (go_at_call 161;refine(rnd_any L _).mono ?_;rintro e w' ⟨rfl,rfl⟩;rw[HL.out])
 go_ret2
 exact⟨rfl,rfl⟩
set_option maxRecDepth 100000 in
set_option maxHeartbeats 4000000 in
theorem words16 (A:Option Addr) (c:Nat) (key:Nat→Nat) (w:World) (hk: ∀i,i<16→key i<256) (hR:Reads w w.heap.size A 16 key):
  Calls Tryz.prog 142 #[.slice A 16 c] w fun e w'=>e= .returned (.tuple #[.slice (some ⟨w.heap.size,0,none⟩) 176 176, .nilIface])∧Blk w' w.heap.size 5 (row 176 (b8 (words 16 key)))∧Below w.heap.size w w':=by
 have Hk:=hid hk
 have hb0:=Blk.fresh w 5 (row 176 (b8 fun _=>0))
 have hR0:=hR.below ((Below.refl w.heap.size w).alloc (Nat.le_refl _) (.cells (row 176 (b8 fun _=>0)) 5))
 have Hrnd:=hid (show rnd 16=10 by rfl)
 clear hk hR
 go_enter Tryz.func142,Tryz.ntmps142
 go_wp2_with (first
  | (go_at_call 161;refine(rnd_any 16 _).mono ?_;rintro e w' ⟨rfl,rfl⟩;rw[Hrnd.out])
  | (with_reducible refine wpl_make rfl 22 5 _ _ rfl Tryz.underlying22 info8 .i64 .i64 _ _ rfl rfl 176 rfl rfl (by omega) ?_)
  | (with_reducible refine wpl_copy rfl _ _ 22 22 rfl 5 Tryz.underlying22 i8 w.heap.size 176 176 A 16 c rfl rfl 5 _ key hb0 _ hR0 (by omega) (by omega) ?_))
 clear hb0 hR0
 go_loopw [6,7] (fun p i wr=> ∃(t q:Nat),t≤40∧Blk wr w.heap.size 5 (row 176 (b8 (ex 16 key t)))∧Hid (q=(t+3)/4)∧p= .int .u8 (pw q:Nat)∧i= .int .i64 (16+4*(t:Int))∧Below w.heap.size w wr) (fun _ i _=>176-(intOf i).toNat)
 case atStart=>
  exact⟨0,0,by omega,(Blk.fresh w 5 (row 176 (b8 fun _=>0))).setRow _,hid rfl,rfl,rfl,below_setRow' ((Below.refl _ _).alloc (Nat.le_refl _) _) (Nat.le_refl _) _⟩
 case round=>
  obtain⟨t,q,ht,hg,Hq,rfl,rfl,hB⟩:=hrel
  have Hx:=hid (ex_lt 16 key t Hk.out)
  by_cases hlt:t<40
  ·have hpq:=pw_lt q
   by_cases hm:t%4=0
   ·have Hq2:Hid (q=t/4):=hid (by have:=Hq.out;omega)
    have t1:((16+4*(t:Int))%16 == 0)=true:=by simp;omega
    have T1:=hid hm
    clear hm
    go_wp2_with fail
    refine(wat' _ 176 176 (12+4*t) _ (by omega) (ex 16 key t) wr (by omega) (by omega) _ (Nat.le_refl _) hg.reads).mono ?_
    rintro e w1 ⟨rfl,hB1⟩
    have hg1:=hg.below hB1 hg.lt
    have hBa:=hB.trans (hB1.mono hB.size)
    clear hg hB hB1
    go_wp2_with (first | (with_reducible refine wpl_alloc rfl 193 rfl _ z4 ?_) | (with_reducible refine wpl_store_new rfl 193 _ _ rfl w1 _ 4 _ rfl rfl 193 i4 (row_size _ _) ?_) | (with_reducible refine wpl_load rfl 193 _ rfl _ rfl 193 _ (Blk.fresh _ _ _) 4 5 Tryz.underlying193 (i4' _) ?_))
    refine(turn_any _ _).mono ?_
    rintro e w2 ⟨rfl,hB2⟩
    go_wp2_with fail
    refine(boxw_any _ _ (fun i _=>Hx.out _)).mono ?_
    rintro e w3 ⟨rfl,hB3⟩
    have hh3:=((Blk.fresh w1 193 (row 4 (b8 fun i=>ex 16 key t (12+4*t+i)))).below hB2 (by simp)).below hB3 (by have:=hB2.size;simp at this;omega)
    have hg3:=((hg1.alloc _).below hB2 (by have:=hg1.lt;simp;omega)).below hB3 (by have:=hg1.lt;have:=hB2.size;simp at this;omega)
    have hBd:=((hBa.alloc (by have:=hg1.lt;omega) _).trans (hB2.mono (by have:=hg1.lt;simp;omega))).trans (hB3.mono (by have:=hg1.lt;have:=hB2.size;simp at this;omega))
    have hlt1:=hg1.lt
    clear hg1 hBa hB2 hB3
    have hh4:=hh3.setRow (row 4 (b8 fun i=>Gf.box (ex 16 key t (12+4*t+(i+1)%4))))
    have hg4:=hg3.otherRow w1.heap.size (row 4 (b8 fun i=>Gf.box (ex 16 key t (12+4*t+(i+1)%4)))) (by omega)
    have hbx:=Gf.box_lt _ (Hx.out (12+4*t+(0+1)%4))
    go_wp2_with (first
     | (with_reducible refine wpl_store rfl 193 _ _ rfl _ _ rfl rfl 193 _ hh3 (i4' _) (by simp[row_size]) (one_b8 _ _) ?_)
     | (with_reducible refine wpl_at rfl 193 _ _ rfl _ rfl .i64 _ rfl 0 rfl 4 5 Tryz.underlying193 (by omega) i8 ?_)
     | (with_reducible refine wpl_ld rfl 5 _ rfl _ rfl .u8 Tryz.underlying5 _ (hh4.val 0 (by omega)) ?_)
     | (with_reducible refine wpl_st rfl 5 _ _ rfl _ rfl .u8 _ rfl i8 _ (hh4.val 0 (by omega)) (hh4.free 0) ?_))
    refine(Gf.mul_any _ 2 hpq (by omega) _).mono ?_
    rintro e w' ⟨rfl,rfl⟩
    rw[u8_xor_nat _ _ hbx hpq]
    have hhc:=hh4.put 0 (Gf.box (ex 16 key t (12+4*t+(0+1)%4)) ^^^ pw q)
    have hgc:=hg4.other ⟨w1.heap.size,0,none⟩ (.int .u8 ((Gf.box (ex 16 key t (12+4*t+(0+1)%4)) ^^^ pw q:Nat):Int)) (by simp;omega)
    have hBc:=(below_setRow' hBd (g:=w1.heap.size) (by omega) (row 4 (b8 fun i=>Gf.box (ex 16 key t (12+4*t+(i+1)%4))))).setCell (p:=⟨w1.heap.size,0,none⟩) (by simp;omega) (.int .u8 ((Gf.box (ex 16 key t (12+4*t+(0+1)%4)) ^^^ pw q:Nat):Int))
    have HW:Hid (SameW (upd (fun i=>Gf.box (ex 16 key t (12+4*t+(i+1)%4))) 0 (Gf.box (ex 16 key t (12+4*t+(0+1)%4)) ^^^ pw q)) 16 key t):=hid (by
     intro k hk
     unfold nw
     rw[if_pos T1.out,show 16+4*t-4=12+4*t by omega]
     by_cases h0:k=0
     ·subst h0;rw[upd_same,if_pos rfl,Hq2.out]
     rw[upd_other _ _ _ _ h0,if_neg h0,Nat.xor_zero])
    clear hh3 hg3 hBd hh4 hg4
    generalize (w3.setRow w1.heap.size (row 4 (b8 fun i=>Gf.box (ex 16 key t (12+4*t+(i+1)%4))))).setCell ⟨w1.heap.size,0,none⟩ (.int .u8 ((Gf.box (ex 16 key t (12+4*t+(0+1)%4)) ^^^ pw q:Nat):Int))=wc at*
    generalize (upd (fun i=>Gf.box (ex 16 key t (12+4*t+(i+1)%4))) 0 (Gf.box (ex 16 key t (12+4*t+(0+1)%4)) ^^^ pw q))=W at*
    go_wp2_with (with_reducible refine wpl_load rfl 193 _ rfl _ rfl 193 _ hhc 4 5 Tryz.underlying193 (i4' _) ?_)
    go_loopw [64] (fun y wr=> ∃(k:Nat),k≤4∧y= .int .i64 k∧Blk wr w.heap.size 5 (row 176 (b8 (exK 16 key t k)))∧Below w.heap.size w wr) (fun y _=>4-(intOf y).toNat)
    case atStart=>exact⟨0,by omega,rfl,by rw[exK_zero];exact hgc,hBc⟩
    case round=>
     clear hgc hBc hhc
     obtain⟨k,hk4,rfl,hg,hB⟩:=hrel
     by_cases hlt4:k<4
     ·have Ho:=hid (exK_old 16 key t k (by omega))
      have ho:=Hx.out (4*t+k)
      have HWk:=hid (HW.out k hlt4)
      have hwl:=nw_lt 16 (ex 16 key t) t k Hx.out
      go_wp2_with (first
       | (with_reducible refine wpl_index rfl 193 _ _ rfl _ rfl .i64 _ rfl k rfl 4 5 Tryz.underlying193 hlt4 .u8 Tryz.underlying5 i8 _ (row_val 4 W k hlt4) ?_)
       | (with_reducible refine wpl_slb rfl 22 _ _ rfl w.heap.size 176 176 rfl .i64 _ rfl (4*t+k) (by omega) 5 Tryz.underlying22 (by omega) i8 ?_)
       | (with_reducible refine wpl_slb rfl 22 _ _ rfl w.heap.size 176 176 rfl .i64 _ rfl (16+4*t+k) (by omega) 5 Tryz.underlying22 (by omega) i8 ?_)
       | (with_reducible refine wpl_ld rfl 5 _ rfl _ rfl .u8 Tryz.underlying5 _ (hg.val (4*t+k) (by omega)) ?_)
       | (with_reducible refine wpl_st rfl 5 _ _ rfl _ rfl .u8 _ rfl i8 _ (hg.val (16+4*t+k) (by omega)) (hg.free _) ?_))
      go_round
      case rel=>
       rw[Ho.out,HWk.out,u8_xor_nat _ _ ho hwl]
       refine⟨k+1,by omega,val_int (by omega),?_,hB.setCell (by simp) _⟩
       have:=hg.put (16+4*t+k) (ex 16 key t (4*t+k) ^^^ nw 16 (ex 16 key t) t k)
       rwa[row_b8_ext (f:=upd (exK 16 key t k) (16+4*t+k) (ex 16 key t (4*t+k) ^^^ nw 16 (ex 16 key t) t k)) (g:=exK 16 key t (k+1)) (fun j _=>exK_put 16 key t k j)] at this
      case measure=>simp[intOf];omega
     obtain rfl:k=4:=by omega
     go_wp2_with fail
     go_round
     case rel=>exact⟨t+1,q+1,by omega,by rw[← exK_four];exact hg,hid (by have:=Hq2.out;have:=T1.out;omega),rfl,val_int (by omega),hB⟩
     case measure=>simp[intOf];omega
   have t1:((16+4*(t:Int))%16 == 0)=false:=by simp;omega
   have T1:=hid hm
   have Hq2:Hid (q=(t+1+3)/4):=hid (by have:=Hq.out;omega)
   clear hm
   go_wp2_with fail
   refine(wat' _ 176 176 (12+4*t) _ (by omega) (ex 16 key t) wr (by omega) (by omega) _ (Nat.le_refl _) hg.reads).mono ?_
   rintro e w1 ⟨rfl,hB1⟩
   have hg1:=hg.below hB1 hg.lt
   have hBa:=hB.trans (hB1.mono hB.size)
   have hlt1:=hg1.lt
   clear hg hB hB1
   have hhc:=Blk.fresh w1 193 (row 4 (b8 fun i=>ex 16 key t (12+4*t+i)))
   have hgc:=hg1.alloc (.cells (row 4 (b8 fun i=>ex 16 key t (12+4*t+i))) 193)
   have hBc:=hBa.alloc (by omega) (.cells (row 4 (b8 fun i=>ex 16 key t (12+4*t+i))) 193)
   clear hg1 hBa
   have HW:Hid (SameW (fun i=>ex 16 key t (12+4*t+i)) 16 key t):=hid (by
    intro k hk
    unfold nw
    rw[if_neg T1.out,if_neg (by have:=T1.out;omega),show 16+4*t-4=12+4*t by omega])
   go_wp2_with (first | (with_reducible refine wpl_alloc rfl 193 rfl _ z4 ?_) | (with_reducible refine wpl_store_new rfl 193 _ _ rfl w1 _ 4 _ rfl rfl 193 i4 (row_size _ _) ?_) | (with_reducible refine wpl_load rfl 193 _ rfl _ rfl 193 _ hhc 4 5 Tryz.underlying193 (i4' _) ?_))
   generalize w1.alloc (.cells (row 4 (b8 fun i=>ex 16 key t (12+4*t+i))) 193)=wc at*
   generalize (fun i=>ex 16 key t (12+4*t+i))=W at*
   go_loopw [64] (fun y wr=> ∃(k:Nat),k≤4∧y= .int .i64 k∧Blk wr w.heap.size 5 (row 176 (b8 (exK 16 key t k)))∧Below w.heap.size w wr) (fun y _=>4-(intOf y).toNat)
   case atStart=>exact⟨0,by omega,rfl,by rw[exK_zero];exact hgc,hBc⟩
   case round=>
    clear hgc hBc hhc
    obtain⟨k,hk4,rfl,hg,hB⟩:=hrel
    by_cases hlt4:k<4
    ·have Ho:=hid (exK_old 16 key t k (by omega))
     have ho:=Hx.out (4*t+k)
     have HWk:=hid (HW.out k hlt4)
     have hwl:=nw_lt 16 (ex 16 key t) t k Hx.out
     go_wp2_with (first
      | (with_reducible refine wpl_index rfl 193 _ _ rfl _ rfl .i64 _ rfl k rfl 4 5 Tryz.underlying193 hlt4 .u8 Tryz.underlying5 i8 _ (row_val 4 W k hlt4) ?_)
      | (with_reducible refine wpl_slb rfl 22 _ _ rfl w.heap.size 176 176 rfl .i64 _ rfl (4*t+k) (by omega) 5 Tryz.underlying22 (by omega) i8 ?_)
      | (with_reducible refine wpl_slb rfl 22 _ _ rfl w.heap.size 176 176 rfl .i64 _ rfl (16+4*t+k) (by omega) 5 Tryz.underlying22 (by omega) i8 ?_)
      | (with_reducible refine wpl_ld rfl 5 _ rfl _ rfl .u8 Tryz.underlying5 _ (hg.val (4*t+k) (by omega)) ?_)
      | (with_reducible refine wpl_st rfl 5 _ _ rfl _ rfl .u8 _ rfl i8 _ (hg.val (16+4*t+k) (by omega)) (hg.free _) ?_))
     go_round
     case rel=>
      rw[Ho.out,HWk.out,u8_xor_nat _ _ ho hwl]
      refine⟨k+1,by omega,val_int (by omega),?_,hB.setCell (by simp) _⟩
      have:=hg.put (16+4*t+k) (ex 16 key t (4*t+k) ^^^ nw 16 (ex 16 key t) t k)
      rwa[row_b8_ext (f:=upd (exK 16 key t k) (16+4*t+k) (ex 16 key t (4*t+k) ^^^ nw 16 (ex 16 key t) t k)) (g:=exK 16 key t (k+1)) (fun j _=>exK_put 16 key t k j)] at this
     case measure=>simp[intOf];omega
    obtain rfl:k=4:=by omega
    go_wp2_with fail
    go_round
    case rel=>exact⟨t+1,q,by omega,by rw[← exK_four];exact hg,hid (by have:=Hq2.out;have:=T1.out;omega),rfl,val_int (by omega),hB⟩
    case measure=>simp[intOf];omega
  obtain rfl:t=40:=by omega
  go_wp2_with fail
  go_ret2
  exact⟨rfl,hg,hB⟩
set_option maxRecDepth 100000 in
set_option maxHeartbeats 4000000 in
theorem words24 (A:Option Addr) (c:Nat) (key:Nat→Nat) (w:World) (hk: ∀i,i<24→key i<256) (hR:Reads w w.heap.size A 24 key):
  Calls Tryz.prog 142 #[.slice A 24 c] w fun e w'=>e= .returned (.tuple #[.slice (some ⟨w.heap.size,0,none⟩) 208 208, .nilIface])∧Blk w' w.heap.size 5 (row 208 (b8 (words 24 key)))∧Below w.heap.size w w':=by
 have Hk:=hid hk
 have hb0:=Blk.fresh w 5 (row 208 (b8 fun _=>0))
 have hR0:=hR.below ((Below.refl w.heap.size w).alloc (Nat.le_refl _) (.cells (row 208 (b8 fun _=>0)) 5))
 have Hrnd:=hid (show rnd 24=12 by rfl)
 clear hk hR
 go_enter Tryz.func142,Tryz.ntmps142
 go_wp2_with (first
  | (go_at_call 161;refine(rnd_any 24 _).mono ?_;rintro e w' ⟨rfl,rfl⟩;rw[Hrnd.out])
  | (with_reducible refine wpl_make rfl 22 5 _ _ rfl Tryz.underlying22 info8 .i64 .i64 _ _ rfl rfl 208 rfl rfl (by omega) ?_)
  | (with_reducible refine wpl_copy rfl _ _ 22 22 rfl 5 Tryz.underlying22 i8 w.heap.size 208 208 A 24 c rfl rfl 5 _ key hb0 _ hR0 (by omega) (by omega) ?_))
 clear hb0 hR0
 go_loopw [6,7] (fun p i wr=> ∃(t q:Nat),t≤46∧Blk wr w.heap.size 5 (row 208 (b8 (ex 24 key t)))∧Hid (q=(t+5)/6)∧p= .int .u8 (pw q:Nat)∧i= .int .i64 (24+4*(t:Int))∧Below w.heap.size w wr) (fun _ i _=>208-(intOf i).toNat)
 case atStart=>
  exact⟨0,0,by omega,(Blk.fresh w 5 (row 208 (b8 fun _=>0))).setRow _,hid rfl,rfl,rfl,below_setRow' ((Below.refl _ _).alloc (Nat.le_refl _) _) (Nat.le_refl _) _⟩
 case round=>
  obtain⟨t,q,ht,hg,Hq,rfl,rfl,hB⟩:=hrel
  have Hx:=hid (ex_lt 24 key t Hk.out)
  by_cases hlt:t<46
  ·have hpq:=pw_lt q
   by_cases hm:t%6=0
   ·have Hq2:Hid (q=t/6):=hid (by have:=Hq.out;omega)
    have t1:((24+4*(t:Int))%24 == 0)=true:=by simp;omega
    have T1:=hid hm
    clear hm
    go_wp2_with fail
    refine(wat' _ 208 208 (20+4*t) _ (by omega) (ex 24 key t) wr (by omega) (by omega) _ (Nat.le_refl _) hg.reads).mono ?_
    rintro e w1 ⟨rfl,hB1⟩
    have hg1:=hg.below hB1 hg.lt
    have hBa:=hB.trans (hB1.mono hB.size)
    clear hg hB hB1
    go_wp2_with (first | (with_reducible refine wpl_alloc rfl 193 rfl _ z4 ?_) | (with_reducible refine wpl_store_new rfl 193 _ _ rfl w1 _ 4 _ rfl rfl 193 i4 (row_size _ _) ?_) | (with_reducible refine wpl_load rfl 193 _ rfl _ rfl 193 _ (Blk.fresh _ _ _) 4 5 Tryz.underlying193 (i4' _) ?_))
    refine(turn_any _ _).mono ?_
    rintro e w2 ⟨rfl,hB2⟩
    go_wp2_with fail
    refine(boxw_any _ _ (fun i _=>Hx.out _)).mono ?_
    rintro e w3 ⟨rfl,hB3⟩
    have hh3:=((Blk.fresh w1 193 (row 4 (b8 fun i=>ex 24 key t (20+4*t+i)))).below hB2 (by simp)).below hB3 (by have:=hB2.size;simp at this;omega)
    have hg3:=((hg1.alloc _).below hB2 (by have:=hg1.lt;simp;omega)).below hB3 (by have:=hg1.lt;have:=hB2.size;simp at this;omega)
    have hBd:=((hBa.alloc (by have:=hg1.lt;omega) _).trans (hB2.mono (by have:=hg1.lt;simp;omega))).trans (hB3.mono (by have:=hg1.lt;have:=hB2.size;simp at this;omega))
    have hlt1:=hg1.lt
    clear hg1 hBa hB2 hB3
    have hh4:=hh3.setRow (row 4 (b8 fun i=>Gf.box (ex 24 key t (20+4*t+(i+1)%4))))
    have hg4:=hg3.otherRow w1.heap.size (row 4 (b8 fun i=>Gf.box (ex 24 key t (20+4*t+(i+1)%4)))) (by omega)
    have hbx:=Gf.box_lt _ (Hx.out (20+4*t+(0+1)%4))
    go_wp2_with (first
     | (with_reducible refine wpl_store rfl 193 _ _ rfl _ _ rfl rfl 193 _ hh3 (i4' _) (by simp[row_size]) (one_b8 _ _) ?_)
     | (with_reducible refine wpl_at rfl 193 _ _ rfl _ rfl .i64 _ rfl 0 rfl 4 5 Tryz.underlying193 (by omega) i8 ?_)
     | (with_reducible refine wpl_ld rfl 5 _ rfl _ rfl .u8 Tryz.underlying5 _ (hh4.val 0 (by omega)) ?_)
     | (with_reducible refine wpl_st rfl 5 _ _ rfl _ rfl .u8 _ rfl i8 _ (hh4.val 0 (by omega)) (hh4.free 0) ?_))
    refine(Gf.mul_any _ 2 hpq (by omega) _).mono ?_
    rintro e w' ⟨rfl,rfl⟩
    rw[u8_xor_nat _ _ hbx hpq]
    have hhc:=hh4.put 0 (Gf.box (ex 24 key t (20+4*t+(0+1)%4)) ^^^ pw q)
    have hgc:=hg4.other ⟨w1.heap.size,0,none⟩ (.int .u8 ((Gf.box (ex 24 key t (20+4*t+(0+1)%4)) ^^^ pw q:Nat):Int)) (by simp;omega)
    have hBc:=(below_setRow' hBd (g:=w1.heap.size) (by omega) (row 4 (b8 fun i=>Gf.box (ex 24 key t (20+4*t+(i+1)%4))))).setCell (p:=⟨w1.heap.size,0,none⟩) (by simp;omega) (.int .u8 ((Gf.box (ex 24 key t (20+4*t+(0+1)%4)) ^^^ pw q:Nat):Int))
    have HW:Hid (SameW (upd (fun i=>Gf.box (ex 24 key t (20+4*t+(i+1)%4))) 0 (Gf.box (ex 24 key t (20+4*t+(0+1)%4)) ^^^ pw q)) 24 key t):=hid (by
     intro k hk
     unfold nw
     rw[if_pos T1.out,show 24+4*t-4=20+4*t by omega]
     by_cases h0:k=0
     ·subst h0;rw[upd_same,if_pos rfl,Hq2.out]
     rw[upd_other _ _ _ _ h0,if_neg h0,Nat.xor_zero])
    clear hh3 hg3 hBd hh4 hg4
    generalize (w3.setRow w1.heap.size (row 4 (b8 fun i=>Gf.box (ex 24 key t (20+4*t+(i+1)%4))))).setCell ⟨w1.heap.size,0,none⟩ (.int .u8 ((Gf.box (ex 24 key t (20+4*t+(0+1)%4)) ^^^ pw q:Nat):Int))=wc at*
    generalize (upd (fun i=>Gf.box (ex 24 key t (20+4*t+(i+1)%4))) 0 (Gf.box (ex 24 key t (20+4*t+(0+1)%4)) ^^^ pw q))=W at*
    go_wp2_with (with_reducible refine wpl_load rfl 193 _ rfl _ rfl 193 _ hhc 4 5 Tryz.underlying193 (i4' _) ?_)
    go_loopw [64] (fun y wr=> ∃(k:Nat),k≤4∧y= .int .i64 k∧Blk wr w.heap.size 5 (row 208 (b8 (exK 24 key t k)))∧Below w.heap.size w wr) (fun y _=>4-(intOf y).toNat)
    case atStart=>exact⟨0,by omega,rfl,by rw[exK_zero];exact hgc,hBc⟩
    case round=>
     clear hgc hBc hhc
     obtain⟨k,hk4,rfl,hg,hB⟩:=hrel
     by_cases hlt4:k<4
     ·have Ho:=hid (exK_old 24 key t k (by omega))
      have ho:=Hx.out (4*t+k)
      have HWk:=hid (HW.out k hlt4)
      have hwl:=nw_lt 24 (ex 24 key t) t k Hx.out
      go_wp2_with (first
       | (with_reducible refine wpl_index rfl 193 _ _ rfl _ rfl .i64 _ rfl k rfl 4 5 Tryz.underlying193 hlt4 .u8 Tryz.underlying5 i8 _ (row_val 4 W k hlt4) ?_)
       | (with_reducible refine wpl_slb rfl 22 _ _ rfl w.heap.size 208 208 rfl .i64 _ rfl (4*t+k) (by omega) 5 Tryz.underlying22 (by omega) i8 ?_)
       | (with_reducible refine wpl_slb rfl 22 _ _ rfl w.heap.size 208 208 rfl .i64 _ rfl (24+4*t+k) (by omega) 5 Tryz.underlying22 (by omega) i8 ?_)
       | (with_reducible refine wpl_ld rfl 5 _ rfl _ rfl .u8 Tryz.underlying5 _ (hg.val (4*t+k) (by omega)) ?_)
       | (with_reducible refine wpl_st rfl 5 _ _ rfl _ rfl .u8 _ rfl i8 _ (hg.val (24+4*t+k) (by omega)) (hg.free _) ?_))
      go_round
      case rel=>
       rw[Ho.out,HWk.out,u8_xor_nat _ _ ho hwl]
       refine⟨k+1,by omega,val_int (by omega),?_,hB.setCell (by simp) _⟩
       have:=hg.put (24+4*t+k) (ex 24 key t (4*t+k) ^^^ nw 24 (ex 24 key t) t k)
       rwa[row_b8_ext (f:=upd (exK 24 key t k) (24+4*t+k) (ex 24 key t (4*t+k) ^^^ nw 24 (ex 24 key t) t k)) (g:=exK 24 key t (k+1)) (fun j _=>exK_put 24 key t k j)] at this
      case measure=>simp[intOf];omega
     obtain rfl:k=4:=by omega
     go_wp2_with fail
     go_round
     case rel=>exact⟨t+1,q+1,by omega,by rw[← exK_four];exact hg,hid (by have:=Hq2.out;have:=T1.out;omega),rfl,val_int (by omega),hB⟩
     case measure=>simp[intOf];omega
   have t1:((24+4*(t:Int))%24 == 0)=false:=by simp;omega
   have T1:=hid hm
   have Hq2:Hid (q=(t+1+5)/6):=hid (by have:=Hq.out;omega)
   clear hm
   go_wp2_with fail
   refine(wat' _ 208 208 (20+4*t) _ (by omega) (ex 24 key t) wr (by omega) (by omega) _ (Nat.le_refl _) hg.reads).mono ?_
   rintro e w1 ⟨rfl,hB1⟩
   have hg1:=hg.below hB1 hg.lt
   have hBa:=hB.trans (hB1.mono hB.size)
   have hlt1:=hg1.lt
   clear hg hB hB1
   have hhc:=Blk.fresh w1 193 (row 4 (b8 fun i=>ex 24 key t (20+4*t+i)))
   have hgc:=hg1.alloc (.cells (row 4 (b8 fun i=>ex 24 key t (20+4*t+i))) 193)
   have hBc:=hBa.alloc (by omega) (.cells (row 4 (b8 fun i=>ex 24 key t (20+4*t+i))) 193)
   clear hg1 hBa
   have HW:Hid (SameW (fun i=>ex 24 key t (20+4*t+i)) 24 key t):=hid (by
    intro k hk
    unfold nw
    rw[if_neg T1.out,if_neg (by have:=T1.out;omega),show 24+4*t-4=20+4*t by omega])
   go_wp2_with (first | (with_reducible refine wpl_alloc rfl 193 rfl _ z4 ?_) | (with_reducible refine wpl_store_new rfl 193 _ _ rfl w1 _ 4 _ rfl rfl 193 i4 (row_size _ _) ?_) | (with_reducible refine wpl_load rfl 193 _ rfl _ rfl 193 _ hhc 4 5 Tryz.underlying193 (i4' _) ?_))
   generalize w1.alloc (.cells (row 4 (b8 fun i=>ex 24 key t (20+4*t+i))) 193)=wc at*
   generalize (fun i=>ex 24 key t (20+4*t+i))=W at*
   go_loopw [64] (fun y wr=> ∃(k:Nat),k≤4∧y= .int .i64 k∧Blk wr w.heap.size 5 (row 208 (b8 (exK 24 key t k)))∧Below w.heap.size w wr) (fun y _=>4-(intOf y).toNat)
   case atStart=>exact⟨0,by omega,rfl,by rw[exK_zero];exact hgc,hBc⟩
   case round=>
    clear hgc hBc hhc
    obtain⟨k,hk4,rfl,hg,hB⟩:=hrel
    by_cases hlt4:k<4
    ·have Ho:=hid (exK_old 24 key t k (by omega))
     have ho:=Hx.out (4*t+k)
     have HWk:=hid (HW.out k hlt4)
     have hwl:=nw_lt 24 (ex 24 key t) t k Hx.out
     go_wp2_with (first
      | (with_reducible refine wpl_index rfl 193 _ _ rfl _ rfl .i64 _ rfl k rfl 4 5 Tryz.underlying193 hlt4 .u8 Tryz.underlying5 i8 _ (row_val 4 W k hlt4) ?_)
      | (with_reducible refine wpl_slb rfl 22 _ _ rfl w.heap.size 208 208 rfl .i64 _ rfl (4*t+k) (by omega) 5 Tryz.underlying22 (by omega) i8 ?_)
      | (with_reducible refine wpl_slb rfl 22 _ _ rfl w.heap.size 208 208 rfl .i64 _ rfl (24+4*t+k) (by omega) 5 Tryz.underlying22 (by omega) i8 ?_)
      | (with_reducible refine wpl_ld rfl 5 _ rfl _ rfl .u8 Tryz.underlying5 _ (hg.val (4*t+k) (by omega)) ?_)
      | (with_reducible refine wpl_st rfl 5 _ _ rfl _ rfl .u8 _ rfl i8 _ (hg.val (24+4*t+k) (by omega)) (hg.free _) ?_))
     go_round
     case rel=>
      rw[Ho.out,HWk.out,u8_xor_nat _ _ ho hwl]
      refine⟨k+1,by omega,val_int (by omega),?_,hB.setCell (by simp) _⟩
      have:=hg.put (24+4*t+k) (ex 24 key t (4*t+k) ^^^ nw 24 (ex 24 key t) t k)
      rwa[row_b8_ext (f:=upd (exK 24 key t k) (24+4*t+k) (ex 24 key t (4*t+k) ^^^ nw 24 (ex 24 key t) t k)) (g:=exK 24 key t (k+1)) (fun j _=>exK_put 24 key t k j)] at this
     case measure=>simp[intOf];omega
    obtain rfl:k=4:=by omega
    go_wp2_with fail
    go_round
    case rel=>exact⟨t+1,q,by omega,by rw[← exK_four];exact hg,hid (by have:=Hq2.out;have:=T1.out;omega),rfl,val_int (by omega),hB⟩
    case measure=>simp[intOf];omega
  obtain rfl:t=46:=by omega
  go_wp2_with fail
  go_ret2
  exact⟨rfl,hg,hB⟩
set_option maxRecDepth 100000 in
set_option maxHeartbeats 4000000 in
theorem words32 (A:Option Addr) (c:Nat) (key:Nat→Nat) (w:World) (hk: ∀i,i<32→key i<256) (hR:Reads w w.heap.size A 32 key):
  Calls Tryz.prog 142 #[.slice A 32 c] w fun e w'=>e= .returned (.tuple #[.slice (some ⟨w.heap.size,0,none⟩) 240 240, .nilIface])∧Blk w' w.heap.size 5 (row 240 (b8 (words 32 key)))∧Below w.heap.size w w':=by
 have Hk:=hid hk
 have hb0:=Blk.fresh w 5 (row 240 (b8 fun _=>0))
 have hR0:=hR.below ((Below.refl w.heap.size w).alloc (Nat.le_refl _) (.cells (row 240 (b8 fun _=>0)) 5))
 have Hrnd:=hid (show rnd 32=14 by rfl)
 clear hk hR
 go_enter Tryz.func142,Tryz.ntmps142
 go_wp2_with (first
  | (go_at_call 161;refine(rnd_any 32 _).mono ?_;rintro e w' ⟨rfl,rfl⟩;rw[Hrnd.out])
  | (with_reducible refine wpl_make rfl 22 5 _ _ rfl Tryz.underlying22 info8 .i64 .i64 _ _ rfl rfl 240 rfl rfl (by omega) ?_)
  | (with_reducible refine wpl_copy rfl _ _ 22 22 rfl 5 Tryz.underlying22 i8 w.heap.size 240 240 A 32 c rfl rfl 5 _ key hb0 _ hR0 (by omega) (by omega) ?_))
 clear hb0 hR0
 go_loopw [6,7] (fun p i wr=> ∃(t q:Nat),t≤52∧Blk wr w.heap.size 5 (row 240 (b8 (ex 32 key t)))∧Hid (q=(t+7)/8)∧p= .int .u8 (pw q:Nat)∧i= .int .i64 (32+4*(t:Int))∧Below w.heap.size w wr) (fun _ i _=>240-(intOf i).toNat)
 case atStart=>
  exact⟨0,0,by omega,(Blk.fresh w 5 (row 240 (b8 fun _=>0))).setRow _,hid rfl,rfl,rfl,below_setRow' ((Below.refl _ _).alloc (Nat.le_refl _) _) (Nat.le_refl _) _⟩
 case round=>
  obtain⟨t,q,ht,hg,Hq,rfl,rfl,hB⟩:=hrel
  have Hx:=hid (ex_lt 32 key t Hk.out)
  by_cases hlt:t<52
  ·have hpq:=pw_lt q
   by_cases hm:t%8=0
   ·have Hq2:Hid (q=t/8):=hid (by have:=Hq.out;omega)
    have t1:((32+4*(t:Int))%32 == 0)=true:=by simp;omega
    have T1:=hid hm
    clear hm
    go_wp2_with fail
    refine(wat' _ 240 240 (28+4*t) _ (by omega) (ex 32 key t) wr (by omega) (by omega) _ (Nat.le_refl _) hg.reads).mono ?_
    rintro e w1 ⟨rfl,hB1⟩
    have hg1:=hg.below hB1 hg.lt
    have hBa:=hB.trans (hB1.mono hB.size)
    clear hg hB hB1
    go_wp2_with (first | (with_reducible refine wpl_alloc rfl 193 rfl _ z4 ?_) | (with_reducible refine wpl_store_new rfl 193 _ _ rfl w1 _ 4 _ rfl rfl 193 i4 (row_size _ _) ?_) | (with_reducible refine wpl_load rfl 193 _ rfl _ rfl 193 _ (Blk.fresh _ _ _) 4 5 Tryz.underlying193 (i4' _) ?_))
    refine(turn_any _ _).mono ?_
    rintro e w2 ⟨rfl,hB2⟩
    go_wp2_with fail
    refine(boxw_any _ _ (fun i _=>Hx.out _)).mono ?_
    rintro e w3 ⟨rfl,hB3⟩
    have hh3:=((Blk.fresh w1 193 (row 4 (b8 fun i=>ex 32 key t (28+4*t+i)))).below hB2 (by simp)).below hB3 (by have:=hB2.size;simp at this;omega)
    have hg3:=((hg1.alloc _).below hB2 (by have:=hg1.lt;simp;omega)).below hB3 (by have:=hg1.lt;have:=hB2.size;simp at this;omega)
    have hBd:=((hBa.alloc (by have:=hg1.lt;omega) _).trans (hB2.mono (by have:=hg1.lt;simp;omega))).trans (hB3.mono (by have:=hg1.lt;have:=hB2.size;simp at this;omega))
    have hlt1:=hg1.lt
    clear hg1 hBa hB2 hB3
    have hh4:=hh3.setRow (row 4 (b8 fun i=>Gf.box (ex 32 key t (28+4*t+(i+1)%4))))
    have hg4:=hg3.otherRow w1.heap.size (row 4 (b8 fun i=>Gf.box (ex 32 key t (28+4*t+(i+1)%4)))) (by omega)
    have hbx:=Gf.box_lt _ (Hx.out (28+4*t+(0+1)%4))
    go_wp2_with (first
     | (with_reducible refine wpl_store rfl 193 _ _ rfl _ _ rfl rfl 193 _ hh3 (i4' _) (by simp[row_size]) (one_b8 _ _) ?_)
     | (with_reducible refine wpl_at rfl 193 _ _ rfl _ rfl .i64 _ rfl 0 rfl 4 5 Tryz.underlying193 (by omega) i8 ?_)
     | (with_reducible refine wpl_ld rfl 5 _ rfl _ rfl .u8 Tryz.underlying5 _ (hh4.val 0 (by omega)) ?_)
     | (with_reducible refine wpl_st rfl 5 _ _ rfl _ rfl .u8 _ rfl i8 _ (hh4.val 0 (by omega)) (hh4.free 0) ?_))
    refine(Gf.mul_any _ 2 hpq (by omega) _).mono ?_
    rintro e w' ⟨rfl,rfl⟩
    rw[u8_xor_nat _ _ hbx hpq]
    have hhc:=hh4.put 0 (Gf.box (ex 32 key t (28+4*t+(0+1)%4)) ^^^ pw q)
    have hgc:=hg4.other ⟨w1.heap.size,0,none⟩ (.int .u8 ((Gf.box (ex 32 key t (28+4*t+(0+1)%4)) ^^^ pw q:Nat):Int)) (by simp;omega)
    have hBc:=(below_setRow' hBd (g:=w1.heap.size) (by omega) (row 4 (b8 fun i=>Gf.box (ex 32 key t (28+4*t+(i+1)%4))))).setCell (p:=⟨w1.heap.size,0,none⟩) (by simp;omega) (.int .u8 ((Gf.box (ex 32 key t (28+4*t+(0+1)%4)) ^^^ pw q:Nat):Int))
    have HW:Hid (SameW (upd (fun i=>Gf.box (ex 32 key t (28+4*t+(i+1)%4))) 0 (Gf.box (ex 32 key t (28+4*t+(0+1)%4)) ^^^ pw q)) 32 key t):=hid (by
     intro k hk
     unfold nw
     rw[if_pos T1.out,show 32+4*t-4=28+4*t by omega]
     by_cases h0:k=0
     ·subst h0;rw[upd_same,if_pos rfl,Hq2.out]
     rw[upd_other _ _ _ _ h0,if_neg h0,Nat.xor_zero])
    clear hh3 hg3 hBd hh4 hg4
    generalize (w3.setRow w1.heap.size (row 4 (b8 fun i=>Gf.box (ex 32 key t (28+4*t+(i+1)%4))))).setCell ⟨w1.heap.size,0,none⟩ (.int .u8 ((Gf.box (ex 32 key t (28+4*t+(0+1)%4)) ^^^ pw q:Nat):Int))=wc at*
    generalize (upd (fun i=>Gf.box (ex 32 key t (28+4*t+(i+1)%4))) 0 (Gf.box (ex 32 key t (28+4*t+(0+1)%4)) ^^^ pw q))=W at*
    go_wp2_with (with_reducible refine wpl_load rfl 193 _ rfl _ rfl 193 _ hhc 4 5 Tryz.underlying193 (i4' _) ?_)
    go_loopw [64] (fun y wr=> ∃(k:Nat),k≤4∧y= .int .i64 k∧Blk wr w.heap.size 5 (row 240 (b8 (exK 32 key t k)))∧Below w.heap.size w wr) (fun y _=>4-(intOf y).toNat)
    case atStart=>exact⟨0,by omega,rfl,by rw[exK_zero];exact hgc,hBc⟩
    case round=>
     clear hgc hBc hhc
     obtain⟨k,hk4,rfl,hg,hB⟩:=hrel
     by_cases hlt4:k<4
     ·have Ho:=hid (exK_old 32 key t k (by omega))
      have ho:=Hx.out (4*t+k)
      have HWk:=hid (HW.out k hlt4)
      have hwl:=nw_lt 32 (ex 32 key t) t k Hx.out
      go_wp2_with (first
       | (with_reducible refine wpl_index rfl 193 _ _ rfl _ rfl .i64 _ rfl k rfl 4 5 Tryz.underlying193 hlt4 .u8 Tryz.underlying5 i8 _ (row_val 4 W k hlt4) ?_)
       | (with_reducible refine wpl_slb rfl 22 _ _ rfl w.heap.size 240 240 rfl .i64 _ rfl (4*t+k) (by omega) 5 Tryz.underlying22 (by omega) i8 ?_)
       | (with_reducible refine wpl_slb rfl 22 _ _ rfl w.heap.size 240 240 rfl .i64 _ rfl (32+4*t+k) (by omega) 5 Tryz.underlying22 (by omega) i8 ?_)
       | (with_reducible refine wpl_ld rfl 5 _ rfl _ rfl .u8 Tryz.underlying5 _ (hg.val (4*t+k) (by omega)) ?_)
       | (with_reducible refine wpl_st rfl 5 _ _ rfl _ rfl .u8 _ rfl i8 _ (hg.val (32+4*t+k) (by omega)) (hg.free _) ?_))
      go_round
      case rel=>
       rw[Ho.out,HWk.out,u8_xor_nat _ _ ho hwl]
       refine⟨k+1,by omega,val_int (by omega),?_,hB.setCell (by simp) _⟩
       have:=hg.put (32+4*t+k) (ex 32 key t (4*t+k) ^^^ nw 32 (ex 32 key t) t k)
       rwa[row_b8_ext (f:=upd (exK 32 key t k) (32+4*t+k) (ex 32 key t (4*t+k) ^^^ nw 32 (ex 32 key t) t k)) (g:=exK 32 key t (k+1)) (fun j _=>exK_put 32 key t k j)] at this
      case measure=>simp[intOf];omega
     obtain rfl:k=4:=by omega
     go_wp2_with fail
     go_round
     case rel=>exact⟨t+1,q+1,by omega,by rw[← exK_four];exact hg,hid (by have:=Hq2.out;have:=T1.out;omega),rfl,val_int (by omega),hB⟩
     case measure=>simp[intOf];omega
   have t1:((32+4*(t:Int))%32 == 0)=false:=by simp;omega
   have Hq2:Hid (q=(t+1+7)/8):=hid (by have:=Hq.out;omega)
   by_cases hm2:t%8=4
   ·have t2:((32+4*(t:Int))%32 == 16)=true:=by simp;omega
    have T1:=hid hm
    have T2:=hid hm2
    clear hm hm2
    go_wp2_with fail
    refine(wat' _ 240 240 (28+4*t) _ (by omega) (ex 32 key t) wr (by omega) (by omega) _ (Nat.le_refl _) hg.reads).mono ?_
    rintro e w1 ⟨rfl,hB1⟩
    have hg1:=hg.below hB1 hg.lt
    have hBa:=hB.trans (hB1.mono hB.size)
    have hlt1:=hg1.lt
    clear hg hB hB1
    go_wp2_with (first | (with_reducible refine wpl_alloc rfl 193 rfl _ z4 ?_) | (with_reducible refine wpl_store_new rfl 193 _ _ rfl w1 _ 4 _ rfl rfl 193 i4 (row_size _ _) ?_) | (with_reducible refine wpl_load rfl 193 _ rfl _ rfl 193 _ (Blk.fresh _ _ _) 4 5 Tryz.underlying193 (i4' _) ?_))
    refine(boxw_any _ _ (fun i _=>Hx.out _)).mono ?_
    rintro e w2 ⟨rfl,hB2⟩
    have hh2:=(Blk.fresh w1 193 (row 4 (b8 fun i=>ex 32 key t (28+4*t+i)))).below hB2 (by simp)
    have hg2:=(hg1.alloc _).below hB2 (by simp;omega)
    have hB3:=(hBa.alloc (by omega) _).trans (hB2.mono (by simp;omega))
    clear hg1 hBa hB2
    have hhc:=hh2.setRow (row 4 (b8 fun i=>Gf.box (ex 32 key t (28+4*t+i))))
    have hgc:=hg2.otherRow w1.heap.size (row 4 (b8 fun i=>Gf.box (ex 32 key t (28+4*t+i)))) (by omega)
    have hBc:=below_setRow' hB3 (g:=w1.heap.size) (by omega) (row 4 (b8 fun i=>Gf.box (ex 32 key t (28+4*t+i))))
    have HW:Hid (SameW (fun i=>Gf.box (ex 32 key t (28+4*t+i))) 32 key t):=hid (by
     intro k hk
     unfold nw
     rw[if_neg T1.out,if_pos ⟨rfl,T2.out⟩,show 32+4*t-4=28+4*t by omega])
    go_wp2_with (first
     | (with_reducible refine wpl_store rfl 193 _ _ rfl _ _ rfl rfl 193 _ hh2 (i4' _) (by simp[row_size]) (one_b8 _ _) ?_)
     | (with_reducible refine wpl_load rfl 193 _ rfl _ rfl 193 _ hhc 4 5 Tryz.underlying193 (i4' _) ?_))
    clear hh2 hg2 hB3
    generalize w2.setRow w1.heap.size (row 4 (b8 fun i=>Gf.box (ex 32 key t (28+4*t+i))))=wc at*
    generalize (fun i=>Gf.box (ex 32 key t (28+4*t+i)))=W at*
    go_loopw [64] (fun y wr=> ∃(k:Nat),k≤4∧y= .int .i64 k∧Blk wr w.heap.size 5 (row 240 (b8 (exK 32 key t k)))∧Below w.heap.size w wr) (fun y _=>4-(intOf y).toNat)
    case atStart=>exact⟨0,by omega,rfl,by rw[exK_zero];exact hgc,hBc⟩
    case round=>
     clear hgc hBc hhc
     obtain⟨k,hk4,rfl,hg,hB⟩:=hrel
     by_cases hlt4:k<4
     ·have Ho:=hid (exK_old 32 key t k (by omega))
      have ho:=Hx.out (4*t+k)
      have HWk:=hid (HW.out k hlt4)
      have hwl:=nw_lt 32 (ex 32 key t) t k Hx.out
      go_wp2_with (first
       | (with_reducible refine wpl_index rfl 193 _ _ rfl _ rfl .i64 _ rfl k rfl 4 5 Tryz.underlying193 hlt4 .u8 Tryz.underlying5 i8 _ (row_val 4 W k hlt4) ?_)
       | (with_reducible refine wpl_slb rfl 22 _ _ rfl w.heap.size 240 240 rfl .i64 _ rfl (4*t+k) (by omega) 5 Tryz.underlying22 (by omega) i8 ?_)
       | (with_reducible refine wpl_slb rfl 22 _ _ rfl w.heap.size 240 240 rfl .i64 _ rfl (32+4*t+k) (by omega) 5 Tryz.underlying22 (by omega) i8 ?_)
       | (with_reducible refine wpl_ld rfl 5 _ rfl _ rfl .u8 Tryz.underlying5 _ (hg.val (4*t+k) (by omega)) ?_)
       | (with_reducible refine wpl_st rfl 5 _ _ rfl _ rfl .u8 _ rfl i8 _ (hg.val (32+4*t+k) (by omega)) (hg.free _) ?_))
      go_round
      case rel=>
       rw[Ho.out,HWk.out,u8_xor_nat _ _ ho hwl]
       refine⟨k+1,by omega,val_int (by omega),?_,hB.setCell (by simp) _⟩
       have:=hg.put (32+4*t+k) (ex 32 key t (4*t+k) ^^^ nw 32 (ex 32 key t) t k)
       rwa[row_b8_ext (f:=upd (exK 32 key t k) (32+4*t+k) (ex 32 key t (4*t+k) ^^^ nw 32 (ex 32 key t) t k)) (g:=exK 32 key t (k+1)) (fun j _=>exK_put 32 key t k j)] at this
      case measure=>simp[intOf];omega
     obtain rfl:k=4:=by omega
     go_wp2_with fail
     go_round
     case rel=>exact⟨t+1,q,by omega,by rw[← exK_four];exact hg,hid (by have:=Hq2.out;have:=T1.out;omega),rfl,val_int (by omega),hB⟩
     case measure=>simp[intOf];omega
   have t2:((32+4*(t:Int))%32 == 16)=false:=by simp;omega
   have T1:=hid hm
   have T2:=hid hm2
   clear hm hm2
   go_wp2_with fail
   refine(wat' _ 240 240 (28+4*t) _ (by omega) (ex 32 key t) wr (by omega) (by omega) _ (Nat.le_refl _) hg.reads).mono ?_
   rintro e w1 ⟨rfl,hB1⟩
   have hg1:=hg.below hB1 hg.lt
   have hBa:=hB.trans (hB1.mono hB.size)
   have hlt1:=hg1.lt
   clear hg hB hB1
   have hhc:=Blk.fresh w1 193 (row 4 (b8 fun i=>ex 32 key t (28+4*t+i)))
   have hgc:=hg1.alloc (.cells (row 4 (b8 fun i=>ex 32 key t (28+4*t+i))) 193)
   have hBc:=hBa.alloc (by omega) (.cells (row 4 (b8 fun i=>ex 32 key t (28+4*t+i))) 193)
   clear hg1 hBa
   have HW:Hid (SameW (fun i=>ex 32 key t (28+4*t+i)) 32 key t):=hid (by
    intro k hk
    unfold nw
    rw[if_neg T1.out,if_neg (fun h=>T2.out h.2),show 32+4*t-4=28+4*t by omega])
   go_wp2_with (first | (with_reducible refine wpl_alloc rfl 193 rfl _ z4 ?_) | (with_reducible refine wpl_store_new rfl 193 _ _ rfl w1 _ 4 _ rfl rfl 193 i4 (row_size _ _) ?_) | (with_reducible refine wpl_load rfl 193 _ rfl _ rfl 193 _ hhc 4 5 Tryz.underlying193 (i4' _) ?_))
   generalize w1.alloc (.cells (row 4 (b8 fun i=>ex 32 key t (28+4*t+i))) 193)=wc at*
   generalize (fun i=>ex 32 key t (28+4*t+i))=W at*
   go_loopw [64] (fun y wr=> ∃(k:Nat),k≤4∧y= .int .i64 k∧Blk wr w.heap.size 5 (row 240 (b8 (exK 32 key t k)))∧Below w.heap.size w wr) (fun y _=>4-(intOf y).toNat)
   case atStart=>exact⟨0,by omega,rfl,by rw[exK_zero];exact hgc,hBc⟩
   case round=>
    clear hgc hBc hhc
    obtain⟨k,hk4,rfl,hg,hB⟩:=hrel
    by_cases hlt4:k<4
    ·have Ho:=hid (exK_old 32 key t k (by omega))
     have ho:=Hx.out (4*t+k)
     have HWk:=hid (HW.out k hlt4)
     have hwl:=nw_lt 32 (ex 32 key t) t k Hx.out
     go_wp2_with (first
      | (with_reducible refine wpl_index rfl 193 _ _ rfl _ rfl .i64 _ rfl k rfl 4 5 Tryz.underlying193 hlt4 .u8 Tryz.underlying5 i8 _ (row_val 4 W k hlt4) ?_)
      | (with_reducible refine wpl_slb rfl 22 _ _ rfl w.heap.size 240 240 rfl .i64 _ rfl (4*t+k) (by omega) 5 Tryz.underlying22 (by omega) i8 ?_)
      | (with_reducible refine wpl_slb rfl 22 _ _ rfl w.heap.size 240 240 rfl .i64 _ rfl (32+4*t+k) (by omega) 5 Tryz.underlying22 (by omega) i8 ?_)
      | (with_reducible refine wpl_ld rfl 5 _ rfl _ rfl .u8 Tryz.underlying5 _ (hg.val (4*t+k) (by omega)) ?_)
      | (with_reducible refine wpl_st rfl 5 _ _ rfl _ rfl .u8 _ rfl i8 _ (hg.val (32+4*t+k) (by omega)) (hg.free _) ?_))
     go_round
     case rel=>
      rw[Ho.out,HWk.out,u8_xor_nat _ _ ho hwl]
      refine⟨k+1,by omega,val_int (by omega),?_,hB.setCell (by simp) _⟩
      have:=hg.put (32+4*t+k) (ex 32 key t (4*t+k) ^^^ nw 32 (ex 32 key t) t k)
      rwa[row_b8_ext (f:=upd (exK 32 key t k) (32+4*t+k) (ex 32 key t (4*t+k) ^^^ nw 32 (ex 32 key t) t k)) (g:=exK 32 key t (k+1)) (fun j _=>exK_put 32 key t k j)] at this
     case measure=>simp[intOf];omega
    obtain rfl:k=4:=by omega
    go_wp2_with fail
    go_round
    case rel=>exact⟨t+1,q,by omega,by rw[← exK_four];exact hg,hid (by have:=Hq2.out;have:=T1.out;omega),rfl,val_int (by omega),hB⟩
    case measure=>simp[intOf];omega
  obtain rfl:t=52:=by omega
  go_wp2_with fail
  go_ret2
  exact⟨rfl,hg,hB⟩
end Go.Proofs.YtlmacfmfmjhidaaGreatDoor.Aes
namespace Go.Proofs.YtlmacfmfmjhidaaGreatDoor.Aes
open Go.ChangeShapes Go.WideShapes Go.ChangeAt Go.RowKit Mem
def wsz (L:Nat):Nat:=16*(rnd L+1)
def IsKey (L:Nat):Prop:=L=16∨L=24∨L=32
theorem words_any (A:Option Addr) (L c:Nat) (hL:IsKey L) (key:Nat→Nat) (w:World) (hk: ∀i,i<L→key i<256) (hR:Reads w w.heap.size A L key):
  Calls Tryz.prog 142 #[.slice A L c] w fun e w'=>e= .returned (.tuple #[.slice (some ⟨w.heap.size,0,none⟩) (wsz L) (wsz L), .nilIface])∧Blk w' w.heap.size 5 (row (wsz L) (b8 (words L key)))∧Below w.heap.size w w':=by
 rcases hL with rfl | rfl | rfl
 ·exact words16 A c key w hk hR
 ·exact words24 A c key w hk hR
 exact words32 A c key w hk hR
theorem wsz_eq (L:Nat):wsz L=16*rnd L+16:=by unfold wsz;omega
theorem rnd_bound {L:Nat} (h:IsKey L):10≤rnd L∧rnd L≤14:=by rcases h with rfl | rfl | rfl<;>decide
def St (w0 wr:World) (hs n:Nat) (b m ws:Nat→Nat):Prop:=
 Blk wr hs 150 (row 16 (b8 b))∧Blk wr (hs+1) 150 (row 16 (b8 m))∧Blk wr (hs+2) 5 (row n (b8 ws))∧Below hs w0 wr
section
variable {w0 wr w':World}{hs n:Nat}{b m ws:Nat→Nat}
theorem St.blk (h:St w0 wr hs n b m ws):Blk wr hs 150 (row 16 (b8 b)):=h.1
theorem St.res (h:St w0 wr hs n b m ws):Blk wr (hs+1) 150 (row 16 (b8 m)):=h.2.1
theorem St.bel (h:St w0 wr hs n b m ws):Below hs w0 wr:=h.2.2.2
theorem St.below (h:St w0 wr hs n b m ws) (hb:Below wr.heap.size wr w'):St w0 w' hs n b m ws:=
 ⟨h.1.below hb h.1.lt,h.2.1.below hb h.2.1.lt,h.2.2.1.below hb h.2.2.1.lt,h.2.2.2.trans (hb.mono (Nat.le_of_lt h.1.lt))⟩
theorem St.put (h:St w0 wr hs n b m ws) (b':Nat→Nat):St w0 (wr.setRow hs (row 16 (b8 b'))) hs n b' m ws:=
 ⟨h.1.setRow _,h.2.1.otherRow _ _ (by omega),h.2.2.1.otherRow _ _ (by omega),below_setRow' h.2.2.2 (Nat.le_refl _) _⟩
theorem St.out (h:St w0 wr hs n b m ws) (b':Nat→Nat):St w0 (wr.setRow (hs+1) (row 16 (b8 b'))) hs n b b' ws:=
 ⟨h.1.otherRow _ _ (by omega),h.2.1.setRow _,h.2.2.1.otherRow _ _ (by omega),below_setRow' h.2.2.2 (by omega) _⟩
theorem St.reads (h:St w0 wr hs n b m ws):Reads wr wr.heap.size (some ⟨hs+2,0,none⟩) n ws:=h.2.2.1.reads
end
theorem rk' (f:Nat→Nat) (A:Option Addr) (n c:Nat) (z:Int) (r:Nat) (hz:z=r) (ws:Nat→Nat) (w:World) (hf:By16 f) (hws: ∀i,i<n→ws i<256) (hr:r<16) (hn:16*r+16≤n) (hR:Reads w w.heap.size A n ws):
  Calls Tryz.prog 144 #[.agg (row 16 (b8 f)), .slice A n c, .int .i64 z] w fun e w'=>e= .returned (.agg (row 16 (b8 (rk ws r f))))∧Below w.heap.size w w':=by
 subst hz;exact rk_any f A n c r ws w hf hws hr hn _ (Nat.le_refl _) hR
set_option maxRecDepth 100000 in
set_option maxHeartbeats 4000000 in
theorem enc_any (A:Option Addr) (L c:Nat) (hL:IsKey L) (key b:Nat→Nat) (w:World) (hk: ∀i,i<L→key i<256) (hb:By16 b) (hR:Reads w w.heap.size A L key):
  Calls Tryz.prog 123 #[.slice A L c, .agg (row 16 (b8 b))] w fun e w'=>e= .returned (.tuple #[.agg (row 16 (b8 (enc (words L key) (rnd L) b))), .nilIface])∧Below w.heap.size w w':=by
 have HL:=hid hL
 have Hk:=hid hk
 have Hb:=hid hb
 have hb1:=(Blk.fresh w 150 (row 16 (b8 b))).alloc (.cells (row 16 (b8 fun _=>0)) 150)
 have hb2:=two_new w b (fun _=>0) 16 150
 have hB2:Below w.heap.size w ((w.alloc (.cells (row 16 (b8 b)) 150)).alloc (.cells (row 16 (b8 fun _=>0)) 150)):=((Below.refl _ _).alloc (Nat.le_refl _) _).alloc (by simp) _
 have hR2:=(hR.below hB2).more hB2.size
 have Hn:=hid (wsz_eq L)
 have Hw:=hid (fun i (_:i<wsz L)=>ex_lt L key (more L) hk i)
 have HE:=hid (fun r hr=>encTo_by (ws:=words L key) (N:=rnd L) (n:=wsz L) (fun i _=>ex_lt L key (more L) hk i) (by rw[wsz_eq];omega) hb r hr)
 obtain⟨hN1,hN2⟩:=rnd_bound hL
 have hn1:wsz L≤1000:=by rw[wsz_eq];omega
 have Hlast:Hid (((wsz L/16:Nat)-1:Int)=(rnd L:Nat)):=hid (by rw[wsz_eq];omega)
 clear hL hk hb hR
 go_enter Tryz.func123,Tryz.ntmps123
 go_wp2_with (with_reducible refine wpl_alloc rfl 150 rfl _ z16 ?_)
 refine(words_any A L c HL.out key _ Hk.out hR2).mono ?_
 rintro e w1 ⟨rfl,hbw,hB3⟩
 have hS:St w w1 w.heap.size (wsz L) b (fun _=>0) (words L key):=⟨hb1.below hB3 (by simp;omega),hb2.below hB3 (by simp),by simpa using hbw,hB2.trans (hB3.mono (by simp;omega))⟩
 clear hb1 hb2 hB2 hR2 hbw hB3
 go_wp2_with fail
 refine(last_any _ _ _ hn1 _).mono ?_
 rintro e w' ⟨rfl,rfl⟩
 rw[Hlast.out]
 go_wp2_with (with_reducible refine wpl_load rfl 150 _ rfl _ rfl 150 _ hS.blk 16 5 Tryz.underlying150 (i16' _) ?_)
 refine(rk' b _ (wsz L) (wsz L) 0 0 rfl (words L key) _ Hb.out Hw.out (by omega) (by rw[Hn.out];omega) hS.reads).mono ?_
 rintro e w2 ⟨rfl,hB4⟩
 have hS2:=hS.below hB4
 clear hS hB4
 go_wp2_with (with_reducible refine wpl_store rfl 150 _ _ rfl _ _ rfl rfl 150 _ hS2.blk (i16' _) (by simp[row_size]) (one_b8 _ _) ?_)
 go_loopw [9] (fun i wr=> ∃(k:Nat),k≤rnd L∧i= .int .i64 ((k:Int)+1)∧St w wr w.heap.size (wsz L) (encTo (words L key) (rnd L) b k) (fun _=>0) (words L key)) (fun i _=>rnd L+1-(intOf i).toNat)
 case atStart=>exact⟨0,by omega,rfl,hS2.put _⟩
 case round=>
  clear hS2
  obtain⟨k,hk,rfl,hS⟩:=hrel
  by_cases hlt:k<rnd L
  ·have Hby:=hid (HE.out k (by omega))
   go_wp2_with (with_reducible refine wpl_load rfl 150 _ rfl _ rfl 150 _ hS.blk 16 5 Tryz.underlying150 (i16' _) ?_)
   refine(eachBox _ _ Hby.out).mono ?_
   rintro e w3 ⟨rfl,hB3⟩
   have hS3:=hS.below hB3
   clear hS hB3
   go_wp2_with fail
   refine(rows_any _ _).mono ?_
   rintro e w4 ⟨rfl,hB4⟩
   have hS4:=(hS3.below hB4).put (rows (each Gf.box (encTo (words L key) (rnd L) b k)))
   have hS4':=hS3.below hB4
   clear hS3 hB4
   by_cases hl2:k+1<rnd L
   ·have He:Hid (encTo (words L key) (rnd L) b (k+1)=rk (words L key) (k+1) (mix fE (rows (each Gf.box (encTo (words L key) (rnd L) b k))))):=hid (by show rk _ _ (if k+1<rnd L then _ else _)=_;rw[if_pos hl2])
    go_wp2_with (first
     | (with_reducible refine wpl_store rfl 150 _ _ rfl _ _ rfl rfl 150 _ hS4'.blk (i16' _) (by simp[row_size]) (one_b8 _ _) ?_)
     | (with_reducible refine wpl_load rfl 150 _ rfl _ rfl 150 _ hS4.blk 16 5 Tryz.underlying150 (i16' _) ?_)
     | ((with_reducible refine wpl_build4 rfl 193 _ _ _ _ rfl fE _ _ _ _ rfl rfl rfl rfl ?_ ?_ ?_ ?_ built4 ?_);exact rfl;exact rfl;exact rfl;exact rfl))
    refine(mix_any fE _ _ (rows_by (box_by Hby.out)) fE_lt).mono ?_
    rintro e w5 ⟨rfl,hB5⟩
    have hS5':=hS4.below hB5
    have hS5:=hS5'.put (mix fE (rows (each Gf.box (encTo (words L key) (rnd L) b k))))
    clear hS4 hS4' hB5
    go_wp2_with (first
     | (with_reducible refine wpl_store rfl 150 _ _ rfl _ _ rfl rfl 150 _ hS5'.blk (i16' _) (by simp[row_size]) (one_b8 _ _) ?_)
     | (with_reducible refine wpl_load rfl 150 _ rfl _ rfl 150 _ hS5.blk 16 5 Tryz.underlying150 (i16' _) ?_))
    refine(rk' _ _ (wsz L) (wsz L) _ (k+1) (by omega) (words L key) _ (mix_by _ _ fE_lt) Hw.out (by omega) (by rw[Hn.out];omega) hS5.reads).mono ?_
    rintro e w6 ⟨rfl,hB6⟩
    have hS6:=hS5.below hB6
    clear hS5 hS5' hB6
    go_wp2_with (with_reducible refine wpl_store rfl 150 _ _ rfl _ _ rfl rfl 150 _ hS6.blk (i16' _) (by simp[row_size]) (one_b8 _ _) ?_)
    go_round
    case rel=>exact⟨k+1,by omega,val_int (by omega),by rw[He.out];exact hS6.put _⟩
    case measure=>simp[intOf];omega
   have He:Hid (encTo (words L key) (rnd L) b (k+1)=rk (words L key) (k+1) (rows (each Gf.box (encTo (words L key) (rnd L) b k)))):=hid (by show rk _ _ (if k+1<rnd L then _ else _)=_;rw[if_neg hl2])
   have hl3:(k:Int)+1=(rnd L:Nat):=by omega
   have hl3':decide ((k:Int)+1< (rnd L:Nat))=false:=by simp;omega
   clear hl3
   go_wp2_with (first
    | (with_reducible refine wpl_store rfl 150 _ _ rfl _ _ rfl rfl 150 _ hS4'.blk (i16' _) (by simp[row_size]) (one_b8 _ _) ?_)
    | (with_reducible refine wpl_load rfl 150 _ rfl _ rfl 150 _ hS4.blk 16 5 Tryz.underlying150 (i16' _) ?_))
   refine(rk' _ _ (wsz L) (wsz L) _ (k+1) (by omega) (words L key) _ (rows_by (box_by Hby.out)) Hw.out (by omega) (by rw[Hn.out];omega) hS4.reads).mono ?_
   rintro e w6 ⟨rfl,hB6⟩
   have hS6:=hS4.below hB6
   clear hS4 hS4' hB6
   go_wp2_with (with_reducible refine wpl_store rfl 150 _ _ rfl _ _ rfl rfl 150 _ hS6.blk (i16' _) (by simp[row_size]) (one_b8 _ _) ?_)
   go_round
   case rel=>exact⟨k+1,by omega,val_int (by omega),by rw[He.out];exact hS6.put _⟩
   case measure=>simp[intOf];omega
  have Hkn:Hid (k=rnd L):=hid (by omega)
  go_wp2_with (first
   | (with_reducible refine wpl_load rfl 150 _ rfl _ rfl 150 _ hS.blk 16 5 Tryz.underlying150 (i16' _) ?_)
   | (with_reducible refine wpl_store rfl 150 _ _ rfl _ _ rfl rfl 150 _ hS.res (i16' _) (by simp[row_size]) (one_b8 _ _) ?_))
  exact ret_row_tmp Tryz.results123 rfl (w.heap.size+1) rfl _ rfl 150 16 _ (hS.res.setRow _) 5 Tryz.underlying150 i16 ⟨by rw[Hkn.out];rfl,below_setRow' hS.bel (by omega) _⟩
set_option maxRecDepth 100000 in
set_option maxHeartbeats 4000000 in
theorem dec_any (A:Option Addr) (L c:Nat) (hL:IsKey L) (key b:Nat→Nat) (w:World) (hk: ∀i,i<L→key i<256) (hb:By16 b) (hR:Reads w w.heap.size A L key):
  Calls Tryz.prog 124 #[.slice A L c, .agg (row 16 (b8 b))] w fun e w'=>e= .returned (.tuple #[.agg (row 16 (b8 (dec (words L key) (rnd L) b))), .nilIface])∧Below w.heap.size w w':=by
 have HL:=hid hL
 have Hk:=hid hk
 have Hb:=hid hb
 have hb1:=(Blk.fresh w 150 (row 16 (b8 b))).alloc (.cells (row 16 (b8 fun _=>0)) 150)
 have hb2:=two_new w b (fun _=>0) 16 150
 have hB2:Below w.heap.size w ((w.alloc (.cells (row 16 (b8 b)) 150)).alloc (.cells (row 16 (b8 fun _=>0)) 150)):=((Below.refl _ _).alloc (Nat.le_refl _) _).alloc (by simp) _
 have hR2:=(hR.below hB2).more hB2.size
 have Hn:=hid (wsz_eq L)
 have Hw:=hid (fun i (_:i<wsz L)=>ex_lt L key (more L) hk i)
 have HE:=hid (fun r hr=>decTo_by (ws:=words L key) (N:=rnd L) (n:=wsz L) (fun i _=>ex_lt L key (more L) hk i) (by rw[wsz_eq];omega) hb r hr)
 obtain⟨hN1,hN2⟩:=rnd_bound hL
 have hn1:wsz L≤1000:=by rw[wsz_eq];omega
 have Hlast:Hid (((wsz L/16:Nat)-1:Int)=(rnd L:Nat)):=hid (by rw[wsz_eq];omega)
 clear hL hk hb hR
 go_enter Tryz.func124,Tryz.ntmps124
 go_wp2_with (with_reducible refine wpl_alloc rfl 150 rfl _ z16 ?_)
 refine(words_any A L c HL.out key _ Hk.out hR2).mono ?_
 rintro e w1 ⟨rfl,hbw,hB3⟩
 have hS:St w w1 w.heap.size (wsz L) b (fun _=>0) (words L key):=⟨hb1.below hB3 (by simp;omega),hb2.below hB3 (by simp),by simpa using hbw,hB2.trans (hB3.mono (by simp;omega))⟩
 clear hb1 hb2 hB2 hR2 hbw hB3
 go_wp2_with fail
 refine(last_any _ _ _ hn1 _).mono ?_
 rintro e w' ⟨rfl,rfl⟩
 rw[Hlast.out]
 go_wp2_with fail
 go_loopw [9] (fun i wr=> ∃(j:Nat),j≤rnd L∧i= .int .i64 ((rnd L:Nat)-(j:Int))∧St w wr w.heap.size (wsz L) (decTo (words L key) (rnd L) b j) (fun _=>0) (words L key)) (fun i _=>(intOf i).toNat)
 case atStart=>exact⟨0,by omega,val_int (by omega),hS⟩
 case round=>
  clear hS
  obtain⟨j,hk,rfl,hS⟩:=hrel
  by_cases hlt:j<rnd L
  ·have Hby:=hid (HE.out j (by omega))
   have Hrb:Hid (By16 (rk (words L key) (rnd L-j) (decTo (words L key) (rnd L) b j))):=hid (rk_by Hby.out Hw.out (by rw[Hn.out];omega))
   go_wp2_with (with_reducible refine wpl_load rfl 150 _ rfl _ rfl 150 _ hS.blk 16 5 Tryz.underlying150 (i16' _) ?_)
   refine(rk' _ _ (wsz L) (wsz L) _ (rnd L-j) (by omega) (words L key) _ Hby.out Hw.out (by omega) (by rw[Hn.out];omega) hS.reads).mono ?_
   rintro e w3 ⟨rfl,hB3⟩
   have hS3':=hS.below hB3
   have hS3:=hS3'.put (rk (words L key) (rnd L-j) (decTo (words L key) (rnd L) b j))
   clear hS hB3
   by_cases hl2:0<j
   ·have He:Hid (decTo (words L key) (rnd L) b (j+1)=each Gf.unbox (rowsB (mix fD (rk (words L key) (rnd L-j) (decTo (words L key) (rnd L) b j))))):=hid (by show each _ (rowsB (if rnd L-j<rnd L then _ else _))=_;rw[if_pos (by omega)])
    go_wp2_with (first
     | (with_reducible refine wpl_store rfl 150 _ _ rfl _ _ rfl rfl 150 _ hS3'.blk (i16' _) (by simp[row_size]) (one_b8 _ _) ?_)
     | (with_reducible refine wpl_load rfl 150 _ rfl _ rfl 150 _ hS3.blk 16 5 Tryz.underlying150 (i16' _) ?_)
     | ((with_reducible refine wpl_build4 rfl 193 _ _ _ _ rfl fD _ _ _ _ rfl rfl rfl rfl ?_ ?_ ?_ ?_ built4 ?_);exact rfl;exact rfl;exact rfl;exact rfl))
    refine(mix_any fD _ _ Hrb.out fD_lt).mono ?_
    rintro e w5 ⟨rfl,hB5⟩
    have hS5':=hS3.below hB5
    have hS5:=hS5'.put (mix fD (rk (words L key) (rnd L-j) (decTo (words L key) (rnd L) b j)))
    clear hS3 hS3' hB5
    go_wp2_with (first
     | (with_reducible refine wpl_store rfl 150 _ _ rfl _ _ rfl rfl 150 _ hS5'.blk (i16' _) (by simp[row_size]) (one_b8 _ _) ?_)
     | (with_reducible refine wpl_load rfl 150 _ rfl _ rfl 150 _ hS5.blk 16 5 Tryz.underlying150 (i16' _) ?_))
    refine(rowsB_any _ _).mono ?_
    rintro e w6 ⟨rfl,hB6⟩
    have hS6:=hS5.below hB6
    clear hS5 hS5' hB6
    go_wp2_with fail
    refine(eachUnbox _ _ (rowsB_by (mix_by _ _ fD_lt))).mono ?_
    rintro e w7 ⟨rfl,hB7⟩
    have hS7:=hS6.below hB7
    clear hS6 hB7
    go_wp2_with (with_reducible refine wpl_store rfl 150 _ _ rfl _ _ rfl rfl 150 _ hS7.blk (i16' _) (by simp[row_size]) (one_b8 _ _) ?_)
    go_round
    case rel=>exact⟨j+1,by omega,val_int (by omega),by rw[He.out];exact hS7.put _⟩
    case measure=>simp[intOf];omega
   obtain rfl:j=0:=by omega
   have He:Hid (decTo (words L key) (rnd L) b (0+1)=each Gf.unbox (rowsB (rk (words L key) (rnd L-0) (decTo (words L key) (rnd L) b 0)))):=hid (by show each _ (rowsB (if rnd L-0<rnd L then _ else _))=_;rw[if_neg (by omega)])
   go_wp2_with (first
    | (with_reducible refine wpl_store rfl 150 _ _ rfl _ _ rfl rfl 150 _ hS3'.blk (i16' _) (by simp[row_size]) (one_b8 _ _) ?_)
    | (with_reducible refine wpl_load rfl 150 _ rfl _ rfl 150 _ hS3.blk 16 5 Tryz.underlying150 (i16' _) ?_))
   refine(rowsB_any _ _).mono ?_
   rintro e w6 ⟨rfl,hB6⟩
   have hS6:=hS3.below hB6
   clear hS3 hS3' hB6
   go_wp2_with fail
   refine(eachUnbox _ _ (rowsB_by Hrb.out)).mono ?_
   rintro e w7 ⟨rfl,hB7⟩
   have hS7:=hS6.below hB7
   clear hS6 hB7
   go_wp2_with (with_reducible refine wpl_store rfl 150 _ _ rfl _ _ rfl rfl 150 _ hS7.blk (i16' _) (by simp[row_size]) (one_b8 _ _) ?_)
   go_round
   case rel=>exact⟨0+1,by omega,val_int (by omega),by rw[He.out];exact hS7.put _⟩
   case measure=>simp[intOf];omega
  have Hkn:Hid (j=rnd L):=hid (by omega)
  have Hby:=hid (HE.out j (by omega))
  go_wp2_with (with_reducible refine wpl_load rfl 150 _ rfl _ rfl 150 _ hS.blk 16 5 Tryz.underlying150 (i16' _) ?_)
  refine(rk' _ _ (wsz L) (wsz L) 0 0 rfl (words L key) _ Hby.out Hw.out (by omega) (by rw[Hn.out];omega) hS.reads).mono ?_
  rintro e w3 ⟨rfl,hB3⟩
  have hS3:=hS.below hB3
  clear hS hB3
  go_wp2_with (with_reducible refine wpl_store rfl 150 _ _ rfl _ _ rfl rfl 150 _ hS3.res (i16' _) (by simp[row_size]) (one_b8 _ _) ?_)
  exact ret_row_tmp Tryz.results124 rfl (w.heap.size+1) rfl _ rfl 150 16 _ (hS3.res.setRow _) 5 Tryz.underlying150 i16 ⟨by rw[Hkn.out];rfl,below_setRow' hS3.bel (by omega) _⟩
end Go.Proofs.YtlmacfmfmjhidaaGreatDoor.Aes
namespace Go.Proofs.YtlmacfmfmjhidaaGreatDoor.Aes
open Go.ChangeShapes Go.WideShapes Go.ChangeAt Go.RowKit Mem
theorem decTo_ext {ws:Nat→Nat}{N:Nat}{b b':Nat→Nat} (hb:Eq16 b b') (j:Nat):Eq16 (decTo ws N b j) (decTo ws N b' j):=by
 induction j with
 | zero=>exact hb
 | succ j ih=>
  refine each_ext Gf.unbox (rowsB_ext ?_)
  by_cases h:N-j<N
  ·rw[if_pos h,if_pos h];exact mix_ext fD (rk_ext ws _ ih)
  rw[if_neg h,if_neg h];exact rk_ext ws _ ih
theorem dec_ext {ws:Nat→Nat}{N:Nat}{b b':Nat→Nat} (hb:Eq16 b b'):Eq16 (dec ws N b) (dec ws N b'):=rk_ext ws 0 (decTo_ext hb N)
end Go.Proofs.YtlmacfmfmjhidaaGreatDoor.Aes
