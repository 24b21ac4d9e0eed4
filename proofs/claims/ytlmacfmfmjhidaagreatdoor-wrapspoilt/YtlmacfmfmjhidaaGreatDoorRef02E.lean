/-
 What lockboxref02.Encrypt returns: a contract over the loaded program.
-/
import Derived.Test.YtlmacfmfmjhidaaGreatDoorRef02W
import Derived.Test.YtlmacfmfmjhidaaGreatDoorRef02L
namespace Go.Proofs.YtlmacfmfmjhidaaGreatDoor.Aes
open Go.ChangeShapes Go.WideShapes Go.ChangeAt Go.RowKit Mem
theorem rmul2 (b:Nat) (hb:b<256) (w:World):Calls Tryz.prog 119 #[.int .u8 2, .int .u8 (b:Int)] w fun e w'=>e= .returned (.int .u8 (Gf.mul 2 b:Nat))∧w=w':=rmul 2 b (by omega) hb w
theorem rmul3 (b:Nat) (hb:b<256) (w:World):Calls Tryz.prog 119 #[.int .u8 3, .int .u8 (b:Int)] w fun e w'=>e= .returned (.int .u8 (Gf.mul 3 b:Nat))∧w=w':=rmul 3 b (by omega) hb w
set_option maxRecDepth 100000 in
set_option maxHeartbeats 8000000 in
theorem renc_any (A:Option Addr) (L c:Nat) (hL:IsKey L) (key b:Nat→Nat) (w:World) (hk: ∀i,i<L→key i<256) (hb:By16 b) (hR:Reads w w.heap.size A L key):
  Calls Tryz.prog 95 #[.slice A L c, .agg (row 16 (b8 b))] w fun e w'=>e= .returned (.agg (row 16 (b8 (enc (words L key) (rnd L) b))))∧Below w.heap.size w w':=by
 have HL:=hid hL
 have Hk:=hid hk
 have Hb:=hid hb
 have hb1:=(Blk.fresh w 150 (row 16 (b8 b))).alloc (.cells (row 16 (b8 fun _=>0)) 150)
 have hb2:=two_new w b (fun _=>0) 16 150
 have hB2:Below w.heap.size w ((w.alloc (.cells (row 16 (b8 b)) 150)).alloc (.cells (row 16 (b8 fun _=>0)) 150)):=((Below.refl _ _).alloc (Nat.le_refl _) _).alloc (by simp) _
 have hR2:=(hR.below hB2).more hB2.size
 obtain⟨hN1,hN2⟩:=rnd_bound hL
 have Hws:=hid (fun i=>ex_lt L key (more L) hk i)
 have Hlast:Hid (wrap64 (wrap64 ((L:Int)/4)+6)=((rnd L:Nat):Int)):=hid (by rcases hL with rfl | rfl | rfl<;>simp[wrap64,rnd])
 have hn0:wsz L=16*rnd L+16:=wsz_eq L
 have HE:=hid (fun r hr=>encTo_by (ws:=words L key) (N:=rnd L) (n:=wsz L) (fun i _=>ex_lt L key (more L) hk i) (by rw[wsz_eq];omega) hb r hr)
 have Hn0:=hid hn0
 clear hL hk hb hR hn0
 go_enter Tryz.func95,Tryz.ntmps95
 go_wp2_with (with_reducible refine wpl_alloc rfl 150 rfl _ z16 ?_)
 refine(rwords_any A L c HL.out key _ Hk.out hR2).mono ?_
 rintro e w1 ⟨Aw,cw,rfl,hcw,hRw,hB3⟩
 obtain⟨aw,rfl,haw,hcell⟩:=hRw (by rw[Hn0.out];omega)
 have hbw:=hb1.below hB3 hb1.lt
 have hne:=reads_apart hRw (by rw[Hn0.out];omega) hbw
 have hrw:=hb2.below hB3 hb2.lt
 have hB4:=hB2.trans (hB3.mono hB2.size)
 have HC:=hid hcell
 clear hcell hRw hb1 hb2 hB2 hR2 hB3
 go_wp2_with fail
 refine(boxes_any _).mono ?_
 rintro e w2 ⟨rfl,hB5⟩
 have hE0:ES w (w2.alloc (.cells (row 256 (b8 Gf.box)) 169)) w.heap.size w2.heap.size aw (wsz L) (words L key) b:=by
  have h1:=hbw.below hB5 hbw.lt
  have h2:=hrw.below hB5 hrw.lt
  have h3:=hB4.trans (hB5.mono hB4.size)
  refine⟨h1.alloc _,h2.alloc _,Blk.fresh _ _ _,fun i hi=>?_,⟨hne,h2.lt,?_⟩,h3.alloc h3.size _⟩
  ·have:=(hB5.cell (p:=aw.add i) (by rw[add_block];exact haw)).trans (HC.out i hi)
   exact(((Below.refl _ w2).alloc (Nat.le_refl _) (.cells (row 256 (b8 Gf.box)) 169)).cell (by rw[add_block];exact Nat.lt_of_lt_of_le haw hB5.size)).trans this
  have:=hB5.size;simp;omega
 clear hbw hrw hB4 hB5 hne
 go_wp2_with (first
  | (with_reducible refine wpl_alloc rfl 169 rfl _ z256 ?_)
  | (with_reducible refine wpl_store_new rfl 169 _ _ rfl _ _ 256 _ rfl rfl 169 i256 (row_size _ _) ?_))
 rw[Hlast.out]
 have hgB:w.heap.size+1<w2.heap.size:=hE0.2.2.2.2.1.2.1
 generalize w2.alloc (.cells (row 256 (b8 Gf.box)) 169)=w3 at*
 generalize w2.heap.size=gB at*
 obtain⟨n,Hn⟩: ∃n,Hid (wsz L=n):=⟨_,hid rfl⟩
 have Hnn:Hid (n=16*rnd L+16):=hid (by rw[← Hn.out,Hn0.out])
 obtain⟨ws,Hw⟩: ∃ws,Hid (words L key=ws):=⟨_,hid rfl⟩
 have Hws2:Hid (∀i,ws i<256):=hid (fun i=>by rw[← Hw.out];exact Hws.out i)
 have HE2:Hid (∀r,r≤rnd L→By16 (encTo ws (rnd L) b r)):=hid (fun r hr=>by rw[← Hw.out];exact HE.out r hr)
 rw[Hn.out]
 rw[Hn.out,Hw.out] at hE0
 have Hws:=Hws2
 have HE:=HE2
 clear Hws2 HE2 HC
 obtain⟨N,HN⟩: ∃N,Hid (rnd L=N):=⟨_,hid rfl⟩
 rw[HN.out]
 rw[HN.out] at hN1 hN2 Hnn HE
 have Hres:Hid (∀i,enc (words L key) (rnd L) b i=encTo ws N b N i):=hid (fun i=>by rw[Hw.out,HN.out];rfl)
 go_loopw [8] (fun vi wr=> ∃(q:Nat) (m:Nat→Nat),q≤16∧vi= .int .i64 q∧Hid (∀j,m j=if j<q then rk ws 0 b j else b j)∧ES w wr w.heap.size gB aw n ws m) (fun vi _=>16-(intOf vi).toNat)
 case atStart=>exact⟨0,b,by omega,rfl,hid (by simp),hE0⟩
 case round=>
  clear hE0
  obtain⟨q,m,hq,rfl,HM,hE⟩:=hrel
  rename World=>w7
  by_cases hlt7:q<16
  ·have Hmq:Hid (m q=b q):=hid (by rw[HM.out,if_neg (by omega)])
   have hmb:m q<256:=by rw[Hmq.out];exact Hb.out q hlt7
   have hwi:q<n:=by have:=Hnn.out;omega
   have hwl:=Hws.out q
   go_wp2_with fail
   refine wp_region_still_tail 10 (by kernel_rfl) (by kernel_rfl) ?_
   simp only[List.take_succ_cons,List.take_zero,List.drop_succ_cons,List.drop_zero]
   change wpStill _ _ w7.drew (fun a'=>wpList _ _ _ _ a' w7.drew) _ _
   have hE':=hE.drew
   clear hE
   generalize w7.drew=w8 at*
   have hd1:=hE'.blk.val q hlt7
   have hd2:=hE'.word _ hwi
   repeat (first
    | (with_reducible refine wps_at rfl 150 _ _ rfl _ rfl .i64 _ rfl q rfl 16 5 Tryz.underlying150 hlt7 i8 ?_)
    | (with_reducible refine wps_slw rfl 22 _ _ rfl aw n cw rfl .i64 _ rfl q rfl 5 Tryz.underlying22 hwi i8 ?_)
    | (with_reducible refine wps_ld rfl 5 _ rfl _ rfl .u8 Tryz.underlying5 _ hd1 ?_)
    | (with_reducible refine wps_ld rfl 5 _ rfl _ rfl .u8 Tryz.underlying5 _ hd2 ?_)
    | still_step)
   refine wpStill_nil ?_
   clear hd1 hd2
   go_wp2_with (with_reducible refine wpl_st rfl 5 _ _ rfl _ rfl .u8 _ rfl i8 _ (hE'.blk.val q hlt7) (hE'.blk.free q) ?_)
   go_round
   case rel=>
    rw[u8_xor_nat _ _ hmb hwl,show m q ^^^ ws q=rk ws 0 b q by unfold rk;rw[Hmq.out,Nat.mul_zero,Nat.zero_add]]
    exact⟨q+1,upd m q (rk ws 0 b q),by omega,val_int (by omega),hid (fill_step (F:=rk ws 0 b) HM.out),hE'.put q _⟩
   case measure=>simp[intOf];omega
  have hEe:ES w w7 w.heap.size gB aw n ws (rk ws 0 b):=hE.same (fill_end HM.out (by omega))
  clear hE HM
  go_wp2_with fail
  go_loopw [9] (fun vi wr=> ∃(k:Nat),k≤N∧vi= .int .i64 ((k:Int)+1)∧ES w wr w.heap.size gB aw n ws (encTo ws N b k)) (fun vi _=>N+1-(intOf vi).toNat)
  case atStart=>exact⟨0,by omega,rfl,hEe⟩
  case round=>
   clear hEe
   obtain⟨k,hkN,rfl,hE⟩:=hrel
   rename World=>w4
   by_cases hlt2:k<N
   ·go_wp2_with (with_reducible refine wpl_alloc rfl 150 rfl _ z16 ?_)
    have hgb:gB<w4.heap.size:=hE.box.lt
    have hga:aw.block<w4.heap.size:=hE.2.2.2.2.1.2.2
    have hE1:=hE.alloc (.cells (row 16 (b8 fun _=>0)) 150)
    have hz1:=Blk.fresh w4 150 (row 16 (b8 fun _=>0))
    clear hE
    generalize w4.alloc (.cells (row 16 (b8 fun _=>0)) 150)=w5 at*
    generalize w4.heap.size=gs at*
    obtain⟨x,Hx⟩: ∃x,Hid (encTo ws N b k=x):=⟨_,hid rfl⟩
    rw[Hx.out] at hE1
    have Hxb:Hid (By16 x):=hid (by rw[← Hx.out];exact HE.out k hkN)
    obtain⟨F,HF⟩: ∃F,Hid (rows (each Gf.box x)=F):=⟨_,hid rfl⟩
    have HFb:Hid (By16 F):=hid (fun i hi=>by rw[← HF.out];exact box_lt' _ (Hxb.out _ (by unfold src;omega)))
    go_loopw [11] (fun vi wr=> ∃(q:Nat) (m:Nat→Nat),q≤4∧vi= .int .i64 q∧Hid (∀j,m j=if j<4*q then F j else 0)∧ES w wr w.heap.size gB aw n ws x∧Blk wr gs 150 (row 16 (b8 m))) (fun vi _=>4-(intOf vi).toNat)
    case atStart=>exact⟨0,fun _=>0,by omega,rfl,hid (by simp),hE1,hz1⟩
    case round=>
     clear hE1 hz1
     obtain⟨q,m,hq,rfl,HM,hE,hz⟩:=hrel
     rename World=>w6
     by_cases hlt3:q<4
     ·go_wp2_with fail
      generalize Value.bool (decide ((q:Int)<4))=vb at*
      go_loopw [12] (fun vi wr=> ∃(t:Nat) (m:Nat→Nat),t≤4∧vi= .int .i64 t∧Hid (∀j,m j=if j<4*q+t then F j else 0)∧ES w wr w.heap.size gB aw n ws x∧Blk wr gs 150 (row 16 (b8 m))) (fun vi _=>4-(intOf vi).toNat)
      case atStart=>exact⟨0,m,by omega,rfl,hid (by simpa using HM.out),hE,hz⟩
      case round=>
       clear hE hz HM
       clear m
       obtain⟨t,m,ht,rfl,HM,hE,hz⟩:=hrel
       rename World=>w7
       by_cases hlt4:t<4
       ·have hi:4*((q+t)%4)+t<16:=by omega
        have hj:4*q+t<16:=by omega
        have hxi:=Hxb.out _ hi
        have hd1:=hE.blk.val _ hi
        have hd2:=hE.box.val _ hxi
        have HFv:Hid (Gf.box (x (4*((q+t)%4)+t))=F (4*q+t)):=hid (by rw[← HF.out,src_at q t hlt4];rfl)
        have x1:=wrap_i64 (4*(q:Int)) _ rfl (by omega) (by omega)
        have x2:=wrap_i64 (4*(q:Int)+(t:Int)) _ rfl (by omega) (by omega)
        have x3:=wrap_i64 ((q:Int)+(t:Int)) _ rfl (by omega) (by omega)
        have x4:((q:Int)+(t:Int)).tmod 4=((q:Int)+(t:Int))%4:=Int.tmod_eq_emod_of_nonneg (by omega)
        have x5:=wrap_i64 (4*(((q:Int)+(t:Int))%4)) _ rfl (by omega) (by omega)
        have x6:=wrap_i64 (4*(((q:Int)+(t:Int))%4)+(t:Int)) _ rfl (by omega) (by omega)
        go_wp2_with (first
         | (with_reducible refine wpl_at rfl 150 _ _ rfl _ rfl .i64 _ rfl (4*((q+t)%4)+t) (by omega) 16 5 Tryz.underlying150 hi i8 ?_)
         | (with_reducible refine wpl_at rfl 150 _ _ rfl _ rfl .i64 _ rfl (4*q+t) (by omega) 16 5 Tryz.underlying150 hj i8 ?_)
         | (with_reducible refine wpl_at rfl 169 _ _ rfl _ rfl .u8 _ rfl (x (4*((q+t)%4)+t)) rfl 256 5 Tryz.underlying169 hxi i8 ?_)
         | (with_reducible refine wpl_ld rfl 5 _ rfl _ rfl .u8 Tryz.underlying5 _ hd1 ?_)
         | (with_reducible refine wpl_ld rfl 5 _ rfl _ rfl .u8 Tryz.underlying5 _ hd2 ?_)
         | (with_reducible refine wpl_st rfl 5 _ _ rfl _ rfl .u8 _ rfl i8 _ (hz.val _ hj) (hz.free _) ?_))
        go_round
        case rel=>
         rw[HFv.out]
         exact⟨t+1,upd m (4*q+t) (F (4*q+t)),by omega,val_int (by omega),hid (by rw[← Nat.add_assoc];exact fill_step HM.out),hE.off gs _ _ (by omega) (by omega) (by omega),hz.put _ _⟩
        case measure=>simp[intOf];omega
       obtain rfl:t=4:=by omega
       go_wp2_with fail
       go_round
       case rel=>exact⟨q+1,m,by omega,val_int (by omega),hid (by rw[Nat.mul_add];exact HM.out),hE,hz⟩
       case measure=>simp[intOf];omega
     have hz5:Blk w6 gs 150 (row 16 (b8 F)):=by rw[← row_b8_ext (fill_end HM.out (n:=16) (by omega))];exact hz
     have hE5:=hE
     clear hE hz HM
     by_cases hlast:k+1<N
     ·have hlastI:(k:Int)+1< (N:Int):=by omega
      have Hstep:Hid (encTo ws N b (k+1)=rk ws (k+1) (mix fE F)):=hid (by rw[encTo,if_pos hlast,Hx.out,HF.out])
      go_wp2_with (first
       | (with_reducible refine wpl_load rfl 150 _ rfl _ rfl 150 _ hz5 16 5 Tryz.underlying150 (i16' _) ?_)
       | (with_reducible refine wpl_alloc rfl 150 rfl _ z16 ?_)
       | (with_reducible refine wpl_store_new rfl 150 _ _ rfl _ _ 16 _ rfl rfl 150 i16 (row_size _ _) ?_))
      have hgt:gs<w6.heap.size:=hz5.lt
      have hE7:=hE5.alloc (.cells (row 16 (b8 F)) 150)
      have hz7:=hz5.alloc (.cells (row 16 (b8 F)) 150)
      have hy7:=Blk.fresh w6 150 (row 16 (b8 F))
      clear hE5 hz5
      generalize w6.alloc (.cells (row 16 (b8 F)) 150)=w9 at*
      generalize w6.heap.size=gt at*
      go_loopw [14] (fun vi wr=> ∃(q:Nat) (m:Nat→Nat),q≤4∧vi= .int .i64 q∧Hid (∀j,m j=if j<4*q then mix fE F j else F j)∧ES w wr w.heap.size gB aw n ws x∧Blk wr gs 150 (row 16 (b8 m))∧Blk wr gt 150 (row 16 (b8 F))) (fun vi _=>4-(intOf vi).toNat)
      case atStart=>exact⟨0,F,by omega,rfl,hid (by simp),hE7,hz7,hy7⟩
      case round=>
       clear hE7 hz7 hy7
       obtain⟨q,m,hq5,rfl,HM,hE,hz,hy⟩:=hrel
       rename World=>w10
       by_cases hlt5:q<4
       ·go_wp2_with fail
        generalize Value.bool (decide ((q:Int)<4))=vb at*
        go_loopw [15] (fun vi wr=> ∃(t:Nat) (m:Nat→Nat),t≤4∧vi= .int .i64 t∧Hid (∀j,m j=if j<4*q+t then mix fE F j else F j)∧ES w wr w.heap.size gB aw n ws x∧Blk wr gs 150 (row 16 (b8 m))∧Blk wr gt 150 (row 16 (b8 F))) (fun vi _=>4-(intOf vi).toNat)
        case atStart=>exact⟨0,m,by omega,rfl,hid (by simpa using HM.out),hE,hz,hy⟩
        case round=>
         clear hE hz hy HM
         clear m
         obtain⟨t,m,ht,rfl,HM,hE,hz,hy⟩:=hrel
         rename World=>w11
         by_cases hlt6:t<4
         ·have hi0:4*q+t<16:=by omega
          have hi1:4*q+(t+1)%4<16:=by omega
          have hi2:4*q+(t+2)%4<16:=by omega
          have hi3:4*q+(t+3)%4<16:=by omega
          have hd0:=hy.val _ hi0
          have hd1:=hy.val _ hi1
          have hd2:=hy.val _ hi2
          have hd3:=hy.val _ hi3
          have hl0:=HFb.out _ hi0
          have hl1:=HFb.out _ hi1
          have hl2:=HFb.out _ hi2
          have hl3:=HFb.out _ hi3
          have HMx:=hid (mixE_at F HFb.out q t hlt5 hlt6)
          generalize F (4*q+t)=f0 at*
          generalize F (4*q+(t+1)%4)=f1 at*
          generalize F (4*q+(t+2)%4)=f2 at*
          generalize F (4*q+(t+3)%4)=f3 at*
          have x1:=wrap_i64 (4*(q:Int)) _ rfl (by omega) (by omega)
          have x2:=wrap_i64 (4*(q:Int)+(t:Int)) _ rfl (by omega) (by omega)
          have xa1:=wrap_i64 ((t:Int)+1) _ rfl (by omega) (by omega)
          have xb1:((t:Int)+1).tmod 4=((t:Int)+1)%4:=Int.tmod_eq_emod_of_nonneg (by omega)
          have xc1:=wrap_i64 (4*(q:Int)+((t:Int)+1)%4) _ rfl (by omega) (by omega)
          have xa2:=wrap_i64 ((t:Int)+2) _ rfl (by omega) (by omega)
          have xb2:((t:Int)+2).tmod 4=((t:Int)+2)%4:=Int.tmod_eq_emod_of_nonneg (by omega)
          have xc2:=wrap_i64 (4*(q:Int)+((t:Int)+2)%4) _ rfl (by omega) (by omega)
          have xa3:=wrap_i64 ((t:Int)+3) _ rfl (by omega) (by omega)
          have xb3:((t:Int)+3).tmod 4=((t:Int)+3)%4:=Int.tmod_eq_emod_of_nonneg (by omega)
          have xc3:=wrap_i64 (4*(q:Int)+((t:Int)+3)%4) _ rfl (by omega) (by omega)
          go_wp2_with (first
           | (with_reducible refine wpl_at rfl 150 _ _ rfl _ rfl .i64 _ rfl (4*q+t) (by omega) 16 5 Tryz.underlying150 hi0 i8 ?_)
           | (with_reducible refine wpl_at rfl 150 _ _ rfl _ rfl .i64 _ rfl (4*q+(t+1)%4) (by omega) 16 5 Tryz.underlying150 hi1 i8 ?_)
           | (with_reducible refine wpl_at rfl 150 _ _ rfl _ rfl .i64 _ rfl (4*q+(t+2)%4) (by omega) 16 5 Tryz.underlying150 hi2 i8 ?_)
           | (with_reducible refine wpl_at rfl 150 _ _ rfl _ rfl .i64 _ rfl (4*q+(t+3)%4) (by omega) 16 5 Tryz.underlying150 hi3 i8 ?_)
           | (with_reducible refine wpl_ld rfl 5 _ rfl _ rfl .u8 Tryz.underlying5 _ hd0 ?_)
           | (with_reducible refine wpl_ld rfl 5 _ rfl _ rfl .u8 Tryz.underlying5 _ hd1 ?_)
           | (with_reducible refine wpl_ld rfl 5 _ rfl _ rfl .u8 Tryz.underlying5 _ hd2 ?_)
           | (with_reducible refine wpl_ld rfl 5 _ rfl _ rfl .u8 Tryz.underlying5 _ hd3 ?_)
           | (with_reducible refine wpl_st rfl 5 _ _ rfl _ rfl .u8 _ rfl i8 _ (hz.val _ hi0) (hz.free _) ?_)
           | (go_at_call 119; (with_reducible refine(rmul2 f0 hl0 _).mono ?_);rintro e w' ⟨rfl,rfl⟩)
           | (go_at_call 119; (with_reducible refine(rmul3 f1 hl1 _).mono ?_);rintro e w' ⟨rfl,rfl⟩))
          rw[u8_xor_nat _ _ (Gf.mul_lt 2 f0 (by omega)) (Gf.mul_lt 3 f1 (by omega)),u8_xor_nat _ _ (xl (Gf.mul_lt 2 f0 (by omega)) (Gf.mul_lt 3 f1 (by omega))) hl2,u8_xor_nat _ _ (xl (xl (Gf.mul_lt 2 f0 (by omega)) (Gf.mul_lt 3 f1 (by omega))) hl2) hl3,HMx.out]
          exact⟨⟨t+1,upd m (4*q+t) (mix fE F (4*q+t)),by omega,val_int (by omega),hid (by rw[← Nat.add_assoc];exact fill_step HM.out),hE.off gs _ _ (by omega) (by omega) (by omega),hz.put _ _,hy.other _ _ (by simp;omega)⟩,by simp[intOf];omega⟩
         obtain rfl:t=4:=by omega
         go_wp2_with fail
         go_round
         case rel=>exact⟨q+1,m,by omega,val_int (by omega),hid (by rw[Nat.mul_add];exact HM.out),hE,hz,hy⟩
         case measure=>simp[intOf];omega
       have hz5:Blk w10 gs 150 (row 16 (b8 (mix fE F))):=by rw[← row_b8_ext (fill_end HM.out (n:=16) (by omega))];exact hz
       have hE5:=hE
       clear hE hz HM hy
       go_wp2_with fail
       obtain⟨z,HZ⟩: ∃z,Hid (mix fE F=z):=⟨_,hid rfl⟩
       have HZby:By16 z:=by rw[← HZ.out];exact mix_by fE F fE_lt
       rw[HZ.out] at Hstep hz5
       have hE6:=hE5
       have hz6:=hz5
       clear hE5 hz5
       have HZb:Hid (By16 z):=hid (HZby)
       go_loopw [17] (fun vi wr=> ∃(q:Nat) (m:Nat→Nat),q≤16∧vi= .int .i64 q∧Hid (∀j,m j=if j<q then rk ws (k+1) z j else x j)∧ES w wr w.heap.size gB aw n ws m∧Blk wr gs 150 (row 16 (b8 z))) (fun vi _=>16-(intOf vi).toNat)
       case atStart=>exact⟨0,x,by omega,rfl,hid (by simp),hE6,hz6⟩
       case round=>
        clear hE6 hz6
        obtain⟨q,m,hq,rfl,HM,hE,hz⟩:=hrel
        rename World=>w7
        by_cases hlt7:q<16
        ·have hzq:=HZb.out q hlt7
         have hwi:16*(k+1)+q<n:=by have:=Hnn.out;omega
         have hwl:=Hws.out (16*(k+1)+q)
         go_wp2_with fail
         refine wp_region_still_tail 13 (by kernel_rfl) (by kernel_rfl) ?_
         simp only[List.take_succ_cons,List.take_zero,List.drop_succ_cons,List.drop_zero]
         change wpStill _ _ w7.drew (fun a'=>wpList _ _ _ _ a' w7.drew) _ _
         have hE':=hE.drew
         have hz':Blk w7.drew gs 150 (row 16 (b8 z)):=hz
         clear hE hz
         generalize w7.drew=w8 at*
         have hd1:=hz'.val q hlt7
         have hd2:=hE'.word _ hwi
         have x1:=wrap_i64 (16*((k:Int)+1)) _ rfl (by omega) (by omega)
         have x2:=wrap_i64 (16*((k:Int)+1)+(q:Int)) _ rfl (by omega) (by omega)
         repeat (first
          | (with_reducible refine wps_at rfl 150 _ _ rfl _ rfl .i64 _ rfl q rfl 16 5 Tryz.underlying150 hlt7 i8 ?_)
          | (with_reducible refine wps_slw rfl 22 _ _ rfl aw n cw rfl .i64 _ rfl (16*(k+1)+q) (by omega) 5 Tryz.underlying22 hwi i8 ?_)
          | (with_reducible refine wps_ld rfl 5 _ rfl _ rfl .u8 Tryz.underlying5 _ hd1 ?_)
          | (with_reducible refine wps_ld rfl 5 _ rfl _ rfl .u8 Tryz.underlying5 _ hd2 ?_)
          | still_step)
         refine wpStill_nil ?_
         clear x1 x2 hd1 hd2
         go_wp2_with (with_reducible refine wpl_st rfl 5 _ _ rfl _ rfl .u8 _ rfl i8 _ (hE'.blk.val q hlt7) (hE'.blk.free q) ?_)
         go_round
         case rel=>
          rw[u8_xor_nat _ _ hzq hwl]
          exact⟨q+1,upd m q (rk ws (k+1) z q),by omega,val_int (by omega),hid (fill_step (F:=rk ws (k+1) z) HM.out),hE'.put q _,hz'.other _ _ (by simp;omega)⟩
         case measure=>simp[intOf];omega
        have hEe:ES w w7 w.heap.size gB aw n ws (rk ws (k+1) z):=hE.same (fill_end HM.out (by omega))
        go_wp2_with fail
        exact⟨⟨k+1,by omega,val_int (by omega),by rw[Hstep.out];exact hEe⟩,by simp[intOf];omega⟩
     have Hstep:Hid (encTo ws N b (k+1)=rk ws (k+1) F):=hid (by rw[encTo,if_neg hlast,Hx.out,HF.out])
     go_wp2_with fail
     obtain⟨z,HZ⟩: ∃z,Hid (F=z):=⟨_,hid rfl⟩
     have HZby:By16 z:=by rw[← HZ.out];exact HFb.out
     rw[HZ.out] at Hstep hz5
     have hE6:=hE5
     have hz6:=hz5
     clear hE5 hz5
     have HZb:Hid (By16 z):=hid (HZby)
     go_loopw [17] (fun vi wr=> ∃(q:Nat) (m:Nat→Nat),q≤16∧vi= .int .i64 q∧Hid (∀j,m j=if j<q then rk ws (k+1) z j else x j)∧ES w wr w.heap.size gB aw n ws m∧Blk wr gs 150 (row 16 (b8 z))) (fun vi _=>16-(intOf vi).toNat)
     case atStart=>exact⟨0,x,by omega,rfl,hid (by simp),hE6,hz6⟩
     case round=>
      clear hE6 hz6
      obtain⟨q,m,hq,rfl,HM,hE,hz⟩:=hrel
      rename World=>w7
      by_cases hlt7:q<16
      ·have hzq:=HZb.out q hlt7
       have hwi:16*(k+1)+q<n:=by have:=Hnn.out;omega
       have hwl:=Hws.out (16*(k+1)+q)
       go_wp2_with fail
       refine wp_region_still_tail 13 (by kernel_rfl) (by kernel_rfl) ?_
       simp only[List.take_succ_cons,List.take_zero,List.drop_succ_cons,List.drop_zero]
       change wpStill _ _ w7.drew (fun a'=>wpList _ _ _ _ a' w7.drew) _ _
       have hE':=hE.drew
       have hz':Blk w7.drew gs 150 (row 16 (b8 z)):=hz
       clear hE hz
       generalize w7.drew=w8 at*
       have hd1:=hz'.val q hlt7
       have hd2:=hE'.word _ hwi
       have x1:=wrap_i64 (16*((k:Int)+1)) _ rfl (by omega) (by omega)
       have x2:=wrap_i64 (16*((k:Int)+1)+(q:Int)) _ rfl (by omega) (by omega)
       repeat (first
        | (with_reducible refine wps_at rfl 150 _ _ rfl _ rfl .i64 _ rfl q rfl 16 5 Tryz.underlying150 hlt7 i8 ?_)
        | (with_reducible refine wps_slw rfl 22 _ _ rfl aw n cw rfl .i64 _ rfl (16*(k+1)+q) (by omega) 5 Tryz.underlying22 hwi i8 ?_)
        | (with_reducible refine wps_ld rfl 5 _ rfl _ rfl .u8 Tryz.underlying5 _ hd1 ?_)
        | (with_reducible refine wps_ld rfl 5 _ rfl _ rfl .u8 Tryz.underlying5 _ hd2 ?_)
        | still_step)
       refine wpStill_nil ?_
       clear x1 x2 hd1 hd2
       go_wp2_with (with_reducible refine wpl_st rfl 5 _ _ rfl _ rfl .u8 _ rfl i8 _ (hE'.blk.val q hlt7) (hE'.blk.free q) ?_)
       go_round
       case rel=>
        rw[u8_xor_nat _ _ hzq hwl]
        exact⟨q+1,upd m q (rk ws (k+1) z q),by omega,val_int (by omega),hid (fill_step (F:=rk ws (k+1) z) HM.out),hE'.put q _,hz'.other _ _ (by simp;omega)⟩
       case measure=>simp[intOf];omega
      have hEe:ES w w7 w.heap.size gB aw n ws (rk ws (k+1) z):=hE.same (fill_end HM.out (by omega))
      go_wp2_with fail
      exact⟨⟨k+1,by omega,val_int (by omega),by rw[Hstep.out];exact hEe⟩,by simp[intOf];omega⟩
   obtain rfl:k=N:=by omega
   go_wp2_with (first
    | (with_reducible refine wpl_load rfl 150 _ rfl _ rfl 150 _ hE.blk 16 5 Tryz.underlying150 (i16' _) ?_)
    | (with_reducible refine wpl_store rfl 150 _ _ rfl _ _ rfl rfl 150 _ hE.res (i16' _) (by simp[row_size]) (one_b8 _ _) ?_))
   exact ret_row Tryz.results95 rfl (w.heap.size+1) rfl 150 16 _ (hE.res.setRow _) 5 Tryz.underlying150 i16 ⟨ret_agg (fun i _=>(Hres.out i).symm),below_setRow' hE.bel (by omega) _⟩
end Go.Proofs.YtlmacfmfmjhidaaGreatDoor.Aes
