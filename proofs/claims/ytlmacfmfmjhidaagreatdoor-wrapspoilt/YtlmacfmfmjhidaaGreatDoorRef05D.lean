/-
 What lockboxref05.Decrypt returns: a contract over the loaded program.
-/
import Derived.Test.YtlmacfmfmjhidaaGreatDoorRef02W
import Derived.Test.YtlmacfmfmjhidaaGreatDoorRef02L
namespace Go.Proofs.YtlmacfmfmjhidaaGreatDoor.Aes
open Go.ChangeShapes Go.WideShapes Go.ChangeAt Go.RowKit Mem
structure DS (w0 wr:World) (hs gU:Nat) (aw:Addr) (n:Nat) (ws b:Nat→Nat):Prop where
 blk:Blk wr hs 150 (row 16 (b8 b))
 res:Blk wr (hs+1) 150 (row 16 (b8 fun _=>0))
 und:Blk wr gU 169 (row 256 (b8 Gf.unbox))
 word: ∀i,i<n→wr.cell? (aw.add i)=some (.int .u8 ((ws i:Nat):Int))
 ne:aw.block≠hs∧hs+1<gU∧aw.block<wr.heap.size
 bel:Below hs w0 wr
section
variable {w0 wr w':World}{hs gU n:Nat}{aw:Addr}{ws b:Nat→Nat}
theorem DS.drew (h:DS w0 wr hs gU aw n ws b):DS w0 wr.drew hs gU aw n ws b:=⟨h.blk,h.res,h.und,h.word,h.ne,h.bel.drew⟩
theorem DS.below (h:DS w0 wr hs gU aw n ws b) (hb:Below wr.heap.size wr w'):DS w0 w' hs gU aw n ws b:=
 ⟨h.blk.below hb h.blk.lt,h.res.below hb h.res.lt,h.und.below hb h.und.lt,fun i hi=>(hb.cell (by rw[add_block];exact h.ne.2.2)).trans (h.word i hi),⟨h.ne.1,h.ne.2.1,Nat.lt_of_lt_of_le h.ne.2.2 hb.size⟩,h.bel.trans (hb.mono (Nat.le_of_lt h.blk.lt))⟩
theorem DS.alloc (h:DS w0 wr hs gU aw n ws b) (o:Obj):DS w0 (wr.alloc o) hs gU aw n ws b:=h.below ((Below.refl _ _).alloc (Nat.le_refl _) o)
theorem DS.put (h:DS w0 wr hs gU aw n ws b) (k v:Nat):DS w0 (wr.setCell ⟨hs,k,none⟩ (.int .u8 ((v:Nat):Int))) hs gU aw n ws (upd b k v):=
 ⟨h.blk.put k v,h.res.other _ _ (by simp),h.und.other _ _ (by have:=h.ne.2.1;simp;omega),fun i hi=>(cell_setCell_off wr ⟨hs,k,none⟩ _ _ (by rw[add_block];exact h.ne.1)).trans (h.word i hi),⟨h.ne.1,h.ne.2.1,by simpa using h.ne.2.2⟩,h.bel.setCell (by simp) _⟩
theorem DS.off (h:DS w0 wr hs gU aw n ws b) (g k:Nat) (v:Value) (h1:g≠aw.block) (h2:hs+1<g) (h3:g≠gU):DS w0 (wr.setCell ⟨g,k,none⟩ v) hs gU aw n ws b:=
 ⟨h.blk.other _ _ (by simp;omega),h.res.other _ _ (by simp;omega),h.und.other _ _ (by simp;omega),fun i hi=>(cell_setCell_off wr ⟨g,k,none⟩ _ _ (by rw[add_block];exact fun e=>h1 e.symm)).trans (h.word i hi),⟨h.ne.1,h.ne.2.1,by simpa using h.ne.2.2⟩,h.bel.setCell (by simp;omega) _⟩
theorem DS.setB (h:DS w0 wr hs gU aw n ws b) (b':Nat→Nat):DS w0 (wr.setRow hs (row 16 (b8 b'))) hs gU aw n ws b':=by
 have hw: ∀q:Addr,q.block≠hs→(wr.setRow hs (row 16 (b8 b'))).cell? q=wr.cell? q:=fun q hq=>by
  unfold World.cell?
  rw[setRow_other wr hs q.block _ hq]
 exact⟨h.blk.setRow _,h.res.otherRow _ _ (by omega),h.und.otherRow _ _ (by have:=h.ne.2.1;omega),fun i hi=>(hw _ (by rw[add_block];exact h.ne.1)).trans (h.word i hi),⟨h.ne.1,h.ne.2.1,by simpa using h.ne.2.2⟩,below_setRow' h.bel (Nat.le_refl _) _⟩
theorem DS.same {b':Nat→Nat} (h:DS w0 wr hs gU aw n ws b) (hbb: ∀i,i<16→b i=b' i):DS w0 wr hs gU aw n ws b':=⟨by rw[← row_b8_ext hbb];exact h.blk,h.res,h.und,h.word,h.ne,h.bel⟩
end
structure KeptG (g:Nat) (a b:World):Prop where
 size:b.heap.size=a.heap.size
 block: ∀k,k≠g→b.heap[k]? =a.heap[k]?
 os:b.os=a.os
 tape:b.tape=a.tape
 output:b.output=a.output
theorem KeptG.refl (g:Nat) (a:World):KeptG g a a:=⟨rfl,fun _ _=>rfl,rfl,rfl,rfl⟩
theorem KeptG.put {g:Nat}{a b:World} (h:KeptG g a b) (i:Nat) (v:Value):KeptG g a (b.setCell ⟨g,i,none⟩ v):=
 ⟨by simpa using h.size,fun k hk=>(heap_setCell_other b ⟨g,i,none⟩ k v hk).trans (h.block k hk),h.os,h.tape,h.output⟩
theorem KeptG.blk {g k:Nat}{a b:World}{t:TypeId}{cs:Array Value} (h:KeptG g a b) (hb:Blk a k t cs) (hk:k≠g):Blk b k t cs:=(h.block k hk).trans hb
theorem KeptG.below {g B:Nat}{a b:World} (h:KeptG g a b) (hB:B≤g):Below B a b:=⟨h.os,h.tape,h.output,Nat.le_of_eq h.size.symm,fun k hk=>h.block k (by omega)⟩
theorem KeptG.cell {g:Nat}{a b:World} (h:KeptG g a b) (q:Addr) (hq:q.block≠g):b.cell? q=a.cell? q:=by
 unfold World.cell?
 rw[h.block _ hq]
theorem undo_step {m:Nat→Nat}{q:Nat} (hq:q<256) (h: ∀j,j<256→m j=if Gf.unbox j<q then Gf.unbox j else 0): ∀j,j<256→upd m (Gf.box q) q j=if Gf.unbox j<q+1 then Gf.unbox j else 0:=by
 intro j hj
 by_cases e:j=Gf.box q
 ·subst e;rw[upd_same,Gf.unbox_box q hq,if_pos (by omega)]
 rw[upd_other _ _ _ _ e,h j hj]
 have hne:Gf.unbox j≠q:=fun e2=>e (by rw[← e2,Gf.box_unbox j hj])
 by_cases h2:Gf.unbox j<q
 ·rw[if_pos h2,if_pos (by omega)]
 rw[if_neg h2,if_neg (by omega)]
theorem back_step2 {m f:Nat→Nat}{k:Nat} (hk:k<16) (h: ∀j,j<16→m j=if dst j<k then f (dst j) else 0): ∀j,j<16→upd m (src k) (f k) j=if dst j<k+1 then f (dst j) else 0:=by
 intro j hj
 by_cases e:j=src k
 ·subst e;rw[upd_same,dst_src k hk,if_pos (by omega)]
 rw[upd_other _ _ _ _ e,h j hj]
 have hne:dst j≠k:=fun e2=>e (by rw[← e2,src_dst j hj])
 by_cases h2:dst j<k
 ·rw[if_pos h2,if_pos (by omega)]
 rw[if_neg h2,if_neg (by omega)]
theorem rmul_still (a b:Nat) (ha:a<256) (hb:b<256) (w:World):Calls Tryz.prog 119 #[.int .u8 a, .int .u8 b] w fun e w'=>e= .returned (.int .u8 (Gf.mul a b:Nat))∧w'=w:=(rmul a b ha hb w).mono fun _ _ ⟨h1,h2⟩=>⟨h1,h2.symm⟩
theorem nxt_at (q t k:Nat) (ht:t<4):nxt (4*q+t) k=4*q+(t+k)%4:=by unfold nxt;omega
theorem dk_row: #[Value.int .u8 14, .int .u8 11, .int .u8 13, .int .u8 9]=row 4 (b8 fD):=row4 fD 14 11 13 9 rfl rfl rfl rfl
set_option maxRecDepth 100000 in
set_option maxHeartbeats 8000000 in
theorem rdec_any (A:Option Addr) (L c:Nat) (hL:IsKey L) (key b:Nat→Nat) (w:World) (hk: ∀i,i<L→key i<256) (hb:By16 b) (hR:Reads w w.heap.size A L key):
  Calls Tryz.prog 94 #[.slice A L c, .agg (row 16 (b8 b))] w fun e w'=>e= .returned (.agg (row 16 (b8 (dec (words L key) (rnd L) b))))∧Below w.heap.size w w':=by
 have HL:=hid hL
 have Hk:=hid hk
 have Hb:=hid hb
 have hb1:=(Blk.fresh w 150 (row 16 (b8 b))).alloc (.cells (row 16 (b8 fun _=>0)) 150)
 have hb2:=two_new w b (fun _=>0) 16 150
 have hB2:Below w.heap.size w ((w.alloc (.cells (row 16 (b8 b)) 150)).alloc (.cells (row 16 (b8 fun _=>0)) 150)):=((Below.refl _ _).alloc (Nat.le_refl _) _).alloc (by simp) _
 have hR2:=(hR.below hB2).more hB2.size
 obtain⟨hN1,hN2⟩:=rnd_bound hL
 have Hws:=hid (fun i=>ex_lt L key (more L) hk i)
 have Hlast:Hid (wrap64 (wrap64 ((L:Int)/4)+6)=((rnd L:Nat):Int)):=hid (by rcases hL with rfl | rfl | rfl<;>simp[wrap64,rnd])
 have hn0:wsz L=16*rnd L+16:=wsz_eq L
 have HE:=hid (fun r hr=>decTo_by (ws:=words L key) (N:=rnd L) (n:=wsz L) (fun i _=>ex_lt L key (more L) hk i) (by rw[wsz_eq];omega) hb r hr)
 have Hn0:=hid hn0
 clear hL hk hb hR hn0
 go_enter Tryz.func94,Tryz.ntmps94
 go_wp2_with (with_reducible refine wpl_alloc rfl 150 rfl _ z16 ?_)
 refine(rwords_any A L c HL.out key _ Hk.out hR2).mono ?_
 rintro e w1 ⟨Aw,cw,rfl,hcw,hRw,hB3⟩
 obtain⟨aw,rfl,haw,hcell⟩:=hRw (by rw[Hn0.out];omega)
 have hbw:=hb1.below hB3 hb1.lt
 have hne:=reads_apart hRw (by rw[Hn0.out];omega) hbw
 have hrw:=hb2.below hB3 hb2.lt
 have hB4:=hB2.trans (hB3.mono hB2.size)
 have HC:=hid hcell
 clear hcell hRw hb1 hb2 hB2 hR2 hB3
 go_wp2_with fail
 refine(boxes_any _).mono ?_
 rintro e w2 ⟨rfl,hB5⟩
 have hq1:Blk ((w2.alloc (.cells (row 256 (b8 Gf.box)) 169)).alloc (.cells (row 256 (b8 fun _=>0)) 169)) w.heap.size 150 (row 16 (b8 b)):=((hbw.below hB5 hbw.lt).alloc _).alloc _
 have hq2:Blk ((w2.alloc (.cells (row 256 (b8 Gf.box)) 169)).alloc (.cells (row 256 (b8 fun _=>0)) 169)) (w.heap.size+1) 150 (row 16 (b8 fun _=>0)):=((hrw.below hB5 hrw.lt).alloc _).alloc _
 have hq3:Blk ((w2.alloc (.cells (row 256 (b8 Gf.box)) 169)).alloc (.cells (row 256 (b8 fun _=>0)) 169)) w2.heap.size 169 (row 256 (b8 Gf.box)):=(Blk.fresh _ _ _).alloc _
 have hq4:Blk ((w2.alloc (.cells (row 256 (b8 Gf.box)) 169)).alloc (.cells (row 256 (b8 fun _=>0)) 169)) (w2.heap.size+1) 169 (row 256 (b8 fun _=>0)):=by
  have:=Blk.fresh (w2.alloc (.cells (row 256 (b8 Gf.box)) 169)) 169 (row 256 (b8 fun _=>0))
  simpa using this
 have hB6:Below w2.heap.size w2 ((w2.alloc (.cells (row 256 (b8 Gf.box)) 169)).alloc (.cells (row 256 (b8 fun _=>0)) 169)):=((Below.refl _ _).alloc (Nat.le_refl _) _).alloc (by simp) _
 have hq5: ∀i,i<wsz L→((w2.alloc (.cells (row 256 (b8 Gf.box)) 169)).alloc (.cells (row 256 (b8 fun _=>0)) 169)).cell? (aw.add i)=some (.int .u8 ((words L key i:Nat):Int)):=fun i hi=>
  (hB6.cell (by rw[add_block];exact Nat.lt_of_lt_of_le haw hB5.size)).trans ((hB5.cell (p:=aw.add i) (by rw[add_block];exact haw)).trans (HC.out i hi))
 have h3:=hB4.trans (hB5.mono hB4.size)
 have hq6:Below w.heap.size w ((w2.alloc (.cells (row 256 (b8 Gf.box)) 169)).alloc (.cells (row 256 (b8 fun _=>0)) 169)):=h3.trans (hB6.mono h3.size)
 have hgB:w.heap.size+1<w2.heap.size:=(hrw.below hB5 hrw.lt).lt
 have haw2:aw.block<w2.heap.size:=Nat.lt_of_lt_of_le haw hB5.size
 clear hbw hrw hB4 hB5 HC h3 hB6
 go_wp2_with (first
  | (with_reducible refine wpl_alloc rfl 169 rfl _ z256 ?_)
  | (with_reducible refine wpl_store_new rfl 169 _ _ rfl _ _ 256 _ rfl rfl 169 i256 (row_size _ _) ?_))
 generalize ((w2.alloc (.cells (row 256 (b8 Gf.box)) 169)).alloc (.cells (row 256 (b8 fun _=>0)) 169))=w3 at*
 generalize w2.heap.size=gB at*
 obtain⟨n,Hn⟩: ∃n,Hid (wsz L=n):=⟨_,hid rfl⟩
 have Hnn:Hid (n=16*rnd L+16):=hid (by rw[← Hn.out,Hn0.out])
 obtain⟨ws,Hw⟩: ∃ws,Hid (words L key=ws):=⟨_,hid rfl⟩
 have Hws2:Hid (∀i,ws i<256):=hid (fun i=>by rw[← Hw.out];exact Hws.out i)
 have HE2:Hid (∀r,r≤rnd L→By16 (decTo ws (rnd L) b r)):=hid (fun r hr=>by rw[← Hw.out];exact HE.out r hr)
 rw[Hn.out]
 rw[Hn.out,Hw.out] at hq5
 have Hws:=Hws2
 have HE:=HE2
 clear Hws2 HE2
 obtain⟨N,HN⟩: ∃N,Hid (rnd L=N):=⟨_,hid rfl⟩
 rw[HN.out] at hN1 hN2 Hnn HE Hlast
 have Hres:Hid (∀i,dec (words L key) (rnd L) b i=rk ws 0 (decTo ws N b N) i):=hid (fun i=>by rw[Hw.out,HN.out];rfl)
 have HQ1:=hid hq1
 have HQ2:=hid hq2
 have HQ5:=hid hq5
 clear hq1 hq2 hq5
 go_loopw [8] (fun vi wr=> ∃(q:Nat) (m:Nat→Nat),q≤256∧vi= .int .i64 q∧Hid (∀j,j<256→m j=if Gf.unbox j<q then Gf.unbox j else 0)∧Blk wr gB 169 (row 256 (b8 Gf.box))∧Blk wr (gB+1) 169 (row 256 (b8 m))∧KeptG (gB+1) w3 wr) (fun vi _=>256-(intOf vi).toNat)
 case atStart=>exact⟨0,fun _=>0,by omega,rfl,hid (by simp),hq3,hq4,KeptG.refl _ _⟩
 case round=>
  clear hq3 hq4
  obtain⟨q,m,hq,rfl,HM,hbx,hub,hKG⟩:=hrel
  rename World=>w7
  by_cases hlt:q<256
  ·have hbl:=box_lt' q hlt
   have hd1:=hbx.val q hlt
   have hwr:IntKind.u8.wrap ((q:Nat):Int)=(q:Int):=by simp[IntKind.wrap,IntKind.signed,IntKind.bits];omega
   have HKG:=hid hKG
   go_wp2_with (first
    | (with_reducible refine wpl_at rfl 169 _ _ rfl _ rfl .i64 _ rfl q rfl 256 5 Tryz.underlying169 hlt i8 ?_)
    | (with_reducible refine wpl_ld rfl 5 _ rfl _ rfl .u8 Tryz.underlying5 _ hd1 ?_)
    | (with_reducible refine wpl_at rfl 169 _ _ rfl _ rfl .u8 _ rfl (Gf.box q) rfl 256 5 Tryz.underlying169 hbl i8 ?_)
    | (with_reducible refine wpl_st rfl 5 _ _ rfl _ rfl .u8 _ rfl i8 _ (hub.val _ hbl) (hub.free _) ?_))
   go_round
   case rel=>exact⟨q+1,upd m (Gf.box q) q,by omega,val_int (by omega),hid (undo_step hlt HM.out),hbx.other _ _ (by simp),hub.put _ _,HKG.out.put _ _⟩
   case measure=>simp[intOf];omega
  have hub2:Blk w7 (gB+1) 169 (row 256 (b8 Gf.unbox)):=by
   have e:=row_b8_ext (n:=256) (f:=m) (g:=Gf.unbox) (fun j hj=>by rw[HM.out j hj,if_pos (by have:=Gf.unbox_lt j hj;omega)])
   rw[← e];exact hub
  have hD0:DS w w7 w.heap.size (gB+1) aw n ws b:=⟨hKG.blk HQ1.out (by omega),hKG.blk HQ2.out (by omega),hub2,fun i hi=>(hKG.cell _ (by rw[add_block];omega)).trans (HQ5.out i hi),⟨hne,by omega,by have:=hub.lt;omega⟩,hq6.trans (hKG.below (by omega))⟩
  clear hub hub2 hbx hKG HM HQ1 HQ2 HQ5 hq6
  have hgU:w.heap.size+1<gB+1:=by omega
  have haU:aw.block<gB+1:=by omega
  clear hgB haw2
  generalize gB+1=gU at*
  go_wp2_with fail
  rw[Hlast.out]
  go_loopw [10] (fun vi wr=> ∃(k:Nat),k≤N∧vi= .int .i64 ((N:Int)-(k:Int))∧DS w wr w.heap.size gU aw n ws (decTo ws N b k)) (fun vi _=>(intOf vi).toNat)
  case atStart=>exact⟨0,by omega,val_int (by simp),hD0⟩
  case round=>
   clear hD0
   obtain⟨k,hkN,rfl,hD1⟩:=hrel
   rename World=>w4
   by_cases hlt2:k<N
   ·have hr1:(N:Int)-(k:Int)≥1:=by omega
    obtain⟨x,Hx⟩: ∃x,Hid (decTo ws N b k=x):=⟨_,hid rfl⟩
    rw[Hx.out] at hD1
    have Hxb:Hid (By16 x):=hid (by rw[← Hx.out];exact HE.out k hkN)
    obtain⟨r,hrI,Hr⟩: ∃r:Nat,(N:Int)-(k:Int)=(r:Int)∧Hid (r=N-k):=⟨N-k,by omega,hid rfl⟩
    have hrN:r≤N∧1≤r:=by have:=Hr.out;omega
    rw[hrI] at hr1 ⊢
    have HrI:=hid hrI
    clear hrI
    go_wp2_with fail
    generalize Value.bool (decide ((r:Int)≥1))=vbr at*
    go_loopw [11] (fun vi wr=> ∃(q:Nat) (m:Nat→Nat),q≤16∧vi= .int .i64 q∧Hid (∀j,m j=if j<q then rk ws r x j else x j)∧DS w wr w.heap.size gU aw n ws m) (fun vi _=>16-(intOf vi).toNat)
    case atStart=>exact⟨0,x,by omega,rfl,hid (by simp),hD1⟩
    case round=>
     clear hD1
     obtain⟨q,m,hq,rfl,HM,hD⟩:=hrel
     rename World=>w5
     by_cases hlt3:q<16
     ·have Hmq:Hid (m q=x q):=hid (by rw[HM.out,if_neg (by omega)])
      have hmb:m q<256:=by rw[Hmq.out];exact Hxb.out q hlt3
      have hwi:16*r+q<n:=by have:=Hnn.out;omega
      have hwl:=Hws.out (16*r+q)
      go_wp2_with fail
      refine wp_region_still_tail 13 (by kernel_rfl) (by kernel_rfl) ?_
      simp only[List.take_succ_cons,List.take_zero,List.drop_succ_cons,List.drop_zero]
      change wpStill _ _ w5.drew (fun a'=>wpList _ _ _ _ a' w5.drew) _ _
      have hD':=hD.drew
      clear hD
      generalize w5.drew=w6 at*
      have hd1:=hD'.blk.val q hlt3
      have hd2:=hD'.word _ hwi
      have x1:=wrap_i64 (16*(r:Int)) _ rfl (by omega) (by omega)
      have x2:=wrap_i64 (16*(r:Int)+(q:Int)) _ rfl (by omega) (by omega)
      repeat (first
       | (with_reducible refine wps_at rfl 150 _ _ rfl _ rfl .i64 _ rfl q rfl 16 5 Tryz.underlying150 hlt3 i8 ?_)
       | (with_reducible refine wps_slw rfl 22 _ _ rfl aw n cw rfl .i64 _ rfl (16*r+q) (by omega) 5 Tryz.underlying22 hwi i8 ?_)
       | (with_reducible refine wps_ld rfl 5 _ rfl _ rfl .u8 Tryz.underlying5 _ hd1 ?_)
       | (with_reducible refine wps_ld rfl 5 _ rfl _ rfl .u8 Tryz.underlying5 _ hd2 ?_)
       | still_step)
      refine wpStill_nil ?_
      clear x1 x2 hd1 hd2
      go_wp2_with (with_reducible refine wpl_st rfl 5 _ _ rfl _ rfl .u8 _ rfl i8 _ (hD'.blk.val q hlt3) (hD'.blk.free q) ?_)
      go_round
      case rel=>
       rw[u8_xor_nat _ _ hmb hwl,show m q ^^^ ws (16*r+q)=rk ws r x q by unfold rk;rw[Hmq.out]]
       exact⟨q+1,upd m q (rk ws r x q),by omega,val_int (by omega),hid (fill_step (F:=rk ws r x) HM.out),hD'.put q _⟩
      case measure=>simp[intOf];omega
     have hD5:DS w w5 w.heap.size gU aw n ws (rk ws r x):=hD.same (fill_end HM.out (by omega))
     clear hD HM
     obtain⟨y,HY⟩: ∃y,Hid (rk ws r x=y):=⟨_,hid rfl⟩
     have HYb:Hid (By16 y):=hid (by rw[← HY.out];exact fun i hi=>xl (Hxb.out i hi) (Hws.out _))
     rw[HY.out] at hD5
     by_cases hlast:r<N
     ·have hlastI:(r:Int)< (N:Int):=by omega
      have Hstep:Hid (decTo ws N b (k+1)=each Gf.unbox (rowsB (mix fD y))):=hid (by rw[decTo,← Hr.out,if_pos hlast,Hx.out,HY.out])
      have hgu0:gU<w5.heap.size:=hD5.und.lt
      have hga0:aw.block<w5.heap.size:=hD5.ne.2.2
      have hD6:=(hD5.alloc (.cells (row 16 (b8 y)) 150)).alloc (.cells (row 4 (b8 fD)) 5)
      have hT6:=(Blk.fresh w5 150 (row 16 (b8 y))).alloc (.cells (row 4 (b8 fD)) 5)
      have hK6:Blk ((w5.alloc (.cells (row 16 (b8 y)) 150)).alloc (.cells (row 4 (b8 fD)) 5)) (w5.heap.size+1) 5 (row 4 (b8 fD)):=by
       have:=Blk.fresh (w5.alloc (.cells (row 16 (b8 y)) 150)) 5 (row 4 (b8 fD))
       simpa using this
      go_wp2_with (first
       | (with_reducible refine wpl_load rfl 150 _ rfl _ rfl 150 _ hD5.blk 16 5 Tryz.underlying150 (i16' _) ?_)
       | (with_reducible refine wpl_alloc rfl 150 rfl _ z16 ?_)
       | (with_reducible refine wpl_store_new rfl 150 _ _ rfl _ _ 16 _ rfl rfl 150 i16 (row_size _ _) ?_))
      rw[dk_row]
      clear hD5
      generalize (w5.alloc (.cells (row 16 (b8 y)) 150)).alloc (.cells (row 4 (b8 fD)) 5)=w6 at*
      generalize w5.heap.size=gt at*
      go_loopw [14] (fun vi wr=> ∃(q:Nat) (m:Nat→Nat),q≤4∧vi= .int .i64 q∧Hid (∀j,m j=if j<4*q then mix fD y j else y j)∧DS w wr w.heap.size gU aw n ws m∧Blk wr gt 150 (row 16 (b8 y))∧Blk wr (gt+1) 5 (row 4 (b8 fD))) (fun vi _=>4-(intOf vi).toNat)
      case atStart=>exact⟨0,y,by omega,rfl,hid (by simp),hD6,hT6,hK6⟩
      case round=>
       clear hD6 hT6 hK6
       obtain⟨q,m,hq,rfl,HM,hD,hT,hKk⟩:=hrel
       rename World=>w7
       by_cases hlt4:q<4
       ·go_wp2_with fail
        generalize Value.bool (decide ((q:Int)<4))=vb at*
        go_loopw [15] (fun vi wr=> ∃(t:Nat) (m:Nat→Nat),t≤4∧vi= .int .i64 t∧Hid (∀j,m j=if j<4*q+t then mix fD y j else y j)∧DS w wr w.heap.size gU aw n ws m∧Blk wr gt 150 (row 16 (b8 y))∧Blk wr (gt+1) 5 (row 4 (b8 fD))) (fun vi _=>4-(intOf vi).toNat)
        case atStart=>exact⟨0,m,by omega,rfl,hid (by simpa using HM.out),hD,hT,hKk⟩
        case round=>
         clear hD hT hKk HM
         clear m
         obtain⟨t,m,ht,rfl,HM,hD,hT,hKk⟩:=hrel
         rename World=>w8
         by_cases hlt5:t<4
         ·go_wp2_with fail
          generalize Value.bool (decide ((t:Int)<4))=vb2 at*
          go_loopw [16,17] (fun va vi wr=> ∃(u:Nat),u≤4∧vi= .int .i64 u∧va= .int .u8 ((mixTo fD y (4*q+t) u:Nat):Int)∧DS w wr w.heap.size gU aw n ws m∧Blk wr gt 150 (row 16 (b8 y))∧Blk wr (gt+1) 5 (row 4 (b8 fD))) (fun _ vi _=>4-(intOf vi).toNat)
          case atStart=>exact⟨0,by omega,rfl,rfl,hD,hT,hKk⟩
          case round=>
           clear hD hT hKk
           obtain⟨u,hu,rfl,rfl,hD,hT,hKk⟩:=hrel
           rename World=>w9
           by_cases hlt6:u<4
           ·have hi:4*q+(t+u)%4<16:=by omega
            have hyi:=HYb.out _ hi
            have hml:=mixTo_lt fD y (4*q+t) u fD_lt
            have hfl:=fD_lt u
            have HMx:Hid (mixTo fD y (4*q+t) (u+1)=mixTo fD y (4*q+t) u ^^^ Gf.mul (fD u) (y (4*q+(t+u)%4))):=hid (by rw[mixTo,nxt_at q t u hlt5])
            go_wp2_with fail
            refine wp_region_still_lit (by kernel_rfl) (by kernel_rfl) ?_
            change wpStill _ _ w9.drew _ _ _
            have hD':=hD.drew
            have hT':Blk w9.drew gt 150 (row 16 (b8 y)):=hT
            have hK':Blk w9.drew (gt+1) 5 (row 4 (b8 fD)):=hKk
            generalize w9.drew=w10 at*
            have hd1:=hK'.val u hlt6
            have hd2:=hT'.val _ hi
            have x1:=wrap_i64 (4*(q:Int)) _ rfl (by omega) (by omega)
            have x3:=wrap_i64 ((t:Int)+(u:Int)) _ rfl (by omega) (by omega)
            have x4:((t:Int)+(u:Int)).tmod 4=((t:Int)+(u:Int))%4:=Int.tmod_eq_emod_of_nonneg (by omega)
            have x6:=wrap_i64 (4*(q:Int)+((t:Int)+(u:Int))%4) _ rfl (by omega) (by omega)
            repeat (first
             | (with_reducible refine wps_val rfl _ (exec_slN 22 _ _ rfl (gt+1) 4 4 rfl .i64 _ rfl u rfl 5 Tryz.underlying22 hlt6 i8) ?_)
             | (with_reducible refine wps_at rfl 150 _ _ rfl _ rfl .i64 _ rfl (4*q+(t+u)%4) (by omega) 16 5 Tryz.underlying150 hi i8 ?_)
             | (with_reducible refine wps_ld rfl 5 _ rfl _ rfl .u8 Tryz.underlying5 _ hd1 ?_)
             | (with_reducible refine wps_ld rfl 5 _ rfl _ rfl .u8 Tryz.underlying5 _ hd2 ?_)
             | still_step
             | still_call (rmul_still _ _ hfl hyi _))
            refine wpStill_nil ?_
            clear x1 x3 x4 x6 hd1 hd2
            go_wp2_with fail
            go_round
            case rel=>
             rw[u8_xor_nat _ _ hml (Gf.mul_lt _ _ hfl),← HMx.out]
             exact⟨u+1,by omega,val_int (by omega),rfl,hD.drew,hT,hKk⟩
            case measure=>simp[intOf];omega
           obtain rfl:u=4:=by omega
           have hj:4*q+t<16:=by omega
           have x1:=wrap_i64 (4*(q:Int)) _ rfl (by omega) (by omega)
           have x2:=wrap_i64 (4*(q:Int)+(t:Int)) _ rfl (by omega) (by omega)
           go_wp2_with (first
            | (with_reducible refine wpl_at rfl 150 _ _ rfl _ rfl .i64 _ rfl (4*q+t) (by omega) 16 5 Tryz.underlying150 hj i8 ?_)
            | (with_reducible refine wpl_st rfl 5 _ _ rfl _ rfl .u8 _ rfl i8 _ (hD.blk.val _ hj) (hD.blk.free _) ?_))
           go_round
           case rel=>exact⟨t+1,upd m (4*q+t) (mix fD y (4*q+t)),by omega,val_int (by omega),hid (by rw[← Nat.add_assoc];exact fill_step HM.out),hD.put _ _,hT.other _ _ (by simp;omega),hKk.other _ _ (by simp;omega)⟩
           case measure=>simp[intOf];omega
         obtain rfl:t=4:=by omega
         go_wp2_with fail
         go_round
         case rel=>exact⟨q+1,m,by omega,val_int (by omega),hid (by rw[Nat.mul_add];exact HM.out),hD,hT,hKk⟩
         case measure=>simp[intOf];omega
       have hDa:DS w w7 w.heap.size gU aw n ws (mix fD y):=hD.same (fill_end HM.out (by omega))
       clear hD hT hKk HM
       obtain⟨z,HZ⟩: ∃z,Hid (mix fD y=z):=⟨_,hid rfl⟩
       have HZb:Hid (By16 z):=hid (by rw[← HZ.out];exact mix_by fD y fD_lt)
       rw[HZ.out] at Hstep hDa
       go_wp2_with (with_reducible refine wpl_alloc rfl 150 rfl _ z16 ?_)
       have hgu:gU<w7.heap.size:=hDa.und.lt
       have hga:aw.block<w7.heap.size:=hDa.ne.2.2
       have hDb:=hDa.alloc (.cells (row 16 (b8 fun _=>0)) 150)
       have hsb:=Blk.fresh w7 150 (row 16 (b8 fun _=>0))
       clear hDa
       generalize w7.alloc (.cells (row 16 (b8 fun _=>0)) 150)=wb at*
       generalize w7.heap.size=gs at*
       go_loopw [19] (fun vi wr=> ∃(q:Nat) (m:Nat→Nat),q≤4∧vi= .int .i64 q∧Hid (∀j,j<16→m j=if dst j<4*q then each Gf.unbox z (dst j) else 0)∧DS w wr w.heap.size gU aw n ws z∧Blk wr gs 150 (row 16 (b8 m))) (fun vi _=>4-(intOf vi).toNat)
       case atStart=>exact⟨0,fun _=>0,by omega,rfl,hid (by simp),hDb,hsb⟩
       case round=>
        clear hDb hsb
        obtain⟨q,m,hq,rfl,HM,hD,hsm⟩:=hrel
        rename World=>wc
        by_cases hltc:q<4
        ·go_wp2_with fail
         generalize Value.bool (decide ((q:Int)<4))=vb at*
         go_loopw [20] (fun vi wr=> ∃(t:Nat) (m:Nat→Nat),t≤4∧vi= .int .i64 t∧Hid (∀j,j<16→m j=if dst j<4*q+t then each Gf.unbox z (dst j) else 0)∧DS w wr w.heap.size gU aw n ws z∧Blk wr gs 150 (row 16 (b8 m))) (fun vi _=>4-(intOf vi).toNat)
         case atStart=>exact⟨0,m,by omega,rfl,hid (by simpa using HM.out),hD,hsm⟩
         case round=>
          clear hD hsm HM
          clear m
          obtain⟨t,m,ht,rfl,HM,hD,hsm⟩:=hrel
          rename World=>wd
          by_cases hltd:t<4
          ·have hi:4*((q+t)%4)+t<16:=by omega
           have hj:4*q+t<16:=by omega
           have hzi:=HZb.out _ hj
           have hd1:=hD.blk.val _ hj
           have hd2:=hD.und.val _ hzi
           have Hsrc:Hid (4*((q+t)%4)+t=src (4*q+t)):=hid (src_at q t hltd)
           have x1:=wrap_i64 (4*(q:Int)) _ rfl (by omega) (by omega)
           have x2:=wrap_i64 (4*(q:Int)+(t:Int)) _ rfl (by omega) (by omega)
           have x3:=wrap_i64 ((q:Int)+(t:Int)) _ rfl (by omega) (by omega)
           have x4:((q:Int)+(t:Int)).tmod 4=((q:Int)+(t:Int))%4:=Int.tmod_eq_emod_of_nonneg (by omega)
           have x5:=wrap_i64 (4*(((q:Int)+(t:Int))%4)) _ rfl (by omega) (by omega)
           have x6:=wrap_i64 (4*(((q:Int)+(t:Int))%4)+(t:Int)) _ rfl (by omega) (by omega)
           go_wp2_with (first
            | (with_reducible refine wpl_at rfl 150 _ _ rfl _ rfl .i64 _ rfl (4*((q+t)%4)+t) (by omega) 16 5 Tryz.underlying150 hi i8 ?_)
            | (with_reducible refine wpl_at rfl 150 _ _ rfl _ rfl .i64 _ rfl (4*q+t) (by omega) 16 5 Tryz.underlying150 hj i8 ?_)
            | (with_reducible refine wpl_at rfl 169 _ _ rfl _ rfl .u8 _ rfl (z (4*q+t)) rfl 256 5 Tryz.underlying169 hzi i8 ?_)
            | (with_reducible refine wpl_ld rfl 5 _ rfl _ rfl .u8 Tryz.underlying5 _ hd1 ?_)
            | (with_reducible refine wpl_ld rfl 5 _ rfl _ rfl .u8 Tryz.underlying5 _ hd2 ?_)
            | (with_reducible refine wpl_st rfl 5 _ _ rfl _ rfl .u8 _ rfl i8 _ (hsm.val _ hi) (hsm.free _) ?_))
           go_round
           case rel=>exact⟨t+1,upd m (4*((q+t)%4)+t) (Gf.unbox (z (4*q+t))),by omega,val_int (by omega),hid (by rw[← Nat.add_assoc,Hsrc.out];exact back_step2 (f:=each Gf.unbox z) hj HM.out),hD.off gs _ _ (by omega) (by omega) (by omega),hsm.put _ _⟩
           case measure=>simp[intOf];omega
          obtain rfl:t=4:=by omega
          go_wp2_with fail
          go_round
          case rel=>exact⟨q+1,m,by omega,val_int (by omega),hid (by rw[Nat.mul_add];exact HM.out),hD,hsm⟩
          case measure=>simp[intOf];omega
        have hse:Blk wc gs 150 (row 16 (b8 (each Gf.unbox (rowsB z)))):=by
         have e:=row_b8_ext (n:=16) (f:=m) (g:=each Gf.unbox (rowsB z)) (fun j hj=>by rw[HM.out j hj,if_pos (by have:=dst_lt j;omega)];rfl)
         rw[← e];exact hsm
        clear hsm HM
        go_wp2_with (first
         | (with_reducible refine wpl_load rfl 150 _ rfl _ rfl 150 _ hse 16 5 Tryz.underlying150 (i16' _) ?_)
         | (with_reducible refine wpl_store rfl 150 _ _ rfl _ _ rfl rfl 150 _ hD.blk (i16' _) (by simp[row_size]) (one_b8 _ _) ?_))
        exact⟨⟨k+1,by omega,val_int (by have:=HrI.out;omega),by rw[Hstep.out];exact hD.setB _⟩,by simp[intOf];omega⟩
     have hlastI: ¬(r:Int)< (N:Int):=by omega
     have Hstep:Hid (decTo ws N b (k+1)=each Gf.unbox (rowsB y)):=hid (by rw[decTo,← Hr.out,if_neg hlast,Hx.out,HY.out])
     obtain⟨z,HZ⟩: ∃z,Hid (y=z):=⟨_,hid rfl⟩
     have HZb:Hid (By16 z):=hid (by rw[← HZ.out];exact HYb.out)
     rw[HZ.out] at Hstep
     have hDa:=hD5
     rw[HZ.out] at hDa
     clear hD5
     go_wp2_with (with_reducible refine wpl_alloc rfl 150 rfl _ z16 ?_)
     have hgu:gU<w5.heap.size:=hDa.und.lt
     have hga:aw.block<w5.heap.size:=hDa.ne.2.2
     have hDb:=hDa.alloc (.cells (row 16 (b8 fun _=>0)) 150)
     have hsb:=Blk.fresh w5 150 (row 16 (b8 fun _=>0))
     clear hDa
     generalize w5.alloc (.cells (row 16 (b8 fun _=>0)) 150)=wb at*
     generalize w5.heap.size=gs at*
     go_loopw [19] (fun vi wr=> ∃(q:Nat) (m:Nat→Nat),q≤4∧vi= .int .i64 q∧Hid (∀j,j<16→m j=if dst j<4*q then each Gf.unbox z (dst j) else 0)∧DS w wr w.heap.size gU aw n ws z∧Blk wr gs 150 (row 16 (b8 m))) (fun vi _=>4-(intOf vi).toNat)
     case atStart=>exact⟨0,fun _=>0,by omega,rfl,hid (by simp),hDb,hsb⟩
     case round=>
      clear hDb hsb
      obtain⟨q,m,hq,rfl,HM,hD,hsm⟩:=hrel
      rename World=>wc
      by_cases hltc:q<4
      ·go_wp2_with fail
       generalize Value.bool (decide ((q:Int)<4))=vb at*
       go_loopw [20] (fun vi wr=> ∃(t:Nat) (m:Nat→Nat),t≤4∧vi= .int .i64 t∧Hid (∀j,j<16→m j=if dst j<4*q+t then each Gf.unbox z (dst j) else 0)∧DS w wr w.heap.size gU aw n ws z∧Blk wr gs 150 (row 16 (b8 m))) (fun vi _=>4-(intOf vi).toNat)
       case atStart=>exact⟨0,m,by omega,rfl,hid (by simpa using HM.out),hD,hsm⟩
       case round=>
        clear hD hsm HM
        clear m
        obtain⟨t,m,ht,rfl,HM,hD,hsm⟩:=hrel
        rename World=>wd
        by_cases hltd:t<4
        ·have hi:4*((q+t)%4)+t<16:=by omega
         have hj:4*q+t<16:=by omega
         have hzi:=HZb.out _ hj
         have hd1:=hD.blk.val _ hj
         have hd2:=hD.und.val _ hzi
         have Hsrc:Hid (4*((q+t)%4)+t=src (4*q+t)):=hid (src_at q t hltd)
         have x1:=wrap_i64 (4*(q:Int)) _ rfl (by omega) (by omega)
         have x2:=wrap_i64 (4*(q:Int)+(t:Int)) _ rfl (by omega) (by omega)
         have x3:=wrap_i64 ((q:Int)+(t:Int)) _ rfl (by omega) (by omega)
         have x4:((q:Int)+(t:Int)).tmod 4=((q:Int)+(t:Int))%4:=Int.tmod_eq_emod_of_nonneg (by omega)
         have x5:=wrap_i64 (4*(((q:Int)+(t:Int))%4)) _ rfl (by omega) (by omega)
         have x6:=wrap_i64 (4*(((q:Int)+(t:Int))%4)+(t:Int)) _ rfl (by omega) (by omega)
         go_wp2_with (first
          | (with_reducible refine wpl_at rfl 150 _ _ rfl _ rfl .i64 _ rfl (4*((q+t)%4)+t) (by omega) 16 5 Tryz.underlying150 hi i8 ?_)
          | (with_reducible refine wpl_at rfl 150 _ _ rfl _ rfl .i64 _ rfl (4*q+t) (by omega) 16 5 Tryz.underlying150 hj i8 ?_)
          | (with_reducible refine wpl_at rfl 169 _ _ rfl _ rfl .u8 _ rfl (z (4*q+t)) rfl 256 5 Tryz.underlying169 hzi i8 ?_)
          | (with_reducible refine wpl_ld rfl 5 _ rfl _ rfl .u8 Tryz.underlying5 _ hd1 ?_)
          | (with_reducible refine wpl_ld rfl 5 _ rfl _ rfl .u8 Tryz.underlying5 _ hd2 ?_)
          | (with_reducible refine wpl_st rfl 5 _ _ rfl _ rfl .u8 _ rfl i8 _ (hsm.val _ hi) (hsm.free _) ?_))
         go_round
         case rel=>exact⟨t+1,upd m (4*((q+t)%4)+t) (Gf.unbox (z (4*q+t))),by omega,val_int (by omega),hid (by rw[← Nat.add_assoc,Hsrc.out];exact back_step2 (f:=each Gf.unbox z) hj HM.out),hD.off gs _ _ (by omega) (by omega) (by omega),hsm.put _ _⟩
         case measure=>simp[intOf];omega
        obtain rfl:t=4:=by omega
        go_wp2_with fail
        go_round
        case rel=>exact⟨q+1,m,by omega,val_int (by omega),hid (by rw[Nat.mul_add];exact HM.out),hD,hsm⟩
        case measure=>simp[intOf];omega
      have hse:Blk wc gs 150 (row 16 (b8 (each Gf.unbox (rowsB z)))):=by
       have e:=row_b8_ext (n:=16) (f:=m) (g:=each Gf.unbox (rowsB z)) (fun j hj=>by rw[HM.out j hj,if_pos (by have:=dst_lt j;omega)];rfl)
       rw[← e];exact hsm
      clear hsm HM
      go_wp2_with (first
       | (with_reducible refine wpl_load rfl 150 _ rfl _ rfl 150 _ hse 16 5 Tryz.underlying150 (i16' _) ?_)
       | (with_reducible refine wpl_store rfl 150 _ _ rfl _ _ rfl rfl 150 _ hD.blk (i16' _) (by simp[row_size]) (one_b8 _ _) ?_))
      exact⟨⟨k+1,by omega,val_int (by have:=HrI.out;omega),by rw[Hstep.out];exact hD.setB _⟩,by simp[intOf];omega⟩
   obtain rfl:k=N:=by omega
   have hr1: ¬(k:Int)-(k:Int)≥1:=by omega
   obtain⟨x,Hx⟩: ∃x,Hid (decTo ws k b k=x):=⟨_,hid rfl⟩
   rw[Hx.out] at hD1
   have Hxb:Hid (By16 x):=hid (by rw[← Hx.out];exact HE.out k hkN)
   go_wp2_with fail
   go_loopw [21] (fun vi wr=> ∃(q:Nat) (m:Nat→Nat),q≤16∧vi= .int .i64 q∧Hid (∀j,m j=if j<q then rk ws 0 x j else x j)∧DS w wr w.heap.size gU aw n ws m) (fun vi _=>16-(intOf vi).toNat)
   case atStart=>exact⟨0,x,by omega,rfl,hid (by simp),hD1⟩
   case round=>
    clear hD1
    obtain⟨q,m,hq,rfl,HM,hD⟩:=hrel
    rename World=>w5
    by_cases hlt3:q<16
    ·have Hmq:Hid (m q=x q):=hid (by rw[HM.out,if_neg (by omega)])
     have hmb:m q<256:=by rw[Hmq.out];exact Hxb.out q hlt3
     have hwi:q<n:=by have:=Hnn.out;omega
     have hwl:=Hws.out q
     go_wp2_with fail
     refine wp_region_still_tail 10 (by kernel_rfl) (by kernel_rfl) ?_
     simp only[List.take_succ_cons,List.take_zero,List.drop_succ_cons,List.drop_zero]
     change wpStill _ _ w5.drew (fun a'=>wpList _ _ _ _ a' w5.drew) _ _
     have hD':=hD.drew
     clear hD
     generalize w5.drew=w6 at*
     have hd1:=hD'.blk.val q hlt3
     have hd2:=hD'.word _ hwi
     repeat (first
      | (with_reducible refine wps_at rfl 150 _ _ rfl _ rfl .i64 _ rfl q rfl 16 5 Tryz.underlying150 hlt3 i8 ?_)
      | (with_reducible refine wps_slw rfl 22 _ _ rfl aw n cw rfl .i64 _ rfl q rfl 5 Tryz.underlying22 hwi i8 ?_)
      | (with_reducible refine wps_ld rfl 5 _ rfl _ rfl .u8 Tryz.underlying5 _ hd1 ?_)
      | (with_reducible refine wps_ld rfl 5 _ rfl _ rfl .u8 Tryz.underlying5 _ hd2 ?_)
      | still_step)
     refine wpStill_nil ?_
     clear hd1 hd2
     go_wp2_with (with_reducible refine wpl_st rfl 5 _ _ rfl _ rfl .u8 _ rfl i8 _ (hD'.blk.val q hlt3) (hD'.blk.free q) ?_)
     go_round
     case rel=>
      rw[u8_xor_nat _ _ hmb hwl,show m q ^^^ ws q=rk ws 0 x q by unfold rk;rw[Hmq.out,Nat.mul_zero,Nat.zero_add]]
      exact⟨q+1,upd m q (rk ws 0 x q),by omega,val_int (by omega),hid (fill_step (F:=rk ws 0 x) HM.out),hD'.put q _⟩
     case measure=>simp[intOf];omega
    have hD5:DS w w5 w.heap.size gU aw n ws (rk ws 0 x):=hD.same (fill_end HM.out (by omega))
    clear hD HM
    go_wp2_with (first
     | (with_reducible refine wpl_load rfl 150 _ rfl _ rfl 150 _ hD5.blk 16 5 Tryz.underlying150 (i16' _) ?_)
     | (with_reducible refine wpl_store rfl 150 _ _ rfl _ _ rfl rfl 150 _ hD5.res (i16' _) (by simp[row_size]) (one_b8 _ _) ?_))
    exact ret_row Tryz.results94 rfl (w.heap.size+1) rfl 150 16 _ (hD5.res.setRow _) 5 Tryz.underlying150 i16 ⟨ret_agg (fun i _=>by rw[Hres.out i,Hx.out]),below_setRow' hD5.bel (by omega) _⟩
end Go.Proofs.YtlmacfmfmjhidaaGreatDoor.Aes
