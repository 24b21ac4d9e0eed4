/-
 What Wrap of lockboxref11 returns.
-/
import Derived.Test.YtlmacfmfmjhidaaGreatDoorWrZ
import Derived.Test.YtlmacfmfmjhidaaGreatDoorDig4
namespace Go.Proofs.YtlmacfmfmjhidaaGreatDoor.Wr
open Mem Bk Md Mc R6 Rc Dg Hd Go.ChangeShapes Go.WideShapes Go.ChangeAt Go.RowKit
theorem wpl_app_cv {ops:Array Oper}{rest:List Oper}{o:Oper}{a:Act}{w:World}{Q:Exit→Act→World→Prop} (hgd:o.guard=none) (p q:Operand) (ho:o.op= .call {callee:= .builtin .append,args:=#[p,q],argTypes:=#[22,22]}) (g n c:Nat) (f:Nat→Nat) (hp:a.eval p= .slice (some ⟨g,0,none⟩) n c) (hc:Cv w g n c f)
  (ad:Addr) (m c2:Nat) (h:Nat→Nat) (B:Nat) (hR:Reads w B (some ad) m h) (hq:a.eval q= .slice (some ad) m c2) (hm:0<m) (hn:n+m≤1000000)
  (hK: ∀g' c' w',n+m≤c'→Reads w' w'.heap.size (some ⟨g',0,none⟩) (n+m) (cat n f h)→Below g w w'→wpList Tryz.prog ops Q rest (a.put o.dst (.slice (some ⟨g',0,none⟩) (n+m) c')) w'):wpList Tryz.prog ops Q (o::rest) a w:=
 wpList_plain hgd fun _ hk=>wp_app_cv p q ho g n c f hp hc ad m c2 h B hR hq hm hn fun g' c' w' h1 h2 h3=>hk _ _ (hK g' c' w' h1 h2 h3)
theorem two_row (L:Nat): #[Value.int .u8 ((8*L/256%256:Nat):Int), .int .u8 ((8*L%256:Nat):Int)]=row 2 (b8 (btF L)):=rfl
set_option maxRecDepth 100000 in
set_option maxHeartbeats 4000000 in
set_option linter.unusedSimpArgs false in
theorem rwrap_any {k L:Nat}{W:Nat→Nat}{h:Hd}{L2 L3:Nat}{key fl:Nat→Nat}{M N T:Nat}{tx cd hd:Nat→Nat} (d:Wd k L W h L2 L3 key fl M N T tx cd hd) (A A2 A3:Option Addr) (c c2 c3:Nat) (hc:L≤c) (w:World) (hX:Reads w w.heap.size A L W) (hK:Reads w w.heap.size A2 L2 key) (hL:Reads w w.heap.size A3 L3 fl):
  Calls Tryz.prog 14 #[.slice A L c, .agg (hdC h), .slice A2 L2 c2, .slice A3 L3 c3] w fun e w'=>Below w.heap.size w w'∧e= .returned (.string (strF T (bkF M T h hd cd))):=by
 rw[← d.str]
 have hsz:=d.sizes
 have hsp:=Md.sz_pos k
 have hso:=sz_or k
 have Hkk:=hid d.kk
 have Hk3:Hid (k=1∨k=2∨k=3):=hid (by have:=d.kk;omega)
 have Hfk:=hid d.fk
 have Hfit:=hid (kfit_fits d.fk d.kk)
 have Hwb:=hid d.wb
 have Hok:=hid d.ok
 have Hw:=hid d.w
 have Hv:=hid d.v
 have HM:=hid d.eM
 have HMN:=hid d.eN
 have HT:=hid d.eT
 have Htx:=hid d.etx
 have Hcd:=hid d.ecd
 have Hhd:=hid d.ehd
 have Htb:=hid d.txb
 have Hcb:=hid d.cdb
 have Hhb:=hid d.hdb
 have Hdv:=hid d.div
 have HPb:Hid (∀i,i<16→prF h T i<256):=hid (prF_lt d.ok T)
 have Hct:Hid (∀i,i<16+M→cat 16 (prF h T) tx i<256):=hid fun i hi=>by
  unfold cat
  split
  ·exact HPb.out i (by assumption)
  exact Htb.out _ (by omega)
 have hLb:=kfit_le d.fk
 have hL2b:16≤L2∧L2≤32:=by omega
 have hL3b:0<L3∧L3≤16:=⟨hsz.2.1,hsz.2.2.1⟩
 have hMb:0<M∧M≤64:=⟨hsz.2.2.2.2.1,hsz.2.2.2.2.2.1⟩
 have hTb:16≤T∧T≤9999:=by omega
 have hB0:=(Below.refl w.heap.size w).alloc (Nat.le_refl _) (.cells (hdC h) 24)
 have Hh:=hid (Blk.fresh w 24 (hdC h))
 have HB:=hid hB0
 have HX:=hid ((hX.below hB0).more hB0.size)
 have HK:=hid ((hK.below hB0).more hB0.size)
 have HF:=hid ((hL.below hB0).more hB0.size)
 have hc0:(w.alloc (.cells (hdC h) 24)).cell? ⟨w.heap.size,0,none⟩=some (.int .u8 (h.v:Int)):=(Hh.out.cell 0).trans rfl
 have HS:Hid (sz k≤16):=hid (by omega)
 have E3:Hid ((L2:Int)*(8:Int)=((8*L2:Nat):Int)∧(0:Int)≤((8*L2:Nat):Int)∧((8*L2:Nat):Int)≤100000):=hid ⟨by omega,by omega,by omega⟩
 have E4:Hid ((0:Int)≤((8*L2:Nat):Int)∧(0:Int)<256∧((8*L2:Nat):Int)/256=((8*L2/256%256:Nat):Int)∧(0:Int)≤((8*L2/256%256:Nat):Int)∧((8*L2/256%256:Nat):Int)≤100000):=hid ⟨by omega,by omega,by omega,by omega,by omega⟩
 have E5:Hid ((0:Int)≤((8*L2:Nat):Int)∧(0:Int)<256∧((8*L2:Nat):Int)%256=((8*L2%256:Nat):Int)):=hid ⟨by omega,by omega,by omega⟩
 have E6:Hid ((2:Int)*(M:Int)=((2*M:Nat):Int)∧(0:Int)≤((2*M:Nat):Int)∧((2*M:Nat):Int)≤100000):=hid ⟨by omega,by omega,by omega⟩
 have E7:Hid ((16:Int)+((2*M:Nat):Int)=((16+2*M:Nat):Int)∧(0:Int)≤((16+2*M:Nat):Int)∧((16+2*M:Nat):Int)≤100000):=hid ⟨by omega,by omega,by omega⟩
 have E8:Hid ((2:Int)*(sz k:Int)=((2*sz k:Nat):Int)∧(0:Int)≤((2*sz k:Nat):Int)∧((2*sz k:Nat):Int)≤100000):=hid ⟨by omega,by omega,by omega⟩
 have E9:Hid (((16+2*M:Nat):Int)+((2*sz k:Nat):Int)=(T:Int)∧(0:Int)≤(T:Int)∧(T:Int)≤100000):=hid ⟨by have:=HT.out;omega,by omega,by omega⟩
 have l4:8*L2/256%256<256:=Nat.mod_lt _ (by decide)
 have l5:8*L2%256<256:=Nat.mod_lt _ (by decide)
 have hb2:=Dg.bs2
 have h2r:=two_row L2
 have hA2:Hid (A2=none→L2=0∧c2=0):=hid fun h=>by
  obtain⟨ad,h1,-⟩:=hK (by omega)
  rw[h] at h1
  cases h1
 have hA3:Hid (A3=none→L3=0∧c3=0):=hid fun h=>by
  obtain⟨ad,h1,-⟩:=hL (by omega)
  rw[h] at h1
  cases h1
 clear d hX hK hL hB0 hsz
 go_enter Tryz.func14,Tryz.ntmps14
 go_wp2_with (with_reducible refine wpl_valw rfl _ (exec_ldc 5 _ rfl ⟨w.heap.size,0,none⟩ rfl _ hc0 (.inl ⟨_,Tryz.underlying5⟩)) ?_)
 refine(rkeys_ok h.v k Hv.out Hkk.out A L c W _ Hfk.out hc Hwb.out HX.out).mono ?_
 rintro e w1 ⟨A1,c1,A4,c4,rfl,hc1,hc4,hR1,hR4,hB1⟩
 have HO1:=hid hR1
 have HU1:=hid hR4
 have Hh1:=hid (Hh.out.below hB1 Hh.out.lt)
 have HK1:=hid ((HK.out.below hB1).more hB1.size)
 have HF1:=hid ((HF.out.below hB1).more hB1.size)
 have HB1:=hid (HB.out.trans (hB1.mono HB.out.size))
 have hc01:w1.cell? ⟨w.heap.size,0,none⟩=some (.int .u8 (h.v:Int)):=(Hh1.out.cell 0).trans rfl
 clear hR1 hR4 hB1 Hh HK HF HB HX hc0
 go_wp2_with (first
  | (with_reducible refine wpl_valw rfl _ (exec_ldc 5 _ rfl ⟨w.heap.size,0,none⟩ rfl _ hc01 (.inl ⟨_,Tryz.underlying5⟩)) ?_)
  | (go_at_call 32;refine(rkind_any h.v _).mono ?_;rintro x2 w2 ⟨rfl,hw2⟩;subst hw2;rw[Hv.out])
  | (go_at_call 34;refine(rsize_any k Hk3.out _).mono ?_;rintro x2 w3 ⟨rfl,hw3⟩;subst hw3)
  | (with_reducible refine wpl_val rfl _ (exec_mulN _ _ _ _ rfl _ _ _ rfl rfl E3.out) ?_)
  | (with_reducible refine wpl_val rfl _ (exec_quoN _ _ _ _ rfl _ _ _ rfl rfl E4.out) ?_)
  | (with_reducible refine wpl_val rfl _ (exec_remN _ _ _ _ rfl _ _ _ rfl rfl E5.out) ?_)
  | (with_reducible refine wpl_val rfl _ (exec_c8 _ _ _ rfl (8*L2/256%256) l4 rfl Tryz.underlying3 Tryz.underlying5) ?_)
  | (with_reducible refine wpl_val rfl _ (exec_c8 _ _ _ rfl (8*L2%256) l5 rfl Tryz.underlying3 Tryz.underlying5) ?_)
  | (at_builtin;have hBa:Below w3.heap.size w3 (w3.alloc (.cells (row 2 (b8 (btF L2))) 5)):=(Below.refl _ _).alloc (Nat.le_refl _) _;have Hoa:Mem.Own (w3.alloc (.cells (row 2 (b8 (btF L2))) 5)) w3.heap.size 5 1 (.slice (some ⟨w3.heap.size,0,none⟩) 2 2) 2 (btF L2):=Mc.own_row (Blk.fresh _ _ _) (Nat.le_refl _) (by omega);refine wpl_app_gen rfl _ _ 22 rfl w3.heap.size 5 (.int .u8 0) Tryz.underlying22 wi8 rfl _ 2 _ rfl Hoa A2 L2 c2 _ _ ((HK1.out.below hBa).more hBa.size) hA2.out rfl (by omega) hBa.size ?_))
 intro v4 w4 ho4 hB4
 obtain⟨A5,c5,rfl,-⟩:=ho4.slice'
 have hBa:Below w3.heap.size w3 w4:=((Below.refl w3.heap.size w3).alloc (Nat.le_refl _) _).trans hB4
 have HO4:=hid ho4
 have hle4:w3.heap.size≤w4.heap.size:=hBa.size
 have HF4:=hid ((HF1.out.below hBa).more hBa.size)
 have HBa:=hid hBa
 clear ho4 hB4 hBa HK1 hc01 h2r hb2
 go_wp2_with (at_builtin; (refine wpl_app_gen rfl _ _ 22 rfl w3.heap.size 5 (.int .u8 0) Tryz.underlying22 wi8 rfl _ (2+L2) _ rfl HO4.out A3 L3 c3 _ _ HF4.out hA3.out rfl (by omega) hle4 ?_))
 intro v5 w5 ho5 hB5
 rw[← HM.out] at ho5
 obtain⟨A6,c6,rfl,hc6,-⟩:=ho5.slice'
 obtain⟨ad,rfl⟩: ∃ad,A6=some ad:=by
  obtain⟨ad,h1,-⟩:=ho5.reads hMb.1
  exact⟨ad,h1⟩
 have HT5:Hid (Reads w5 w5.heap.size (some ad) M tx):=hid (by rw[Htx.out];exact ho5.reads)
 have hBb:=HBa.out.trans hB5
 have Hh5:=hid (Hh1.out.below hBb Hh1.out.lt)
 have HO5:=hid ((HO1.out.below hBb).more hBb.size)
 have HU5:=hid ((HU1.out.below hBb).more hBb.size)
 have HB5:=hid (HB1.out.trans (hBb.mono HB1.out.size))
 clear Hh1 HO1 HU1 HB1 hBb
 clear ho5 hB5 HBa HF4 HO4 HF1 hle4
 go_wp2_with (first
  | (with_reducible refine wpl_valw rfl _ (exec_ldcs 24 _ rfl w.heap.size rfl 24 _ Hh5.out _ Tryz.underlying24 (sizeC _)) ?_)
  | (with_reducible refine wpl_val rfl _ (exec_mulN _ _ _ _ rfl _ _ _ rfl rfl E6.out) ?_)
  | (with_reducible refine wpl_val rfl _ (exec_addN _ _ _ _ rfl _ _ _ rfl rfl E7.out) ?_)
  | (with_reducible refine wpl_val rfl _ (exec_mulN _ _ _ _ rfl _ _ _ rfl rfl E8.out) ?_)
  | (with_reducible refine wpl_val rfl _ (exec_addN _ _ _ _ rfl _ _ _ rfl rfl E9.out) ?_))
 refine(rprint_ok h Hok.out Hw.out T hTb.1 hTb.2 _).mono ?_
 rintro e w6 ⟨rfl,hB6⟩
 have HT6:=hid ((HT5.out.below hB6).more hB6.size)
 have HO6:=hid ((HO5.out.below hB6).more hB6.size)
 have HU6:=hid ((HU5.out.below hB6).more hB6.size)
 have HB6:=hid (HB5.out.trans (hB6.mono HB5.out.size))
 clear HT5 HO5 HU5 HB5 hB6
 clear Hh5
 go_wp2_with (first
  | (with_reducible refine wpl_valw rfl _ (exec_bytes _ rfl 16 (prF h T) rfl) ?_)
  | (at_builtin;have hcv:=cv_new w6 16 (prF h T) (by omega) HPb.out;have hbb:=below_bytes w6 5 (strF 16 (prF h T));refine wpl_app_cv rfl _ _ rfl w6.heap.size 16 _ (prF h T) rfl hcv ad M c6 tx _ ((HT6.out.below hbb).more hbb.size) rfl hMb.1 (by omega) ?_))
 intro g7 c7 w7 hc7 hR7 hB7
 have hBc:Below w6.heap.size w6 w7:=(below_bytes w6 5 (strF 16 (prF h T))).trans hB7
 have HT7:=hid ((HT6.out.below hBc).more hBc.size)
 have HO7:=hid ((HO6.out.below hBc).more hBc.size)
 have HU7:=hid ((HU6.out.below hBc).more hBc.size)
 have HB7:=hid (HB6.out.trans (hBc.mono HB6.out.size))
 clear HT6 HO6 HU6 HB6 hBc
 clear hB7
 go_wp2_with (with_reducible refine wpl_build0 rfl 72 rfl _ builtB0 ?_)
 refine(rcmac12 k L Hkk.out Hfit.out A4 c4 (kyF k L W 1) hc4 (kyF_lt Hfk.out Hkk.out Hwb.out (by decide)) (some ⟨g7,0,none⟩) (16+M) c7 (cat 16 (prF h T) tx) _ HU7.out (by omega) (fun h=>by cases h) Hct.out hR7).mono ?_
 rintro e w8 ⟨bA,bn,bc,tA,tn,tc,A8,c8,rfl,hc8,hR8,hB8⟩
 have hcdd:cmacF k L (kyF k L W 1) (16+M) (cat 16 (prF h T) tx)=cd:=Hcd.out.symm
 rw[hcdd] at hR8
 have hB9:=(Below.refl w8.heap.size w8).alloc (Nat.le_refl _) (.cells (row 2 (bookC (.slice bA bn bc) (.slice tA tn tc))) 72)
 have hBd:=hB8.trans (hB9.mono hB8.size)
 have HC9:=hid ((hR8.below hB9).more hB9.size)
 have HT9:=hid ((HT7.out.below hBd).more hBd.size)
 have HO9:=hid ((HO7.out.below hBd).more hBd.size)
 have HB9:=hid (HB7.out.trans (hBd.mono HB7.out.size))
 clear HT7 HO7 HB7 hBd
 clear hB8 hB9 hR8 hR7 hcdd HU7
 go_wp2_with (first
  | (with_reducible refine wpl_alloc rfl 72 rfl _ zRB2 ?_)
  | (with_reducible refine wpl_store_newS rfl 72 _ _ rfl w8 _ 2 _ (one2 _ _ _ _ _ _) rfl rfl 72 iRB (row_size _ _) ?_)
  | (with_reducible refine wpl_build0 rfl 72 rfl _ builtB0 ?_))
 refine(rmode12 k L Hkk.out Hfit.out A1 c1 (kyF k L W 0) hc1 (kyF_lt Hfk.out Hkk.out Hwb.out (by decide)) false A8 c8 cd (some ad) M c6 N tx _ HO9.out HMN.out (by omega) hc6 Htb.out HT9.out Hcb.out HC9.out).mono ?_
 rintro e w10 ⟨dA,dn,dc,uA,un,uc,v10,rfl,ho10,hB10⟩
 have hhdd:chainF k L (kyF k L W 0) false cd tx N=hd:=by rw[Hhd.out];unfold hdF;rw[Hdv.out]
 rw[hhdd] at ho10
 obtain⟨A10,c10,rfl,-⟩:=ho10.slice'
 have hB11:=(Below.refl w10.heap.size w10).alloc (Nat.le_refl _) (.cells (row 2 (bookC (.slice dA dn dc) (.slice uA un uc))) 72)
 have hBe:=hB10.trans (hB11.mono hB10.size)
 have HY11:=hid ((ho10.reads.below hB11).more hB11.size)
 have HC11:=hid ((HC9.out.below hBe).more hBe.size)
 have HB11:=hid (HB9.out.trans (hBe.mono HB9.out.size))
 clear HC9 HB9 hBe
 clear hB10 hB11 ho10 hhdd HT9 HO9
 go_wp2_with (first
  | (with_reducible refine wpl_alloc rfl 72 rfl _ zRB2 ?_)
  | (with_reducible refine wpl_store_newS rfl 72 _ _ rfl w10 _ 2 _ (one2 _ _ _ _ _ _) rfl rfl 72 iRB (row_size _ _) ?_))
 refine(rhex_any A10 M c10 hd _ (by omega) Hhb.out HY11.out).mono ?_
 rintro e w12 ⟨rfl,hB12⟩
 have HC12:=hid ((HC11.out.below hB12).more hB12.size)
 have HB12:=hid (HB11.out.trans (hB12.mono HB11.out.size))
 clear HC11 HB11 hB12
 clear HY11
 go_wp2_with (with_reducible refine wpl_val rfl _ (exec_cat _ _ _ _ rfl 16 (2*M) (prF h T) (hexF hd) rfl rfl (by omega)) ?_)
 refine(rhex_any A8 (sz k) c8 cd _ (by omega) Hcb.out HC12.out).mono ?_
 rintro e w13 ⟨rfl,hB13⟩
 have HB13:=hid (HB12.out.trans (hB13.mono HB12.out.size))
 clear HB12 hB13
 clear HC12
 go_wp2_with (with_reducible refine wpl_val rfl _ (exec_cat _ _ _ _ rfl (16+2*M) (2*sz k) _ (hexF cd) rfl rfl (by omega)) ?_)
 rw[← HT.out]
 go_ret
 exact⟨HB13.out,rfl⟩
end Go.Proofs.YtlmacfmfmjhidaaGreatDoor.Wr
