/-
 Rb0 Rb1 Rb2
-/
import Derived.Test.YtlmacfmfmjhidaaGreatDoorWrY
import Derived.Test.YtlmacfmfmjhidaaGreatDoorRefY
import Derived.Test.YtlmacfmfmjhidaaGreatDoorRefDoX
namespace Go.Proofs.YtlmacfmfmjhidaaGreatDoor.Wr
def bk0:Value:= .agg #[.slice none 0 0, .slice none 0 0]
end Go.Proofs.YtlmacfmfmjhidaaGreatDoor.Wr
namespace Go.Proofs.YtlmacfmfmjhidaaGreatDoor.Wr.Rb
open Mem Bk Md Mc R6 Rc Dg Wr Go.ChangeShapes Go.WideShapes Go.ChangeAt Go.RowKit
theorem rdo0 (k Lk:Nat) (hk:k=1∨k=2) (hf:fits k Lk) (Ak:Option Addr) (ck:Nat) (key:Nat→Nat) (hck:Lk≤ck) (hkb: ∀i,i<Lk→key i<256) (bk:Bool) (Ax:Option Addr) (cx:Nat) (x:Nat→Nat) (w:World) (hkey:Reads w w.heap.size Ak Lk key) (hx:Reads w w.heap.size Ax (sz k) x) (hxb: ∀i,i<sz k→x i<256):
  Calls Tryz.prog 63 #[.int .i64 (k:Int), .slice Ak Lk ck,bk0, .slice Ax (sz k) cx, .bool bk] w fun e w'=> ∃A c,e= .returned (.tuple #[bk0, .slice A (sz k) c, .bool true])∧Reads w' w'.heap.size A (sz k) (tc k Lk key bk x)∧(∀ad,A=some ad→w.heap.size≤ad.block)∧Below w.heap.size w w':=by
 rcases hk with rfl | rfl
 ·have hL:Aes.IsKey Lk:=by
   rcases hf with⟨-,h⟩ | ⟨h,-⟩ | ⟨h,-⟩
   ·exact h
   ·cases h
   cases h
  have e1:sz 1=16:=rfl
  rw[e1] at hx hxb ⊢
  have hf1:tc 1 Lk key false x=Aes.enc (Aes.words Lk key) (Aes.rnd Lk) x:=by unfold tc;rw[if_pos rfl];rfl
  have hb1:tc 1 Lk key true x=Aes.dec (Aes.words Lk key) (Aes.rnd Lk) x:=by unfold tc;rw[if_pos rfl];rfl
  have fin: ∀(y:Nat→Nat) (e:Ending) (w':World),(∃g,e= .returned (.tuple #[.agg #[.slice none 0 0, .slice none 0 0], .slice (some ⟨g,0,none⟩) 16 16, .bool true])∧Blk w' g 150 (row 16 (b8 y))∧w.heap.size≤g∧Below w.heap.size w w')→∃A c,e= .returned (.tuple #[bk0, .slice A 16 c, .bool true])∧Reads w' w'.heap.size A 16 y∧(∀ad,A=some ad→w.heap.size≤ad.block)∧Below w.heap.size w w':=by
   rintro y e w' ⟨g,rfl,hb,hg,hB⟩
   refine⟨some ⟨g,0,none⟩,16,rfl,Blk.reads hb,?_,hB⟩
   rintro ad h
   cases h
   exact hg
  cases bk
  ·rw[hf1]
   exact(rdo_forth none 0 0 none 0 0 Ak Lk ck key Ax cx x w hL hkey hkb hx hxb _ rfl).mono (fin _)
  rw[hb1]
  exact(rdo_back none 0 0 none 0 0 Ak Lk ck key Ax cx x w hL hkey hkb hx hxb _ rfl).mono (fin _)
 have hL:Des.IsTKey Lk:=by
  rcases hf with⟨h,-⟩ | ⟨-,h⟩ | ⟨h,-⟩
  ·cases h
  ·exact h
  cases h
 have e2:sz 2=8:=rfl
 have ht:tc 2 Lk key bk x=Des.tdes Lk key x bk:=by unfold tc;rw[if_neg (by decide)]
 rw[e2] at hx hxb ⊢
 rw[ht]
 refine(rdo_tdes none 0 0 none 0 0 Ak Lk ck key Ax cx x bk w hL hck hkey hkb hx hxb _ rfl).mono ?_
 rintro e w' ⟨A,c,rfl,hl,hB,hg⟩
 refine⟨A,c,rfl,fun hn=>?_,hg,hB⟩
 obtain⟨ad,h1,h2,h3⟩:=Bk.Lst.readsU8 hl hn
 exact⟨ad,h1,h2,h3⟩
end Go.Proofs.YtlmacfmfmjhidaaGreatDoor.Wr.Rb
namespace Go.Proofs.YtlmacfmfmjhidaaGreatDoor.Wr.Rb
open Mem Bk Md Mc R6 Rc Dg Wr Go.ChangeShapes Go.WideShapes Go.ChangeAt Go.RowKit
def rn (k L:Nat) (key:Nat→Nat) (bk:Bool) (s x:Nat→Nat) (j:Nat):=run (stC k L key bk) (sz k) (tb k x) s (List.range j)
section
variable {k L:Nat}{key:Nat→Nat}{s x:Nat→Nat}{j:Nat}
theorem rn_succ (bk:Bool):rn k L key bk s x (j+1)=((stC k L key bk (rn k L key bk s x j).1 (tb k x j)).2,cat (j*sz k) (rn k L key bk s x j).2.1 (stC k L key bk (rn k L key bk s x j).1 (tb k x j)).1,j*sz k+sz k):=by
 unfold rn
 rw[List.range_succ,run_snoc,run_len,List.length_range]
theorem rnf_st:(rn k L key false s x (j+1)).1=tc k L key false (xr (tb k x j) (rn k L key false s x j).1):=by rw[rn_succ];rfl
theorem rnf_out:(rn k L key false s x (j+1)).2.1=cat (j*sz k) (rn k L key false s x j).2.1 (tc k L key false (xr (tb k x j) (rn k L key false s x j).1)):=by rw[rn_succ];rfl
theorem rnb_st:(rn k L key true s x (j+1)).1=tb k x j:=by rw[rn_succ];rfl
theorem rnb_out:(rn k L key true s x (j+1)).2.1=cat (j*sz k) (rn k L key true s x j).2.1 (xr (tc k L key true (tb k x j)) (rn k L key true s x j).1):=by rw[rn_succ];rfl
theorem rn_chain (bk:Bool):(rn k L key bk s x j).2.1=chainF k L key bk s x j:=rfl
theorem bk0_row:bk0= .agg (row 2 (bookC (.slice none 0 0) (.slice none 0 0))):=by unfold bk0;rw[row2]
end
set_option maxRecDepth 100000 in
set_option maxHeartbeats 2000000 in
set_option linter.unusedSimpArgs false in
theorem rmode0f (k Lk:Nat) (hk:k=1∨k=2) (hf:fits k Lk) (Ak:Option Addr) (ck:Nat) (key:Nat→Nat) (hck:Lk≤ck) (hkb: ∀i,i<Lk→key i<256) (As:Option Addr) (cs:Nat) (s:Nat→Nat) (A:Option Addr) (M c N:Nat) (x:Nat→Nat) (w:World) (hkey:Reads w w.heap.size Ak Lk key) (hM:M=N*sz k) (hM1:M≤1000) (hc:M≤c) (hx: ∀i,i<M→x i<256) (hR:Reads w w.heap.size A M x) (hs: ∀i,i<sz k→s i<256) (hRs:Reads w w.heap.size As (sz k) s):
  Calls Tryz.prog 36 #[.int .i64 (k:Int), .slice Ak Lk ck,bk0, .slice As (sz k) cs, .slice A M c, .bool false] w fun e w'=> ∃v,e= .returned (.tuple #[bk0,v, .int .i64 (-1)])∧Mem.Own w' w.heap.size 5 1 v M (chainF k Lk key false s x N)∧Below w.heap.size w w':=by
 have hkk:k=1∨k=2∨k=3:=by omega
 have Hk3:Hid (k≠3):=hid (by omega)
 obtain⟨hs1,hs2⟩:=R6.sz_pos k
 rw[bk0_row]
 have HDo:Hid (∀(bk:Bool) (Ax:Option Addr) (cx:Nat) (x:Nat→Nat) (w:World),Reads w w.heap.size Ak Lk key→Reads w w.heap.size Ax (sz k) x→(∀i,i<sz k→x i<256)→Calls Tryz.prog 63 #[.int .i64 (k:Int), .slice Ak Lk ck, .agg (row 2 (bookC (.slice none 0 0) (.slice none 0 0))), .slice Ax (sz k) cx, .bool bk] w fun e w'=> ∃A c,e= .returned (.tuple #[.agg (row 2 (bookC (.slice none 0 0) (.slice none 0 0))), .slice A (sz k) c, .bool true])∧Reads w' w'.heap.size A (sz k) (tc k Lk key bk x)∧(∀ad,A=some ad→w.heap.size≤ad.block)∧Below w.heap.size w w'):=hid (fun bk Ax cx x w h1 h2 h3=>by
  have h:=rdo0 k Lk hk hf Ak ck key hck hkb bk Ax cx x w h1 h2 h3
  rw[bk0_row] at h
  exact h)
 have hB0:Below w.heap.size w ((w.alloc (.cells (row 2 (bookC (.slice none 0 0) (.slice none 0 0))) 72)).alloc (.cells (row 2 (bookC (.slice none 0 0) (.slice none 0 0))) 72)):=((Below.refl _ _).alloc (Nat.le_refl _) _).alloc (by simp) _
 have h8:Blk ((w.alloc (.cells (row 2 (bookC (.slice none 0 0) (.slice none 0 0))) 72)).alloc (.cells (row 2 (bookC (.slice none 0 0) (.slice none 0 0))) 72)) w.heap.size 72 (row 2 (bookC (.slice none 0 0) (.slice none 0 0))):=(Blk.fresh _ _ _).alloc _
 have h12:Blk ((w.alloc (.cells (row 2 (bookC (.slice none 0 0) (.slice none 0 0))) 72)).alloc (.cells (row 2 (bookC (.slice none 0 0) (.slice none 0 0))) 72)) (w.heap.size+1) 72 (row 2 (bookC (.slice none 0 0) (.slice none 0 0))):=by
  have:=Blk.fresh (w.alloc (.cells (row 2 (bookC (.slice none 0 0) (.slice none 0 0))) 72)) 72 (row 2 (bookC (.slice none 0 0) (.slice none 0 0)))
  simpa using this
 have hz:(((w.alloc (.cells (row 2 (bookC (.slice none 0 0) (.slice none 0 0))) 72)).alloc (.cells (row 2 (bookC (.slice none 0 0) (.slice none 0 0))) 72))).heap.size=w.heap.size+2:=by simp
 have HS0:=hid (reads_off0 hRs hB0)
 have HKw:=hid hkey
 have HXw:=hid hR
 have Hsb:=hid hs
 have HM:=hid hM
 have Hx:=hid hx
 have Hkb:=hid hkb
 have HB0:=hid hB0
 have H8:=hid h8
 have H12:=hid h12
 have HSZ:=hid (rsize_any k hkk)
 clear hkey hR hM hx hB0 hs hRs h8 h12 hkb hk
 go_enter Tryz.func36,Tryz.ntmps36
 go_wp2_with (first
  | (with_reducible refine wpl_alloc rfl 72 rfl _ zRB2 ?_)
  | (go_at_call 34;refine(HSZ.out _).mono ?_;rintro e wa ⟨rfl,rfl⟩))
 generalize ((w.alloc (.cells (row 2 (bookC (.slice none 0 0) (.slice none 0 0))) 72)).alloc (.cells (row 2 (bookC (.slice none 0 0) (.slice none 0 0))) 72))=w1 at*
 go_loopw [16,17,18,19,20,21,22] (fun lv ov iv _ _ _ _ wr=> ∃(j q:Nat) (Al:Option Addr) (cl:Nat),j≤N∧Hid (q=j*sz k)∧q≤M∧iv= .int .i64 (q:Int)∧lv= .slice Al (sz k) cl∧Hid (Blk wr w.heap.size 72 (row 2 (bookC (.slice none 0 0) (.slice none 0 0))))∧Hid (Blk wr (w.heap.size+1) 72 (row 2 (bookC (.slice none 0 0) (.slice none 0 0))))∧Hid (Mem.Own wr (w.heap.size+2) 5 1 ov q (rn k Lk key false s x j).2.1)∧Hid (Below w.heap.size w wr)∧w.heap.size+2≤wr.heap.size∧Hid (∀i,i<sz k→(rn k Lk key false s x j).1 i<256)∧Hid (ReadsP wr (offV w.heap.size wr ov) Al (sz k) (rn k Lk key false s x j).1)) (fun _ _ iv _ _ _ _ _=>M-(intOf iv).toNat)
 case atStart=>exact⟨0,0,As,cs,by omega,hid (by simp),by omega,rfl,rfl,H8,H12,hid (Mem.Own.nil _ _ _ _ _),HB0,by omega,Hsb,HS0⟩
 case round=>
  clear H8 H12 HB0 hz HS0 Hsb
  obtain⟨j,q,Al,cl,hj,hq,hqM,rfl,rfl,H8,H12,HO,HB,hsz,Hsl,HSl⟩:=hrel
  obtain⟨Ao,co,rfl,hco,-⟩:=HO.out.slice'
  by_cases hlt:j<N
  ·have hqn:q+sz k≤M:=by
    have:=Nat.mul_le_mul_right (sz k) (show j+1≤N from hlt)
    rw[Nat.succ_mul,← hq.out,← HM.out] at this
    exact this
   have hqI:(q:Int)+(sz k:Int)≤(M:Int):=by omega
   obtain⟨ad,rfl,had,hcs⟩:=HXw.out (by omega)
   have hxb:Hid (∀i,i<sz k→tb k x j i<256):=hid (fun i hi=>by unfold tb;rw[← hq.out];exact Hx.out _ (by omega))
   have HXb:Hid (∀W,Below w.heap.size w W→Reads W W.heap.size (some (ad.add q)) (sz k) (tb k x j)):=hid (fun W hW _=>⟨_,rfl,by rw[add_block];exact Nat.lt_of_lt_of_le had hW.size,fun i hi=>by
    rw[add_add]
    unfold tb
    rw[← hq.out]
    exact(hW.cell (p:=ad.add (q+i)) (by rw[add_block];exact had)).trans (hcs _ (by omega))⟩)
   clear hcs
   have hsgt: ¬(sz k:Int)≤0:=by omega
   have HSr:Hid (Reads wr wr.heap.size Al (sz k) (rn k Lk key false s x j).1):=hid (HSl.out.more (fun _ hg=>hg.1))
   go_wp2_with (first | (with_reducible refine wpl_val rfl _ (exec_cutB _ _ _ rfl ad M c q (sz k) _ rfl rfl rfl (by omega) hs1 (by omega)) ?_))
   refine(rxor_any _ _ (sz k) _ cl (tb k x j) (rn k Lk key false s x j).1 _ (by omega) hxb.out Hsl.out (HXb.out _ HB.out) HSr.out).mono ?_
   rintro e wx ⟨vx,rfl,hox,hBx⟩
   obtain⟨Ax,cx,rfl,hcx,-⟩:=hox.slice'
   have hain:Hid (Reads wx wx.heap.size Ax (sz k) (xr (tb k x j) (rn k Lk key false s x j).1)):=hid hox.reads
   have hainb:Hid (∀i,i<sz k→xr (tb k x j) (rn k Lk key false s x j).1 i<256):=hid (fun i hi=>xr_lt (hxb.out i hi) (Hsl.out i hi))
   clear hox HSr HSl
   have H8x:=hid (H8.out.below hBx H8.out.lt)
   have H12x:=hid (H12.out.below hBx H12.out.lt)
   have HOx:=hid (HO.out.below hBx (Nat.le_refl _))
   have HBx:=hid (HB.out.trans (hBx.mono HB.out.size))
   have hszx:=hBx.size
   have hvx:Hid (∀g,(Value.slice Ao q co).ownBlock=some g→w.heap.size+2≤g∧g<wx.heap.size):=hid (fun g hg=>World.ownsRow.lt HOx.out g hg)
   have HKx:=hid ((HKw.out.below HBx.out).more HBx.out.size)
   have Hyb:Hid (∀i,i<sz k→tc k Lk key false (xr (tb k x j) (rn k Lk key false s x j).1) i<256):=hid (tc_lt Hk3.out hf Hkb.out hainb.out)
   clear hBx H8 H12 HO HB Hsl
   go_wp2_with (with_reducible refine wpl_val rfl _ (exec_loadSt 72 _ rfl ⟨w.heap.size,0,none⟩ rfl 2 _ (cells2 H8x.out) _ Tryz.underlying72 iRB) ?_)
   refine(HDo.out false Ax cx _ _ HKx.out hain.out hainb.out).mono ?_
   rintro e w3 ⟨A2,c2,rfl,hr3,hg3,hB3⟩
   have hB34:Below w3.heap.size w3 (w3.alloc (.cells (row 2 (bookC (.slice none 0 0) (.slice none 0 0))) 72)):=(Below.refl _ _).alloc (Nat.le_refl _) _
   have hB4:Below wx.heap.size wx (w3.alloc (.cells (row 2 (bookC (.slice none 0 0) (.slice none 0 0))) 72)):=hB3.trans (hB34.mono hB3.size)
   have hN4:Blk (w3.alloc (.cells (row 2 (bookC (.slice none 0 0) (.slice none 0 0))) 72)) w3.heap.size 72 (row 2 (bookC (.slice none 0 0) (.slice none 0 0))):=Blk.fresh _ _ _
   have H84:=hid (H8x.out.below hB4 H8x.out.lt)
   obtain⟨w5,hw5⟩: ∃W,W=(w3.alloc (.cells (row 2 (bookC (.slice none 0 0) (.slice none 0 0))) 72)).setRow w.heap.size (row 2 (bookC (.slice none 0 0) (.slice none 0 0))):=⟨_,rfl⟩
   have HN4:=hid hN4
   have H85:=hid (show Blk w5 w.heap.size 72 (row 2 (bookC (.slice none 0 0) (.slice none 0 0))) from by rw[hw5];exact H84.out.setRow _)
   have H125:=hid (show Blk w5 (w.heap.size+1) 72 (row 2 (bookC (.slice none 0 0) (.slice none 0 0))) from by rw[hw5];exact(H12x.out.below hB4 H12x.out.lt).otherRow w.heap.size _ (by omega))
   have HO5:=hid (show Mem.Own w5 (w.heap.size+2) 5 1 (.slice Ao q co) q (rn k Lk key false s x j).2.1 from by rw[hw5];exact own_row (HOx.out.below hB4 (Nat.le_refl _)) H84.out _)
   have hsz5:w.heap.size+2≤w5.heap.size:=by rw[hw5];have:=hB4.size;simp at this ⊢;omega
   have HB5:=hid (show Below w.heap.size w w5 from by rw[hw5];exact below_setRow' (HBx.out.trans (hB4.mono HBx.out.size)) (Nat.le_refl _) _)
   have hvl: ∀g,(Value.slice Ao q co).ownBlock=some g→g<wx.heap.size:=fun g hg=>(hvx.out g hg).2
   have hbx:w.heap.size<wx.heap.size:=H8x.out.lt
   have hl3:ReadsP w3 (LocP (offV w.heap.size wx (.slice Ao q co)) wx w3) A2 (sz k) (tc k Lk key false (xr (tb k x j) (rn k Lk key false s x j).1)):=fun hn=>by
    obtain⟨ad2,h1,h2,h3⟩:=hr3 hn
    exact⟨ad2,h1,⟨h2, .inr (hg3 ad2 h1)⟩,h3⟩
   have hv5:ReadsP w5 (offV w.heap.size w5 (.slice Ao q co)) A2 (sz k) (tc k Lk key false (xr (tb k x j) (rn k Lk key false s x j).1)):=by rw[hw5];exact reads_offL hl3 hbx hvl _ _
   clear hr3 hg3 hl3 hN4 hB34 hB3 hB4 H8x H12x HKx HOx HBx hain hszx hvl hbx HXb
   have Hv5:=hid hv5
   obtain⟨adv,rfl,hbv,hcv⟩:=hv5 hs1
   clear hv5
   have hs5:w5.heap.size=w3.heap.size+1:=by rw[hw5];simp
   have Hs5:=hid hs5
   have Hw5:=hid hw5
   have HcY:=hid hcv
   clear hs5 hcv
   go_wp2_with (first | (with_reducible refine wpl_alloc rfl 72 rfl _ zRB2 ?_) | (with_reducible refine wpl_store_newS rfl 72 _ _ rfl w3 _ 2 _ (one2 _ _ _ _ _ _) rfl rfl 72 iRB (row_size _ _) ?_) | (with_reducible refine wpl_val rfl _ (exec_loadSt 72 _ rfl ⟨w3.heap.size,0,none⟩ rfl 2 _ (cells2 HN4.out) _ Tryz.underlying72 iRB) ?_) | (with_reducible refine wpl_store_blk rfl 72 _ _ rfl w.heap.size (row 2 (bookC (.slice none 0 0) (.slice none 0 0))) rfl rfl 72 _ H84.out (iRB' _) (by simp[row_size]) (one2 _ _ _ _ _ _) ?_) | (at_builtin;refine wpl_app_at rfl _ _ 22 rfl (w.heap.size+2) 5 Tryz.underlying22 info_u8 _ q _ rfl (by rw[← Hw5.out];exact HO5.out) adv (sz k) c2 (tc k Lk key false (xr (tb k x j) (rn k Lk key false s x j).1)) (by rw[← Hw5.out];exact HcY.out) rfl (by omega) (by rw[← Hw5.out];exact hsz5) ?_))
   rw[← Hw5.out]
   intro v7 w7 ho7 hB7 hgr hov0
   have hov:v7.ownBlock=(Value.slice Ao q co).ownBlock∨v7.ownBlock=some w5.heap.size:=by rw[Hs5.out];exact hov0
   clear hov0
   obtain⟨A7,c7,rfl,hc7,-⟩:=ho7.slice'
   have hlo:some w.heap.size≠(Value.slice Ao q co).ownBlock:=fun e=>by have:=(hvx.out _ e.symm).1;omega
   have hlo1:some (w.heap.size+1)≠(Value.slice Ao q co).ownBlock:=fun e=>by have:=(hvx.out _ e.symm).1;omega
   have H87:=hid (H85.out.grown hgr hlo)
   have H127:=hid (H125.out.grown hgr hlo1)
   have Hv7:Hid (ReadsP w7 (offV w.heap.size w7 (.slice A7 (q+sz k) c7)) (some adv) (sz k) (rn k Lk key false s x (j+1)).1):=hid (by rw[rnf_st];exact reads_offG Hv5.out hgr hov)
   have HB7:=hid (HB5.out.trans (hB7.mono (show w.heap.size≤w.heap.size+2 by omega)))
   have hsz7:w.heap.size+2≤w7.heap.size:=Nat.le_trans hsz5 hB7.size
   have HO7:Hid (Mem.Own w7 (w.heap.size+2) 5 1 (.slice A7 (q+sz k) c7) (q+sz k) (rn k Lk key false s x (j+1)).2.1):=hid (by rw[rnf_out,← hq.out];exact ho7)
   have hq7:Hid (q+sz k=(j+1)*sz k):=hid (by rw[hq.out,Nat.succ_mul])
   have Hs7:Hid (∀i,i<sz k→(rn k Lk key false s x (j+1)).1 i<256):=hid (by rw[rnf_st];exact Hyb.out)
   clear hlo hlo1 hgr hov ho7 hB7 hw5 H85 H125 HO5 HB5 hsz5 HN4 H84 hvx Hv5 hbv HcY Hw5 Hs5
   go_wp2_with fail
   go_round
   case rel=>exact⟨j+1,q+sz k,some adv,c2,by omega,hq7,hqn,val_int (by omega),rfl,H87,H127,HO7,HB7,hsz7,Hs7,Hv7⟩
   case measure=>simp[intOf];omega
  have hjN:j=N:=by omega
  have hqI: ¬(q:Int)+(sz k:Int)≤(M:Int):=by have:=hq.out;have:=HM.out;rw[← hjN,← hq.out] at this;omega
  have hc8:=cells2 H8.out
  go_wp2_with (first
   | (with_reducible refine wpl_val rfl _ (exec_loadSt 72 _ rfl ⟨w.heap.size,0,none⟩ rfl 2 _ hc8 _ Tryz.underlying72 iRB) ?_)
   | (with_reducible refine wpl_store_blk rfl 72 _ _ rfl (w.heap.size+1) (row 2 (bookC (.slice none 0 0) (.slice none 0 0))) rfl rfl 72 _ H12.out (iRB' _) (by simp[row_size]) (one2 _ _ _ _ _ _) ?_))
  have hBf:=below_setRow' HB.out (Nat.le_succ w.heap.size) (row 2 (bookC (.slice none 0 0) (.slice none 0 0)))
  have hof:=own_row HO.out H12.out (row 2 (bookC (.slice none 0 0) (.slice none 0 0)))
  have hqN:q=M:=by rw[hq.out,hjN,HM.out]
  rw[hjN,rn_chain,hqN] at hof
  refine ret_row3 Tryz.results36 rfl (w.heap.size+1) rfl _ rfl _ rfl 72 2 _ (H12.out.setRow _) _ Tryz.underlying72 iRB ⟨_,rfl,?_,hBf⟩
  rw[← hqN] at hof ⊢
  exact own_base6 hof (by omega)
set_option maxRecDepth 100000 in
set_option maxHeartbeats 2000000 in
set_option linter.unusedSimpArgs false in
theorem rmode0b (k Lk:Nat) (hk:k=1∨k=2) (hf:fits k Lk) (Ak:Option Addr) (ck:Nat) (key:Nat→Nat) (hck:Lk≤ck) (hkb: ∀i,i<Lk→key i<256) (As:Option Addr) (cs:Nat) (s:Nat→Nat) (A:Option Addr) (M c N:Nat) (x:Nat→Nat) (w:World) (hkey:Reads w w.heap.size Ak Lk key) (hM:M=N*sz k) (hM1:M≤1000) (hc:M≤c) (hx: ∀i,i<M→x i<256) (hR:Reads w w.heap.size A M x) (hs: ∀i,i<sz k→s i<256) (hRs:Reads w w.heap.size As (sz k) s):
  Calls Tryz.prog 36 #[.int .i64 (k:Int), .slice Ak Lk ck,bk0, .slice As (sz k) cs, .slice A M c, .bool true] w fun e w'=> ∃v,e= .returned (.tuple #[bk0,v, .int .i64 (-1)])∧Mem.Own w' w.heap.size 5 1 v M (chainF k Lk key true s x N)∧Below w.heap.size w w':=by
 have hkk:k=1∨k=2∨k=3:=by omega
 have Hk3:Hid (k≠3):=hid (by omega)
 obtain⟨hs1,hs2⟩:=R6.sz_pos k
 rw[bk0_row]
 have HDo:Hid (∀(bk:Bool) (Ax:Option Addr) (cx:Nat) (x:Nat→Nat) (w:World),Reads w w.heap.size Ak Lk key→Reads w w.heap.size Ax (sz k) x→(∀i,i<sz k→x i<256)→Calls Tryz.prog 63 #[.int .i64 (k:Int), .slice Ak Lk ck, .agg (row 2 (bookC (.slice none 0 0) (.slice none 0 0))), .slice Ax (sz k) cx, .bool bk] w fun e w'=> ∃A c,e= .returned (.tuple #[.agg (row 2 (bookC (.slice none 0 0) (.slice none 0 0))), .slice A (sz k) c, .bool true])∧Reads w' w'.heap.size A (sz k) (tc k Lk key bk x)∧(∀ad,A=some ad→w.heap.size≤ad.block)∧Below w.heap.size w w'):=hid (fun bk Ax cx x w h1 h2 h3=>by
  have h:=rdo0 k Lk hk hf Ak ck key hck hkb bk Ax cx x w h1 h2 h3
  rw[bk0_row] at h
  exact h)
 have hB0:Below w.heap.size w ((w.alloc (.cells (row 2 (bookC (.slice none 0 0) (.slice none 0 0))) 72)).alloc (.cells (row 2 (bookC (.slice none 0 0) (.slice none 0 0))) 72)):=((Below.refl _ _).alloc (Nat.le_refl _) _).alloc (by simp) _
 have h8:Blk ((w.alloc (.cells (row 2 (bookC (.slice none 0 0) (.slice none 0 0))) 72)).alloc (.cells (row 2 (bookC (.slice none 0 0) (.slice none 0 0))) 72)) w.heap.size 72 (row 2 (bookC (.slice none 0 0) (.slice none 0 0))):=(Blk.fresh _ _ _).alloc _
 have h12:Blk ((w.alloc (.cells (row 2 (bookC (.slice none 0 0) (.slice none 0 0))) 72)).alloc (.cells (row 2 (bookC (.slice none 0 0) (.slice none 0 0))) 72)) (w.heap.size+1) 72 (row 2 (bookC (.slice none 0 0) (.slice none 0 0))):=by
  have:=Blk.fresh (w.alloc (.cells (row 2 (bookC (.slice none 0 0) (.slice none 0 0))) 72)) 72 (row 2 (bookC (.slice none 0 0) (.slice none 0 0)))
  simpa using this
 have hz:(((w.alloc (.cells (row 2 (bookC (.slice none 0 0) (.slice none 0 0))) 72)).alloc (.cells (row 2 (bookC (.slice none 0 0) (.slice none 0 0))) 72))).heap.size=w.heap.size+2:=by simp
 have HS0:Hid (∀W,Below w.heap.size w W→Reads W W.heap.size As (sz k) s):=hid (fun W hW=>(hRs.below hW).more hW.size)
 have HKw:=hid hkey
 have HXw:=hid hR
 have Hsb:=hid hs
 have HM:=hid hM
 have Hx:=hid hx
 have Hkb:=hid hkb
 have HB0:=hid hB0
 have H8:=hid h8
 have H12:=hid h12
 have HSZ:=hid (rsize_any k hkk)
 clear hkey hR hM hx hB0 hs hRs h8 h12 hkb hk
 go_enter Tryz.func36,Tryz.ntmps36
 go_wp2_with (first
  | (with_reducible refine wpl_alloc rfl 72 rfl _ zRB2 ?_)
  | (go_at_call 34;refine(HSZ.out _).mono ?_;rintro e wa ⟨rfl,rfl⟩))
 generalize ((w.alloc (.cells (row 2 (bookC (.slice none 0 0) (.slice none 0 0))) 72)).alloc (.cells (row 2 (bookC (.slice none 0 0) (.slice none 0 0))) 72))=w1 at*
 go_loopw [16,17,18,19,20,21,22] (fun lv ov iv _ _ _ _ wr=> ∃(j q:Nat) (Al:Option Addr) (cl:Nat),j≤N∧Hid (q=j*sz k)∧q≤M∧iv= .int .i64 (q:Int)∧lv= .slice Al (sz k) cl∧Hid (Blk wr w.heap.size 72 (row 2 (bookC (.slice none 0 0) (.slice none 0 0))))∧Hid (Blk wr (w.heap.size+1) 72 (row 2 (bookC (.slice none 0 0) (.slice none 0 0))))∧Hid (Mem.Own wr (w.heap.size+2) 5 1 ov q (rn k Lk key true s x j).2.1)∧Hid (Below w.heap.size w wr)∧w.heap.size+2≤wr.heap.size∧Hid (∀i,i<sz k→(rn k Lk key true s x j).1 i<256)∧Hid (∀W,Below w.heap.size w W→Reads W W.heap.size Al (sz k) (rn k Lk key true s x j).1)) (fun _ _ iv _ _ _ _ _=>M-(intOf iv).toNat)
 case atStart=>exact⟨0,0,As,cs,by omega,hid (by simp),by omega,rfl,rfl,H8,H12,hid (Mem.Own.nil _ _ _ _ _),HB0,by omega,Hsb,HS0⟩
 case round=>
  clear H8 H12 HB0 hz HS0 Hsb
  obtain⟨j,q,Al,cl,hj,hq,hqM,rfl,rfl,H8,H12,HO,HB,hsz,Hsl,HSl⟩:=hrel
  obtain⟨Ao,co,rfl,hco,-⟩:=HO.out.slice'
  by_cases hlt:j<N
  ·have hqn:q+sz k≤M:=by
    have:=Nat.mul_le_mul_right (sz k) (show j+1≤N from hlt)
    rw[Nat.succ_mul,← hq.out,← HM.out] at this
    exact this
   have hqI:(q:Int)+(sz k:Int)≤(M:Int):=by omega
   obtain⟨ad,rfl,had,hcs⟩:=HXw.out (by omega)
   have hxb:Hid (∀i,i<sz k→tb k x j i<256):=hid (fun i hi=>by unfold tb;rw[← hq.out];exact Hx.out _ (by omega))
   have HXb:Hid (∀W,Below w.heap.size w W→Reads W W.heap.size (some (ad.add q)) (sz k) (tb k x j)):=hid (fun W hW _=>⟨_,rfl,by rw[add_block];exact Nat.lt_of_lt_of_le had hW.size,fun i hi=>by
    rw[add_add]
    unfold tb
    rw[← hq.out]
    exact(hW.cell (p:=ad.add (q+i)) (by rw[add_block];exact had)).trans (hcs _ (by omega))⟩)
   clear hcs
   have hsgt: ¬(sz k:Int)≤0:=by omega
   have hvx:Hid (∀g,(Value.slice Ao q co).ownBlock=some g→w.heap.size+2≤g∧g<wr.heap.size):=hid (fun g hg=>World.ownsRow.lt HO.out g hg)
   have Hyb:Hid (∀i,i<sz k→tc k Lk key true (tb k x j) i<256):=hid (tc_lt Hk3.out hf Hkb.out hxb.out)
   go_wp2_with (first | (with_reducible refine wpl_val rfl _ (exec_cutB _ _ _ rfl ad M c q (sz k) _ rfl rfl rfl (by omega) hs1 (by omega)) ?_) | (with_reducible refine wpl_val rfl _ (exec_loadSt 72 _ rfl ⟨w.heap.size,0,none⟩ rfl 2 _ (cells2 H8.out) _ Tryz.underlying72 iRB) ?_))
   refine(HDo.out true (some (ad.add q)) (c-q) _ _ ((HKw.out.below HB.out).more HB.out.size) (HXb.out _ HB.out) hxb.out).mono ?_
   rintro e w3 ⟨A2,c2,rfl,hr3,hg3,hB3⟩
   have hB34:Below w3.heap.size w3 (w3.alloc (.cells (row 2 (bookC (.slice none 0 0) (.slice none 0 0))) 72)):=(Below.refl _ _).alloc (Nat.le_refl _) _
   have hB4:Below wr.heap.size wr (w3.alloc (.cells (row 2 (bookC (.slice none 0 0) (.slice none 0 0))) 72)):=hB3.trans (hB34.mono hB3.size)
   have hN4:Blk (w3.alloc (.cells (row 2 (bookC (.slice none 0 0) (.slice none 0 0))) 72)) w3.heap.size 72 (row 2 (bookC (.slice none 0 0) (.slice none 0 0))):=Blk.fresh _ _ _
   have H84:=hid (H8.out.below hB4 H8.out.lt)
   obtain⟨w5,hw5⟩: ∃W,W=(w3.alloc (.cells (row 2 (bookC (.slice none 0 0) (.slice none 0 0))) 72)).setRow w.heap.size (row 2 (bookC (.slice none 0 0) (.slice none 0 0))):=⟨_,rfl⟩
   have HN4:=hid hN4
   have H85:=hid (show Blk w5 w.heap.size 72 (row 2 (bookC (.slice none 0 0) (.slice none 0 0))) from by rw[hw5];exact H84.out.setRow _)
   have H125:=hid (show Blk w5 (w.heap.size+1) 72 (row 2 (bookC (.slice none 0 0) (.slice none 0 0))) from by rw[hw5];exact(H12.out.below hB4 H12.out.lt).otherRow w.heap.size _ (by omega))
   have HO5:=hid (show Mem.Own w5 (w.heap.size+2) 5 1 (.slice Ao q co) q (rn k Lk key true s x j).2.1 from by rw[hw5];exact own_row (HO.out.below hB4 (Nat.le_refl _)) H84.out _)
   have hsz5:w.heap.size+2≤w5.heap.size:=by rw[hw5];have:=hB4.size;simp at this ⊢;omega
   have HB5:=hid (show Below w.heap.size w w5 from by rw[hw5];exact below_setRow' (HB.out.trans (hB4.mono HB.out.size)) (Nat.le_refl _) _)
   have hvl: ∀g,(Value.slice Ao q co).ownBlock=some g→g<wr.heap.size:=fun g hg=>(hvx.out g hg).2
   have hbx:w.heap.size<wr.heap.size:=H8.out.lt
   have hl3:ReadsP w3 (LocP (offV w.heap.size wr (.slice Ao q co)) wr w3) A2 (sz k) (tc k Lk key true (tb k x j)):=fun hn=>by
    obtain⟨ad2,h1,h2,h3⟩:=hr3 hn
    exact⟨ad2,h1,⟨h2, .inr (hg3 ad2 h1)⟩,h3⟩
   have hv5:ReadsP w5 (offV w.heap.size w5 (.slice Ao q co)) A2 (sz k) (tc k Lk key true (tb k x j)):=by rw[hw5];exact reads_offL hl3 hbx hvl _ _
   have HY5:Hid (Reads w5 w5.heap.size A2 (sz k) (tc k Lk key true (tb k x j))):=hid (hv5.more (fun _ hg=>hg.1))
   have HB5r:=hB4.size
   clear hr3 hg3 hl3 hv5 hN4 hB34 hB3 hB4 H8 H12 HO HB hvl hbx
   have hs5:w5.heap.size=w3.heap.size+1:=by rw[hw5];simp
   have Hs5:=hid hs5
   have Hw5:=hid hw5
   clear hs5
   go_wp2_with (first | (with_reducible refine wpl_alloc rfl 72 rfl _ zRB2 ?_) | (with_reducible refine wpl_store_newS rfl 72 _ _ rfl w3 _ 2 _ (one2 _ _ _ _ _ _) rfl rfl 72 iRB (row_size _ _) ?_) | (with_reducible refine wpl_val rfl _ (exec_loadSt 72 _ rfl ⟨w3.heap.size,0,none⟩ rfl 2 _ (cells2 HN4.out) _ Tryz.underlying72 iRB) ?_) | (with_reducible refine wpl_store_blk rfl 72 _ _ rfl w.heap.size (row 2 (bookC (.slice none 0 0) (.slice none 0 0))) rfl rfl 72 _ H84.out (iRB' _) (by simp[row_size]) (one2 _ _ _ _ _ _) ?_))
   rw[← Hw5.out]
   refine(rxor_any _ _ (sz k) _ cl (tc k Lk key true (tb k x j)) (rn k Lk key true s x j).1 _ (by omega) Hyb.out Hsl.out HY5.out (HSl.out _ HB5.out)).mono ?_
   rintro e w6 ⟨v6,rfl,ho6,hB6⟩
   have H86:=hid (H85.out.below hB6 H85.out.lt)
   have H126:=hid (H125.out.below hB6 H125.out.lt)
   have HO6:=hid (HO5.out.below hB6 (Nat.le_refl _))
   have HB6:=hid (HB5.out.trans (hB6.mono HB5.out.size))
   have hsz6:w.heap.size+2≤w6.heap.size:=Nat.le_trans hsz5 hB6.size
   obtain⟨g6,c6,rfl,hc6⟩:=own_at ho6 hs1
   obtain⟨adv,hadv,hbv,hcv⟩:=ho6.reads hs1
   cases hadv
   have HcY:=hid hcv
   clear hcv ho6 hB6 HY5 H85 H125 HO5 HB5 hsz5 hw5 Hw5 Hs5 HN4 H84 HSl Hsl
   go_wp2_with (first | (with_reducible refine wpl_val rfl _ (exec_cutB _ _ _ rfl ad M c q (sz k) _ rfl rfl rfl (by omega) hs1 (by omega)) ?_) | (at_builtin;refine wpl_app_at rfl _ _ 22 rfl (w.heap.size+2) 5 Tryz.underlying22 info_u8 _ q _ rfl HO6.out ⟨g6,0,none⟩ (sz k) c6 (xr (tc k Lk key true (tb k x j)) (rn k Lk key true s x j).1) HcY.out rfl (by omega) hsz6 ?_))
   intro v7 w7 ho7 hB7 hgr hov0
   obtain⟨A7,c7,rfl,hc7,-⟩:=ho7.slice'
   have hlo:some w.heap.size≠(Value.slice Ao q co).ownBlock:=fun e=>by have:=(hvx.out _ e.symm).1;omega
   have hlo1:some (w.heap.size+1)≠(Value.slice Ao q co).ownBlock:=fun e=>by have:=(hvx.out _ e.symm).1;omega
   have H87:=hid (H86.out.grown hgr hlo)
   have H127:=hid (H126.out.grown hgr hlo1)
   have Hv7:Hid (∀W,Below w.heap.size w W→Reads W W.heap.size (some (ad.add q)) (sz k) (rn k Lk key true s x (j+1)).1):=hid (by rw[rnb_st];exact HXb.out)
   have HB7:=hid (HB6.out.trans (hB7.mono (show w.heap.size≤w.heap.size+2 by omega)))
   have hsz7:w.heap.size+2≤w7.heap.size:=Nat.le_trans hsz6 hB7.size
   have HO7:Hid (Mem.Own w7 (w.heap.size+2) 5 1 (.slice A7 (q+sz k) c7) (q+sz k) (rn k Lk key true s x (j+1)).2.1):=hid (by rw[rnb_out,← hq.out];exact ho7)
   have hq7:Hid (q+sz k=(j+1)*sz k):=hid (by rw[hq.out,Nat.succ_mul])
   have Hs7:Hid (∀i,i<sz k→(rn k Lk key true s x (j+1)).1 i<256):=hid (by rw[rnb_st];exact hxb.out)
   clear hlo hlo1 hgr hov0 ho7 hB7 H86 H126 HO6 HB6 hvx hbv HcY
   go_wp2_with fail
   go_round
   case rel=>exact⟨j+1,q+sz k,some (ad.add q),c-q,by omega,hq7,hqn,val_int (by omega),rfl,H87,H127,HO7,HB7,hsz7,Hs7,Hv7⟩
   case measure=>simp[intOf];omega
  have hjN:j=N:=by omega
  have hqI: ¬(q:Int)+(sz k:Int)≤(M:Int):=by have:=hq.out;have:=HM.out;rw[← hjN,← hq.out] at this;omega
  have hc8:=cells2 H8.out
  go_wp2_with (first
   | (with_reducible refine wpl_val rfl _ (exec_loadSt 72 _ rfl ⟨w.heap.size,0,none⟩ rfl 2 _ hc8 _ Tryz.underlying72 iRB) ?_)
   | (with_reducible refine wpl_store_blk rfl 72 _ _ rfl (w.heap.size+1) (row 2 (bookC (.slice none 0 0) (.slice none 0 0))) rfl rfl 72 _ H12.out (iRB' _) (by simp[row_size]) (one2 _ _ _ _ _ _) ?_))
  have hBf:=below_setRow' HB.out (Nat.le_succ w.heap.size) (row 2 (bookC (.slice none 0 0) (.slice none 0 0)))
  have hof:=own_row HO.out H12.out (row 2 (bookC (.slice none 0 0) (.slice none 0 0)))
  have hqN:q=M:=by rw[hq.out,hjN,HM.out]
  rw[hjN,rn_chain,hqN] at hof
  refine ret_row3 Tryz.results36 rfl (w.heap.size+1) rfl _ rfl _ rfl 72 2 _ (H12.out.setRow _) _ Tryz.underlying72 iRB ⟨_,rfl,?_,hBf⟩
  rw[← hqN] at hof ⊢
  exact own_base6 hof (by omega)
end Go.Proofs.YtlmacfmfmjhidaaGreatDoor.Wr.Rb
namespace Go.Proofs.YtlmacfmfmjhidaaGreatDoor.Wr.Rb
open Mem Bk Md Mc R6 Rm Rc Dg Wr Go.ChangeShapes Go.WideShapes Go.ChangeAt Go.RowKit
theorem blk_self {w:World}{g:Nat}{t:TypeId}{cs:Array Value} (h:Blk w g t cs):w.setRow g cs=w:=setRow_self w g cs t _ h
theorem chain_tail {k L:Nat}{key s x:Nat→Nat}{N i:Nat} (hN:0<N) (_hi:i<sz k):chainF k L key false s x N ((N-1)*sz k+i)=(rn k L key false s x N).1 i:=by
 obtain⟨J,rfl⟩: ∃J,N=J+1:=⟨N-1,by omega⟩
 rw[← rn_chain,rnf_out,rnf_st,show J+1-1=J from rfl]
 unfold cat
 rw[if_neg (by omega),show J*sz k+i-J*sz k=i by omega]
theorem rn_cmac {k L n:Nat}{key t:Nat→Nat}:(rn k L key false Mc.zf (mtF (sz k) n t (dbl (sz k) (tc k L key false Mc.zf))) (mtB (sz k) n)).1=cmacF k L key n t:=rfl
set_option maxRecDepth 100000 in
set_option maxHeartbeats 4000000 in
set_option linter.unusedSimpArgs false in
theorem rcmac0 (k Lk:Nat) (hk:k=1∨k=2) (hf:fits k Lk) (Ak:Option Addr) (ck:Nat) (key:Nat→Nat) (hck:Lk≤ck) (hkb: ∀i,i<Lk→key i<256) (A:Option Addr) (L c:Nat) (t:Nat→Nat) (w:World) (hkey:Reads w w.heap.size Ak Lk key) (hL:L≤500) (hl0: ¬L=0) (hA:A=none→L=0∧c=0) (ht: ∀i,i<L→t i<256) (hR:Reads w w.heap.size A L t):
  Calls Tryz.prog 33 #[.int .i64 (k:Int), .slice Ak Lk ck,bk0, .slice A L c] w fun e w'=> ∃A' c',e= .returned (.tuple #[bk0, .slice A' (sz k) c', .bool true])∧sz k≤c'∧Reads w' w'.heap.size A' (sz k) (cmacF k Lk key L t)∧Below w.heap.size w w':=by
 have hkk:k=1∨k=2∨k=3:=by omega
 have Hk3:Hid (k≠3):=hid (by omega)
 obtain⟨hs1,hs2⟩:=R6.sz_pos k
 have HDo:Hid (∀(bk:Bool) (Ax:Option Addr) (cx:Nat) (x:Nat→Nat) (w:World),Reads w w.heap.size Ak Lk key→Reads w w.heap.size Ax (sz k) x→(∀i,i<sz k→x i<256)→Calls Tryz.prog 63 #[.int .i64 (k:Int), .slice Ak Lk ck, .agg (row 2 (bookC (.slice none 0 0) (.slice none 0 0))), .slice Ax (sz k) cx, .bool bk] w fun e w'=> ∃A c,e= .returned (.tuple #[.agg (row 2 (bookC (.slice none 0 0) (.slice none 0 0))), .slice A (sz k) c, .bool true])∧Reads w' w'.heap.size A (sz k) (tc k Lk key bk x)∧(∀ad,A=some ad→w.heap.size≤ad.block)∧Below w.heap.size w w'):=hid (fun bk Ax cx x w h1 h2 h3=>by
  have h:=rdo0 k Lk hk hf Ak ck key hck hkb bk Ax cx x w h1 h2 h3
  rw[bk0_row] at h
  exact h)
 have HMd:Hid (∀(As:Option Addr) (cs:Nat) (s:Nat→Nat) (A:Option Addr) (M c N:Nat) (x:Nat→Nat) (w:World),Reads w w.heap.size Ak Lk key→M=N*sz k→M≤1000→M≤c→(∀i,i<M→x i<256)→Reads w w.heap.size A M x→(∀i,i<sz k→s i<256)→Reads w w.heap.size As (sz k) s→Calls Tryz.prog 36 #[.int .i64 (k:Int), .slice Ak Lk ck, .agg (row 2 (bookC (.slice none 0 0) (.slice none 0 0))), .slice As (sz k) cs, .slice A M c, .bool false] w fun e w'=> ∃v,e= .returned (.tuple #[.agg (row 2 (bookC (.slice none 0 0) (.slice none 0 0))),v, .int .i64 (-1)])∧Mem.Own w' w.heap.size 5 1 v M (chainF k Lk key false s x N)∧Below w.heap.size w w'):=hid (fun As cs s A M c N x w h1 h2 h3 h4 h5 h6 h7 h8=>by
  have h:=rmode0f k Lk hk hf Ak ck key hck hkb As cs s A M c N x w h1 h2 h3 h4 h5 h6 h7 h8
  rw[bk0_row] at h
  exact h)
 rw[bk0_row]
 have hB0:Below w.heap.size w ((w.alloc (.cells (row 2 (bookC (.slice none 0 0) (.slice none 0 0))) 72)).alloc (.cells (row 2 (bookC (.slice none 0 0) (.slice none 0 0))) 72)):=((Below.refl _ _).alloc (Nat.le_refl _) _).alloc (by simp) _
 have h6:Blk ((w.alloc (.cells (row 2 (bookC (.slice none 0 0) (.slice none 0 0))) 72)).alloc (.cells (row 2 (bookC (.slice none 0 0) (.slice none 0 0))) 72)) w.heap.size 72 (row 2 (bookC (.slice none 0 0) (.slice none 0 0))):=(Blk.fresh _ _ _).alloc _
 have h8:Blk ((w.alloc (.cells (row 2 (bookC (.slice none 0 0) (.slice none 0 0))) 72)).alloc (.cells (row 2 (bookC (.slice none 0 0) (.slice none 0 0))) 72)) (w.heap.size+1) 72 (row 2 (bookC (.slice none 0 0) (.slice none 0 0))):=by
  have:=Blk.fresh (w.alloc (.cells (row 2 (bookC (.slice none 0 0) (.slice none 0 0))) 72)) 72 (row 2 (bookC (.slice none 0 0) (.slice none 0 0)))
  simpa using this
 have HK:=hid hkey
 have HA:=hid hA
 have Ht:=hid ht
 have HR:=hid hR
 have HB1:=hid hB0
 have H61:=hid h6
 have H81:=hid h8
 have HSZ:=hid (rsize_any k hkk)
 have Hsz:=hid (sz_or k)
 have Hyl0:=hid (tc_lt (bk:=false) (x:=Mc.zf) Hk3.out hf hkb (Mc.zf_lt _))
 have Hkb:=hid hkb
 clear hkey hA ht hR hB0 h6 h8 hk hkb
 go_enter Tryz.func33,Tryz.ntmps33
 go_wp2_with (first
  | (with_reducible refine wpl_alloc rfl 72 rfl _ zRB2 ?_)
  | (go_at_call 34;refine(HSZ.out _).mono ?_;rintro e wa ⟨rfl,rfl⟩))
 generalize ((w.alloc (.cells (row 2 (bookC (.slice none 0 0) (.slice none 0 0))) 72)).alloc (.cells (row 2 (bookC (.slice none 0 0) (.slice none 0 0))) 72))=w1 at*
 refine wp_region_held_drew (S:=fun W=>Below w1.heap.size w1 W) (by kernel_rfl) (Below.refl _ _).drew (fun hS0=>?_)
 refine ztk (i:=0) (v:= .int .i64 (k:Int)) rfl (fun _ _=>exec_move _ rfl _ rfl) hS0 ?_
 (try simp only[Act.put,zza,zzb,zzc,zzd,zze,zzf])
 refine ztk (i:=1) (v:= .slice Ak Lk ck) rfl (fun _ _=>exec_move _ rfl _ rfl) hS0 ?_
 (try simp only[Act.put,zza,zzb,zzc,zzd,zze,zzf])
 refine ztk (i:=2) (v:= .agg (row 2 (bookC (.slice none 0 0) (.slice none 0 0)))) rfl (fun W hW=>exec_loadSt 72 _ rfl ⟨w.heap.size,0,none⟩ rfl 2 _ (cells2 (H61.out.below hW H61.out.lt)) _ Tryz.underlying72 iRB) hS0 ?_
 (try simp only[Act.put,zza,zzb,zzc,zzd,zze,zzf])
 refine ztk (i:=3) (v:= .int .i64 (sz k:Int)) rfl (fun _ _=>exec_move _ rfl _ rfl) hS0 ?_
 (try simp only[Act.put,zza,zzb,zzc,zzd,zze,zzf])
 refine wpAnyH_ready (rs:=[4]) (by kernel_rfl) (by simp) (AllReadyH.cons rfl (fun K hK=>?_) AllReadyH.nil)
 (try simp only[Act.put,zza,zzb,zzc,zzd,zze,zzf])
 refine Eq.mpr (if_pos (by rfl)) ?_
 refine wp_valw2 _ (exec_mk _ _ rfl (sz k) (by omega) rfl rfl) ?_
 refine hK.out _ _ (hS0.alloc (hS0).size _) (fun hS1=>?_)
 (try simp only[Act.put,zza,zzb,zzc,zzd,zze,zzf])
 clear hK K
 have hzc:Blk (w1.drew.alloc (.cells (row (sz k) (b8 Mc.zf)) 5)) w1.heap.size 5 (row (sz k) (b8 Mc.zf)):=Blk.fresh w1.drew 5 _
 generalize (w1.drew.alloc (.cells (row (sz k) (b8 Mc.zf)) 5))=wc at hS1 hzc ⊢
 refine wpAnyH_ready (rs:=[5]) (by kernel_rfl) (by simp) (AllReadyH.cons rfl (fun K hK=>?_) AllReadyH.nil)
 (try simp only[Act.put,zza,zzb,zzc,zzd,zze,zzf])
 refine Eq.mpr (if_pos (by rfl)) ?_
 go_simp
 refine(HDo.out false (some ⟨w1.heap.size,0,none⟩) (sz k) Mc.zf _ ((HK.out.below (HB1.out.trans (hS1.mono HB1.out.size))).more (HB1.out.trans (hS1.mono HB1.out.size)).size) (Blk.reads hzc) (Mc.zf_lt _)).mono ?_
 rintro e wq2 ⟨Av,cv,rfl,hr2,-,hB2⟩
 refine hK.out _ _ (hS1.trans (hB2.mono hS1.size)) (fun hS2=>?_)
 (try simp only[Act.put,zza,zzb,zzc,zzd,zze,zzf])
 clear hK K
 refine ztk (i:=6) (v:= .tuple #[.agg (row 2 (bookC (.slice none 0 0) (.slice none 0 0))), .slice Av (sz k) cv, .bool true]) rfl (fun _ _=>exec_move _ rfl _ rfl) hS2 ?_
 (try simp only[Act.put,zza,zzb,zzc,zzd,zze,zzf])
 refine ztk (i:=7) (v:= .agg (row 2 (bookC (.slice none 0 0) (.slice none 0 0)))) rfl (fun _ _=>exec_extract _ 0 rfl _ rfl _ rfl) hS2 ?_
 (try simp only[Act.put,zza,zzb,zzc,zzd,zze,zzf])
 refine ztk (i:=8) (v:= .slice Av (sz k) cv) rfl (fun _ _=>exec_extract _ 1 rfl _ rfl _ rfl) hS2 ?_
 (try simp only[Act.put,zza,zzb,zzc,zzd,zze,zzf])
 refine ztk (i:=9) (v:= .bool true) rfl (fun _ _=>exec_extract _ 2 rfl _ rfl _ rfl) hS2 ?_
 (try simp only[Act.put,zza,zzb,zzc,zzd,zze,zzf])
 refine wpAnyH_ready (rs:=[10]) (by kernel_rfl) (by simp) (AllReadyH.cons rfl (fun K hK=>?_) AllReadyH.nil)
 (try simp only[Act.put,zza,zzb,zzc,zzd,zze,zzf])
 refine Eq.mpr (if_pos (by rfl)) ?_
 with_reducible refine wp_store_blk 72 _ _ rfl (w.heap.size) (row 2 (bookC (.slice none 0 0) (.slice none 0 0))) rfl rfl 72 _ (H61.out.below hS2 H61.out.lt) (iRB' _) (by simp[row_size]) (one2 _ _ _ _ _ _) ?_
 rw[blk_self (H61.out.below hS2 H61.out.lt)]
 refine hK.out _ _ (hS2) (fun hS3=>?_)
 (try simp only[Act.put,zza,zzb,zzc,zzd,zze,zzf])
 clear hK K
 refine ztk (i:=11) (v:= .slice Av (sz k) cv) rfl (fun _ _=>exec_assign _ rfl _ rfl) hS3 ?_
 (try simp only[Act.put,zza,zzb,zzc,zzd,zze,zzf])
 refine ztk (i:=12) (v:= .bool true) rfl (fun _ _=>exec_assign _ rfl _ rfl) hS3 ?_
 (try simp only[Act.put,zza,zzb,zzc,zzd,zze,zzf])
 refine wpAnyH_done (by kernel_rfl) ?_ _
 have HB2:=hid (HB1.out.trans (hS3.mono HB1.out.size))
 have H62:=hid (H61.out.below hS3 H61.out.lt)
 have H82:=hid (H81.out.below hS3 H81.out.lt)
 have HL:=hid hr2
 have hsz2:w.heap.size+2≤wq2.heap.size:=by have:=H82.out.lt;omega
 clear hS0 hS1 hS2 hS3 hzc hr2 hB2 H61 H81 HB1
 obtain⟨y,hy⟩: ∃y,y=tc k Lk key false Mc.zf:=⟨_,rfl⟩
 rw[← hy] at HL Hyl0
 have Hyl:=Hyl0
 have Hy:=hid hy
 clear hy
 generalize wq2=w2 at*
 go_wp2_with fail
 refine(rdbl_any Av (sz k) cv y _ Hsz.out Hyl.out HL.out).mono ?_
 rintro e w3 ⟨v3,rfl,ho3,hB3⟩
 obtain⟨A3,c3,rfl,hc3,-⟩:=ho3.slice'
 have HD3:=hid ho3.reads
 have Hdb:Hid (∀i,i<sz k→dbl (sz k) y i<256):=hid (dbl_lt Hyl.out)
 have HB3:=hid (HB2.out.trans (hB3.mono HB2.out.size))
 have H63:=hid (H62.out.below hB3 H62.out.lt)
 have H83:=hid (H82.out.below hB3 H82.out.lt)
 have hsz3:w.heap.size+2≤w3.heap.size:=Nat.le_trans hsz2 hB3.size
 clear hB3 hsz2 HB2 H62 H82 ho3 HL Hyl
 have HX3:=hid ((HR.out.below HB3.out).more HB3.out.size)
 have hBe:=(Below.refl w3.heap.size w3).alloc (Nat.le_refl _) (.cells #[] 5)
 have He:=hid (Mem.Own.empty w3 w3.heap.size 5 (fun _=>0) (Nat.le_refl _))
 have HRe:=hid (((HX3.out)).below hBe |>.more hBe.size)
 go_wp2_with (first | (at_builtin; (refine wpl_app_gen rfl _ _ 22 rfl w3.heap.size 5 (.int .u8 0) Tryz.underlying22 info_u8 rfl _ 0 _ rfl He.out A L c _ _ HRe.out HA.out rfl (by omega) (by simp) ?_)))
 intro v4 w4 ho4 hBn
 try rw[Nat.zero_add] at ho4
 have hB4:=hBe.trans hBn
 obtain⟨A4,c4,rfl,hc4,hn4,-⟩:=ho4.slice'
 clear hBe He HRe hBn
 have HB4:=hid (HB3.out.trans (hB4.mono HB3.out.size))
 have H64:=hid (H63.out.below hB4 H63.out.lt)
 have H84:=hid (H83.out.below hB4 H83.out.lt)
 have HD4:=hid ((HD3.out.below hB4).more hB4.size)
 have hsz4:w.heap.size+2≤w4.heap.size:=Nat.le_trans hsz3 hB4.size
 have HC4:Hid (Reads w4 w4.heap.size A4 L t):=hid (ho4.reads.ext (fun i hi=>by unfold cat;simp))
 have HX4:=hid ((HR.out.below HB4.out).more HB4.out.size)
 clear hB4 hsz3 HB3 H63 H83 HD3 ho4 HX3
 have hs83:=Hsz.out
 by_cases hw:wh (sz k) L
 ·obtain⟨q,hq⟩: ∃q,q=L-sz k:=⟨_,rfl⟩
  have hnL:0<L∧sz k≤L:=by
   obtain⟨h1,h2⟩:=hw
   have:=Nat.le_of_dvd (by omega) (Nat.dvd_of_mod_eq_zero h2)
   omega
  have hq2:L=q+sz k:=by omega
  have HMQ:=hid hq2
  clear hq2
  obtain⟨ff,hff⟩: ∃ff,ff=t:=⟨_,rfl⟩
  have HMN:Hid (L=mtB (sz k) L*sz k):=hid (by rw[← mtN_eq];unfold mtN;rw[if_pos hw])
  have HF:Hid (mtF (sz k) L t (dbl (sz k) y)=cat q ff (xr (fun i=>ff (q+i)) (dbl (sz k) y))):=hid (by unfold mtF;rw[if_pos hw,hff,hq])
  have Hff:Hid (∀i,i<L→ff i<256):=hid (by rw[hff];exact Ht.out)
  obtain⟨ad,rfl,-⟩:=HC4.out hnL.1
  have HT4x:Hid (Reads w4 w4.heap.size (some ad) L ff):=hid (by rw[hff];exact HC4.out)
  have hcw: ¬(((L:Int) == 0)=true∨0< (L:Int)%(sz k:Int)):=by
   obtain⟨h1,h2⟩:=hw
   rintro(h | h)
   ·simp at h;omega
   rw[← Int.natCast_emod,h2] at h;simp at h
  clear hw HC4 HX4 hff hq
  go_wp2_with (with_reducible refine wpl_val rfl _ (exec_cutLZ _ _ rfl ad L c4 q (sz k) _ rfl rfl (by have:=HMQ.out;omega) HMQ.out hs1 hc4) ?_)
  clear hcw
  have hqM:q≤L:=by have:=HMQ.out;omega
  have hMc:L≤c4:=by omega
  have hqc2: ¬c4=q:=by have:=HMQ.out;omega
  have hqc:q≤c4:=by omega
  have Hmqs:Hid (L-q=sz k):=hid (by have:=HMQ.out;omega)
  have HqM:Hid (∀i,i<sz k→q+i<L):=hid (fun i hi=>by have:=HMQ.out;omega)
  have hM1:L≤1000:=by omega
  have hM2:q+sz k≤1000000:=by have:=HMQ.out;omega
  have hqI:((L:Nat):Int)-((sz k:Nat):Int)=(q:Int):=by have:=HMQ.out;omega
  have HqI:=hid hqI
  clear hqI
  have HXc:=hid (show Reads w4 w4.heap.size (some (ad.add q)) (sz k) (fun i=>ff (q+i)) from by
   have h:=(HT4x.out).cut (k:=q) (cap:=c4) hqM hMc
   rw[if_neg hqc2,Hmqs.out] at h
   exact h)
  refine(rxor_any (some (ad.add q)) A3 (sz k) (c4-q) c3 (fun i=>ff (q+i)) (dbl (sz k) y) _ (by omega) (fun i hi=>Hff.out _ (HqM.out i hi)) Hdb.out HXc.out HD4.out).mono ?_
  rintro e w5 ⟨v5,rfl,ho5,hB5⟩
  obtain⟨A5,c5,rfl,hc5,hn5,-⟩:=ho5.slice'
  have HB5:=hid (HB4.out.trans (hB5.mono HB4.out.size))
  have H65:=hid (H64.out.below hB5 H64.out.lt)
  have H85:=hid (H84.out.below hB5 H84.out.lt)
  have hsz5:w.heap.size+2≤w5.heap.size:=Nat.le_trans hsz4 hB5.size
  have HU5:=hid ((HT4x.out.below hB5).more hB5.size)
  have HV5:=hid ho5.reads
  clear hB5 hsz4 HB4 H64 H84 ho5 HXc HD4 HT4x
  have hBe:=(Below.refl w5.heap.size w5).alloc (Nat.le_refl _) (.cells #[] 5)
  have He:=hid (Mem.Own.empty w5 w5.heap.size 5 (fun _=>0) (Nat.le_refl _))
  have HRe:=hid (((HU5.out.less (hqM)).below hBe).more hBe.size)
  go_wp2_with (first | (with_reducible refine wpl_val rfl _ (exec_cutHZ _ _ rfl ad L c4 q _ rfl rfl HqI.out hqc) ?_) | (at_builtin; (refine wpl_app_gen rfl _ _ 22 rfl w5.heap.size 5 (.int .u8 0) Tryz.underlying22 info_u8 rfl _ 0 _ rfl He.out (some ad) q c4 _ _ HRe.out (fun h=>by cases h) rfl (by omega) (by simp) ?_)))
  intro v6 w6 ho6 hBn
  try rw[Nat.zero_add] at ho6
  have hB6:=hBe.trans hBn
  clear hBe He HRe hBn
  have Ho6:=hid ho6
  have HV6:=hid ((HV5.out.below hB6).more hB6.size)
  have hs12:w5.heap.size≤w6.heap.size:=hB6.size
  have HBx:=hid hB6
  clear hB6 ho6 HV5 HU5
  go_wp2_with (at_builtin; (refine wpl_app_gen rfl _ _ 22 rfl w5.heap.size 5 (.int .u8 0) Tryz.underlying22 info_u8 rfl _ q _ rfl Ho6.out A5 (sz k) c5 _ _ HV6.out hn5 rfl hM2 hs12 ?_))
  intro v7 w7 ho7 hBn
  have hB7:=HBx.out.trans hBn
  rw[← HMQ.out] at ho7
  obtain⟨A7,c7,rfl,hc7,hn7,-⟩:=ho7.slice'
  clear hBn HBx Ho6 HV6
  have HB7:=hid (HB5.out.trans (hB7.mono HB5.out.size))
  have H67:=hid (H65.out.below hB7 H65.out.lt)
  have H87:=hid (H85.out.below hB7 H85.out.lt)
  have hsz7:w.heap.size+2≤w7.heap.size:=Nat.le_trans hsz5 hB7.size
  have HT7x:Hid (Reads w7 w7.heap.size A7 L (mtF (sz k) L t (dbl (sz k) y))):=hid (by rw[HF.out];exact ho7.reads)
  clear hB7 hsz5 HB5 H65 H85 ho7 hs12 HF Hff
  have hxb:=hid (mtF_lt (n:=sz k) Ht.out (k1:=dbl (sz k) y) Hdb.out)
  have hmn:mtN (sz k) L=L:=by rw[mtN_eq,← HMN.out]
  rw[hmn] at hxb
  clear hmn
  go_wp2_with fail
  refine wp_region_held_drew (S:=fun W=>Below w7.heap.size w7 W) (by kernel_rfl) (Below.refl _ _).drew (fun hS0z=>?_)
  refine ztk (i:=0) (v:= .int .i64 (k:Int)) rfl (fun _ _=>exec_move _ rfl _ rfl) hS0z ?_
  (try simp only[Act.put,zza,zzb,zzc,zzd,zze,zzf])
  refine ztk (i:=1) (v:= .slice Ak Lk ck) rfl (fun _ _=>exec_move _ rfl _ rfl) hS0z ?_
  (try simp only[Act.put,zza,zzb,zzc,zzd,zze,zzf])
  refine ztk (i:=2) (v:= .agg (row 2 (bookC (.slice none 0 0) (.slice none 0 0)))) rfl (fun W hW=>exec_loadSt 72 _ rfl ⟨w.heap.size,0,none⟩ rfl 2 _ (cells2 (H67.out.below hW H67.out.lt)) _ Tryz.underlying72 iRB) hS0z ?_
  (try simp only[Act.put,zza,zzb,zzc,zzd,zze,zzf])
  refine ztk (i:=3) (v:= .int .i64 (sz k:Int)) rfl (fun _ _=>exec_move _ rfl _ rfl) hS0z ?_
  (try simp only[Act.put,zza,zzb,zzc,zzd,zze,zzf])
  refine ztk (i:=5) (v:= .slice A7 L c7) rfl (fun _ _=>exec_move _ rfl _ rfl) hS0z ?_
  (try simp only[Act.put,zza,zzb,zzc,zzd,zze,zzf])
  refine wpAnyH_ready (rs:=[4]) (by kernel_rfl) (by simp) (AllReadyH.cons rfl (fun K hK=>?_) AllReadyH.nil)
  (try simp only[Act.put,zza,zzb,zzc,zzd,zze,zzf])
  refine Eq.mpr (if_pos (by rfl)) ?_
  refine wp_valw2 _ (exec_mk _ _ rfl (sz k) (by omega) rfl rfl) ?_
  refine hK.out _ _ (hS0z.alloc (hS0z).size _) (fun hS1z=>?_)
  (try simp only[Act.put,zza,zzb,zzc,zzd,zze,zzf])
  clear hK K
  have hzcz:Blk (w7.drew.alloc (.cells (row (sz k) (b8 Mc.zf)) 5)) w7.heap.size 5 (row (sz k) (b8 Mc.zf)):=Blk.fresh w7.drew 5 _
  generalize (w7.drew.alloc (.cells (row (sz k) (b8 Mc.zf)) 5))=wcz at hS1z hzcz ⊢
  refine wpAnyH_ready (rs:=[6]) (by kernel_rfl) (by simp) (AllReadyH.cons rfl (fun K hK=>?_) AllReadyH.nil)
  (try simp only[Act.put,zza,zzb,zzc,zzd,zze,zzf])
  refine Eq.mpr (if_pos (by rfl)) ?_
  go_simp
  refine(HMd.out (some ⟨w7.heap.size,0,none⟩) (sz k) Mc.zf A7 L c7 (mtB (sz k) L) _ _ ((HK.out.below (HB7.out.trans (hS1z.mono HB7.out.size))).more (HB7.out.trans (hS1z.mono HB7.out.size)).size) HMN.out (by have:=Hsz.out;omega) hc7 hxb.out ((HT7x.out.below hS1z).more (hS1z).size) (Mc.zf_lt _) (Blk.reads hzcz)).mono ?_
  rintro e wq2z ⟨vE,rfl,hoE,hBE⟩
  obtain⟨gE,cE,rfl,hcE⟩:=own_at hoE (by have:=HMQ.out;omega)
  refine hK.out _ _ (hS1z.trans (hBE.mono hS1z.size)) (fun hS2z=>?_)
  (try simp only[Act.put,zza,zzb,zzc,zzd,zze,zzf])
  clear hK K
  refine ztk (i:=7) (v:= .tuple #[.agg (row 2 (bookC (.slice none 0 0) (.slice none 0 0))), .slice (some ⟨gE,0,none⟩) L cE, .int .i64 (-1)]) rfl (fun _ _=>exec_move _ rfl _ rfl) hS2z ?_
  (try simp only[Act.put,zza,zzb,zzc,zzd,zze,zzf])
  refine ztk (i:=8) (v:= .agg (row 2 (bookC (.slice none 0 0) (.slice none 0 0)))) rfl (fun _ _=>exec_extract _ 0 rfl _ rfl _ rfl) hS2z ?_
  (try simp only[Act.put,zza,zzb,zzc,zzd,zze,zzf])
  refine ztk (i:=9) (v:= .slice (some ⟨gE,0,none⟩) L cE) rfl (fun _ _=>exec_extract _ 1 rfl _ rfl _ rfl) hS2z ?_
  (try simp only[Act.put,zza,zzb,zzc,zzd,zze,zzf])
  refine ztk (i:=10) (v:= .int .i64 (-1)) rfl (fun _ _=>exec_extract _ 2 rfl _ rfl _ rfl) hS2z ?_
  (try simp only[Act.put,zza,zzb,zzc,zzd,zze,zzf])
  refine wpAnyH_ready (rs:=[11]) (by kernel_rfl) (by simp) (AllReadyH.cons rfl (fun K hK=>?_) AllReadyH.nil)
  (try simp only[Act.put,zza,zzb,zzc,zzd,zze,zzf])
  refine Eq.mpr (if_pos (by rfl)) ?_
  with_reducible refine wp_store_blk 72 _ _ rfl (w.heap.size) (row 2 (bookC (.slice none 0 0) (.slice none 0 0))) rfl rfl 72 _ (H67.out.below hS2z H67.out.lt) (iRB' _) (by simp[row_size]) (one2 _ _ _ _ _ _) ?_
  rw[blk_self (H67.out.below hS2z H67.out.lt)]
  refine hK.out _ _ (hS2z) (fun hS3z=>?_)
  (try simp only[Act.put,zza,zzb,zzc,zzd,zze,zzf])
  clear hK K
  refine ztk (i:=12) (v:= .slice (some ⟨gE,0,none⟩) L cE) rfl (fun _ _=>exec_assign _ rfl _ rfl) hS3z ?_
  (try simp only[Act.put,zza,zzb,zzc,zzd,zze,zzf])
  refine ztk (i:=13) (v:= .int .i64 (-1)) rfl (fun _ _=>exec_assign _ rfl _ rfl) hS3z ?_
  (try simp only[Act.put,zza,zzb,zzc,zzd,zze,zzf])
  refine wpAnyH_done (by kernel_rfl) ?_ _
  have HBE:=hid (HB7.out.trans (hS3z.mono HB7.out.size))
  have H6E:=hid (H67.out.below hS3z H67.out.lt)
  have H8E:=hid (H87.out.below hS3z H87.out.lt)
  have hqN:q=(mtB (sz k) L-1)*sz k:=by
   have h1:=HMN.out
   have h2:=HMQ.out
   rw[Nat.sub_mul,Nat.one_mul,← h1]
   omega
  have HrE:Hid (Reads wq2z wq2z.heap.size (some (Addr.add ⟨gE,0,none⟩ q)) (sz k) (cmacF k Lk key L t)):=hid ((reads_tail (q:=q) (n:=sz k) hoE.reads (by have:=HMQ.out;omega)).ext fun i hi=>by
   rw[← rn_cmac,← Hy.out,← chain_tail mtB_pos hi,hqN])
  have hcE2:sz k≤cE-q:=by have:=HMQ.out;omega
  have ESub:Hid (((L:Nat):Int)-(sz k:Int)=(q:Int)∧(0:Int)≤(q:Int)∧(q:Int)≤100000):=hid ⟨by have:=HMQ.out;omega,by omega,by have:=HMQ.out;have:=Hsz.out;omega⟩
  have hcut:Hid (L=q+sz k∧L≤cE):=hid ⟨HMQ.out,hcE⟩
  clear hS0z hS1z hS2z hS3z hzcz hoE hBE hqN
  go_wp2_with fail
  generalize wq2z=wE at*
  refine wp_region_held_drew (S:=fun W=>Below wE.heap.size wE W) (by kernel_rfl) (Below.refl _ _).drew (fun hS0y=>?_)
  refine ztk (i:=0) (v:= .agg (row 2 (bookC (.slice none 0 0) (.slice none 0 0)))) rfl (fun W hW=>exec_loadSt 72 _ rfl ⟨w.heap.size,0,none⟩ rfl 2 _ (cells2 (H6E.out.below hW H6E.out.lt)) _ Tryz.underlying72 iRB) hS0y ?_
  (try simp only[Act.put,zza,zzb,zzc,zzd,zze,zzf])
  refine ztk (i:=1) (v:= .slice (some ⟨gE,0,none⟩) L cE) rfl (fun _ _=>exec_move _ rfl _ rfl) hS0y ?_
  (try simp only[Act.put,zza,zzb,zzc,zzd,zze,zzf])
  refine ztk (i:=2) (v:= .slice (some ⟨gE,0,none⟩) L cE) rfl (fun _ _=>exec_move _ rfl _ rfl) hS0y ?_
  (try simp only[Act.put,zza,zzb,zzc,zzd,zze,zzf])
  refine ztk (i:=3) (v:= .int .i64 (L:Int)) rfl (fun W _=>by go_simp) hS0y ?_
  (try simp only[Act.put,zza,zzb,zzc,zzd,zze,zzf])
  refine ztk (i:=4) (v:= .int .i64 (sz k:Int)) rfl (fun _ _=>exec_move _ rfl _ rfl) hS0y ?_
  (try simp only[Act.put,zza,zzb,zzc,zzd,zze,zzf])
  refine ztk (i:=5) (v:= .int .i64 (q:Int)) rfl (fun _ _=>exec_subN _ _ _ _ rfl _ _ _ rfl rfl ESub.out) hS0y ?_
  (try simp only[Act.put,zza,zzb,zzc,zzd,zze,zzf])
  refine ztk (i:=6) (v:= .slice (some (Addr.add ⟨gE,0,none⟩ q)) (sz k) (cE-q)) rfl (fun _ _=>exec_cutLZ _ _ rfl ⟨gE,0,none⟩ L cE q (sz k) _ rfl rfl rfl hcut.out.1 hs1 hcut.out.2) hS0y ?_
  (try simp only[Act.put,zza,zzb,zzc,zzd,zze,zzf])
  refine wpAnyH_ready (rs:=[7]) (by kernel_rfl) (by simp) (AllReadyH.cons rfl (fun K hK=>?_) AllReadyH.nil)
  (try simp only[Act.put,zza,zzb,zzc,zzd,zze,zzf])
  refine Eq.mpr (if_pos (by rfl)) ?_
  with_reducible refine wp_store_blk 72 _ _ rfl (w.heap.size+1) (row 2 (bookC (.slice none 0 0) (.slice none 0 0))) rfl rfl 72 _ (H8E.out.below hS0y H8E.out.lt) (iRB' _) (by simp[row_size]) (one2 _ _ _ _ _ _) ?_
  rw[blk_self (H8E.out.below hS0y H8E.out.lt)]
  refine hK.out _ _ (hS0y) (fun hS1y=>?_)
  (try simp only[Act.put,zza,zzb,zzc,zzd,zze,zzf])
  clear hK K
  refine ztk (i:=8) (v:= .slice (some (Addr.add ⟨gE,0,none⟩ q)) (sz k) (cE-q)) rfl (fun _ _=>exec_assign _ rfl _ rfl) hS1y ?_
  (try simp only[Act.put,zza,zzb,zzc,zzd,zze,zzf])
  refine ztk (i:=9) (v:= .bool true) rfl (fun _ _=>exec_assign _ rfl _ rfl) hS1y ?_
  (try simp only[Act.put,zza,zzb,zzc,zzd,zze,zzf])
  refine wpAnyH_done (by kernel_rfl) ?_ _
  have HBF:=hid (HBE.out.trans (hS1y.mono HBE.out.size))
  have H8F:=hid (H8E.out.below hS1y H8E.out.lt)
  have HrF:=hid ((HrE.out.below hS1y).more (hS1y).size)
  go_wp2_with fail
  exact ret_row3 Tryz.results33 rfl (w.heap.size+1) rfl _ rfl _ rfl 72 2 _ H8F.out _ Tryz.underlying72 iRB ⟨_,_,rfl,hcE2,HrF.out,HBF.out⟩
 obtain⟨M,hM⟩: ∃M,M=padN L (sz k):=⟨_,rfl⟩
 have hML:M≤L+sz k:=by rw[hM];exact padN_le
 have hnM:sz k≤M:=by rw[hM];unfold padN;exact Nat.le_mul_of_pos_left _ (Nat.succ_pos _)
 obtain⟨q,hq⟩: ∃q,q=M-sz k:=⟨_,rfl⟩
 have HMQ:Hid (M=q+sz k):=hid (by omega)
 obtain⟨ff,hff⟩: ∃ff,ff=padF L t:=⟨_,rfl⟩
 have HMN:Hid (M=mtB (sz k) L*sz k):=hid (by rw[← mtN_eq];unfold mtN;rw[if_neg hw];exact hM)
 have HF:Hid (mtF (sz k) L t (dbl (sz k) y)=cat q ff (xr (fun i=>ff (q+i)) (dbl (sz k) (dbl (sz k) y)))):=hid (by unfold mtF;rw[if_neg hw,hff,hq,hM])
 have Hff:Hid (∀i,i<M→ff i<256):=hid (fun i _=>by rw[hff];exact padF_lt Ht.out i)
 have Hfe:=hid hff
 have HM:=hid hM
 have hcw:0< (L:Int)%(sz k:Int):=by
  have h2:L%sz k≠0:=fun h=>hw ⟨hl0,h⟩
  rw[← Int.natCast_emod]
  omega
 have hl1I: ¬(L:Int)=0:=by omega
 clear hw hM hff hq HC4 hl0
 go_wp2_with fail
 refine(rdbl_any A3 (sz k) c3 (dbl (sz k) y) _ Hsz.out Hdb.out HD4.out).mono ?_
 rintro e w5 ⟨v5,rfl,ho5,hB5⟩
 obtain⟨A5,c5,rfl,hc5,-⟩:=ho5.slice'
 have Hd2:Hid (∀i,i<sz k→dbl (sz k) (dbl (sz k) y) i<256):=hid (dbl_lt Hdb.out)
 have HD5:=hid ho5.reads
 have HB5:=hid (HB4.out.trans (hB5.mono HB4.out.size))
 have H65:=hid (H64.out.below hB5 H64.out.lt)
 have H85:=hid (H84.out.below hB5 H84.out.lt)
 have HX5:=hid ((HX4.out.below hB5).more hB5.size)
 have hsz5:w.heap.size+2≤w5.heap.size:=Nat.le_trans hsz4 hB5.size
 clear hB5 hsz4 HB4 H64 H84 HX4 ho5 HD4 hcw
 go_wp2_with fail
 refine(rpad_any A L c t (sz k) M _ (by omega) (by omega) (by omega) HM.out HA.out HX5.out).mono ?_
 rintro e w6 ⟨v6,rfl,ho6,hB6⟩
 obtain⟨A6,c6,rfl,hc6,-⟩:=ho6.slice'
 obtain⟨ad,rfl,-⟩:=ho6.reads (by omega)
 have HT6x:Hid (Reads w6 w6.heap.size (some ad) M ff):=hid (by rw[Hfe.out];exact ho6.reads)
 have HB6:=hid (HB5.out.trans (hB6.mono HB5.out.size))
 have H66:=hid (H65.out.below hB6 H65.out.lt)
 have H86:=hid (H85.out.below hB6 H85.out.lt)
 have HD6:=hid ((HD5.out.below hB6).more hB6.size)
 have hsz6:w.heap.size+2≤w6.heap.size:=Nat.le_trans hsz5 hB6.size
 clear hB6 hsz5 HB5 H65 H85 HD5 ho6 HX5
 go_wp2_with (with_reducible refine wpl_val rfl _ (exec_cutLZ _ _ rfl ad M c6 q (sz k) _ rfl rfl (by have:=HMQ.out;omega) HMQ.out hs1 hc6) ?_)
 have hqM:q≤M:=by have:=HMQ.out;omega
 have hMc:M≤c6:=by omega
 have hqc2: ¬c6=q:=by have:=HMQ.out;omega
 have hqc:q≤c6:=by omega
 have Hmqs:Hid (M-q=sz k):=hid (by have:=HMQ.out;omega)
 have HqM:Hid (∀i,i<sz k→q+i<M):=hid (fun i hi=>by have:=HMQ.out;omega)
 have hM1:M≤1000:=by omega
 have hM2:q+sz k≤1000000:=by have:=HMQ.out;omega
 have hqI:((M:Nat):Int)-((sz k:Nat):Int)=(q:Int):=by have:=HMQ.out;omega
 have HqI:=hid hqI
 clear hqI
 have HXc:=hid (show Reads w6 w6.heap.size (some (ad.add q)) (sz k) (fun i=>ff (q+i)) from by
  have h:=(HT6x.out).cut (k:=q) (cap:=c6) hqM hMc
  rw[if_neg hqc2,Hmqs.out] at h
  exact h)
 refine(rxor_any (some (ad.add q)) A5 (sz k) (c6-q) c5 (fun i=>ff (q+i)) (dbl (sz k) (dbl (sz k) y)) _ (by omega) (fun i hi=>Hff.out _ (HqM.out i hi)) Hd2.out HXc.out HD6.out).mono ?_
 rintro e w7 ⟨v7,rfl,ho7,hB7⟩
 obtain⟨A7,c7,rfl,hc7,hn7,-⟩:=ho7.slice'
 have HB7:=hid (HB6.out.trans (hB7.mono HB6.out.size))
 have H67:=hid (H66.out.below hB7 H66.out.lt)
 have H87:=hid (H86.out.below hB7 H86.out.lt)
 have hsz7:w.heap.size+2≤w7.heap.size:=Nat.le_trans hsz6 hB7.size
 have HU7:=hid ((HT6x.out.below hB7).more hB7.size)
 have HV7:=hid ho7.reads
 clear hB7 hsz6 HB6 H66 H86 ho7 HXc HD6 HT6x
 have hBe:=(Below.refl w7.heap.size w7).alloc (Nat.le_refl _) (.cells #[] 5)
 have He:=hid (Mem.Own.empty w7 w7.heap.size 5 (fun _=>0) (Nat.le_refl _))
 have HRe:=hid (((HU7.out.less (hqM)).below hBe).more hBe.size)
 go_wp2_with (first | (with_reducible refine wpl_val rfl _ (exec_cutHZ _ _ rfl ad M c6 q _ rfl rfl HqI.out hqc) ?_) | (at_builtin; (refine wpl_app_gen rfl _ _ 22 rfl w7.heap.size 5 (.int .u8 0) Tryz.underlying22 info_u8 rfl _ 0 _ rfl He.out (some ad) q c6 _ _ HRe.out (fun h=>by cases h) rfl (by omega) (by simp) ?_)))
 intro v8 w8 ho8 hBn
 try rw[Nat.zero_add] at ho8
 have hB8:=hBe.trans hBn
 clear hBe He HRe hBn
 have Ho8:=hid ho8
 have HV8:=hid ((HV7.out.below hB8).more hB8.size)
 have hs12:w7.heap.size≤w8.heap.size:=hB8.size
 have HBx:=hid hB8
 clear hB8 ho8 HV7 HU7
 go_wp2_with (at_builtin; (refine wpl_app_gen rfl _ _ 22 rfl w7.heap.size 5 (.int .u8 0) Tryz.underlying22 info_u8 rfl _ q _ rfl Ho8.out A7 (sz k) c7 _ _ HV8.out hn7 rfl hM2 hs12 ?_))
 intro v9 w9 ho9 hBn
 have hB9:=HBx.out.trans hBn
 rw[← HMQ.out] at ho9
 obtain⟨A9,c9,rfl,hc9,hn9,-⟩:=ho9.slice'
 clear hBn HBx Ho8 HV8
 have HB9:=hid (HB7.out.trans (hB9.mono HB7.out.size))
 have H69:=hid (H67.out.below hB9 H67.out.lt)
 have H89:=hid (H87.out.below hB9 H87.out.lt)
 have hsz9:w.heap.size+2≤w9.heap.size:=Nat.le_trans hsz7 hB9.size
 have HT9x:Hid (Reads w9 w9.heap.size A9 M (mtF (sz k) L t (dbl (sz k) y))):=hid (by rw[HF.out];exact ho9.reads)
 clear hB9 hsz7 HB7 H67 H87 ho9 hs12 HF Hff
 have hxb:=hid (mtF_lt (n:=sz k) Ht.out (k1:=dbl (sz k) y) Hdb.out)
 have hmn:mtN (sz k) L=M:=by rw[mtN_eq,← HMN.out]
 rw[hmn] at hxb
 clear hmn
 go_wp2_with fail
 refine wp_region_held_drew (S:=fun W=>Below w9.heap.size w9 W) (by kernel_rfl) (Below.refl _ _).drew (fun hS0z=>?_)
 refine ztk (i:=0) (v:= .int .i64 (k:Int)) rfl (fun _ _=>exec_move _ rfl _ rfl) hS0z ?_
 (try simp only[Act.put,zza,zzb,zzc,zzd,zze,zzf])
 refine ztk (i:=1) (v:= .slice Ak Lk ck) rfl (fun _ _=>exec_move _ rfl _ rfl) hS0z ?_
 (try simp only[Act.put,zza,zzb,zzc,zzd,zze,zzf])
 refine ztk (i:=2) (v:= .agg (row 2 (bookC (.slice none 0 0) (.slice none 0 0)))) rfl (fun W hW=>exec_loadSt 72 _ rfl ⟨w.heap.size,0,none⟩ rfl 2 _ (cells2 (H69.out.below hW H69.out.lt)) _ Tryz.underlying72 iRB) hS0z ?_
 (try simp only[Act.put,zza,zzb,zzc,zzd,zze,zzf])
 refine ztk (i:=3) (v:= .int .i64 (sz k:Int)) rfl (fun _ _=>exec_move _ rfl _ rfl) hS0z ?_
 (try simp only[Act.put,zza,zzb,zzc,zzd,zze,zzf])
 refine ztk (i:=5) (v:= .slice A9 M c9) rfl (fun _ _=>exec_move _ rfl _ rfl) hS0z ?_
 (try simp only[Act.put,zza,zzb,zzc,zzd,zze,zzf])
 refine wpAnyH_ready (rs:=[4]) (by kernel_rfl) (by simp) (AllReadyH.cons rfl (fun K hK=>?_) AllReadyH.nil)
 (try simp only[Act.put,zza,zzb,zzc,zzd,zze,zzf])
 refine Eq.mpr (if_pos (by rfl)) ?_
 refine wp_valw2 _ (exec_mk _ _ rfl (sz k) (by omega) rfl rfl) ?_
 refine hK.out _ _ (hS0z.alloc (hS0z).size _) (fun hS1z=>?_)
 (try simp only[Act.put,zza,zzb,zzc,zzd,zze,zzf])
 clear hK K
 have hzcz:Blk (w9.drew.alloc (.cells (row (sz k) (b8 Mc.zf)) 5)) w9.heap.size 5 (row (sz k) (b8 Mc.zf)):=Blk.fresh w9.drew 5 _
 generalize (w9.drew.alloc (.cells (row (sz k) (b8 Mc.zf)) 5))=wcz at hS1z hzcz ⊢
 refine wpAnyH_ready (rs:=[6]) (by kernel_rfl) (by simp) (AllReadyH.cons rfl (fun K hK=>?_) AllReadyH.nil)
 (try simp only[Act.put,zza,zzb,zzc,zzd,zze,zzf])
 refine Eq.mpr (if_pos (by rfl)) ?_
 go_simp
 refine(HMd.out (some ⟨w9.heap.size,0,none⟩) (sz k) Mc.zf A9 M c9 (mtB (sz k) L) _ _ ((HK.out.below (HB9.out.trans (hS1z.mono HB9.out.size))).more (HB9.out.trans (hS1z.mono HB9.out.size)).size) HMN.out (by have:=Hsz.out;omega) hc9 hxb.out ((HT9x.out.below hS1z).more (hS1z).size) (Mc.zf_lt _) (Blk.reads hzcz)).mono ?_
 rintro e wq2z ⟨vE,rfl,hoE,hBE⟩
 obtain⟨gE,cE,rfl,hcE⟩:=own_at hoE (by have:=HMQ.out;omega)
 refine hK.out _ _ (hS1z.trans (hBE.mono hS1z.size)) (fun hS2z=>?_)
 (try simp only[Act.put,zza,zzb,zzc,zzd,zze,zzf])
 clear hK K
 refine ztk (i:=7) (v:= .tuple #[.agg (row 2 (bookC (.slice none 0 0) (.slice none 0 0))), .slice (some ⟨gE,0,none⟩) M cE, .int .i64 (-1)]) rfl (fun _ _=>exec_move _ rfl _ rfl) hS2z ?_
 (try simp only[Act.put,zza,zzb,zzc,zzd,zze,zzf])
 refine ztk (i:=8) (v:= .agg (row 2 (bookC (.slice none 0 0) (.slice none 0 0)))) rfl (fun _ _=>exec_extract _ 0 rfl _ rfl _ rfl) hS2z ?_
 (try simp only[Act.put,zza,zzb,zzc,zzd,zze,zzf])
 refine ztk (i:=9) (v:= .slice (some ⟨gE,0,none⟩) M cE) rfl (fun _ _=>exec_extract _ 1 rfl _ rfl _ rfl) hS2z ?_
 (try simp only[Act.put,zza,zzb,zzc,zzd,zze,zzf])
 refine ztk (i:=10) (v:= .int .i64 (-1)) rfl (fun _ _=>exec_extract _ 2 rfl _ rfl _ rfl) hS2z ?_
 (try simp only[Act.put,zza,zzb,zzc,zzd,zze,zzf])
 refine wpAnyH_ready (rs:=[11]) (by kernel_rfl) (by simp) (AllReadyH.cons rfl (fun K hK=>?_) AllReadyH.nil)
 (try simp only[Act.put,zza,zzb,zzc,zzd,zze,zzf])
 refine Eq.mpr (if_pos (by rfl)) ?_
 with_reducible refine wp_store_blk 72 _ _ rfl (w.heap.size) (row 2 (bookC (.slice none 0 0) (.slice none 0 0))) rfl rfl 72 _ (H69.out.below hS2z H69.out.lt) (iRB' _) (by simp[row_size]) (one2 _ _ _ _ _ _) ?_
 rw[blk_self (H69.out.below hS2z H69.out.lt)]
 refine hK.out _ _ (hS2z) (fun hS3z=>?_)
 (try simp only[Act.put,zza,zzb,zzc,zzd,zze,zzf])
 clear hK K
 refine ztk (i:=12) (v:= .slice (some ⟨gE,0,none⟩) M cE) rfl (fun _ _=>exec_assign _ rfl _ rfl) hS3z ?_
 (try simp only[Act.put,zza,zzb,zzc,zzd,zze,zzf])
 refine ztk (i:=13) (v:= .int .i64 (-1)) rfl (fun _ _=>exec_assign _ rfl _ rfl) hS3z ?_
 (try simp only[Act.put,zza,zzb,zzc,zzd,zze,zzf])
 refine wpAnyH_done (by kernel_rfl) ?_ _
 have HBE:=hid (HB9.out.trans (hS3z.mono HB9.out.size))
 have H6E:=hid (H69.out.below hS3z H69.out.lt)
 have H8E:=hid (H89.out.below hS3z H89.out.lt)
 have hqN:q=(mtB (sz k) L-1)*sz k:=by
  have h1:=HMN.out
  have h2:=HMQ.out
  rw[Nat.sub_mul,Nat.one_mul,← h1]
  omega
 have HrE:Hid (Reads wq2z wq2z.heap.size (some (Addr.add ⟨gE,0,none⟩ q)) (sz k) (cmacF k Lk key L t)):=hid ((reads_tail (q:=q) (n:=sz k) hoE.reads (by have:=HMQ.out;omega)).ext fun i hi=>by
  rw[← rn_cmac,← Hy.out,← chain_tail mtB_pos hi,hqN])
 have hcE2:sz k≤cE-q:=by have:=HMQ.out;omega
 have ESub:Hid (((M:Nat):Int)-(sz k:Int)=(q:Int)∧(0:Int)≤(q:Int)∧(q:Int)≤100000):=hid ⟨by have:=HMQ.out;omega,by omega,by have:=HMQ.out;have:=Hsz.out;omega⟩
 have hcut:Hid (M=q+sz k∧M≤cE):=hid ⟨HMQ.out,hcE⟩
 clear hS0z hS1z hS2z hS3z hzcz hoE hBE hqN
 go_wp2_with fail
 generalize wq2z=wE at*
 refine wp_region_held_drew (S:=fun W=>Below wE.heap.size wE W) (by kernel_rfl) (Below.refl _ _).drew (fun hS0y=>?_)
 refine ztk (i:=0) (v:= .agg (row 2 (bookC (.slice none 0 0) (.slice none 0 0)))) rfl (fun W hW=>exec_loadSt 72 _ rfl ⟨w.heap.size,0,none⟩ rfl 2 _ (cells2 (H6E.out.below hW H6E.out.lt)) _ Tryz.underlying72 iRB) hS0y ?_
 (try simp only[Act.put,zza,zzb,zzc,zzd,zze,zzf])
 refine ztk (i:=1) (v:= .slice (some ⟨gE,0,none⟩) M cE) rfl (fun _ _=>exec_move _ rfl _ rfl) hS0y ?_
 (try simp only[Act.put,zza,zzb,zzc,zzd,zze,zzf])
 refine ztk (i:=2) (v:= .slice (some ⟨gE,0,none⟩) M cE) rfl (fun _ _=>exec_move _ rfl _ rfl) hS0y ?_
 (try simp only[Act.put,zza,zzb,zzc,zzd,zze,zzf])
 refine ztk (i:=3) (v:= .int .i64 (M:Int)) rfl (fun W _=>by go_simp) hS0y ?_
 (try simp only[Act.put,zza,zzb,zzc,zzd,zze,zzf])
 refine ztk (i:=4) (v:= .int .i64 (sz k:Int)) rfl (fun _ _=>exec_move _ rfl _ rfl) hS0y ?_
 (try simp only[Act.put,zza,zzb,zzc,zzd,zze,zzf])
 refine ztk (i:=5) (v:= .int .i64 (q:Int)) rfl (fun _ _=>exec_subN _ _ _ _ rfl _ _ _ rfl rfl ESub.out) hS0y ?_
 (try simp only[Act.put,zza,zzb,zzc,zzd,zze,zzf])
 refine ztk (i:=6) (v:= .slice (some (Addr.add ⟨gE,0,none⟩ q)) (sz k) (cE-q)) rfl (fun _ _=>exec_cutLZ _ _ rfl ⟨gE,0,none⟩ M cE q (sz k) _ rfl rfl rfl hcut.out.1 hs1 hcut.out.2) hS0y ?_
 (try simp only[Act.put,zza,zzb,zzc,zzd,zze,zzf])
 refine wpAnyH_ready (rs:=[7]) (by kernel_rfl) (by simp) (AllReadyH.cons rfl (fun K hK=>?_) AllReadyH.nil)
 (try simp only[Act.put,zza,zzb,zzc,zzd,zze,zzf])
 refine Eq.mpr (if_pos (by rfl)) ?_
 with_reducible refine wp_store_blk 72 _ _ rfl (w.heap.size+1) (row 2 (bookC (.slice none 0 0) (.slice none 0 0))) rfl rfl 72 _ (H8E.out.below hS0y H8E.out.lt) (iRB' _) (by simp[row_size]) (one2 _ _ _ _ _ _) ?_
 rw[blk_self (H8E.out.below hS0y H8E.out.lt)]
 refine hK.out _ _ (hS0y) (fun hS1y=>?_)
 (try simp only[Act.put,zza,zzb,zzc,zzd,zze,zzf])
 clear hK K
 refine ztk (i:=8) (v:= .slice (some (Addr.add ⟨gE,0,none⟩ q)) (sz k) (cE-q)) rfl (fun _ _=>exec_assign _ rfl _ rfl) hS1y ?_
 (try simp only[Act.put,zza,zzb,zzc,zzd,zze,zzf])
 refine ztk (i:=9) (v:= .bool true) rfl (fun _ _=>exec_assign _ rfl _ rfl) hS1y ?_
 (try simp only[Act.put,zza,zzb,zzc,zzd,zze,zzf])
 refine wpAnyH_done (by kernel_rfl) ?_ _
 have HBF:=hid (HBE.out.trans (hS1y.mono HBE.out.size))
 have H8F:=hid (H8E.out.below hS1y H8E.out.lt)
 have HrF:=hid ((HrE.out.below hS1y).more (hS1y).size)
 go_wp2_with fail
 exact ret_row3 Tryz.results33 rfl (w.heap.size+1) rfl _ rfl _ rfl 72 2 _ H8F.out _ Tryz.underlying72 iRB ⟨_,_,rfl,hcE2,HrF.out,HBF.out⟩
end Go.Proofs.YtlmacfmfmjhidaaGreatDoor.Wr.Rb
