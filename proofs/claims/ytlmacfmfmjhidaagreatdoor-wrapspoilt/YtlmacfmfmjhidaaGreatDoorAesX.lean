/-
 AesMath AesWalks AesWalks2 AesWalks3
-/
import Derived.Test.YtlmacfmfmjhidaaGreatDoorGfX
import Derived.Test.YtlmacfmfmjhidaaGreatDoorMemX
namespace Go.Proofs.YtlmacfmfmjhidaaGreatDoor.Aes
open Gf
def Eq16 (f g:Nat→Nat):Prop:= ∀i,i<16→f i=g i
def By16 (f:Nat→Nat):Prop:= ∀i,i<16→f i<256
theorem Eq16.symm {f g:Nat→Nat} (h:Eq16 f g):Eq16 g f:=fun i hi=>(h i hi).symm
theorem Eq16.trans {f g k:Nat→Nat} (h:Eq16 f g) (h':Eq16 g k):Eq16 f k:=fun i hi=>(h i hi).trans (h' i hi)
theorem Eq16.refl (f:Nat→Nat):Eq16 f f:=fun _ _=>rfl
theorem By16.of {f g:Nat→Nat} (h:By16 f) (e:Eq16 f g):By16 g:=fun i hi=>by rw[← e i hi];exact h i hi
def src (i:Nat):Nat:=(i+4*(i%4))%16
def dst (i:Nat):Nat:=(i+12*(i%4))%16
theorem src_lt (i:Nat):src i<16:=Nat.mod_lt _ (by omega)
theorem dst_lt (i:Nat):dst i<16:=Nat.mod_lt _ (by omega)
theorem src_dst: ∀i<16,src (dst i)=i:=by decide
theorem dst_src: ∀i<16,dst (src i)=i:=by decide
def each (g:Nat→Nat) (f:Nat→Nat):Nat→Nat:=fun i=>g (f i)
def rows (f:Nat→Nat):Nat→Nat:=fun i=>f (src i)
def rowsB (f:Nat→Nat):Nat→Nat:=fun i=>f (dst i)
def rk (ws:Nat→Nat) (r:Nat) (f:Nat→Nat):Nat→Nat:=fun i=>f i ^^^ ws (16*r+i)
def nxt (i k:Nat):Nat:=i-i%4+(i+k)%4
theorem nxt_lt (i k:Nat) (hi:i<16):nxt i k<16:=by unfold nxt;omega
def mixTo (c f:Nat→Nat) (i:Nat):Nat→Nat
 | 0=>0
 | k+1=>mixTo c f i k ^^^ mul (c k) (f (nxt i k))
def mix (c f:Nat→Nat):Nat→Nat:=fun i=>mixTo c f i 4
def fE:Nat→Nat:=fun k=>if k=0 then 2 else if k=1 then 3 else 1
def fD:Nat→Nat:=fun k=>if k=0 then 14 else if k=1 then 11 else if k=2 then 13 else 9
theorem fE_lt (k:Nat):fE k<256:=by unfold fE;split;omega;split<;>omega
theorem fD_lt (k:Nat):fD k<256:=by unfold fD;split;omega;split;omega;split<;>omega
theorem mixTo_lt (c f:Nat→Nat) (i k:Nat) (hc: ∀k,c k<256):mixTo c f i k<256:=by
 induction k with
 | zero=>show 0<256;omega
 | succ k ih=>exact xor_lt ih (mul_lt _ _ (hc k))
theorem mix_by (c f:Nat→Nat) (hc: ∀k,c k<256):By16 (mix c f):=fun i _=>mixTo_lt c f i 4 hc
theorem mixTo_ext (c:Nat→Nat){f g:Nat→Nat} (h:Eq16 f g) (i k:Nat) (hi:i<16):mixTo c f i k=mixTo c g i k:=by
 induction k with
 | zero=>rfl
 | succ k ih=>show _ ^^^ _=_ ^^^ _;rw[ih,h _ (nxt_lt i k hi)]
theorem mix_ext (c:Nat→Nat){f g:Nat→Nat} (h:Eq16 f g):Eq16 (mix c f) (mix c g):=fun i hi=>mixTo_ext c h i 4 hi
theorem rows_ext {f g:Nat→Nat} (h:Eq16 f g):Eq16 (rows f) (rows g):=fun i _=>h _ (src_lt i)
theorem rowsB_ext {f g:Nat→Nat} (h:Eq16 f g):Eq16 (rowsB f) (rowsB g):=fun i _=>h _ (dst_lt i)
theorem each_ext (p:Nat→Nat){f g:Nat→Nat} (h:Eq16 f g):Eq16 (each p f) (each p g):=fun i hi=>by unfold each;rw[h i hi]
theorem rk_ext (ws:Nat→Nat) (r:Nat){f g:Nat→Nat} (h:Eq16 f g):Eq16 (rk ws r f) (rk ws r g):=fun i hi=>by unfold rk;rw[h i hi]
theorem rows_by {f:Nat→Nat} (h:By16 f):By16 (rows f):=fun i _=>h _ (src_lt i)
theorem rowsB_by {f:Nat→Nat} (h:By16 f):By16 (rowsB f):=fun i _=>h _ (dst_lt i)
theorem box_by {f:Nat→Nat} (h:By16 f):By16 (each box f):=fun i hi=>box_lt _ (h i hi)
theorem unbox_by {f:Nat→Nat} (h:By16 f):By16 (each unbox f):=fun i hi=>unbox_lt _ (h i hi)
theorem rk_by {ws f:Nat→Nat}{n r:Nat} (h:By16 f) (hw: ∀i,i<n→ws i<256) (hn:16*r+16≤n):By16 (rk ws r f):=fun i hi=>xor_lt (h i hi) (hw _ (by omega))
theorem rk_rk (ws:Nat→Nat) (r:Nat) (f:Nat→Nat):rk ws r (rk ws r f)=f:=by
 funext i;unfold rk;rw[Nat.xor_assoc,Nat.xor_self,Nat.xor_zero]
theorem rowsB_rows (f:Nat→Nat):Eq16 (rowsB (rows f)) f:=fun i hi=>by unfold rowsB rows;rw[src_dst i hi]
theorem rows_rowsB (f:Nat→Nat):Eq16 (rows (rowsB f)) f:=fun i hi=>by show f (dst (src i))=f i;rw[dst_src i hi]
theorem unbox_each {f:Nat→Nat} (h:By16 f):Eq16 (each unbox (each box f)) f:=fun i hi=>unbox_box _ (h i hi)
theorem box_each {f:Nat→Nat} (h:By16 f):Eq16 (each box (each unbox f)) f:=fun i hi=>box_unbox _ (h i hi)
theorem d0: ∀x<256,mul 14 (mul 2 x) ^^^ (mul 11 (mul 1 x) ^^^ (mul 13 (mul 1 x) ^^^ mul 9 (mul 3 x)))=x:=by decide+kernel
theorem d1: ∀x<256,mul 14 (mul 3 x) ^^^ (mul 11 (mul 2 x) ^^^ (mul 13 (mul 1 x) ^^^ mul 9 (mul 1 x)))=0:=by decide+kernel
theorem d2: ∀x<256,mul 14 (mul 1 x) ^^^ (mul 11 (mul 3 x) ^^^ (mul 13 (mul 2 x) ^^^ mul 9 (mul 1 x)))=0:=by decide+kernel
theorem d3: ∀x<256,mul 14 (mul 1 x) ^^^ (mul 11 (mul 1 x) ^^^ (mul 13 (mul 3 x) ^^^ mul 9 (mul 2 x)))=0:=by decide+kernel
theorem e0: ∀x<256,mul 2 (mul 14 x) ^^^ (mul 3 (mul 9 x) ^^^ (mul 1 (mul 13 x) ^^^ mul 1 (mul 11 x)))=x:=by decide+kernel
theorem e1: ∀x<256,mul 2 (mul 11 x) ^^^ (mul 3 (mul 14 x) ^^^ (mul 1 (mul 9 x) ^^^ mul 1 (mul 13 x)))=0:=by decide+kernel
theorem e2: ∀x<256,mul 2 (mul 13 x) ^^^ (mul 3 (mul 11 x) ^^^ (mul 1 (mul 14 x) ^^^ mul 1 (mul 9 x)))=0:=by decide+kernel
theorem e3: ∀x<256,mul 2 (mul 9 x) ^^^ (mul 3 (mul 13 x) ^^^ (mul 1 (mul 11 x) ^^^ mul 1 (mul 14 x)))=0:=by decide+kernel
theorem ac16 (a0 a1 a2 a3 b0 b1 b2 b3 c0 c1 c2 c3 f0 f1 f2 f3:Nat):
  (((a0 ^^^ a1 ^^^ a2 ^^^ a3) ^^^ (b1 ^^^ b2 ^^^ b3 ^^^ b0)) ^^^ (c2 ^^^ c3 ^^^ c0 ^^^ c1)) ^^^ (f3 ^^^ f0 ^^^ f1 ^^^ f2)=
  (a0 ^^^ (b0 ^^^ (c0 ^^^ f0))) ^^^ ((a1 ^^^ (b1 ^^^ (c1 ^^^ f1))) ^^^ ((a2 ^^^ (b2 ^^^ (c2 ^^^ f2))) ^^^ (a3 ^^^ (b3 ^^^ (c3 ^^^ f3))))):=by
 ac_rfl
theorem colDE (x0 x1 x2 x3:Nat) (h0:x0<256) (h1:x1<256) (h2:x2<256) (h3:x3<256):
  ((mul 14 (mul 2 x0 ^^^ mul 3 x1 ^^^ mul 1 x2 ^^^ mul 1 x3) ^^^ mul 11 (mul 2 x1 ^^^ mul 3 x2 ^^^ mul 1 x3 ^^^ mul 1 x0)) ^^^ mul 13 (mul 2 x2 ^^^ mul 3 x3 ^^^ mul 1 x0 ^^^ mul 1 x1)) ^^^ mul 9 (mul 2 x3 ^^^ mul 3 x0 ^^^ mul 1 x1 ^^^ mul 1 x2)=x0:=by
 simp only[mul_add 14 _ _ (by omega),mul_add 11 _ _ (by omega),mul_add 13 _ _ (by omega),mul_add 9 _ _ (by omega)]
 rw[ac16,d0 x0 h0,d1 x1 h1,d2 x2 h2,d3 x3 h3]
 simp
theorem colED (x0 x1 x2 x3:Nat) (h0:x0<256) (h1:x1<256) (h2:x2<256) (h3:x3<256):
  ((mul 2 (mul 14 x0 ^^^ mul 11 x1 ^^^ mul 13 x2 ^^^ mul 9 x3) ^^^ mul 3 (mul 14 x1 ^^^ mul 11 x2 ^^^ mul 13 x3 ^^^ mul 9 x0)) ^^^ mul 1 (mul 14 x2 ^^^ mul 11 x3 ^^^ mul 13 x0 ^^^ mul 9 x1)) ^^^ mul 1 (mul 14 x3 ^^^ mul 11 x0 ^^^ mul 13 x1 ^^^ mul 9 x2)=x0:=by
 simp only[mul_add 2 _ _ (by omega),mul_add 3 _ _ (by omega),mul_add 1 _ _ (by omega)]
 rw[ac16,e0 x0 h0,e1 x1 h1,e2 x2 h2,e3 x3 h3]
 simp
theorem nxt_nxt: ∀i<16,∀k<4,∀l<4,nxt (nxt i k) l=nxt i ((k+l)%4):=by decide
theorem nxt_zero: ∀i<16,nxt i 0=i:=by decide
theorem mix_four (c f:Nat→Nat) (i:Nat):mix c f i=mul (c 0) (f (nxt i 0)) ^^^ mul (c 1) (f (nxt i 1)) ^^^ mul (c 2) (f (nxt i 2)) ^^^ mul (c 3) (f (nxt i 3)):=by
 show(((0 ^^^ _) ^^^ _) ^^^ _) ^^^ _=_
 rw[Nat.zero_xor]
theorem mixE (f:Nat→Nat) (i:Nat):mix fE f i=mul 2 (f (nxt i 0)) ^^^ mul 3 (f (nxt i 1)) ^^^ mul 1 (f (nxt i 2)) ^^^ mul 1 (f (nxt i 3)):=mix_four fE f i
theorem mixD (f:Nat→Nat) (i:Nat):mix fD f i=mul 14 (f (nxt i 0)) ^^^ mul 11 (f (nxt i 1)) ^^^ mul 13 (f (nxt i 2)) ^^^ mul 9 (f (nxt i 3)):=mix_four fD f i
theorem mixD_mixE {f:Nat→Nat} (h:By16 f):Eq16 (mix fD (mix fE f)) f:=by
 intro i hi
 have n0:=nxt_lt i 0 hi;have n1:=nxt_lt i 1 hi;have n2:=nxt_lt i 2 hi;have n3:=nxt_lt i 3 hi
 have N: ∀k<4,∀l<4,nxt (nxt i k) l=nxt i ((k+l)%4):=nxt_nxt i hi
 rw[mixD,mixE,mixE,mixE,mixE]
 rw[N 0 (by omega) 0 (by omega),N 0 (by omega) 1 (by omega),N 0 (by omega) 2 (by omega),N 0 (by omega) 3 (by omega),
  N 1 (by omega) 0 (by omega),N 1 (by omega) 1 (by omega),N 1 (by omega) 2 (by omega),N 1 (by omega) 3 (by omega),
  N 2 (by omega) 0 (by omega),N 2 (by omega) 1 (by omega),N 2 (by omega) 2 (by omega),N 2 (by omega) 3 (by omega),
  N 3 (by omega) 0 (by omega),N 3 (by omega) 1 (by omega),N 3 (by omega) 2 (by omega),N 3 (by omega) 3 (by omega)]
 have:=colDE (f (nxt i 0)) (f (nxt i 1)) (f (nxt i 2)) (f (nxt i 3)) (h _ n0) (h _ n1) (h _ n2) (h _ n3)
 rw[nxt_zero i hi] at this ⊢
 exact this
theorem mixE_mixD {f:Nat→Nat} (h:By16 f):Eq16 (mix fE (mix fD f)) f:=by
 intro i hi
 have n0:=nxt_lt i 0 hi;have n1:=nxt_lt i 1 hi;have n2:=nxt_lt i 2 hi;have n3:=nxt_lt i 3 hi
 have N: ∀k<4,∀l<4,nxt (nxt i k) l=nxt i ((k+l)%4):=nxt_nxt i hi
 rw[mixE,mixD,mixD,mixD,mixD]
 rw[N 0 (by omega) 0 (by omega),N 0 (by omega) 1 (by omega),N 0 (by omega) 2 (by omega),N 0 (by omega) 3 (by omega),
  N 1 (by omega) 0 (by omega),N 1 (by omega) 1 (by omega),N 1 (by omega) 2 (by omega),N 1 (by omega) 3 (by omega),
  N 2 (by omega) 0 (by omega),N 2 (by omega) 1 (by omega),N 2 (by omega) 2 (by omega),N 2 (by omega) 3 (by omega),
  N 3 (by omega) 0 (by omega),N 3 (by omega) 1 (by omega),N 3 (by omega) 2 (by omega),N 3 (by omega) 3 (by omega)]
 have:=colED (f (nxt i 0)) (f (nxt i 1)) (f (nxt i 2)) (f (nxt i 3)) (h _ n0) (h _ n1) (h _ n2) (h _ n3)
 rw[nxt_zero i hi] at this ⊢
 exact this
def encTo (ws:Nat→Nat) (N:Nat) (b:Nat→Nat):Nat→Nat→Nat
 | 0=>rk ws 0 b
 | r+1=>rk ws (r+1) (if r+1<N then mix fE (rows (each box (encTo ws N b r))) else rows (each box (encTo ws N b r)))
def decTo (ws:Nat→Nat) (N:Nat) (b:Nat→Nat):Nat→Nat→Nat
 | 0=>b
 | j+1=>each unbox (rowsB (if N-j<N then mix fD (rk ws (N-j) (decTo ws N b j)) else rk ws (N-j) (decTo ws N b j)))
def enc (ws:Nat→Nat) (N:Nat) (b:Nat→Nat):Nat→Nat:=encTo ws N b N
def dec (ws:Nat→Nat) (N:Nat) (b:Nat→Nat):Nat→Nat:=rk ws 0 (decTo ws N b N)
section
variable {ws:Nat→Nat}{N n:Nat} (hw: ∀i,i<n→ws i<256) (hn:16*N+16≤n)
include hw hn
theorem encTo_by {b:Nat→Nat} (hb:By16 b) (r:Nat) (hr:r≤N):By16 (encTo ws N b r):=by
 induction r with
 | zero=>exact rk_by (r:=0) hb hw (by omega)
 | succ r ih=>
  refine rk_by ?_ hw (by omega)
  split
  ·exact mix_by _ _ fE_lt
  exact rows_by (box_by (ih (by omega)))
theorem decTo_by {b:Nat→Nat} (hb:By16 b) (j:Nat) (hj:j≤N):By16 (decTo ws N b j):=by
 induction j with
 | zero=>exact hb
 | succ j ih=>
  refine unbox_by (rowsB_by ?_)
  split
  ·exact mix_by _ _ fD_lt
  exact rk_by (ih (by omega)) hw (by omega)
theorem enc_by {b:Nat→Nat} (hb:By16 b):By16 (enc ws N b):=encTo_by hw hn hb N (Nat.le_refl _)
theorem dec_by {b:Nat→Nat} (hb:By16 b):By16 (dec ws N b):=rk_by (r:=0) (decTo_by hw hn hb N (Nat.le_refl _)) hw (by omega)
theorem dec_back {b:Nat→Nat} (hb:By16 b) (j:Nat) (hj:j≤N):Eq16 (decTo ws N (enc ws N b) j) (encTo ws N b (N-j)):=by
 induction j with
 | zero=>exact Eq16.refl _
 | succ j ih=>
  have ih:=ih (by omega)
  obtain⟨r,hr⟩: ∃r,N-j=r+1:=⟨N-j-1,by omega⟩
  have hb':=encTo_by hw hn hb r (by omega)
  have e:N-(j+1)=r:=by omega
  rw[e]
  show Eq16 (each unbox (rowsB (if N-j<N then _ else _))) _
  rw[hr] at ih ⊢
  have h1:Eq16 (rk ws (r+1) (decTo ws N (enc ws N b) j)) (if r+1<N then mix fE (rows (each box (encTo ws N b r))) else rows (each box (encTo ws N b r))):=by
   refine(rk_ext ws (r+1) ih).trans ?_
   show Eq16 (rk ws (r+1) (rk ws (r+1) _)) _
   rw[rk_rk]
   exact Eq16.refl _
  have h2:Eq16 (if r+1<N then mix fD (rk ws (r+1) (decTo ws N (enc ws N b) j)) else rk ws (r+1) (decTo ws N (enc ws N b) j)) (rows (each box (encTo ws N b r))):=by
   by_cases hlt:r+1<N
   ·rw[if_pos hlt] at h1 ⊢
    exact(mix_ext fD h1).trans (mixD_mixE (rows_by (box_by hb')))
   rw[if_neg hlt] at h1 ⊢
   exact h1
  exact(each_ext unbox ((rowsB_ext h2).trans (rowsB_rows _))).trans (unbox_each hb')
theorem dec_enc {b:Nat→Nat} (hb:By16 b):Eq16 (dec ws N (enc ws N b)) b:=by
 have h:=dec_back hw hn hb N (Nat.le_refl _)
 rw[Nat.sub_self] at h
 refine(rk_ext ws 0 h).trans ?_
 show Eq16 (rk ws 0 (rk ws 0 b)) b
 rw[rk_rk]
 exact Eq16.refl _
theorem enc_back {b:Nat→Nat} (hb:By16 b) (r:Nat) (hr:r≤N):Eq16 (encTo ws N (dec ws N b) r) (decTo ws N b (N-r)):=by
 induction r with
 | zero=>
  show Eq16 (rk ws 0 (rk ws 0 _)) _
  rw[rk_rk]
  exact Eq16.refl _
 | succ r ih=>
  have ih:=ih (by omega)
  obtain⟨j,hj⟩: ∃j,N-r=j+1:=⟨N-r-1,by omega⟩
  have e:N-(r+1)=j:=by omega
  have e2:N-j=r+1:=by omega
  have hb':=decTo_by hw hn hb j (by omega)
  rw[hj] at ih
  rw[e]
  have ih':Eq16 (encTo ws N (dec ws N b) r) (each unbox (rowsB (if r+1<N then mix fD (rk ws (r+1) (decTo ws N b j)) else rk ws (r+1) (decTo ws N b j)))):=by
   have:decTo ws N b (j+1)=each unbox (rowsB (if N-j<N then mix fD (rk ws (N-j) (decTo ws N b j)) else rk ws (N-j) (decTo ws N b j))):=rfl
   rw[this,e2] at ih
   exact ih
  have hk:By16 (rk ws (r+1) (decTo ws N b j)):=rk_by hb' hw (by omega)
  have h1:Eq16 (rows (each box (encTo ws N (dec ws N b) r))) (if r+1<N then mix fD (rk ws (r+1) (decTo ws N b j)) else rk ws (r+1) (decTo ws N b j)):=by
   refine(rows_ext ((each_ext box ih').trans (box_each (rowsB_by ?_)))).trans (rows_rowsB _)
   split
   ·exact mix_by _ _ fD_lt
   exact hk
  have h2:Eq16 (if r+1<N then mix fE (rows (each box (encTo ws N (dec ws N b) r))) else rows (each box (encTo ws N (dec ws N b) r))) (rk ws (r+1) (decTo ws N b j)):=by
   by_cases hlt:r+1<N
   ·rw[if_pos hlt] at h1 ⊢
    exact(mix_ext fE h1).trans (mixE_mixD hk)
   rw[if_neg hlt] at h1 ⊢
   exact h1
  refine(rk_ext ws (r+1) h2).trans ?_
  rw[rk_rk]
  exact Eq16.refl _
theorem enc_dec {b:Nat→Nat} (hb:By16 b):Eq16 (enc ws N (dec ws N b)) b:=by
 have h:=enc_back hw hn hb N (Nat.le_refl _)
 rw[Nat.sub_self] at h
 exact h
end
theorem encTo_ext {ws ws':Nat→Nat}{N n:Nat}{b b':Nat→Nat} (hw: ∀i,i<n→ws i=ws' i) (hn:16*N+16≤n) (hb:Eq16 b b') (r:Nat) (hr:r≤N):Eq16 (encTo ws N b r) (encTo ws' N b' r):=by
 induction r with
 | zero=>intro i hi;show b i ^^^ ws (16*0+i)=b' i ^^^ ws' (16*0+i);rw[hb i hi,hw _ (by omega)]
 | succ r ih=>
  have h:=rows_ext (each_ext box (ih (by omega)))
  intro i hi
  show(if r+1<N then mix fE (rows (each box (encTo ws N b r))) else rows (each box (encTo ws N b r))) i ^^^ ws (16*(r+1)+i)=(if r+1<N then mix fE (rows (each box (encTo ws' N b' r))) else rows (each box (encTo ws' N b' r))) i ^^^ ws' (16*(r+1)+i)
  rw[hw _ (by omega)]
  by_cases hlt:r+1<N
  ·rw[if_pos hlt,if_pos hlt,mix_ext fE h i hi]
  rw[if_neg hlt,if_neg hlt,h i hi]
def pw:Nat→Nat
 | 0=>1
 | k+1=>mul (pw k) 2
theorem pw_lt (k:Nat):pw k<256:=by
 induction k with
 | zero=>show 1<256;omega
 | succ k ih=>exact mul_lt _ _ ih
def nw (L:Nat) (f:Nat→Nat) (t k:Nat):Nat:=
 if t%(L/4)=0 then box (f (L+4*t-4+(k+1)%4)) ^^^ (if k=0 then pw (t/(L/4)) else 0)
 else if L=32∧t%8=4 then box (f (L+4*t-4+k)) else f (L+4*t-4+k)
def ex (L:Nat) (key:Nat→Nat):Nat→Nat→Nat
 | 0=>fun i=>if i<L then key i else 0
 | t+1=>fun i=>if L+4*t≤i∧i<L+4*t+4 then ex L key t (i-L) ^^^ nw L (ex L key t) t (i-(L+4*t)) else ex L key t i
theorem nw_lt (L:Nat) (f:Nat→Nat) (t k:Nat) (hf: ∀i,f i<256):nw L f t k<256:=by
 unfold nw
 split
 ·refine xor_lt (box_lt _ (hf _)) ?_
  split
  ·exact pw_lt _
  omega
 split
 ·exact box_lt _ (hf _)
 exact hf _
theorem ex_lt (L:Nat) (key:Nat→Nat) (t:Nat) (hk: ∀i,i<L→key i<256): ∀i,ex L key t i<256:=by
 induction t with
 | zero=>intro i;show(if i<L then key i else 0)<256;split;exact hk i ‹_›;omega
 | succ t ih=>
  intro i
  show(if _ then _ else _)<256
  split
  ·exact xor_lt (ih _) (nw_lt L _ t _ ih)
  exact ih i
def rnd (L:Nat):Nat:=if L=32 then 14 else if L=24 then 12 else if L=16 then 10 else 0
def more (L:Nat):Nat:=4*(rnd L+1)-L/4
def words (L:Nat) (key:Nat→Nat):Nat→Nat:=ex L key (more L)
def exK (L:Nat) (key:Nat→Nat) (t k:Nat):Nat→Nat:=fun i=>if L+4*t≤i∧i<L+4*t+k then ex L key t (i-L) ^^^ nw L (ex L key t) t (i-(L+4*t)) else ex L key t i
theorem exK_zero (L:Nat) (key:Nat→Nat) (t:Nat):exK L key t 0=ex L key t:=by
 funext i;unfold exK;rw[if_neg (by omega)]
theorem exK_four (L:Nat) (key:Nat→Nat) (t:Nat):exK L key t 4=ex L key (t+1):=rfl
theorem exK_old (L:Nat) (key:Nat→Nat) (t k:Nat) (hk:k<L):exK L key t k (4*t+k)=ex L key t (4*t+k):=by
 unfold exK;rw[if_neg (by omega)]
theorem exK_put (L:Nat) (key:Nat→Nat) (t k:Nat): ∀j,(if j=L+4*t+k then ex L key t (4*t+k) ^^^ nw L (ex L key t) t k else exK L key t k j)=exK L key t (k+1) j:=by
 intro j
 unfold exK
 by_cases h:j=L+4*t+k
 ·subst h
  rw[if_pos rfl,if_pos (by omega),show L+4*t+k-L=4*t+k by omega,show L+4*t+k-(L+4*t)=k by omega]
 rw[if_neg h]
 by_cases h2:L+4*t≤j∧j<L+4*t+k
 ·rw[if_pos h2,if_pos (by omega)]
 rw[if_neg h2,if_neg (by omega)]
end Go.Proofs.YtlmacfmfmjhidaaGreatDoor.Aes
namespace Go.Proofs.YtlmacfmfmjhidaaGreatDoor.Aes
open Go.ChangeShapes Go.WideShapes Go.ChangeAt Go.RowKit Mem
theorem z16:(Tryz.prog.info? 150).map (·.zero)=some (some (.agg (row 16 (b8 fun _=>0)))):=by kernel_rfl
theorem z4:(Tryz.prog.info? 193).map (·.zero)=some (some (.agg (row 4 (b8 fun _=>0)))):=by kernel_rfl
theorem i16:(Tryz.prog.info? 150).map (·.size)=some 16:=by kernel_rfl
theorem i4:(Tryz.prog.info? 193).map (·.size)=some 4:=by kernel_rfl
theorem i8:(Tryz.prog.info? 5).map (·.size)=some 1:=by kernel_rfl
theorem i16' (f:Nat→Value):(Tryz.prog.info? 150).map (·.size)=some (row 16 f).size:=by rw[row_size];exact i16
theorem i4' (f:Nat→Value):(Tryz.prog.info? 193).map (·.size)=some (row 4 f).size:=by rw[row_size];exact i4
theorem two_new (w:World) (f g:Nat→Nat) (n t:Nat):Blk ((w.alloc (.cells (row n (b8 f)) t)).alloc (.cells (row n (b8 g)) t)) (w.heap.size+1) t (row n (b8 g)):=by simpa using Blk.fresh (w.alloc (.cells (row n (b8 f)) t)) t (row n (b8 g))
theorem three_new (w:World) (o p:Obj) (c:Array Value) (t:TypeId):Blk (((w.alloc o).alloc p).alloc (.cells c t)) (w.heap.size+2) t c:=by simpa using Blk.fresh ((w.alloc o).alloc p) t c
set_option maxHeartbeats 1000000 in
theorem eachBox (f:Nat→Nat) (w:World) (hf:By16 f):
  Calls Tryz.prog 146 #[.agg (row 16 (b8 f)), .func (.func 147) #[] #[]] w fun e w'=>e= .returned (.agg (row 16 (b8 (each Gf.box f))))∧Below w.heap.size w w':=by
 have Hf:=hid hf
 clear hf
 go_enter Tryz.func146,Tryz.ntmps146
 go_wp2_with (first | (with_reducible refine wpl_alloc rfl 150 rfl _ z16 ?_) | (with_reducible refine wpl_load rfl 150 _ rfl w.heap.size rfl 150 _ ((Blk.fresh _ _ _).alloc _) 16 5 Tryz.underlying150 (i16' _) ?_))
 go_loopw [5,6,8] (fun _ _ i wr=> ∃(k:Nat) (m m':Nat→Nat),k≤16∧i= .int .i64 k∧Hid (∀j,m j=if j<k then each Gf.box f j else f j)∧Blk wr w.heap.size 150 (row 16 (b8 m))∧Blk wr (w.heap.size+1) 150 (row 16 (b8 m'))∧Below w.heap.size w wr) (fun _ _ i _=>16-(intOf i).toNat)
 case atStart=>
  exact⟨0,f,fun _=>0,by omega,rfl,hid (by simp),(Blk.fresh _ _ _).alloc _,two_new _ _ _ _ _,((Below.refl _ _).alloc (Nat.le_refl _) _).alloc (by simp) _⟩
 case round=>
  obtain⟨k,m,m',hk,rfl,HM,hb1,hb2,hB⟩:=hrel
  by_cases hlt:k<16
  ·have hfk:=Hf.out k hlt
   go_wp2_with (first
    | (with_reducible refine wpl_index rfl 150 _ _ rfl _ rfl .i64 _ rfl k rfl 16 5 Tryz.underlying150 hlt .u8 Tryz.underlying5 i8 _ (row_val 16 f k hlt) ?_)
    | (go_at_call 147;refine(Gf.box_any _ hfk _).mono ?_;rintro e w' ⟨rfl,q,rfl⟩)
    | (with_reducible refine wpl_at rfl 150 _ _ rfl _ rfl .i64 _ rfl k rfl 16 5 Tryz.underlying150 hlt i8 ?_)
    | (with_reducible refine wpl_st rfl 5 _ _ rfl _ rfl .u8 _ rfl i8 _ ((hb1.drewN q).val k hlt) ((hb1.drewN q).free k) ?_))
   go_round
   case rel=>exact⟨k+1,upd m k (Gf.box (f k)),m',by omega,val_int (by omega),hid (fill_step (F:=each Gf.box f) HM.out),(hb1.drewN q).put k _,(hb2.drewN q).other _ _ (by simp),(below_drewN hB q).setCell (by simp) _⟩
   case measure=>simp[intOf];omega
  go_wp2_with (first
   | (with_reducible refine wpl_load rfl 150 _ rfl _ rfl 150 _ hb1 16 5 Tryz.underlying150 (i16' _) ?_)
   | (with_reducible refine wpl_store rfl 150 _ _ rfl _ _ rfl rfl 150 _ hb2 (i16' _) (by simp[row_size]) (one_b8 _ _) ?_))
  exact ret_row Tryz.results146 rfl (w.heap.size+1) rfl 150 16 _ (hb2.setRow _) 5 Tryz.underlying150 i16 ⟨ret_agg (fill_end HM.out (by omega)),below_setRow' hB (by omega) _⟩
set_option maxHeartbeats 1000000 in
theorem eachUnbox (f:Nat→Nat) (w:World) (hf:By16 f):
  Calls Tryz.prog 146 #[.agg (row 16 (b8 f)), .func (.func 150) #[] #[]] w fun e w'=>e= .returned (.agg (row 16 (b8 (each Gf.unbox f))))∧Below w.heap.size w w':=by
 have Hf:=hid hf
 clear hf
 go_enter Tryz.func146,Tryz.ntmps146
 go_wp2_with (first | (with_reducible refine wpl_alloc rfl 150 rfl _ z16 ?_) | (with_reducible refine wpl_load rfl 150 _ rfl w.heap.size rfl 150 _ ((Blk.fresh _ _ _).alloc _) 16 5 Tryz.underlying150 (i16' _) ?_))
 go_loopw [5,6,8] (fun _ _ i wr=> ∃(k:Nat) (m m':Nat→Nat),k≤16∧i= .int .i64 k∧Hid (∀j,m j=if j<k then each Gf.unbox f j else f j)∧Blk wr w.heap.size 150 (row 16 (b8 m))∧Blk wr (w.heap.size+1) 150 (row 16 (b8 m'))∧Below w.heap.size w wr) (fun _ _ i _=>16-(intOf i).toNat)
 case atStart=>
  exact⟨0,f,fun _=>0,by omega,rfl,hid (by simp),(Blk.fresh _ _ _).alloc _,two_new _ _ _ _ _,((Below.refl _ _).alloc (Nat.le_refl _) _).alloc (by simp) _⟩
 case round=>
  obtain⟨k,m,m',hk,rfl,HM,hb1,hb2,hB⟩:=hrel
  by_cases hlt:k<16
  ·have hfk:=Hf.out k hlt
   go_wp2_with (first
    | (with_reducible refine wpl_index rfl 150 _ _ rfl _ rfl .i64 _ rfl k rfl 16 5 Tryz.underlying150 hlt .u8 Tryz.underlying5 i8 _ (row_val 16 f k hlt) ?_)
    | (go_at_call 150;refine(Gf.unbox_any _ hfk _).mono ?_;rintro e w' ⟨rfl,q,rfl⟩)
    | (with_reducible refine wpl_at rfl 150 _ _ rfl _ rfl .i64 _ rfl k rfl 16 5 Tryz.underlying150 hlt i8 ?_)
    | (with_reducible refine wpl_st rfl 5 _ _ rfl _ rfl .u8 _ rfl i8 _ ((hb1.drewN q).val k hlt) ((hb1.drewN q).free k) ?_))
   go_round
   case rel=>exact⟨k+1,upd m k (Gf.unbox (f k)),m',by omega,val_int (by omega),hid (fill_step (F:=each Gf.unbox f) HM.out),(hb1.drewN q).put k _,(hb2.drewN q).other _ _ (by simp),(below_drewN hB q).setCell (by simp) _⟩
   case measure=>simp[intOf];omega
  go_wp2_with (first
   | (with_reducible refine wpl_load rfl 150 _ rfl _ rfl 150 _ hb1 16 5 Tryz.underlying150 (i16' _) ?_)
   | (with_reducible refine wpl_store rfl 150 _ _ rfl _ _ rfl rfl 150 _ hb2 (i16' _) (by simp[row_size]) (one_b8 _ _) ?_))
  exact ret_row Tryz.results146 rfl (w.heap.size+1) rfl 150 16 _ (hb2.setRow _) 5 Tryz.underlying150 i16 ⟨ret_agg (fill_end HM.out (by omega)),below_setRow' hB (by omega) _⟩
set_option maxRecDepth 100000 in
set_option maxHeartbeats 1000000 in
theorem rk_any (f:Nat→Nat) (A:Option Addr) (n c r:Nat) (ws:Nat→Nat) (w:World) (hf:By16 f) (hws: ∀i,i<n→ws i<256) (hr:r<16) (hn:16*r+16≤n) (B:Nat) (hBs:B≤w.heap.size) (hR:Reads w B A n ws):
  Calls Tryz.prog 144 #[.agg (row 16 (b8 f)), .slice A n c, .int .i64 r] w fun e w'=>e= .returned (.agg (row 16 (b8 (rk ws r f))))∧Below w.heap.size w w':=by
 have Hf:=hid hf
 have Hw:=hid hws
 clear hf hws
 obtain⟨ad,rfl,hbl,hcs⟩:=hR (by omega)
 have Hcs:=hid hcs
 clear hcs hR
 go_enter Tryz.func144,Tryz.ntmps144
 go_wp2_with (first | (with_reducible refine wpl_alloc rfl 150 rfl _ z16 ?_))
 go_loopw [7,8] (fun _ i wr=> ∃(k:Nat) (m m':Nat→Nat),k≤16∧i= .int .i64 k∧Hid (∀j,m j=if j<k then rk ws r f j else f j)∧Blk wr w.heap.size 150 (row 16 (b8 m))∧Blk wr (w.heap.size+1) 150 (row 16 (b8 m'))∧Below w.heap.size w wr) (fun _ i _=>16-(intOf i).toNat)
 case atStart=>
  exact⟨0,f,fun _=>0,by omega,rfl,hid (by simp),(Blk.fresh _ _ _).alloc _,two_new _ _ _ _ _,((Below.refl _ _).alloc (Nat.le_refl _) _).alloc (by simp) _⟩
 case round=>
  obtain⟨k,m,m',hk,rfl,HM,hb1,hb2,hB⟩:=hrel
  by_cases hlt:k<16
  ·have hfk:=Hf.out k hlt
   have hwk:=Hw.out (16*r+k) (by omega)
   have Hmk:Hid (m k=f k):=hid (by rw[HM.out k,if_neg (by omega)])
   have hc2:=(hB.cell (p:=ad.add (16*r+k)) (by rw[add_block];omega)).trans (Hcs.out (16*r+k) (by omega))
   go_wp2_with fail
   refine wp_region_still_tail 12 (by kernel_rfl) (by kernel_rfl) ?_
   simp only[List.take_succ_cons,List.take_zero,List.drop_succ_cons,List.drop_zero]
   change wpStill _ _ wr.drew (fun a'=>wpList _ _ _ _ a' wr.drew) _ _
   have hd2:wr.drew.cell? (ad.add ((16*r+k)*1))=some (Value.int IntKind.u8 ↑(ws (16*r+k))):=by rw[Nat.mul_one];exact hc2
   have hb1':Blk wr.drew w.heap.size 150 (row 16 (b8 m)):=hb1
   have hb2':Blk wr.drew (w.heap.size+1) 150 (row 16 (b8 m')):=hb2
   have hB':=hB.drew
   clear hb1 hb2 hc2 hB
   generalize wr.drew=w2 at*
   have hd1:=hb1'.val k hlt
   have hd3:=hb1'.free k
   have hw1:=wrap_i64 (16*(r:Int)) _ rfl (by omega) (by omega)
   have hw2:=wrap_i64 (16*(r:Int)+(k:Int)) _ rfl (by omega) (by omega)
   repeat (first
    | (with_reducible refine wps_at rfl 150 _ _ rfl _ rfl .i64 _ rfl k rfl 16 5 Tryz.underlying150 hlt i8 ?_)
    | (with_reducible refine wps_sl rfl 22 _ _ rfl ad n c rfl .i64 _ rfl (16*r+k) (by omega) 5 Tryz.underlying22 (by omega) 1 i8 ?_)
    | (with_reducible refine wps_ld rfl 5 _ rfl _ rfl .u8 Tryz.underlying5 _ hd1 ?_)
    | (with_reducible refine wps_ld rfl 5 _ rfl _ rfl .u8 Tryz.underlying5 _ hd2 ?_)
    | still_step)
   refine wpStill_nil ?_
   clear hw1 hw2
   go_wp2_with (with_reducible refine wpl_st rfl 5 _ _ rfl _ rfl .u8 _ rfl i8 _ hd1 hd3 ?_)
   go_round
   case rel=>
    rw[Hmk.out,u8_xor_nat _ _ hfk hwk]
    exact⟨k+1,upd m k (rk ws r f k),m',by omega,val_int (by omega),hid (fill_step (F:=rk ws r f) HM.out),hb1'.put k _,hb2'.other _ _ (by simp),hB'.setCell (by simp) _⟩
   case measure=>simp[intOf];omega
  go_wp2_with (first
   | (with_reducible refine wpl_load rfl 150 _ rfl _ rfl 150 _ hb1 16 5 Tryz.underlying150 (i16' _) ?_)
   | (with_reducible refine wpl_store rfl 150 _ _ rfl _ _ rfl rfl 150 _ hb2 (i16' _) (by simp[row_size]) (one_b8 _ _) ?_))
  exact ret_row Tryz.results144 rfl (w.heap.size+1) rfl 150 16 _ (hb2.setRow _) 5 Tryz.underlying150 i16 ⟨ret_agg (fill_end HM.out (by omega)),below_setRow' hB (by omega) _⟩
theorem from_any (i:Nat) (hi:i<16) (w:World):Calls Tryz.prog 166 #[.int .i64 i] w fun e w'=>e= .returned (.int .i64 (src i:Nat))∧w=w':=by
 go_enter Tryz.func166,Tryz.ntmps166
 go_wp2
 go_ret
 exact⟨ret_int (by unfold src;omega),rfl⟩
end Go.Proofs.YtlmacfmfmjhidaaGreatDoor.Aes
namespace Go.Proofs.YtlmacfmfmjhidaaGreatDoor.Aes
open Go.ChangeShapes Go.WideShapes Go.ChangeAt Go.RowKit Mem
set_option maxRecDepth 100000 in
theorem mul_still (a b:Nat) (ha:a<256) (hb:b<256) (w:World):
  Calls Tryz.prog 165 #[.int .u8 a, .int .u8 b] w fun e w'=>e= .returned (.int .u8 (Gf.mul a b:Nat))∧w'=w:=(Gf.mul_any a b ha hb w).mono fun _ _ ⟨h1,h2⟩=>⟨h1,h2.symm⟩
set_option maxRecDepth 100000 in
theorem from_still (i:Nat) (hi:i<16) (w:World):Calls Tryz.prog 166 #[.int .i64 i] w fun e w'=>e= .returned (.int .i64 (src i:Nat))∧w'=w:=(from_any i hi w).mono fun _ _ ⟨h1,h2⟩=>⟨h1,h2.symm⟩
set_option maxRecDepth 100000 in
set_option maxHeartbeats 1000000 in
theorem rows_any (f:Nat→Nat) (w:World):
  Calls Tryz.prog 145 #[.agg (row 16 (b8 f))] w fun e w'=>e= .returned (.agg (row 16 (b8 (rows f))))∧Below w.heap.size w w':=by
 go_enter Tryz.func145,Tryz.ntmps145
 go_wp2_with (first | (with_reducible refine wpl_alloc rfl 150 rfl _ z16 ?_))
 go_loopw [5] (fun i wr=> ∃(k:Nat) (m m':Nat→Nat),k≤16∧i= .int .i64 k∧Hid (∀j,m j=if j<k then rows f j else 0)∧Blk wr w.heap.size 150 (row 16 (b8 f))∧Blk wr (w.heap.size+1) 150 (row 16 (b8 m'))∧Blk wr (w.heap.size+2) 150 (row 16 (b8 m))∧Below w.heap.size w wr) (fun i _=>16-(intOf i).toNat)
 case atStart=>
  exact⟨0,fun _=>0,fun _=>0,by omega,rfl,hid (by simp),((Blk.fresh _ _ _).alloc _).alloc _,(two_new _ _ _ _ _).alloc _,three_new _ _ _ _ _,(((Below.refl _ _).alloc (Nat.le_refl _) _).alloc (by simp) _).alloc (by simp;omega) _⟩
 case round=>
  obtain⟨k,m,m',hk,rfl,HM,hb1,hb2,hb3,hB⟩:=hrel
  by_cases hlt:k<16
  ·have hs:=src_lt k
   have hc1:=hb1.val (src k) hs
   go_wp2_with (first
    | (go_at_call 166;refine(from_any _ hlt _).mono ?_;rintro e w' ⟨rfl,rfl⟩)
    | (with_reducible refine wpl_at rfl 150 _ _ rfl _ rfl .i64 _ rfl (src k) rfl 16 5 Tryz.underlying150 hs i8 ?_)
    | (with_reducible refine wpl_at rfl 150 _ _ rfl _ rfl .i64 _ rfl k rfl 16 5 Tryz.underlying150 hlt i8 ?_)
    | (with_reducible refine wpl_ld rfl 5 _ rfl _ rfl .u8 Tryz.underlying5 _ hc1 ?_)
    | (with_reducible refine wpl_st rfl 5 _ _ rfl _ rfl .u8 _ rfl i8 _ (hb3.val k hlt) (hb3.free k) ?_))
   go_round
   case rel=>exact⟨k+1,upd m k (rows f k),m',by omega,val_int (by omega),hid (fill_step (F:=rows f) HM.out),hb1.other _ _ (by simp),hb2.other _ _ (by simp),hb3.put k _,hB.setCell (by simp) _⟩
   case measure=>simp[intOf];omega
  go_wp2_with (first
   | (with_reducible refine wpl_load rfl 150 _ rfl _ rfl 150 _ hb3 16 5 Tryz.underlying150 (i16' _) ?_)
   | (with_reducible refine wpl_store rfl 150 _ _ rfl _ _ rfl rfl 150 _ hb2 (i16' _) (by simp[row_size]) (one_b8 _ _) ?_))
  exact ret_row Tryz.results145 rfl (w.heap.size+1) rfl 150 16 _ (hb2.setRow _) 5 Tryz.underlying150 i16 ⟨ret_agg (fill_end HM.out (by omega)),below_setRow' hB (by omega) _⟩
set_option maxRecDepth 100000 in
theorem back_step {m f:Nat→Nat}{k:Nat} (hk:k<16) (h: ∀j,m j=if dst j<k then f (dst j) else 0): ∀j,j<16→upd m (src k) (f k) j=if dst j<k+1 then f (dst j) else 0:=by
 intro j hj
 by_cases e:j=src k
 ·subst e;rw[upd_same,dst_src k hk,if_pos (by omega)]
 have:dst j≠k:=fun h2=>e (by rw[← h2,src_dst j hj])
 rw[upd_other _ _ _ _ e,h j]
 by_cases h2:dst j<k
 ·rw[if_pos h2,if_pos (by omega)]
 rw[if_neg h2,if_neg (by omega)]
set_option maxRecDepth 100000 in
set_option maxHeartbeats 1000000 in
theorem rowsB_any (f:Nat→Nat) (w:World):
  Calls Tryz.prog 149 #[.agg (row 16 (b8 f))] w fun e w'=>e= .returned (.agg (row 16 (b8 (rowsB f))))∧Below w.heap.size w w':=by
 go_enter Tryz.func149,Tryz.ntmps149
 go_wp2_with (first | (with_reducible refine wpl_alloc rfl 150 rfl _ z16 ?_))
 go_loopw [5] (fun i wr=> ∃(k:Nat) (m':Nat→Nat),k≤16∧i= .int .i64 k∧Blk wr w.heap.size 150 (row 16 (b8 f))∧Blk wr (w.heap.size+1) 150 (row 16 (b8 m'))∧Blk wr (w.heap.size+2) 150 (row 16 (b8 fun j=>if dst j<k then f (dst j) else 0))∧Below w.heap.size w wr) (fun i _=>16-(intOf i).toNat)
 case atStart=>
  exact⟨0,fun _=>0,by omega,rfl,((Blk.fresh _ _ _).alloc _).alloc _,(two_new _ _ _ _ _).alloc _,three_new _ _ _ _ _,(((Below.refl _ _).alloc (Nat.le_refl _) _).alloc (by simp) _).alloc (by simp;omega) _⟩
 case round=>
  obtain⟨k,m',hk,rfl,hb1,hb2,hb3,hB⟩:=hrel
  by_cases hlt:k<16
  ·have hs:=src_lt k
   go_wp2_with fail
   refine wp_region_still_tail 6 (by kernel_rfl) (by kernel_rfl) ?_
   simp only[List.take_succ_cons,List.take_zero,List.drop_succ_cons,List.drop_zero]
   change wpStill _ _ wr.drew (fun a'=>wpList _ _ _ _ a' wr.drew) _ _
   have hb1':Blk wr.drew w.heap.size 150 (row 16 (b8 f)):=hb1
   have hb2':Blk wr.drew (w.heap.size+1) 150 (row 16 (b8 m')):=hb2
   have hb3':Blk wr.drew (w.heap.size+2) 150 _:=hb3
   have hB':=hB.drew
   clear hb1 hb2 hb3 hB
   generalize wr.drew=w2 at*
   have hd1:=hb1'.val k hlt
   repeat (first
    | (with_reducible refine wps_at rfl 150 _ _ rfl _ rfl .i64 _ rfl k rfl 16 5 Tryz.underlying150 hlt i8 ?_)
    | (with_reducible refine wps_at rfl 150 _ _ rfl _ rfl .i64 _ rfl (src k) rfl 16 5 Tryz.underlying150 hs i8 ?_)
    | (with_reducible refine wps_ld rfl 5 _ rfl _ rfl .u8 Tryz.underlying5 _ hd1 ?_)
    | still_step
    | still_call (from_still _ hlt _))
   refine wpStill_nil ?_
   go_wp2_with (with_reducible refine wpl_st rfl 5 _ _ rfl _ rfl .u8 _ rfl i8 _ (hb3'.val _ hs) (hb3'.free _) ?_)
   go_round
   case rel=>
    refine⟨k+1,m',by omega,val_int (by omega),hb1'.other _ _ (by simp),hb2'.other _ _ (by simp),?_,hB'.setCell (by simp) _⟩
    have:=hb3'.put (src k) (f k)
    rwa[row_b8_ext (back_step (f:=f) hlt (fun _=>rfl))] at this
   case measure=>simp[intOf];omega
  go_wp2_with (first
   | (with_reducible refine wpl_load rfl 150 _ rfl _ rfl 150 _ hb3 16 5 Tryz.underlying150 (i16' _) ?_)
   | (with_reducible refine wpl_store rfl 150 _ _ rfl _ _ rfl rfl 150 _ hb2 (i16' _) (by simp[row_size]) (one_b8 _ _) ?_))
  exact ret_row Tryz.results149 rfl (w.heap.size+1) rfl 150 16 _ (hb2.setRow _) 5 Tryz.underlying150 i16 ⟨ret_agg (fun j hj=>by rw[if_pos (by have:=dst_lt j;omega)];rfl),below_setRow' hB (by omega) _⟩
def mixAt (c f:Nat→Nat) (i k:Nat):Nat→Nat:=fun j=>if j<i then mix c f j else if j=i then mixTo c f i k else 0
set_option maxRecDepth 100000 in
theorem mixAt_put (c f:Nat→Nat) (i k:Nat): ∀j,upd (mixAt c f i k) i (mixTo c f i k ^^^ Gf.mul (c k) (f (nxt i k))) j=mixAt c f i (k+1) j:=by
 intro j
 by_cases h:j=i
 ·subst h;rw[upd_same];unfold mixAt;rw[if_neg (by omega),if_pos rfl];rfl
 rw[upd_other _ _ _ _ h];unfold mixAt;simp[h]
set_option maxRecDepth 100000 in
theorem mixAt_next (c f:Nat→Nat) (i:Nat): ∀j,mixAt c f i 4 j=mixAt c f (i+1) 0 j:=by
 intro j
 unfold mixAt
 by_cases h:j<i
 ·rw[if_pos h,if_pos (by omega)]
 by_cases h2:j=i
 ·subst h2;rw[if_neg h,if_pos rfl,if_pos (by omega)];rfl
 rw[if_neg h,if_neg h2,if_neg (by omega)]
 split
 ·rfl
 rfl
set_option maxRecDepth 100000 in
set_option maxHeartbeats 2000000 in
theorem mix_any (c f:Nat→Nat) (w:World) (hf:By16 f) (hc: ∀k,c k<256):
  Calls Tryz.prog 148 #[.agg (row 16 (b8 f)), .agg (row 4 (b8 c))] w fun e w'=>e= .returned (.agg (row 16 (b8 (mix c f))))∧Below w.heap.size w w':=by
 have Hf:=hid hf
 have Hc:=hid hc
 clear hf hc
 go_enter Tryz.func148,Tryz.ntmps148
 go_wp2_with (first | (with_reducible refine wpl_alloc rfl 150 rfl _ z16 ?_))
 go_loopw [10] (fun i wr=> ∃(k:Nat) (m':Nat→Nat),k≤16∧i= .int .i64 k∧Blk wr w.heap.size 150 (row 16 (b8 f))∧Blk wr (w.heap.size+1) 193 (row 4 (b8 c))∧Blk wr (w.heap.size+2) 150 (row 16 (b8 m'))∧Blk wr (w.heap.size+3) 150 (row 16 (b8 (mixAt c f k 0)))∧Below w.heap.size w wr) (fun i _=>16-(intOf i).toNat)
 case atStart=>
  refine⟨0,fun _=>0,by omega,rfl,(((Blk.fresh _ _ _).alloc _).alloc _).alloc _,?_,(three_new _ _ _ _ _).alloc _,?_,((((Below.refl _ _).alloc (Nat.le_refl _) _).alloc (by simp) _).alloc (by simp;omega) _).alloc (by simp;omega) _⟩
  ·have:=Blk.fresh (w.alloc (.cells (row 16 (b8 f)) 150)) 193 (row 4 (b8 c))
   rw[show(w.alloc (.cells (row 16 (b8 f)) 150)).heap.size=w.heap.size+1 by simp] at this
   exact(this.alloc _).alloc _
  rw[row_b8_ext (n:=16) (f:=mixAt c f 0 0) (g:=fun _=>0) (fun j _=>by unfold mixAt;rw[if_neg (by omega)];split<;>rfl)]
  have:=Blk.fresh (((w.alloc (.cells (row 16 (b8 f)) 150)).alloc (.cells (row 4 (b8 c)) 193)).alloc (.cells (row 16 (b8 fun _=>0)) 150)) 150 (row 16 (b8 fun _=>0))
  simpa using this
 case round=>
  obtain⟨i,m',hk,rfl,hb1,hb2,hb3,hb4,hB⟩:=hrel
  by_cases hlt:i<16
  ·go_wp2_with (with_reducible refine wpl_load rfl 193 _ rfl _ rfl 193 _ hb2 4 5 Tryz.underlying193 (i4' _) ?_)
   go_loopw [18] (fun y wr=> ∃(k:Nat) (m':Nat→Nat),k≤4∧y= .int .i64 k∧Blk wr w.heap.size 150 (row 16 (b8 f))∧Blk wr (w.heap.size+1) 193 (row 4 (b8 c))∧Blk wr (w.heap.size+2) 150 (row 16 (b8 m'))∧Blk wr (w.heap.size+3) 150 (row 16 (b8 (mixAt c f i k)))∧Below w.heap.size w wr) (fun y _=>4-(intOf y).toNat)
   case atStart=>exact⟨0,m',by omega,rfl,hb1,hb2,hb3,hb4,hB⟩
   case round=>
    clear hb1 hb2 hb3 hb4 hB
    obtain⟨k,m',hk4,rfl,hb1,hb2,hb3,hb4,hB⟩:=hrel
    by_cases hlt4:k<4
    ·have hn:=nxt_lt i k hlt
     have hfn:=Hf.out _ hn
     have hck:=Hc.out k
     go_wp2_with (with_reducible refine wpl_index rfl 193 _ _ rfl _ rfl .i64 _ rfl k rfl 4 5 Tryz.underlying193 hlt4 .u8 Tryz.underlying5 i8 _ (row_val 4 c k hlt4) ?_)
     refine wp_region_still_tail 15 (by kernel_rfl) (by kernel_rfl) ?_
     simp only[List.take_succ_cons,List.take_zero,List.drop_succ_cons,List.drop_zero]
     change wpStill _ _ wr.drew (fun a'=>wpList _ _ _ _ a' wr.drew) _ _
     have hb1':Blk wr.drew w.heap.size 150 (row 16 (b8 f)):=hb1
     have hb2':Blk wr.drew (w.heap.size+1) 193 (row 4 (b8 c)):=hb2
     have hb3':Blk wr.drew (w.heap.size+2) 150 (row 16 (b8 m')):=hb3
     have hb4':Blk wr.drew (w.heap.size+3) 150 (row 16 (b8 (mixAt c f i k))):=hb4
     have hB':=hB.drew
     clear hb1 hb2 hb3 hb4 hB
     generalize wr.drew=w2 at*
     have Hm:Hid (mixAt c f i k i=mixTo c f i k):=hid (by unfold mixAt;rw[if_neg (by omega),if_pos rfl])
     have hlm:=mixTo_lt c f i k Hc.out
     have Hn:Hid (nxt i k=i-i%4+(i+k)%4):=hid rfl
     have hd1:=hb4'.val i hlt
     have hd2:=hb1'.val (nxt i k) hn
     have hw1:=wrap_i64 ((i:Int)+(k:Int)) _ rfl (by omega) (by omega)
     have hw2:=wrap_i64 ((i:Int)-(i:Int)%4+((i:Int)+(k:Int))%4) _ rfl (by omega) (by omega)
     have ht1:((i:Int)+(k:Int)).tmod 4=((i:Int)+(k:Int))%4:=Int.tmod_eq_emod_of_nonneg (by omega)
     repeat (first
      | (with_reducible refine wps_at rfl 150 _ _ rfl _ rfl .i64 _ rfl i rfl 16 5 Tryz.underlying150 hlt i8 ?_)
      | (with_reducible refine wps_at rfl 150 _ _ rfl _ rfl .i64 _ rfl (nxt i k) (by rw[Hn.out];omega) 16 5 Tryz.underlying150 hn i8 ?_)
      | (with_reducible refine wps_ld rfl 5 _ rfl _ rfl .u8 Tryz.underlying5 _ hd1 ?_)
      | (with_reducible refine wps_ld rfl 5 _ rfl _ rfl .u8 Tryz.underlying5 _ hd2 ?_)
      | still_step
      | still_call (mul_still _ _ hck hfn _))
     refine wpStill_nil ?_
     clear hw1 hw2 ht1
     go_wp2_with (with_reducible refine wpl_st rfl 5 _ _ rfl _ rfl .u8 _ rfl i8 _ (hb4'.val _ hlt) (hb4'.free _) ?_)
     go_round
     case rel=>
      rw[Hm.out,u8_xor_nat _ _ hlm (Gf.mul_lt _ _ hck)]
      refine⟨k+1,m',by omega,val_int (by omega),hb1'.other _ _ (by simp),hb2'.other _ _ (by simp),hb3'.other _ _ (by simp),?_,hB'.setCell (by simp) _⟩
      have:=hb4'.put i (mixTo c f i k ^^^ Gf.mul (c k) (f (nxt i k)))
      rwa[row_b8_ext (fun j _=>mixAt_put c f i k j)] at this
     case measure=>simp[intOf];omega
    obtain rfl:k=4:=by omega
    go_wp2_with fail
    go_round
    case rel=>
     refine⟨i+1,m',by omega,val_int (by omega),hb1,hb2,hb3,?_,hB⟩
     rwa[row_b8_ext (fun j _=>mixAt_next c f i j)] at hb4
    case measure=>simp[intOf];omega
  obtain rfl:i=16:=by omega
  go_wp2_with (first
   | (with_reducible refine wpl_load rfl 150 _ rfl _ rfl 150 _ hb4 16 5 Tryz.underlying150 (i16' _) ?_)
   | (with_reducible refine wpl_store rfl 150 _ _ rfl _ _ rfl rfl 150 _ hb3 (i16' _) (by simp[row_size]) (one_b8 _ _) ?_))
  exact ret_row Tryz.results148 rfl (w.heap.size+2) rfl 150 16 _ (hb3.setRow _) 5 Tryz.underlying150 i16 ⟨ret_agg (fun j hj=>by unfold mixAt;rw[if_pos hj]),below_setRow' hB (by omega) _⟩
end Go.Proofs.YtlmacfmfmjhidaaGreatDoor.Aes
namespace Go.Proofs.YtlmacfmfmjhidaaGreatDoor.Aes
open Go.ChangeShapes Go.WideShapes Go.ChangeAt Go.RowKit Mem
theorem rnd_any (L:Nat) (w:World):Calls Tryz.prog 161 #[.int .i64 L] w fun e w'=>e= .returned (.int .i64 (rnd L:Nat))∧w=w':=by
 by_cases h1:L=32
 ·subst h1
  go_enter Tryz.func161,Tryz.ntmps161
  go_wp2
  go_ret
  exact⟨ret_int rfl,rfl⟩
 by_cases h2:L=24
 ·subst h2
  go_enter Tryz.func161,Tryz.ntmps161
  go_wp2
  go_ret
  exact⟨ret_int rfl,rfl⟩
 by_cases h3:L=16
 ·subst h3
  go_enter Tryz.func161,Tryz.ntmps161
  go_wp2
  go_ret
  exact⟨ret_int rfl,rfl⟩
 have Hr:Hid (rnd L=0):=hid (by unfold rnd;rw[if_neg h1,if_neg h2,if_neg h3])
 have t1:((L:Int) == 32)=false:=by simp;omega
 have t2:((L:Int) == 24)=false:=by simp;omega
 have t3:((L:Int) == 16)=false:=by simp;omega
 clear h1 h2 h3
 go_enter Tryz.func161,Tryz.ntmps161
 go_wp2
 go_ret
 exact⟨ret_int (by rw[Hr.out];rfl),rfl⟩
theorem last_any (A:Option Addr) (n c:Nat) (hn:n≤1000) (w:World):Calls Tryz.prog 143 #[.slice A n c] w fun e w'=>e= .returned (.int .i64 ((n/16:Nat)-1:Int))∧w=w':=by
 go_enter Tryz.func143,Tryz.ntmps143
 go_wp2
 go_ret
 exact⟨ret_int (by omega),rfl⟩
theorem built4 (x y z u:Int):Tryz.prog.built 193 [(0, .int .u8 x),(1, .int .u8 y),(2, .int .u8 z),(3, .int .u8 u)]=some #[.int .u8 x, .int .u8 y, .int .u8 z, .int .u8 u]:=by kernel_rfl
set_option maxHeartbeats 1000000 in
theorem turn_any (f:Nat→Nat) (w:World):
  Calls Tryz.prog 164 #[.agg (row 4 (b8 f))] w fun e w'=>e= .returned (.agg (row 4 (b8 fun i=>f ((i+1)%4))))∧Below w.heap.size w w':=by
 go_enter Tryz.func164,Tryz.ntmps164
 have hb1:Blk ((w.alloc (.cells (row 4 (b8 f)) 193)).alloc (.cells (row 4 (b8 fun _=>0)) 193)) w.heap.size 193 (row 4 (b8 f)):=(Blk.fresh _ _ _).alloc _
 have hb2:=two_new w f (fun _=>0) 4 193
 have r0:=row_val 4 f 0 (by omega)
 have r1:=row_val 4 f 1 (by omega)
 have r2:=row_val 4 f 2 (by omega)
 have r3:=row_val 4 f 3 (by omega)
 go_wp2_with (first
  | (with_reducible refine wpl_alloc rfl 193 rfl _ z4 ?_)
  | ((with_reducible refine wpl_build4 rfl 193 _ _ _ _ rfl (fun i=>f ((i+1)%4)) _ _ _ _ rfl rfl rfl rfl ?_ ?_ ?_ ?_ built4 ?_);exact rfl;exact rfl;exact rfl;exact rfl)
  | (with_reducible refine wpl_store rfl 193 _ _ rfl _ _ rfl rfl 193 _ hb2 (i4' _) (by simp[row_size]) (one_b8 _ _) ?_))
 exact ret_row Tryz.results164 rfl (w.heap.size+1) rfl 193 4 _ (hb2.setRow _) 5 Tryz.underlying193 i4 ⟨rfl,below_setRow' (((Below.refl _ _).alloc (Nat.le_refl _) _).alloc (by simp) _) (by omega) _⟩
set_option maxHeartbeats 1000000 in
theorem boxw_any (f:Nat→Nat) (w:World) (hf: ∀i,i<4→f i<256):
  Calls Tryz.prog 163 #[.agg (row 4 (b8 f))] w fun e w'=>e= .returned (.agg (row 4 (b8 fun i=>Gf.box (f i))))∧Below w.heap.size w w':=by
 have Hf:=hid hf
 clear hf
 go_enter Tryz.func163,Tryz.ntmps163
 go_wp2_with (first | (with_reducible refine wpl_alloc rfl 193 rfl _ z4 ?_) | (with_reducible refine wpl_load rfl 193 _ rfl w.heap.size rfl 193 _ ((Blk.fresh _ _ _).alloc _) 4 5 Tryz.underlying193 (i4' _) ?_))
 go_loopw [6] (fun i wr=> ∃(k:Nat) (m m':Nat→Nat),k≤4∧i= .int .i64 k∧Hid (∀j,m j=if j<k then Gf.box (f j) else f j)∧Blk wr w.heap.size 193 (row 4 (b8 m))∧Blk wr (w.heap.size+1) 193 (row 4 (b8 m'))∧Below w.heap.size w wr) (fun i _=>4-(intOf i).toNat)
 case atStart=>
  exact⟨0,f,fun _=>0,by omega,rfl,hid (by simp),(Blk.fresh _ _ _).alloc _,two_new _ _ _ _ _,((Below.refl _ _).alloc (Nat.le_refl _) _).alloc (by simp) _⟩
 case round=>
  obtain⟨k,m,m',hk,rfl,HM,hb1,hb2,hB⟩:=hrel
  by_cases hlt:k<4
  ·have hfk:=Hf.out k hlt
   go_wp2_with (first
    | (with_reducible refine wpl_index rfl 193 _ _ rfl _ rfl .i64 _ rfl k rfl 4 5 Tryz.underlying193 hlt .u8 Tryz.underlying5 i8 _ (row_val 4 f k hlt) ?_)
    | (go_at_call 147;refine(Gf.box_any _ hfk _).mono ?_;rintro e w' ⟨rfl,q,rfl⟩)
    | (with_reducible refine wpl_at rfl 193 _ _ rfl _ rfl .i64 _ rfl k rfl 4 5 Tryz.underlying193 hlt i8 ?_)
    | (with_reducible refine wpl_st rfl 5 _ _ rfl _ rfl .u8 _ rfl i8 _ ((hb1.drewN q).val k hlt) ((hb1.drewN q).free k) ?_))
   go_round
   case rel=>exact⟨k+1,upd m k (Gf.box (f k)),m',by omega,val_int (by omega),hid (fill_step (F:=fun j=>Gf.box (f j)) HM.out),(hb1.drewN q).put k _,(hb2.drewN q).other _ _ (by simp),(below_drewN hB q).setCell (by simp) _⟩
   case measure=>simp[intOf];omega
  go_wp2_with (first
   | (with_reducible refine wpl_load rfl 193 _ rfl _ rfl 193 _ hb1 4 5 Tryz.underlying193 (i4' _) ?_)
   | (with_reducible refine wpl_store rfl 193 _ _ rfl _ _ rfl rfl 193 _ hb2 (i4' _) (by simp[row_size]) (one_b8 _ _) ?_))
  exact ret_row Tryz.results163 rfl (w.heap.size+1) rfl 193 4 _ (hb2.setRow _) 5 Tryz.underlying193 i4 ⟨ret_agg (fill_end (F:=fun j=>Gf.box (f j)) HM.out (by omega)),below_setRow' hB (by omega) _⟩
set_option maxRecDepth 100000 in
set_option maxHeartbeats 1000000 in
theorem wat_any (A:Option Addr) (n c p:Nat) (f:Nat→Nat) (w:World) (hp:p+4≤n) (hn:n≤1000) (B:Nat) (hB0:B≤w.heap.size) (hR:Reads w B A n f):
  Calls Tryz.prog 162 #[.slice A n c, .int .i64 p] w fun e w'=>e= .returned (.agg (row 4 (b8 fun i=>f (p+i))))∧Below w.heap.size w w':=by
 obtain⟨ad,rfl,hbl,hcs⟩:=hR (by omega)
 have Hcs:=hid hcs
 clear hcs hR
 go_enter Tryz.func162,Tryz.ntmps162
 go_wp2_with (with_reducible refine wpl_alloc rfl 193 rfl _ z4 ?_)
 refine wp_region_still_tail 20 (by kernel_rfl) (by kernel_rfl) ?_
 simp only[List.take_succ_cons,List.take_zero,List.drop_succ_cons,List.drop_zero]
 have hB1:Below w.heap.size w (w.alloc (.cells (row 4 (b8 fun _=>0)) 193)).drew:=((Below.refl _ _).alloc (Nat.le_refl _) _).drew
 have hb1:Blk (w.alloc (.cells (row 4 (b8 fun _=>0)) 193)).drew w.heap.size 193 (row 4 (b8 fun _=>0)):=Blk.fresh _ _ _
 change wpStill _ _ (w.alloc (.cells (row 4 (b8 fun _=>0)) 193)).drew (fun a'=>wpList _ _ _ _ a' (w.alloc (.cells (row 4 (b8 fun _=>0)) 193)).drew) _ _
 generalize (w.alloc (.cells (row 4 (b8 fun _=>0)) 193)).drew=w2 at*
 have hc: ∀i,i<4→w2.cell? (ad.add ((p+i)*1))=some (.int .u8 ((f (p+i):Nat):Int)):=fun i hi=>by
  rw[Nat.mul_one];exact(hB1.cell (by rw[add_block];omega)).trans (Hcs.out (p+i) (by omega))
 have c0:=hc 0 (by omega)
 have c1:=hc 1 (by omega)
 have c2:=hc 2 (by omega)
 have c3:=hc 3 (by omega)
 clear hc
 have hw1:=wrap_i64 ((p:Int)+1) _ rfl (by omega) (by omega)
 have hw2:=wrap_i64 ((p:Int)+2) _ rfl (by omega) (by omega)
 have hw3:=wrap_i64 ((p:Int)+3) _ rfl (by omega) (by omega)
 repeat (first
  | (with_reducible refine wps_sl rfl 22 _ _ rfl ad n c rfl .i64 _ rfl (p+0) (by omega) 5 Tryz.underlying22 (by omega) 1 i8 ?_)
  | (with_reducible refine wps_sl rfl 22 _ _ rfl ad n c rfl .i64 _ rfl (p+1) (by omega) 5 Tryz.underlying22 (by omega) 1 i8 ?_)
  | (with_reducible refine wps_sl rfl 22 _ _ rfl ad n c rfl .i64 _ rfl (p+2) (by omega) 5 Tryz.underlying22 (by omega) 1 i8 ?_)
  | (with_reducible refine wps_sl rfl 22 _ _ rfl ad n c rfl .i64 _ rfl (p+3) (by omega) 5 Tryz.underlying22 (by omega) 1 i8 ?_)
  | (with_reducible refine wps_ld rfl 5 _ rfl _ rfl .u8 Tryz.underlying5 _ c0 ?_)
  | (with_reducible refine wps_ld rfl 5 _ rfl _ rfl .u8 Tryz.underlying5 _ c1 ?_)
  | (with_reducible refine wps_ld rfl 5 _ rfl _ rfl .u8 Tryz.underlying5 _ c2 ?_)
  | (with_reducible refine wps_ld rfl 5 _ rfl _ rfl .u8 Tryz.underlying5 _ c3 ?_)
  | ((with_reducible refine wps_build4 rfl 193 _ _ _ _ rfl (fun i=>f (p+i)) _ _ _ _ rfl rfl rfl rfl ?_ ?_ ?_ ?_ built4 ?_);exact rfl;exact rfl;exact rfl;exact rfl)
  | still_step)
 refine wpStill_nil ?_
 clear hw1 hw2 hw3 c0 c1 c2 c3
 go_wp2_with (with_reducible refine wpl_store rfl 193 _ _ rfl _ _ rfl rfl 193 _ hb1 (i4' _) (by simp[row_size]) (one_b8 _ _) ?_)
 exact ret_row Tryz.results162 rfl w.heap.size rfl 193 4 _ (hb1.setRow _) 5 Tryz.underlying193 i4 ⟨rfl,below_setRow' hB1 (Nat.le_refl _) _⟩
end Go.Proofs.YtlmacfmfmjhidaaGreatDoor.Aes
