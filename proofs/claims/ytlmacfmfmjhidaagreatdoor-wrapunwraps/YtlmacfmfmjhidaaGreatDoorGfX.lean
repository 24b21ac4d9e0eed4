/-
 GfMath GfWalks
-/
import Derived.Laws.BitsAllLaws
import Derived.Test.YtlmacfmfmjhidaaGreatDoorRows
import Derived.WalkKit
import Derived.ProofKit
import Derived.OpenShut
import Derived.Outline
import Derived.WalkLawsBesides
import Derived.Deep.QuietTactic
import Derived.BigQuiet
namespace Go.Proofs.YtlmacfmfmjhidaaGreatDoor.Gf
def tx (n:Nat):Nat:=(n*2%256) ^^^ (27 &&& ((256-n/128)%256))
def step (s:Nat×Nat×Nat):Nat×Nat×Nat:=(s.1 ^^^ (s.2.1 &&& ((256-s.2.2%2)%256)),tx s.2.1,s.2.2/2)
def stepTo:Nat→Nat×Nat×Nat→Nat×Nat×Nat
 | 0,s=>s
 | k+1,s=>step (stepTo k s)
def mul (a b:Nat):Nat:=(stepTo 8 (0,a,b)).1
theorem tx_lt: ∀n<256,tx n<256:=by decide+kernel
theorem xor_lt {a b:Nat} (ha:a<256) (hb:b<256):a ^^^ b<256:=Nat.xor_lt_two_pow (n:=8) ha hb
def Lin (f:Nat→Nat):Prop:= ∀a<256,∀b<256,f (a ^^^ b)=f a ^^^ f b
def bitOf (n i:Nat):Nat:=n/2^i%2*2^i
theorem bits_sum: ∀n<256,n=bitOf n 0 ^^^ (bitOf n 1 ^^^ (bitOf n 2 ^^^ (bitOf n 3 ^^^ (bitOf n 4 ^^^ (bitOf n 5 ^^^ (bitOf n 6 ^^^ bitOf n 7)))))):=by decide+kernel
theorem bitOf_lt: ∀n<256,∀i<8,bitOf n i<256:=by decide+kernel
theorem bitOf_or (n i:Nat):bitOf n i=0∨bitOf n i=2^i:=by
 unfold bitOf
 rcases Nat.mod_two_eq_zero_or_one (n/2^i) with h | h<;>rw[h]<;>simp
theorem Lin.zero {f:Nat→Nat} (h:Lin f):f 0=0:=by
 have:=h 0 (by omega) 0 (by omega)
 rw[Nat.xor_self,Nat.xor_self] at this
 exact this
theorem lin_ext {f g:Nat→Nat} (hf:Lin f) (hg:Lin g) (h: ∀i<8,f (2^i)=g (2^i)) (n:Nat) (hn:n<256):f n=g n:=by
 have hb: ∀i<8,f (bitOf n i)=g (bitOf n i):=by
  intro i hi
  rcases bitOf_or n i with e | e
  ·rw[e,hf.zero,hg.zero]
  rw[e,h i hi]
 have hl:=bitOf_lt n hn
 have l0:=hl 0 (by omega)
 have l1:=hl 1 (by omega)
 have l2:=hl 2 (by omega)
 have l3:=hl 3 (by omega)
 have l4:=hl 4 (by omega)
 have l5:=hl 5 (by omega)
 have l6:=hl 6 (by omega)
 have l7:=hl 7 (by omega)
 have x6:=xor_lt l6 l7
 have x5:=xor_lt l5 x6
 have x4:=xor_lt l4 x5
 have x3:=xor_lt l3 x4
 have x2:=xor_lt l2 x3
 have x1:=xor_lt l1 x2
 rw[bits_sum n hn]
 rw[hf _ l0 _ x1,hf _ l1 _ x2,hf _ l2 _ x3,hf _ l3 _ x4,hf _ l4 _ x5,hf _ l5 _ x6,hf _ l6 _ l7]
 rw[hg _ l0 _ x1,hg _ l1 _ x2,hg _ l2 _ x3,hg _ l3 _ x4,hg _ l4 _ x5,hg _ l5 _ x6,hg _ l6 _ l7]
 rw[hb 0 (by omega),hb 1 (by omega),hb 2 (by omega),hb 3 (by omega),hb 4 (by omega),hb 5 (by omega),hb 6 (by omega),hb 7 (by omega)]
theorem xor4 (a b c d:Nat):(a ^^^ b) ^^^ (c ^^^ d)=(a ^^^ c) ^^^ (b ^^^ d):=by
 rw[Nat.xor_assoc,Nat.xor_assoc,← Nat.xor_assoc b,Nat.xor_comm b c,Nat.xor_assoc c]
def sel (p:Bool) (x:Nat):Nat:=if p then x else 0
theorem sel_xor (p:Bool) (x y:Nat):sel p (x ^^^ y)=sel p x ^^^ sel p y:=by cases p<;>simp[sel]
theorem sel_bxor (p q:Bool) (x:Nat):sel (p^^q) x=sel p x ^^^ sel q x:=by cases p<;>cases q<;>simp[sel]
theorem sel_lt {p:Bool}{x:Nat} (h:x<256):sel p x<256:=by cases p<;>simp[sel]<;>omega
theorem tx_sel: ∀n<256,tx n=(n <<< 1)%2^8 ^^^ sel (n.testBit 7) 27:=by decide+kernel
theorem tx_lin (a:Nat) (ha:a<256) (b:Nat) (hb:b<256):tx (a ^^^ b)=tx a ^^^ tx b:=by
 rw[tx_sel _ (xor_lt ha hb),tx_sel a ha,tx_sel b hb,Nat.shiftLeft_xor_distrib,Nat.xor_mod_two_pow,Nat.testBit_xor,sel_bxor,xor4]
def txTo:Nat→Nat→Nat
 | 0,a=>a
 | k+1,a=>tx (txTo k a)
def acc (a b:Nat):Nat→Nat
 | 0=>0
 | k+1=>acc a b k ^^^ sel (b.testBit k) (txTo k a)
theorem txTo_lt (k a:Nat) (h:a<256):txTo k a<256:=by
 induction k with
 | zero=>exact h
 | succ k ih=>exact tx_lt _ ih
theorem txTo_lin (k:Nat):Lin (txTo k):=by
 intro a ha b hb
 induction k with
 | zero=>rfl
 | succ k ih=>show tx (txTo k (a ^^^ b))=tx (txTo k a) ^^^ tx (txTo k b);rw[ih,tx_lin _ (txTo_lt k a ha) _ (txTo_lt k b hb)]
theorem acc_lt (a b k:Nat) (ha:a<256):acc a b k<256:=by
 induction k with
 | zero=>show 0<256;omega
 | succ k ih=>exact xor_lt ih (sel_lt (txTo_lt k a ha))
theorem mask_sel (x b:Nat) (hx:x<256):x &&& ((256-b%2)%256)=sel (b%2 == 1) x:=by
 rcases Nat.mod_two_eq_zero_or_one b with h | h<;>rw[h]
 ·simp[sel]
 have: ∀x<256,x &&& ((256-1)%256)=sel (1 == 1) x:=by decide+kernel
 exact this x hx
theorem stepTo_eq (a b k:Nat) (ha:a<256):stepTo k (0,a,b)=(acc a b k,txTo k a,b/2^k):=by
 induction k with
 | zero=>simp[stepTo,acc,txTo]
 | succ k ih=>
  show step (stepTo k (0,a,b))=_
  rw[ih]
  show(_,_,_)=(_,_,_)
  simp only
  rw[mask_sel _ _ (txTo_lt k a ha)]
  have e:(b/2^k%2 == 1)=b.testBit k:=by rw[Nat.testBit_eq_decide_div_mod_eq];rfl
  rw[e,Nat.div_div_eq_div_mul,← Nat.pow_succ]
  rfl
theorem mul_acc (a b:Nat) (ha:a<256):mul a b=acc a b 8:=by unfold mul;rw[stepTo_eq a b 8 ha]
theorem mul_lt (a b:Nat) (ha:a<256):mul a b<256:=by rw[mul_acc a b ha];exact acc_lt a b 8 ha
theorem acc_lin_left (b k:Nat):Lin fun a=>acc a b k:=by
 intro a ha a' ha'
 induction k with
 | zero=>simp[acc]
 | succ k ih=>
  show acc (a ^^^ a') b k ^^^ sel _ (txTo k (a ^^^ a'))=(acc a b k ^^^ _) ^^^ (acc a' b k ^^^ _)
  simp only at ih
  rw[ih,txTo_lin k a ha a' ha',sel_xor,xor4]
theorem acc_lin_right (a b b' k:Nat):acc a (b ^^^ b') k=acc a b k ^^^ acc a b' k:=by
 induction k with
 | zero=>simp[acc]
 | succ k ih=>
  show acc a (b ^^^ b') k ^^^ sel _ _=(acc a b k ^^^ _) ^^^ (acc a b' k ^^^ _)
  rw[ih,Nat.testBit_xor,sel_bxor,xor4]
theorem mul_add_left (a a' b:Nat) (ha:a<256) (ha':a'<256):mul (a ^^^ a') b=mul a b ^^^ mul a' b:=by
 rw[mul_acc _ _ (xor_lt ha ha'),mul_acc _ _ ha,mul_acc _ _ ha']
 exact acc_lin_left b 8 a ha a' ha'
theorem mul_add (a b c:Nat) (ha:a<256):mul a (b ^^^ c)=mul a b ^^^ mul a c:=by
 rw[mul_acc _ _ ha,mul_acc _ _ ha,mul_acc _ _ ha]
 exact acc_lin_right a b c 8
theorem lin_mul_left (b:Nat):Lin fun a=>mul a b:=fun a ha a' ha'=>mul_add_left a a' b ha ha'
theorem lin_mul (a:Nat) (ha:a<256):Lin (mul a):=fun b _ c _=>mul_add a b c ha
theorem comm_base: ∀i<8,∀j<8,mul (2^i) (2^j)=mul (2^j) (2^i):=by decide+kernel
theorem mul_comm (a b:Nat) (ha:a<256) (hb:b<256):mul a b=mul b a:=by
 refine lin_ext (f:=fun a=>mul a b) (g:=fun a=>mul b a) (lin_mul_left b) (lin_mul b hb) ?_ a ha
 intro i hi
 have h2:2^i<256:=Nat.pow_lt_pow_right (n:=8) (by omega) hi
 refine lin_ext (f:=fun b=>mul (2^i) b) (g:=fun b=>mul b (2^i)) (lin_mul _ h2) (lin_mul_left _) ?_ b hb
 intro j hj
 exact comm_base i hi j hj
theorem assoc_base: ∀i<8,∀j<8,∀k<8,mul (2^i) (mul (2^j) (2^k))=mul (mul (2^i) (2^j)) (2^k):=by decide+kernel
theorem mul_assoc (a b c:Nat) (ha:a<256) (hb:b<256) (hc:c<256):mul a (mul b c)=mul (mul a b) c:=by
 have h2: ∀i<8,2^i<256:=fun i hi=>Nat.pow_lt_pow_right (n:=8) (by omega) hi
 refine lin_ext (f:=fun a=>mul a (mul b c)) (g:=fun a=>mul (mul a b) c) (lin_mul_left _) ?_ ?_ a ha
 ·intro x hx y hy
  simp only
  rw[mul_add_left x y b hx hy,mul_add_left _ _ c (mul_lt x b hx) (mul_lt y b hy)]
 intro i hi
 refine lin_ext (f:=fun b=>mul (2^i) (mul b c)) (g:=fun b=>mul (mul (2^i) b) c) ?_ ?_ ?_ b hb
 ·intro x hx y hy
  simp only
  rw[mul_add_left x y c hx hy,mul_add _ _ _ (h2 i hi)]
 ·intro x hx y hy
  simp only
  rw[mul_add _ _ _ (h2 i hi),mul_add_left _ _ c (mul_lt _ x (h2 i hi)) (mul_lt _ y (h2 i hi))]
 intro j hj
 refine lin_ext (f:=fun c=>mul (2^i) (mul (2^j) c)) (g:=fun c=>mul (mul (2^i) (2^j)) c) ?_ (lin_mul _ (mul_lt _ _ (h2 i hi))) ?_ c hc
 ·intro x hx y hy
  simp only
  rw[mul_add _ _ _ (h2 j hj),mul_add _ _ _ (h2 i hi)]
 intro k hk
 exact assoc_base i hi j hj k hk
theorem mul_one: ∀a<256,mul a 1=a:=by decide+kernel
theorem one_mul: ∀a<256,mul 1 a=a:=by decide+kernel
theorem zero_mul (b:Nat):mul 0 b=0:=(lin_mul_left b).zero
theorem mul_zero (a:Nat) (ha:a<256):mul a 0=0:=(lin_mul a ha).zero
def invTo:Nat→Nat×Nat→Nat×Nat
 | 0,s=>s
 | k+1,s=>(mul (invTo k s).1 (invTo k s).1,mul (invTo k s).2 (mul (invTo k s).1 (invTo k s).1))
def inv (a:Nat):Nat:=(invTo 7 (a,1)).2
theorem invTo_lt (k a p:Nat) (ha:a<256) (hp:p<256):(invTo k (a,p)).1<256∧(invTo k (a,p)).2<256:=by
 induction k with
 | zero=>exact⟨ha,hp⟩
 | succ k ih=>exact⟨mul_lt _ _ ih.1,mul_lt _ _ ih.2⟩
theorem inv_lt (a:Nat) (ha:a<256):inv a<256:=(invTo_lt 7 a 1 ha (by omega)).2
theorem inv_zero:inv 0=0:=by decide+kernel
def sq (k a p:Nat):Nat:=match k with
 | 0=>p
 | k+1=>(fun b=>sq k b (mul p b)) (mul a a)
theorem invTo_succ' (k a p:Nat):invTo (k+1) (a,p)=invTo k (mul a a,mul p (mul a a)):=by
 induction k with
 | zero=>rfl
 | succ k ih=>show(_,_)=(_,_);rw[ih]
theorem sq_eq (k a p:Nat):sq k a p=(invTo k (a,p)).2:=by
 induction k generalizing a p with
 | zero=>rfl
 | succ k ih=>rw[invTo_succ'];exact ih _ _
theorem mul_inv_sq: ∀a<256,a=0∨mul a (sq 7 a 1)=1:=by decide+kernel
theorem mul_inv (a:Nat) (ha:a<256) (h:a≠0):mul a (inv a)=1:=by
 have:=mul_inv_sq a ha
 rw[sq_eq] at this
 exact this.resolve_left h
theorem inv_unique (a b:Nat) (ha:a<256) (hb:b<256) (h:mul a b=1):b=inv a:=by
 have e:a≠0:=by
  intro e
  rw[e,zero_mul] at h
  omega
 have i1:=inv_lt a ha
 have:mul (inv a) (mul a b)=b:=by
  rw[mul_assoc _ _ _ i1 ha hb,mul_comm _ _ i1 ha,mul_inv a ha e,one_mul b hb]
 rw[h,mul_one _ i1] at this
 exact this.symm
theorem inv_inv (a:Nat) (ha:a<256):inv (inv a)=a:=by
 by_cases e:a=0
 ·rw[e,inv_zero,inv_zero]
 refine(inv_unique (inv a) a (inv_lt a ha) ha ?_).symm
 rw[mul_comm _ _ (inv_lt a ha) ha]
 exact mul_inv a ha e
def rin (a b i:Nat):Nat→Nat
 | 0=>0
 | k+1=>rin a b i k ^^^ sel (a.testBit i && b.testBit k) (2^(i+k))
def rout (a b:Nat):Nat→Nat
 | 0=>0
 | i+1=>rout a b i ^^^ rin a b i 8
def red (p:Nat):Nat→Nat
 | 0=>p
 | j+1=>red p j ^^^ sel ((red p j).testBit (14-j)) (283*2^(6-j))
def refMul (a b:Nat):Nat:=red (rout a b 8) 7%256
theorem rin_lt (a b i k:Nat) (hi:i<8) (hk:k≤8):rin a b i k<32768:=by
 induction k with
 | zero=>show 0<_;omega
 | succ k ih=>
  refine Nat.xor_lt_two_pow (n:=15) (ih (by omega)) ?_
  have:2^(i+k)<2^15:=Nat.pow_lt_pow_right (by omega) (by omega)
  unfold sel
  split<;>omega
theorem rout_lt (a b i:Nat) (hi:i≤8):rout a b i<32768:=by
 induction i with
 | zero=>show 0<_;omega
 | succ i ih=>exact Nat.xor_lt_two_pow (n:=15) (ih (by omega)) (rin_lt a b i 8 (by omega) (by omega))
theorem red_lt (p j:Nat) (hp:p<32768) (hj:j≤7):red p j<32768:=by
 induction j with
 | zero=>exact hp
 | succ j ih=>
  refine Nat.xor_lt_two_pow (n:=15) (ih (by omega)) ?_
  have:2^(6-j)≤2^6:=Nat.pow_le_pow_right (by omega) (by omega)
  unfold sel
  split<;>omega
theorem rin_left (a a' b i k:Nat):rin (a ^^^ a') b i k=rin a b i k ^^^ rin a' b i k:=by
 induction k with
 | zero=>simp[rin]
 | succ k ih=>
  show rin (a ^^^ a') b i k ^^^ _=(rin a b i k ^^^ _) ^^^ (rin a' b i k ^^^ _)
  have e:((a ^^^ a').testBit i && b.testBit k)=((a.testBit i && b.testBit k)^^(a'.testBit i && b.testBit k)):=by
   rw[Nat.testBit_xor]
   cases a.testBit i<;>cases a'.testBit i<;>cases b.testBit k<;>rfl
  rw[ih,e,sel_bxor,xor4]
theorem rin_right (a b b' i k:Nat):rin a (b ^^^ b') i k=rin a b i k ^^^ rin a b' i k:=by
 induction k with
 | zero=>simp[rin]
 | succ k ih=>
  show rin a (b ^^^ b') i k ^^^ _=(rin a b i k ^^^ _) ^^^ (rin a b' i k ^^^ _)
  have e:(a.testBit i && (b ^^^ b').testBit k)=((a.testBit i && b.testBit k)^^(a.testBit i && b'.testBit k)):=by
   rw[Nat.testBit_xor]
   cases a.testBit i<;>cases b'.testBit k<;>cases b.testBit k<;>rfl
  rw[ih,e,sel_bxor,xor4]
theorem rout_left (a a' b i:Nat):rout (a ^^^ a') b i=rout a b i ^^^ rout a' b i:=by
 induction i with
 | zero=>simp[rout]
 | succ i ih=>
  show rout (a ^^^ a') b i ^^^ _=(rout a b i ^^^ _) ^^^ (rout a' b i ^^^ _)
  rw[ih,rin_left,xor4]
theorem rout_right (a b b' i:Nat):rout a (b ^^^ b') i=rout a b i ^^^ rout a b' i:=by
 induction i with
 | zero=>simp[rout]
 | succ i ih=>
  show rout a (b ^^^ b') i ^^^ _=(rout a b i ^^^ _) ^^^ (rout a b' i ^^^ _)
  rw[ih,rin_right,xor4]
theorem red_xor (p q j:Nat):red (p ^^^ q) j=red p j ^^^ red q j:=by
 induction j with
 | zero=>rfl
 | succ j ih=>
  show red (p ^^^ q) j ^^^ _=(red p j ^^^ _) ^^^ (red q j ^^^ _)
  rw[ih,Nat.testBit_xor,sel_bxor,xor4]
theorem lin_ref_left (b:Nat):Lin fun a=>refMul a b:=by
 intro x _ y _
 show red (rout (x ^^^ y) b 8) 7%2^8=(red (rout x b 8) 7%2^8) ^^^ (red (rout y b 8) 7%2^8)
 rw[rout_left,red_xor,Nat.xor_mod_two_pow]
theorem lin_ref (a:Nat):Lin (refMul a):=by
 intro x _ y _
 show red (rout a (x ^^^ y) 8) 7%2^8=(red (rout a x 8) 7%2^8) ^^^ (red (rout a y 8) 7%2^8)
 rw[rout_right,red_xor,Nat.xor_mod_two_pow]
def redF (p:Nat) (l:List Nat):Nat:=l.foldl (fun q i=>q ^^^ sel (q.testBit i) (283*2^(i-8))) p
theorem red7 (p:Nat):red p 7=redF p [14,13,12,11,10,9,8]:=rfl
theorem ref_base': ∀i<8,∀j<8,mul (2^i) (2^j)=redF (rout (2^i) (2^j) 8) [14,13,12,11,10,9,8]%256:=by decide+kernel
theorem ref_base: ∀i<8,∀j<8,mul (2^i) (2^j)=refMul (2^i) (2^j):=by
 intro i hi j hj
 unfold refMul
 rw[red7]
 exact ref_base' i hi j hj
theorem mul_ref (a b:Nat) (ha:a<256) (hb:b<256):mul a b=refMul a b:=by
 refine lin_ext (f:=fun a=>mul a b) (g:=fun a=>refMul a b) (lin_mul_left b) (lin_ref_left b) ?_ a ha
 intro i hi
 have h2:2^i<256:=Nat.pow_lt_pow_right (n:=8) (by omega) hi
 refine lin_ext (f:=fun b=>mul (2^i) b) (g:=fun b=>refMul (2^i) b) (lin_mul _ h2) (lin_ref _) ?_ b hb
 intro j hj
 exact ref_base i hi j hj
def turn (n k:Nat):Nat:=(n*2^k%256) ||| (n/2^(8-k))
theorem turn_lt: ∀n<256,∀k<9,turn n k<256:=by decide+kernel
def boxTo (b:Nat):Nat→Nat
 | 0=>99
 | k+1=>boxTo b k ^^^ turn b k
def box (a:Nat):Nat:=boxTo (inv a) 5
def unbox (a:Nat):Nat:=inv (((turn a 1 ^^^ turn a 3) ^^^ turn a 6) ^^^ 5)
theorem boxTo_lt (b k:Nat) (hb:b<256) (hk:k≤9):boxTo b k<256:=by
 induction k with
 | zero=>show 99<256;omega
 | succ k ih=>exact xor_lt (ih (by omega)) (turn_lt b hb k (by omega))
theorem box_lt (a:Nat) (ha:a<256):box a<256:=boxTo_lt _ 5 (inv_lt a ha) (by omega)
def unaff (a:Nat):Nat:=((turn a 1 ^^^ turn a 3) ^^^ turn a 6) ^^^ 5
theorem unaff_lt (a:Nat) (ha:a<256):unaff a<256:=
 xor_lt (xor_lt (xor_lt (turn_lt a ha 1 (by omega)) (turn_lt a ha 3 (by omega))) (turn_lt a ha 6 (by omega))) (by omega)
theorem unbox_lt (a:Nat) (ha:a<256):unbox a<256:=inv_lt _ (unaff_lt a ha)
theorem unaff_aff: ∀b<256,unaff (boxTo b 5)=b:=by decide+kernel
theorem aff_unaff: ∀b<256,boxTo (unaff b) 5=b:=by decide+kernel
theorem unbox_box (a:Nat) (ha:a<256):unbox (box a)=a:=by
 show inv (unaff (boxTo (inv a) 5))=a
 rw[unaff_aff _ (inv_lt a ha),inv_inv a ha]
theorem box_unbox (a:Nat) (ha:a<256):box (unbox a)=a:=by
 show boxTo (inv (inv (unaff a))) 5=a
 rw[inv_inv _ (unaff_lt a ha),aff_unaff a ha]
def affIn (b i:Nat):Nat→Nat
 | 0=>99/2^i
 | m+1=>affIn b i m ^^^ b/2^((i+(4+m))%8)
def affTo (b:Nat):Nat→Nat
 | 0=>0
 | i+1=>affTo b i ||| affIn b i 5%2*2^i
def aff (b:Nat):Nat:=affTo b 8
theorem affIn_lt (b i m:Nat) (hb:b<256):affIn b i m<256:=by
 induction m with
 | zero=>
  show 99/2^i<256
  exact Nat.lt_of_le_of_lt (Nat.div_le_self _ _) (by omega)
 | succ m ih=>exact xor_lt ih (Nat.lt_of_le_of_lt (Nat.div_le_self _ _) hb)
theorem affTo_lt (b i:Nat) (hi:i≤8):affTo b i<256:=by
 induction i with
 | zero=>show 0<256;omega
 | succ i ih=>
  refine Nat.or_lt_two_pow (n:=8) (ih (by omega)) ?_
  have h2:2^i≤2^7:=Nat.pow_le_pow_right (by omega) (by omega)
  have h1:affIn b i 5%2<2:=Nat.mod_lt _ (by omega)
  have:affIn b i 5%2*2^i≤1*2^i:=Nat.mul_le_mul_right _ (by omega)
  omega
end Go.Proofs.YtlmacfmfmjhidaaGreatDoor.Gf
namespace Go.Proofs.YtlmacfmfmjhidaaGreatDoor.Gf
open Go.ChangeShapes Go.WideShapes Go.ChangeAt Go.RowKit
theorem hid {p:Prop} (h:p):Hid p:=h
theorem val_int {k:IntKind}{a b:Int} (h:a=b):Value.int k a=Value.int k b:=by rw[h]
theorem ret_int {k:IntKind}{a b:Int} (h:a=b):Ending.returned (.int k a)= .returned (.int k b):=by rw[h]
theorem tx_int: ∀n<256,bits BinOp.xor IntKind.u8 ((n:Nat)*2%256:Int) (bits BinOp.and IntKind.u8 27 (-((n:Nat)/128:Int)%256))=((tx n:Nat):Int):=by decide+kernel
theorem timesX_any (n:Nat) (hn:n<256) (w:World):
  Calls Tryz.prog 179 #[.int .u8 n] w fun e w'=>e= .returned (.int .u8 (tx n:Nat))∧w=w':=by
 go_enter Tryz.func179,Tryz.ntmps179
 go_wp2
 go_ret
 exact⟨ret_int (tx_int n hn),rfl⟩
theorem turn0: ∀n<256,bits BinOp.or IntKind.u8 (n:Nat) ((n:Nat)/256:Int)=((turn n 0:Nat):Int):=by decide+kernel
theorem turn1: ∀n<256,bits BinOp.or IntKind.u8 ((n:Nat)*2%256:Int) ((n:Nat)/128:Int)=((turn n 1:Nat):Int):=by decide+kernel
theorem turn2: ∀n<256,bits BinOp.or IntKind.u8 ((n:Nat)*4%256:Int) ((n:Nat)/64:Int)=((turn n 2:Nat):Int):=by decide+kernel
theorem turn3: ∀n<256,bits BinOp.or IntKind.u8 ((n:Nat)*8%256:Int) ((n:Nat)/32:Int)=((turn n 3:Nat):Int):=by decide+kernel
theorem turn4: ∀n<256,bits BinOp.or IntKind.u8 ((n:Nat)*16%256:Int) ((n:Nat)/16:Int)=((turn n 4:Nat):Int):=by decide+kernel
theorem turn6: ∀n<256,bits BinOp.or IntKind.u8 ((n:Nat)*64%256:Int) ((n:Nat)/4:Int)=((turn n 6:Nat):Int):=by decide+kernel
theorem turnLeft_any (n:Nat) (hn:n<256) (k:Int) (hk:k=0∨k=1∨k=2∨k=3∨k=4∨k=6) (w:World):
  Calls Tryz.prog 168 #[.int .u8 n, .int .i64 k] w fun e w'=>e= .returned (.int .u8 (turn n k.toNat:Nat))∧∃q,w'=w.drewN q:=by
 rcases hk with rfl | rfl | rfl | rfl | rfl | rfl
 all_goals
  go_enter Tryz.func168,Tryz.ntmps168
  go_wp2
  go_quiet (fail)
  go_wp2
  go_ret
  refine⟨ret_int ?_,_,rfl⟩
  first | exact turn0 n hn | exact turn1 n hn | exact turn2 n hn | exact turn3 n hn | exact turn4 n hn | exact turn6 n hn
theorem step_int: ∀x<256,∀b<256,bits BinOp.and IntKind.u8 ((x:Nat):Int) (-(bits BinOp.and IntKind.u8 ((b:Nat):Int) 1)%256)=((x &&& ((256-b%2)%256):Nat):Int):=by
 intro x hx b hb
 have e: ∀b<256,-(bits BinOp.and IntKind.u8 ((b:Nat):Int) 1)%256=(((256-b%2)%256:Nat):Int):=by decide+kernel
 rw[e b hb,u8_and_nat _ _ hx (Nat.mod_lt _ (by omega))]
theorem and_lt (x y:Nat) (hx:x<256):x &&& y<256:=Nat.lt_of_le_of_lt Nat.and_le_left hx
theorem step_sum (S X Y:Nat) (hS:S<256) (hX:X<256) (hY:Y<256):
  bits BinOp.xor IntKind.u8 (S:Int) (bits BinOp.and IntKind.u8 (X:Int) (-(bits BinOp.and IntKind.u8 (Y:Int) 1)%256))=((S ^^^ (X &&& ((256-Y%2)%256)):Nat):Int):=by
 rw[step_int X hX Y hY,u8_xor_nat _ _ hS (and_lt _ _ hX)]
set_option maxHeartbeats 400000 in
theorem mul_any (a b:Nat) (ha:a<256) (hb:b<256) (w:World):
  Calls Tryz.prog 165 #[.int .u8 a, .int .u8 b] w fun e w'=>e= .returned (.int .u8 (mul a b:Nat))∧w=w':=by
 go_enter Tryz.func165,Tryz.ntmps165
 go_wp2
 go_loop [0,1,5,6] (fun x y s i=> ∃k X Y S:Nat,k≤8∧X<256∧Y<256∧S<256∧Hid (stepTo k (0,a,b)=(S,X,Y))∧x= .int .u8 X∧y= .int .u8 Y∧s= .int .u8 S∧i= .int .i64 k) (fun _ _ _ i=>8-(intOf i).toNat)
 case atStart=>exact⟨0,a,b,0,by omega,ha,hb,by omega,hid rfl,rfl,rfl,rfl,rfl⟩
 case round=>
  obtain⟨k,X,Y,S,hk,hX,hY,hS,H,rfl,rfl,rfl,rfl⟩:=hrel
  by_cases hlt:k<8
  ·go_wp2_with (go_at_call 179;refine(timesX_any _ hX _).mono ?_;rintro e w' ⟨rfl,rfl⟩)
   refine⟨⟨k+1,tx X,Y/2,S ^^^ (X &&& ((256-Y%2)%256)),by omega,tx_lt X hX,by omega,xor_lt hS (and_lt _ _ hX),?_,rfl,val_int (by omega),val_int (step_sum S X Y hS hX hY),val_int (by omega)⟩,by simp[intOf];omega⟩
   exact hid (by show step (stepTo k (0,a,b))=_;rw[H.out];rfl)
  go_wp2
  go_ret
  obtain rfl:k=8:=by omega
  exact⟨ret_int (by show(S:Int)=((stepTo 8 (0,a,b)).1:Nat);rw[H.out]),rfl⟩
set_option maxHeartbeats 400000 in
theorem inv_any (a:Nat) (ha:a<256) (w:World):
  Calls Tryz.prog 167 #[.int .u8 a] w fun e w'=>e= .returned (.int .u8 (inv a:Nat))∧w=w':=by
 go_enter Tryz.func167,Tryz.ntmps167
 go_wp2
 go_loop [0,3,4] (fun x p i=> ∃k X P:Nat,k≤7∧X<256∧P<256∧Hid (invTo k (a,1)=(X,P))∧x= .int .u8 X∧p= .int .u8 P∧i= .int .i64 k) (fun _ _ i=>7-(intOf i).toNat)
 case atStart=>exact⟨0,a,1,by omega,ha,by omega,hid rfl,rfl,rfl,rfl⟩
 case round=>
  obtain⟨k,X,P,hk,hX,hP,H,rfl,rfl,rfl⟩:=hrel
  by_cases hlt:k<7
  ·have hm:=mul_lt X X hX
   go_wp2_with (go_at_call 165;refine(mul_any _ _ (by assumption) (by assumption) _).mono ?_;rintro e w' ⟨rfl,rfl⟩)
   refine⟨⟨k+1,mul X X,mul P (mul X X),by omega,hm,mul_lt _ _ hP,?_,rfl,rfl,val_int (by omega)⟩,by simp[intOf];omega⟩
   exact hid (by show(mul (invTo k (a,1)).1 (invTo k (a,1)).1,mul (invTo k (a,1)).2 (mul (invTo k (a,1)).1 (invTo k (a,1)).1))=_;rw[H.out])
  go_wp2
  go_ret
  obtain rfl:k=7:=by omega
  exact⟨ret_int (by show(P:Int)=((invTo 7 (a,1)).2:Nat);rw[H.out]),rfl⟩
set_option maxHeartbeats 400000 in
theorem box_any (a:Nat) (ha:a<256) (w:World):
  Calls Tryz.prog 147 #[.int .u8 a] w fun e w'=>e= .returned (.int .u8 (box a:Nat))∧∃q,w'=w.drewN q:=by
 have hi:=inv_lt a ha
 go_enter Tryz.func147,Tryz.ntmps147
 go_wp2_with (go_at_call 167;refine(inv_any _ ha _).mono ?_;rintro e w' ⟨rfl,rfl⟩)
 go_loopw [4,5,8] (fun s _ i wr=> ∃k S q:Nat,k≤5∧S<256∧Hid (boxTo (inv a) k=S)∧s= .int .u8 S∧i= .int .i64 k∧Hid (wr=w.drewN q)) (fun _ _ i _=>5-(intOf i).toNat)
 case atStart=>exact⟨0,99,0,by omega,by omega,hid rfl,rfl,rfl,hid rfl⟩
 case round=>
  obtain⟨k,S,q,hk,hS,H,rfl,rfl,HW⟩:=hrel
  by_cases hlt:k<5
  ·go_wp2_with (go_at_call 168;refine(turnLeft_any _ hi _ (by omega) _).mono ?_;rintro e w' ⟨rfl,q',rfl⟩)
   refine⟨⟨k+1,S ^^^ turn (inv a) k,q+q',by omega,xor_lt hS (turn_lt _ hi k (by omega)),?_,val_int (u8_xor_nat _ _ hS (turn_lt _ hi k (by omega))),val_int (by omega),?_⟩,by simp[intOf];omega⟩
   ·exact hid (by show boxTo (inv a) k ^^^ turn (inv a) k=_;rw[H.out])
   exact hid (by rw[HW.out,World.drewN_drewN])
  go_wp2
  go_ret
  obtain rfl:k=5:=by omega
  exact⟨ret_int (by show(S:Int)=((boxTo (inv a) 5:Nat):Int);rw[H.out]),q,HW.out⟩
set_option maxHeartbeats 400000 in
theorem unbox_any (a:Nat) (ha:a<256) (w:World):
  Calls Tryz.prog 150 #[.int .u8 a] w fun e w'=>e= .returned (.int .u8 (unbox a:Nat))∧∃q,w'=w.drewN q:=by
 have h1:=turn_lt a ha 1 (by omega)
 have h3:=turn_lt a ha 3 (by omega)
 have h6:=turn_lt a ha 6 (by omega)
 have e:bits .xor .u8 (bits .xor .u8 (bits .xor .u8 ((turn a 1:Nat):Int) ((turn a 3:Nat):Int)) ((turn a 6:Nat):Int)) 5=((unaff a:Nat):Int):=by
  rw[u8_xor_nat _ _ h1 h3,u8_xor_nat _ _ (xor_lt h1 h3) h6]
  exact u8_xor_nat _ 5 (xor_lt (xor_lt h1 h3) h6) (by omega)
 have E:=hid e
 clear e
 go_enter Tryz.func150,Tryz.ntmps150
 go_wp2_with (go_at_call 168;refine(turnLeft_any _ ha _ (by omega) _).mono ?_;rintro e w' ⟨rfl,q',rfl⟩)
 rw[E.out]
 refine(inv_any _ (unaff_lt a ha) _).mono ?_
 rintro e w' ⟨rfl,rfl⟩
 go_wp2
 go_ret
 exact⟨rfl,_,rfl⟩
end Go.Proofs.YtlmacfmfmjhidaaGreatDoor.Gf
