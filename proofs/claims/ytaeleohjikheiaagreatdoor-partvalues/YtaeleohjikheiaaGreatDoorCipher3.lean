/-
  Ciphers: what New returns, whatever the kind; and lockboxref05.Fits.
-/
import Derived.Test.YtaeleohjikheiaaGreatDoorCipher2
namespace Go.Proofs.YtaeleohjikheiaaGreatDoor.Bk
open Mem Go.ChangeShapes Go.WideShapes Go.ChangeAt Go.RowKit
theorem waes (v : Value) (w : World) (hv : ∃ A n c, v = .slice A n c) : Calls Tryz.prog 80 #[v] w fun e w' => e = .returned (.func (.func 95) #[] #[.pointer (some ⟨w.heap.size, 0, none⟩)]) ∧ w' = w.alloc (.cells #[v] 22) := by
  obtain ⟨A, n, c, rfl⟩ := hv
  go_enter Tryz.func80, Tryz.ntmps80
  go_wp2_with fail
  go_ret
  exact ⟨rfl, rfl⟩
theorem wtdes (v : Value) (w : World) (hv : ∃ A n c, v = .slice A n c) : Calls Tryz.prog 81 #[v] w fun e w' => e = .returned (.func (.func 98) #[] #[.pointer (some ⟨w.heap.size, 0, none⟩)]) ∧ w' = w.alloc (.cells #[v] 22) := by
  obtain ⟨A, n, c, rfl⟩ := hv
  go_enter Tryz.func81, Tryz.ntmps81
  go_wp2_with fail
  go_ret
  exact ⟨rfl, rfl⟩
theorem wbook (s : ByteArray) (g : Option Addr) (w : World) : Calls Tryz.prog 82 #[.string s, .pointer g] w fun e w' => e = .returned (.func (.func 100) #[] #[.pointer (some ⟨w.heap.size + 1, 0, none⟩), .pointer (some ⟨w.heap.size, 0, none⟩)]) ∧ w' = (w.alloc (.cells #[.string s] 9)).alloc (.cells #[.pointer g] 47) := by
  go_enter Tryz.func82, Tryz.ntmps82
  go_wp2_with fail
  go_ret
  exact ⟨rfl, rfl⟩
theorem bsize (z : Int) (w : World) : Calls Tryz.prog 52 #[.int .i64 z] w fun e w' => e = .returned (.int .i64 (if z = 1 ∨ z = 3 then 16 else if z = 2 then 8 else 0)) ∧ w = w' := by
  by_cases h1 : z = 1
  · subst h1
    go_enter Tryz.func52, Tryz.ntmps52
    go_wp2_with fail
    go_ret
    exact ⟨rfl, rfl⟩
  · by_cases h3 : z = 3
    · subst h3
      go_enter Tryz.func52, Tryz.ntmps52
      go_wp2_with fail
      go_ret
      exact ⟨rfl, rfl⟩
    · by_cases h2 : z = 2
      · subst h2
        go_enter Tryz.func52, Tryz.ntmps52
        go_wp2_with fail
        go_ret
        exact ⟨rfl, rfl⟩
      · go_enter Tryz.func52, Tryz.ntmps52
        go_wp2_with fail
        go_ret
        exact ⟨rfl, rfl⟩
/-- may a key of L bytes be of kind z? -/
def fitB (z : Int) (L : Nat) : Bool := (decide (z = 1) && (decide (L = 16) || decide (L = 24) || decide (L = 32))) || (decide (z = 2) && (decide (L = 8) || decide (L = 16) || decide (L = 24))) || (decide (z = 3) && (decide (1 ≤ L) && decide (L ≤ 32)))
theorem fitB_other {z : Int} {L : Nat} (h1 : z ≠ 1) (h2 : z ≠ 2) (h3 : z ≠ 3) : fitB z L = false := by simp [fitB, h1, h2, h3]
theorem fits_any (z : Int) (L : Nat) (w : World) (hL : L ≤ 1000000) : Calls Tryz.prog 53 #[.int .i64 z, .int .i64 (L : Int)] w fun e w' => e = .returned (.bool (fitB z L)) ∧ w = w' := by
  by_cases h1 : z = 1
  · subst h1
    by_cases a1 : L = 16
    · subst a1
      go_enter Tryz.func53, Tryz.ntmps53
      go_wp2_with fail
      go_ret
      exact ⟨rfl, rfl⟩
    · by_cases a2 : L = 24
      · subst a2
        go_enter Tryz.func53, Tryz.ntmps53
        go_wp2_with fail
        go_ret
        exact ⟨rfl, rfl⟩
      · have b1 : (L : Int) ≠ 16 := by omega
        have b2 : (L : Int) ≠ 24 := by omega
        by_cases a3 : L = 32
        · subst a3
          go_enter Tryz.func53, Tryz.ntmps53
          go_wp2_with fail
          go_ret
          exact ⟨rfl, rfl⟩
        · have b3 : (L : Int) ≠ 32 := by omega
          go_enter Tryz.func53, Tryz.ntmps53
          go_wp2_with fail
          go_ret
          exact ⟨by simp [fitB, a1, a2, a3, b3]; omega, rfl⟩
  · by_cases h2 : z = 2
    · subst h2
      by_cases a1 : L = 8
      · subst a1
        go_enter Tryz.func53, Tryz.ntmps53
        go_wp2_with fail
        go_ret
        exact ⟨rfl, rfl⟩
      · by_cases a2 : L = 16
        · subst a2
          go_enter Tryz.func53, Tryz.ntmps53
          go_wp2_with fail
          go_ret
          exact ⟨rfl, rfl⟩
        · have b1 : (L : Int) + 8 ≠ 16 := by omega
          have b2 : (L : Int) + 8 ≠ 24 := by omega
          by_cases a3 : L = 24
          · subst a3
            go_enter Tryz.func53, Tryz.ntmps53
            go_wp2_with fail
            go_ret
            exact ⟨rfl, rfl⟩
          · have b3 : (L : Int) + 8 ≠ 32 := by omega
            go_enter Tryz.func53, Tryz.ntmps53
            go_wp2_with fail
            go_ret
            exact ⟨by simp [fitB, a1, a2, a3, b3]; omega, rfl⟩
    · by_cases h3 : z = 3
      · subst h3
        by_cases a1 : 1 ≤ L
        · have b1 : 1 ≤ (L : Int) := by omega
          go_enter Tryz.func53, Tryz.ntmps53
          go_wp2_with fail
          go_ret
          refine ⟨?_, rfl⟩
          have e : decide ((L : Int) ≤ 32) = decide (L ≤ 32) := by simp; omega
          simp [fitB, a1, e]
        · have b1 : ¬ 1 ≤ (L : Int) := by omega
          go_enter Tryz.func53, Tryz.ntmps53
          go_wp2_with fail
          go_ret
          refine ⟨?_, rfl⟩
          simp [fitB, a1]
      · go_enter Tryz.func53, Tryz.ntmps53
        go_wp2_with fail
        go_ret
        exact ⟨by rw [fitB_other h1 h2 h3]; rfl, rfl⟩
theorem fitB_fits {k L : Nat} : fitB (k : Int) L = true ↔ fits k L := by
  unfold fitB fits Aes.IsKey Des.IsTKey
  simp
  omega
/-- what kind it can't be, or the oracle without a book -/
theorem new_kind (z : Int) (A : Option Addr) (L c : Nat) (g : Option Addr) (w : World) (h : (z ≠ 1 ∧ z ≠ 2 ∧ z ≠ 3) ∨ (z = 3 ∧ g = none)) :
    Calls Tryz.prog 24 #[.int .i64 z, .slice A L c, .pointer g] w fun e w' => e = .returned (.tuple #[.pointer none, .iface 71 (.int .i64 1)]) ∧ w = w' := by
  rcases h with ⟨h1, h2, h3⟩ | ⟨rfl, rfl⟩
  · go_enter Tryz.func24, Tryz.ntmps24
    go_wp2_with (go_at_call 52; refine (bsize z _).mono ?_; rintro e w1 ⟨rfl, rfl⟩; rw [if_neg (by omega), if_neg h2])
    go_ret2
    exact ⟨rfl, rfl⟩
  · go_enter Tryz.func24, Tryz.ntmps24
    go_wp2_with (go_at_call 52; refine (bsize 3 _).mono ?_; rintro e w1 ⟨rfl, rfl⟩; rw [if_pos (by omega)])
    go_ret2
    exact ⟨rfl, rfl⟩
theorem bsize_of (k : Nat) (hk : k = 1 ∨ k = 2 ∨ k = 3) : (if (k : Int) = 1 ∨ (k : Int) = 3 then 16 else if (k : Int) = 2 then 8 else 0 : Int) = (sz k : Int) := by
  rcases hk with rfl | rfl | rfl <;> rfl
theorem new_len (z : Int) (hz : z = 1 ∨ z = 2 ∨ z = 3) (A : Option Addr) (L c : Nat) (g : Option Addr) (hg : z = 3 → g ≠ none) (w : World) (hL : L ≤ 1000000) (hf : fitB z L = false) :
    Calls Tryz.prog 24 #[.int .i64 z, .slice A L c, .pointer g] w fun e w' => e = .returned (.tuple #[.pointer none, .iface 71 (.int .i64 2)]) ∧ w = w' := by
  rcases hz with rfl | rfl | rfl
  · go_enter Tryz.func24, Tryz.ntmps24
    go_wp2_with (first
      | (go_at_call 52; refine (bsize 1 _).mono ?_; rintro e w1 ⟨rfl, rfl⟩; rw [if_pos (by omega)])
      | (go_at_call 53; refine (fits_any 1 L _ hL).mono ?_; rintro e w1 ⟨rfl, rfl⟩; rw [hf]))
    go_ret2
    exact ⟨rfl, rfl⟩
  · go_enter Tryz.func24, Tryz.ntmps24
    go_wp2_with (first
      | (go_at_call 52; refine (bsize 2 _).mono ?_; rintro e w1 ⟨rfl, rfl⟩; rw [if_neg (by omega), if_pos rfl])
      | (go_at_call 53; refine (fits_any 2 L _ hL).mono ?_; rintro e w1 ⟨rfl, rfl⟩; rw [hf]))
    go_ret2
    exact ⟨rfl, rfl⟩
  · rcases g with _ | ad
    · exact absurd rfl (hg rfl)
    · go_enter Tryz.func24, Tryz.ntmps24
      go_wp2_with (first
        | (go_at_call 52; refine (bsize 3 _).mono ?_; rintro e w1 ⟨rfl, rfl⟩; rw [if_pos (by omega)])
        | (go_at_call 53; refine (fits_any 3 L _ hL).mono ?_; rintro e w1 ⟨rfl, rfl⟩; rw [hf]))
      go_ret2
      exact ⟨rfl, rfl⟩
theorem tof1 (A : Option Addr) (L c : Nat) (g : Option Addr) (w : World) : Calls Tryz.prog 54 #[.int .i64 1, .slice A L c, .pointer g] w fun e w' => e = .returned (.func (.func 95) #[] #[.pointer (some ⟨w.heap.size, 0, none⟩)]) ∧ w' = w.alloc (.cells #[.slice A L c] 22) := by
  go_enter Tryz.func54, Tryz.ntmps54
  go_wp2_with (go_at_call 80; refine (waes _ _ ⟨_, _, _, rfl⟩).mono ?_; rintro e w1 ⟨rfl, rfl⟩)
  go_ret
  exact ⟨rfl, rfl⟩
theorem tof2 (A : Option Addr) (L c : Nat) (g : Option Addr) (w : World) : Calls Tryz.prog 54 #[.int .i64 2, .slice A L c, .pointer g] w fun e w' => e = .returned (.func (.func 98) #[] #[.pointer (some ⟨w.heap.size, 0, none⟩)]) ∧ w' = w.alloc (.cells #[.slice A L c] 22) := by
  go_enter Tryz.func54, Tryz.ntmps54
  go_wp2_with (go_at_call 81; refine (wtdes _ _ ⟨_, _, _, rfl⟩).mono ?_; rintro e w1 ⟨rfl, rfl⟩)
  go_ret
  exact ⟨rfl, rfl⟩
theorem tof3 (A : Option Addr) (L c : Nat) (g : Option Addr) (key : Nat → Nat) (base : Nat) (w : World) (ho : Own w base 5 1 (.slice A L c) L key) : Calls Tryz.prog 54 #[.int .i64 3, .slice A L c, .pointer g] w fun e w' => e = .returned (.func (.func 100) #[] #[.pointer (some ⟨w.heap.size + 1, 0, none⟩), .pointer (some ⟨w.heap.size, 0, none⟩)]) ∧ w' = (w.alloc (.cells #[.string (strF L key)] 9)).alloc (.cells #[.pointer g] 47) := by
  have hcv := conv_own ho
  clear ho
  go_enter Tryz.func54, Tryz.ntmps54
  go_wp2_with (go_at_call 82; refine (wbook _ _ _).mono ?_; rintro e w1 ⟨rfl, rfl⟩)
  go_ret
  exact ⟨rfl, rfl⟩
set_option maxRecDepth 100000 in
theorem new1 (A : Option Addr) (L c : Nat) (key : Nat → Nat) (p : Pl) (g : Option Addr) (w : World) (hL : L ≤ 32) (hA : A = none → L = 0 ∧ c = 0) (hk : ∀ i, i < L → key i < 256) (hR : Reads w w.heap.size A L key) (hf : fits 1 L) :
    Calls Tryz.prog 24 #[.int .i64 1, .slice A L c, .pointer g] w fun e w' => ∃ gc, e = .returned (.tuple #[.pointer (some ⟨gc, 0, none⟩), .nilIface]) ∧ CiAt w' p 1 gc w.heap.size L key ∧ w.heap.size ≤ gc ∧ Below w.heap.size w w' := by
  have hfb : fitB 1 L = true := fitB_fits.2 hf
  have HR := hid hR
  have HA := hid hA
  have Hk := hid hk
  have Hf := hid hf
  clear hR hA hk hf
  go_enter Tryz.func24, Tryz.ntmps24
  go_wp2_with (first
    | (go_at_call 52; refine (bsize 1 _).mono ?_; rintro e w1 ⟨rfl, rfl⟩; rw [if_pos (by omega)])
    | (go_at_call 53; refine (fits_any 1 L _ (by omega)).mono ?_; rintro e w1 ⟨rfl, rfl⟩; rw [hfb])
    | (go_at_call 51; refine (clone_any A L c key _ (by omega) HA.out HR.out).mono ?_; rintro e w1 ⟨v, rfl, ho, hB⟩; obtain ⟨A', c', rfl, hc', -⟩ := ho.slice'; have Ho := hid ho; have HB := hid hB; clear ho hB)
    | (go_at_call 54; refine (tof1 _ _ _ _ _).mono ?_; rintro e w2 ⟨rfl, rfl⟩))
  go_ret2
  have hB2 : Below w.heap.size w ((w1.alloc (.cells #[.slice A' L c'] 22)).alloc (.cells #[.int .i64 16, .func (.func 95) #[] #[.pointer (some ⟨w1.heap.size, 0, none⟩)]] 93)) := (HB.out.alloc HB.out.size _).alloc (by simp; have := HB.out.size; omega) _
  have hb1 := (Blk.fresh w1 22 #[.slice A' L c']).alloc (.cells #[.int .i64 16, .func (.func 95) #[] #[.pointer (some ⟨w1.heap.size, 0, none⟩)]] 93)
  have hb2 := Blk.fresh (w1.alloc (.cells #[.slice A' L c'] 22)) 93 #[.int .i64 16, .func (.func 95) #[] #[.pointer (some ⟨w1.heap.size, 0, none⟩)]]
  have hsz : (w1.alloc (.cells #[.slice A' L c'] 22)).heap.size = w1.heap.size + 1 := by simp
  rw [hsz] at hb2
  have hkey : Aes.IsKey L := by have := Hf.out; unfold fits at this; simpa using this
  exact ⟨_, rfl, ⟨Hk.out, .inl ⟨rfl, hkey, _, _, hb2, hb1, (Ho.out.alloc _).alloc _⟩⟩, by have := HB.out.size; omega, hB2⟩
set_option maxRecDepth 100000 in
theorem new2 (A : Option Addr) (L c : Nat) (key : Nat → Nat) (p : Pl) (g : Option Addr) (w : World) (hL : L ≤ 32) (hA : A = none → L = 0 ∧ c = 0) (hk : ∀ i, i < L → key i < 256) (hR : Reads w w.heap.size A L key) (hf : fits 2 L) :
    Calls Tryz.prog 24 #[.int .i64 2, .slice A L c, .pointer g] w fun e w' => ∃ gc, e = .returned (.tuple #[.pointer (some ⟨gc, 0, none⟩), .nilIface]) ∧ CiAt w' p 2 gc w.heap.size L key ∧ w.heap.size ≤ gc ∧ Below w.heap.size w w' := by
  have hfb : fitB 2 L = true := fitB_fits.2 hf
  have HR := hid hR
  have HA := hid hA
  have Hk := hid hk
  have Hf := hid hf
  clear hR hA hk hf
  go_enter Tryz.func24, Tryz.ntmps24
  go_wp2_with (first
    | (go_at_call 52; refine (bsize 2 _).mono ?_; rintro e w1 ⟨rfl, rfl⟩; rw [if_neg (by omega), if_pos rfl])
    | (go_at_call 53; refine (fits_any 2 L _ (by omega)).mono ?_; rintro e w1 ⟨rfl, rfl⟩; rw [hfb])
    | (go_at_call 51; refine (clone_any A L c key _ (by omega) HA.out HR.out).mono ?_; rintro e w1 ⟨v, rfl, ho, hB⟩; obtain ⟨A', c', rfl, hc', -⟩ := ho.slice'; have Ho := hid ho; have HB := hid hB; clear ho hB)
    | (go_at_call 54; refine (tof2 _ _ _ _ _).mono ?_; rintro e w2 ⟨rfl, rfl⟩))
  go_ret2
  have hB2 : Below w.heap.size w ((w1.alloc (.cells #[.slice A' L c'] 22)).alloc (.cells #[.int .i64 8, .func (.func 98) #[] #[.pointer (some ⟨w1.heap.size, 0, none⟩)]] 93)) := (HB.out.alloc HB.out.size _).alloc (by simp; have := HB.out.size; omega) _
  have hb1 := (Blk.fresh w1 22 #[.slice A' L c']).alloc (.cells #[.int .i64 8, .func (.func 98) #[] #[.pointer (some ⟨w1.heap.size, 0, none⟩)]] 93)
  have hb2 := Blk.fresh (w1.alloc (.cells #[.slice A' L c'] 22)) 93 #[.int .i64 8, .func (.func 98) #[] #[.pointer (some ⟨w1.heap.size, 0, none⟩)]]
  have hsz : (w1.alloc (.cells #[.slice A' L c'] 22)).heap.size = w1.heap.size + 1 := by simp
  rw [hsz] at hb2
  have hkey : Des.IsTKey L := by have := Hf.out; unfold fits at this; simpa using this
  exact ⟨_, rfl, ⟨Hk.out, .inr (.inl ⟨rfl, hkey, _, _, hb2, hb1, (Ho.out.alloc _).alloc _⟩)⟩, by have := HB.out.size; omega, hB2⟩
set_option maxRecDepth 100000 in
theorem new3 (A : Option Addr) (L c : Nat) (key : Nat → Nat) (p : Pl) (w : World) (hL : L ≤ 32) (hA : A = none → L = 0 ∧ c = 0) (hk : ∀ i, i < L → key i < 256) (hR : Reads w w.heap.size A L key) (hf : fits 3 L) :
    Calls Tryz.prog 24 #[.int .i64 3, .slice A L c, .pointer (some ⟨p.gb, 0, none⟩)] w fun e w' => ∃ gc, e = .returned (.tuple #[.pointer (some ⟨gc, 0, none⟩), .nilIface]) ∧ CiAt w' p 3 gc w.heap.size L key ∧ w.heap.size ≤ gc ∧ Below w.heap.size w w' := by
  have hfb : fitB 3 L = true := fitB_fits.2 hf
  have HR := hid hR
  have HA := hid hA
  have Hk := hid hk
  have Hf := hid hf
  clear hR hA hk hf
  go_enter Tryz.func24, Tryz.ntmps24
  go_wp2_with (first
    | (go_at_call 52; refine (bsize 3 _).mono ?_; rintro e w1 ⟨rfl, rfl⟩; rw [if_pos (by omega)])
    | (go_at_call 53; refine (fits_any 3 L _ (by omega)).mono ?_; rintro e w1 ⟨rfl, rfl⟩; rw [hfb])
    | (go_at_call 51; refine (clone_any A L c key _ (by omega) HA.out HR.out).mono ?_; rintro e w1 ⟨v, rfl, ho, hB⟩; obtain ⟨A', c', rfl, hc', -⟩ := ho.slice'; have Ho := hid ho; have HB := hid hB; clear ho hB)
    | (go_at_call 54; refine (tof3 _ _ _ _ key _ _ Ho.out).mono ?_; rintro e w2 ⟨rfl, rfl⟩))
  go_ret2
  have hs := HB.out.size
  have hb1 := ((Blk.fresh w1 9 #[.string (strF L key)]).alloc (.cells #[.pointer (some ⟨p.gb, 0, none⟩)] 47)).alloc (.cells #[.int .i64 16, .func (.func 100) #[] #[.pointer (some ⟨w1.heap.size + 1, 0, none⟩), .pointer (some ⟨w1.heap.size, 0, none⟩)]] 93)
  have hb2 := (Blk.fresh (w1.alloc (.cells #[.string (strF L key)] 9)) 47 #[.pointer (some ⟨p.gb, 0, none⟩)]).alloc (.cells #[.int .i64 16, .func (.func 100) #[] #[.pointer (some ⟨w1.heap.size + 1, 0, none⟩), .pointer (some ⟨w1.heap.size, 0, none⟩)]] 93)
  have hb3 := Blk.fresh ((w1.alloc (.cells #[.string (strF L key)] 9)).alloc (.cells #[.pointer (some ⟨p.gb, 0, none⟩)] 47)) 93 #[.int .i64 16, .func (.func 100) #[] #[.pointer (some ⟨w1.heap.size + 1, 0, none⟩), .pointer (some ⟨w1.heap.size, 0, none⟩)]]
  have hsz1 : (w1.alloc (.cells #[.string (strF L key)] 9)).heap.size = w1.heap.size + 1 := by simp
  have hsz : ((w1.alloc (.cells #[.string (strF L key)] 9)).alloc (.cells #[.pointer (some ⟨p.gb, 0, none⟩)] 47)).heap.size = w1.heap.size + 1 + 1 := by simp
  rw [hsz] at hb3
  rw [hsz1] at hb2
  have hkey : 1 ≤ L ∧ L ≤ 32 := by have := Hf.out; unfold fits at this; simpa using this
  have hB2 := ((HB.out.alloc hs (.cells #[.string (strF L key)] 9)).alloc (by simp; omega) (.cells #[.pointer (some ⟨p.gb, 0, none⟩)] 47)).alloc (by simp; omega) (.cells #[.int .i64 16, .func (.func 100) #[] #[.pointer (some ⟨w1.heap.size + 1, 0, none⟩), .pointer (some ⟨w1.heap.size, 0, none⟩)]] 93)
  exact ⟨_, rfl, ⟨Hk.out, .inr (.inr ⟨rfl, hkey, _, _, hb3, hb2, hb1⟩)⟩, by omega, hB2⟩
/-- a cipher of whatever kind, where it may be -/
theorem new_any (k : Nat) (A : Option Addr) (L c : Nat) (key : Nat → Nat) (p : Pl) (w : World) (hL : L ≤ 32) (hA : A = none → L = 0 ∧ c = 0) (hk : ∀ i, i < L → key i < 256) (hR : Reads w w.heap.size A L key) (hf : fits k L) :
    Calls Tryz.prog 24 #[.int .i64 (k : Int), .slice A L c, .pointer (some ⟨p.gb, 0, none⟩)] w fun e w' => ∃ gc, e = .returned (.tuple #[.pointer (some ⟨gc, 0, none⟩), .nilIface]) ∧ CiAt w' p k gc w.heap.size L key ∧ w.heap.size ≤ gc ∧ Below w.heap.size w w' := by
  rcases hf with ⟨rfl, h⟩ | ⟨rfl, h⟩ | ⟨rfl, h⟩
  · exact new1 A L c key p _ w hL hA hk hR (.inl ⟨rfl, h⟩)
  · exact new2 A L c key p _ w hL hA hk hR (.inr (.inl ⟨rfl, h⟩))
  · exact new3 A L c key p w hL hA hk hR (.inr (.inr ⟨rfl, h⟩))
end Go.Proofs.YtaeleohjikheiaaGreatDoor.Bk
