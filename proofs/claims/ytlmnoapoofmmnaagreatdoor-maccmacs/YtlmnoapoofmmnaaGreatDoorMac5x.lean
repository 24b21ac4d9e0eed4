/-
 mac's Cmac of a length that can't be; its answer is the document's.
-/
import Derived.Test.YtlmnoapoofmmnaaGreatDoorMac4
import Derived.Test.YtlmnoapoofmmnaaGreatDoorRefY
namespace Go.Proofs.YtlmnoapoofmmnaaGreatDoor.Mc
open Mem Bk Md R6 Rc Go.ChangeShapes Go.WideShapes Go.ChangeAt Go.RowKit
theorem same_at {k L : Nat} {key : Nat → Nat} {p : Pl} {x s o0 : Nat → Nat} {R : List Rw} {d : Nat} : ∀ j, (runO (stOF k L key p) (sz k) (fun j i => x (j * sz k + i)) ((R, d), s) (List.range j)).map (fun r => (r.1.1.1, r.1.1.2, r.1.2)) = (mAt p k L key false true x ⟨R, d, s, o0⟩ j).map (fun m => (m.R, m.d, m.last))
 | 0 => rfl
 | j + 1 => by
  have ih := same_at (k := k) (L := L) (key := key) (p := p) (x := x) (s := s) (o0 := o0) (R := R) (d := d) j
  rw [List.range_succ, runO_snoc]
  simp only [mAt]
  rcases hr : runO (stOF k L key p) (sz k) (fun j i => x (j * sz k + i)) ((R, d), s) (List.range j) with _ | q
  ·rcases hm : mAt p k L key false true x ⟨R, d, s, o0⟩ j with _ | m
   ·rfl
   rw [hr, hm] at ih
   cases ih
  rcases hm : mAt p k L key false true x ⟨R, d, s, o0⟩ j with _ | m
  ·rw [hr, hm] at ih
   cases ih
  rw [hr, hm] at ih
  obtain ⟨⟨⟨q1, q2⟩, q3⟩, q4, q5⟩ := q
  obtain ⟨m1, m2, m3, m4⟩ := m
  simp only [Option.map_some, Option.some.injEq, Prod.mk.injEq] at ih
  obtain ⟨rfl, rfl, rfl⟩ := ih
  have ha : ask6 k false true x j ⟨q1, q2, q3, m4⟩ = xr (fun i => x (j * sz k + i)) q3 := by
   unfold ask6
   rw [if_pos ⟨rfl, rfl⟩]
   rfl
  show (nextO (stOF k L key p) (sz k) (((q1, q2), q3), q4, q5) (fun i => x (j * sz k + i))).map _ = (mNext p k L key false true x j ⟨q1, q2, q3, m4⟩).map _
  unfold nextO mNext stOF
  rw [ha]
  show Option.map _ (match (match turnC k L key p q1 q2 false (xr (fun i => x (j * sz k + i)) q3) with | (some z, R', d') => (some z, ((R', d'), z)) | (none, R', d') => (none, ((R', d'), q3))).1 with | some y => _ | none => none) = _
  rcases turnC k L key p q1 q2 false (xr (fun i => x (j * sz k + i)) q3) with ⟨_ | z, R', d'⟩ <;> simp
theorem cmO_eq (p : Pl) (k Lk : Nat) (key : Nat → Nat) (L : Nat) (t : Nat → Nat) (R : List Rw) (d : Nat) : cmO p k Lk key L t R d = cmR p k Lk key L t R d := by
 unfold cmO cmR
 rcases turnC k Lk key p R d false zf with ⟨_ | l, R1, d1⟩
 ·rfl
 have h := same_at (k := k) (L := Lk) (key := key) (p := p) (x := mtF (sz k) L t (dbl (sz k) l)) (s := zf) (o0 := fun _ => 0) (R := R1) (d := d1) (mtB (sz k) L)
 have h2 := congrArg (Option.map fun v : List Rw × Nat × (Nat → Nat) => v.2.2) h
 rw [Option.map_map, Option.map_map] at h2
 exact h2
set_option maxRecDepth 100000 in
theorem cmac_arg (w : World) (p : Pl) (k gc base Lk : Nat) (key : Nat → Nat) (A : Option Addr) (L c : Nat) (n : Int) (h : CiAt w p k gc base Lk key) (hn : n < 1 ∨ (sz k : Int) < n) :
  Calls Tryz.prog 20 #[.pointer (some ⟨gc, 0, none⟩), .slice A L c, .int .i64 n] w fun e w' => e = .returned (.tuple #[.slice none 0 0, .iface 56 (.int .i64 1)]) ∧ w' = w := by
 have H := hid h
 clear h
 go_enter Tryz.func20, Tryz.ntmps20
 by_cases h1 : n < 1
 ·go_wp2_with (go_at_call 38; refine (msizeOf_any _ p k gc _ _ _ H.out).mono ?_; rintro e w' ⟨rfl, rfl⟩)
  go_ret2
  exact ⟨rfl, rfl⟩
 have h2 : (sz k : Int) < n := by omega
 go_wp2_with (go_at_call 38; refine (msizeOf_any _ p k gc _ _ _ H.out).mono ?_; rintro e w' ⟨rfl, rfl⟩)
 go_ret2
 exact ⟨rfl, rfl⟩
end Go.Proofs.YtlmnoapoofmmnaaGreatDoor.Mc
