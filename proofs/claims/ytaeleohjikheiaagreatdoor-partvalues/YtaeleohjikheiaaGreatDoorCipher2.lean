/-
  Ciphers: what New, Size and Do return, whatever the kind.
-/
import Derived.Test.YtaeleohjikheiaaGreatDoorCipher
namespace Go.Proofs.YtaeleohjikheiaaGreatDoor.Bk
open Mem Go.ChangeShapes Go.WideShapes Go.ChangeAt Go.RowKit
/-- how many bytes a block has -/
def sz (k : Nat) : Nat := if k = 2 then 8 else 16
def tyOf (k : Nat) : TypeId := if k = 2 then 150 else 65
def fits (k L : Nat) : Prop := (k = 1 ∧ Aes.IsKey L) ∨ (k = 2 ∧ Des.IsTKey L) ∨ (k = 3 ∧ 1 ≤ L ∧ L ≤ 32)
/-- block gc is a cipher of that kind and key -/
def CiAt (w : World) (p : Pl) (k gc base L : Nat) (key : Nat → Nat) : Prop :=
  (∀ i, i < L → key i < 256) ∧ ((k = 1 ∧ Aes.IsKey L ∧ ∃ kb v, Blk w gc 93 #[.int .i64 16, .func (.func 95) #[] #[.pointer (some ⟨kb, 0, none⟩)]] ∧ Blk w kb 22 #[v] ∧ Own w base 5 1 v L key) ∨
  (k = 2 ∧ Des.IsTKey L ∧ ∃ kb v, Blk w gc 93 #[.int .i64 8, .func (.func 98) #[] #[.pointer (some ⟨kb, 0, none⟩)]] ∧ Blk w kb 22 #[v] ∧ Own w base 5 1 v L key) ∨
  (k = 3 ∧ (1 ≤ L ∧ L ≤ 32) ∧ ∃ kbk ks, Blk w gc 93 #[.int .i64 16, .func (.func 100) #[] #[.pointer (some ⟨kbk, 0, none⟩), .pointer (some ⟨ks, 0, none⟩)]] ∧ Blk w kbk 47 #[.pointer (some ⟨p.gb, 0, none⟩)] ∧ Blk w ks 9 #[.string (strF L key)]))
theorem CiAt.keep {w w' : World} {p : Pl} {k gc base L : Nat} {key : Nat → Nat} (h : CiAt w p k gc base L key) (hB : Below w.heap.size w w') : CiAt w' p k gc base L key := by
  obtain ⟨h0, ⟨h1, h2, kb, v, h3, h4, h5⟩ | ⟨h1, h2, kb, v, h3, h4, h5⟩ | ⟨h1, h2, kb, v, h3, h4, h5⟩⟩ := h
  · exact ⟨h0, .inl ⟨h1, h2, kb, v, h3.below hB h3.lt, h4.below hB h4.lt, h5.below hB (Nat.le_refl _)⟩⟩
  · exact ⟨h0, .inr (.inl ⟨h1, h2, kb, v, h3.below hB h3.lt, h4.below hB h4.lt, h5.below hB (Nat.le_refl _)⟩)⟩
  · exact ⟨h0, .inr (.inr ⟨h1, h2, kb, v, h3.below hB h3.lt, h4.below hB h4.lt, h5.below hB h5.lt⟩)⟩
theorem CiAt.keepS {w w' : World} {p q : Pl} {k gc base L : Nat} {key : Nat → Nat} {d : Nat} {R : List Rw} (h : CiAt w p k gc base L key) (hb : BookAt w q d R) (hB : KeptS q.S w w') : CiAt w' p k gc base L key := by
  obtain ⟨h0, ⟨h1, h2, kb, v, h3, h4, h5⟩ | ⟨h1, h2, kb, v, h3, h4, h5⟩ | ⟨h1, h2, kb, v, h3, h4, h5⟩⟩ := h
  · exact ⟨h0, .inl ⟨h1, h2, kb, v, hB.blk h3 (hb.free h3 (by decide)), hB.blk h4 (hb.free h4 (by decide)), hB.own h5 (fun g cs hg => hb.free hg (by decide))⟩⟩
  · exact ⟨h0, .inr (.inl ⟨h1, h2, kb, v, hB.blk h3 (hb.free h3 (by decide)), hB.blk h4 (hb.free h4 (by decide)), hB.own h5 (fun g cs hg => hb.free hg (by decide))⟩)⟩
  · exact ⟨h0, .inr (.inr ⟨h1, h2, kb, v, hB.blk h3 (hb.free h3 (by decide)), hB.blk h4 (hb.free h4 (by decide)), hB.blk h5 (hb.free h5 (by decide))⟩)⟩
theorem CiAt.kind {w : World} {p : Pl} {k gc base L : Nat} {key : Nat → Nat} (h : CiAt w p k gc base L key) : k = 1 ∨ k = 2 ∨ k = 3 := by
  obtain ⟨_, ⟨h1, _⟩ | ⟨h1, _⟩ | ⟨h1, _⟩⟩ := h
  · exact .inl h1
  · exact .inr (.inl h1)
  · exact .inr (.inr h1)
theorem CiAt.size {w : World} {p : Pl} {k gc base L : Nat} {key : Nat → Nat} (h : CiAt w p k gc base L key) : ∃ f, Blk w gc 93 #[.int .i64 (sz k : Int), f] ∧ ∃ fn a b, f = .func fn a b := by
  obtain ⟨_, ⟨rfl, _, _, _, h3, _⟩ | ⟨rfl, _, _, _, h3, _⟩ | ⟨rfl, _, _, _, h3, _⟩⟩ := h
  · exact ⟨_, h3, _, _, _, rfl⟩
  · exact ⟨_, h3, _, _, _, rfl⟩
  · exact ⟨_, h3, _, _, _, rfl⟩
set_option maxRecDepth 100000 in
theorem size_any (w : World) (p : Pl) (k gc base L : Nat) (key : Nat → Nat) (h : CiAt w p k gc base L key) :
    Calls Tryz.prog 65 #[.pointer (some ⟨gc, 0, none⟩)] w fun e w' => e = .returned (.int .i64 (sz k : Int)) ∧ w = w' := by
  obtain ⟨f, hb, -⟩ := h.size
  have hc0 : w.cell? ⟨gc, 0, none⟩ = some (.int .i64 (sz k : Int)) := hb.cell 0
  clear h hb
  go_enter Tryz.func65, Tryz.ntmps65
  go_wp2_with fail
  go_ret
  exact ⟨rfl, rfl⟩
theorem func_nil (fn : Fn) (a b : Array Value) (w : World) : (binOp .eql 90 (.func fn a b) .nilFunc).run Tryz.prog w = .ok (.bool false) w := by kernel_rfl
/-- what is enciphered, or deciphered -/
def turnC (k L : Nat) (key : Nat → Nat) (p : Pl) (R : List Rw) (d : Nat) (bk : Bool) (x : Nat → Nat) : Option (Nat → Nat) × List Rw × Nat :=
  if k = 1 then (some (if bk then Aes.dec (Aes.words L key) (Aes.rnd L) x else Aes.enc (Aes.words L key) (Aes.rnd L) x), R, d)
  else if k = 2 then (some (Des.tdes L key x bk), R, d)
  else askL p.F p.n (strF L key) R d bk x
/-- what Do does -/
def DoOut (p : Pl) (k : Nat) (o : Option (Nat → Nat)) (R' : List Rw) (d' : Nat) (w : World) (e : Ending) (w' : World) : Prop :=
  KeptS p.S w w' ∧ BookAt w' p d' R' ∧ ((∃ y g, o = some y ∧ e = .returned (.tuple #[.slice (some ⟨g, 0, none⟩) (sz k) (sz k), .nilIface]) ∧ Blk w' g (tyOf k) (row (sz k) (b8 y)) ∧ w.heap.size ≤ g) ∨
  (∃ j x, o = none ∧ e = .returned (.tuple #[.slice none 0 0, .iface 81 (.pointer (some ⟨j, 0, none⟩))]) ∧ Blk w' j 84 #[x, .iface 71 (.int .i64 13)] ∧ w.heap.size ≤ j))
theorem aes_turn (bk : Bool) (ad : Addr) (c kb : Nat) (Ak : Option Addr) (Lk ck : Nat) (ky x : Nat → Nat) (w : World) (hL : Aes.IsKey Lk) (hk : ∀ i, i < Lk → ky i < 256) (hx : ∀ i, i < 16 → x i < 256) (hb : Blk w kb 22 #[.slice Ak Lk ck]) (hR : Reads w w.heap.size Ak Lk ky) (had : ad.block < w.heap.size) (hc : ∀ i, i < 16 → w.cell? (ad.add i) = some (.int .u8 ((x i : Nat) : Int))) (y : Nat → Nat) (hy : (if bk then Aes.dec (Aes.words Lk ky) (Aes.rnd Lk) x else Aes.enc (Aes.words Lk ky) (Aes.rnd Lk) x) = y) :
    Calls Tryz.prog 95 #[.slice (some ad) 16 c, .bool bk, .pointer (some ⟨kb, 0, none⟩)] w fun e w' => ∃ g, e = .returned (.tuple #[.slice (some ⟨g, 0, none⟩) 16 16, .nilIface]) ∧ Blk w' g 65 (row 16 (b8 y)) ∧ w.heap.size ≤ g ∧ Below w.heap.size w w' := by
  cases bk
  · exact aes_forth ad c kb Ak Lk ck ky x w hL hk hx hb hR had hc y hy
  · exact aes_back ad c kb Ak Lk ck ky x w hL hk hx hb hR had hc y hy
set_option maxRecDepth 100000 in
set_option maxHeartbeats 1000000 in
theorem do_any (w : World) (p : Pl) (d : Nat) (R : List Rw) (k gc base L : Nat) (key : Nat → Nat) (ad : Addr) (c : Nat) (bk : Bool) (x : Nat → Nat) (h : CiAt w p k gc base L key) (hb : BookAt w p d R) (had : ad.block < w.heap.size) (hadS : ad.block ∉ p.S) (hc : ∀ i, i < sz k → w.cell? (ad.add i) = some (.int .u8 ((x i : Nat) : Int))) (hx : ∀ i, i < sz k → x i < 256)
    (o : Option (Nat → Nat)) (R' : List Rw) (d' : Nat) (ht : turnC k L key p R d bk x = (o, R', d')) :
    Calls Tryz.prog 43 #[.pointer (some ⟨gc, 0, none⟩), .slice (some ad) (sz k) c, .bool bk] w (DoOut p k o R' d' w) := by
  obtain ⟨h0, ⟨rfl, h2, kb, v, h3, h4, h5⟩ | ⟨rfl, h2, kb, v, h3, h4, h5⟩ | ⟨rfl, h2, kb, v, h3, h4, h5⟩⟩ := h
  · have hc0 : w.cell? ⟨gc, 0, none⟩ = some (.int .i64 16) := h3.cell 0
    have hc1 : w.cell? ⟨gc, 1, none⟩ = some (.func (.func 95) #[] #[.pointer (some ⟨kb, 0, none⟩)]) := h3.cell 1
    obtain ⟨A, ck, rfl, hck, -, -⟩ := h5.slice'
    simp only [turnC, if_true, Prod.mk.injEq] at ht
    obtain ⟨ho, rfl, rfl⟩ := ht
    generalize hy : (if bk then Aes.dec (Aes.words L key) (Aes.rnd L) x else Aes.enc (Aes.words L key) (Aes.rnd L) x) = y at ho
    have HT := hid (aes_turn bk ad c kb A L ck key x w h2 h0 hx h4 h5.reads had hc y hy)
    have HB := hid hb
    clear h0 h2 h3 h4 h5 hb hc hx hy
    have hfn := func_nil
    change Calls Tryz.prog 43 #[.pointer (some ⟨gc, 0, none⟩), .slice (some ad) 16 c, .bool bk] w _
    go_enter Tryz.func43, Tryz.ntmps43
    go_wp2_with fail
    refine HT.out.mono ?_
    rintro e w1 ⟨g, rfl, hbg, hgs, hB⟩
    go_wp2_with fail
    go_ret2
    exact ⟨KeptS.of _ hB, HB.out.keep hB, .inl ⟨y, g, ho.symm, rfl, hbg, hgs⟩⟩
  · have hc0 : w.cell? ⟨gc, 0, none⟩ = some (.int .i64 8) := h3.cell 0
    have hc1 : w.cell? ⟨gc, 1, none⟩ = some (.func (.func 98) #[] #[.pointer (some ⟨kb, 0, none⟩)]) := h3.cell 1
    obtain ⟨A, ck, rfl, hck, -, -⟩ := h5.slice'
    simp only [turnC, show ¬ (2 : Nat) = 1 by omega, if_true, if_false, Prod.mk.injEq] at ht
    obtain ⟨ho, rfl, rfl⟩ := ht
    generalize hy : Des.tdes L key x bk = y at ho
    have HT := hid (tdes_turn bk ad c kb A L ck key x w h2 hck h0 hx h4 h5.reads had hc y hy)
    have HB := hid hb
    clear h0 h2 h3 h4 h5 hb hc hx hy
    have hfn := func_nil
    change Calls Tryz.prog 43 #[.pointer (some ⟨gc, 0, none⟩), .slice (some ad) 8 c, .bool bk] w _
    go_enter Tryz.func43, Tryz.ntmps43
    go_wp2_with fail
    refine HT.out.mono ?_
    rintro e w1 ⟨g, rfl, hbg, hgs, hB⟩
    go_wp2_with fail
    go_ret2
    exact ⟨KeptS.of _ hB, HB.out.keep hB, .inl ⟨y, g, ho.symm, rfl, hbg, hgs⟩⟩
  · have hc0 : w.cell? ⟨gc, 0, none⟩ = some (.int .i64 16) := h3.cell 0
    have hc1 : w.cell? ⟨gc, 1, none⟩ = some (.func (.func 100) #[] #[.pointer (some ⟨kb, 0, none⟩), .pointer (some ⟨v, 0, none⟩)]) := h3.cell 1
    simp only [turnC, show ¬ (3 : Nat) = 1 by omega, show ¬ (3 : Nat) = 2 by omega, if_false] at ht
    have hsz : (strF L key).size ≤ 32 := by rw [strF_size]; exact h2.2
    rcases o with _ | y
    · have HT := hid (book_end bk ad c kb v p d R (strF L key) x w hsz hx hb h4 h5 had hadS hc R' d' ht)
      clear h0 h2 h3 h4 h5 hb hc hx ht
      have hfn := func_nil
      change Calls Tryz.prog 43 #[.pointer (some ⟨gc, 0, none⟩), .slice (some ad) 16 c, .bool bk] w _
      go_enter Tryz.func43, Tryz.ntmps43
      go_wp2_with fail
      refine HT.out.mono ?_
      rintro e w1 ⟨j, xf, rfl, hF, hjs, hK, hB⟩
      go_wp2_with fail
      go_ret2
      exact ⟨hK, hB, .inr ⟨j, xf, rfl, rfl, hF, hjs⟩⟩
    · have HT := hid (book_ok bk ad c kb v p d R (strF L key) x w hsz hx hb h4 h5 had hadS hc y R' d' ht)
      clear h0 h2 h3 h4 h5 hb hc hx ht
      have hfn := func_nil
      change Calls Tryz.prog 43 #[.pointer (some ⟨gc, 0, none⟩), .slice (some ad) 16 c, .bool bk] w _
      go_enter Tryz.func43, Tryz.ntmps43
      go_wp2_with fail
      refine HT.out.mono ?_
      rintro e w1 ⟨g, rfl, hbg, hgs, hK, hB⟩
      go_wp2_with fail
      go_ret2
      exact ⟨hK, hB, .inl ⟨y, g, rfl, rfl, hbg, hgs⟩⟩
set_option maxRecDepth 100000 in
set_option maxHeartbeats 1000000 in
theorem do_len (w : World) (p : Pl) (k gc base L : Nat) (key : Nat → Nat) (A : Option Addr) (n c : Nat) (bk : Bool) (h : CiAt w p k gc base L key) (hn : n ≠ sz k) :
    Calls Tryz.prog 43 #[.pointer (some ⟨gc, 0, none⟩), .slice A n c, .bool bk] w fun e w' => e = .returned (.tuple #[.slice none 0 0, .iface 71 (.int .i64 2)]) ∧ w = w' := by
  obtain ⟨f, hb, fn, a, b, rfl⟩ := h.size
  have hc0 : w.cell? ⟨gc, 0, none⟩ = some (.int .i64 (sz k : Int)) := hb.cell 0
  have hc1 : w.cell? ⟨gc, 1, none⟩ = some (.func fn a b) := hb.cell 1
  have hnI : (n : Int) ≠ (sz k : Int) := by omega
  have hfn := func_nil
  clear h hb hn
  go_enter Tryz.func43, Tryz.ntmps43
  go_wp2_with fail
  go_ret2
  exact ⟨rfl, rfl⟩
end Go.Proofs.YtaeleohjikheiaaGreatDoor.Bk
