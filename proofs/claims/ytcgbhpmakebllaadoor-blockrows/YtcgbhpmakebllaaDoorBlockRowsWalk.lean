/-
  BlockRows returns true: its walk.
-/
import Derived.Test.YtcgbhpmakebllaaDoorBlockBackWalk
namespace Go.Proofs.YtcgbhpmakebllaaDoor.Law05
open Mem As Bk Go.ChangeShapes Go.WideShapes Go.ChangeAt Go.RowKit
theorem cutAll (ad : Addr) (w : World) : (Instr.sliceAt 36 (.pointer (some ad)) none none none).run Tryd.prog w = .ok (.slice (some ad) 16 16) w := by kernel_rfl
theorem i16s : (Tryd.prog.info? 36).map (·.size) = some 16 := by kernel_rfl
theorem do_at (w : World) (p : Pl) (d : Nat) (R : List Rw) (k gc base L : Nat) (key : Nat → Nat) (ad : Addr) (c : Nat) (bk : Bool) (x : Nat → Nat) (hk16 : sz k = 16) (h : CiAt w p k gc base L key) (hb : BookAt w p d R) (had : ad.block < w.heap.size) (hadS : ad.block ∉ p.S) (hc : ∀ i, i < 16 → w.cell? (ad.add i) = some (.int .u8 ((x i : Nat) : Int))) (hx : ∀ i, i < 16 → x i < 256)
    (o : Option (Nat → Nat)) (R' : List Rw) (d' : Nat) (ht : turnC k L key p R d bk x = (o, R', d')) :
    Calls Tryd.prog 15 #[.pointer (some ⟨gc, 0, none⟩), .slice (some ad) 16 c, .bool bk] w (DoOut p k o R' d' w) := by
  have := do_any w p d R k gc base L key ad c bk x h hb had hadS (by rw [hk16]; exact hc) (by rw [hk16]; exact hx) o R' d' ht
  rwa [hk16] at this
set_option maxRecDepth 100000 in
set_option maxHeartbeats 1000000 in
theorem rows_true (A : Option Addr) (L c : Nat) (key : Nat → Nat) (A2 : Option Addr) (n2 c2 : Nat) (F : Nat → Nat) (A3 : Option Addr) (n3 c3 : Nat) (f : Nat → Nat) (w : World) (hg : Laid w) (hR : Reads w w.heap.size A L key) (hk : ∀ i, i < L → key i < 256) (hR2 : Reads w w.heap.size A2 n2 F) (hF : ∀ i, i < n2 → F i < 256) (hA2 : A2 = none → n2 = 0 ∧ c2 = 0) (hR3 : Reads w w.heap.size A3 (n3 * 16) f) (hf : ∀ i, i < n3 * 16 → f i < 256) :
    Calls Tryd.prog 7 #[.slice A L c, .slice A2 n2 c2, .slice A3 n3 c3] w fun e w' => e = .returned (.bool true) ∧ Below w.heap.size w w' := by
  have Hg := hid hg
  have HR := hid hR
  have HR2 := hid hR2
  have HR3 := hid hR3
  have Hk := hid hk
  have HF := hid hF
  have Hf := hid hf
  have HA2 := hid hA2
  clear hg hR hR2 hR3 hk hF hf hA2
  by_cases hL : L ≤ 100 ∧ n2 ≤ 2000 ∧ n3 ≤ 30
  · obtain ⟨hL1, hL2, hL3⟩ := hL
    have hL1I : (L : Int) ≤ 100 := by omega
    have hL2I : (n2 : Int) ≤ 2000 := by omega
    have hL3I : (n3 : Int) ≤ 30 := by omega
    go_enter Tryd.func7, Tryd.ntmps7
    go_wp2_with fail
    refine (awake_any _ Hg.out).mono ?_
    rintro e w1 ⟨rfl, hB1⟩
    have HB1 := hid hB1
    clear hB1
    go_wp2_with fail
    refine (book_any A2 n2 c2 F _ (by omega) HA2.out HF.out ((HR2.out.below HB1.out).more HB1.out.size)).mono ?_
    rintro e w2 ⟨p, rfl, hp1, hp2, hp3, hbk, hB2⟩
    have Hbk2 := hid hbk
    have hlow : Hid (∀ g ∈ p.S, w.heap.size ≤ g) := hid (fun g hg => by have := hbk.lo.2 g hg; have := HB1.out.size; omega)
    have HB2 := hid (HB1.out.trans (hB2.mono HB1.out.size))
    clear HB1 hB2 hbk
    go_wp2_with fail
    refine (right_any 3 3 rfl (.inr (.inr rfl)) A L c key _ (by omega) ((HR.out.below HB2.out).more HB2.out.size)).mono ?_
    rintro e w3 ⟨v, rfl, ho, hB3⟩
    obtain ⟨Ac, cc, rfl, hcc, hAc, -⟩ := ho.slice'
    have Hbk3 := hid (Hbk2.out.keep hB3)
    have HB3 := hid (HB2.out.trans (hB3.mono HB2.out.size))
    have Ho := hid ho
    clear Hbk2 HB2 hB3 ho
    go_wp2_with fail
    refine (new3 Ac (rn 3) cc (rk L key) p _ (by decide) hAc (fun i _ => rk_lt Hk.out i) Ho.out.reads (rn_fits (.inr (.inr rfl)))).mono ?_
    rintro e w4 ⟨gc, rfl, hci, -, hB4⟩
    have Hbk4 := hid (Hbk3.out.keep hB4)
    have Hci4 := hid hci
    have HB4 := hid (HB3.out.trans (hB4.mono HB3.out.size))
    clear Hbk3 HB3 hB4 hci Ho
    go_wp2_with fail
    refine (right_any 1 1 rfl (.inl rfl) A L c key _ (by omega) ((HR.out.below HB4.out).more HB4.out.size)).mono ?_
    rintro e w5 ⟨v, rfl, ho, hB5⟩
    obtain ⟨Ad, cd, rfl, hcd, hAd, -⟩ := ho.slice'
    have Hbk5 := hid (Hbk4.out.keep hB5)
    have Hci5 := hid (Hci4.out.keep hB5)
    have HB5 := hid (HB4.out.trans (hB5.mono HB4.out.size))
    have Ho := hid ho
    clear Hbk4 Hci4 HB4 hB5 ho
    go_wp2_with fail
    refine (new1 Ad (rn 1) cd (rk L key) p _ _ (by decide) hAd (fun i _ => rk_lt Hk.out i) Ho.out.reads (rn_fits (.inl rfl))).mono ?_
    rintro e w6 ⟨gd, rfl, hcd', -, hB6⟩
    have Hbk6 := hid (Hbk5.out.keep hB6)
    have Hci6 := hid (Hci5.out.keep hB6)
    have Hcd6 := hid hcd'
    have HB6 := hid (HB5.out.trans (hB6.mono HB5.out.size))
    clear Hbk5 Hci5 HB5 hB6 hcd' Ho
    generalize hb3 : w3.heap.size = base3 at *
    generalize hb5 : w5.heap.size = base5 at *
    clear hb3 hb5
    go_wp2_with fail
    go_loopw [13, 14] (fun r y wr => ∃ (i d : Nat) (R : List Rw), i ≤ n3 ∧ y = .int .i64 (i : Int) ∧ r = .int .i64 (R.length : Int) ∧ R.length ≤ i ∧ BookAt wr p d R ∧ CiAt wr p 3 gc base3 (rn 3) (rk L key) ∧ CiAt wr p 1 gd base5 (rn 1) (rk L key) ∧ Below w.heap.size w wr) (fun _ y _ => n3 - (intOf y).toNat)
    case atStart => exact ⟨0, 0, [], by omega, rfl, rfl, Nat.le_refl _, Hbk6.out, Hci6.out, Hcd6.out, HB6.out⟩
    case round =>
      clear Hbk6 Hci6 Hcd6 HB6
      obtain ⟨i, d, R, hi, rfl, rfl, hRi, hbk, hci, hcd2, hBr⟩ := hrel
      have Hbk := hid hbk
      have Hci := hid hci
      have Hcd := hid hcd2
      have HBr := hid hBr
      clear hbk hci hcd2 hBr
      by_cases hlt : i < n3
      · have hltI : (i : Int) < (n3 : Int) := by omega
        obtain ⟨ad, rfl, had, hcs⟩ := HR3.out (by omega)
        have Hcs : Hid (∀ W, Below w.heap.size w W → ∀ j, j < 16 → W.cell? ((ad.add (i * 16)).add j) = some (.int .u8 ((f (i * 16 + j) : Nat) : Int))) := hid (fun W hW j hj => by
          rw [add_add]
          exact (hW.cell (p := ad.add (i * 16 + j)) (by rw [add_block]; exact had)).trans (hcs _ (by omega)))
        have Hby : Hid (∀ j, j < 16 → f (i * 16 + j) < 256) := hid (fun j hj => Hf.out _ (by omega))
        have hadb : Hid ((ad.add (i * 16)).block < w.heap.size) := hid (by rw [add_block]; exact had)
        have hadS : Hid ((ad.add (i * 16)).block ∉ p.S) := hid (fun h => by have := hlow.out _ h; have := hadb.out; omega)
        have hcut := cutAll
        clear hcs had
        go_wp2_with fail
        refine (rows_any p d R _ Hbk.out).mono ?_
        rintro e w' ⟨rfl, rfl⟩
        go_wp2_with (with_reducible refine wpl_sl rfl 44 _ _ rfl ad n3 c3 rfl .i64 _ rfl i rfl 36 Tryd.underlying44 hlt 16 i16s ?_)
        obtain ⟨y1, hy1⟩ : ∃ y1, turnC 1 (rn 1) (rk L key) p R d false (fun j => f (i * 16 + j)) = (some y1, R, d) := ⟨_, turn1⟩
        refine (do_at _ p d R 1 gd _ _ _ (ad.add (i * 16)) 16 false (fun j => f (i * 16 + j)) rfl Hcd.out Hbk.out (Nat.lt_of_lt_of_le hadb.out HBr.out.size) hadS.out (Hcs.out _ HBr.out) Hby.out _ _ _ hy1).mono ?_
        clear hy1
        rintro e w7 ⟨hK7, hbk7, ⟨y', g7, hy, rfl, -⟩ | ⟨j, xf, hy, -⟩⟩
        rotate_left
        · cases hy
        clear hy
        have Hci7 := hid (Hci.out.keepS Hbk.out hK7)
        have Hcd7 := hid (Hcd.out.keepS Hbk.out hK7)
        have Hbk7 := hid hbk7
        have HB7 := hid (HBr.out.trans (hK7.below hlow.out HBr.out.size))
        clear hK7 hbk7 Hci Hcd Hbk HBr
        go_wp2_with fail
        refine (rows_any p d R _ Hbk7.out).mono ?_
        rintro e w' ⟨rfl, rfl⟩
        rcases ht : turnC 3 (rn 3) (rk L key) p R d false (fun j => f (i * 16 + j)) with ⟨o, R', d'⟩
        obtain ⟨-, -, hno, hlen⟩ := turn_inv (rn_fits (.inr (.inr rfl))) (fun i _ => rk_lt Hk.out i) Hbk7.out.inv Hby.out ht
        have Ht := hid ht
        have HN := hid hno
        have HL := hid hlen
        clear ht hno hlen
        go_wp2_with (with_reducible refine wpl_sl rfl 44 _ _ rfl ad n3 c3 rfl .i64 _ rfl i rfl 36 Tryd.underlying44 hlt 16 i16s ?_)
        refine (do_at _ p d R 3 gc _ _ _ (ad.add (i * 16)) 16 false (fun j => f (i * 16 + j)) rfl Hci7.out Hbk7.out (Nat.lt_of_lt_of_le hadb.out HB7.out.size) hadS.out (Hcs.out _ HB7.out) Hby.out _ _ _ Ht.out).mono ?_
        rintro e w8 ⟨hK8, hbk8, ho8⟩
        have Hci3 := hid (Hci7.out.keepS Hbk7.out hK8)
        have Hcd3 := hid (Hcd7.out.keepS Hbk7.out hK8)
        have Hbk3 := hid hbk8
        have HB3 := hid (HB7.out.trans (hK8.below hlow.out HB7.out.size))
        clear hK8 hbk8 Hci7 Hcd7 Hbk7 HB7
        rcases ho8 with ⟨y8, g8, rfl, rfl, -⟩ | ⟨j8, xf8, rfl, rfl, -⟩
        · go_wp2_with fail
          refine (rows_any p d' R' _ Hbk3.out).mono ?_
          rintro e w' ⟨rfl, rfl⟩
          rcases HL.out with hl | hl
          · subst hl
            go_wp2_with fail
            refine (rows_any p d' R' _ Hbk3.out).mono ?_
            rintro e w' ⟨rfl, rfl⟩
            go_wp2_with fail
            go_round
            case rel => exact ⟨i + 1, d', R', by omega, val_int (by omega), rfl, by omega, Hbk3.out, Hci3.out, Hcd3.out, HB3.out⟩
            case measure => simp [intOf]; omega
          · have hlI : (R'.length : Int) = (R.length : Int) + 1 := by omega
            rw [hlI]
            go_wp2_with fail
            refine (rows_any p d' R' _ Hbk3.out).mono ?_
            rintro e w' ⟨rfl, rfl⟩
            rw [hlI]
            go_wp2_with fail
            go_round
            case rel => exact ⟨i + 1, d', R', by omega, val_int (by omega), val_int (by omega), by omega, Hbk3.out, Hci3.out, Hcd3.out, HB3.out⟩
            case measure => simp [intOf]; omega
        · obtain ⟨-, hl⟩ := HN.out rfl
          subst hl
          go_wp2_with fail
          refine (rows_any p d' R' _ Hbk3.out).mono ?_
          rintro e w' ⟨rfl, rfl⟩
          go_wp2_with fail
          go_round
          case rel => exact ⟨i + 1, d', R', by omega, val_int (by omega), rfl, by omega, Hbk3.out, Hci3.out, Hcd3.out, HB3.out⟩
          case measure => simp [intOf]; omega
      · have hltI : ¬ (i : Int) < (n3 : Int) := by omega
        have hle : (R.length : Int) ≤ (n3 : Int) := by omega
        have hin := Hbk.out.inv
        have h16 : 16 * R.length ≤ n2 := by have := hin.rows; have := hin.hd; rw [hp2] at this; omega
        have hq : (R.length : Int) ≤ (n2 : Int) / 16 := by omega
        clear hin
        go_wp2_with fail
        go_ret
        exact ⟨rfl, HBr.out⟩
  · by_cases hL1 : L ≤ 100
    · by_cases hL2 : n2 ≤ 2000
      · have a1 : (L : Int) ≤ 100 := by omega
        have a2 : (n2 : Int) ≤ 2000 := by omega
        have a3 : ¬ (n3 : Int) ≤ 30 := by omega
        go_enter Tryd.func7, Tryd.ntmps7
        go_wp2_with fail
        refine (awake_any _ Hg.out).mono ?_
        rintro e w1 ⟨rfl, hB1⟩
        go_wp2_with fail
        refine (awake_any _ (Hg.out.below hB1)).mono ?_
        rintro e w2 ⟨rfl, hB2⟩
        go_wp2_with fail
        go_ret
        exact ⟨rfl, hB1.trans (hB2.mono hB1.size)⟩
      · have a1 : (L : Int) ≤ 100 := by omega
        have a2 : ¬ (n2 : Int) ≤ 2000 := by omega
        go_enter Tryd.func7, Tryd.ntmps7
        go_wp2_with fail
        refine (awake_any _ Hg.out).mono ?_
        rintro e w1 ⟨rfl, hB1⟩
        go_wp2_with fail
        refine (awake_any _ (Hg.out.below hB1)).mono ?_
        rintro e w2 ⟨rfl, hB2⟩
        go_wp2_with fail
        go_ret
        exact ⟨rfl, hB1.trans (hB2.mono hB1.size)⟩
    · have a1 : ¬ (L : Int) ≤ 100 := by omega
      go_enter Tryd.func7, Tryd.ntmps7
      go_wp2_with fail
      refine (awake_any _ Hg.out).mono ?_
      rintro e w1 ⟨rfl, hB1⟩
      go_wp2_with fail
      refine (awake_any _ (Hg.out.below hB1)).mono ?_
      rintro e w2 ⟨rfl, hB2⟩
      go_wp2_with fail
      go_ret
      exact ⟨rfl, hB1.trans (hB2.mono hB1.size)⟩
end Go.Proofs.YtcgbhpmakebllaaDoor.Law05
