/-
  Part 4 of the texts that the seat's proofs stand on; each part of it begins with its own sentence and conditions. Conditions: those that each theorem names.
-/
import Derived.Test.YtjifionpblpfoaaMakesPack3
import Derived.Defers
import Derived.Recover
import Derived.Laws.Pointers
import Derived.ProofKit
import Derived.OpenShut
import Derived.Deep.Slices
import Derived.Deep.SlicePairs
import Derived.ChangeSame
import Derived.Lib.SmallJoins
import Derived.SizedLaws

/-
  What number of layer 8's decoding does. Conditions: no more than 2^16 bytes are left.
-/
namespace Go.Proofs.Ytjifionpblpfoaa
open Go.RowKit
open Pol (co Sm)

set_option maxRecDepth 100000 in
theorem andNot_128 : ∀ b : Nat, b < 256 → bits .andNot .u8 (b : Int) 128 = ((b % 128 : Nat) : Int) := by decide
theorem or_128 (a c k : Nat) (h : a < 128 ^ k) : a ||| c * 2 ^ (7 * k) = a + c * 128 ^ k := by
  rw [show (128 : Nat) ^ k = 2 ^ (7 * k) from by rw [Nat.pow_mul]] at *
  rw [Nat.or_comm, Nat.mul_comm, ← Nat.two_pow_add_eq_or_of_lt h, Nat.add_comm, Nat.mul_comm]
/-- One byte more. -/
theorem num_step {i acc b : Nat} (ha : acc < 128 ^ i) (hi : i ≤ 9) (hb : i = 9 → b ≤ 1) : acc + b % 128 * 128 ^ i < 128 ^ (i + 1) ∧ acc + b % 128 * 128 ^ i < 18446744073709551616 ∧ b % 128 * 128 ^ i < 18446744073709551616 := by
  have h1 : b % 128 ≤ 127 := by omega
  have h2 : b % 128 * 128 ^ i ≤ 127 * 128 ^ i := Nat.mul_le_mul_right _ h1
  have h3 : 128 ^ (i + 1) = 128 * 128 ^ i := by rw [Nat.pow_succ, Nat.mul_comm]
  refine ⟨by omega, ?_, ?_⟩
  all_goals
    rcases Nat.lt_or_ge i 9 with h9 | h9
    · have h4 : 128 ^ (i + 1) ≤ 128 ^ 9 := Nat.pow_le_pow_right (by omega) h9
      have h5 : (128 : Nat) ^ 9 = 9223372036854775808 := by decide
      omega
    · obtain rfl : i = 9 := by omega
      have h5 : (128 : Nat) ^ 9 = 9223372036854775808 := by decide
      rw [h5] at *
      have := hb rfl
      omega
theorem rv_drop (m i acc : Nat) (l : List Nat) (h : i < l.length) : rv m i acc (l.drop i) =
    if i = 9 ∧ 1 < co l i ∨ 0 < i ∧ co l i = 0 then .er 14 else if co l i < 128 then (if m < acc + co l i % 128 * 128 ^ i then .er 10 else .ok (acc + co l i % 128 * 128 ^ i) (l.drop (i + 1))) else rv m (i + 1) (acc + co l i % 128 * 128 ^ i) (l.drop (i + 1)) := by
  rw [List.drop_eq_getElem_cons h, rv, show co l i = l[i] from by simp [co, List.getElem?_eq_getElem h]]

set_option maxHeartbeats 3200000 in
set_option maxRecDepth 100000 in
theorem cd_number (rb db lo hi m : Nat) (l : List Nat) (w : World) (hd : Dc lo hi db rb w l) (hl : l.length ≤ 65536) :
    Calls Try.prog 46 #[.pointer (some ⟨db, 0, none⟩), .int .u64 (m : Int)] w (DReads lo hi db rb (fun v _ (n : Nat) => v = .int .u64 (n : Int)) (rdN m l) w) := by
  have HF := Lib.hid (fun n => cd_fail rb db lo hi n l w hd)
  obtain ⟨A, c, h3, hr, hlc, hAb⟩ := hd
  obtain ⟨L, hL⟩ : ∃ L, l.length = L := ⟨_, rfl⟩
  have HDC := Lib.hid (fun (X : Option Addr) (c' n : Nat) (hX : ∀ w M, Rd w A M → M.length = L → Rd w X (M.drop n)) (hXA : ∀ w M b o, Rd w A M → M.length = L → 0 < L - n → X = some ⟨b, o, none⟩ → ∃ o', A = some ⟨b, o', none⟩) (hc : L - n ≤ c') =>
    show Dc lo hi db rb (w.setCell ⟨db, 1, none⟩ (.slice X (L - n) c')) (l.drop n) from by subst hL; exact Dc.cut h3 hr hAb hX hXA hc)
  rw [hL] at h3 hlc hl
  have HL := Lib.hid hL
  have c1 : w.cell? ⟨db, 1, none⟩ = some (.slice A L c) := by rw [cell_of_row w _ 1 _ _ _ h3]; rfl
  have z1 : w.frozen? ⟨db, 1, none⟩ = false := frozen_of_row w _ 1 _ _ h3
  have HR := Lib.hid hr
  obtain ⟨T, hT⟩ : ∃ T, rdN m l = T := ⟨_, rfl⟩
  have HT0 := Lib.hid (show rv m 0 0 (l.drop 0) = T from hT)
  rw [hT]
  clear hL h3 hr hAb hT
  go_enter Try.func46, Try.ntmps46
  go_wp2
  go_loopg [5, 13] L (fun g v s wx => ∃ i acc : Nat, i + g = L ∧ i ≤ 9 + 0 * g ∧ s = .int .i64 (i : Int) ∧ v = .int .u64 (acc : Int) ∧ acc < 128 ^ i ∧ rv m i acc (l.drop i) = T ∧ w = wx)
  case atStart => exact ⟨0, 0, by omega, by omega, rfl, rfl, by decide, HT0.out, rfl⟩
  case round =>
    obtain ⟨i, acc, hig, hi9, rfl, rfl, hac, hrv, rfl⟩ := hrel
    cases gk with
    | zero =>
      obtain rfl : i = L := by omega
      have hrt : Rs.er 2 = T := by
        rw [← hrv, List.drop_eq_nil_of_le (by rw [HL.out]; omega), rv]
      subst hrt
      clear hrv hig
      go_wp2_with fail
      refine (HF.out 2).mono ?_
      rintro e w1 ⟨rfl, ho, hfl⟩
      have HO := Lib.hid ho
      have HFL := Lib.hid hfl
      clear ho hfl
      go_wp2
      exact ⟨rfl, HO.out, rfl, HFL.out⟩
    | succ g =>
      have hi : i < L := by omega
      have hil : i < l.length := by rw [HL.out]; exact hi
      have hiI : (i : Int) < (L : Int) := by omega
      obtain ⟨bk, o, rfl, hcb⟩ := HR.out.2 i hil
      have hb256 : co l i < 256 := HR.out.1 i
      rw [rv_drop m i acc l hil] at hrv
      obtain ⟨b, hb⟩ : ∃ b, co l i = b := ⟨_, rfl⟩
      rw [hb] at hrv hb256 hcb
      have HIG := Lib.hid hig
      clear hil hb hig
      by_cases hk1 : i = 9 ∧ 1 < b
      · have d1 : ((i : Int) == 9) = true := by simp; omega
        have d2 : decide (1 < (b : Int)) = true := decide_eq_true (by omega)
        rw [if_pos (.inl hk1)] at hrv
        subst hrv
        clear hk1 hac
        go_wp2_with fail
        refine (HF.out 14).mono ?_
        rintro e w1 ⟨rfl, ho, hfl⟩
        have HO := Lib.hid ho
        have HFL := Lib.hid hfl
        clear ho hfl
        go_wp2
        exact ⟨rfl, HO.out, rfl, HFL.out⟩
      · have hst := num_step hac (b := b) (by omega) (by omega)
        obtain ⟨q, hq⟩ : ∃ q, b % 128 = q := ⟨_, rfl⟩
        have ean : bits .andNot .u8 (b : Int) 128 = (q : Int) := by rw [andNot_128 b hb256, hq]
        have hq128 : q < 128 := by omega
        have hor := or_128 acc q i hac
        rw [hq] at hst hrv
        obtain ⟨t, ht⟩ : ∃ t, q * 128 ^ i = t := ⟨_, rfl⟩
        obtain ⟨X, hX⟩ : ∃ X, acc + t = X := ⟨_, rfl⟩
        rw [ht] at hst hrv hor
        rw [hX] at hst hrv hor
        have hac64 : acc < 18446744073709551616 := by omega
        have esh : IntKind.u64.wrap ((q : Int) * 2 ^ (7 * i)) = (t : Int) := by
          rw [show (2 : Int) ^ (7 * i) = ((128 ^ i : Nat) : Int) from by rw [Int.natCast_pow, Int.pow_mul]; rfl, ← Int.natCast_mul, ht]
          exact IntWalk.u64_in _ (by omega)
        have eor : bits .or .u64 (acc : Int) (t : Int) = (X : Int) := by
          rw [u64_or_nat _ _ hac64 hst.2.2]
          rw [show q * 2 ^ (7 * i) = t from by rw [← ht, Nat.pow_mul]] at hor
          rw [hor]
        have hX64 : X < 18446744073709551616 := hst.2.1
        have HXB := Lib.hid hst.1
        clear hor hst ht hX hac hq
        have hcase : (((i : Int) == 9) = false) ∨ (((i : Int) == 9) = true ∧ decide (1 < (b : Int)) = false) := by
          by_cases h9 : i = 9
          · exact .inr ⟨by simp; omega, decide_eq_false (by omega)⟩
          · exact .inl (by simp; omega)
        have hi9' : b < 128 ∨ i + 1 ≤ 9 + 0 * g := by omega
        by_cases h128 : b < 128
        · have d3 : decide (128 ≤ (b : Int)) = false := decide_eq_false (by omega)
          clear hi9'
          by_cases hz : 0 < i ∧ b = 0
          · rw [if_pos (.inr hz)] at hrv
            subst hrv
            obtain ⟨hz1, rfl⟩ := hz
            have d4 : decide (0 < i) = true := decide_eq_true hz1
            rcases hcase with d1 | ⟨d1, d2⟩
            all_goals
              clear hk1
              go_wp2_with fail
              refine (HF.out 14).mono ?_
              rintro e w1 ⟨rfl, ho, hfl⟩
              have HO := Lib.hid ho
              have HFL := Lib.hid hfl
              clear ho hfl
              go_wp2
              exact ⟨rfl, HO.out, rfl, HFL.out⟩
          · rw [if_neg (by omega), if_pos h128] at hrv
            have hcz : (((b : Int) == 0) = false) ∨ (((b : Int) == 0) = true ∧ decide (0 < i) = false) := by
              by_cases h9 : b = 0
              · exact .inr ⟨by simp; omega, decide_eq_false (by omega)⟩
              · exact .inl (by simp; omega)
            clear hz
            by_cases hmX : m < X
            · rw [if_pos hmX] at hrv
              subst hrv
              have d5 : decide ((m : Int) < (X : Int)) = true := decide_eq_true (by omega)
              rcases hcase with d1 | ⟨d1, d2⟩
              all_goals
                rcases hcz with d4 | ⟨d4, d6⟩
              all_goals
                clear hk1
                go_wp2_with fail
                refine (HF.out 10).mono ?_
                rintro e w1 ⟨rfl, ho, hfl⟩
                have HO := Lib.hid ho
                have HFL := Lib.hid hfl
                clear ho hfl
                go_wp2
                exact ⟨rfl, HO.out, rfl, HFL.out⟩
            · obtain ⟨k, hk⟩ : ∃ k, i + 1 = k := ⟨_, rfl⟩
              rw [if_neg hmX, hk] at hrv
              subst hrv
              have d5 : decide ((m : Int) < (X : Int)) = false := decide_eq_false (by omega)
              obtain ⟨Z, s2, hZ, hZA⟩ := run_rest_k .i64 (some ⟨bk, o, none⟩) L c k (by omega) hlc
              have HD := Lib.hid (HDC.out Z (c - k) k hZ hZA (by omega))
              have ek' : (i : Int) + 1 = (k : Int) := by omega
              clear hZ hZA hk HDC
              rcases hcase with d1 | ⟨d1, d2⟩
              all_goals
                rcases hcz with d4 | ⟨d4, d6⟩
              all_goals
                clear hk1
                go_wp2
                go_ret
                exact ⟨Only.put _ _ _ _, _, rfl, rfl, HD.out⟩
        · have d3 : decide (128 ≤ (b : Int)) = true := decide_eq_true (by omega)
          rw [if_neg (by omega), if_neg h128] at hrv
          have hi2 : i + 1 ≤ 9 + 0 * g := by omega
          rcases hcase with d1 | ⟨d1, d2⟩
          all_goals
            clear hk1
            go_wp2
            go_roundg g
            case measure => omega
            case rel => exact ⟨i + 1, X, by have := HIG.out; omega, hi2, by go_num, rfl, HXB.out, hrv, rfl⟩
end Go.Proofs.Ytjifionpblpfoaa

/-
  What the reader's Number of layer 8 does. Conditions: none beyond what a reader is.
-/
namespace Go.Proofs.Ytjifionpblpfoaa
open Go.RowKit
open Pol (co Sm)

/-- A call at the decoding is a call at the reader. -/
theorem DReads.reads {α : Type} {lo hi db rb : Nat} {B : Option Addr} {V : Value → World → α → Prop} {r : Rs α} {w w' : World} {e : Ending} (h : DReads lo hi db rb V r w e w')
    (h2 : Btw lo hi rb) (h3 : Btw lo hi db) (h4 : rb ≠ db) (h5 : hi ≤ w.heap.size) (h6 : Rp rb db w ∧ Fr lo hi rb db w) (hok : ∀ a rest, r = .ok a rest → rest.length ≤ 65536) (her : ∀ n, r = .er n → 0 < n) :
    Reads rdr lo hi B ⟨rb, 0, none⟩ V r w e w' := by
  obtain ⟨ho, h⟩ := h
  refine ⟨ho.mono fun k _ hk => by subst hk; exact h3, ?_⟩
  have h5' : hi ≤ w'.heap.size := Nat.le_trans h5 ho.size
  have h6' : Rp rb db w' := (ho.block rb (Nat.lt_of_lt_of_le h2.2 h5) (fun e => h4 e)).trans h6.1
  have h6f : Fr lo hi rb db w' := h6.2.keep fun k hk hne => ho.block k (Nat.lt_of_lt_of_le hk.2 h5) hne
  cases r with
  | ok a rest =>
    obtain ⟨v, he, hv, hd⟩ := h
    exact ⟨v, he, hv, rb, db, rfl, h2, h3, h4, h5', ⟨h6', h6f⟩, hd, hok a rest rfl⟩
  | er n => exact ⟨_, h.1, rb, db, rfl, h2, h3, h4, h5', h6f, h.2, rfl, her n rfl⟩
theorem Dc.sm {lo hi db rb : Nat} {w : World} {l : List Nat} (h : Dc lo hi db rb w l) : Sm l := by
  obtain ⟨_, _, _, h, _⟩ := h
  exact h.1
theorem rdN_len {m n : Nat} {l rest : List Nat} (hs : Sm l) (h : rdN m l = .ok n rest) : rest.length ≤ l.length := by
  rw [(vn_rdN hs h).1, List.length_append]
  omega

set_option maxHeartbeats 1600000 in
theorem cd_Number (lo hi : Nat) (B : Option Addr) (ρ : Addr) (w : World) (l : List Nat) (m : Nat) (h : rdr.RI lo hi B ρ w l) :
    Calls Try.prog 36 #[.pointer (some ρ), .int .u64 (m : Int)] w (Reads rdr lo hi B ρ (fun v _ (n : Nat) => v = .int .u64 (n : Int)) (rdN m l) w) := by
  obtain ⟨rb, db, rfl, h2, h3, h4, h5, h6, h7, h8⟩ := h
  have HR := Lib.hid (cd_running rb db lo hi l w h6.1 h7)
  have HN := Lib.hid ((cd_number rb db lo hi m l w h7 h8).mono fun e w' h => h.reads (B := B) h2 h3 h4 h5 h6 (fun a rest e => Nat.le_trans (rdN_len h7.sm e) h8) (fun n e => (rdN_er e).1))
  clear h2 h3 h4 h5 h6 h7 h8
  generalize rdN m l = r at *
  go_enter Try.func36, Try.ntmps36
  go_wp2_with fail
  refine HR.out.mono ?_
  rintro e w1 ⟨rfl, rfl⟩
  go_wp2_with fail
  refine HN.out.mono ?_
  rintro e w1 ⟨ho, h⟩
  cases r with
  | ok a rest =>
    obtain ⟨v, rfl, rfl, hi1⟩ := h
    have HO := Lib.hid ho
    have HI := Lib.hid hi1
    clear ho hi1
    go_wp2
    go_ret
    exact ⟨HO.out, _, rfl, rfl, HI.out⟩
  | er n =>
    obtain ⟨ch, rfl, hst⟩ := h
    exact ⟨rfl, ho, ch, rfl, hst⟩

end Go.Proofs.Ytjifionpblpfoaa

/-
  What Text of layer 8's reader does. Conditions: none beyond what a reader is.
-/
namespace Go.Proofs.Ytjifionpblpfoaa
open Go.RowKit
open Pol (co Sm)

theorem rdT_ok {m n : Nat} {l r1 : List Nat} (h : rdN m l = .ok n r1) : rdT m l = rdB n r1 := by unfold rdT; rw [h]; rfl
theorem rdT_er' {m n : Nat} {l : List Nat} (h : rdN m l = .er n) : rdT m l = .er n := by unfold rdT; rw [h]; rfl
theorem Dc.ext {lo hi db rb : Nat} {w w' : World} {l : List Nat} (h : Dc lo hi db rb w l) (h3 : Btw lo hi db) (h5 : hi ≤ w.heap.size) (hx : Ext w w') : Dc lo hi db rb w' l :=
  h.keep (hx.below.block _ (Nat.lt_of_lt_of_le h3.2 h5)) (fun _ hk => hx.below.block _ (Nat.lt_of_lt_of_le hk.2 h5))
theorem rdB_len {n : Nat} {l t rest : List Nat} (h : rdB n l = .ok t rest) : rest.length ≤ l.length := by
  rw [(rdB_ok h).1, List.length_append]
  omega
theorem OwnB.of_mine {w : World} {base : Nat} {v : Value} {t : List Nat} (h : Mine w base v t) (hs : Sm t) : OwnB base v w t := by
  obtain ⟨B, c, rfl, hc, hr⟩ := h.slice hs
  exact ⟨B, c, rfl, hc, hr, fun b o e _ => (h.block b (by rw [e]; rfl)).1⟩

/-- Bytes that a call has laid into a block of its own. -/
def MineB (base : Nat) (v : Value) (w : World) (t : List Nat) : Prop := Mine w base v t ∧ Sm t
theorem Reads.imp {α : Type} {I : Rdr} {lo hi : Nat} {B : Option Addr} {ρ : Addr} {V V' : Value → World → α → Prop} {r : Rs α} {w : World} {e : Ending} {w' : World} (h : Reads I lo hi B ρ V r w e w') (hv : ∀ v u a, V v u a → V' v u a) : Reads I lo hi B ρ V' r w e w' := by
  obtain ⟨h1, h2⟩ := h
  refine ⟨h1, ?_⟩
  cases r with
  | ok a rest =>
    obtain ⟨v, h3, h4, h5⟩ := h2
    exact ⟨v, h3, hv _ _ _ h4, h5⟩
  | er n => exact h2
set_option maxHeartbeats 1600000 in
theorem cd_TextM (lo hi : Nat) (B : Option Addr) (ρ : Addr) (w : World) (l : List Nat) (m : Nat) (h : rdr.RI lo hi B ρ w l) (hm : m < 9223372036854775808) :
    Calls Try.prog 37 #[.pointer (some ρ), .int .i64 (m : Int)] w (Reads rdr lo hi B ρ (MineB w.heap.size) (rdT m l) w) := by
  obtain ⟨rb, db, rfl, h2, h3, h4, h5, h6, h7, h8⟩ := h
  have HR := Lib.hid (cd_running rb db lo hi l w h6.1 h7)
  have HL := Lib.hid (cd_limit m w hm)
  have HN := Lib.hid (cd_number rb db lo hi m l w h7 h8)
  have HRD := Lib.hid (fun (w' : World) (e : Ending) (h : DReads lo hi db rb (MineB w.heap.size) (rdT m l) w e w') => h.reads (B := B) h2 h3 h4 h5 h6
    (fun a rest e => Nat.le_trans (by have := (vt_rdT h7.sm e).1; rw [this, List.length_append]; omega) h8) (fun n e => (rdT_er e).1))
  have HS := Lib.hid h7.sm
  have H3 := Lib.hid h3
  have H5 := Lib.hid h5
  have H8 := Lib.hid h8
  clear h2 h4 h6 h7 h3 h5 h8
  go_enter Try.func37, Try.ntmps37
  go_wp2_with fail
  refine HR.out.mono ?_
  rintro e w1 ⟨rfl, rfl⟩
  go_wp2_with fail
  refine HL.out.mono ?_
  rintro e w1 ⟨rfl, rfl⟩
  go_wp2_with fail
  refine HN.out.mono ?_
  rintro e w1 ⟨ho, h⟩
  cases hr : rdN m l with
  | er n =>
    rw [hr] at h
    obtain ⟨rfl, hf⟩ := h
    exact ⟨rfl, HRD.out _ _ (by rw [rdT_er' hr]; exact ⟨ho, rfl, hf⟩)⟩
  | ok n r1 =>
    rw [hr] at h
    obtain ⟨v, rfl, rfl, hd1⟩ := h
    have e1 := rdT_ok hr
    have hl1 := Nat.le_trans (rdN_len HS.out hr) H8.out
    have h51 := Nat.le_trans H5.out ho.size
    have E1 := Lib.hid e1
    have HT := Lib.hid (cd_take rb db lo hi n r1 w1 hd1 hl1)
    have HO := Lib.hid ho
    have HD := Lib.hid hd1
    have HL1 := Lib.hid hl1
    have H51 := Lib.hid h51
    clear ho hd1 hl1 h51 e1 HN HL HR hr
    go_wp2_with fail
    refine HT.out.mono ?_
    rintro e w2 ⟨ho2, h⟩
    cases hr2 : rdB n r1 with
    | er k =>
      rw [hr2] at h
      obtain ⟨rfl, hf⟩ := h
      exact ⟨rfl, HRD.out _ _ (by rw [E1.out, hr2]; exact ⟨HO.out.trans ho2, rfl, hf⟩)⟩
    | ok t rest =>
      rw [hr2] at h
      have E2 := Lib.hid (E1.out.trans hr2)
      obtain ⟨v, rfl, ⟨A, c, rfl, hrt, htc⟩, hd2⟩ := h
      have htl : t.length ≤ 65536 := by
        have := (rdB_ok hr2).1
        have h := HL1.out
        rw [this, List.length_append] at h
        omega
      have h52 := Nat.le_trans H51.out ho2.size
      have hsz := Nat.le_trans HO.out.size ho2.size
      have HRT := Lib.hid hrt
      have HD2 := Lib.hid hd2
      have HO2 := Lib.hid (HO.out.trans ho2)
      have H52 := Lib.hid h52
      have HSZ := Lib.hid hsz
      clear hrt hd2 ho2 h52 hr2 HT HD HO hsz
      obtain ⟨T, hT⟩ : ∃ T, t.length = T := ⟨_, rfl⟩
      have HTE := Lib.hid hT
      rw [hT] at htc htl ⊢
      clear hT
      go_wp2_with (at_builtin; refine wpList_append_rd rfl (.const (.slice none 0 0)) (.tmp 17) rfl w.heap.size (.slice none 0 0) [] t rfl (Mine.nil _ _) A T c rfl HTE.out HRT.out (by have := HTE.out; simp; omega) HSZ.out ?_; intro v' w3 hown' hg' hat'; have hx3 := (Ext.refl w2).more hg' (fun r e => by simp [Value.ownBlock] at e); have HM := Lib.hid (show MineB w.heap.size v' w3 t from ⟨hown', HRT.out.1⟩); have HX3 := Lib.hid hx3; clear hown' hg' hat' hx3)
      go_ret
      exact HRD.out _ _ (by rw [E2.out]; exact ⟨HO2.out.trans (Only.of_ext HX3.out), _, rfl, HM.out, HD2.out.ext H3.out H52.out HX3.out⟩)
theorem cd_Text (lo hi : Nat) (B : Option Addr) (ρ : Addr) (w : World) (l : List Nat) (m : Nat) (h : rdr.RI lo hi B ρ w l) (hm : m < 9223372036854775808) :
    Calls Try.prog 37 #[.pointer (some ρ), .int .i64 (m : Int)] w (Reads rdr lo hi B ρ (OwnB w.heap.size) (rdT m l) w) :=
  (cd_TextM lo hi B ρ w l m h hm).mono fun _ _ h => h.imp fun _ _ _ h => OwnB.of_mine h.1 h.2
end Go.Proofs.Ytjifionpblpfoaa

/-
  What the reader's Count of layer 8 does. Conditions: none beyond what a reader is.
-/
namespace Go.Proofs.Ytjifionpblpfoaa
open Go.RowKit
open Pol (co Sm)

set_option maxHeartbeats 1600000 in
theorem cd_Count (lo hi : Nat) (B : Option Addr) (ρ : Addr) (w : World) (l : List Nat) (m : Nat) (h : rdr.RI lo hi B ρ w l) (hm : m < 9223372036854775808) :
    Calls Try.prog 35 #[.pointer (some ρ), .int .i64 (m : Int)] w (Reads rdr lo hi B ρ (fun v _ (n : Nat) => v = .int .i64 (n : Int)) (rdN m l) w) := by
  have hle : ∀ n rest, rdN m l = .ok n rest → n ≤ m := fun n rest e => by
    obtain ⟨rb, db, _, _, _, _, _, _, h7, _⟩ := h
    exact (vn_rdN h7.sm e).2.2
  have HL := Lib.hid (cd_limit m w hm)
  have HN := Lib.hid (cd_Number lo hi B ρ w l m h)
  clear h
  generalize rdN m l = r at *
  go_enter Try.func35, Try.ntmps35
  go_wp2_with fail
  refine HL.out.mono ?_
  rintro e w1 ⟨rfl, rfl⟩
  go_wp2_with fail
  refine HN.out.mono ?_
  rintro e w1 ⟨ho, h⟩
  cases r with
  | ok a rest =>
    obtain ⟨v, rfl, rfl, hi1⟩ := h
    have HO := Lib.hid ho
    have HI := Lib.hid hi1
    have ha := hle a rest rfl
    have e1 : IntKind.i64.wrap (a : Int) = (a : Int) := by rw [IntKind.wrap_i64]; omega
    clear ho hi1
    go_wp2
    go_ret
    exact ⟨HO.out, _, rfl, rfl, HI.out⟩
  | er n =>
    obtain ⟨ch, rfl, hst⟩ := h
    exact ⟨rfl, ho, ch, rfl, hst⟩

end Go.Proofs.Ytjifionpblpfoaa

/-
  What the deferred function of layer 8's Read does: where the decoding has ended by an error it recovers and tells it; else it lets everything be. Conditions: none.
-/
namespace Go.Proofs.Ytjifionpblpfoaa
open Go.RowKit
open Pol (co Sm)

set_option maxHeartbeats 800000 in
theorem cd_ends (db : Nat) (w : World) :
    Calls Try.prog 43 #[.pointer (some ⟨db, 0, none⟩), .iface 85 (.agg #[.pointer (some ⟨db, 0, none⟩)])] w (Tells (.bool true) w) := by
  have hta : ∀ (v : Value) (W : World), (Instr.typeAssert (.iface 85 v) 20 85 true).run Try.prog W = .ok (.tuple #[v, .bool true]) W := fun v W => by kernel_rfl
  have heq := fun W => run_eql_same ⟨db, 0, none⟩ W
  have HX := Lib.hid ((Ext.refl w).alloc (.cells #[.pointer (some ⟨db, 0, none⟩)] 85))
  go_enter Try.func43, Try.ntmps43
  go_wp2
  go_ret
  exact ⟨rfl, HX.out⟩


set_option maxHeartbeats 1600000 in
theorem cd_end_quiet (db rb g dv : Nat) (S : Value) (u : FrameMode) (w : World) (hd : w.heap[db]? = some (.cells #[.pointer (some ⟨rb, 0, none⟩), S, .int .i64 0] 78 (0, 0)))
    (hv : w.cell? ⟨dv, 0, none⟩ = some (.pointer (some ⟨db, 0, none⟩))) :
    CallsD Try.prog 42 #[.pointer (some ⟨dv, 0, none⟩), .pointer (some ⟨g, 0, none⟩)] u w fun e u' w' => u' = u ∧ (e = .returned (.tuple #[]) ∧ Only (fun k => k = db) w w') := by
  have c0 : w.cell? ⟨db, 0, none⟩ = some (.pointer (some ⟨rb, 0, none⟩)) := by rw [cell_of_row w _ 0 _ _ _ hd]; rfl
  have c1 : w.cell? ⟨db, 1, none⟩ = some S := by rw [cell_of_row w _ 1 _ _ _ hd]; rfl
  have c2 : w.cell? ⟨db, 2, none⟩ = some (.int .i64 0) := by rw [cell_of_row w _ 2 _ _ _ hd]; rfl
  have z0 : w.frozen? ⟨db, 0, none⟩ = false := frozen_of_row w _ 0 _ _ hd
  have z1 : w.frozen? ⟨db, 1, none⟩ = false := frozen_of_row w _ 1 _ _ hd
  have z2 : w.frozen? ⟨db, 2, none⟩ = false := frozen_of_row w _ 2 _ _ hd
  have HO := Lib.hid (((Only.put w db 0 (.pointer none)).trans (Only.put _ db 1 (.slice none 0 0))).trans (Only.put _ db 2 (.int .i64 0)))
  clear hd
  refine callsD_of_wp Try.func42 rfl ?_
  simp only [Try.ntmps42, List.size_toArray, List.length_cons, List.length_nil, Nat.reduceAdd, Nat.reduceSub, Array.replicate_succ, Array.replicate_zero, List.push_toArray, List.append_toArray, List.nil_append, List.cons_append]
  go_wp2
  exact ⟨rfl, .tuple #[], by simp [results, Try.results42], rfl, HO.out⟩

set_option maxHeartbeats 3200000 in
theorem cd_end_tells (db rb g dv n : Nat) (S : Value) (w : World) (hd : w.heap[db]? = some (.cells #[.pointer (some ⟨rb, 0, none⟩), S, .int .i64 (n : Int)] 78 (0, 0)))
    (hv : w.cell? ⟨dv, 0, none⟩ = some (.pointer (some ⟨db, 0, none⟩))) (hg : w.heap[g]? = some (.cells #[.int .i64 0] 29 (0, 0))) (hgd : g ≠ db) (hvd : dv ≠ db) (hn : 0 < n) :
    CallsD Try.prog 42 #[.pointer (some ⟨dv, 0, none⟩), .pointer (some ⟨g, 0, none⟩)] (.panicking (En db)) w fun e u' w' =>
      e = .returned (.tuple #[]) ∧ u' = .panicking [{ v := .iface 85 (.agg #[.pointer (some ⟨db, 0, none⟩)]), recovered := true }] ∧ Only (fun k => k = db ∨ k = g) w w' ∧ w'.cell? ⟨g, 0, none⟩ = some (.int .i64 (n : Int)) := by
  have c0 : w.cell? ⟨db, 0, none⟩ = some (.pointer (some ⟨rb, 0, none⟩)) := by rw [cell_of_row w _ 0 _ _ _ hd]; rfl
  have c1 : w.cell? ⟨db, 1, none⟩ = some S := by rw [cell_of_row w _ 1 _ _ _ hd]; rfl
  have c2 : w.cell? ⟨db, 2, none⟩ = some (.int .i64 (n : Int)) := by rw [cell_of_row w _ 2 _ _ _ hd]; rfl
  have z0 : w.frozen? ⟨db, 0, none⟩ = false := frozen_of_row w _ 0 _ _ hd
  have z1 : w.frozen? ⟨db, 1, none⟩ = false := frozen_of_row w _ 1 _ _ hd
  have z2 : w.frozen? ⟨db, 2, none⟩ = false := frozen_of_row w _ 2 _ _ hd
  obtain ⟨W, hW⟩ : ∃ W, ((w.setCell ⟨db, 0, none⟩ (.pointer none)).setCell ⟨db, 1, none⟩ (.slice none 0 0)).setCell ⟨db, 2, none⟩ (.int .i64 0) = W := ⟨_, rfl⟩
  have ho : Only (fun k => k = db) w W := by rw [← hW]; exact ((Only.put w db 0 _).trans (Only.put _ db 1 _)).trans (Only.put _ db 2 _)
  have d1 : decide (n = 0) = false := decide_eq_false (by omega)
  have d2 : ((n : Int) == 0) = false := by simp; omega
  refine callsD_of_wpS Try.func42 rfl fun c₀ cs hu => ?_
  simp only [Try.ntmps42, List.size_toArray, List.length_cons, List.length_nil, Nat.reduceAdd, Nat.reduceSub, Array.replicate_succ, Array.replicate_zero, List.push_toArray, List.append_toArray, List.nil_append, List.cons_append]
  refine wpS_seq (wpS_of_wp ?_)
  go_wp2
  simp only [Exit.thenS]
  refine wpS_seq (wpS_of_wp ?_)
  go_wp2
  simp only [Exit.thenS]
  have hvW := ho.cell hv hvd
  have hgW : W.heap[g]? = some (.cells #[.int .i64 0] 29 (0, 0)) := (ho.block g (Array.getElem?_eq_some_iff.1 hg).1 hgd).trans hg
  have HGW := Lib.hid hgW
  have HO := Lib.hid ho
  clear c0 c1 c2 z0 z1 z2 hd hg hgW ho hW
  refine wpS_seq (wpS_of_wp ?_)
  go_wp2
  simp only [Exit.thenS]
  refine wpS_seq (wpS_seq ?_)
  apply wpS_region
  simp [wpOpsS, go_sem, recoverD, hu, Exit.thenS, En]
  refine wpS_of_wp ?_
  have HE := Lib.hid (cd_ends db W)
  go_wp2_with fail
  refine HE.out.mono ?_
  rintro e w1 ⟨rfl, hx⟩
  have hg1 : w1.heap[g]? = some (.cells #[.int .i64 0] 29 (0, 0)) := (hx.below.block g (Array.getElem?_eq_some_iff.1 HGW.out).1).trans HGW.out
  have c1 : w1.cell? ⟨g, 0, none⟩ = some (.int .i64 0) := by rw [cell_of_row w1 _ 0 _ _ _ hg1]; rfl
  have z1 : w1.frozen? ⟨g, 0, none⟩ = false := frozen_of_row w1 _ 0 _ _ hg1
  have HO1 := Lib.hid (((HO.out.trans (Only.of_ext hx)).mono (Y := fun k => k = db ∨ k = g) (fun _ _ h => .inl h)).trans ((Only.put w1 g 0 (.int .i64 (n : Int))).mono fun _ _ h => .inr h))
  have HC1 := Lib.hid (World.cell?_setCell_same' w1 ⟨g, 0, none⟩ (.int .i64 (n : Int)) (by rw [c1]; rfl))
  clear hx hg1 hv hvW
  go_wp2
  simp only [Exit.thenS]
  refine wpS_of_wp ?_
  go_wp2
  exact ⟨rfl, _, rfl, .tuple #[], by simp [results, Try.results42], rfl, rfl, HO1.out, HC1.out⟩
end Go.Proofs.Ytjifionpblpfoaa

/-
  What Read of layer 8 does. Conditions: no more than 2^16 bytes.
-/
namespace Go.Proofs.Ytjifionpblpfoaa
open Go.RowKit
open Pol (co Sm)

theorem old3 (w : World) (A B C : Obj) : (((w.alloc A).alloc B).alloc C).heap[w.heap.size]? = some A :=
  (heap_alloc_old _ _ (by simp; omega)).trans (heap_alloc2_old _ _ _)
theorem mid3 (w : World) (A B C : Obj) : (((w.alloc A).alloc B).alloc C).heap[w.heap.size + 1]? = some B :=
  (heap_alloc_old _ _ (by simp)).trans (heap_alloc2_new _ _ _)
theorem run_func_not_nil (fn : FuncId) (caps : Array Value) (w : World) : (binOp .neq 69 (.func (.func fn) #[] caps) .nilFunc).run Try.prog w = .ok (.bool true) w := by
  have h : ∀ d, (Op.equalIn (d + 1) 69 (.func (.func fn) #[] caps) .nilFunc).run Try.prog w = .ok false w := fun d => by
    simp [Op.equalIn, run_underlying Try.underlying69]
  have h' : (Op.equal 69 (.func (.func fn) #[] caps) .nilFunc).run Try.prog w = .ok false w := h 9999
  simp only [binOp]
  simp [h']

theorem read_results (tmps : Array Value) (w : World) (g : Nat) (n : Int) (ht : tmps.getD 4 undef = .pointer (some ⟨g, 0, none⟩)) (hc : w.cell? ⟨g, 0, none⟩ = some (.int .i64 n)) :
    (results Try.f33 tmps).run Try.prog w = .ok (.int .i64 n) w := by
  have ht' : tmps[4]?.getD undef = .pointer (some ⟨g, 0, none⟩) := by simpa using ht
  simp [results, Try.results33, go_sem, ht', hc]
theorem only_done {lo db : Nat} {w w' : World} (h : Only (fun k => k = db ∨ k = lo) w w') (h1 : lo < db) : Only (Btw lo (db + 3)) w w' := h.mono fun k _ hk => by
  rcases hk with rfl | rfl
  · exact ⟨by omega, by omega⟩
  · exact ⟨by omega, by omega⟩
/-- What comes behind the function that reads: the deferred one, which lets be; which recovers. -/
theorem leaves_quiet (tmps : Array Value) (R : Ending → World → Prop) (lo db rb : Nat) (S : Value) (r : Int) (w : World) (ht : tmps.getD 4 undef = .pointer (some ⟨lo, 0, none⟩)) (h1 : lo < db)
    (hd : w.heap[db]? = some (.cells #[.pointer (some ⟨rb, 0, none⟩), S, .int .i64 0] 78 (0, 0))) (hv : w.cell? ⟨db + 1, 0, none⟩ = some (.pointer (some ⟨db, 0, none⟩))) (hg : w.cell? ⟨lo, 0, none⟩ = some (.int .i64 0))
    (hR : ∀ w', Only (Btw lo (db + 3)) w w' → R (.returned (.int .i64 r)) w') :
    Leaves Try.prog Try.f33 tmps R [{ target := .fn (.func 42) #[.pointer (some ⟨db + 1, 0, none⟩), .pointer (some ⟨lo, 0, none⟩)], args := #[] }] .returning (w.setCell ⟨lo, 0, none⟩ (.int .i64 r)) := by
  refine leaves_cons (f := 42) (args := #[.pointer (some ⟨db + 1, 0, none⟩), .pointer (some ⟨lo, 0, none⟩)]) (by simp) (by simp [go_sem]) ?_
  refine (cd_end_quiet db rb lo (db + 1) S _ _ ((heap_setCell_other w ⟨lo, 0, none⟩ db _ (by show db ≠ lo; omega)).trans hd) ((Only.put w lo 0 _).cell hv (by omega))).mono ?_
  rintro e u' w' ⟨rfl, rfl, ho⟩
  have hs : settle .returning = .returning := rfl
  simp only [hs, Leaves]
  have hc := ho.cell (World.cell?_setCell_same' w ⟨lo, 0, none⟩ (.int .i64 r) (by rw [hg]; rfl)) (by omega)
  exact ⟨_, read_results tmps w' lo r ht hc, hR w' (only_done (((Only.put w lo 0 _).mono fun _ _ h => .inr h).trans (ho.mono fun _ _ h => .inl h)) h1)⟩
theorem leaves_dies (tmps : Array Value) (R : Ending → World → Prop) (lo db rb : Nat) (S : Value) (x : Int) (w : World) (h1 : lo < db)
    (hd : w.heap[db]? = some (.cells #[.pointer (some ⟨rb, 0, none⟩), S, .int .i64 0] 78 (0, 0))) (hv : w.cell? ⟨db + 1, 0, none⟩ = some (.pointer (some ⟨db, 0, none⟩)))
    (hR : ∀ w', Only (Btw lo (db + 3)) w w' → R (.panicked [{ v := .iface 3 (.int .i64 x), recovered := false }]) w') :
    Leaves Try.prog Try.f33 tmps R [{ target := .fn (.func 42) #[.pointer (some ⟨db + 1, 0, none⟩), .pointer (some ⟨lo, 0, none⟩)], args := #[] }] (.panicking [{ v := .iface 3 (.int .i64 x), recovered := false }]) w := by
  refine leaves_cons (f := 42) (args := #[.pointer (some ⟨db + 1, 0, none⟩), .pointer (some ⟨lo, 0, none⟩)]) (by simp) (by simp [go_sem]) ?_
  refine (cd_end_quiet db rb lo (db + 1) S _ _ hd hv).mono ?_
  rintro e u' w' ⟨rfl, rfl, ho⟩
  have hs : settle (.panicking [{ v := .iface 3 (.int .i64 x), recovered := false }]) = .panicking [{ v := .iface 3 (.int .i64 x), recovered := false }] := rfl
  simp only [hs, Leaves]
  exact hR w' (only_done (ho.mono fun _ _ h => .inl h) h1)
theorem leaves_tells (tmps : Array Value) (R : Ending → World → Prop) (lo db rb n : Nat) (S : Value) (w : World) (ht : tmps.getD 4 undef = .pointer (some ⟨lo, 0, none⟩)) (h1 : lo < db) (hn : 0 < n)
    (hd : w.heap[db]? = some (.cells #[.pointer (some ⟨rb, 0, none⟩), S, .int .i64 (n : Int)] 78 (0, 0))) (hv : w.cell? ⟨db + 1, 0, none⟩ = some (.pointer (some ⟨db, 0, none⟩))) (hg : w.heap[lo]? = some (.cells #[.int .i64 0] 29 (0, 0)))
    (hR : ∀ w', Only (Btw lo (db + 3)) w w' → R (.returned (.int .i64 (n : Int))) w') :
    Leaves Try.prog Try.f33 tmps R [{ target := .fn (.func 42) #[.pointer (some ⟨db + 1, 0, none⟩), .pointer (some ⟨lo, 0, none⟩)], args := #[] }] (.panicking (En db)) w := by
  refine leaves_cons (f := 42) (args := #[.pointer (some ⟨db + 1, 0, none⟩), .pointer (some ⟨lo, 0, none⟩)]) (by simp) (by simp [go_sem]) ?_
  refine (cd_end_tells db rb lo (db + 1) n S _ hd hv hg (by omega) (by omega) hn).mono ?_
  rintro e u' w' ⟨rfl, rfl, ho, hc⟩
  have hs : settle (.panicking [{ v := .iface 85 (.agg #[.pointer (some ⟨db, 0, none⟩)]), recovered := true }]) = .returning := rfl
  simp only [hs, Leaves]
  exact ⟨_, read_results tmps w' lo n ht hc, hR w' (only_done ho h1)⟩

set_option maxHeartbeats 3200000 in
theorem cd_Read (b : List Nat) (B : Option Addr) (cb : Nat) (fn : FuncId) (caps : Array Value) (w : World) (J : Nat → World → By → Prop) (hfn : HasBody fn) (hr : Rd w B b) (hl : b.length ≤ 65536)
    (hby : ∀ hi ρ w1, Ext w w1 → w.heap.size ≤ hi → hi ≤ w1.heap.size → rdr.RI w.heap.size hi (nz b B) ρ w1 b → Calls Try.prog fn (#[.pointer (some ρ)] ++ caps) w1 (ByE rdr w.heap.size hi (nz b B) ρ J)) :
    Calls Try.prog 33 #[.slice B b.length cb, .func (.func fn) #[] caps] w (ReadE J w) := by
  have hmf : ∀ (fn : Fn) (first cap : Array Value) (w : World), (Instr.makeFunc fn first cap).run Try.prog w = .ok (.func fn first cap) w := fun _ _ _ _ => rfl
  obtain ⟨F, cF, hF1, hF2, hF3⟩ := hfn
  have hcf : ∀ (args : Array Value) (W : World), (callFunc fn args).run Try.prog W = .ok (.enter fn args) W := fun args W => by
    have h1 : F.name ≠ "runtime.NumGoroutine" := by simpa using hF3
    simp [callFunc, hF1, h1, hF2]
  have HR := Lib.hid hr
  have HBY := Lib.hid hby
  obtain ⟨L, hL⟩ : ∃ L, b.length = L := ⟨_, rfl⟩
  have HL := Lib.hid hL
  rw [hL] at hl ⊢
  clear hr hby hL
  have hx0 : Ext w (w.alloc (.cells #[.int .i64 0] 29)) := (Ext.refl w).alloc _
  have hg0 := heap_alloc_new w (.cells #[.int .i64 0] 29)
  have hs0 : (w.alloc (.cells #[.int .i64 0] 29)).heap.size = w.heap.size + 1 := by simp
  go_enter_defers Try.func33, Try.ntmps33
  go_wp2_with (at_builtin; refine wpList_append_rd rfl (.const (.slice none 0 0)) (.tmp 6) rfl (w.heap.size + 1) (.slice none 0 0) [] b rfl (Mine.nil _ _) B L cb rfl HL.out (HR.out.ext hx0) (by have := HL.out; simp; omega) (by rw [hs0]; omega) ?_; intro v' w2 hown hg hat; obtain ⟨A, c, ev, hlc, hra⟩ := hown.slice HR.out.1; have HOB := Lib.hid (fun k (h : v'.ownBlock = some k) => hown.block k h); have HX2 := Lib.hid ((Ext.refl _).more hg (fun r e => by simp [Value.ownBlock] at e)); have hev : v' = .slice A L c := (by rw [ev, List.nil_append, HL.out]); subst hev; have HRA := Lib.hid hra; have hnf := fun W => run_func_not_nil fn caps W; clear hown hg hat ev hra)
  have hs2 := HX2.out.size
  rw [hs0] at hs2
  obtain ⟨db, hdb⟩ : ∃ db, w2.heap.size = db := ⟨_, rfl⟩
  obtain ⟨W, hW⟩ : ∃ W, (((w2.alloc (.cells #[.pointer (some ⟨w2.heap.size + 1 + 1, 0, none⟩), .slice A L c, .int .i64 0] 78)).alloc (.cells #[.pointer (some ⟨w2.heap.size, 0, none⟩)] 76)).alloc (.cells #[.pointer (some ⟨w2.heap.size, 0, none⟩)] 80)) = W := ⟨_, rfl⟩
  have hxW : Ext w2 W := by rw [← hW]; exact ((((Ext.refl w2).alloc _).alloc _).alloc _)
  have hsW : W.heap.size = db + 3 := by rw [← hW, ← hdb]; simp
  have hrow : W.heap[db]? = some (.cells #[.pointer (some ⟨db + 1 + 1, 0, none⟩), .slice A L c, .int .i64 0] 78 (0, 0)) ∧ W.heap[db + 1]? = some (.cells #[.pointer (some ⟨db, 0, none⟩)] 76 (0, 0)) ∧ W.heap[db + 2]? = some (.cells #[.pointer (some ⟨db, 0, none⟩)] 80 (0, 0)) := by
    rw [← hW, ← hdb]
    refine ⟨old3 w2 _ _ _, mid3 w2 _ _ _, ?_⟩
    have h := heap_alloc_new ((w2.alloc (.cells #[.pointer (some ⟨w2.heap.size + 1 + 1, 0, none⟩), .slice A L c, .int .i64 0] 78)).alloc (.cells #[.pointer (some ⟨w2.heap.size, 0, none⟩)] 76)) (.cells #[.pointer (some ⟨w2.heap.size, 0, none⟩)] 80)
    simpa using h
  have hi0 : W.heap[w.heap.size]? = some (.cells #[.int .i64 0] 29 (0, 0)) := (hxW.below.block _ (by omega)).trans ((HX2.out.below.block _ (by rw [hs0]; omega)).trans hg0)
  have hext : Ext w W := (hx0.trans HX2.out).trans hxW
  have hRI : rdr.RI w.heap.size (db + 3) (nz b B) ⟨db + 2, 0, none⟩ W b := by
    refine ⟨db + 2, db, rfl, ⟨by omega, by omega⟩, ⟨by omega, by omega⟩, by omega, by omega, ⟨hrow.2.2, by omega, by omega, by omega, hrow.2.1, hi0⟩, ⟨A, c, ?_, HRA.out.ext hxW, by rw [← List.nil_append b]; exact hlc, fun k o e h => ?_⟩, by rw [HL.out]; exact hl⟩
    · rw [HL.out]; exact hrow.1
    · have := HOB.out k (by rw [e]; rfl)
      exact ⟨⟨by omega, by omega⟩, by omega⟩
  have HC := Lib.hid (HBY.out (db + 3) ⟨db + 2, 0, none⟩ W hext (by omega) (by omega) hRI)
  have HLT := Lib.hid (show w.heap.size < db by omega)
  rw [hW, hdb]
  clear hRI hext hi0 hrow hsW hxW hW hdb HBY HR HRA HOB HX2 hg0 hs0 hx0 hs2 hF1 hF2 hF3 hlc
  refine HC.out.mono ?_
  have HLTv := HLT.out
  have hne1 : w.heap.size ≠ db := by omega
  rintro e w3 (⟨l, v, rfl, ⟨rb, db', hρ, _, _, _, h5, ⟨_, f1, f2, _, f4, f5⟩, ⟨A', c', h7, hrd, hlc', _⟩, h8⟩, hJ⟩ | ⟨n, ch, rfl, ⟨rb, db', hρ, _, _, _, h5, ⟨f1, f2, _, f4, f5⟩, h7, rfl, hn0⟩, hJ⟩ | ⟨x, rfl, ⟨l, rb, db', hρ, _, _, _, h5, ⟨_, f1, f2, _, f4, f5⟩, ⟨A', c', h7, _⟩, _⟩, hJ⟩)
  · obtain rfl : db' = db := by omega
    obtain ⟨M, hM⟩ : ∃ M, l.length = M := ⟨_, rfl⟩
    rw [hM] at h7 hlc' h8
    have hz : (l = [] ↔ M = 0) := by rw [← hM]; exact List.length_eq_zero_iff.symm
    have c1 : w3.cell? ⟨db' + 1, 0, none⟩ = some (.pointer (some ⟨db', 0, none⟩)) := by rw [cell_of_row w3 _ 0 _ _ _ f4]; rfl
    have c2 : w3.cell? ⟨db', 1, none⟩ = some (.slice A' M c') := by rw [cell_of_row w3 _ 1 _ _ _ h7]; rfl
    have c3 : w3.cell? ⟨w.heap.size, 0, none⟩ = some (.int .i64 0) := by rw [cell_of_row w3 _ 0 _ _ _ f5]; rfl
    have z3 : w3.frozen? ⟨w.heap.size, 0, none⟩ = false := frozen_of_row w3 _ 0 _ _ f5
    have H7 := Lib.hid h7
    have HJ := Lib.hid hJ
    have H5 := Lib.hid h5
    have HQ := Lib.hid (fun tmps (r : Int) ht hR => leaves_quiet tmps (ReadE J w) w.heap.size db' rb (.slice A' M c') r w3 ht HLT.out h7 c1 c3 hR)
    clear h7 hJ h5 f4 f5 hrd hlc'
    by_cases hM0 : M = 0
    · have d1 : decide (0 < M) = false := decide_eq_false (by omega)
      have d2 : decide ((0 : Int) < (M : Int)) = false := decide_eq_false (by omega)
      have hl0 : l = [] := hz.2 hM0
      go_wp2
      exact HQ.out _ 0 rfl (fun w' ho => ⟨_, w3, .done l, by omega, HJ.out, ho, by rw [hl0]; rfl⟩)
    · have d1 : decide (0 < M) = true := decide_eq_true (by omega)
      have d2 : decide ((0 : Int) < (M : Int)) = true := decide_eq_true (by omega)
      have hl0 : l ≠ [] := fun h => hM0 (hz.1 h)
      go_wp2
      exact HQ.out _ 3 rfl (fun w' ho => ⟨_, w3, .done l, by omega, HJ.out, ho, by show _ = _; rw [if_neg hl0]⟩)
  · obtain rfl : db' = db := by omega
    have c1 : w3.cell? ⟨db' + 1, 0, none⟩ = some (.pointer (some ⟨db', 0, none⟩)) := by rw [cell_of_row w3 _ 0 _ _ _ f4]; rfl
    exact leaves_tells _ (ReadE J w) w.heap.size db' rb n _ w3 rfl HLT.out hn0 h7 c1 f5 (fun w' ho => ⟨_, w3, .fails n, by omega, hJ, ho, rfl⟩)
  · obtain rfl : db' = db := by omega
    have c1 : w3.cell? ⟨db' + 1, 0, none⟩ = some (.pointer (some ⟨db', 0, none⟩)) := by rw [cell_of_row w3 _ 0 _ _ _ f4]; rfl
    exact leaves_dies _ (ReadE J w) w.heap.size db' rb _ x w3 HLT.out h7 c1 (fun w' ho => ⟨_, w3, .dies x, by omega, hJ, ho, [], rfl, by simp⟩)

end Go.Proofs.Ytjifionpblpfoaa

/-
  What the code's own Decode of layer 14 reads. Conditions: no more than 2^16 bytes.
-/
namespace Go.Proofs.Ytjifionpblpfoaa
open Go.RowKit
open Pol (co Sm)

/-- What holds while an order is read into block g. -/
structure TS (lo hi g : Nat) (B : Option Addr) (ρ : Addr) (w : World) (v0 v1 v2 v3 : Value) (rest : List Nat) (w' : World) : Prop where
  ri : rdr.RI lo hi B ρ w' rest
  row : w'.heap[g]? = some (.cells #[v0, v1, v2, v3] 32)
  only : Only (fun k => Btw lo hi k ∨ k = g) w w'
  size : hi ≤ w'.heap.size
  far : g < lo
section
variable {lo hi g : Nat} {B : Option Addr} {ρ : Addr} {w w1 w2 : World} {v0 v1 v2 v3 : Value} {rest rest' : List Nat}
theorem TS.reads (h : TS lo hi g B ρ w v0 v1 v2 v3 rest w1) (ho : Only (Btw lo hi) w1 w2) (hr : rdr.RI lo hi B ρ w2 rest') : TS lo hi g B ρ w v0 v1 v2 v3 rest' w2 :=
  ⟨hr, (ho.block g (row_lt h.row) (fun hb => by have h1 := hb.1; have h2 := h.far; omega)).trans h.row, h.only.trans (ho.mono fun _ _ hb => .inl hb), Nat.le_trans h.size ho.size, h.far⟩
theorem TS.keepR (h : TS lo hi g B ρ w v0 v1 v2 v3 rest w1) (o : Nat) (v : Value) : rdr.RI lo hi B ρ (w1.setCell ⟨g, o, none⟩ v) rest :=
  cd_keep lo hi B ρ w1 _ rest h.ri (fun k hk => Below.heap_setCell _ _ _ k (fun e => by have e : k = g := e; have h1 := hk.1; have h2 := h.far; omega))
theorem TS.keepO (h : TS lo hi g B ρ w v0 v1 v2 v3 rest w1) (o : Nat) (v : Value) : Only (fun k => Btw lo hi k ∨ k = g) w (w1.setCell ⟨g, o, none⟩ v) :=
  h.only.trans (Only.of_grown (grown_set' w1 g o v) (fun k e => by injection e with e; exact .inr e.symm))
theorem TS.keepS (h : TS lo hi g B ρ w v0 v1 v2 v3 rest w1) (o : Nat) (v : Value) : hi ≤ (w1.setCell ⟨g, o, none⟩ v).heap.size := Nat.le_trans h.size (grown_set' w1 g o v).size
theorem TS.set0 (h : TS lo hi g B ρ w v0 v1 v2 v3 rest w1) (v : Value) : TS lo hi g B ρ w v v1 v2 v3 rest (w1.setCell ⟨g, 0, none⟩ v) := ⟨h.keepR 0 v, heap_setCell_same w1 g 0 _ _ v h.row, h.keepO 0 v, h.keepS 0 v, h.far⟩
theorem TS.set1 (h : TS lo hi g B ρ w v0 v1 v2 v3 rest w1) (v : Value) : TS lo hi g B ρ w v0 v v2 v3 rest (w1.setCell ⟨g, 1, none⟩ v) := ⟨h.keepR 1 v, heap_setCell_same w1 g 1 _ _ v h.row, h.keepO 1 v, h.keepS 1 v, h.far⟩
theorem TS.set2 (h : TS lo hi g B ρ w v0 v1 v2 v3 rest w1) (v : Value) : TS lo hi g B ρ w v0 v1 v v3 rest (w1.setCell ⟨g, 2, none⟩ v) := ⟨h.keepR 2 v, heap_setCell_same w1 g 2 _ _ v h.row, h.keepO 2 v, h.keepS 2 v, h.far⟩
theorem TS.set3 (h : TS lo hi g B ρ w v0 v1 v2 v3 rest w1) (v : Value) : TS lo hi g B ρ w v0 v1 v2 v rest (w1.setCell ⟨g, 3, none⟩ v) := ⟨h.keepR 3 v, heap_setCell_same w1 g 3 _ _ v h.row, h.keepO 3 v, h.keepS 3 v, h.far⟩
end
/-- What the reading leaves. -/
def TxJ (lo g : Nat) (b : List Nat) (w : World) (hi : Nat) (w' : World) (y : By) : Prop :=
  Only (fun k => Btw lo hi k ∨ k = g) w w' ∧ match rdO b with
    | .ok o rest => y = .done rest ∧ ∃ D n c, w'.heap[g]? = some (.cells #[.int .i64 o.k, .int .i64 o.t, .int .u64 ((o.a : Nat) : Int), .slice D n c] 32) ∧ o.m.length = n ∧ n ≤ c ∧ Rd w' D o.m ∧ ∀ q p, D = some ⟨q, p, none⟩ → 0 < n → hi ≤ q
    | .er n => y = .fails n
set_option maxHeartbeats 3200000 in
theorem tx_by (lo hi g : Nat) (B : Option Addr) (ρ : Addr) (w : World) (b : List Nat) (hI : rdr.RI lo hi B ρ w b) (hrow : w.heap[g]? = some (.cells #[.int .i64 0, .int .i64 0, .int .u64 0, .slice none 0 0] 32)) (hg : g < lo) (hs : hi ≤ w.heap.size) (hsm : Sm b) :
    Calls Try.prog 34 #[.pointer (some ρ), .pointer (some ⟨g, 0, none⟩)] w (ByE rdr lo hi B ρ (TxJ lo g b w)) := by
  have H0 := Lib.hid (show TS lo hi g B ρ w (.int .i64 0) (.int .i64 0) (.int .u64 0) (.slice none 0 0) b w from ⟨hI, hrow, ⟨rfl, rfl, rfl, Nat.le_refl _, fun _ _ _ => rfl⟩, hs, hg⟩)
  have HSB := Lib.hid hsm
  clear hI hrow hg hs hsm
  go_enter Try.func34, Try.ntmps34
  go_wp2_with fail
  refine (cd_Count lo hi B ρ w b 2 H0.out.ri (by decide)).mono ?_
  rintro e w1 ⟨ho, h⟩
  cases e1 : rdN 2 b with
  | er n1 =>
    rw [e1] at h
    obtain ⟨ch, rfl, hst⟩ := h
    have hd : rdO b = .er n1 := by unfold rdO; rw [e1]; rfl
    exact ⟨rfl, .inr (.inl ⟨n1, ch, rfl, hst, ho.mono fun _ _ h => .inl h, by rw [hd]⟩)⟩
  | ok k1 b1 =>
    rw [e1] at h
    obtain ⟨v, rfl, rfl, hi1⟩ := h
    obtain ⟨q1, f1, _⟩ := vn_rdN HSB.out e1
    have hs1 : Sm b1 := (sm_split (q1 ▸ HSB.out)).2
    have H1 := Lib.hid (H0.out.reads ho hi1)
    have HS1 := Lib.hid hs1
    have HE1 := Lib.hid e1
    have c1 := cell_of_row _ g 0 _ _ _ H1.out.row
    have z1 := frozen_of_row _ g 0 _ _ H1.out.row
    have x1 : IntKind.i64.wrap (k1 : Int) = (k1 : Int) := by rw [IntKind.wrap_i64]; omega
    have H1' := Lib.hid (H1.out.set0 (.int .i64 (k1 : Int)))
    clear ho hi1 hs1 q1 f1 e1
    go_wp2_with fail
    generalize w1.setCell ⟨g, 0, none⟩ (.int .i64 (k1 : Int)) = wa at H1' ⊢
    clear c1 z1 x1 H1
    refine (cd_Count lo hi B ρ wa b1 5 H1'.out.ri (by decide)).mono ?_
    rintro e w2 ⟨ho, h⟩
    cases e2 : rdN 5 b1 with
    | er n2 =>
      rw [e2] at h
      obtain ⟨ch, rfl, hst⟩ := h
      have hd : rdO b = .er n2 := by unfold rdO; rw [HE1.out]; show ((rdN 5 b1).bind _ : Rs Od) = _; rw [e2]; rfl
      exact ⟨rfl, .inr (.inl ⟨n2, ch, rfl, hst, H1'.out.only.trans (ho.mono fun _ _ h => .inl h), by rw [hd]⟩)⟩
    | ok k2 b2 =>
      rw [e2] at h
      obtain ⟨v, rfl, rfl, hi2⟩ := h
      obtain ⟨q2, f2, _⟩ := vn_rdN HS1.out e2
      have hs2 : Sm b2 := (sm_split (q2 ▸ HS1.out)).2
      have H2 := Lib.hid (H1'.out.reads ho hi2)
      have HS2 := Lib.hid hs2
      have HE2 := Lib.hid e2
      have c1 := cell_of_row _ g 1 _ _ _ H2.out.row
      have z1 := frozen_of_row _ g 1 _ _ H2.out.row
      have x1 : IntKind.i64.wrap (k2 : Int) = (k2 : Int) := by rw [IntKind.wrap_i64]; omega
      have H2' := Lib.hid (H2.out.set1 (.int .i64 (k2 : Int)))
      clear ho hi2 hs2 q2 f2 e2
      go_wp2_with fail
      generalize w2.setCell ⟨g, 1, none⟩ (.int .i64 (k2 : Int)) = wb at H2' ⊢
      clear c1 z1 x1 H2 H1'
      refine (cd_Number lo hi B ρ wb b2 18446744073709551615 H2'.out.ri).mono ?_
      rintro e w3 ⟨ho, h⟩
      cases e3 : rdN 18446744073709551615 b2 with
      | er n3 =>
        rw [e3] at h
        obtain ⟨ch, rfl, hst⟩ := h
        have hd : rdO b = .er n3 := by unfold rdO; rw [HE1.out]; show ((rdN 5 b1).bind _ : Rs Od) = _; rw [HE2.out]; show ((rdN _ b2).bind _ : Rs Od) = _; rw [e3]; rfl
        exact ⟨rfl, .inr (.inl ⟨n3, ch, rfl, hst, H2'.out.only.trans (ho.mono fun _ _ h => .inl h), by rw [hd]⟩)⟩
      | ok k3 b3 =>
        rw [e3] at h
        obtain ⟨v, rfl, rfl, hi3⟩ := h
        have H3 := Lib.hid (H2'.out.reads ho hi3)
        have HE3 := Lib.hid e3
        have c1 := cell_of_row _ g 2 _ _ _ H3.out.row
        have z1 := frozen_of_row _ g 2 _ _ H3.out.row
        have H3' := Lib.hid (H3.out.set2 (.int .u64 (k3 : Int)))
        clear ho hi3 e3
        go_wp2_with fail
        generalize w3.setCell ⟨g, 2, none⟩ (.int .u64 (k3 : Int)) = wc at H3' ⊢
        clear c1 z1 H3 H2'
        refine (cd_Text lo hi B ρ wc b3 16 H3'.out.ri (by decide)).mono ?_
        rintro e w4 ⟨ho, h⟩
        cases e4 : rdT 16 b3 with
        | er n4 =>
          rw [e4] at h
          obtain ⟨ch, rfl, hst⟩ := h
          have hd : rdO b = .er n4 := by unfold rdO; rw [HE1.out]; show ((rdN 5 b1).bind _ : Rs Od) = _; rw [HE2.out]; show ((rdN _ b2).bind _ : Rs Od) = _; rw [HE3.out]; show ((rdT _ b3).bind _ : Rs Od) = _; rw [e4]; rfl
          exact ⟨rfl, .inr (.inl ⟨n4, ch, rfl, hst, H3'.out.only.trans (ho.mono fun _ _ h => .inl h), by rw [hd]⟩)⟩
        | ok m4 b4 =>
          rw [e4] at h
          obtain ⟨v, rfl, ⟨D, c4, rfl, hc4, hD, hDb⟩, hi4⟩ := h
          have H4 := Lib.hid (H3'.out.reads ho hi4)
          have hd : rdO b = .ok ⟨(k1 : Int), (k2 : Int), k3, m4⟩ b4 := by unfold rdO; rw [HE1.out]; show ((rdN 5 b1).bind _ : Rs Od) = _; rw [HE2.out]; show ((rdN _ b2).bind _ : Rs Od) = _; rw [HE3.out]; show ((rdT _ b3).bind _ : Rs Od) = _; rw [e4]; rfl
          have HDD := Lib.hid hd
          obtain ⟨n4, hn4⟩ : ∃ n4, m4.length = n4 := ⟨_, rfl⟩
          rw [hn4] at hc4 hDb ⊢
          have c1 := cell_of_row _ g 3 _ _ _ H4.out.row
          have z1 := frozen_of_row _ g 3 _ _ H4.out.row
          have H4' := Lib.hid (H4.out.set3 (.slice D n4 c4))
          have HFR := Lib.hid (show ∀ q p, D = some ⟨q, p, none⟩ → 0 < n4 → hi ≤ q from fun q p e h0 => Nat.le_trans H3'.out.size (hDb q p e h0))
          have HD := Lib.hid (show Rd (w4.setCell ⟨g, 3, none⟩ (.slice D n4 c4)) D m4 from hD.keep (grown_set' w4 g 3 _) (fun q p e h0 e2 => by
            injection e2 with e2
            have h1 := hDb q p e (by omega)
            have h2 := row_lt H3'.out.row
            omega))
          have HN := Lib.hid (And.intro hn4 hc4)
          clear ho hi4 hD hDb hd e4 hn4 hc4
          go_wp2
          go_end0
          exact .inl ⟨b4, _, rfl, H4'.out.ri, H4'.out.only, by rw [HDD.out]; exact ⟨rfl, D, n4, c4, H4'.out.row, HN.out.1, HN.out.2, HD.out, HFR.out⟩⟩
end Go.Proofs.Ytjifionpblpfoaa

/-
  Layer 14: what the code's own functions are to do; the statements' own comparison of orders; the first call. Conditions: none.
-/
namespace Go.Proofs.Ytjifionpblpfoaa
open Go.RowKit
open Pol (co Sm)

structure TxSaid : Prop where
  enc : ∀ (k t : Int) (a n c : Nat) (m : List Nat) (A : Option Addr) (w : World), m.length = n → Rd w A m → n ≤ c → n ≤ 65536 → a < 18446744073709551616 →
    Calls Try.prog 14 #[.agg #[.int .i64 k, .int .i64 t, .int .u64 (a : Int), .slice A n c]] w (EncR ⟨k, t, a, m⟩ w)
  dec : ∀ (b : List Nat) (A : Option Addr) (n c : Nat) (w : World), b.length = n → Rd w A b → n ≤ c → n ≤ 65536 →
    Calls Try.prog 22 #[.slice A n c] w (DecR b w)

theorem tx_in14 {a b c d : Value} : (Try.prog.info? 27).map (·.size) = some (#[a, b, c, d] : Array Value).size := by kernel_rfl
theorem tx_in14x {a b c d : Value} : (Try.prog.info? 32).map (·.size) = some (#[a, b, c, d] : Array Value).size := by kernel_rfl
theorem load_tx14 {w : World} {g : Nat} {a b c d : Value} {t : TypeId} {fr : Nat × Nat} (hg : w.heap[g]? = some (.cells #[a, b, c, d] t fr)) : (Instr.loadAt 27 (.pointer (some ⟨g, 0, none⟩))).run Try.prog w = .ok (.agg #[a, b, c, d]) w := by
  simp only [Instr.loadAt, Instr.sureAddr, Sem.run_bind, Sem.run_pure, Result.andThen]
  exact run_loadVar_row w g t _ _ fr _ hg Try.underlying27 rfl tx_in14
theorem load_tx14x {w : World} {g : Nat} {a b c d : Value} {t : TypeId} {fr : Nat × Nat} (hg : w.heap[g]? = some (.cells #[a, b, c, d] t fr)) : (Instr.loadAt 32 (.pointer (some ⟨g, 0, none⟩))).run Try.prog w = .ok (.agg #[a, b, c, d]) w := by
  simp only [Instr.loadAt, Instr.sureAddr, Sem.run_bind, Sem.run_pure, Result.andThen]
  exact run_loadVar_row w g t _ _ fr _ hg Try.underlying32 rfl tx_in14x
def Cls14 (u w : World) : Prop := Ext u w
theorem Od.right_code {o : Od} (h : o.right) : o.code = 0 := if_pos h
theorem Od.right_bytes {o : Od} (h : o.right) : o.bytes = o.enc := if_pos h
theorem ex14_right : Od.right ⟨1, 2, 300, []⟩ := by decide
theorem ex14_bytes : Od.bytes ⟨1, 2, 300, []⟩ = [1, 2, 172, 2, 0] := by
  have e : vn 300 = [172, 2] := by rw [vn_ge (by decide), vn_lt (by decide)]
  unfold Od.bytes
  rw [if_pos ex14_right]
  unfold Od.enc vt
  dsimp only
  rw [e]
  rw [show vn (Int.toNat 1) = [1] from vn_lt (by decide), show vn (Int.toNat 2) = [2] from vn_lt (by decide), show vn ([] : List Nat).length = [0] from vn_lt (by decide)]
  rfl
theorem ex14_sm : Sm [1, 2, 172, 2, 0] := Sm.cons (by decide) (Sm.cons (by decide) (Sm.cons (by decide) (Sm.cons (by decide) (Sm.cons (by decide) Sm.nil))))
theorem ex14_dec : dec14 [1, 2, 172, 2, 0] = (0, ⟨1, 2, 300, []⟩) := by
  have h := dec_enc ex14_right (by decide)
  rwa [show Od.enc ⟨1, 2, 300, []⟩ = [1, 2, 172, 2, 0] from by have := ex14_bytes; unfold Od.bytes at this; rwa [if_pos ex14_right] at this] at h
end Go.Proofs.Ytjifionpblpfoaa

/-
  Bytes, and bytes of a call's own, where only some blocks have changed. Conditions: none; no function is named here.
-/
namespace Go.Proofs.Ytjifionpblpfoaa
open Go.RowKit
open Pol (co Sm)

theorem rd_only14 {X : Nat → Prop} {w w' : World} {A : Option Addr} {l : List Nat} (h : Rd w A l) (ho : Only X w w') (hne : ∀ b o, A = some ⟨b, o, none⟩ → 0 < l.length → ¬ X b) : Rd w' A l :=
  ⟨h.1, fun i hi => by
    obtain ⟨b, o, e, hc⟩ := h.2 i hi
    exact ⟨b, o, e, ho.cell hc (hne b o e (by omega))⟩⟩
theorem Mine.only {X : Nat → Prop} {w w' : World} {base : Nat} {v : Value} {l : List Nat} (h : Mine w base v l) (ho : Only X w w') (hne : ∀ q, v.ownBlock = some q → ¬ X q) : Mine w' base v l :=
  ⟨h.1, h.2.imp id (fun ⟨g, cap, cur, e, hb, hg, r⟩ => ⟨g, cap, cur, e, hb, ho.row hg (hne g (by rw [e]; rfl)), r⟩)⟩
theorem sm_put {l : List Nat} (h : Sm l) {x : Nat} (hx : x < 256) (i : Nat) : Sm (l.set i x) := fun j => by
  unfold co
  by_cases hij : i = j
  · subst hij
    by_cases hi : i < l.length
    · rw [List.getElem?_set_self hi]
      exact hx
    · rw [List.getElem?_eq_none (by simp; omega)]
      decide
  · rw [List.getElem?_set_ne hij]
    exact h j
end Go.Proofs.Ytjifionpblpfoaa

/-
  The code's own Decode of layer 14. Conditions: no more than 2^16 bytes.
-/
namespace Go.Proofs.Ytjifionpblpfoaa
open Go.RowKit
open Pol (co Sm)

theorem results_tx14x {fn : Func} {p u : Tmp} (h : fn.results = #[.cell p 32, .tmp u]) (tmps : Array Value) (w : World) (g : Nat) (t : TypeId) (cs : Array Value) (fr : Nat × Nat)
    (hp : tmps.getD p undef = .pointer (some ⟨g, 0, none⟩)) (hg : w.heap[g]? = some (.cells cs t fr)) (hi : (Try.prog.info? 32).map (·.size) = some cs.size) :
    (results fn tmps).run Try.prog w = .ok (.tuple #[.agg cs, tmps.getD u undef]) w := by
  have hl := run_loadVar_row w g t 32 cs fr _ hg Try.underlying32 rfl hi
  rw [results_cell_tmp h, hp]
  simp [asAddr, Result.andThen, hl]
theorem dec14_pos {b : List Nat} {n : Nat} (hs : Sm b) (h : rdO b = .er n) : n ≠ 0 := by
  intro h0
  have hd : dec14 b = (n, Od.zero) := by unfold dec14; rw [h]
  have h1 := (dec_ok hs (by rw [hd]; exact h0)).1
  rw [hd] at h1
  exact absurd (show Od.zero.right from h1) (by decide)
theorem decR_no {b : List Nat} {w w' : World} {n : Nat} (h : dec14 b = (n, Od.zero)) (hx : Ext w w') : DecR b w (.returned (.tuple #[.agg #[.int .i64 0, .int .i64 0, .int .u64 0, .slice none 0 0], .int .i64 (n : Int)])) w' := by
  unfold DecR
  rw [h]
  exact ⟨hx, none, 0, 0, rfl, rfl, Nat.le_refl _, Rd.nil _ _⟩
set_option maxHeartbeats 6400000 in
set_option maxRecDepth 100000 in
theorem tx_decode (b : List Nat) (A : Option Addr) (n c : Nat) (w : World) (hn : b.length = n) (hr : Rd w A b) (hl : n ≤ 65536) :
    Calls Try.prog 22 #[.slice A n c] w (DecR b w) := by
  have hmf : ∀ (fn : Fn) (first cap : Array Value) (w : World), (Instr.makeFunc fn first cap).run Try.prog w = .ok (.func fn first cap) w := fun _ _ _ _ => rfl
  have HSB := Lib.hid hr.1
  have hx2 := ((Ext.refl w).alloc (.cells #[.int .i64 0, .int .i64 0, .int .u64 0, .slice none 0 0] 32)).alloc (.cells #[.int .i64 0, .int .i64 0, .int .u64 0, .slice none 0 0] 32)
  have hr0 : ((w.alloc (.cells #[.int .i64 0, .int .i64 0, .int .u64 0, .slice none 0 0] 32)).alloc (.cells #[.int .i64 0, .int .i64 0, .int .u64 0, .slice none 0 0] 32)).heap[w.heap.size]? = some (.cells #[.int .i64 0, .int .i64 0, .int .u64 0, .slice none 0 0] 32) := by
    rw [heap_alloc_old _ _ (by simp)]
    exact heap_alloc_new w _
  have hg0 : ((w.alloc (.cells #[.int .i64 0, .int .i64 0, .int .u64 0, .slice none 0 0] 32)).alloc (.cells #[.int .i64 0, .int .i64 0, .int .u64 0, .slice none 0 0] 32)).heap[w.heap.size + 1]? = some (.cells #[.int .i64 0, .int .i64 0, .int .u64 0, .slice none 0 0] 32) := by
    have h := heap_alloc_new (w.alloc (.cells #[.int .i64 0, .int .i64 0, .int .u64 0, .slice none 0 0] 32)) (.cells #[.int .i64 0, .int .i64 0, .int .u64 0, .slice none 0 0] 32)
    rwa [show (w.alloc (.cells #[.int .i64 0, .int .i64 0, .int .u64 0, .slice none 0 0] 32)).heap.size = w.heap.size + 1 from by simp] at h
  have hsz : ((w.alloc (.cells #[.int .i64 0, .int .i64 0, .int .u64 0, .slice none 0 0] 32)).alloc (.cells #[.int .i64 0, .int .i64 0, .int .u64 0, .slice none 0 0] 32)).heap.size = w.heap.size + 1 + 1 := by simp
  have hrd : Calls Try.prog 33 #[.slice A n c, .func (.func 34) #[] #[.pointer (some ⟨w.heap.size + 1, 0, none⟩)]] ((w.alloc (.cells #[.int .i64 0, .int .i64 0, .int .u64 0, .slice none 0 0] 32)).alloc (.cells #[.int .i64 0, .int .i64 0, .int .u64 0, .slice none 0 0] 32))
      (ReadE (fun hi w' y => TxJ (w.heap.size + 1 + 1) (w.heap.size + 1) b ((w.alloc (.cells #[.int .i64 0, .int .i64 0, .int .u64 0, .slice none 0 0] 32)).alloc (.cells #[.int .i64 0, .int .i64 0, .int .u64 0, .slice none 0 0] 32)) hi w' y) ((w.alloc (.cells #[.int .i64 0, .int .i64 0, .int .u64 0, .slice none 0 0] 32)).alloc (.cells #[.int .i64 0, .int .i64 0, .int .u64 0, .slice none 0 0] 32))) := by
    rw [← hn]
    refine cd_Read b A c _ _ _ _ ⟨_, _, Try.func34, rfl, by kernel_rfl⟩ (hr.ext hx2) (by omega) (fun hi ρ w1 hx hlo hhi hI => ?_)
    rw [hsz] at hI ⊢
    refine (tx_by (w.heap.size + 1 + 1) hi (w.heap.size + 1) _ ρ w1 b hI (hx.row hg0) (by omega) hhi HSB.out).mono fun e w2 h => ByE.mono h (fun w3 y hJ => ⟨(Only.of_ext hx).trans hJ.1, hJ.2⟩)
  have HRD := Lib.hid hrd
  have HX2 := Lib.hid hx2
  have HR0 := Lib.hid hr0
  have HSZ := Lib.hid hsz
  clear hrd hx2 hr0 hg0 hsz hr
  go_enter Try.func22, Try.ntmps22
  go_wp2_with fail
  refine HRD.out.mono ?_
  rintro e w3 ⟨hi, w2, y, hhi, ⟨ho, hm⟩, ho2, he⟩
  rw [HSZ.out] at hhi ho2
  have hb : ∀ k, (Btw (w.heap.size + 1 + 1) hi k ∨ k = w.heap.size + 1) → w.heap.size < k := fun k h => by rcases h with h | h; have := h.1; omega; omega
  have HX3 := Lib.hid ((ho.trans (ho2.mono fun _ _ h => .inl h)).ext HX2.out (fun k h => Nat.le_of_lt (hb k h)))
  have HR3 := Lib.hid ((ho.trans (ho2.mono fun _ _ h => .inl h)).row HR0.out (fun h => absurd (hb _ h) (by omega)))
  cases e1 : rdO b with
  | er n1 =>
    rw [e1] at hm
    subst hm
    obtain rfl : e = .returned (.int .i64 (n1 : Int)) := he
    have h0 := dec14_pos HSB.out e1
    have HDN := Lib.hid (fun w' (hx : Ext w w') => decR_no (show dec14 b = (n1, Od.zero) from by unfold dec14; rw [e1]) hx)
    have d1 : ((n1 : Int) == 0) = false := by simp; omega
    have d2 : ((n1 : Int) != 0) = true := by simp; omega
    have d3 : decide ((n1 : Int) = 0) = false := decide_eq_false (by omega)
    have d4 : decide (n1 = 0) = false := decide_eq_false h0
    clear ho ho2 hb e1 hhi
    have hone : (#[.int .i64 0, .int .i64 0, .int .u64 0, .slice none 0 0] : Array Value).all (·.oneCell') = true := by simp [Value.oneCell']
    have HXF := Lib.hid (HX3.out.setRow (Nat.le_refl _) #[.int .i64 0, .int .i64 0, .int .u64 0, .slice none 0 0])
    have HGF := Lib.hid (setRow_heap w3 w.heap.size _ #[.int .i64 0, .int .i64 0, .int .u64 0, .slice none 0 0] _ _ HR3.out)
    go_wp2_with (with_reducible refine wpList_store_all rfl 32 (.tmp 2) (.tmp 12) rfl w.heap.size _ #[.int .i64 0, .int .i64 0, .int .u64 0, .slice none 0 0] rfl rfl HR3.out tx_in14x tx_size14 hone ?_)
    refine bodyPost_ret (results_tx14x Try.results22 _ _ w.heap.size 32 _ (0, 0) rfl HGF.out tx_in14x) rfl ?_
    exact HDN.out _ HXF.out
  | ok o rest =>
    rw [e1] at hm
    obtain ⟨rfl, D, n4, c4, hrow, hn4, hc4, hD, hDb⟩ := hm
    obtain rfl : e = .returned (.int .i64 (if rest = [] then 0 else 3)) := he
    by_cases hrest : rest = []
    · rw [if_pos hrest]
      have hd : dec14 b = if o.right then (0, o) else (14, Od.zero) := by unfold dec14; rw [e1]; dsimp only; rw [if_neg (by simpa using hrest)]
      obtain ⟨ok, ot, oa, om⟩ := o
      dsimp only at hrow hn4 hD
      have hrow3 := ho2.row hrow (fun h => by have := h.1; omega)
      have HG3 := Lib.hid hrow3
      have HD3 := Lib.hid (rd_only14 hD ho2 (fun q p e h0 h => by have h1 := hDb q p e (by omega); have h2 := h.2; omega))
      have HN4 := Lib.hid (And.intro hn4 hc4)
      have HDF := Lib.hid (show ∀ q p, D = some ⟨q, p, none⟩ → 0 < om.length → q ≠ w.heap.size from fun q p e h0 => by have h1 := hDb q p e (by omega); omega)
      have HV := Lib.hid (fun u => tx_valid ok ot oa n4 c4 D u)
      rw [right_is hn4] at HV
      clear ho ho2 hb e1 hhi hrow hrow3 hD hDb hn4 hc4
      go_wp2_with (with_reducible refine wpList_load_row rfl 32 (.tmp 4) rfl (w.heap.size + 1) rfl 32 #[.int .i64 ok, .int .i64 ot, .int .u64 (oa : Int), .slice D n4 c4] (0, 0) _ HG3.out Try.underlying32 rfl tx_in14x ?_)
      refine (HV.out w3).mono ?_
      rintro e w4 ⟨rfl, hx4⟩
      have HX4 := Lib.hid (HX3.out.trans hx4)
      have HR4 := Lib.hid (hx4.row HR3.out)
      have HG4 := Lib.hid (hx4.row HG3.out)
      have HD4 := Lib.hid (HD3.out.ext hx4)
      clear hx4
      by_cases ho : Od.right ⟨ok, ot, oa, om⟩
      · rw [if_pos ho] at hd
        rw [decide_eq_true ho]
        have HDEC := Lib.hid hd
        clear hd
        have HSV := Lib.hid (show (#[.int .i64 0, .int .i64 0, .int .u64 0, .slice none 0 0] : Array Value).size = (#[.int .i64 ok, .int .i64 ot, .int .u64 (oa : Int), .slice D n4 c4] : Array Value).size from rfl)
        have hone : (#[.int .i64 ok, .int .i64 ot, .int .u64 (oa : Int), .slice D n4 c4] : Array Value).all (·.oneCell') = true := by simp [Value.oneCell']
        have HXF := Lib.hid (HX4.out.setRow (Nat.le_refl _) #[.int .i64 ok, .int .i64 ot, .int .u64 (oa : Int), .slice D n4 c4])
        have HGF := Lib.hid (setRow_heap w4 w.heap.size _ #[.int .i64 ok, .int .i64 ot, .int .u64 (oa : Int), .slice D n4 c4] _ _ HR4.out)
        go_wp2_with (first | (with_reducible refine wpList_load_row rfl 32 (.tmp 4) rfl (w.heap.size + 1) rfl 32 #[.int .i64 ok, .int .i64 ot, .int .u64 (oa : Int), .slice D n4 c4] (0, 0) _ HG4.out Try.underlying32 rfl tx_in14x ?_) | (with_reducible refine wpList_store_all rfl 32 (.tmp 2) (.tmp 18) rfl w.heap.size _ #[.int .i64 ok, .int .i64 ot, .int .u64 (oa : Int), .slice D n4 c4] rfl rfl HR4.out tx_in14x HSV.out hone ?_))
        refine bodyPost_ret (results_tx14x Try.results22 _ _ w.heap.size 32 _ (0, 0) rfl HGF.out tx_in14x) rfl ?_
        unfold DecR
        rw [HDEC.out]
        exact ⟨HXF.out, D, n4, c4, rfl, HN4.out.1, HN4.out.2, HD4.out.keep (grown_block w4 w.heap.size #[.int .i64 ok, .int .i64 ot, .int .u64 (oa : Int), .slice D n4 c4]) (fun q p e h0 e2 => by injection e2 with e2; exact HDF.out q p e h0 e2)⟩
      · rw [if_neg ho] at hd
        rw [decide_eq_false ho]
        have HDN := Lib.hid (fun w' (hx : Ext w w') => decR_no hd hx)
        clear hd
        have hone : (#[.int .i64 0, .int .i64 0, .int .u64 0, .slice none 0 0] : Array Value).all (·.oneCell') = true := by simp [Value.oneCell']
        have HXF := Lib.hid (HX4.out.setRow (Nat.le_refl _) #[.int .i64 0, .int .i64 0, .int .u64 0, .slice none 0 0])
        have HGF := Lib.hid (setRow_heap w4 w.heap.size _ #[.int .i64 0, .int .i64 0, .int .u64 0, .slice none 0 0] _ _ HR4.out)
        go_wp2_with (with_reducible refine wpList_store_all rfl 32 (.tmp 2) (.tmp 17) rfl w.heap.size _ #[.int .i64 0, .int .i64 0, .int .u64 0, .slice none 0 0] rfl rfl HR4.out tx_in14x tx_size14 hone ?_)
        refine bodyPost_ret (results_tx14x Try.results22 _ _ w.heap.size 32 _ (0, 0) rfl HGF.out tx_in14x) rfl ?_
        exact HDN.out _ HXF.out
    · rw [if_neg hrest]
      have hd : dec14 b = (3, Od.zero) := by unfold dec14; rw [e1]; dsimp only; rw [if_pos hrest]
      have HDN := Lib.hid (fun w' (hx : Ext w w') => decR_no hd hx)
      clear ho ho2 hb e1 hhi hrow hD hDb hn4 hc4 hd hrest
      have hone : (#[.int .i64 0, .int .i64 0, .int .u64 0, .slice none 0 0] : Array Value).all (·.oneCell') = true := by simp [Value.oneCell']
      have HXF := Lib.hid (HX3.out.setRow (Nat.le_refl _) #[.int .i64 0, .int .i64 0, .int .u64 0, .slice none 0 0])
      have HGF := Lib.hid (setRow_heap w3 w.heap.size _ #[.int .i64 0, .int .i64 0, .int .u64 0, .slice none 0 0] _ _ HR3.out)
      go_wp2_with (with_reducible refine wpList_store_all rfl 32 (.tmp 2) (.tmp 12) rfl w.heap.size _ #[.int .i64 0, .int .i64 0, .int .u64 0, .slice none 0 0] rfl rfl HR3.out tx_in14x tx_size14 hone ?_)
      refine bodyPost_ret (results_tx14x Try.results22 _ _ w.heap.size 32 _ (0, 0) rfl HGF.out tx_in14x) rfl ?_
      exact HDN.out _ HXF.out
end Go.Proofs.Ytjifionpblpfoaa

/-
  The code's own Open of layer 16. Conditions: no more than 2^16 bytes.
-/
namespace Go.Proofs.Ytjifionpblpfoaa
open Go.RowKit
open Pol (co Sm)

theorem far_of_tx {w : World} {g : Nat} {B : Option Addr} {l : List Nat} (h : Rd w B l) (hg : w.heap[g]? = some (.cells #[.int .i64 0, .int .i64 0, .int .u64 0, .slice none 0 0] 32)) : ∀ q o, B = some ⟨q, o, none⟩ → 0 < l.length → q ≠ g := fun q o e h0 e2 => by
  obtain ⟨b, o', e3, hc⟩ := h.2 0 h0
  rw [e] at e3
  injection e3 with e3
  injection e3 with e4 e5
  subst e4 e5 e2
  rw [cell_of_row _ _ _ _ _ _ hg] at hc
  match o, hc with
  | 0, hc => simp at hc
  | 1, hc => simp at hc
  | 2, hc => simp at hc
  | 3, hc => simp at hc
  | n + 4, hc => simp at hc
set_option maxHeartbeats 6400000 in
set_option maxRecDepth 100000 in
theorem ev_open (s : Int) (nn f x kb c : Nat) (b p : List Nat) (A B : Option Addr) (np cp : Nat) (w : World) (hk : b.length = kb) (hr : Rd w A b) (hp : p.length = np) (hq : Rd w B p) :
    Calls Try.prog 8 #[evv s nn f x A kb c, .slice B np cp] w (OdR (open16 ⟨s, nn, f, x, b⟩ p) w) := by
  have hx2 := ((Ext.refl w).alloc (.cells #[.int .i64 s, .int .u64 (nn : Int), .int .u64 (f : Int), .int .u64 (x : Int), .slice A kb c] 25)).alloc (.cells #[.int .i64 0, .int .i64 0, .int .u64 0, .slice none 0 0] 32)
  have hg0 : ((w.alloc (.cells #[.int .i64 s, .int .u64 (nn : Int), .int .u64 (f : Int), .int .u64 (x : Int), .slice A kb c] 25)).alloc (.cells #[.int .i64 0, .int .i64 0, .int .u64 0, .slice none 0 0] 32)).heap[w.heap.size]? = some (.cells #[.int .i64 s, .int .u64 (nn : Int), .int .u64 (f : Int), .int .u64 (x : Int), .slice A kb c] 25) := by
    rw [heap_alloc_old _ _ (by simp)]
    exact heap_alloc_new w _
  have hr0 : ((w.alloc (.cells #[.int .i64 s, .int .u64 (nn : Int), .int .u64 (f : Int), .int .u64 (x : Int), .slice A kb c] 25)).alloc (.cells #[.int .i64 0, .int .i64 0, .int .u64 0, .slice none 0 0] 32)).heap[w.heap.size + 1]? = some (.cells #[.int .i64 0, .int .i64 0, .int .u64 0, .slice none 0 0] 32) := by
    have h := heap_alloc_new (w.alloc (.cells #[.int .i64 s, .int .u64 (nn : Int), .int .u64 (f : Int), .int .u64 (x : Int), .slice A kb c] 25)) (.cells #[.int .i64 0, .int .i64 0, .int .u64 0, .slice none 0 0] 32)
    rwa [show (w.alloc (.cells #[.int .i64 s, .int .u64 (nn : Int), .int .u64 (f : Int), .int .u64 (x : Int), .slice A kb c] 25)).heap.size = w.heap.size + 1 from by simp] at h
  have HX := Lib.hid hx2
  have HG := Lib.hid hg0
  have HR := Lib.hid hr0
  have HK := Lib.hid hk
  have HP := Lib.hid hp
  have HB := Lib.hid hr
  have HQ := Lib.hid hq
  have HCK := Lib.hid (fun u => ev_check s nn f x kb c b A u hk)
  obtain ⟨ck, hck⟩ : ∃ q, (Ev.mk s nn f x b).chk = q := ⟨_, rfl⟩
  rw [hck] at HCK
  have HC := Lib.hid hck
  clear hx2 hg0 hr0 hr hp hq hck hk
  go_enter Try.func8, Try.ntmps8
  go_wp2_with (with_reducible refine wpList_load_row rfl 25 (.tmp 2) rfl (w.heap.size) rfl 25 #[.int .i64 s, .int .u64 (nn : Int), .int .u64 (f : Int), .int .u64 (x : Int), .slice A kb c] (0, 0) _ HG.out Try.underlying25 rfl ev_in16 ?_)
  refine (HCK.out _).mono ?_
  rintro e w1 ⟨rfl, hx1⟩
  replace HX := Lib.hid (HX.out.trans hx1)
  replace HR := Lib.hid (hx1.row HR.out)
  replace HG := Lib.hid (hx1.row HG.out)
  clear hx1 HCK
  by_cases hc0 : ck = 0
  rotate_left
  · skip
    have d1 : ((ck : Int) == 0) = false := by simp; omega
    have d2 : ((ck : Int) != 0) = true := by simp; omega
    have d3 : decide ((ck : Int) = 0) = false := decide_eq_false (by omega)
    have d4 : decide (ck = 0) = false := decide_eq_false (by omega)
    have HDN := Lib.hid (fun w' (hx : Ext w w') => odR_no (r := open16 ⟨s, nn, f, x, b⟩ p) (m := ck) (by rw [open16_chk (by rw [HC.out]; exact hc0), HC.out]) hx)
    have hone : (#[.int .i64 0, .int .i64 0, .int .u64 0, .slice none 0 0] : Array Value).all (·.oneCell') = true := by simp [Value.oneCell']
    have HXF := Lib.hid (HX.out.setRow (g := w.heap.size + 1) (by omega) #[.int .i64 0, .int .i64 0, .int .u64 0, .slice none 0 0])
    have HGF := Lib.hid (setRow_heap w1 (w.heap.size + 1) _ #[.int .i64 0, .int .i64 0, .int .u64 0, .slice none 0 0] _ _ HR.out)
    go_wp2_with (with_reducible refine wpList_store_all rfl 32 (.tmp 4) (.tmp 15) rfl (w.heap.size + 1) _ #[.int .i64 0, .int .i64 0, .int .u64 0, .slice none 0 0] rfl rfl HR.out tx_in16x tx_size14 hone ?_)
    refine bodyPost_ret (results_tx14x Try.results8 _ _ (w.heap.size + 1) 32 _ (0, 0) rfl HGF.out tx_in16x) rfl ?_
    exact HDN.out _ HXF.out
  subst hc0
  have hok := Ev.chk_ok.1 HC.out
  have hb1 : 1 ≤ kb := by have h := hok.2.2.2.1; dsimp only at h; rw [HK.out] at h; exact h
  have hb2 : kb ≤ 32 := by have h := hok.2.2.2.2; dsimp only at h; rw [HK.out] at h; exact h
  have q4 := cell_of_row _ w.heap.size 4 _ _ _ HG.out
  clear hok
  by_cases hnp : np = kb
  rotate_left
  · have HSE := Lib.hid (show Calls Try.prog 16 #[.slice A kb c, .slice B np cp] w1 (GivesE [] 1 w1) from j_seal _ _ _ _ w1 (j_sum_no kb np A B c cp w1 (fun h => hnp h.symm)))
    unfold GivesE at HSE
    go_wp2_with fail
    refine HSE.out.mono ?_
    rintro e w2 ⟨v2, rfl, hs2, hx2⟩
    replace HX := Lib.hid (HX.out.trans hx2)
    replace HR := Lib.hid (hx2.row HR.out)
    obtain ⟨B2, c2, rfl, _, _⟩ := hs2
    clear hx2 q4
    have HDN := Lib.hid (fun w' (hx : Ext w w') => odR_no (r := open16 ⟨s, nn, f, x, b⟩ p) (m := 1) (open16_len (e := ⟨s, nn, f, x, b⟩) (p := p) HC.out (by dsimp only; rw [HP.out, HK.out]; exact hnp)) hx)
    have hone : (#[.int .i64 0, .int .i64 0, .int .u64 0, .slice none 0 0] : Array Value).all (·.oneCell') = true := by simp [Value.oneCell']
    have HXF := Lib.hid (HX.out.setRow (g := w.heap.size + 1) (by omega) #[.int .i64 0, .int .i64 0, .int .u64 0, .slice none 0 0])
    have HGF := Lib.hid (setRow_heap w2 (w.heap.size + 1) _ #[.int .i64 0, .int .i64 0, .int .u64 0, .slice none 0 0] _ _ HR.out)
    go_wp2_with (with_reducible refine wpList_store_all rfl 32 (.tmp 4) (.tmp 26) rfl (w.heap.size + 1) _ #[.int .i64 0, .int .i64 0, .int .u64 0, .slice none 0 0] rfl rfl HR.out tx_in16x tx_size14 hone ?_)
    refine bodyPost_ret (results_tx14x Try.results8 _ _ (w.heap.size + 1) 32 _ (0, 0) rfl HGF.out tx_in16x) rfl ?_
    exact HDN.out _ HXF.out
  subst hnp
  have HPL := Lib.hid (show p.length = (Ev.mk s nn f x b).b.length from HP.out.trans HK.out.symm)
  have HSE := Lib.hid (show Calls Try.prog 16 #[.slice A np c, .slice B np cp] w1 (GivesE (lx b p) 0 w1) from by
    have h := j_seal _ _ _ _ w1 (j_sum b p A B c cp w1 (HB.out.ext HX.out) (HQ.out.ext HX.out) (by rw [HK.out]; omega) (by rw [HK.out, HP.out]))
    rwa [HK.out, HP.out] at h)
  unfold GivesE at HSE
  go_wp2_with fail
  refine HSE.out.mono ?_
  rintro e w2 ⟨v2, rfl, hs2, hx2⟩
  replace HX := Lib.hid (HX.out.trans hx2)
  replace HR := Lib.hid (hx2.row HR.out)
  obtain ⟨B2, c2, rfl, hc2, hr2⟩ := hs2
  have hll : (lx b p).length = np := by rw [lx_len, HK.out]
  have HST := Lib.hid (j_strip (lx b p) B2 c2 w2 hr2 hc2 (by rw [hll]; exact ⟨hb1, by omega⟩))
  rw [hll] at HST ⊢
  have HSM := Lib.hid hr2.1
  clear hx2 q4 HSE hc2 hr2 HG
  go_wp2_with fail
  refine HST.out.mono ?_
  rintro e w3 (⟨ht, v3, rfl, hs3, hx3⟩ | ⟨ht, v3, rfl, hs3, hx3⟩)
  rotate_left
  · replace HX := Lib.hid (HX.out.trans hx3)
    replace HR := Lib.hid (hx3.row HR.out)
    obtain ⟨B3, c3, rfl, _, _⟩ := hs3
    clear hx3 HST
    have HDN := Lib.hid (fun w' (hx : Ext w w') => odR_no (r := open16 ⟨s, nn, f, x, b⟩ p) (m := 15) (open16_tail HC.out HPL.out ht) hx)
    have hone : (#[.int .i64 0, .int .i64 0, .int .u64 0, .slice none 0 0] : Array Value).all (·.oneCell') = true := by simp [Value.oneCell']
    have HXF := Lib.hid (HX.out.setRow (g := w.heap.size + 1) (by omega) #[.int .i64 0, .int .i64 0, .int .u64 0, .slice none 0 0])
    have HGF := Lib.hid (setRow_heap w3 (w.heap.size + 1) _ #[.int .i64 0, .int .i64 0, .int .u64 0, .slice none 0 0] _ _ HR.out)
    go_wp2_with (with_reducible refine wpList_store_all rfl 32 (.tmp 4) (.tmp 35) rfl (w.heap.size + 1) _ #[.int .i64 0, .int .i64 0, .int .u64 0, .slice none 0 0] rfl rfl HR.out tx_in16x tx_size14 hone ?_)
    refine bodyPost_ret (results_tx14x Try.results8 _ _ (w.heap.size + 1) 32 _ (0, 0) rfl HGF.out tx_in16x) rfl ?_
    exact HDN.out _ HXF.out
  replace HX := Lib.hid (HX.out.trans hx3)
  replace HR := Lib.hid (hx3.row HR.out)
  obtain ⟨B3, c3, rfl, hc3, hr3⟩ := hs3
  have hsl : (strp (lx b p)).length ≤ 32 := by rw [strp_len]; have h1 := ht.1; rw [hll] at h1; omega
  have HOD := Lib.hid (open16_dec (e := ⟨s, nn, f, x, b⟩) (p := p) HC.out HPL.out ht)
  obtain ⟨T3, hT3⟩ : ∃ q, strp (lx b p) = q := ⟨_, rfl⟩
  rw [show strp (lx (Ev.mk s nn f x b).b p) = T3 from hT3] at HOD
  rw [hT3] at hr3 hc3 hsl ⊢
  obtain ⟨n3, hn3⟩ : ∃ q, T3.length = q := ⟨_, rfl⟩
  rw [hn3] at hc3 hsl ⊢
  have HDE := Lib.hid (tx_decode T3 B3 n3 c3 w3 hn3 hr3 (by omega))
  unfold DecR at HDE
  clear hx3 HST hr3 hc3 ht hT3 hn3 hsl hll
  go_wp2_with fail
  refine HDE.out.mono ?_
  rintro e w4 ⟨hx4, B4, k4, c4, rfl, hk4, hc4, hr4⟩
  replace HX := Lib.hid (HX.out.trans hx4)
  replace HR := Lib.hid (hx4.row HR.out)
  obtain ⟨dc, hdc⟩ : ∃ q, dec14 T3 = q := ⟨_, rfl⟩
  rw [hdc] at hk4 hr4 HOD ⊢
  obtain ⟨z, ok, ot, oa, om⟩ := dc
  dsimp only at hk4 hr4 HOD ⊢
  have HFF := Lib.hid (far_of_tx hr4 HR.out)
  have hxa := (Ext.refl w4).alloc (.cells #[.int .i64 ok, .int .i64 ot, .int .u64 (oa : Int), .slice B4 k4 c4] 32)
  have HZ4 := Lib.hid (heap_alloc_new w4 (.cells #[.int .i64 0, .int .i64 0, .int .u64 0, .slice none 0 0] 32))
  have HSV := Lib.hid (show (#[.int .i64 0, .int .i64 0, .int .u64 0, .slice none 0 0] : Array Value).size = (#[.int .i64 ok, .int .i64 ot, .int .u64 (oa : Int), .slice B4 k4 c4] : Array Value).size from rfl)
  have hone5 : (#[.int .i64 ok, .int .i64 ot, .int .u64 (oa : Int), .slice B4 k4 c4] : Array Value).all (·.oneCell') = true := by simp [Value.oneCell']
  have HXa := Lib.hid (HX.out.trans hxa)
  have HRa := Lib.hid (hxa.row HR.out)
  have HVa := Lib.hid (heap_alloc_new w4 (.cells #[.int .i64 ok, .int .i64 ot, .int .u64 (oa : Int), .slice B4 k4 c4] 32))
  have HBa := Lib.hid (hr4.ext hxa)
  have HK4 := Lib.hid (And.intro hk4 hc4)
  clear hx4 hk4 hc4 hr4 hdc hxa HDE
  by_cases hz : z = 0
  · subst hz
    have hod := HOD.out
    rw [if_neg (by simp)] at hod
    have HDN := Lib.hid hod
    clear hod
    have HXF := Lib.hid (HXa.out.setRow (g := w.heap.size + 1) (by omega) #[.int .i64 ok, .int .i64 ot, .int .u64 (oa : Int), .slice B4 k4 c4])
    have HGF := Lib.hid (setRow_heap _ (w.heap.size + 1) _ #[.int .i64 ok, .int .i64 ot, .int .u64 (oa : Int), .slice B4 k4 c4] _ _ HRa.out)
    go_wp2_with (first | (with_reducible refine wpList_store_all rfl 32 (.tmp 10) (.tmp 39) rfl w4.heap.size _ #[.int .i64 ok, .int .i64 ot, .int .u64 (oa : Int), .slice B4 k4 c4] rfl rfl HZ4.out tx_in16x HSV.out hone5 ?_; rw [World.setRow_alloc_new]) | (with_reducible refine wpList_load_row rfl 32 (.tmp 10) rfl (w4.heap.size) rfl 32 #[.int .i64 ok, .int .i64 ot, .int .u64 (oa : Int), .slice B4 k4 c4] (0, 0) _ HVa.out Try.underlying32 rfl tx_in16x ?_) | (with_reducible refine wpList_store_all rfl 32 (.tmp 4) (.tmp 44) rfl (w.heap.size + 1) _ #[.int .i64 ok, .int .i64 ot, .int .u64 (oa : Int), .slice B4 k4 c4] rfl rfl HRa.out tx_in16x HSV.out hone5 ?_))
    refine bodyPost_ret (results_tx14x Try.results8 _ _ (w.heap.size + 1) 32 _ (0, 0) rfl HGF.out tx_in16x) rfl ?_
    unfold OdR
    rw [HDN.out]
    exact ⟨HXF.out, B4, k4, c4, rfl, HK4.out.1, HK4.out.2, HBa.out.keep (grown_block _ (w.heap.size + 1) #[.int .i64 ok, .int .i64 ot, .int .u64 (oa : Int), .slice B4 k4 c4]) (fun q o e h0 e2 => by injection e2 with e2; exact HFF.out q o e h0 e2)⟩
  · have hod := HOD.out
    rw [if_pos hz] at hod
    have HMN := Lib.hid hod
    have d1 : ((z : Int) == 0) = false := by simp; omega
    have d2 : ((z : Int) != 0) = true := by simp; omega
    have d3 : decide ((z : Int) = 0) = false := decide_eq_false (by omega)
    have d4 : decide (z = 0) = false := decide_eq_false (by omega)
    clear hod hz
    have HDN := Lib.hid (fun w' (hx : Ext w w') => odR_no (r := open16 ⟨s, nn, f, x, b⟩ p) (m := 15) (HMN.out) hx)
    have hone : (#[.int .i64 0, .int .i64 0, .int .u64 0, .slice none 0 0] : Array Value).all (·.oneCell') = true := by simp [Value.oneCell']
    have HXF := Lib.hid (HXa.out.setRow (g := w.heap.size + 1) (by omega) #[.int .i64 0, .int .i64 0, .int .u64 0, .slice none 0 0])
    have HGF := Lib.hid (setRow_heap _ (w.heap.size + 1) _ #[.int .i64 0, .int .i64 0, .int .u64 0, .slice none 0 0] _ _ HRa.out)
    go_wp2_with (first | (with_reducible refine wpList_store_all rfl 32 (.tmp 10) (.tmp 39) rfl w4.heap.size _ #[.int .i64 ok, .int .i64 ot, .int .u64 (oa : Int), .slice B4 k4 c4] rfl rfl HZ4.out tx_in16x HSV.out hone5 ?_; rw [World.setRow_alloc_new]) | (with_reducible refine wpList_store_all rfl 32 (.tmp 4) (.tmp 43) rfl (w.heap.size + 1) _ #[.int .i64 0, .int .i64 0, .int .u64 0, .slice none 0 0] rfl rfl HRa.out tx_in16x tx_size14 hone ?_))
    refine bodyPost_ret (results_tx14x Try.results8 _ _ (w.heap.size + 1) 32 _ (0, 0) rfl HGF.out tx_in16x) rfl ?_
    exact HDN.out _ HXF.out
end Go.Proofs.Ytjifionpblpfoaa

/-
  Layer 16's own functions check, make and open envelopes as they are to. Conditions: those of EnvMk.
-/
namespace Go.Proofs.Ytjifionpblpfoaa
open Go.RowKit
open Pol (co Sm)

theorem envMk : EnvMk where
  check := fun s n f x k c b A w hk _ _ _ _ _ _ => ev_check s n f x k c b A w hk
  make := fun s nn f x k t a n c m p A B np cp w hn _ hr hl ha hp _ hq hlp _ _ _ => ev_make s nn f x k t a n c m p A B np cp w hn hr hl ha hp hq hlp
  opens := fun s nn f x kb c b p A B np cp w hk _ hr _ hp _ hq _ _ _ _ => ev_open s nn f x kb c b p A B np cp w hk hr hp hq
end Go.Proofs.Ytjifionpblpfoaa

/-
  An argument that is a slice of bytes, or of points, reads as a list. Conditions: none.
-/
namespace Go.Proofs.Ytjifionpblpfoaa
open Go.RowKit
open Go.ChangeShapes Go.WideShapes Go.ChangeAt
open Pol (co Sm)

section
variable {H : Type} {enc : TypeId × Value → H} {w : World} {base : Nat} {spare : Nat → Bool} {held : Bool}
theorem open_bytes {fuel len cap : Nat} {a : Option Addr} {x : DataW H × List MemPlace} (h : DataW.trod enc Try.prog w base spare held fuel 23 [.slice a len cap] = some x) :
    ∃ l : List Nat, l.length = len ∧ len ≤ cap ∧ Rd w a l := by
  rcases open_ints Try.underlying23 Try.underlying5 (by kernel_rfl) h with ⟨hcs, _⟩ | ⟨a', len', cap', zs, hcs, _, hl, _, hz, _, hcell, hwz⟩
  · simp at hcs
    obtain ⟨rfl, rfl, rfl⟩ := hcs
    exact ⟨[], rfl, Nat.le_refl _, Rd.nil _ _⟩
  · simp at hcs
    obtain ⟨rfl, rfl, rfl⟩ := hcs
    have hlz : len ≤ zs.length := by rw [hz]; split <;> omega
    have hnat : ∀ i, i < zs.length → ∃ n : Nat, zs.getD i 0 = (n : Int) ∧ n < 256 := fun i hi => by
      have hm : zs.getD i 0 ∈ zs := by rw [List.getD_eq_getElem?_getD, List.getElem?_eq_getElem hi]; exact List.getElem_mem hi
      exact nat_u8 (hwz _ hm)
    refine ⟨(List.range len).map (fun i => (zs.getD i 0).toNat), by simp, hl, ?_, fun i hi => ?_⟩
    · refine Pol.co_lt_of (fun v hv => ?_)
      obtain ⟨i, hi, rfl⟩ := List.mem_map.1 hv
      obtain ⟨n, hn, hn'⟩ := hnat i (by have := List.mem_range.1 hi; omega)
      show (zs.getD i 0).toNat < 256
      rw [hn]; omega
    · have hi' : i < len := by simpa using hi
      obtain ⟨b, o, rfl, hc⟩ := ints_at hcell (by omega)
      refine ⟨b, o, rfl, ?_⟩
      rw [hc i (by omega)]
      obtain ⟨n, hn, _⟩ := hnat i (by omega)
      congr 2
      unfold co
      rw [List.getElem?_map, List.getElem?_range hi']
      show zs.getD i 0 = (((zs.getD i 0).toNat : Nat) : Int)
      rw [hn]; omega
end
end Go.Proofs.Ytjifionpblpfoaa

/-
  An envelope that comes in by value. Conditions: none.
-/
namespace Go.Proofs.Ytjifionpblpfoaa
open Go.RowKit
open Go.ChangeShapes Go.WideShapes Go.ChangeAt
open Pol (co Sm)

section
variable {H : Type} {enc : TypeId × Value → H} {w : World} {base : Nat} {spare : Nat → Bool} {held : Bool}
theorem env_bytes {fuel : Nat} {v : Value} {x : DataW H × List MemPlace} (h : DataW.trod enc Try.prog w base spare held fuel 23 [v] = some x) :
    ∃ (q : List Nat) (B : Option Addr) (c : Nat), v = .slice B q.length c ∧ q.length ≤ c ∧ Rd w B q := by
  obtain ⟨B, n, c, hv⟩ : ∃ B n c, v = .slice B n c := by
    rcases Go.Deep.open_slice Try.underlying23 h with ⟨e, _⟩ | ⟨a2, l2, c2, _, _, _, _, e, _⟩
    · exact ⟨none, 0, 0, by simpa using e⟩
    · exact ⟨some a2, l2, c2, by simpa using e⟩
  subst hv
  obtain ⟨q, hq, hqc, hqr⟩ := open_bytes h
  exact ⟨q, B, c, by rw [hq], by rw [hq]; exact hqc, hqr⟩
set_option maxRecDepth 100000 in
/-- One envelope, by its five cells. -/
theorem open_envc {fuel : Nat} {cs : List Value} {x : DataW H × List MemPlace} (h : DataW.trod enc Try.prog w base spare held fuel 25 cs = some x) :
    ∃ (s : Int) (n f x k c : Nat) (m : List Nat) (B : Option Addr), cs = [.int .i64 s, .int .u64 (n : Int), .int .u64 (f : Int), .int .u64 (x : Int), .slice B k c] ∧ m.length = k ∧ k ≤ c ∧ n < 18446744073709551616 ∧ f < 18446744073709551616 ∧ x < 18446744073709551616 ∧ Rd w B m := by
  obtain ⟨xs, m, _, _, hl, hxl, hf⟩ := DataW.trod_struct Try.underlying25 h
  have hc : cs.length = 5 := by rw [hl]; kernel_rfl
  have ci : Try.prog.cellsOf 3 = 1 := by kernel_rfl
  have cu : Try.prog.cellsOf 22 = 1 := by kernel_rfl
  have cb : Try.prog.cellsOf 23 = 1 := by kernel_rfl
  match cs, hc with
  | [v0, v1, v2, v3, v4], _ =>
    match xs, hxl with
    | [y0, y1, y2, y3, y4], _ =>
      have g0 := hf 0 _ rfl
      have g1 := hf 1 _ rfl
      have g2 := hf 2 _ rfl
      have g3 := hf 3 _ rfl
      have g4 := hf 4 _ rfl
      simp [ci, cu, cb] at g0 g1 g2 g3 g4
      obtain ⟨s, e0, _, _⟩ := DataW.trod_int Try.underlying3 g0
      obtain ⟨z1, e1, _, w1⟩ := DataW.trod_int Try.underlying22 g1
      obtain ⟨z2, e2, _, w2⟩ := DataW.trod_int Try.underlying22 g2
      obtain ⟨z3, e3, _, w3⟩ := DataW.trod_int Try.underlying22 g3
      obtain ⟨n, rfl, hn⟩ := nat_u64 w1
      obtain ⟨f, rfl, hff⟩ := nat_u64 w2
      obtain ⟨x, rfl, hx⟩ := nat_u64 w3
      obtain ⟨q, B, c, rfl, h1, h2⟩ := env_bytes g4
      simp only [List.cons.injEq, and_true] at e0 e1 e2 e3
      subst e0; subst e1; subst e2; subst e3
      exact ⟨s, n, f, x, q.length, c, q, B, rfl, rfl, h1, hn, hff, hx, h2⟩
set_option maxRecDepth 100000 in
/-- An envelope by value. -/
theorem open_env {r : Reach} {b0 : Nat} {v : Value} {d : DataW H} {p : List MemPlace} (hv : Value.okWide Try.prog w r b0 25 v) (h : DataW.Trod enc Try.prog w base spare held 25 v d p) :
    ∃ (s : Int) (n f x k c : Nat) (m : List Nat) (B : Option Addr), v = .agg #[.int .i64 s, .int .u64 (n : Int), .int .u64 (f : Int), .int .u64 (x : Int), .slice B k c] ∧ m.length = k ∧ k ≤ c ∧ n < 18446744073709551616 ∧ f < 18446744073709551616 ∧ x < 18446744073709551616 ∧ Rd w B m := by
  obtain ⟨cs, rfl, _⟩ := okWide_struct Try.underlying25 hv
  obtain ⟨fuel, hf⟩ := h
  have hf' : DataW.trod enc Try.prog w base spare held fuel 25 cs.toList = some (d, p) := by simpa [Value.cells] using hf
  obtain ⟨s, n, f, x, k, c, m, B, e, hm, hk, hn, hff, hx, hr⟩ := open_envc hf'
  refine ⟨s, n, f, x, k, c, m, B, ?_, hm, hk, hn, hff, hx, hr⟩
  rw [← Array.toArray_toList (xs := cs), e]
end
end Go.Proofs.Ytjifionpblpfoaa

/-
  Slices of orders that read as a list. Conditions: none.
-/
namespace Go.Proofs.Ytjifionpblpfoaa
open Go.RowKit
open Pol (co Sm)

def od (l : List Od) (i : Nat) : Od := l[i]?.getD Od.zero
/-- Where an order lies. -/
def TxAt (b o : Nat) (k t : Int) (a : Nat) (B : Option Addr) (n c : Nat) (W : World) : Prop :=
  W.cell? ⟨b, o, none⟩ = some (.int .i64 k) ∧ W.cell? ⟨b, o + 1, none⟩ = some (.int .i64 t) ∧ W.cell? ⟨b, o + 2, none⟩ = some (.int .u64 (a : Int)) ∧ W.cell? ⟨b, o + 3, none⟩ = some (.slice B n c)
theorem TxAt.ext {b o : Nat} {k t : Int} {a : Nat} {B : Option Addr} {n c : Nat} {W W' : World} (h : TxAt b o k t a B n c W) (hx : Ext W W') : TxAt b o k t a B n c W' := ⟨hx.at h.1, hx.at h.2.1, hx.at h.2.2.1, hx.at h.2.2.2⟩
/-- From address A on lie these orders. -/
def XRd (w : World) (A : Option Addr) (l : List Od) : Prop :=
  ∀ i, i < l.length → ∃ b o B c, A = some ⟨b, o, none⟩ ∧ TxAt b (o + i * 4) (od l i).k (od l i).t (od l i).a B (od l i).m.length c w ∧ (od l i).m.length ≤ c ∧ Rd w B (od l i).m ∧ (od l i).a < 18446744073709551616
theorem XRd.at {w w' : World} {A : Option Addr} {l : List Od} (h : XRd w A l) (hx : Ext w w') {i : Nat} (hi : i < l.length) :
    ∃ b o B c, A = some ⟨b, o, none⟩ ∧ (∀ W, Ext w' W → TxAt b (o + i * 4) (od l i).k (od l i).t (od l i).a B (od l i).m.length c W) ∧ (od l i).m.length ≤ c ∧ Rd w' B (od l i).m ∧ (od l i).a < 18446744073709551616 := by
  obtain ⟨b, o, B, c, e, h1, h2, h3, h4⟩ := h i hi
  exact ⟨b, o, B, c, e, fun W hW => h1.ext (hx.trans hW), h2, h3.ext hx, h4⟩
end Go.Proofs.Ytjifionpblpfoaa

/-
  Slices of uint64 that read as a list; of a call's own: appended to, written. Conditions: the lengths add up to no more than 2^40.
-/
namespace Go.Proofs.Ytjifionpblpfoaa
open Go.RowKit
open Pol (co)

theorem u64_info : (Try.prog.info? 22).map (fun i => (i.zero, i.size, i.bytes)) = some (some (.int .u64 0), 1, 8) := by kernel_rfl
def uv (l : List Nat) : List Value := l.map fun x : Nat => Value.int .u64 (x : Int)
theorem uv_len (l : List Nat) : (uv l).length = l.length := by simp [uv]
theorem uv_at (l : List Nat) (i : Nat) (h : i < l.length) : (uv l)[i]? = some (.int .u64 ((co l i : Nat) : Int)) := by simp [uv, co, List.getElem?_eq_getElem h]
theorem uv_one (l : List Nat) : ∀ u ∈ uv l, u.oneCell' = true := by
  intro u hu
  obtain ⟨x, _, rfl⟩ := List.mem_map.1 hu
  rfl
theorem uv_append (l m : List Nat) : uv (l ++ m) = uv l ++ uv m := by simp [uv]
/-- Each is a number of 64 bits. -/
def U64 (l : List Nat) : Prop := ∀ i, co l i < 18446744073709551616
/-- From address A on lie the numbers l. -/
def URd (w : World) (A : Option Addr) (l : List Nat) : Prop := U64 l ∧ ∀ i, i < l.length → ∃ b o, A = some ⟨b, o, none⟩ ∧ w.cell? ⟨b, o + i, none⟩ = some (.int .u64 ((co l i : Nat) : Int))
theorem URd.ext {w w' : World} {A : Option Addr} {l : List Nat} (h : URd w A l) (hx : Ext w w') : URd w' A l := ⟨h.1, fun i hi => by
  obtain ⟨b, o, e, hc⟩ := h.2 i hi
  exact ⟨b, o, e, hx.at hc⟩⟩
theorem URd.nil (w : World) (A : Option Addr) : URd w A [] := ⟨fun i => by unfold co; simp, fun i hi => absurd hi (by simp)⟩
/-- A slice of numbers of the call's own. -/
def UMine (w : World) (base : Nat) (v : Value) (l : List Nat) : Prop := w.ownsRow base 22 1 v l.length (uv l)
theorem UMine.nil (w : World) (base : Nat) : UMine w base (.slice none 0 0) [] := World.ownsRow_nil w base _ _
theorem umine_empty (w : World) : UMine (w.alloc (.cells #[] 22)) w.heap.size (.slice (some ⟨w.heap.size, 0, none⟩) 0 0) [] := World.ownsRow_lit w #[] 0 (Nat.le_refl _) (Nat.zero_le _) rfl
theorem UMine.slice {w : World} {base : Nat} {v : Value} {l : List Nat} (h : UMine w base v l) (hu : U64 l) : ∃ B c, v = .slice B l.length c ∧ l.length ≤ c ∧ URd w B l := by
  rcases h.2 with ⟨rfl, hn⟩ | ⟨g, cap, cur, rfl, _, hg, hnc, _, _, htake⟩
  · have : l = [] := List.eq_nil_of_length_eq_zero hn
    subst this
    exact ⟨none, 0, rfl, Nat.le_refl _, URd.nil _ _⟩
  · refine ⟨_, cap, rfl, hnc, hu, fun i hi => ⟨g, 0, rfl, ?_⟩⟩
    rw [Nat.zero_add, cell_of_row w g i cur _ _ hg, ← uv_at l i hi, ← htake, List.getElem?_take, if_pos (by omega)]
    simp
theorem UMine.ext {w w' : World} {base : Nat} {v : Value} {l : List Nat} (h : UMine w base v l) (hx : Ext w w') : UMine w' base v l :=
  World.ownsRow.kept h (row := none) ⟨hx.below.os, hx.below.tape, hx.below.output, hx.below.size, fun k hk _ => hx.below.block k hk⟩ (by
    cases hb : v.ownBlock with
    | none => exact .inl rfl
    | some k => exact .inr (by simp))
theorem UMine.keep {w w' : World} {base : Nat} {v : Value} {l : List Nat} {row : Option Nat} (h : UMine w base v l) (hg : w.grownBy w' row) (hne : ∀ k, v.ownBlock = some k → some k ≠ row) : UMine w' base v l :=
  World.ownsRow.kept h hg (by
    cases hb : v.ownBlock with
    | none => exact .inl rfl
    | some k => exact .inr (hne k hb))
theorem UMine.block {w : World} {base : Nat} {v : Value} {l : List Nat} (h : UMine w base v l) : ∀ k, v.ownBlock = some k → base ≤ k ∧ k < w.heap.size := fun k hk => World.ownsRow.lt h k hk
theorem UMine.down {w : World} {base base' : Nat} {v : Value} {l : List Nat} (h : UMine w base v l) (hb : base' ≤ base) : UMine w base' v l :=
  ⟨h.1, h.2.imp id fun ⟨g, cap, cur, h1, h2, h3⟩ => ⟨g, cap, cur, h1, Nat.le_trans hb h2, h3⟩⟩
/-- A number is put into numbers of a call's own. -/
theorem UMine.put {w : World} {base g n c i x : Nat} {l : List Nat} (h : UMine w base (.slice (some ⟨g, 0, none⟩) n c) l) : UMine (w.setCell ⟨g, i, none⟩ (.int .u64 (x : Int))) base (.slice (some ⟨g, 0, none⟩) n c) (l.set i x) := by
  rcases h.2 with ⟨e, _⟩ | ⟨g', cap, cur, e, hb, hg, hnc, hcm, hcs, ht⟩
  · cases e
  · injection e with e1 e2 e3
    injection e1 with e1
    injection e1 with e1
    subst e1; subst e3
    refine ⟨by rw [uv_len, List.length_set, Nat.mul_one], .inr ⟨g, c, cur.setIfInBounds i (.int .u64 (x : Int)), by rw [List.length_set, e2], hb, heap_setCell_same w g i cur _ _ hg, by rw [List.length_set]; exact hnc, hcm, by simpa using hcs, ?_⟩⟩
    rw [List.length_set, Array.toList_setIfInBounds, List.take_set, ht]
    unfold uv
    rw [List.map_set]
theorem UMine.spot {w : World} {base : Nat} {v : Value} {l : List Nat} (h : UMine w base v l) {i : Nat} (hi : i < l.length) : ∃ g n c, v = .slice (some ⟨g, 0, none⟩) n c ∧ base ≤ g ∧ w.cell? ⟨g, i, none⟩ = some (.int .u64 ((co l i : Nat) : Int)) ∧ w.frozen? ⟨g, i, none⟩ = false := by
  rcases h.2 with ⟨rfl, hn⟩ | ⟨g, cap, cur, rfl, hb, hg, hnc, _, _, htake⟩
  · omega
  · refine ⟨g, _, cap, rfl, hb, ?_, frozen_of_row w g i cur _ hg⟩
    rw [cell_of_row w g i cur _ _ hg, ← uv_at l i hi, ← htake, List.getElem?_take, if_pos (by omega)]
    simp
end Go.Proofs.Ytjifionpblpfoaa

/-
  An argument that is a slice of uint64 reads as a list of numbers. Conditions: none.
-/
namespace Go.Proofs.Ytjifionpblpfoaa
open Go.RowKit
open Go.ChangeShapes Go.WideShapes Go.ChangeAt
open Pol (co)

section
variable {H : Type} {enc : TypeId × Value → H} {w : World} {base : Nat} {spare : Nat → Bool} {held : Bool}
end
end Go.Proofs.Ytjifionpblpfoaa

/-
  An order that comes in, and a slice of them that reads as a list. Conditions: none.
-/
namespace Go.Proofs.Ytjifionpblpfoaa
open Go.RowKit
open Go.ChangeShapes Go.WideShapes Go.ChangeAt
open Pol (co Sm)

section
variable {H : Type} {enc : TypeId × Value → H} {w : World} {base : Nat} {spare : Nat → Bool} {held : Bool}
theorem tx_bytes {fuel : Nat} {v : Value} {x : DataW H × List MemPlace} (h : DataW.trod enc Try.prog w base spare held fuel 23 [v] = some x) :
    ∃ (q : List Nat) (B : Option Addr) (c : Nat), v = .slice B q.length c ∧ q.length ≤ c ∧ Rd w B q := by
  obtain ⟨B, n, c, hv⟩ : ∃ B n c, v = .slice B n c := by
    rcases Go.Deep.open_slice Try.underlying23 h with ⟨e, _⟩ | ⟨a2, l2, c2, _, _, _, _, e, _⟩
    · exact ⟨none, 0, 0, by simpa using e⟩
    · exact ⟨some a2, l2, c2, by simpa using e⟩
  subst hv
  obtain ⟨q, hq, hqc, hqr⟩ := open_bytes h
  exact ⟨q, B, c, by rw [hq], by rw [hq]; exact hqc, hqr⟩
set_option maxRecDepth 100000 in
/-- An order by value. -/
theorem open_tx {r : Reach} {b0 : Nat} {v : Value} {d : DataW H} {p : List MemPlace} (hv : Value.okWide Try.prog w r b0 27 v) (h : DataW.Trod enc Try.prog w base spare held 27 v d p) :
    ∃ (k t : Int) (a n c : Nat) (m : List Nat) (B : Option Addr), v = .agg #[.int .i64 k, .int .i64 t, .int .u64 (a : Int), .slice B n c] ∧ m.length = n ∧ n ≤ c ∧ a < 18446744073709551616 ∧ Rd w B m := by
  obtain ⟨v0, v1, v2, v3, y0, y1, y2, y3, m, rfl, _, _, g0, g1, g2, g3⟩ := Go.Joins.open_agg4 Try.underlying27 (by kernel_rfl) (by kernel_rfl) hv h
  obtain ⟨k, e0, _, _⟩ := DataW.trod_int Try.underlying3 g0
  obtain ⟨t, e1, _, _⟩ := DataW.trod_int Try.underlying3 g1
  obtain ⟨z, e2, _, w2⟩ := DataW.trod_int Try.underlying22 g2
  obtain ⟨a, rfl, ha⟩ := nat_u64 w2
  obtain ⟨q, B, c, rfl, h1, h2⟩ := tx_bytes g3
  simp only [List.cons.injEq, and_true] at e0 e1 e2
  subst e0; subst e1; subst e2
  exact ⟨k, t, a, q.length, c, q, B, rfl, rfl, h1, ha, h2⟩
set_option maxRecDepth 100000 in
/-- One order, by its four cells. -/
theorem open_txc {fuel : Nat} {cs : List Value} {x : DataW H × List MemPlace} (h : DataW.trod enc Try.prog w base spare held fuel 27 cs = some x) :
    ∃ (k t : Int) (a : Nat) (q : List Nat) (B : Option Addr) (c : Nat), cs = [.int .i64 k, .int .i64 t, .int .u64 (a : Int), .slice B q.length c] ∧ a < 18446744073709551616 ∧ q.length ≤ c ∧ Rd w B q := by
  obtain ⟨xs, m, _, _, hl, hxl, hf⟩ := DataW.trod_struct Try.underlying27 h
  have hc : cs.length = 4 := by rw [hl]; kernel_rfl
  have ci : Try.prog.cellsOf 3 = 1 := by kernel_rfl
  have cu : Try.prog.cellsOf 22 = 1 := by kernel_rfl
  have cb : Try.prog.cellsOf 23 = 1 := by kernel_rfl
  match cs, hc with
  | [v0, v1, v2, v3], _ =>
    match xs, hxl with
    | [y0, y1, y2, y3], _ =>
      have g0 := hf 0 _ rfl
      have g1 := hf 1 _ rfl
      have g2 := hf 2 _ rfl
      have g3 := hf 3 _ rfl
      simp [ci, cu, cb] at g0 g1 g2 g3
      obtain ⟨k, e0, _, _⟩ := DataW.trod_int Try.underlying3 g0
      obtain ⟨t, e1, _, _⟩ := DataW.trod_int Try.underlying3 g1
      obtain ⟨z, e2, _, w2⟩ := DataW.trod_int Try.underlying22 g2
      obtain ⟨a, rfl, ha⟩ := nat_u64 w2
      obtain ⟨q, B, c, rfl, h1, h2⟩ := tx_bytes g3
      simp only [List.cons.injEq, and_true] at e0 e1 e2
      subst e0; subst e1; subst e2
      exact ⟨k, t, a, q, B, c, rfl, ha, h1, h2⟩
end
end Go.Proofs.Ytjifionpblpfoaa
