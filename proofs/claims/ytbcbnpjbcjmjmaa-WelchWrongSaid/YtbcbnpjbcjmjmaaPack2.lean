/-
  Part 2 of the texts that the seat's proofs stand on; each part of it begins with its own sentence and conditions. Conditions: those that each theorem names.
-/
import Derived.Test.YtbcbnpjbcjmjmaaPack1
import Derived.StillTailTactics
import Derived.RangeFuncNested
import Derived.RangeFuncBox
import Derived.RangeFuncBound
import Derived.RangeFuncCalls
import Derived.RangeFuncLeaves
import Derived.Shelf.Abstract
import Derived.Shelf.RegionOpen
import Derived.WalkKit
import Derived.OwnWalkIn
import Derived.TacticsInMore
import Derived.LoopNIn
import Derived.LoopIn
import Derived.Laws.CopyOwn
import Derived.Deep.RegionLaw

/-
  What the document's own Mul of layer 2 does: the product, trimmed. Conditions: no more than 2^20 coefficients.
-/
namespace Go.Proofs.Ytbcbnpjbcjmjmaa
open Go.RowKit
open Pol (co Sm)

/-- The coefficient at place j, behind i whole rows, and k places of the next one. -/
def row (a b : List Nat) (i k j : Nat) : Nat := Pol.pc i (co a) (co b) j ^^^ (if i ≤ j ∧ j < i + k then Gf.mul (co a i) (co b (j - i)) else 0)
theorem pc_lt (n : Nat) (A B : Nat → Nat) (j : Nat) : Pol.pc n A B j < 256 := Pol.xs_lt n (fun i _ => by split; exact Gf.mul_lt _ _; omega)
theorem row_lt (a b : List Nat) (i k j : Nat) : row a b i k j < 256 := Gf.xor_lt _ _ (pc_lt _ _ _ _) (by split; exact Gf.mul_lt _ _; omega)
theorem row_zero (a b : List Nat) (i j : Nat) : row a b i 0 j = Pol.pc i (co a) (co b) j := by
  unfold row
  rw [if_neg (by omega), Nat.xor_zero]
theorem row_next (a b : List Nat) (i j : Nat) : row a b i b.length j = row a b (i + 1) 0 j := by
  rw [row_zero]
  unfold row Pol.pc
  rw [Pol.xs]
  congr 1
  by_cases h : i ≤ j
  · rw [if_pos h]
    by_cases h' : j < i + b.length
    · rw [if_pos ⟨h, h'⟩]
    · rw [if_neg (by omega), Pol.co_out b (j - i) (by omega), Gf.mul_zero]
  · rw [if_neg h, if_neg (by omega)]
theorem row_step (a b : List Nat) (i k j : Nat) : upd (row a b i k) (i + k) (row a b i k (i + k) ^^^ Gf.mul (co a i) (co b k)) j = row a b i (k + 1) j := by
  unfold upd
  by_cases h : j = i + k
  · subst h
    rw [if_pos rfl]
    unfold row
    rw [if_neg (by omega), if_pos (by omega), Nat.xor_zero, Nat.add_sub_cancel_left]
  · rw [if_neg h]
    unfold row
    by_cases h' : i ≤ j ∧ j < i + k
    · rw [if_pos h', if_pos (by omega)]
    · rw [if_neg h', if_neg (by omega)]

set_option maxHeartbeats 1000000 in
set_option maxRecDepth 100000 in
theorem ref_pmul (a b : List Nat) (A B : Option Addr) (ca cb : Nat) (w : World) (ha : Rd w A a) (hb : Rd w B b) (hla : a.length ≤ 524288) (hlb : b.length ≤ 524288) :
    Calls Try.prog 43 #[.slice A a.length ca, .slice B b.length cb] w (Gives (Pol.trim (Pol.mulP a b)) w) := by
  have hnext := row_next a b
  generalize hna : a.length = na at *
  generalize hnb : b.length = nb at *
  obtain ⟨N, hN⟩ : ∃ N, na + nb = N := ⟨_, rfl⟩
  have hmk := fun W => run_make_u8 N (by omega) W
  have HA := Lib.hid ha
  have HB := Lib.hid hb
  have HNA := Lib.hid hna
  have HNB := Lib.hid hnb
  have HNX := Lib.hid hnext
  clear ha hb hna hnb hnext
  have hcast : (N : Int) = (na : Int) + (nb : Int) := by omega
  have HN := Lib.hid hN
  rw [hcast] at hmk
  clear hcast hN
  go_enter Try.func43, Try.ntmps43
  go_wp2
  clear hmk
  go_loopg [16] na (fun g s wx => ∃ i : Nat, i + g = na ∧ s = .int .i64 (i : Int) ∧ Blk wx w.heap.size N (row a b i 0) ∧ Ext w wx)
  case atStart => exact ⟨0, by omega, rfl, (Blk.new w N (fun _ => 0)).congr (fun j _ => by rw [row_zero]; rfl), (Ext.refl _).alloc _⟩
  case round =>
    obtain ⟨i, hig, rfl, hblk, hx⟩ := hrel
    have HX := Lib.hid hx
    have HK := Lib.hid hblk
    clear hx hblk
    cases gk with
    | zero =>
      obtain rfl : na = i := by omega
      clear hig
      have hr := HK.out.reads (fun j _ => row_lt a b na 0 j)
      have ht : Pol.trim (tab N (row a b na 0)) = Pol.trim (Pol.mulP a b) := Pol.trim_ext _ _ (fun j => by
        rw [co_tab, Pol.co_mulP, HNA.out, row_zero]
        split
        · rfl
        · rename_i h
          refine (Pol.xs_zero na (fun i hi => ?_)).symm
          by_cases h' : i ≤ j
          · rw [if_pos h', Pol.co_out b (j - i) (by rw [HNB.out]; have := HN.out; omega), Gf.mul_zero]
          · rw [if_neg h'])
      have htr := ref_trim (tab N (row a b na 0)) (some ⟨w.heap.size, 0, none⟩) N _ hr (by rw [tab_len]; exact Nat.le_refl _) (by rw [tab_len]; have := HN.out; omega)
      rw [tab_len, ht] at htr
      have HT := Lib.hid htr
      clear htr hr ht
      go_wp2_with fail
      refine HT.out.mono ?_
      rintro e w2 ⟨V, c, rfl, hc, hrd, hxx⟩
      have HR := Lib.hid hrd
      have HXX := Lib.hid hxx
      clear hrd hxx
      go_wp2
      go_ret
      exact ⟨V, c, rfl, hc, HR.out, HX.out.trans HXX.out⟩
    | succ g =>
      have hiI : (i : Int) < (na : Int) := by omega
      go_wp2
      go_loopg [21] nb (fun g s wx => ∃ k : Nat, k + g = nb ∧ s = .int .i64 (k : Int) ∧ Blk wx w.heap.size N (row a b i k) ∧ Ext w wx)
      case atStart => exact ⟨0, by omega, rfl, HK.out, HX.out⟩
      case round =>
        obtain ⟨k, hkg, rfl, hblk, hx⟩ := hrel
        have HY := Lib.hid hx
        have HL := Lib.hid hblk
        clear hx hblk
        cases gk with
        | zero =>
          obtain rfl : nb = k := by omega
          clear hkg
          go_wp2
          go_roundg g
          case measure => omega
          case rel => exact ⟨i + 1, by omega, by go_num, HL.out.congr (fun j _ => HNX.out i j), HY.out⟩
        | succ h =>
          have hk : k < nb := by omega
          have hkI : (k : Int) < (nb : Int) := by omega
          obtain ⟨s, hs⟩ : ∃ s, i + k = s := ⟨_, rfl⟩
          have hsN : (s : Int) < (N : Int) := by have := HN.out; omega
          have hw : IntKind.i64.wrap ((i : Int) + (k : Int)) = (s : Int) := by rw [IntWalk.i64_in _ (by omega)]; omega
          obtain ⟨b1, o1, e1, hc1⟩ := (HA.out.ext HY.out).2 i (by rw [HNA.out]; omega)
          subst e1
          obtain ⟨b2, o2, e2, hc2⟩ := (HB.out.ext HY.out).2 k (by rw [HNB.out]; omega)
          subst e2
          have hc3 := HL.out.cell s (by have := HN.out; omega)
          have hfz := HL.out.frozen s
          have hxor := u8_xor_nat (row a b i k s) (Gf.mul (co a i) (co b k)) (row_lt _ _ _ _ _) (Gf.mul_lt _ _)
          have hst := ((HL.out.drewN 1).store s (row a b i k s ^^^ Gf.mul (co a i) (co b k))).congr (f' := row a b i (k + 1)) (fun j _ => by rw [← hs]; exact row_step a b i k j)
          have HU := Lib.hid hst
          have hext := (HY.out.drewN 1).setCell (p := ⟨w.heap.size, s, none⟩) (Nat.le_refl _) (.int .u8 ((row a b i k s ^^^ Gf.mul (co a i) (co b k) : Nat) : Int))
          have HE := Lib.hid hext
          have hcm := fun W => (ref_mul (co a i) (co b k) (HA.out.1 i) (HB.out.1 k) W).mono fun _ _ h => (⟨h.1, h.2.symm⟩ : _ ∧ _ = W)
          have HM := Lib.hid hcm
          have HS := Lib.hid hs
          clear hst hext hcm hs
          go_wp2
          go_still_tail 21, (by kernel_rfl)
          still_call (HM.out _)
          repeat still_step
          refine wpStill_nil ?_
          change wpList _ _ _ _ _ wr.drew
          go_wp2
          go_roundg h
          case measure => omega
          case rel => exact ⟨k + 1, by omega, by go_num, HU.out, HE.out⟩
end Go.Proofs.Ytbcbnpjbcjmjmaa

/-
  The document's own answer for layer 1, as the statements hold it: the inverse, by trying. Conditions: none beyond the kinds of the arguments.
-/
namespace Go.Proofs.Ytbcbnpjbcjmjmaa
open Go.RowKit

/-! The inverse, by trying. -/
def Tried (a : Nat) (i : Value) : Prop := ∃ k : Nat, k ≤ 256 ∧ i = .int .i64 (k : Int) ∧ ∀ j, j < k → Gf.mul a j ≠ 1

set_option maxHeartbeats 400000 in
set_option maxRecDepth 100000 in
theorem ref_inv (a : Nat) (ha : a < 256) (a0 : a ≠ 0) (w : World) :
    Calls Try.prog 42 #[.int .u8 (a : Int)] w fun e w' => e = .returned (.tuple #[.int .u8 ((Gf.quo 1 a : Nat) : Int), .bool true]) ∧ w = w' := by
  go_enter Try.func42, Try.ntmps42
  go_wp2
  go_loop [4] (fun i => Tried a i) (fun i => 256 - (intOf i).toNat)
  case atStart => exact ⟨0, by omega, rfl, fun j h => by omega⟩
  case round =>
    obtain ⟨k, hk, rfl, hno⟩ := hrel
    have hq := Gf.quo_mul 1 a (by omega) ha a0
    have hql := Gf.quo_lt 1 a
    by_cases he : k = 256
    · exact absurd ((Gf.mul_comm _ _).trans hq) (hno _ (by omega))
    have hkI : (k : Int) < 256 := by omega
    by_cases h1 : Gf.mul a k = 1
    · have hv : Gf.quo 1 a = k := Gf.quo_of 1 a k (by omega) ha a0 (by omega) ((Gf.mul_comm _ _).trans h1)
      have HV := Lib.hid hv
      have H1 := Lib.hid h1
      clear hv h1 hq hno hql
      go_wp2_with fail
      refine (ref_mul_is a k 1 ha (by omega) H1.out _).mono ?_
      rintro e w' ⟨rfl, rfl⟩
      go_wp2_with fail
      go_ret2
      exact ⟨by rw [HV.out]; rfl, rfl⟩
    · have hne : (((Gf.mul a k : Nat) : Int) == 1) = false := beq_eq_false_iff_ne.2 (by omega)
      have HN := Lib.hid hno
      have H1 := Lib.hid h1
      clear hno h1 hq hql
      go_wp2_with fail
      refine (ref_mul a k ha (by omega) _).mono ?_
      rintro e w' ⟨rfl, rfl⟩
      go_wp2_with fail
      go_round
      case rel => exact ⟨k + 1, by omega, by go_num, fun j hj => by
        by_cases e : j = k
        · subst e; exact H1.out
        · exact HN.out j (by omega)⟩
      case measure => simp [intOf]; omega

set_option maxHeartbeats 400000 in
set_option maxRecDepth 100000 in
theorem ref_inv_zero (w : World) :
    Calls Try.prog 42 #[.int .u8 0] w fun e w' => e = .returned (.tuple #[.int .u8 0, .bool false]) ∧ w = w' := by
  go_enter Try.func42, Try.ntmps42
  go_wp2
  go_loop [4] (fun i => Tried 0 i) (fun i => 256 - (intOf i).toNat)
  case atStart => exact ⟨0, by omega, rfl, fun j h => by omega⟩
  case round =>
    obtain ⟨k, hk, rfl, hno⟩ := hrel
    clear hno
    by_cases he : k = 256
    · subst he
      go_wp2_with fail
      go_ret2
      exact ⟨rfl, rfl⟩
    have hkI : (k : Int) < 256 := by omega
    go_wp2_with fail
    refine (ref_mul_is 0 k 0 (by omega) (by omega) (Gf.zero_mul k) _).mono ?_
    rintro e w' ⟨rfl, rfl⟩
    go_wp2_with fail
    go_round
    case rel => exact ⟨k + 1, by omega, by go_num, fun j _ => by rw [Gf.zero_mul]; omega⟩
    case measure => simp [intOf]; omega

end Go.Proofs.Ytbcbnpjbcjmjmaa

/-
  What the document's own Through of layer 2 does: the polynomial through points of which no place is there twice. Conditions: no more than 2^16 points.
-/
namespace Go.Proofs.Ytbcbnpjbcjmjmaa
open Go.RowKit
open Pol (co Sm px py Apart lag thr dd)

set_option maxHeartbeats 800000 in
set_option maxRecDepth 100000 in
theorem ref_through_m (l : List (Nat × Nat)) (A : Option Addr) (ca : Nat) (w : World) (ha : PRd w A l) (hl : l.length ≤ 65536) (hd : Apart l l.length) :
    Calls Try.prog 27 #[.slice A l.length ca] w (GivesM (thr l l.length) w) := by
  generalize hnn : l.length = n at hl hd ⊢
  have HA := Lib.hid ha
  have HN := Lib.hid hnn
  have HD := Lib.hid hd
  clear ha hnn hd
  go_enter Try.func27, Try.ntmps27
  go_wp2
  go_loopg [3, 11] n (fun g s3 s11 wx => ∃ i : Nat, i + g = n ∧ s11 = .int .i64 (i : Int) ∧ Mine wx w.heap.size s3 (thr l i) ∧ Ext w wx)
  case atStart => exact ⟨0, by omega, rfl, Mine.nil _ _, Ext.refl _⟩
  case round =>
    obtain ⟨i, hig, rfl, hmi, hx⟩ := hrel
    obtain ⟨V, cv, rfl, hcv, hrv⟩ := hmi.slice (Pol.thr_sm l HA.out.1 i)
    have HX := Lib.hid hx
    have HMI := Lib.hid hmi
    have HSM := Lib.hid (Pol.thr_sm l HA.out.1 i)
    clear hmi
    have HV := Lib.hid hrv
    have HC := Lib.hid hcv
    clear hx hrv hcv
    cases gk with
    | zero =>
      obtain rfl : n = i := by omega
      clear hig
      go_wp2
      go_ret
      exact ⟨_, rfl, HMI.out, HSM.out, HX.out⟩
    | succ g =>
      have hiI : (i : Int) < (n : Int) := by omega
      obtain ⟨b1, o1, e1, _, hcy⟩ := (HA.out.ext HX.out).2 i (by rw [HN.out]; omega)
      subst e1
      have hpy := (HA.out.1 i).2
      have hlag0 : Rd (wr.alloc (.cells #[.int .u8 ((py l i : Nat) : Int)] 5)) (some ⟨wr.heap.size, 0, none⟩) (lag l i 0) := rd_one wr _ hpy
      have HL0 := Lib.hid hlag0
      clear hlag0
      go_wp2
      go_loopg [5, 22] n (fun g s5 s22 wx => ∃ k : Nat, k + g = n ∧ s22 = .int .i64 (k : Int) ∧ Sl wx s5 (lag l i k) ∧ Ext wr wx)
      case atStart => exact ⟨0, by omega, rfl, ⟨_, 1, rfl, Nat.le_refl _, HL0.out⟩, (Ext.refl _).alloc _⟩
      case round =>
        obtain ⟨k, hkg, rfl, ⟨U, cu, rfl, hcu, hru⟩, hy⟩ := hrel
        have HY := Lib.hid hy
        have HU := Lib.hid hru
        have HCU := Lib.hid hcu
        clear hy hru hcu
        cases gk with
        | zero =>
          obtain rfl : n = k := by omega
          clear hkg
          have hlt : (thr l i).length ≤ 1048576 := by
            have h1 := Pol.trim_le (thr l i) l.length (Pol.thr_len l i (by rw [HN.out]; omega))
            rw [Pol.thr_trim, HN.out] at h1
            omega
          have hlu : (lag l i n).length ≤ 1048576 := by
            have h1 := Pol.lag_len l i n
            split at h1 <;> omega
          have HLT := Lib.hid hlt
          have HLU := Lib.hid hlu
          have hthr : thr l (i + 1) = Pol.trim (Pol.addP (thr l i) (lag l i n)) := by rw [thr, HN.out]
          have HTH := Lib.hid hthr
          clear hlt hlu hthr
          go_wp2_with fail
          refine (ref_add_m (thr l i) (lag l i n) V U cv cu _ (HV.out.ext HY.out) HU.out HLT.out HLU.out).mono ?_
          rintro e w2 ⟨v2, rfl, hmB, _, hxB⟩
          have HB := Lib.hid (hmB.down (HX.out.trans HY.out).size)
          have HXB := Lib.hid hxB
          clear hmB hxB
          go_wp2
          go_roundg g
          case measure => omega
          case rel => exact ⟨i + 1, by omega, by go_num, by rw [HTH.out]; exact HB.out, (HX.out.trans HY.out).trans HXB.out⟩
        | succ h =>
          have hkI : (k : Int) < (n : Int) := by omega
          by_cases hki : k = i
          · have hne : ((k : Int) != (i : Int)) = false := by subst hki; simp
            have hlag : lag l i (k + 1) = lag l i k := by rw [lag, if_pos hki]
            have HLG := Lib.hid hlag
            clear hlag hki
            go_wp2
            go_roundg h
            case measure => omega
            case rel => exact ⟨k + 1, by omega, by go_num, by rw [HLG.out]; exact ⟨U, cu, rfl, HCU.out, HU.out⟩, HY.out⟩
          · have hne : ((k : Int) != (i : Int)) = true := by simp; omega
            have hlag : lag l i (k + 1) = Pol.trim (Pol.mulP (lag l i k) [Gf.mul (px l k) (dd l i k), dd l i k]) := by rw [lag, if_neg hki]
            have HLG := Lib.hid hlag
            obtain ⟨b2, o2, e2, hcx, _⟩ := (HA.out.ext (HX.out.trans HY.out)).2 i (by rw [HN.out]; omega)
            injection e2 with e2
            injection e2 with e3 e4
            subst e3
            subst e4
            obtain ⟨b2, o2, e2, hck, _⟩ := (HA.out.ext (HX.out.trans HY.out)).2 k (by rw [HN.out]; omega)
            injection e2 with e2
            injection e2 with e3 e4
            subst e3
            subst e4
            have hxor := u8_xor_nat (px l i) (px l k) (HA.out.1 i).1 (HA.out.1 k).1
            obtain ⟨z, hz⟩ : ∃ z, px l i ^^^ px l k = z := ⟨_, rfl⟩
            have hz1 : z < 256 := by rw [← hz]; exact Gf.xor_lt _ _ (HA.out.1 i).1 (HA.out.1 k).1
            have hz0 : z ≠ 0 := by rw [← hz]; exact fun e => HD.out.ne (by omega) (by omega) (fun h => hki h.symm) (Gf.xor_zero_iff _ _ e)
            have hdd : dd l i k = Gf.quo 1 z := by unfold dd; rw [hz]
            rw [hz] at hxor
            have HZ := Lib.hid hdd
            clear hlag hki hz hdd
            go_wp2
            go_quiet (first | (go_at_call 42; exact quiet_same (ref_inv z hz1 hz0 _)))
            have hlu : (lag l i k).length ≤ 524288 := by
              have h1 := Pol.lag_len l i k
              split at h1 <;> omega
            have hpk := (HA.out.1 k).1
            have hq1 := Gf.quo_lt 1 z
            have HLU := Lib.hid hlu
            clear hlu hcx hxor
            go_wp2_with fail
            refine (ref_mul (px l k) (Gf.quo 1 z) hpk hq1 _).mono ?_
            rintro e w2 ⟨rfl, rfl⟩
            go_wp2_with fail
            refine (ref_pmul (lag l i k) [Gf.mul (px l k) (Gf.quo 1 z), Gf.quo 1 z] U (some ⟨wr.heap.size, 0, none⟩) cu 2 _ ((HU.out.drewN nq).ext ((Ext.refl _).alloc _)) (rd_two (wr.drewN nq) _ _ (Gf.mul_lt _ _) hq1) HLU.out (by simp)).mono ?_
            rintro e w2 ⟨B, c, rfl, hcB, hrB, hxB⟩
            have HB := Lib.hid hrB
            have HCB := Lib.hid hcB
            have HXB := Lib.hid hxB
            clear hrB hcB hxB
            go_wp2
            go_roundg h
            case measure => omega
            case rel => exact ⟨k + 1, by omega, by go_num, by rw [HLG.out, HZ.out]; exact ⟨B, c, rfl, HCB.out, HB.out⟩, ((HY.out.drewN nq).alloc _).trans HXB.out⟩
theorem ref_through (l : List (Nat × Nat)) (A : Option Addr) (ca : Nat) (w : World) (ha : PRd w A l) (hl : l.length ≤ 65536) (hd : Apart l l.length) :
    Calls Try.prog 27 #[.slice A l.length ca] w (Gives (thr l l.length) w) := (ref_through_m l A ca w ha hl hd).mono fun _ _ h => h.gives
end Go.Proofs.Ytbcbnpjbcjmjmaa

/-
  What the document's own Twice of layer 2 does: it tells whether two points have one place. Conditions: no more than 2^20 points.
-/
namespace Go.Proofs.Ytbcbnpjbcjmjmaa
open Go.RowKit
open Pol (px py Apart)

set_option maxHeartbeats 400000 in
set_option maxRecDepth 100000 in
theorem ref_twice_no (l : List (Nat × Nat)) (A : Option Addr) (ca : Nat) (w : World) (ha : PRd w A l) (hl : l.length ≤ 1048576) (hn : Apart l l.length) :
    Calls Try.prog 25 #[.slice A l.length ca] w (Hands (.bool false) w) := by
  generalize hnn : l.length = n at *
  have HA := Lib.hid ha
  have HN := Lib.hid hnn
  have HD := Lib.hid hn
  clear ha hnn hn
  go_enter Try.func25, Try.ntmps25
  go_wp2
  go_loopg [7] n (fun g s wx => ∃ i m : Nat, i + g = n ∧ s = .int .i64 (i : Int) ∧ wx = w.drewN m ∧ Apart l i)
  case atStart => exact ⟨0, 0, by omega, rfl, rfl, fun i k _ hi => by omega⟩
  case round =>
    obtain ⟨i, m, hig, rfl, rfl, hap⟩ := hrel
    have HP := Lib.hid hap
    clear hap
    cases gk with
    | zero =>
      obtain rfl : n = i := by omega
      clear hig
      go_wp2
      go_ret
      exact ⟨rfl, m, rfl⟩
    | succ g =>
      have hiI : (i : Int) < (n : Int) := by omega
      go_wp2
      go_loopg [4] i (fun g s wx => ∃ k m : Nat, k + g = i ∧ s = .int .i64 (k : Int) ∧ wx = w.drewN m ∧ ∀ k', k' < k → px l i ≠ px l k')
      case atStart => exact ⟨0, m, by omega, rfl, rfl, fun k' h => by omega⟩
      case round =>
        obtain ⟨k, m, hkg, rfl, rfl, hno⟩ := hrel
        have HO := Lib.hid hno
        clear hno
        cases gk with
        | zero =>
          obtain rfl : i = k := by omega
          clear hkg
          go_wp2
          go_roundg g
          case measure => omega
          case rel => exact ⟨i + 1, m, by omega, by go_num, rfl, fun i' k' h1 h2 => by
            by_cases e : i' = i
            · subst e; exact HO.out k' h1
            · exact HP.out i' k' h1 (by omega)⟩
        | succ h =>
          have hk : k < i := by omega
          have hkI : (k : Int) < (i : Int) := by omega
          have hknI : (k : Int) < (n : Int) := by omega
          obtain ⟨b1, o1, e1, hc1, _⟩ := HA.out.2 i (by rw [HN.out]; omega)
          subst e1
          obtain ⟨b2, o2, e2, hc2, _⟩ := HA.out.2 k (by rw [HN.out]; omega)
          injection e2 with e2
          injection e2 with e3 e4
          subst e3
          subst e4
          have d1 : (w.drewN m).cell? ⟨b1, o1 + i * 2, none⟩ = some (.int .u8 ((px l i : Nat) : Int)) := hc1
          have d2 : (w.drewN m).cell? ⟨b1, o1 + k * 2, none⟩ = some (.int .u8 ((px l k : Nat) : Int)) := hc2
          clear hc1 hc2
          generalize hW : w.drewN m = W at d1 d2 ⊢
          have HW := Lib.hid hW
          clear hW
          by_cases hq : px l i = px l k
          · have ht : (((px l i : Nat) : Int) == ((px l k : Nat) : Int)) = true := beq_iff_eq.2 (by omega)
            have HQ := Lib.hid hq
            exact absurd hq (HD.out i k (by omega) (by omega))
          · have ht : (((px l i : Nat) : Int) == ((px l k : Nat) : Int)) = false := beq_eq_false_iff_ne.2 (by omega)
            have HQ := Lib.hid hq
            clear hq
            go_wp2
            go_quiet (fail)
            go_wp2
            go_roundg h
            case measure => omega
            case rel => exact ⟨k + 1, m + nq, by omega, by go_num, by rw [← HW.out, World.drewN_drewN], fun k' h' => by
              by_cases e : k' = k
              · subst e; exact HQ.out
              · exact HO.out k' (by omega)⟩

set_option maxHeartbeats 400000 in
set_option maxRecDepth 100000 in
theorem ref_twice_yes (l : List (Nat × Nat)) (A : Option Addr) (ca : Nat) (w : World) (ha : PRd w A l) (hl : l.length ≤ 1048576) (hn : ¬ Apart l l.length) :
    Calls Try.prog 25 #[.slice A l.length ca] w (Hands (.bool true) w) := by
  generalize hnn : l.length = n at *
  have HA := Lib.hid ha
  have HN := Lib.hid hnn
  have HD := Lib.hid hn
  clear ha hnn hn
  go_enter Try.func25, Try.ntmps25
  go_wp2
  go_loopg [7] n (fun g s wx => ∃ i m : Nat, i + g = n ∧ s = .int .i64 (i : Int) ∧ wx = w.drewN m ∧ Apart l i)
  case atStart => exact ⟨0, 0, by omega, rfl, rfl, fun i k _ hi => by omega⟩
  case round =>
    obtain ⟨i, m, hig, rfl, rfl, hap⟩ := hrel
    have HP := Lib.hid hap
    clear hap
    cases gk with
    | zero =>
      obtain rfl : n = i := by omega
      clear hig
      exact absurd HP.out HD.out
    | succ g =>
      have hiI : (i : Int) < (n : Int) := by omega
      go_wp2
      go_loopg [4] i (fun g s wx => ∃ k m : Nat, k + g = i ∧ s = .int .i64 (k : Int) ∧ wx = w.drewN m ∧ ∀ k', k' < k → px l i ≠ px l k')
      case atStart => exact ⟨0, m, by omega, rfl, rfl, fun k' h => by omega⟩
      case round =>
        obtain ⟨k, m, hkg, rfl, rfl, hno⟩ := hrel
        have HO := Lib.hid hno
        clear hno
        cases gk with
        | zero =>
          obtain rfl : i = k := by omega
          clear hkg
          go_wp2
          go_roundg g
          case measure => omega
          case rel => exact ⟨i + 1, m, by omega, by go_num, rfl, fun i' k' h1 h2 => by
            by_cases e : i' = i
            · subst e; exact HO.out k' h1
            · exact HP.out i' k' h1 (by omega)⟩
        | succ h =>
          have hk : k < i := by omega
          have hkI : (k : Int) < (i : Int) := by omega
          have hknI : (k : Int) < (n : Int) := by omega
          obtain ⟨b1, o1, e1, hc1, _⟩ := HA.out.2 i (by rw [HN.out]; omega)
          subst e1
          obtain ⟨b2, o2, e2, hc2, _⟩ := HA.out.2 k (by rw [HN.out]; omega)
          injection e2 with e2
          injection e2 with e3 e4
          subst e3
          subst e4
          have d1 : (w.drewN m).cell? ⟨b1, o1 + i * 2, none⟩ = some (.int .u8 ((px l i : Nat) : Int)) := hc1
          have d2 : (w.drewN m).cell? ⟨b1, o1 + k * 2, none⟩ = some (.int .u8 ((px l k : Nat) : Int)) := hc2
          clear hc1 hc2
          generalize hW : w.drewN m = W at d1 d2 ⊢
          have HW := Lib.hid hW
          clear hW
          by_cases hq : px l i = px l k
          · have ht : (((px l i : Nat) : Int) == ((px l k : Nat) : Int)) = true := beq_iff_eq.2 (by omega)
            have HQ := Lib.hid hq
            clear hq
            go_wp2
            go_quiet (fail)
            go_wp2
            go_ret
            exact ⟨rfl, _, by rw [← HW.out, World.drewN_drewN]⟩
          · have ht : (((px l i : Nat) : Int) == ((px l k : Nat) : Int)) = false := beq_eq_false_iff_ne.2 (by omega)
            have HQ := Lib.hid hq
            clear hq
            go_wp2
            go_quiet (fail)
            go_wp2
            go_roundg h
            case measure => omega
            case rel => exact ⟨k + 1, m + nq, by omega, by go_num, by rw [← HW.out, World.drewN_drewN], fun k' h' => by
              by_cases e : k' = k
              · subst e; exact HQ.out
              · exact HO.out k' (by omega)⟩
end Go.Proofs.Ytbcbnpjbcjmjmaa

/-
  Slices of slices of bytes that read as a list of rows: what it means, that it stays while only new blocks are laid, and what append does with such slices of a call's own. Conditions: the lengths add up to no more than 2^40.
-/
namespace Go.Proofs.Ytbcbnpjbcjmjmaa
open Go.RowKit
open Pol (co Sm)

/-- A row. -/
def ro (rows : List (List Nat)) (i : Nat) : List Nat := rows[i]?.getD []
theorem ro_append_left (a b : List (List Nat)) (i : Nat) (h : i < a.length) : ro (a ++ b) i = ro a i := by unfold ro; rw [List.getElem?_append_left h]
theorem ro_append_right (a b : List (List Nat)) (i : Nat) (h : a.length ≤ i) : ro (a ++ b) i = ro b (i - a.length) := by unfold ro; rw [List.getElem?_append_right h]
theorem ro_mem {rows : List (List Nat)} {r : List Nat} (h : r ∈ rows) : ∃ i, i < rows.length ∧ ro rows i = r := by
  obtain ⟨i, hi, e⟩ := List.mem_iff_getElem.1 h
  exact ⟨i, hi, by unfold ro; rw [List.getElem?_eq_getElem hi]; exact e⟩
theorem ro_in (rows : List (List Nat)) (i : Nat) (h : i < rows.length) : ro rows i ∈ rows := by
  unfold ro
  rw [List.getElem?_eq_getElem h]
  exact List.getElem_mem h
theorem ro_ext {a b : List (List Nat)} (hl : a.length = b.length) (h : ∀ i, i < a.length → ro a i = ro b i) : a = b := by
  apply List.ext_getElem hl
  intro i h1 h2
  have := h i h1
  unfold ro at this
  rw [List.getElem?_eq_getElem h1, List.getElem?_eq_getElem h2] at this
  exact this
/-- From address A on lie the rows. -/
def RRd (w : World) (A : Option Addr) (rows : List (List Nat)) : Prop :=
  ∀ i, i < rows.length → ∃ b o B c, A = some ⟨b, o, none⟩ ∧ w.cell? ⟨b, o + i, none⟩ = some (.slice B (ro rows i).length c) ∧ (ro rows i).length ≤ c ∧ Rd w B (ro rows i)
theorem RRd.ext {w w' : World} {A : Option Addr} {rows : List (List Nat)} (h : RRd w A rows) (hx : Ext w w') : RRd w' A rows := fun i hi => by
  obtain ⟨b, o, B, c, e, hc, hl, hr⟩ := h i hi
  exact ⟨b, o, B, c, e, (hx.below.cell (p := ⟨b, o + i, none⟩) (block_lt_of_cell hc)).trans hc, hl, hr.ext hx⟩
theorem RRd.nil (w : World) (A : Option Addr) : RRd w A [] := fun i hi => absurd hi (by simp)
theorem RRd.sm {w : World} {A : Option Addr} {rows : List (List Nat)} (h : RRd w A rows) : ∀ r ∈ rows, Sm r := fun r hr => by
  obtain ⟨i, hi, rfl⟩ := ro_mem hr
  obtain ⟨_, _, _, _, _, _, _, hrd⟩ := h i hi
  exact hrd.1
/-- Values that are slices of these rows. -/
def RowsV (w : World) (vs : List Value) (rows : List (List Nat)) : Prop := vs.length = rows.length ∧ ∀ i, i < rows.length → ∃ B c, vs[i]? = some (.slice B (ro rows i).length c) ∧ (ro rows i).length ≤ c ∧ Rd w B (ro rows i)
/-- None of them lies in a block. -/
def Far (vs : List Value) (row : Option Nat) : Prop := ∀ (i : Nat) (b o n c : Nat), vs[i]? = some (.slice (some ⟨b, o, none⟩) n c) → 0 < n → some b ≠ row
theorem RowsV.keep {w w' : World} {vs : List Value} {rows : List (List Nat)} {row : Option Nat} (h : RowsV w vs rows) (hg : w.grownBy w' row) (hf : Far vs row) : RowsV w' vs rows :=
  ⟨h.1, fun i hi => by
    obtain ⟨B, c, hv, hl, hr⟩ := h.2 i hi
    refine ⟨B, c, hv, hl, hr.1, fun j hj => ?_⟩
    obtain ⟨b, o, e, hc⟩ := hr.2 j hj
    exact ⟨b, o, e, hg.cell hc (hf i b o _ c (by rw [hv, e]) (by omega))⟩⟩
theorem RowsV.ext {w w' : World} {vs : List Value} {rows : List (List Nat)} (h : RowsV w vs rows) (hx : Ext w w') : RowsV w' vs rows :=
  ⟨h.1, fun i hi => by
    obtain ⟨B, c, hv, hl, hr⟩ := h.2 i hi
    exact ⟨B, c, hv, hl, hr.ext hx⟩⟩
theorem RowsV.append {w : World} {vs us : List Value} {rows more : List (List Nat)} (h : RowsV w vs rows) (k : RowsV w us more) : RowsV w (vs ++ us) (rows ++ more) :=
  ⟨by rw [List.length_append, List.length_append, h.1, k.1], fun i hi => by
    rw [List.length_append] at hi
    by_cases hl : i < rows.length
    · rw [ro_append_left _ _ _ hl, List.getElem?_append_left (by rw [h.1]; exact hl)]
      exact h.2 i hl
    · rw [ro_append_right _ _ _ (by omega), List.getElem?_append_right (by rw [h.1]; omega), h.1]
      exact k.2 (i - rows.length) (by omega)⟩
theorem RowsV.lt {w : World} {vs : List Value} {rows : List (List Nat)} (h : RowsV w vs rows) {i b o n c : Nat} (hi : vs[i]? = some (.slice (some ⟨b, o, none⟩) n c)) (hn : 0 < n) : b < w.heap.size := by
  have hil : i < rows.length := by rw [← h.1]; exact (List.getElem?_eq_some_iff.1 hi).1
  obtain ⟨B, c', hv, hl, hr⟩ := h.2 i hil
  rw [hv] at hi
  injection hi with hi
  injection hi with e1 e2 e3
  subst e2
  obtain ⟨b', o', e, hc⟩ := hr.2 0 hn
  rw [e] at e1
  injection e1 with e1
  injection e1 with e1 _
  rw [← e1]
  exact block_lt_of_cell hc
theorem RowsV.one {w : World} {vs : List Value} {rows : List (List Nat)} (h : RowsV w vs rows) : ∀ u ∈ vs, u.oneCell' = true := fun u hu => by
  obtain ⟨i, hi, e⟩ := List.mem_iff_getElem.1 hu
  obtain ⟨B, c, hv, _⟩ := h.2 i (by rw [← h.1]; exact hi)
  rw [List.getElem?_eq_getElem hi, e] at hv
  injection hv with hv
  rw [hv]
  rfl
theorem RRd.vals {w : World} {A : Option Addr} {rows : List (List Nat)} (h : RRd w A rows) : ∃ vs, RowsV w vs rows ∧ ∀ j u, vs[j]? = some u → ∃ b o, A = some ⟨b, o, none⟩ ∧ w.cell? ⟨b, o + j, none⟩ = some u := by
  rcases Nat.eq_zero_or_pos rows.length with h0 | h0
  · have : rows = [] := List.eq_nil_of_length_eq_zero h0
    subst this
    exact ⟨[], ⟨rfl, fun i hi => absurd hi (by simp)⟩, fun j u hj => by simp at hj⟩
  · obtain ⟨b, o, _, _, rfl, _⟩ := h 0 h0
    have hat : ∀ i, i < rows.length → ∃ B c, w.cell? ⟨b, o + i, none⟩ = some (.slice B (ro rows i).length c) ∧ (ro rows i).length ≤ c ∧ Rd w B (ro rows i) := fun i hi => by
      obtain ⟨b', o', B, c, e, hc, hl, hr⟩ := h i hi
      injection e with e
      injection e with e1 e2
      subst e1; subst e2
      exact ⟨B, c, hc, hl, hr⟩
    have hget : ∀ j, j < rows.length → ((List.range rows.length).map fun i => (w.cell? ⟨b, o + i, none⟩).getD undef)[j]? = some ((w.cell? ⟨b, o + j, none⟩).getD undef) := fun j hj => by
      rw [List.getElem?_map, List.getElem?_range hj]; rfl
    refine ⟨(List.range rows.length).map fun i => (w.cell? ⟨b, o + i, none⟩).getD undef, ⟨by simp, fun i hi => ?_⟩, fun j u hj => ⟨b, o, rfl, ?_⟩⟩
    · obtain ⟨B, c, hc, hl, hr⟩ := hat i hi
      exact ⟨B, c, by rw [hget i hi, hc]; rfl, hl, hr⟩
    · have hjl : j < rows.length := by
        have := (List.getElem?_eq_some_iff.1 hj).1
        simpa using this
      obtain ⟨B, c, hc, _⟩ := hat j hjl
      rw [hget j hjl, hc] at hj
      rw [hc]
      exact hj

theorem row_info : (Try.prog.info? 23).map (fun i => (i.zero, i.size, i.bytes)) = some (some (.slice none 0 0), 1, 24) := by kernel_rfl
/-- A slice of the call's own, of rows. -/
structure MineR (w : World) (base : Nat) (v : Value) (rows : List (List Nat)) : Prop where
  has : ∃ vs, w.ownsRow base 23 1 v rows.length vs ∧ RowsV w vs rows ∧ Far vs v.ownBlock
theorem MineR.nil (w : World) (base : Nat) : MineR w base (.slice none 0 0) [] := ⟨[], World.ownsRow_nil w base _ _, ⟨rfl, fun i hi => absurd hi (by simp)⟩, fun i b o n c h => by simp at h⟩
theorem mineR_empty (w : World) : MineR (w.alloc (.cells #[] 23)) w.heap.size (.slice (some ⟨w.heap.size, 0, none⟩) 0 0) [] :=
  ⟨[], World.ownsRow_lit w #[] 0 (Nat.le_refl _) (Nat.zero_le _) rfl, ⟨rfl, fun i hi => absurd hi (by simp)⟩, fun i b o n c h => by simp at h⟩
theorem MineR.slice {w : World} {base : Nat} {v : Value} {rows : List (List Nat)} (h : MineR w base v rows) : ∃ A c, v = .slice A rows.length c ∧ rows.length ≤ c ∧ RRd w A rows := by
  obtain ⟨vs, hown, hv, _⟩ := h.has
  rcases hown.2 with ⟨rfl, hn⟩ | ⟨g, cap, cur, rfl, _, hg, hnc, _, _, htake⟩
  · have : rows = [] := List.eq_nil_of_length_eq_zero hn
    subst this
    exact ⟨none, 0, rfl, Nat.le_refl _, RRd.nil _ _⟩
  · refine ⟨_, cap, rfl, hnc, fun i hi => ?_⟩
    obtain ⟨B, c, h1, h2, h3⟩ := hv.2 i hi
    refine ⟨g, 0, B, c, rfl, ?_, h2, h3⟩
    rw [Nat.zero_add, cell_of_row w g i cur _ _ hg, ← h1, ← htake, List.getElem?_take, if_pos (by omega)]
    simp
theorem MineR.block {w : World} {base : Nat} {v : Value} {rows : List (List Nat)} (h : MineR w base v rows) : ∀ k, v.ownBlock = some k → base ≤ k ∧ k < w.heap.size := fun k hk => by
  obtain ⟨vs, hown, _⟩ := h.has
  exact World.ownsRow.lt hown k hk
theorem MineR.ext {w w' : World} {base : Nat} {v : Value} {rows : List (List Nat)} (h : MineR w base v rows) (hx : Ext w w') : MineR w' base v rows := by
  obtain ⟨vs, hown, hv, hf⟩ := h.has
  refine ⟨vs, World.ownsRow.kept hown (row := none) ⟨hx.below.os, hx.below.tape, hx.below.output, hx.below.size, fun k hk _ => hx.below.block k hk⟩ (by
    cases hb : v.ownBlock with
    | none => exact .inl rfl
    | some k => exact .inr (by simp)), hv.ext hx, hf⟩
/-- Behind a write into another block of the call's own. -/
theorem run_append_rows (w : World) (base : Nat) (ty : TypeId) (v : Value) (rows more : List (List Nat)) (hown : MineR w base v rows) (A : Option Addr) (c : Nat) (hr : RRd w A more)
    (hfar : ∀ i, i < more.length → ∀ b o n c, (∃ b' o', A = some ⟨b', o', none⟩ ∧ w.cell? ⟨b', o' + i, none⟩ = some (.slice (some ⟨b, o, none⟩) n c)) → 0 < n → some b ≠ v.ownBlock)
    (hlen : rows.length + more.length ≤ 1048576) (hbase : base ≤ w.heap.size) :
    ∃ v' w', (Builtin.append_ #[57, 57] ty #[v, .slice A more.length c]).run Try.prog w = .ok v' w' ∧ MineR w' base v' (rows ++ more) ∧ w.grownBy w' v.ownBlock ∧ (v'.ownBlock = v.ownBlock ∨ v'.ownBlock = some w.heap.size) := by
  obtain ⟨i0, hi, hz0, hz1, hz2⟩ := info_parts row_info
  obtain ⟨vs, hv1, hv2, hv3⟩ := hown.has
  obtain ⟨us, hu1, hu2⟩ := hr.vals
  cases A with
  | none =>
    have hm : more = [] := by
      rcases Nat.eq_zero_or_pos more.length with h | h
      · exact List.eq_nil_of_length_eq_zero h
      · obtain ⟨_, _, _, _, e, _⟩ := hr 0 h; cases e
    subst hm
    refine ⟨v, w, ?_, by simpa using hown, ⟨rfl, rfl, rfl, Nat.le_refl _, fun _ _ _ => rfl⟩, .inl rfl⟩
    rcases hv1.2 with ⟨rfl, _⟩ | ⟨g, cap, cur, rfl, _, _, hnc, _⟩
    · simp [Builtin.append_, run_underlying Try.underlying57, sizeOf, typeInfo, hi, Builtin.lenOf, Builtin.firstCells]
    · simp [Builtin.append_, run_underlying Try.underlying57, sizeOf, typeInfo, hi, Builtin.lenOf, Builtin.firstCells, hnc, storeCells]
  | some a =>
    have hcells : ∀ j u, us[j]? = some u → w.cell? (a.add j) = some u := by
      intro j u hu
      obtain ⟨b, o, e, hc⟩ := hu2 j u hu
      injection e with e
      subst e
      rw [addr_add]
      exact hc
    obtain ⟨v', w', h1, h2, h3, _, h5⟩ := run_append_own_at (P := Try.prog) w base 57 ty 23 i0 (.slice none 0 0) 1 24 Try.underlying57 hi hz0 hz1 hz2 rfl (by omega) v rows.length vs hv1 a more.length c us (by rw [hu1.1, Nat.mul_one]) hcells hu1.one
      (by unfold maxLen; omega) (by omega) hbase
    have hfu : Far us v.ownBlock := fun i b o n c' hu hn => by
      obtain ⟨b', o', e, hc⟩ := hu2 i _ hu
      exact hfar i (by rw [← hu1.1]; exact (List.getElem?_eq_some_iff.1 hu).1) b o n c' ⟨b', o', e, hc⟩ hn
    refine ⟨v', w', h1, ⟨vs ++ us, by rw [List.length_append]; exact h2, (hv2.append hu1).keep h3 ?_, ?_⟩, h3, h5⟩
    · intro i b o n c' hx hn
      by_cases hl : i < vs.length
      · rw [List.getElem?_append_left hl] at hx
        exact hv3 i b o n c' hx hn
      · rw [List.getElem?_append_right (by omega)] at hx
        exact hfu _ b o n c' hx hn
    · intro i b o n c' hx hn
      rcases h5 with e | e
      · rw [e]
        by_cases hl : i < vs.length
        · rw [List.getElem?_append_left hl] at hx
          exact hv3 i b o n c' hx hn
        · rw [List.getElem?_append_right (by omega)] at hx
          exact hfu _ b o n c' hx hn
      · rw [e]
        have hb : b < w.heap.size := (hv2.append hu1).lt hx hn
        exact fun e' => by injection e' with e'; omega
/-- At the operation, for the walk. -/
theorem wpList_append_rows {ops : Array Oper} {rest : List Oper} {o : Oper} {a : Act} {w : World} {Q : Exit → Act → World → Prop} (hgd : o.guard = none) (s x : Operand)
    (ho : o.op = .call { callee := .builtin .append, args := #[s, x], argTypes := #[57, 57] })
    (base : Nat) (v : Value) (rows more : List (List Nat)) (hs : a.eval s = v) (hown : MineR w base v rows) (A : Option Addr) (n c : Nat) (hx : a.eval x = .slice A n c) (hn : more.length = n) (hr : RRd w A more)
    (hfar : ∀ i, i < more.length → ∀ b o n c, (∃ b' o', A = some ⟨b', o', none⟩ ∧ w.cell? ⟨b', o' + i, none⟩ = some (.slice (some ⟨b, o, none⟩) n c)) → 0 < n → some b ≠ v.ownBlock)
    (hlen : rows.length + more.length ≤ 1048576) (hbase : base ≤ w.heap.size)
    (h : ∀ v' w', MineR w' base v' (rows ++ more) → w.grownBy w' v.ownBlock → (v'.ownBlock = v.ownBlock ∨ v'.ownBlock = some w.heap.size) → wpList Try.prog ops Q rest (a.put o.dst v') w') :
    wpList Try.prog ops Q (o :: rest) a w := by
  subst hn
  refine wpList_plain hgd fun K hK => ?_
  obtain ⟨v', w', hrun, h2, h3, h4⟩ := run_append_rows w base o.type v rows more hown A c hr hfar hlen hbase
  unfold Oper.wp execOp
  simp only [ho, resolve, invoke, builtin, Sem.run_bind, Sem.run_pure, Result.andThen_ok, List.map_toArray, List.map_cons, List.map_nil, hs, hx, hrun]
  exact hK _ _ (h v' w' h2 h3 h4)
end Go.Proofs.Ytbcbnpjbcjmjmaa

/-
  The plain mathematics of reducing rows: what holds of the rows when some columns are done, that a column more keeps it, and what the reduced rows tell of the solution and of the rank. Conditions: none; nothing of the program is named here.
-/
namespace Lin
open Gf (mul quo)
open Pol (xs co Sm)

def Ker (m N : Nat) (F : Nat → Nat → Nat) (x : Nat → Nat) : Prop := ∀ i, i < m → dot N (F i) x = 0
/-- Columns below c are done; ps are those of the first coefficients. -/
structure Red (m N c : Nat) (K : (Nat → Nat) → Prop) (F : Nat → Nat → Nat) (ps : List Nat) : Prop where
  bytes : ∀ i k, F i k < 256
  same : Alike (Ker m N F) K
  few : ps.length ≤ m
  lt : ∀ i, i < ps.length → co ps i < c
  one : ∀ i, i < ps.length → F i (co ps i) = 1
  left : ∀ i, i < ps.length → ∀ j, j < co ps i → F i j = 0
  clear : ∀ i i', i < ps.length → i' < m → i' ≠ i → F i' (co ps i) = 0
  rest : ∀ i, ps.length ≤ i → i < m → ∀ j, j < c → F i j = 0
  cnt : Cnt (NotFree K) c ps.length

theorem Red.inj {m N c : Nat} {K : (Nat → Nat) → Prop} {F : Nat → Nat → Nat} {ps : List Nat} (h : Red m N c K F ps) {i i' : Nat} (hi : i < ps.length) (hi' : i' < ps.length) (e : co ps i = co ps i') : i = i' := by
  apply Classical.byContradiction
  intro hne
  have h1 := h.clear i i' hi (by have := h.few; omega) (fun e => hne e.symm)
  rw [e, h.one i' hi'] at h1
  omega
theorem Red.notFree {m N c : Nat} {K : (Nat → Nat) → Prop} {F : Nat → Nat → Nat} {ps : List Nat} (h : Red m N c K F ps) (hc : c ≤ N) {i : Nat} (hi : i < ps.length) : NotFree K (co ps i) := by
  rintro ⟨v, hv, kv, hne, htop⟩
  have hk := (h.same v hv).2 kv i (by have := h.few; omega)
  rw [dot_single N (F i) v (co ps i) (by have := h.lt i hi; omega) (fun k hk hne => by
    rcases Nat.lt_or_gt_of_ne hne with h1 | h1
    · exact .inl (h.left i hi k h1)
    · exact .inr (htop k h1)), h.one i hi, Gf.one_mul _ (hv _)] at hk
  exact hne hk
/-- What the rows say of one column that has no first coefficient. -/
def pick (F : Nat → Nat → Nat) (ps : List Nat) (c k : Nat) : Nat := xs ps.length fun i => if co ps i = k then F i c else 0
theorem pick_lt {m N c : Nat} {K : (Nat → Nat) → Prop} {F : Nat → Nat → Nat} {ps : List Nat} (h : Red m N c K F ps) (c0 k : Nat) : pick F ps c0 k < 256 := Pol.xs_lt _ fun i _ => by
  split
  · exact h.bytes _ _
  · omega
theorem pick_at {m N c : Nat} {K : (Nat → Nat) → Prop} {F : Nat → Nat → Nat} {ps : List Nat} (h : Red m N c K F ps) (c0 : Nat) {i : Nat} (hi : i < ps.length) : pick F ps c0 (co ps i) = F i c0 := by
  unfold pick
  rw [Pol.xs_single _ i _ hi (fun i' hi' hne => if_neg fun e => hne (h.inj hi' hi e)), if_pos rfl]
theorem pick_no {F : Nat → Nat → Nat} {ps : List Nat} {c0 k : Nat} (h : ∀ i, i < ps.length → co ps i ≠ k) : pick F ps c0 k = 0 := Pol.xs_zero _ fun i hi => if_neg (h i hi)
theorem Red.isFree {m N c : Nat} {K : (Nat → Nat) → Prop} {F : Nat → Nat → Nat} {ps : List Nat} (h : Red m N c K F ps) (c0 : Nat) (hc0 : c0 ≤ c) (hN : c0 < N) (hcN : c ≤ N) (hno : ∀ i, i < ps.length → co ps i ≠ c0) (hz : ∀ i, ps.length ≤ i → i < m → F i c0 = 0) : Free K c0 := by
  have hd : ∀ k, k ≠ c0 ∧ pick F ps c0 k ≠ 0 → k < c0 := fun k hk => by
    apply Classical.byContradiction
    intro hge
    apply hk.2
    refine Pol.xs_zero _ fun i hi => ?_
    split
    · rename_i e
      exact h.left i hi c0 (by rw [e]; omega)
    · rfl
  obtain ⟨u, hu⟩ : ∃ u : Nat → Nat, u = fun k => if k = c0 then 0 else pick F ps c0 k := ⟨_, rfl⟩
  obtain ⟨e, he⟩ : ∃ e : Nat → Nat, e = fun k => if k = c0 then 1 else 0 := ⟨_, rfl⟩
  have hub : By u := fun k => by rw [hu]; show (if k = c0 then 0 else pick F ps c0 k) < 256; split; omega; exact pick_lt h _ _
  have heb : By e := fun k => by rw [he]; show (if k = c0 then 1 else 0) < 256; split <;> omega
  have hu0 : ∀ k, c0 ≤ k → u k = 0 := fun k hk => by
    rw [hu]
    show (if k = c0 then 0 else pick F ps c0 k) = 0
    split
    · rfl
    · rename_i hne
      apply Classical.byContradiction
      intro hp
      have := hd k ⟨hne, hp⟩
      omega
  have he1 : ∀ k, k ≠ c0 → e k = 0 := fun k hk => by rw [he]; exact if_neg hk
  have hec : e c0 = 1 := by rw [he]; exact if_pos rfl
  refine ⟨fun k => e k ^^^ u k, fun k => Gf.xor_lt _ _ (heb k) (hub k), (h.same _ (fun k => Gf.xor_lt _ _ (heb k) (hub k))).1 fun i hi => ?_, ?_, fun j hj => ?_⟩
  · rw [dot_add N (F i) e u (h.bytes i) heb hub, dot_single N (F i) e c0 hN (fun k _ hne => .inr (he1 k hne)), hec, Gf.mul_one _ (h.bytes _ _)]
    by_cases hid : i < ps.length
    · rw [dot_single N (F i) u (co ps i) (by have := h.lt i hid; omega) (fun k hk hne => ?_), h.one i hid, Gf.one_mul _ (hub _)]
      · rw [show u (co ps i) = pick F ps c0 (co ps i) from by rw [hu]; exact if_neg (hno i hid), pick_at h c0 hid, Nat.xor_self]
      · by_cases hp : ∃ i', i' < ps.length ∧ co ps i' = k
        · obtain ⟨i', hi', rfl⟩ := hp
          exact .inl (h.clear i' i hi' hi (fun e => hne (by rw [e])))
        · right
          rw [hu]
          show (if k = c0 then 0 else pick F ps c0 k) = 0
          split
          · rfl
          · exact pick_no fun i' hi' e => hp ⟨i', hi', e⟩
    · rw [hz i (by omega) hi, Nat.zero_xor]
      refine dot_zero N _ _ fun k hk => ?_
      by_cases hkc : k < c0
      · exact .inl (h.rest i (by omega) hi k (by omega))
      · exact .inr (hu0 k (by omega))
  · show e c0 ^^^ u c0 ≠ 0
    rw [hec, hu0 c0 (Nat.le_refl _)]
    decide
  · show e j ^^^ u j = 0
    rw [he1 j (by omega), hu0 j (by omega)]
    rfl
theorem Red.skip {m N c : Nat} {K : (Nat → Nat) → Prop} {F : Nat → Nat → Nat} {ps : List Nat} (h : Red m N c K F ps) (hN : c < N) (hz : ∀ i, ps.length ≤ i → i < m → F i c = 0) : Red m N (c + 1) K F ps where
  bytes := h.bytes
  same := h.same
  few := h.few
  lt := fun i hi => by have := h.lt i hi; omega
  one := h.one
  left := h.left
  clear := h.clear
  rest := fun i h1 h2 j hj => by
    by_cases e : j = c
    · rw [e]; exact hz i h1 h2
    · exact h.rest i h1 h2 j (by omega)
  cnt := .inr ⟨fun hn => hn (h.isFree c (Nat.le_refl _) hN (Nat.le_of_lt hN) (fun i hi e => by have := h.lt i hi; omega) hz), h.cnt⟩

/-- The rows behind a step: row 'at' is divided by its coefficient, changed with the first that is left, and taken off all others. -/
def stepF (F : Nat → Nat → Nat) (d t c : Nat) (i k : Nat) : Nat :=
  if i = d then mul (F t k) (quo 1 (F t c)) else (if i = t then F d k else F i k) ^^^ mul (mul (F t k) (quo 1 (F t c))) (if i = t then F d c else F i c)
theorem co_snoc (ps : List Nat) (c i : Nat) : co (ps ++ [c]) i = if i < ps.length then co ps i else if i = ps.length then c else 0 := by
  unfold co
  by_cases h : i < ps.length
  · rw [if_pos h, List.getElem?_append_left h]
  · rw [if_neg h, List.getElem?_append_right (by omega)]
    by_cases e : i = ps.length
    · rw [if_pos e, e]; simp
    · rw [if_neg e, List.getElem?_eq_none (by simp; omega)]; rfl
theorem Red.step {m N c : Nat} {K : (Nat → Nat) → Prop} {F : Nat → Nat → Nat} {ps : List Nat} (h : Red m N c K F ps) (hN : c < N) (t : Nat) (ht : ps.length ≤ t) (htm : t < m) (hne : F t c ≠ 0) : Red m N (c + 1) K (stepF F ps.length t c) (ps ++ [c]) := by
  obtain ⟨d, hd⟩ : ∃ d, ps.length = d := ⟨_, rfl⟩
  obtain ⟨row, hrow⟩ : ∃ row : Nat → Nat, row = fun k => mul (F t k) (quo 1 (F t c)) := ⟨_, rfl⟩
  have hrb : By row := fun k => by rw [hrow]; exact Gf.mul_lt _ _
  have hinv := Gf.quo_mul 1 (F t c) (by omega) (h.bytes t c) hne
  have hrc : row c = 1 := by rw [hrow]; show mul (F t c) (quo 1 (F t c)) = 1; rw [Gf.mul_comm]; exact hinv
  have hr0 : ∀ j, j < c → row j = 0 := fun j hj => by rw [hrow]; show mul (F t j) _ = 0; rw [h.rest t ht htm j hj, Gf.zero_mul]
  have hst : ∀ i k, stepF F ps.length t c i k = if i = d then row k else (if i = t then F d k else F i k) ^^^ mul (row k) (if i = t then F d c else F i c) := fun i k => by rw [hrow, ← hd]; rfl
  have hG : ∀ i k, (if i = t then F d k else F i k) < 256 := fun i k => by split <;> exact h.bytes _ _
  have hb : ∀ i k, stepF F ps.length t c i k < 256 := fun i k => by
    rw [hst]
    split
    · exact hrb k
    · exact Gf.xor_lt _ _ (hG i k) (Gf.mul_lt _ _)
  have hdot : ∀ x, By x → ∀ i, i ≠ d → dot N (stepF F ps.length t c i) x = dot N (fun k => if i = t then F d k else F i k) x ^^^ mul (if i = t then F d c else F i c) (dot N row x) := fun x hx i hi => by
    rw [← dot_smul_left N _ row x (by split <;> exact h.bytes _ _) hrb hx, ← dot_add_left N _ _ x (hG i) (fun k => Gf.mul_lt _ _) hx]
    refine dot_congr (fun k _ => ?_) (fun _ _ => rfl)
    rw [hst, if_neg hi, Gf.mul_comm (row k)]
  have hdotd : ∀ x, dot N (stepF F ps.length t c d) x = dot N row x := fun x => dot_congr (fun k _ => by rw [hst, if_pos rfl]) (fun _ _ => rfl)
  have hrx : ∀ x, By x → dot N (F t) x = mul (F t c) (dot N row x) := fun x hx => by
    rw [← dot_smul_left N _ row x (h.bytes _ _) hrb hx]
    refine dot_congr (fun k _ => ?_) (fun _ _ => rfl)
    rw [hrow]
    show F t k = mul (F t c) (mul (F t k) (quo 1 (F t c)))
    rw [Gf.mul_comm (F t k), ← Gf.mul_assoc _ _ _ (h.bytes _ _) (Gf.quo_lt _ _) (h.bytes _ _), Gf.mul_comm (F t c), hinv, Gf.one_mul _ (h.bytes _ _)]
  have hsame : Alike (Ker m N (stepF F ps.length t c)) K := Alike.trans (fun x hx => by
    have hrow0 : dot N (F t) x = 0 ↔ dot N row x = 0 := by
      rw [hrx x hx]
      constructor
      · intro e
        apply Classical.byContradiction
        intro hn
        exact Gf.mul_ne _ _ hne hn e
      · intro e; rw [e, Gf.mul_zero]
    constructor
    · intro hk i hi
      have hr := hk d (by omega)
      rw [hdotd] at hr
      by_cases e : i = t
      · rw [e]; exact hrow0.2 hr
      · by_cases e' : i = d
        · by_cases etd : t = d
          · exact absurd (e'.trans etd.symm) e
          · have := hk t htm
            rw [hdot x hx t etd, hr, Gf.mul_zero, Nat.xor_zero] at this
            rw [e', ← this]
            exact dot_congr (fun k _ => by rw [if_pos rfl]) (fun _ _ => rfl)
        · have := hk i hi
          rw [hdot x hx i e', hr, Gf.mul_zero, Nat.xor_zero] at this
          rw [← this]
          exact dot_congr (fun k _ => by rw [if_neg e]) (fun _ _ => rfl)
    · intro hk i hi
      have hr := hrow0.1 (hk t htm)
      by_cases e' : i = d
      · rw [e', hdotd, hr]
      · rw [hdot x hx i e', hr, Gf.mul_zero, Nat.xor_zero]
        by_cases e : i = t
        · rw [← hk d (by omega)]
          exact dot_congr (fun k _ => by rw [if_pos e]) (fun _ _ => rfl)
        · rw [← hk i hi]
          exact dot_congr (fun k _ => by rw [if_neg e]) (fun _ _ => rfl)) h.same
  have hlen : (ps ++ [c]).length = d + 1 := by simp [hd]
  have hco : ∀ i, i < d → co (ps ++ [c]) i = co ps i := fun i hi => by rw [co_snoc, if_pos (by omega)]
  have hcd : co (ps ++ [c]) d = c := by rw [co_snoc, if_neg (by omega), if_pos hd.symm]
  have hlt := h.lt
  have hone := h.one
  have hleft := h.left
  have hclear := h.clear
  have hrest := h.rest
  rw [hd] at hlt hone hleft hclear hrest ht
  have hrp : ∀ i, i < d → row (co ps i) = 0 := fun i hi => hr0 _ (hlt i hi)
  have main : ∀ i, i < d + 1 → stepF F ps.length t c i (co (ps ++ [c]) i) = 1 ∧ (∀ j, j < co (ps ++ [c]) i → stepF F ps.length t c i j = 0) ∧ ∀ i', i' < m → i' ≠ i → stepF F ps.length t c i' (co (ps ++ [c]) i) = 0 := by
    intro i hi
    by_cases e : i = d
    · subst e
      rw [hcd]
      refine ⟨by rw [hst, if_pos rfl, hrc], fun j hj => by rw [hst, if_pos rfl, hr0 j hj], fun i' hi' hne' => ?_⟩
      rw [hst, if_neg hne', hrc, Gf.one_mul _ (hG i' c), Nat.xor_self]
    · have hid : i < d := by omega
      rw [hco i hid]
      have hit : i ≠ t := by omega
      refine ⟨?_, fun j hj => ?_, fun i' hi' hne' => ?_⟩
      · rw [hst, if_neg e, if_neg hit, hrp i hid, Gf.zero_mul, Nat.xor_zero, hone i hid]
      · rw [hst, if_neg e, if_neg hit, hr0 j (by have := hlt i hid; omega), Gf.zero_mul, Nat.xor_zero, hleft i hid j hj]
      · rw [hst]
        by_cases e2 : i' = d
        · rw [if_pos e2, hrp i hid]
        · rw [if_neg e2, hrp i hid, Gf.zero_mul, Nat.xor_zero]
          by_cases e3 : i' = t
          · rw [if_pos e3, hclear i d hid (by omega) (fun e => by omega)]
          · rw [if_neg e3, hclear i i' hid hi' hne']
  have hnf : NotFree K c := by
    rintro ⟨v, hv, kv, hvc, htop⟩
    have hk := (hsame v hv).2 kv d (by omega)
    have hm := main d (by omega)
    rw [hcd] at hm
    rw [dot_single N _ v c hN (fun k hk hne => by
      rcases Nat.lt_or_gt_of_ne hne with h1 | h1
      · exact .inl (hm.2.1 k h1)
      · exact .inr (htop k h1)), hm.1, Gf.one_mul _ (hv _)] at hk
    exact hvc hk
  constructor
  · exact hb
  · exact hsame
  · rw [hlen]; omega
  · intro i hi
    rw [hlen] at hi
    by_cases e : i = d
    · rw [e, hcd]; omega
    · rw [hco i (by omega)]; have := hlt i (by omega); omega
  · intro i hi; rw [hlen] at hi; exact (main i hi).1
  · intro i hi; rw [hlen] at hi; exact (main i hi).2.1
  · intro i i' hi hi' hne'; rw [hlen] at hi; exact (main i hi).2.2 i' hi' hne'
  · intro i h1 h2 j hj
    rw [hlen] at h1
    by_cases e : j = c
    · have := (main d (by omega)).2.2 i h2 (by omega)
      rw [hcd] at this
      rw [e]; exact this
    · rw [hst, if_neg (by omega), hr0 j (by omega), Gf.zero_mul, Nat.xor_zero]
      split
      · exact hrest d (Nat.le_refl _) (by omega) j (by omega)
      · exact hrest i (by omega) h2 j (by omega)
  · rw [hlen]
    have hcnt := h.cnt
    rw [hd] at hcnt
    exact .inl ⟨hnf, d, rfl, hcnt⟩

/-! ### What the reduced rows tell -/
theorem dot_succ (n : Nat) (r x : Nat → Nat) : dot (n + 1) r x = dot n r x ^^^ mul (r n) (x n) := rfl
theorem Red.none {m n : Nat} {K : (Nat → Nat) → Prop} {F : Nat → Nat → Nat} {ps : List Nat} (h : Red m (n + 1) n K F ps) {i : Nat} (h1 : ps.length ≤ i) (h2 : i < m) (h3 : F i n ≠ 0) : SolNone K n := fun x hx k => by
  have hk := (h.same _ (ext1_by n x hx)).2 k i h2
  rw [dot_succ, dot_zero n _ _ (fun j hj => .inl (h.rest i h1 h2 j hj)), Nat.zero_xor, show ext1 n x n = 1 from by unfold ext1; rw [if_neg (by omega), if_pos rfl], Gf.mul_one _ (h.bytes _ _)] at hk
  exact h3 hk
theorem co_range (n : Nat) (o : Nat → Nat) (i : Nat) : co ((List.range n).map o) i = if i < n then o i else 0 := by
  unfold co
  rw [List.getElem?_map]
  by_cases h : i < n
  · rw [if_pos h, List.getElem?_range h]; rfl
  · rw [if_neg h, List.getElem?_eq_none (by simp; omega)]; rfl
theorem Red.some {m n : Nat} {K : (Nat → Nat) → Prop} {F : Nat → Nat → Nat} {ps : List Nat} (h : Red m (n + 1) n K F ps) (hz : ∀ i, ps.length ≤ i → i < m → F i n = 0) (o : Nat → Nat) (ho : ∀ i, i < ps.length → o (co ps i) = F i n) (ho0 : ∀ k, k < n → (∀ i, i < ps.length → co ps i ≠ k) → o k = 0) :
    SolSome K n ((List.range n).map o) := by
  have hcases : ∀ k, k < n → (∃ i, i < ps.length ∧ co ps i = k) ∨ ∀ i, i < ps.length → co ps i ≠ k := fun k _ => by
    by_cases e : ∃ i, i < ps.length ∧ co ps i = k
    · exact .inl e
    · exact .inr fun i hi e' => e ⟨i, hi, e'⟩
  have hob : ∀ k, k < n → o k < 256 := fun k hk => by
    rcases hcases k hk with ⟨i, hi, rfl⟩ | hno
    · rw [ho i hi]; exact h.bytes _ _
    · rw [ho0 k hk hno]; omega
  have hsm : Sm ((List.range n).map o) := fun i => by
    rw [co_range]
    split
    · exact hob i (by assumption)
    · omega
  refine ⟨by simp, hsm, (h.same _ (ext1_by n _ hsm)).1 fun i hi => ?_, fun c hc hf => ?_⟩
  · have hx : ∀ k, k < n → ext1 n (co ((List.range n).map o)) k = o k := fun k hk => by
      unfold ext1
      rw [if_pos hk, co_range, if_pos hk]
    have hxn : ext1 n (co ((List.range n).map o)) n = 1 := by unfold ext1; rw [if_neg (by omega), if_pos rfl]
    rw [dot_succ, hxn, Gf.mul_one _ (h.bytes _ _), dot_congr (fun _ _ => rfl) hx]
    by_cases hid : i < ps.length
    · rw [dot_single n (F i) o (co ps i) (h.lt i hid) (fun k hk hne => ?_), h.one i hid, ho i hid, Gf.one_mul _ (h.bytes _ _), Nat.xor_self]
      rcases hcases k hk with ⟨i', hi', rfl⟩ | hno
      · exact .inl (h.clear i' i hi' hi (fun e => hne (by rw [e])))
      · exact .inr (ho0 k hk hno)
    · rw [dot_zero n _ _ (fun j hj => .inl (h.rest i (by omega) hi j hj)), hz i (by omega) hi]
      rfl
  · rw [co_range, if_pos hc]
    rcases hcases c hc with ⟨i, hi, rfl⟩ | hno
    · exact absurd hf (h.notFree (by omega) hi)
    · exact ho0 c hc hno
theorem red_start (m N : Nat) (F : Nat → Nat → Nat) (hb : ∀ i k, F i k < 256) : Red m N 0 (Ker m N F) F [] where
  bytes := hb
  same := fun _ _ => Iff.rfl
  few := Nat.zero_le _
  lt := fun i hi => absurd hi (by simp)
  one := fun i hi => absurd hi (by simp)
  left := fun i hi => absurd hi (by simp)
  clear := fun i i' hi => absurd hi (by simp)
  rest := fun i _ _ j hj => absurd hj (by omega)
  cnt := rfl
end Lin

/-
  Words for layer 3: rows that are right, their kernel, what Solve is to answer. Conditions: none.
-/
namespace Go.Proofs.Ytbcbnpjbcjmjmaa
open Go.RowKit
open Pol (co Sm)
open Lin (Red SolSome SolNone)

/-- There are rows, of one length that is at least 1. -/
def Rt (rows : List (List Nat)) : Prop := 0 < rows.length ∧ ∀ i, i < rows.length → 1 ≤ (ro rows i).length ∧ (ro rows i).length = (ro rows 0).length
/-- True where P holds; nothing but draws. -/
def Says (P : Prop) (w : World) (e : Ending) (w' : World) : Prop := (P ∧ Hands (.bool true) w e w') ∨ (¬ P ∧ Hands (.bool false) w e w')
theorem RRd.drewN {w : World} {A : Option Addr} {rows : List (List Nat)} (h : RRd w A rows) (n : Nat) : RRd (w.drewN n) A rows := h
/-- Rows as numbers. -/
def num (rows : List (List Nat)) (i k : Nat) : Nat := co (ro rows i) k
/-- The kernel of rows of N elements. -/
def KR (N : Nat) (rows : List (List Nat)) : (Nat → Nat) → Prop := Lin.Ker rows.length N (num rows)
/-- A list, and a number. -/
def GivesE (l : List Nat) (n : Int) (w : World) (e : Ending) (w' : World) : Prop := ∃ v : Value, e = .returned (.tuple #[v, .int .i64 n]) ∧ Sl w' v l ∧ Ext w w'
theorem sl_none (w : World) : Sl w (.slice none 0 0) [] := ⟨none, 0, rfl, Nat.le_refl _, Rd.nil _ _⟩
/-- How many elements a row has. -/
def wide (rows : List (List Nat)) : Nat := (ro rows 0).length
/-- What Solve answers of right rows. -/
def SolveP (K : (Nat → Nat) → Prop) (n : Nat) (w : World) (e : Ending) (w' : World) : Prop :=
  (∃ x, SolSome K n x ∧ GivesE x 0 w e w') ∨ (SolNone K n ∧ GivesE [] 7 w e w')
def SolveE (rows : List (List Nat)) (w : World) (e : Ending) (w' : World) : Prop := SolveP (KR (wide rows) rows) (wide rows - 1) w e w'

def outF (F : Nat → Nat → Nat) (ps : List Nat) (n : Nat) : Nat → Nat → Nat
  | 0 => fun _ => 0
  | i + 1 => upd (outF F ps n i) (co ps i) (F i n)
theorem outF_no {F : Nat → Nat → Nat} {ps : List Nat} {n k : Nat} : ∀ i, i ≤ ps.length → (∀ j, j < ps.length → co ps j ≠ k) → outF F ps n i k = 0
  | 0, _, _ => rfl
  | i + 1, hi, h => by
    rw [outF]
    unfold upd
    rw [if_neg (fun e => h i (by omega) e.symm)]
    exact outF_no i (by omega) h
theorem outF_at {m N c : Nat} {K : (Nat → Nat) → Prop} {F : Nat → Nat → Nat} {ps : List Nat} (h : Red m N c K F ps) (n : Nat) {j : Nat} : ∀ i, i ≤ ps.length → j < i → outF F ps n i (co ps j) = F j n
  | 0, _, hj => by omega
  | i + 1, hi, hj => by
    rw [outF]
    unfold upd
    by_cases e : j = i
    · rw [if_pos (by rw [e]), e]
    · rw [if_neg (fun e' => e (h.inj (by omega) (by omega) e'))]
      exact outF_at h n i (by omega) (by omega)
theorem outF_lt {F : Nat → Nat → Nat} {ps : List Nat} {n : Nat} (hb : ∀ i k, F i k < 256) : ∀ i k, outF F ps n i k < 256
  | 0, _ => by simp [outF]
  | i + 1, k => by
    rw [outF]
    unfold upd
    split
    · exact hb _ _
    · exact outF_lt hb i k
end Go.Proofs.Ytbcbnpjbcjmjmaa

/-
  What the document's own Decode of layer 4 does: the one polynomial of so many coefficients that goes through all points but some, or its errors. Conditions: no more than 2^16 points for what is refused, 40 otherwise.
-/
namespace Go.Proofs.Ytbcbnpjbcjmjmaa
open Go.RowKit
open Pol (co Sm px py Apart thr)
open Wel (Ap wrongs)

/-- What Decode answers of points and numbers that are right. -/
def DecE (l : List (Nat × Nat)) (k v : Nat) (w : World) (e : Ending) (w' : World) : Prop := (∃ a, Wel.Code l k v a ∧ GivesE a 0 w e w') ∨ ((∀ a, ¬ Wel.Code l k v a) ∧ GivesE [] 15 w e w')
/-- Points and numbers that are right. -/
def Fine (l : List (Nat × Nat)) (k v : Int) : Prop := Apart l l.length ∧ 1 ≤ k ∧ 0 ≤ v ∧ k + 2 * v ≤ (l.length : Int)

set_option maxHeartbeats 800000 in
set_option maxRecDepth 100000 in
theorem ref_decode_odd (l : List (Nat × Nat)) (k v : Int) (A : Option Addr) (ca : Nat) (w : World) (hl : PRd w A l) (hll : l.length ≤ 65536) (h : ¬ Fine l k v) :
    Calls Try.prog 12 #[.slice A l.length ca, .int .i64 k, .int .i64 v] w (GivesE [] 1 w) := by
  by_cases hap : Apart l l.length
  · have HT := Lib.hid (ref_twice_no l A ca w hl (by omega) hap)
    have hq : ¬ (1 ≤ k ∧ 0 ≤ v ∧ k + 2 * v ≤ (l.length : Int)) := fun h' => h ⟨hap, h'⟩
    generalize l.length = n at *
    clear h hl hap
    by_cases h1 : k < 1
    · have d1 : decide (k < 1) = true := by simp; omega
      clear hq
      go_enter Try.func12, Try.ntmps12
      go_wp2_with fail
      refine HT.out.mono ?_
      rintro e w1 ⟨rfl, q, rfl⟩
      go_wp2
      go_ret2
      exact ⟨_, rfl, sl_none _, (Ext.refl w).drewN q⟩
    · have d1 : decide (k < 1) = false := by simp; omega
      by_cases h2 : v < 0
      · have d2 : decide (v < 0) = true := by simp; omega
        clear hq
        go_enter Try.func12, Try.ntmps12
        go_wp2_with fail
        refine HT.out.mono ?_
        rintro e w1 ⟨rfl, q, rfl⟩
        go_wp2
        go_ret2
        exact ⟨_, rfl, sl_none _, (Ext.refl w).drewN q⟩
      · have d2 : decide (v < 0) = false := by simp; omega
        by_cases h3 : (n : Int) < k
        · have d3 : decide ((n : Int) < k) = true := by simp; omega
          clear hq
          go_enter Try.func12, Try.ntmps12
          go_wp2_with fail
          refine HT.out.mono ?_
          rintro e w1 ⟨rfl, q, rfl⟩
          go_wp2
          go_ret2
          exact ⟨_, rfl, sl_none _, (Ext.refl w).drewN q⟩
        · have d3 : decide ((n : Int) < k) = false := by simp; omega
          by_cases h4 : (n : Int) < v
          · have d4 : decide ((n : Int) < v) = true := by simp; omega
            clear hq
            go_enter Try.func12, Try.ntmps12
            go_wp2_with fail
            refine HT.out.mono ?_
            rintro e w1 ⟨rfl, q, rfl⟩
            go_wp2
            go_ret2
            exact ⟨_, rfl, sl_none _, (Ext.refl w).drewN q⟩
          · have d4 : decide ((n : Int) < v) = false := by simp; omega
            have h5 : (n : Int) < k + 2 * v := by omega
            have d5 : decide ((n : Int) < k + 2 * v) = true := by simp; omega
            clear hq
            go_enter Try.func12, Try.ntmps12
            go_wp2_with fail
            refine HT.out.mono ?_
            rintro e w1 ⟨rfl, q, rfl⟩
            go_wp2
            go_ret2
            exact ⟨_, rfl, sl_none _, (Ext.refl w).drewN q⟩
  · have HT := Lib.hid (ref_twice_yes l A ca w hl (by omega) hap)
    generalize l.length = n at *
    clear h hl hap
    go_enter Try.func12, Try.ntmps12
    go_wp2_with fail
    refine HT.out.mono ?_
    rintro e w1 ⟨rfl, q, rfl⟩
    go_wp2
    go_ret2
    exact ⟨_, rfl, sl_none _, (Ext.refl w).drewN q⟩

/-- No choice below b is any good. -/
def Vain (l : List (Nat × Nat)) (k v b : Nat) : Prop := ∀ c, c < b → ¬ ((Wel.sub l c).length = k ∧ Wel.bad l (thr (Wel.sub l c) (Wel.sub l c).length) ≤ v)
theorem Vain.all {l : List (Nat × Nat)} {k v b : Nat} (h : Vain l k v b) (hap : Ap l) (hn : k + 2 * v ≤ l.length) (hb : b = 2 ^ l.length) : ∀ a, ¬ Wel.Code l k v a := fun a ha => by
  obtain ⟨c, hc, h1, h2⟩ := Wel.some_try hap hn ha
  exact h c (by rw [hb]; exact hc) ⟨h1, h2⟩
theorem Vain.step {l : List (Nat × Nat)} {k v b : Nat} (h : Vain l k v b) (hb : ¬ ((Wel.sub l b).length = k ∧ Wel.bad l (thr (Wel.sub l b) (Wel.sub l b).length) ≤ v)) : Vain l k v (b + 1) := fun c hc => by
  by_cases e : c = b
  · rw [e]; exact hb
  · exact h c (by omega)
theorem thr_le (s : List (Nat × Nat)) : (thr s s.length).length ≤ s.length := by
  rw [← Pol.thr_trim s s.length]
  exact Pol.trim_le _ _ (fun i hi => Pol.thr_len s s.length (Nat.le_refl _) i hi)
/-- A list with some zeros behind it. -/
def zpad (a : List Nat) (j : Nat) : List Nat := a ++ List.replicate j 0
theorem zpad_len (a : List Nat) (j : Nat) : (zpad a j).length = a.length + j := by unfold zpad; rw [List.length_append, List.length_replicate]
theorem zpad_step (a : List Nat) (j : Nat) : zpad a j ++ [0] = zpad a (j + 1) := by unfold zpad; rw [List.append_assoc, ← List.replicate_succ']
theorem zpad_sm {a : List Nat} (h : Sm a) (j : Nat) : Sm (zpad a j) := Pol.co_lt_of fun x hx => by
  rcases List.mem_append.1 hx with hx | hx
  · exact h.mem x hx
  · rw [List.eq_of_mem_replicate hx]; omega

set_option maxHeartbeats 2000000 in
set_option maxRecDepth 100000 in
theorem ref_decode (l : List (Nat × Nat)) (k v : Nat) (A : Option Addr) (ca : Nat) (w : World) (hl : PRd w A l) (hll : l.length ≤ 40) (hap : Apart l l.length) (hk : 1 ≤ k) (hkv : k + 2 * v ≤ l.length) :
    Calls Try.prog 12 #[.slice A l.length ca, .int .i64 (k : Int), .int .i64 (v : Int)] w (DecE l k v w) := by
  have HT := Lib.hid (ref_twice_no l A ca w hl (by omega) hap)
  have hAp := Wel.ap_of hl.1 hap
  have HAP := Lib.hid hAp
  have HCH := Lib.hid (fun b W (hb : b < 9223372036854775808) (hW : Ext w W) => ref_chosen l b A ca W (hl.ext hW) (by omega) hb)
  have HTH := Lib.hid (fun b W B c (hB : PRd W B (Wel.sub l b)) => ref_through_m (Wel.sub l b) B c W hB (by have := (Wel.sub_sub l b).length_le; omega) (hAp.sub (Wel.sub_sub l b)).apart)
  have HWR := Lib.hid (fun a W B c (hW : Ext w W) (hB : Rd W B a) (hla : a.length ≤ 65536) => ref_wrong l a A B ca c W (hl.ext hW) hB (by omega) hla)
  have HVA := Lib.hid (fun b (h : Vain l k v b) (hb : b = 2 ^ l.length) => h.all hAp hkv hb)
  have HTC := Lib.hid (fun b hlen hw => Wel.try_code hAp (k := k) (w := v) (Wel.sub_sub l b) hlen hw)
  have HSL := Lib.hid (fun b => (Wel.sub_sub l b).length_le)
  generalize hn : l.length = n at *
  have HN := Lib.hid hn
  have d1 : decide ((k : Int) < 1) = false := by simp; omega
  have d2 : decide ((v : Int) < 0) = false := by simp
  have d3 : decide ((n : Int) < (k : Int)) = false := by simp; omega
  have d4 : decide ((n : Int) < (v : Int)) = false := by simp; omega
  have d5 : decide ((n : Int) < (k : Int) + 2 * (v : Int)) = false := by simp; omega
  have n3 : decide (n < k) = false := by simp; omega
  have n4 : decide (n < v) = false := by simp; omega
  clear hl hap hAp hn
  go_enter Try.func12, Try.ntmps12
  go_wp2_with fail
  refine HT.out.mono ?_
  rintro e w1 ⟨rfl, q, rfl⟩
  go_wp2
  go_loopg [8, 45] n (fun g s8 s45 wx => ∃ i p : Nat, i + g = n ∧ s45 = .int .i64 (i : Int) ∧ s8 = .int .i64 (p : Int) ∧ p = 2 ^ i ∧ wx = w.drewN q)
  case atStart => exact ⟨0, 1, by omega, rfl, rfl, rfl, rfl⟩
  case round =>
    obtain ⟨i, p, hig, rfl, rfl, hp, rfl⟩ := hrel
    have hpb : p ≤ 1099511627776 := by rw [hp]; exact Nat.le_trans (Nat.pow_le_pow_right (by omega) (show i ≤ 40 by omega)) (by decide)
    have HP := Lib.hid hp
    clear hp
    cases gk with
    | succ g =>
      have hiI : (i : Int) < (n : Int) := by omega
      go_wp2
      go_roundg g
      case measure => omega
      case rel => exact ⟨i + 1, p * 2, by omega, by go_num, by go_num, by rw [HP.out, Nat.pow_succ], rfl⟩
    | zero =>
      obtain rfl : n = i := by omega
      clear hig
      obtain ⟨W0, hW0⟩ : ∃ W0, w.drewN q = W0 := ⟨_, rfl⟩
      rw [hW0]
      have HX0 := Lib.hid (show Ext w W0 from hW0 ▸ (Ext.refl w).drewN q)
      clear hW0
      go_wp2
      go_loopg [9] p (fun g s9 wx => ∃ b : Nat, b + g = p ∧ s9 = .int .i64 (b : Int) ∧ Vain l k v b ∧ Ext w wx)
      case atStart => exact ⟨0, by omega, rfl, fun c hc => by omega, HX0.out⟩
      case round =>
        obtain ⟨b, hbg, rfl, hva, hx⟩ := hrel
        have HV := Lib.hid hva
        have HX := Lib.hid hx
        clear hva hx
        cases gk with
        | zero =>
          obtain rfl : p = b := by omega
          clear hbg
          have HNO := Lib.hid (HVA.out p HV.out (by rw [HP.out]))
          go_wp2
          go_ret2
          exact .inr ⟨HNO.out, _, rfl, sl_none _, HX.out⟩
        | succ g =>
          have hb : b < p := by omega
          have hbI : (b : Int) < (p : Int) := by omega
          have hlen := HSL.out b
          go_wp2_with fail
          refine (HCH.out b wr (by omega) HX.out).mono ?_
          rintro e w2 ⟨B2, c2, rfl, hc2, hr2, hx2⟩
          have HR2 := Lib.hid hr2
          have HX2 := Lib.hid (HX.out.trans hx2)
          clear hr2 hx2
          obtain ⟨m, hm⟩ : ∃ m, (Wel.sub l b).length = m := ⟨_, rfl⟩
          have HTW := Lib.hid (HTH.out b w2 B2 c2 HR2.out)
          rw [hm] at hlen hc2 HTW ⊢
          by_cases hmk : m = k
          · have tmk : ((m : Int) != (k : Int)) = false := by subst hmk; simp
            have HM := Lib.hid hm
            have HMK := Lib.hid hmk
            clear hm hmk
            go_wp2_with fail
            refine HTW.out.mono ?_
            rintro e w3 ⟨v3, rfl, hm3, hs3, hx3⟩
            obtain ⟨B3, c3, rfl, hc3, hr3⟩ := hm3.slice hs3
            obtain ⟨a, ha⟩ : ∃ a, thr (Wel.sub l b) m = a := ⟨_, rfl⟩
            have hla : a.length ≤ m := by
              rw [← ha]
              have := thr_le (Wel.sub l b)
              rwa [HM.out] at this
            rw [ha] at hm3 hs3 hc3 hr3 ⊢
            have HAE := Lib.hid ha
            have HM3 := Lib.hid (hm3.down HX2.out.size)
            have HS3 := Lib.hid hs3
            have HR3 := Lib.hid hr3
            have HX3 := Lib.hid (HX2.out.trans hx3)
            clear hm3 hs3 hr3 hx3 ha HTW
            have HW3 := Lib.hid (HWR.out a w3 B3 c3 HX3.out HR3.out (by have := HMK.out; omega))
            obtain ⟨ta, hta⟩ : ∃ ta, a.length = ta := ⟨_, rfl⟩
            rw [hta] at hla hc3 HW3 ⊢
            have HTA := Lib.hid hta
            clear hta
            have hbad := Wel.wrongs_bad l a
            rw [HN.out] at hbad
            obtain ⟨bd, hbd⟩ : ∃ bd, Wel.bad l a = bd := ⟨_, rfl⟩
            rw [hbd] at hbad
            have HBD := Lib.hid hbd
            have HBB := Lib.hid hbad
            have hbdn := Wel.wrongs_len l a n
            rw [hbad] at hbdn
            clear hbd hbad
            go_wp2_with fail
            refine HW3.out.mono ?_
            rintro e w4 ⟨B4, c4, rfl, hc4, _, hx4⟩
            rw [HBB.out] at hc4 ⊢
            have HX4 := Lib.hid (HX3.out.trans hx4)
            have HM4 := Lib.hid (mine_ext HM3.out hx4)
            clear hx4
            by_cases hbv : bd ≤ v
            · have tbv : (bd : Int) ≤ (v : Int) := by omega
              have hcode := (HTC.out b (HM.out.trans HMK.out) (by rw [HM.out, HAE.out, HBD.out]; exact hbv)).2
              rw [HM.out, HAE.out] at hcode
              have hcode2 : Wel.Code l k v (zpad a (k - ta)) := by rw [← HTA.out]; exact hcode
              have HCO := Lib.hid hcode2
              have hmk2 := HMK.out
              have hlk : ta ≤ k := by omega
              clear hcode hcode2 hmk2
              go_wp2
              go_loopg [11] (k - ta) (fun g s11 wx => ∃ j : Nat, j + g = k - ta ∧ Mine wx w.heap.size s11 (zpad a j) ∧ Ext w wx)
              case atStart => exact ⟨0, by omega, by unfold zpad; rw [List.replicate_zero, List.append_nil]; have h := HM4.out; have e := HTA.out; rwa [e] at h, HX4.out⟩
              case round =>
                obtain ⟨j, hjg, hmj, hxj⟩ := hrel
                obtain ⟨B5, c5, rfl, hc5, hr5⟩ := hmj.slice (zpad_sm HS3.out j)
                have HMJ := Lib.hid hmj
                have HXJ := Lib.hid hxj
                have HR5 := Lib.hid hr5
                have hzl : (zpad a j).length = ta + j := by rw [zpad_len, HTA.out]
                rw [hzl] at hc5 HMJ ⊢
                have HZL := Lib.hid hzl
                clear hmj hxj hr5 hzl
                cases gk with
                | zero =>
                  have hj : ta + j = k := by omega
                  have hj2 : j = k - ta := by omega
                  have tj : ¬ ((ta + j : Nat) : Int) < (k : Int) := by omega
                  have HJ := Lib.hid hj2
                  rw [hj] at HMJ HZL hc5 tj ⊢
                  have dj : decide ((k : Int) < (k : Int)) = false := by simp
                  clear hj hj2 hjg
                  go_wp2
                  go_ret2
                  exact .inl ⟨_, HCO.out, _, rfl, ⟨B5, c5, by rw [← HJ.out, HZL.out]; rfl, by rw [← HJ.out, HZL.out]; exact hc5, by rw [← HJ.out]; exact HR5.out⟩, HXJ.out⟩
                | succ gj =>
                  obtain ⟨tj, htj⟩ : ∃ t, ta + j = t := ⟨_, rfl⟩
                  rw [htj] at HMJ HZL hc5 ⊢
                  have hlt : (tj : Int) < (k : Int) := by omega
                  have htj1 : tj < k := by omega
                  have hj1 : j + 1 ≤ k - ta := by omega
                  clear htj
                  go_wp2_with (at_builtin; refine wpList_append_rd rfl (.tmp 74) (.tmp 75) rfl w.heap.size (.slice B5 tj c5) (zpad a j) [0] rfl (mine_ext HMJ.out ((Ext.refl _).alloc _)) (some ⟨wr.heap.size, 0, none⟩) 1 1 rfl rfl (rd_one wr 0 (by omega)) (by rw [HZL.out]; simp; omega) (by have := HXJ.out.size; simp; omega) ?_; intro v' w9 hown' hg' hat')
                  have HO := Lib.hid (show Mine w9 w.heap.size v' (zpad a (j + 1)) from by rw [← zpad_step]; exact hown')
                  have HX9 := Lib.hid ((HXJ.out.alloc _).more hg' (fun k e => (HMJ.out.block k e).1))
                  clear hown' hg' hat'
                  go_wp2
                  go_roundg gj
                  case measure => omega
                  case rel => exact ⟨j + 1, by omega, HO.out, HX9.out⟩
            · have tbv : ¬ (bd : Int) ≤ (v : Int) := by omega
              have dbv : decide ((bd : Int) ≤ (v : Int)) = false := by simp; omega
              have nbv : decide (bd ≤ v) = false := by simp; omega
              have HVN := Lib.hid (HV.out.step (fun h => hbv (by have := h.2; rwa [HM.out, HAE.out, HBD.out] at this)))
              clear hbv
              go_wp2
              go_roundg g
              case measure => omega
              case rel => exact ⟨b + 1, by omega, by go_num, HVN.out, HX4.out⟩
          · have tmk : ((m : Int) != (k : Int)) = true := by simp; omega
            have HVN := Lib.hid (HV.out.step (fun h => hmk (hm.symm.trans h.1)))
            clear hm hmk
            go_wp2
            go_roundg g
            case measure => omega
            case rel => exact ⟨b + 1, by omega, by go_num, HVN.out, HX2.out⟩
end Go.Proofs.Ytbcbnpjbcjmjmaa

/-
  What layer 4's own functions are to do, as one statement; the laws of layer 4 are awake under that. Conditions: a field that New made, no more than 2^10 points and coefficients.
-/
namespace Go.Proofs.Ytbcbnpjbcjmjmaa
open Go.RowKit
open Pol (co Sm px py Apart)
open Wel (Ap wrongs)

/-- An int. -/
def In64 (k : Int) : Prop := -9223372036854775808 ≤ k ∧ k < 9223372036854775808
structure WelchSaid : Prop where
  odd : ∀ (f : Nat) (l : List (Nat × Nat)) (k v : Int) (A : Option Addr) (c : Nat) (w : World), IsField w f → PRd w A l → l.length ≤ c → l.length ≤ 1024 → In64 k → In64 v → ¬ Fine l k v →
    Calls Try.prog 11 #[.pointer (some ⟨f, 0, none⟩), .slice A l.length c, .int .i64 k, .int .i64 v] w (GivesE [] 1 w)
  dec : ∀ (f : Nat) (l : List (Nat × Nat)) (k v : Nat) (A : Option Addr) (c : Nat) (w : World), IsField w f → PRd w A l → l.length ≤ c → l.length ≤ 1024 → Apart l l.length → 1 ≤ k → k + 2 * v ≤ l.length →
    Calls Try.prog 11 #[.pointer (some ⟨f, 0, none⟩), .slice A l.length c, .int .i64 (k : Int), .int .i64 (v : Int)] w (DecE l k v w)
  wrong : ∀ (f : Nat) (l : List (Nat × Nat)) (a : List Nat) (A B : Option Addr) (c d : Nat) (w : World), IsField w f → PRd w A l → Rd w B a → l.length ≤ c → a.length ≤ d → l.length ≤ 1024 → a.length ≤ 1024 →
    Calls Try.prog 15 #[.pointer (some ⟨f, 0, none⟩), .slice A l.length c, .slice B a.length d] w (GivesI (wrongs l a l.length) w)

theorem DecE.is {l : List (Nat × Nat)} {k v : Nat} {w : World} {e : Ending} {w' : World} (h : DecE l k v w e w') (hap : Ap l) (hn : k + 2 * v ≤ l.length) {a : List Nat} (ha : Wel.Code l k v a) : GivesE a 0 w e w' := by
  rcases h with ⟨b, hb, h⟩ | ⟨hno, _⟩
  · rwa [hb.one hap hn ha] at h
  · exact absurd ha (hno a)
theorem DecE.no {l : List (Nat × Nat)} {k v : Nat} {w : World} {e : Ending} {w' : World} (h : DecE l k v w e w') (hno : ∀ a, ¬ Wel.Code l k v a) : GivesE [] 15 w e w' := by
  rcases h with ⟨b, hb, h⟩ | ⟨_, h⟩
  · exact absurd hb (hno b)
  · exact h

/-! ### The example -/
def exl : List (Nat × Nat) := [(1, 7), (2, 7), (3, 7), (4, 7), (5, 9)]
theorem exl_ap : Ap exl := ⟨by decide, fun p hp => by
  have : ∀ p ∈ exl, p.1 < 256 ∧ p.2 < 256 := by decide
  exact this p hp⟩
theorem exl_code : Wel.Code exl 1 2 [7] := ⟨rfl, Sm.cons (by omega) Sm.nil, by decide +kernel⟩
theorem exl_wrongs : wrongs exl [7] 5 = [4] := by decide +kernel
theorem exl_prd (w : World) : PRd (w.alloc (.cells (pv exl).toArray 44)) (some ⟨w.heap.size, 0, none⟩) exl := prd_lit w exl exl_ap.psm
theorem ird_one (w : World) (n : Nat) : IRd (w.alloc (.cells #[.int .i64 (n : Int)] 3)) (some ⟨w.heap.size, 0, none⟩) [n] := fun i hi => by
  match i, hi with
  | 0, _ => exact ⟨w.heap.size, 0, rfl, by rw [cell_of_row _ _ _ _ _ _ (heap_alloc_new w _)]; rfl⟩

set_option maxHeartbeats 1000000 in
set_option maxRecDepth 100000 in
theorem awake4 (C : WelchSaid) (w : World) : Calls Try.prog 9 #[] w (Holds w) := by
  have HD := Lib.hid (fun f u (hf : IsField (u.alloc (.cells (pv exl).toArray 44)) f) => (C.dec f exl 1 2 (some ⟨u.heap.size, 0, none⟩) 5 _ hf (exl_prd u) (by decide) (by decide) exl_ap.apart (by decide) (by decide)).mono fun _ _ h => h.is exl_ap (by decide) exl_code)
  have HW := Lib.hid (fun f A B c u (hf : IsField u f) (hl : PRd u A exl) (ha : Rd u B [7]) hc => C.wrong f exl [7] A B 5 c u hf hl ha (by decide) hc (by decide) (by decide))
  have HEP := Lib.hid exl_prd
  have HEW := Lib.hid exl_wrongs
  go_enter Try.func9, Try.ntmps9
  go_wp2_with fail
  refine (new_any w).mono ?_
  rintro e w1 ⟨f, rfl, hf, hfs, hx1⟩
  have HF := Lib.hid hf
  have HX1 := Lib.hid hx1
  clear hf hx1
  go_wp2_with fail
  refine (HD.out f w1 (HF.out.ext ((Ext.refl w1).alloc _))).mono ?_
  rintro e w2 ⟨v, rfl, ⟨B, c, rfl, hc, hr⟩, hx2⟩
  have HR := Lib.hid hr
  have HX2 := Lib.hid (((Ext.refl w1).alloc _).trans hx2)
  have HL := Lib.hid ((HEP.out w1).ext hx2)
  clear hr hx2
  go_wp2_with fail
  refine (same_tells [7] B (some ⟨w2.heap.size, 0, none⟩) c 1 (w2.alloc (.cells (bv [7]).toArray 5)) (HR.out.ext ((Ext.refl w2).alloc _)) (rd_lit w2 [7] (Sm.cons (by omega) Sm.nil)) (by decide)).mono ?_
  rintro e w3 ⟨rfl, hx3⟩
  have HX3 := Lib.hid (((Ext.refl w2).alloc _).trans hx3)
  clear hx3
  go_wp2_with fail
  refine (HW.out f _ B c w3 (HF.out.ext (HX2.out.trans HX3.out)) (HL.out.ext HX3.out) (HR.out.ext HX3.out) hc).mono ?_
  rintro e w4 ⟨B4, c4, rfl, hc4, hr4, hx4⟩
  rw [show exl.length = 5 from rfl, HEW.out] at hc4 hr4 ⊢
  have HR4 := Lib.hid hr4
  have HX4 := Lib.hid hx4
  clear hr4 hx4
  go_wp2_with fail
  refine (ints_true [4] B4 (some ⟨w4.heap.size, 0, none⟩) c4 1 (w4.alloc (.cells #[.int .i64 ((4 : Nat) : Int)] 3)) (HR4.out.ext ((Ext.refl w4).alloc _)) (ird_one w4 4) (by decide)).mono ?_
  rintro e w5 ⟨rfl, q, rfl⟩
  go_wp2
  go_ret
  exact ⟨rfl, HX1.out.trans (HX2.out.trans (HX3.out.trans (HX4.out.trans (((Ext.refl w4).alloc _).drewN q))))⟩
end Go.Proofs.Ytbcbnpjbcjmjmaa

/-
  What Decode answers, as one relation between points, numbers and the answer: for the program and for the document's own; it does not hang on the order of the points, and fewer wrong ones tell the same or nothing. Conditions: no more than 2^10 points; 40 for the document's own.
-/
namespace Go.Proofs.Ytbcbnpjbcjmjmaa
open Go.RowKit
open Pol (co Sm px py Apart)
open Wel (Ap wrongs)

/-- x and n are what Decode is to answer. -/
inductive Dn (l : List (Nat × Nat)) (k v : Int) : List Nat → Int → Prop
  | code {x : List Nat} : Fine l k v → Wel.Code l k.toNat v.toNat x → Dn l k v x 0
  | vain : Fine l k v → (∀ a, ¬ Wel.Code l k.toNat v.toNat a) → Dn l k v [] 15
  | odd : ¬ Fine l k v → Dn l k v [] 1
theorem Fine.nat {l : List (Nat × Nat)} {k v : Int} (h : Fine l k v) : (k.toNat : Int) = k ∧ (v.toNat : Int) = v ∧ 1 ≤ k.toNat ∧ k.toNat + 2 * v.toNat ≤ l.length := by
  obtain ⟨_, h1, h2, h3⟩ := h
  omega
theorem Fine.ap {l : List (Nat × Nat)} {k v : Int} (h : Fine l k v) (hs : Pol.PSm l) : Ap l := Wel.ap_of hs h.1
theorem dn_is (l : List (Nat × Nat)) (k v : Int) : ∃ x n, Dn l k v x n := by
  by_cases h : Fine l k v
  · by_cases hc : ∃ a, Wel.Code l k.toNat v.toNat a
    · obtain ⟨a, ha⟩ := hc
      exact ⟨a, 0, .code h ha⟩
    · exact ⟨[], 15, .vain h fun a ha => hc ⟨a, ha⟩⟩
  · exact ⟨[], 1, .odd h⟩
theorem Dn.one {l : List (Nat × Nat)} {k v : Int} {x x' : List Nat} {n n' : Int} (hs : Pol.PSm l) (h : Dn l k v x n) (h' : Dn l k v x' n') : x = x' ∧ n = n' := by
  cases h with
  | code hf hc =>
    cases h' with
    | code _ hc' => exact ⟨hc.one (hf.ap hs) hf.nat.2.2.2 hc', rfl⟩
    | vain _ hn => exact absurd hc (hn _)
    | odd ho => exact absurd hf ho
  | vain hf hn =>
    cases h' with
    | code _ hc' => exact absurd hc' (hn _)
    | vain _ _ => exact ⟨rfl, rfl⟩
    | odd ho => exact absurd hf ho
  | odd ho =>
    cases h' with
    | code hf _ => exact absurd hf ho
    | vain hf _ => exact absurd hf ho
    | odd _ => exact ⟨rfl, rfl⟩
theorem Dn.len {l : List (Nat × Nat)} {k v : Int} {x : List Nat} {n : Int} (h : Dn l k v x n) : x.length ≤ l.length := by
  cases h with
  | code hf hc => rw [hc.len]; have := hf.nat; omega
  | vain _ _ => exact Nat.zero_le _
  | odd _ => exact Nat.zero_le _
theorem Dn.call {l : List (Nat × Nat)} {k v : Int} {x : List Nat} {n : Int} (h : Dn l k v x n) (C : WelchSaid) (f : Nat) (A : Option Addr) (c : Nat) (w : World) (hf : IsField w f) (hl : PRd w A l) (hc : l.length ≤ c) (hll : l.length ≤ 1024) (hk : In64 k) (hv : In64 v) :
    Calls Try.prog 11 #[.pointer (some ⟨f, 0, none⟩), .slice A l.length c, .int .i64 k, .int .i64 v] w (GivesE x n w) := by
  cases h with
  | code hfi hco =>
    have hn := hfi.nat
    have := C.dec f l k.toNat v.toNat A c w hf hl hc hll hfi.1 hn.2.2.1 hn.2.2.2
    rw [hn.1, hn.2.1] at this
    exact this.mono fun _ _ h => h.is (hfi.ap hl.1) hn.2.2.2 hco
  | vain hfi hno =>
    have hn := hfi.nat
    have := C.dec f l k.toNat v.toNat A c w hf hl hc hll hfi.1 hn.2.2.1 hn.2.2.2
    rw [hn.1, hn.2.1] at this
    exact this.mono fun _ _ h => h.no hno
  | odd ho => exact C.odd f l k v A c w hf hl hc hll hk hv ho
theorem Dn.ref {l : List (Nat × Nat)} {k v : Int} {x : List Nat} {n : Int} (h : Dn l k v x n) (A : Option Addr) (c : Nat) (w : World) (hl : PRd w A l) (hll : l.length ≤ 40) :
    Calls Try.prog 12 #[.slice A l.length c, .int .i64 k, .int .i64 v] w (GivesE x n w) := by
  cases h with
  | code hfi hco =>
    have hn := hfi.nat
    have := ref_decode l k.toNat v.toNat A c w hl hll hfi.1 hn.2.2.1 hn.2.2.2
    rw [hn.1, hn.2.1] at this
    exact this.mono fun _ _ h => h.is (hfi.ap hl.1) hn.2.2.2 hco
  | vain hfi hno =>
    have hn := hfi.nat
    have := ref_decode l k.toNat v.toNat A c w hl hll hfi.1 hn.2.2.1 hn.2.2.2
    rw [hn.1, hn.2.1] at this
    exact this.mono fun _ _ h => h.no hno
  | odd ho => exact ref_decode_odd l k v A c w hl (by omega) ho
theorem In64.of {k : Int} (h : (Lit.int .i64 k).wf = true) : In64 k := by
  have := bounds_i64 h
  unfold In64
  omega
end Go.Proofs.Ytbcbnpjbcjmjmaa

/-
  The law WelchTells, walked, under what layer 4's functions are to do. Conditions: none.
-/
namespace Go.Proofs.Ytbcbnpjbcjmjmaa
open Go.RowKit
open Pol (co Sm px py Apart)
open Wel (Ap wrongs)

set_option maxHeartbeats 800000 in
set_option maxRecDepth 100000 in
theorem tells4_big (C : WelchSaid) (A B : Option Addr) (n ca m cb : Nat) (k v : Int) (h : 10 < n ∨ 20 < m) (w : World) :
    Calls Try.prog 3 #[.slice A n ca, .int .i64 k, .int .i64 v, .slice B m cb] w (Holds w) := by
  have HAW := Lib.hid (fun u => awake4 C u)
  by_cases h1 : 10 < n
  · have t1 : (10 : Int) < (n : Int) := by omega
    clear h
    go_enter Try.func3, Try.ntmps3
    go_wp2_with fail
    refine (HAW.out w).mono ?_
    rintro e w1 ⟨rfl, hx1⟩
    have HX1 := Lib.hid hx1
    clear hx1
    go_wp2_with fail
    refine (HAW.out w1).mono ?_
    rintro e w2 ⟨rfl, hx2⟩
    have HX2 := Lib.hid hx2
    clear hx2
    go_wp2
    go_ret
    exact ⟨rfl, HX1.out.trans HX2.out⟩
  · have t1 : ¬ (10 : Int) < (n : Int) := by omega
    have d1 : decide ((10 : Int) < (n : Int)) = false := by simp; omega
    have n1 : decide (10 < n) = false := by simp; omega
    have t2 : (20 : Int) < (m : Int) := by omega
    clear h
    go_enter Try.func3, Try.ntmps3
    go_wp2_with fail
    refine (HAW.out w).mono ?_
    rintro e w1 ⟨rfl, hx1⟩
    have HX1 := Lib.hid hx1
    clear hx1
    go_wp2_with fail
    refine (HAW.out w1).mono ?_
    rintro e w2 ⟨rfl, hx2⟩
    have HX2 := Lib.hid hx2
    clear hx2
    go_wp2
    go_ret
    exact ⟨rfl, HX1.out.trans HX2.out⟩

set_option maxHeartbeats 1600000 in
set_option maxRecDepth 100000 in
theorem tells4_small (C : WelchSaid) (l : List (Nat × Nat)) (k v : Int) (a : List Nat) (A B : Option Addr) (ca cb : Nat) (w : World) (hl : PRd w A l) (ha : Rd w B a) (hca : l.length ≤ ca) (hcb : a.length ≤ cb) (hk : In64 k) (hv : In64 v) (h1 : l.length ≤ 10) (h2 : a.length ≤ 20) :
    Calls Try.prog 3 #[.slice A l.length ca, .int .i64 k, .int .i64 v, .slice B a.length cb] w (Holds w) := by
  have HAW := Lib.hid (fun u => awake4 C u)
  obtain ⟨x, n, hdn⟩ := dn_is l k v
  have hxl := hdn.len
  have HDC := Lib.hid (fun f u (hx : Ext w u) (hf : IsField u f) => hdn.call C f A ca u hf (hl.ext hx) hca (by omega) hk hv)
  have HDR := Lib.hid (fun u (hx : Ext w u) => hdn.ref A ca u (hl.ext hx) (by omega))
  have HWC := Lib.hid (fun f u (hx : Ext w u) (hf : IsField u f) => C.wrong f l a A B ca cb u hf (hl.ext hx) (ha.ext hx) hca hcb (by omega) (by omega))
  have HWR := Lib.hid (fun u (hx : Ext w u) => ref_wrong l a A B ca cb u (hl.ext hx) (ha.ext hx) (by omega) (by omega))
  have hwl := Wel.wrongs_len l a l.length
  obtain ⟨ws, hws⟩ : ∃ ws, wrongs l a l.length = ws := ⟨_, rfl⟩
  rw [hws] at hwl HWC HWR
  have tn : (n == n) = true := beq_self_eq_true n
  clear hl ha hdn hk hv hws
  generalize l.length = nl at *
  generalize a.length = na at *
  have t1 : ¬ (10 : Int) < (nl : Int) := by omega
  have d1 : decide ((10 : Int) < (nl : Int)) = false := by simp; omega
  have e1 : decide (10 < nl) = false := by simp; omega
  have t2 : ¬ (20 : Int) < (na : Int) := by omega
  have d2 : decide ((20 : Int) < (na : Int)) = false := by simp; omega
  have e2 : decide (20 < na) = false := by simp; omega
  go_enter Try.func3, Try.ntmps3
  go_wp2_with fail
  refine (HAW.out w).mono ?_
  rintro e w1 ⟨rfl, hx1⟩
  have HX1 := Lib.hid hx1
  clear hx1
  go_wp2_with fail
  refine (new_any w1).mono ?_
  rintro e w2 ⟨f, rfl, hf, hfs, hx2⟩
  have HF := Lib.hid hf
  have HX2 := Lib.hid (HX1.out.trans hx2)
  clear hf hx2
  go_wp2_with fail
  refine (HDC.out f w2 HX2.out HF.out).mono ?_
  rintro e w3 ⟨v3, rfl, ⟨B3, c3, rfl, hc3, hr3⟩, hx3⟩
  have HR3 := Lib.hid hr3
  have HX3 := Lib.hid (HX2.out.trans hx3)
  have HF3 := Lib.hid (HF.out.ext hx3)
  clear hr3 hx3
  go_wp2_with fail
  refine (HDR.out w3 HX3.out).mono ?_
  rintro e w4 ⟨v4, rfl, ⟨B4, c4, rfl, hc4, hr4⟩, hx4⟩
  have HR4 := Lib.hid hr4
  have HR5 := Lib.hid (HR3.out.ext hx4)
  have HX4 := Lib.hid (HX3.out.trans hx4)
  have HF4 := Lib.hid (HF3.out.ext hx4)
  clear hr4 hx4
  go_wp2_with fail
  refine (same_tells x B3 B4 c3 c4 w4 HR5.out HR4.out (by omega)).mono ?_
  rintro e w5 ⟨rfl, hx5⟩
  have HX5 := Lib.hid (HX4.out.trans hx5)
  have HF5 := Lib.hid (HF4.out.ext hx5)
  clear hx5
  go_wp2_with fail
  refine (HWC.out f w5 HX5.out HF5.out).mono ?_
  rintro e w6 ⟨B6, c6, rfl, hc6, hr6, hx6⟩
  have HR6 := Lib.hid hr6
  have HX6 := Lib.hid (HX5.out.trans hx6)
  clear hr6 hx6
  go_wp2_with fail
  refine (HWR.out w6 HX6.out).mono ?_
  rintro e w7 ⟨B7, c7, rfl, hc7, hr7, hx7⟩
  have HR7 := Lib.hid hr7
  have HR8 := Lib.hid (HR6.out.ext hx7)
  have HX7 := Lib.hid (HX6.out.trans hx7)
  clear hr7 hx7
  go_wp2_with fail
  refine (ints_true ws B6 B7 c6 c7 w7 HR8.out HR7.out (by omega)).mono ?_
  rintro e w8 ⟨rfl, q, rfl⟩
  go_wp2
  go_ret
  exact ⟨rfl, HX7.out.drewN q⟩
theorem tells4_walk (C : WelchSaid) (l : List (Nat × Nat)) (k v : Int) (a : List Nat) (A B : Option Addr) (ca cb : Nat) (w : World) (hl : PRd w A l) (ha : Rd w B a) (hca : l.length ≤ ca) (hcb : a.length ≤ cb) (hk : In64 k) (hv : In64 v) :
    Calls Try.prog 3 #[.slice A l.length ca, .int .i64 k, .int .i64 v, .slice B a.length cb] w (Holds w) := by
  by_cases h : 10 < l.length ∨ 20 < a.length
  · exact tells4_big C A B _ ca _ cb k v h w
  · exact tells4_small C l k v a A B ca cb w hl ha hca hcb hk hv (by omega) (by omega)
end Go.Proofs.Ytbcbnpjbcjmjmaa

/-
  What decodable of layer 4 does: it tells whether numbers fit together. Conditions: no more than 2^20 points; ints.
-/
namespace Go.Proofs.Ytbcbnpjbcjmjmaa
open Go.RowKit
open Pol (co Sm px py Apart)

/-- Numbers that fit together. -/
def Nums (n : Nat) (k v : Int) : Prop := 1 ≤ k ∧ 0 ≤ v ∧ k + 2 * v ≤ (n : Int)

set_option maxHeartbeats 400000 in
theorem w_nums_no (n : Nat) (k v : Int) (w : World) (hn : n ≤ 1048576) (hk : In64 k) (hv : In64 v) (h : ¬ Nums n k v) :
    Calls Try.prog 20 #[.int .i64 (n : Int), .int .i64 k, .int .i64 v] w (Hands (.bool false) w) := by
  obtain ⟨k1, k2⟩ := hk
  obtain ⟨v1, v2⟩ := hv
  have h' : ¬ (1 ≤ k ∧ 0 ≤ v ∧ k + 2 * v ≤ (n : Int)) := h
  clear h
  by_cases h1 : k < 1
  · have d1 : decide (k < 1) = true := by simp; omega
    clear h'
    go_enter Try.func20, Try.ntmps20
    go_wp2
    go_ret
    exact ⟨rfl, 0, rfl⟩
  · have d1 : decide (k < 1) = false := by simp; omega
    by_cases h2 : (n : Int) < k
    · have d2 : decide ((n : Int) < k) = true := by simp; omega
      clear h'
      go_enter Try.func20, Try.ntmps20
      go_wp2
      go_ret
      exact ⟨rfl, 0, rfl⟩
    · have d2 : decide ((n : Int) < k) = false := by simp; omega
      by_cases h3 : v < 0
      · have d3 : decide (v < 0) = true := by simp; omega
        clear h'
        go_enter Try.func20, Try.ntmps20
        go_wp2
        go_ret
        exact ⟨rfl, 0, rfl⟩
      · have d3 : decide (v < 0) = false := by simp; omega
        have e1 : Int.tdiv ((n : Int) - k) 2 = ((n : Int) - k) / 2 := Int.tdiv_eq_ediv_of_nonneg (by omega)
        have d4 : decide (v ≤ ((n : Int) - k) / 2) = false := by simp; omega
        clear h'
        go_enter Try.func20, Try.ntmps20
        go_wp2
        go_ret
        exact ⟨rfl, 0, rfl⟩
set_option maxHeartbeats 400000 in
theorem w_nums_yes (n : Nat) (k v : Int) (w : World) (hn : n ≤ 1048576) (h : Nums n k v) :
    Calls Try.prog 20 #[.int .i64 (n : Int), .int .i64 k, .int .i64 v] w (Hands (.bool true) w) := by
  obtain ⟨h1, h2, h3⟩ := h
  have d1 : decide (k < 1) = false := by simp; omega
  have d2 : decide ((n : Int) < k) = false := by simp; omega
  have d3 : decide (v < 0) = false := by simp; omega
  have e1 : Int.tdiv ((n : Int) - k) 2 = ((n : Int) - k) / 2 := Int.tdiv_eq_ediv_of_nonneg (by omega)
  have d4 : decide (v ≤ ((n : Int) - k) / 2) = true := by simp; omega
  go_enter Try.func20, Try.ntmps20
  go_wp2
  go_ret
  exact ⟨rfl, 0, rfl⟩
end Go.Proofs.Ytbcbnpjbcjmjmaa

/-
  What repeated of layer 4 does: it tells whether two points have one place. Conditions: no more than 2^20 points.
-/
namespace Go.Proofs.Ytbcbnpjbcjmjmaa
open Go.RowKit
open Pol (co Sm px py Apart)

/-- Whether a place was among the first i. -/
def sn (l : List (Nat × Nat)) : Nat → Nat → Bool
  | 0, _ => false
  | i + 1, x => px l i == x || sn l i x
theorem sn_yes {l : List (Nat × Nat)} {x : Nat} : ∀ {i}, sn l i x = true → ∃ j, j < i ∧ px l j = x
  | 0, h => by cases h
  | i + 1, h => by
    rw [sn, Bool.or_eq_true] at h
    rcases h with h | h
    · exact ⟨i, by omega, beq_iff_eq.1 h⟩
    · obtain ⟨j, hj, e⟩ := sn_yes h
      exact ⟨j, by omega, e⟩
theorem sn_no {l : List (Nat × Nat)} {x : Nat} : ∀ {i}, sn l i x = false → ∀ j, j < i → px l j ≠ x
  | 0, _, j, hj => by omega
  | i + 1, h, j, hj => by
    rw [sn, Bool.or_eq_false_iff] at h
    by_cases e : j = i
    · subst e; exact fun e' => by rw [e'] at h; simp at h
    · exact sn_no h.2 j (by omega)
/-- Marks as cells. -/
def sb (S : Nat → Bool) : Array Value := Array.ofFn (n := 256) fun i => Value.bool (S i.val)
theorem sb_size (S : Nat → Bool) : (sb S).size = 256 := by simp [sb]
theorem sb_at (S : Nat → Bool) (i : Nat) (h : i < 256) : (sb S)[i]? = some (.bool (S i)) := by simp [sb, h]
theorem sb_set (S S' : Nat → Bool) (k : Nat) (v : Bool) (h : ∀ i, S' i = if i = k then v else S i) : (sb S).setIfInBounds k (.bool v) = sb S' := by
  apply Array.ext (by simp [sb])
  intro i h1 h2
  have hi : i < (sb S).size := by simpa using h1
  rw [Array.getElem_setIfInBounds hi]
  simp only [sb, Array.getElem_ofFn, h i]
  by_cases e : k = i
  · subst e; simp
  · rw [if_neg e, if_neg (fun h => e h.symm)]
theorem zero_seen : (∀ w, (zeroValue 69).run Try.prog w = .ok (.agg (sb fun _ => false)) w) ∧ (Try.prog.info? 69).map (·.size) = some 256 := by
  have e : sb (fun _ => false) = Array.replicate 256 (.bool false) := by
    apply Array.ext (by simp [sb])
    intro i h1 h2
    simp [sb]
  rw [e]
  exact zero_of_info (by kernel_rfl)
def SBlk (w : World) (g : Nat) (S : Nat → Bool) : Prop := w.heap[g]? = some (.cells (sb S) 69 (0, 0))
theorem SBlk.cell {w : World} {g : Nat} {S : Nat → Bool} (h : SBlk w g S) (i : Nat) (hi : i < 256) : w.cell? ⟨g, i, none⟩ = some (.bool (S i)) := by rw [cell_of_row w g i _ _ _ h, sb_at S i hi]
theorem SBlk.frozen {w : World} {g : Nat} {S : Nat → Bool} (h : SBlk w g S) (i : Nat) : w.frozen? ⟨g, i, none⟩ = false := frozen_of_row w g i _ _ h
theorem SBlk.store {w : World} {g : Nat} {S S' : Nat → Bool} (h : SBlk w g S) (k : Nat) (v : Bool) (hs : ∀ i, S' i = if i = k then v else S i) : SBlk (w.setCell ⟨g, k, none⟩ (.bool v)) g S' := by
  unfold SBlk
  rw [heap_setCell_same w g k _ _ _ h, sb_set S S' k v hs]
theorem SBlk.lt {w : World} {g : Nat} {S : Nat → Bool} (h : SBlk w g S) : g < w.heap.size := by
  rcases Nat.lt_or_ge g w.heap.size with hlt | hge
  · exact hlt
  · unfold SBlk at h; rw [Array.getElem?_eq_none hge] at h; cases h
theorem SBlk.ext {w w' : World} {g : Nat} {S : Nat → Bool} (h : SBlk w g S) (hx : Ext w w') : SBlk w' g S := (hx.below.block g h.lt).trans h
/-- Whether two points have one place. -/
def RepE (l : List (Nat × Nat)) (w : World) (e : Ending) (w' : World) : Prop := (Apart l l.length ∧ Tells (.bool false) w e w') ∨ (¬ Apart l l.length ∧ Tells (.bool true) w e w')

set_option maxHeartbeats 800000 in
set_option maxRecDepth 100000 in
theorem w_repeated (l : List (Nat × Nat)) (A : Option Addr) (ca : Nat) (w : World) (ha : PRd w A l) (hl : l.length ≤ 1048576) :
    Calls Try.prog 21 #[.slice A l.length ca] w (RepE l w) := by
  unfold RepE
  generalize hnn : l.length = n at *
  have HA := Lib.hid ha
  have HN := Lib.hid hnn
  have hz := zero_seen.1
  clear ha hnn
  go_enter Try.func21, Try.ntmps21
  go_wp2
  clear hz
  go_loopg [8] n (fun g s wx => ∃ k : Nat, k + g = n ∧ s = .int .i64 (k : Int) ∧ SBlk wx w.heap.size (sn l k) ∧ Ext w wx ∧ Apart l k)
  case atStart => exact ⟨0, by omega, rfl, heap_alloc_new w _, (Ext.refl _).alloc _, fun i k _ hi => by omega⟩
  case round =>
    obtain ⟨k, hkg, rfl, hblk, hx, hap⟩ := hrel
    have HK := Lib.hid hblk
    have HX := Lib.hid hx
    have HP := Lib.hid hap
    clear hblk hx hap
    cases gk with
    | zero =>
      obtain rfl : k = n := by omega
      clear hkg
      go_wp2
      go_ret
      exact .inl ⟨HP.out, rfl, HX.out⟩
    | succ g =>
      have hk : k < n := by omega
      have hkI : (k : Int) < (n : Int) := by omega
      obtain ⟨b1, o1, e1, hc1, hc2⟩ := (HA.out.ext HX.out).2 k (by rw [HN.out]; exact hk)
      subst e1
      obtain ⟨hpx, hpy⟩ := HA.out.1 k
      obtain ⟨x, hxx⟩ : ∃ x, px l k = x := ⟨_, rfl⟩
      obtain ⟨y, hyy⟩ : ∃ y, py l k = y := ⟨_, rfl⟩
      rw [hxx] at hc1 hpx
      rw [hyy] at hc2 hpy
      have hxI : (x : Int) < 256 := by omega
      have hG := HK.out.lt
      have z0 := HK.out.ext ((Ext.refl wr).alloc (.cells #[.int .u8 (x : Int), .int .u8 (y : Int)] 44))
      have z1 := z0.cell x hpx
      have z2 := z0.frozen x
      clear z0
      cases hb : sn l k x with
      | true =>
        rw [hb] at z1
        obtain ⟨j, hj, ej⟩ := sn_yes hb
        have HNO := Lib.hid (show ¬ Apart l n from fun h => h k j hj hk (by rw [hxx, ej]))
        clear hb hj ej hxx hyy
        go_wp2
        go_ret
        exact .inr ⟨HNO.out, rfl, HX.out.alloc _⟩
      | false =>
        rw [hb] at z1
        have HNO := Lib.hid (sn_no hb)
        have hs := (HK.out.store (S' := sn l (k + 1)) x true (fun i => by
          rw [sn, hxx]
          by_cases e : i = x
          · subst e; simp
          · rw [if_neg e]
            have : (x == i) = false := by simp; exact fun h => e h.symm
            rw [this, Bool.false_or])).ext ((Ext.refl _).alloc (.cells #[.int .u8 (x : Int), .int .u8 (y : Int)] 44))
        have HS := Lib.hid hs
        have HXX := Lib.hid hxx
        clear hb hxx hyy hs
        go_wp2
        go_roundg g
        case measure => omega
        case rel => exact ⟨k + 1, by omega, by go_num, HS.out, (HX.out.setCell (p := ⟨w.heap.size, x, none⟩) (Nat.le_refl _) _).alloc _, fun i j h1 h2 => by
          by_cases e : i = k
          · subst e; rw [HXX.out]; exact fun e' => HNO.out j h1 e'.symm
          · exact HP.out i j h1 (by omega)⟩
end Go.Proofs.Ytbcbnpjbcjmjmaa

/-
  What slices.Backward of a slice of bytes does for a loop: the places come from the last one down to 0, each with a value that may stand there. Conditions: no more than 2^40 bytes.
-/
namespace Go.Proofs.Ytbcbnpjbcjmjmaa
open Go.RowKit Go.Shelf
open Pol (co Sm)
attribute [local go_sem] Oper.semAt_some

/-- A place below n, with a value that may stand there. -/
abbrev Pl (n : Nat) (V : Nat → Nat → Prop) : Type := { x : Nat × Nat // x.1 < n ∧ V x.1 x.2 }
def plv {n : Nat} {V : Nat → Nat → Prop} (x : Pl n V) : Array Value := #[.int .i64 (x.1.1 : Int), .int .u8 (x.1.2 : Int)]
/-- At each place below n stands a value that may. -/
def HasA (V : Nat → Nat → Prop) (W : World) (A : Option Addr) (n : Nat) : Prop := ∀ i, i < n → ∃ b o v, A = some ⟨b, o, none⟩ ∧ V i v ∧ W.cell? ⟨b, o + i, none⟩ = some (.int .u8 ((v : Nat) : Int))
def downs (n k : Nat) : List Nat := (List.range k).map fun j => n - 1 - j
theorem downs_succ (n k : Nat) : downs n (k + 1) = downs n k ++ [n - 1 - k] := by simp [downs, List.range_succ]
theorem downs_len (n k : Nat) : (downs n k).length = k := by simp [downs]
theorem downs_mem (n k i : Nat) (h : i < n) (hk : n - 1 - i < k) : i ∈ downs n k := List.mem_map.2 ⟨n - 1 - i, List.mem_range.2 hk, by omega⟩
/-- What a round keeps: the slice's own box, and that each place has a value that may stand there. -/
def KpB (Bs : Nat) (s : Value) (V : Nat → Nat → Prop) (A : Option Addr) (n : Nat) (W W' : World) : Prop :=
  (W.cell? ⟨Bs, 0, none⟩ = some s → W'.cell? ⟨Bs, 0, none⟩ = some s) ∧ (HasA V W A n → HasA V W' A n)
theorem KpB.trans {Bs : Nat} {s : Value} {V : Nat → Nat → Prop} {A : Option Addr} {n : Nat} {X Y Z : World} (h : KpB Bs s V A n X Y) (k : KpB Bs s V A n Y Z) : KpB Bs s V A n X Z :=
  ⟨fun e => k.1 (h.1 e), fun e => k.2 (h.2 e)⟩
theorem KpB.below {Bs : Nat} {s : Value} {V : Nat → Nat → Prop} {A : Option Addr} {n n₀ : Nat} {W W' : World} (hb : Below n₀ W W') (h1 : Bs < n₀) (h2 : ∀ b o, A = some ⟨b, o, none⟩ → 0 < n → b < n₀) : KpB Bs s V A n W W' :=
  ⟨fun e => (hb.cell (p := ⟨Bs, 0, none⟩) h1).trans e, fun h i hi => by
    obtain ⟨b, o, v, e, hv, hc⟩ := h i hi
    exact ⟨b, o, v, e, hv, (hb.cell (p := ⟨b, o + i, none⟩) (h2 b o e (by omega))).trans hc⟩⟩
theorem KpB.put {Bs : Nat} {s : Value} {V : Nat → Nat → Prop} {A : Option Addr} {n : Nat} {w : World} (h1 : Bs < w.heap.size) (h2 : ∀ b o, A = some ⟨b, o, none⟩ → 0 < n → b < w.heap.size)
    (W : World) (l : Nat) (o o' : Obj) (hl : w.heap.size ≤ l) (h : W.heap[l]? = some o) (k1 : o.isCells = false) (k2 : o.isWalk = false) : KpB Bs s V A n W (W.putObj l o') :=
  KpB.below (belowK_b (w := w) (Nat.le_refl _) W l o o' hl h k1 k2) h1 h2

theorem far_block (a b : Nat) (o : Nat) (u : Nat) (h : a ≠ b) : (⟨a, o, none⟩ : Addr) ≠ ⟨b, u, none⟩ := fun e => by cases e; exact h rfl
theorem KpB.set {Bs : Nat} {s : Value} {V : Nat → Nat → Prop} {A : Option Addr} {n : Nat} (W : World) (g o : Nat) (v : Value) (h1 : g ≠ Bs) (h2 : ∀ b o, A = some ⟨b, o, none⟩ → 0 < n → g ≠ b) : KpB Bs s V A n W (W.setCell ⟨g, o, none⟩ v) :=
  ⟨fun e => (World.cell?_setCell_other _ _ _ _ (far_block g Bs o 0 h1)).trans e, fun h i hi => by
    obtain ⟨b, o', u, e, hv, hc⟩ := h i hi
    exact ⟨b, o', u, e, hv, (World.cell?_setCell_other _ _ _ _ (far_block g b o (o' + i) (h2 b o' e (by omega)))).trans hc⟩⟩
theorem keeps_drewN (W : World) (n : Nat) : KeepsOthers W (W.drewN n) := ⟨Nat.le_refl _, fun _ _ h _ => h⟩
theorem KpB.drewN {Bs : Nat} {s : Value} {V : Nat → Nat → Prop} {A : Option Addr} {n : Nat} (W : World) (k : Nat) : KpB Bs s V A n W (W.drewN k) := ⟨fun e => e, fun h => h⟩

def atI : Nat → Int
  | 0 => -1
  | g + 1 => (g : Int)
theorem atI_eq (g : Nat) : atI g = (g : Int) - 1 := by cases g <;> simp [atI]

set_option maxRecDepth 100000 in
set_option maxHeartbeats 2000000 in
theorem back1 (m : Nat) (hm : 1 ≤ m) (l Bs n cap : Nat) (A : Option Addr) (V : Nat → Nat → Prop) (hn : n ≤ 1099511627776) (J Jx : List (Pl n V) → World → Prop)
    (hY : ∀ pre x W, J pre W → pre.length < n → YieldAt Fence.wide (m - 1) Try.prog l (plv x) W fun e W' =>
      (e = .returned (.bool true) ∧ J (pre ++ [x]) W' ∧ KpB Bs (.slice A n cap) V A n W W') ∨ (e = .returned (.bool false) ∧ Jx (pre ++ [x]) W'))
    (W : World) (hBs : W.cell? ⟨Bs, 0, none⟩ = some (.slice A n cap)) (hc : HasA V W A n) (h0 : J [] W) :
    CallsIn Fence.wide m Try.prog 50 #[.func (.yield l) #[] #[], .pointer (some ⟨Bs, 0, none⟩)] W fun e W' => (∃ v, e = .returned v) ∧
      ((∃ ys : List (Pl n V), ys.map (fun x => x.1.1) = downs n n ∧ J ys W') ∨ (∃ pre : List (Pl n V), (∃ k, k ≤ n ∧ pre.map (fun x => x.1.1) = downs n k) ∧ Jx pre W')) := by
  have HC := Lib.hid hc
  have HB := Lib.hid hBs
  clear hc
  refine callsIn_of_wp Try.func50 rfl trivial ?_ rfl
  simp only [Try.ntmps50, List.size_toArray, List.length_cons, List.length_nil, Nat.reduceAdd, Nat.reduceSub, Array.replicate_succ, Array.replicate_zero, List.push_toArray, List.append_toArray, List.nil_append, List.cons_append]
  gi_wp2
  clear hBs
  gi_loopw [3] (fun i wr => ∃ (g : Nat) (pre : List (Pl n V)), pre.length + g = n ∧ i = .int .i64 (atI g) ∧ pre.map (fun x => x.1.1) = downs n pre.length ∧ J pre wr ∧ wr.cell? ⟨Bs, 0, none⟩ = some (.slice A n cap) ∧ HasA V wr A n)
    (fun i _ => (intOf i + 1).toNat)
  case atStart => exact ⟨n, [], by simp, by rw [atI_eq], rfl, h0, HB.out, HC.out⟩
  case round =>
    obtain ⟨g, pre, hpg, rfl, hpre, hJs, hb, hh⟩ := hrel
    have HH := Lib.hid hh
    have HP := Lib.hid hpre
    have HBB := Lib.hid hb
    clear hh hpre
    cases g with
    | zero =>
      dsimp only [atI]
      gi_wp2
      go_end0
      have hpl : pre.length = n := hpg
      exact ⟨⟨_, rfl⟩, .inl ⟨pre, by rw [HP.out, hpl], hJs⟩⟩
    | succ g =>
      have hgn : g < n := by omega
      obtain ⟨b, o, v, rfl, hv, hcl⟩ := HH.out g hgn
      obtain ⟨fn, tmps, assign, body, hy, hR⟩ := hY pre ⟨(g, v), hgn, hv⟩ wr hJs (by omega)
      dsimp only [plv] at hy
      dsimp only [atI]
      have hgI : (g : Int) < (n : Int) := by omega
      have hpx : (pre ++ [(⟨(g, v), hgn, hv⟩ : Pl n V)]).map (fun x => x.1.1) = downs n (pre ++ [(⟨(g, v), hgn, hv⟩ : Pl n V)]).length := by
        rw [List.map_append, HP.out, List.length_append, List.length_singleton, downs_succ]
        congr 1
        simp
        omega
      have HX := Lib.hid hpx
      clear hpx
      gi_wp2
      refine hR.mono ?_
      rintro e W3 (⟨rfl, hJ3, hk3⟩ | ⟨rfl, hJx3⟩)
      · gi_wp2
        go_roundw
        case rel => exact ⟨g, pre ++ [⟨(g, v), hgn, hv⟩], by simp; omega, congrArg (Value.int .i64) (atI_eq g).symm, HX.out, hJ3, hk3.1 HBB.out, hk3.2 HH.out⟩
        case measure => simp [intOf]
      · gi_wp2
        refine bodyPost_ret (results_none rfl _ _ _) rfl ?_
        exact ⟨⟨_, rfl⟩, .inr ⟨_, ⟨_, by simp; omega, HX.out⟩, hJx3⟩⟩

theorem back_stops (m : Nat) (hm : 1 ≤ m) (Bs n cap : Nat) (A : Option Addr) (V : Nat → Nat → Prop) (hn : n ≤ 1099511627776) (w : World) (hBs : Bs < w.heap.size) (hA : ∀ b o, A = some ⟨b, o, none⟩ → 0 < n → b < w.heap.size)
    (hc : w.cell? ⟨Bs, 0, none⟩ = some (.slice A n cap)) (hh : HasA V w A n) :
    SeqStopsK Fence.wide m Try.prog 50 #[.pointer (some ⟨Bs, 0, none⟩)] (plv (n := n) (V := V)) (KpB Bs (.slice A n cap) V A n) (fun ys => ys.map (fun x => x.1.1) = downs n n)
      (fun pre => ∃ k, k ≤ n ∧ pre.map (fun x => x.1.1) = downs n k) n w := fun l J Jx W hW _ _ hY h0 =>
  have hk := KpB.below (s := .slice A n cap) (V := V) (A := A) (n := n) hW hBs hA
  back1 m hm l Bs n cap A V hn J Jx hY W (hk.1 hc) (hk.2 hh) h0

set_option maxHeartbeats 1000000 in
/-- slices.Backward(s): the slice value is boxed; the function value captures the box. -/
theorem back_in (m : Nat) (a : Option Addr) (len cap : Nat) (w : World) :
    CallsIn Fence.wide m Try.prog 40 #[.slice a len cap] w fun e w' => e = .returned (.func (.func 50) #[] #[.pointer (some ⟨w.heap.size, 0, none⟩)]) ∧ w' = w.alloc (.cells #[.slice a len cap] 23) := by
  refine callsIn_of_wp Try.func40 rfl trivial ?_ rfl
  simp only [Try.ntmps40, List.size_toArray, List.length_cons, List.length_nil, Nat.reduceAdd, Nat.reduceSub, Array.replicate_succ, Array.replicate_zero, List.push_toArray, List.append_toArray, List.nil_append, List.cons_append]
  gi_wp2
  go_ret
  exact ⟨rfl, rfl⟩
theorem back_calls (a : Option Addr) (len cap : Nat) (w : World) :
    Calls Try.prog 40 #[.slice a len cap] w fun e w' => e = .returned (.func (.func 50) #[] #[.pointer (some ⟨w.heap.size, 0, none⟩)]) ∧ w' = w.alloc (.cells #[.slice a len cap] 23) :=
  (callsIn_wide (n := 1)).1 (back_in 1 a len cap w)
end Go.Proofs.Ytbcbnpjbcjmjmaa

/-
  What Degree, trimmed and Trim of layer 2 do. Conditions: no more than 2^16 coefficients.
-/
namespace Go.Proofs.Ytbcbnpjbcjmjmaa
open Go.RowKit Go.Shelf
open Pol (co Sm trim)
attribute [local go_sem] Oper.semAt_some

/-- At place i stands the coefficient. -/
def Is (l : List Nat) (i v : Nat) : Prop := v = co l i
theorem Rd.has {w : World} {A : Option Addr} {l : List Nat} (h : Rd w A l) : HasA (Is l) w A l.length := fun i hi => by
  obtain ⟨b, o, e, hc⟩ := h.2 i hi
  exact ⟨b, o, co l i, e, rfl, hc⟩
theorem Rd.block {w : World} {A : Option Addr} {l : List Nat} (h : Rd w A l) : ∀ b o, A = some ⟨b, o, none⟩ → 0 < l.length → b < w.heap.size := fun b o e hl => by
  obtain ⟨b', o', e', hc⟩ := h.2 0 hl
  rw [e] at e'
  cases e'
  exact block_lt_of_cell hc

theorem trim_all (l : List Nat) (ys : List (Pl l.length (Is l))) (h : ys.map (fun x => x.1.1) = downs l.length l.length) (hz : ∀ p ∈ ys, p.1.2 = 0) : trim l = [] := by
  refine (Pol.trim_nil_iff l).2 fun i => ?_
  by_cases hi : i < l.length
  · have hm := downs_mem l.length l.length i hi (by omega)
    rw [← h] at hm
    obtain ⟨p, hp, e⟩ := List.mem_map.1 hm
    rw [← e, ← show p.1.2 = co l p.1.1 from p.2.2]
    exact hz p hp
  · exact Pol.co_out l i (by omega)
theorem trim_at (l : List Nat) (ini : List (Pl l.length (Is l))) (last : Pl l.length (Is l)) (k : Nat) (h : (ini ++ [last]).map (fun x => x.1.1) = downs l.length k) (hk : k ≤ l.length) (hz : ∀ p ∈ ini, p.1.2 = 0) (hl : last.1.2 ≠ 0) : (trim l).length = last.1.1 + 1 := by
  cases k with
  | zero => simp [downs] at h
  | succ k =>
    rw [downs_succ, List.map_append] at h
    obtain ⟨h1, h2⟩ := List.append_inj' h rfl
    have h3 : last.1.1 = l.length - 1 - k := by simpa using h2
    refine Pol.trim_len_top l last.1.1 (by rw [← show last.1.2 = co l last.1.1 from last.2.2]; exact hl) fun i hi => ?_
    by_cases hil : i < l.length
    · have hm := downs_mem l.length k i hil (by omega)
      rw [← h1] at hm
      obtain ⟨p, hp, e⟩ := List.mem_map.1 hm
      rw [← e, ← show p.1.2 = co l p.1.1 from p.2.2]
      exact hz p hp
    · exact Pol.co_out l i (by omega)

set_option maxRecDepth 100000 in
set_option maxHeartbeats 2000000 in
theorem pdegree (l : List Nat) (A : Option Addr) (c : Nat) (w : World) (hr : Rd w A l) (hl : l.length ≤ 65536) :
    Calls Try.prog 48 #[.slice A l.length c] w (Tells (.int .i64 (((trim l).length : Int) - 1)) w) := by
  have HTA := Lib.hid (trim_all l)
  have HTB := Lib.hid (trim_at l)
  have HR := Lib.hid hr
  have hh := hr.has
  have hbk := hr.block
  generalize hlen : l.length = n at *
  have HN := Lib.hid hlen
  have HH := Lib.hid hh
  have HBK := Lib.hid hbk
  clear hlen hr hh hbk
  refine (callsIn_wide (n := 4)).1 ?_
  refine callsIn_of_wp_marks Try.func48 rfl trivial ?_ rfl
  simp only [Try.ntmps48, List.size_toArray, List.length_cons, List.length_nil, Nat.reduceAdd, Nat.reduceSub, Array.replicate_succ, Array.replicate_zero, List.push_toArray, List.append_toArray, List.nil_append, List.cons_append]
  gi_wp2_with (refine ⟨trivial, ?_⟩; gi_at_call 40; refine (back_in _ _ _ _ _).mono ?_; rintro e w' ⟨rfl, rfl⟩)
  have bR := Boxed.new w 3 (.int .i64 0)
  have bN := Boxed.new (w.alloc (.cells #[.int .i64 0] 3)) 23 (.slice A n c)
  rw [World.size_alloc] at bN
  have hB0 : Below w.heap.size w ((w.alloc (.cells #[.int .i64 0] 3)).alloc (.cells #[.slice A n c] 23)) := ((Below.refl _ w).alloc (Nat.le_refl _) _).alloc (by simp) _
  have hK0 : KpB 0 (.bool true) (Is l) A n w ((w.alloc (.cells #[.int .i64 0] 3)).alloc (.cells #[.slice A n c] 23)) := by
    refine ⟨fun e => (hB0.cell (p := ⟨0, 0, none⟩) (block_lt_of_cell e)).trans e, fun h i hi => ?_⟩
    obtain ⟨b, o, v, e, hv, hc⟩ := h i hi
    exact ⟨b, o, v, e, hv, (hB0.cell (p := ⟨b, o + i, none⟩) (block_lt_of_cell hc)).trans hc⟩
  refine wpIn_rangeFunc_ownG rfl (by omega) (gf := 50) (lb := #[.pointer (some ⟨w.heap.size + 1, 0, none⟩)]) rfl trivial (enters_of Try.func50 (by kernel_rfl) rfl)
    (back_stops _ (by omega) (w.heap.size + 1) n c A (Is l) (by omega) _ (by simp) (fun b o e h => Nat.lt_of_lt_of_le (HBK.out b o e h) hB0.size) bN.cell (hK0.2 HH.out))
    KpB.trans (KpB.put (by simp) (fun b o e h => Nat.lt_of_lt_of_le (HBK.out b o e h) hB0.size)) (Below.refl _ _) (fun _ => rfl)
    (fun pre W => ((∀ p ∈ pre, p.1.2 = 0) ∧ W.cell? ⟨w.heap.size, 0, none⟩ = some (.int .i64 0) ∧ W.frozen? ⟨w.heap.size, 0, none⟩ = false) ∧ Below w.heap.size w W)
    (fun c pre W => (c = .ret ∧ ∃ ini last, pre = ini ++ [last] ∧ (∀ p ∈ ini, p.1.2 = 0) ∧ last.1.2 ≠ 0 ∧ W.cell? ⟨w.heap.size, 0, none⟩ = some (.int .i64 (last.1.1 : Int))) ∧ Below w.heap.size w W)
    (OwnFrom.and (Own.from (fun s A B row hs hg hr => ⟨hs.1, cell_kept hs.2.1 hg hr, (frozen_kept hs.2.1 hg hr).trans hs.2.2⟩) _) (ownFrom_below (Nat.le_refl _) (by simp; omega)))
    (fun c => OwnFrom.and (Own.from (fun s A B row hs hg hr => by obtain ⟨hc, ini, last, e1, e2, e3, e4⟩ := hs; exact ⟨hc, ini, last, e1, e2, e3, cell_kept e4 hg hr⟩) _) (ownFrom_below (Nat.le_refl _) (by simp; omega)))
    ⟨⟨by simp, (bR.alloc _).cell, (bR.alloc _).frozen⟩, hB0⟩
    (fun x => { tmps := #[.slice A n c, undef, .pointer (some ⟨w.heap.size, 0, none⟩), .int .i64 (x.1.1 : Int), .int .u8 (x.1.2 : Int), .slice A n c, .func (.func 50) #[] #[.pointer (some ⟨w.heap.size + 1, 0, none⟩)], .int .i64 (x.1.1 : Int), .int .u8 (x.1.2 : Int), undef, undef, undef], defers := [] }) ?assign ?body ?done ?stop
  case assign =>
    intro l x W K hK
    dsimp only [plv]
    gi_wp2
    exact hK
  case body =>
    rintro l pre x W ⟨⟨hp, hcr, hfr⟩, hB⟩ _
    by_cases hx : x.1.2 = 0
    · have ht : (((x.1.2 : Nat) : Int) != 0) = false := by simp [hx]
      have HX := Lib.hid hx
      clear hx
      gi_wp2
      exact ⟨KeepsFrom.refl _ _, ⟨fun e => e, fun h => h⟩, ⟨fun p hp' => (List.mem_append.1 hp').elim (hp p) (fun e => by simp at e; subst e; exact HX.out), hcr, hfr⟩, hB⟩
    · have ht : (((x.1.2 : Nat) : Int) != 0) = true := by simp; omega
      have HX := Lib.hid hx
      clear hx
      gi_wp2
      exact ⟨(KeepsOthers.setCell _ _ _).from _, ⟨rfl, pre, x, rfl, hp, HX.out, World.cell?_setCell_same' _ _ _ (by rw [hcr]; rfl)⟩, hB.setCell (p := ⟨w.heap.size, 0, none⟩) (Nat.le_refl _) _⟩
  case done =>
    rintro D ys W hD hys ⟨⟨hne, hcr, hfr⟩, hB⟩ hK
    have HT := Lib.hid (HTA.out ys hys hne)
    gi_wp2
    have hK' := (KeepsOthers.setCell W ⟨w.heap.size, 0, none⟩ (.int .i64 (-1))).same D _ hK rfl
    refine ⟨by simp, .inl ⟨_, _, rfl, run_takeDeferred hK', ?_⟩⟩
    have hc5 := cell_kept (World.cell?_setCell_same' W ⟨w.heap.size, 0, none⟩ (.int .i64 (-1)) (by rw [hcr]; rfl)) (grownBy_putObj' _ D (.deferred none)) (fun r e => by cases e; exact ⟨_, hK', rfl⟩)
    refine ⟨.int .i64 (-1), ?_, by rw [HT.out]; rfl, ⟨(hB.setCell (p := ⟨w.heap.size, 0, none⟩) (Nat.le_refl _) _).trans (belowK_b (w := w) (Nat.le_refl _) _ D _ _ (by simp at hD; omega) hK' rfl rfl)⟩⟩
    simp [results, Try.f48, go_sem, hc5]
  case stop =>
    rintro D cc pre W hD ⟨k, hk, hpre⟩ ⟨⟨rfl, ini, last, rfl, e2, e3, hcr⟩, hB⟩ hK
    have HT := Lib.hid (HTB.out ini last k hpre hk e2 e3)
    gi_wp2
    refine ⟨by simp, .inl ⟨_, _, rfl, run_takeDeferred hK, ?_⟩⟩
    have hc5 := cell_kept hcr (grownBy_putObj' _ D (.deferred none)) (fun r e => by cases e; exact ⟨_, hK, rfl⟩)
    refine ⟨.int .i64 (last.1.1 : Int), ?_, ret_int (by rw [HT.out]; omega), ⟨hB.trans (belowK_b (w := w) (Nat.le_refl _) W D _ _ (by simp at hD; omega) hK rfl rfl)⟩⟩
    simp [results, Try.f48, go_sem, hc5]
end Go.Proofs.Ytbcbnpjbcjmjmaa

/-
  What Mul of a field does, of a field in memory and of a nil field. Conditions: none beyond the kinds of the arguments.
-/
namespace Go.Proofs.Ytbcbnpjbcjmjmaa
open Go.RowKit

theorem mul_nil (x y : Int) (w : World) : Calls Try.prog 36 #[.pointer none, .int .u8 x, .int .u8 y] w (Hands (.int .u8 0) w) := by
  go_enter Try.func36, Try.ntmps36
  go_wp2
  go_ret
  exact ⟨rfl, 0, rfl⟩

set_option maxHeartbeats 400000 in
theorem mul_any (b x y : Nat) (w : World) (hf : IsField w b) (hx : x < 256) (hy : y < 256) :
    Calls Try.prog 36 #[.pointer (some ⟨b, 0, none⟩), .int .u8 (x : Int), .int .u8 (y : Int)] w (Hands (.int .u8 ((Gf.mul x y : Nat) : Int)) w) := by
  by_cases x0 : x = 0
  · subst x0
    rw [Gf.zero_mul]
    clear hf
    go_enter Try.func36, Try.ntmps36
    go_wp2
    go_ret
    exact ⟨rfl, 0, rfl⟩
  by_cases y0 : y = 0
  · subst y0
    rw [Gf.mul_zero]
    have h0 : ((x : Int) == 0) = false := by simpa using x0
    clear hf
    go_enter Try.func36, Try.ntmps36
    go_wp2
    go_ret
    exact ⟨rfl, 0, rfl⟩
  have h0 : ((x : Int) == 0) = false := by simpa using x0
  have h1 : ((y : Int) == 0) = false := by simpa using y0
  have c1 := hf.2 x hx
  have c2 := hf.2 y hy
  have l1 := Gf.lg_lt x
  have l2 := Gf.lg_lt y
  have c3 := hf.1 ((Gf.lg x + Gf.lg y) % 255) (by omega)
  have xI : (x : Int) < 256 := by omega
  have yI : (y : Int) < 256 := by omega
  clear hf
  go_enter Try.func36, Try.ntmps36
  go_wp2
  go_quiet (fail)
  go_wp2
  go_ret
  exact ⟨ret_int (by unfold Gf.mul; rw [if_neg (by omega)]), nq, rfl⟩

theorem mul_is (b x y v : Nat) (w : World) (hf : IsField w b) (hx : x < 256) (hy : y < 256) (h : Gf.mul x y = v) :
    Calls Try.prog 36 #[.pointer (some ⟨b, 0, none⟩), .int .u8 (x : Int), .int .u8 (y : Int)] w (Hands (.int .u8 (v : Int)) w) := h ▸ mul_any b x y w hf hx hy
end Go.Proofs.Ytbcbnpjbcjmjmaa

/-
  What Eval of layer 2 does: the value of a polynomial, from the greatest power down. Conditions: a field that New made, no more than 2^16 coefficients.
-/
namespace Go.Proofs.Ytbcbnpjbcjmjmaa
open Go.RowKit Go.Shelf
open Pol (co Sm trim)
attribute [local go_sem] Oper.semAt_some

/-- The value so far. -/
def hor {n : Nat} {V : Nat → Nat → Prop} (x : Nat) (pre : List (Pl n V)) : Nat := pre.foldl (fun a p => Gf.mul a x ^^^ p.1.2) 0
theorem hor_snoc {n : Nat} {V : Nat → Nat → Prop} (x : Nat) (pre : List (Pl n V)) (p : Pl n V) : hor x (pre ++ [p]) = Gf.mul (hor x pre) x ^^^ p.1.2 := by simp [hor]
theorem hor_map {n : Nat} {V : Nat → Nat → Prop} (x : Nat) : ∀ (ys : List (Pl n V)) (a : Nat), ys.foldl (fun a p => Gf.mul a x ^^^ p.1.2) a = (ys.map fun p => p.1.2).foldl (fun a v => Gf.mul a x ^^^ v) a
  | [], _ => rfl
  | p :: ys, a => by simp only [List.foldl_cons, List.map_cons]; exact hor_map x ys _
theorem downs_co (l : List Nat) : (downs l.length l.length).map (co l) = l.reverse := by
  apply List.ext_getElem
  · simp [downs]
  · intro i h1 h2
    have hi : i < l.length := by simpa [downs] using h1
    simp only [downs, List.map_map, List.getElem_map, List.getElem_range, Function.comp, List.getElem_reverse]
    unfold co
    rw [List.getElem?_eq_getElem (by omega)]
    rfl
theorem fold_ev (x : Nat) : ∀ l : List Nat, l.foldr (fun v a => Gf.mul a x ^^^ v) 0 = Pol.ev l x
  | [] => rfl
  | v :: l => by rw [List.foldr_cons, fold_ev x l, Pol.ev, Nat.xor_comm, Gf.mul_comm]
theorem hor_all (l : List Nat) (x : Nat) (ys : List (Pl l.length (Is l))) (h : ys.map (fun p => p.1.1) = downs l.length l.length) : hor x ys = Pol.ev l x := by
  unfold hor
  rw [hor_map]
  have e : (ys.map fun p => p.1.2) = l.reverse := by
    rw [← downs_co, ← h, List.map_map]
    exact List.map_congr_left fun p _ => p.2.2
  rw [e, List.foldl_reverse, fold_ev]
theorem hor_lt {n : Nat} {l : List Nat} (hl : Sm l) (x : Nat) : ∀ (ys : List (Pl n (Is l))) (a : Nat), a < 256 → ys.foldl (fun a p => Gf.mul a x ^^^ p.1.2) a < 256
  | [], _, h => h
  | p :: ys, a, _ => hor_lt hl x ys _ (Gf.xor_lt _ _ (Gf.mul_lt _ _) (by rw [show p.1.2 = co l p.1.1 from p.2.2]; exact hl _))

set_option maxRecDepth 100000 in
set_option maxHeartbeats 2000000 in
theorem peval (f : Nat) (l : List Nat) (x : Nat) (A : Option Addr) (c : Nat) (w : World) (hf : IsField w f) (hr : Rd w A l) (hx : x < 256) (hl : l.length ≤ 65536) :
    Calls Try.prog 28 #[.pointer (some ⟨f, 0, none⟩), .slice A l.length c, .int .u8 (x : Int)] w (Tells (.int .u8 ((Pol.ev l x : Nat) : Int)) w) := by
  have HEV := Lib.hid (hor_all l x)
  have HF := Lib.hid hf
  have hh := hr.has
  have hbk := hr.block
  have HSM := Lib.hid hr.1
  generalize hlen : l.length = n at *
  have HN := Lib.hid hlen
  have HH := Lib.hid hh
  have HBK := Lib.hid hbk
  clear hlen hr hh hbk hf
  refine (callsIn_wide (n := 4)).1 ?_
  refine callsIn_of_wp_marks Try.func28 rfl trivial ?_ rfl
  simp only [Try.ntmps28, List.size_toArray, List.length_cons, List.length_nil, Nat.reduceAdd, Nat.reduceSub, Array.replicate_succ, Array.replicate_zero, List.push_toArray, List.append_toArray, List.nil_append, List.cons_append]
  gi_wp2_with (refine ⟨trivial, ?_⟩; gi_at_call 40; refine (back_in _ _ _ _ _).mono ?_; rintro e w' ⟨rfl, rfl⟩)
  have b1 := Boxed.new w 25 (.pointer (some ⟨f, 0, none⟩))
  have b2 := Boxed.new (w.alloc (.cells #[.pointer (some ⟨f, 0, none⟩)] 25)) 5 (.int .u8 (x : Int))
  have b3 := Boxed.new ((w.alloc (.cells #[.pointer (some ⟨f, 0, none⟩)] 25)).alloc (.cells #[.int .u8 (x : Int)] 5)) 5 (.int .u8 0)
  have bN := Boxed.new (((w.alloc (.cells #[.pointer (some ⟨f, 0, none⟩)] 25)).alloc (.cells #[.int .u8 (x : Int)] 5)).alloc (.cells #[.int .u8 0] 5)) 23 (.slice A n c)
  simp only [World.size_alloc] at b2 b3 bN
  obtain ⟨W0, hW0⟩ : ∃ W0, (((w.alloc (.cells #[.pointer (some ⟨f, 0, none⟩)] 25)).alloc (.cells #[.int .u8 (x : Int)] 5)).alloc (.cells #[.int .u8 0] 5)).alloc (.cells #[.slice A n c] 23) = W0 := ⟨_, rfl⟩
  have hB0 : Below w.heap.size w W0 := by
    rw [← hW0]
    exact ((((Below.refl _ w).alloc (Nat.le_refl _) _).alloc (by simp) _).alloc (by simp; omega) _).alloc (by simp; omega) _
  have hsz : W0.heap.size = w.heap.size + 4 := by rw [← hW0]; simp
  have c1 := (((b1.alloc (.cells #[.int .u8 (x : Int)] 5)).alloc (.cells #[.int .u8 0] 5)).alloc (.cells #[.slice A n c] 23))
  have c2 := ((b2.alloc (.cells #[.int .u8 0] 5)).alloc (.cells #[.slice A n c] 23))
  have c3 := b3.alloc (.cells #[.slice A n c] 23)
  rw [hW0] at c1 c2 c3 bN ⊢
  have hK0 : HasA (Is l) W0 A n := fun i hi => by
    obtain ⟨b, o, v, e, hv, hc⟩ := HH.out i hi
    exact ⟨b, o, v, e, hv, (hB0.cell (p := ⟨b, o + i, none⟩) (block_lt_of_cell hc)).trans hc⟩
  have HSZ := Lib.hid hsz
  clear hsz b1 b2 b3 hW0
  refine wpIn_rangeFunc_ownG rfl (by omega) (gf := 50) (lb := #[.pointer (some ⟨w.heap.size + 1 + 1 + 1, 0, none⟩)]) rfl trivial (enters_of Try.func50 (by kernel_rfl) rfl)
    (back_stops _ (by omega) (w.heap.size + 1 + 1 + 1) n c A (Is l) (by omega) W0 (by have := HSZ.out; omega) (fun b o e h => Nat.lt_of_lt_of_le (HBK.out b o e h) hB0.size) bN.cell hK0)
    KpB.trans (KpB.put (by have := HSZ.out; omega) (fun b o e h => Nat.lt_of_lt_of_le (HBK.out b o e h) hB0.size)) (Below.refl _ _) (fun _ => rfl)
    (fun pre W => (W.cell? ⟨w.heap.size, 0, none⟩ = some (.pointer (some ⟨f, 0, none⟩)) ∧ W.cell? ⟨w.heap.size + 1, 0, none⟩ = some (.int .u8 (x : Int)) ∧ W.cell? ⟨w.heap.size + 1 + 1, 0, none⟩ = some (.int .u8 ((hor x pre : Nat) : Int)) ∧ W.frozen? ⟨w.heap.size + 1 + 1, 0, none⟩ = false) ∧ Below w.heap.size w W)
    (fun _ _ _ => False)
    (OwnFrom.and (Own.from (fun s A B row hs hg hr => ⟨cell_kept hs.1 hg hr, cell_kept hs.2.1 hg hr, cell_kept hs.2.2.1 hg hr, (frozen_kept hs.2.2.1 hg hr).trans hs.2.2.2⟩) _) (ownFrom_below (Nat.le_refl _) (by have := HSZ.out; omega)))
    (fun _ _ _ _ _ hs _ _ => hs)
    ⟨⟨c1.cell, c2.cell, c3.cell, c3.frozen⟩, hB0⟩
    (fun y => { tmps := #[.pointer (some ⟨f, 0, none⟩), .slice A n c, .int .u8 (x : Int), .pointer (some ⟨w.heap.size, 0, none⟩), undef, .pointer (some ⟨w.heap.size + 1, 0, none⟩), .int .u8 0, .pointer (some ⟨w.heap.size + 1 + 1, 0, none⟩), undef, .int .u8 (y.1.2 : Int), .slice A n c, .func (.func 50) #[] #[.pointer (some ⟨w.heap.size + 1 + 1 + 1, 0, none⟩)], .int .i64 (y.1.1 : Int), .int .u8 (y.1.2 : Int), undef, undef, undef, undef, undef, undef, undef], defers := [] }) ?assign ?body ?done ?stop
  case assign =>
    intro l x W K hK
    dsimp only [plv]
    gi_wp2
    exact hK
  case body =>
    rintro lq pre y W ⟨⟨h1, h2, h3, h4⟩, hB⟩ _
    have hyv : y.1.2 < 256 := by rw [show y.1.2 = co l y.1.1 from y.2.2]; exact HSM.out _
    have hho : hor x pre < 256 := hor_lt HSM.out x pre 0 (by omega)
    have hmul := mul_is f (hor x pre) x _ W (HF.out.ext ⟨hB⟩) hho hx rfl
    have hadd := fun u => add_is (Gf.mul (hor x pre) x) y.1.2 _ (Gf.mul_lt _ _) hyv (hor_snoc x pre y).symm u
    have HM := Lib.hid hmul
    have HA := Lib.hid hadd
    have HB := Lib.hid hB
    clear hmul hadd hB
    gi_wp2_with (first | (refine ⟨trivial, ?_⟩; gi_at_call 36; refine (CallsIn.inRound lq (callsIn_wide.2 HM.out)).mono ?_; rintro e w' ⟨rfl, nq, rfl⟩) | (refine ⟨trivial, ?_⟩; gi_at_call 45; refine (CallsIn.inRound lq (callsIn_wide.2 (HA.out _))).mono ?_; rintro e w' ⟨rfl, rfl⟩))
    refine ⟨((keeps_drewN W nq).trans (KeepsOthers.setCell _ _ _)).from _, (KpB.drewN W nq).trans (KpB.set _ _ _ _ (by omega) (fun b o e h => by have := HBK.out b o e h; omega)), ⟨?_, ?_, ?_, ?_⟩, ?_⟩
    · exact (World.cell?_setCell_other _ _ _ _ (far_block _ _ _ _ (by omega))).trans h1
    · exact (World.cell?_setCell_other _ _ _ _ (far_block _ _ _ _ (by omega))).trans h2
    · exact World.cell?_setCell_same' _ _ _ (by rw [show (W.drewN nq).cell? _ = _ from h3]; rfl)
    · rw [World.frozen?_setCell]; exact h4
    · exact ((Ext.mk HB.out).drewN nq).below.setCell (p := ⟨w.heap.size + 1 + 1, 0, none⟩) (by simp; omega) _
  case done =>
    rintro D ys W hD hys ⟨⟨h1, h2, h3, h4⟩, hB⟩ hK
    have HT := Lib.hid (HEV.out ys hys)
    gi_wp2
    refine ⟨by simp, .inl ⟨_, _, rfl, run_takeDeferred hK, ?_⟩⟩
    exact ⟨_, results_tmp rfl _ _ _, by rw [← HT.out]; rfl, ⟨hB.trans (belowK_b (w := w) (Nat.le_refl _) W D _ _ (by have := HSZ.out; omega) hK rfl rfl)⟩⟩
  case stop =>
    rintro D c pre W _ _ h _
    exact h.elim
end Go.Proofs.Ytbcbnpjbcjmjmaa

/-
  What Wrong of layer 4 does: the places of the points that a polynomial misses, rising. Conditions: a field that New made, no more than 2^16 points and coefficients.
-/
namespace Go.Proofs.Ytbcbnpjbcjmjmaa
open Go.RowKit
open Pol (co Sm px py Apart)
open Wel (wrongs)

/-- Worlds with new blocks alone. -/
def ClsW (u w : World) : Prop := Ext u w

set_option maxHeartbeats 800000 in
set_option maxRecDepth 100000 in
theorem w_wrong (f : Nat) (l : List (Nat × Nat)) (a : List Nat) (A B : Option Addr) (ca cb : Nat) (w : World) (hf : IsField w f) (hl : PRd w A l) (ha : Rd w B a) (hll : l.length ≤ 65536) (hla : a.length ≤ 65536) :
    Calls Try.prog 15 #[.pointer (some ⟨f, 0, none⟩), .slice A l.length ca, .slice B a.length cb] w (GivesI (wrongs l a l.length) w) := by
  have HEV := Lib.hid (fun x W (hx : x < 256) (hW : Ext w W) => peval f a x B cb W (hf.ext hW) (ha.ext hW) hx hla)
  generalize hn : l.length = n at *
  generalize a.length = m at *
  have HL := Lib.hid hl
  have HN := Lib.hid hn
  clear hl ha hn hf
  go_enter Try.func15, Try.ntmps15
  go_wp2
  go_loopg [7, 11] n (fun g s5 s9 wx => ∃ k : Nat, k + g = n ∧ s9 = .int .i64 (k : Int) ∧ IMine wx w.heap.size s5 (wrongs l a k) ∧ Ext w wx)
  case atStart => exact ⟨0, by omega, rfl, IMine.nil w _, Ext.refl _⟩
  case round =>
    obtain ⟨k, hkg, rfl, him, hx⟩ := hrel
    have HIM := Lib.hid him
    have HX := Lib.hid hx
    have hwl := Wel.wrongs_len l a k
    clear him hx
    cases gk with
    | zero =>
      obtain rfl : n = k := by omega
      clear hkg
      have HG := Lib.hid (HIM.out.gives HX.out)
      go_wp2
      go_ret
      exact HG.out
    | succ g =>
      have hk : k < n := by omega
      have hkI : (k : Int) < (n : Int) := by omega
      have hPR := (HL.out.ext HX.out).2 k (by rw [HN.out]; exact hk)
      obtain ⟨b1, o1, e1, hc1, hc2⟩ := hPR
      subst e1
      have hpx := (HL.out.1 k).1
      obtain ⟨x, hxx⟩ : ∃ x, px l k = x := ⟨_, rfl⟩
      obtain ⟨y, hyy⟩ : ∃ y, py l k = y := ⟨_, rfl⟩
      obtain ⟨v, hvv⟩ : ∃ v, Pol.ev a x = v := ⟨_, rfl⟩
      rw [hxx] at hc1 hpx
      rw [hyy] at hc2
      have FX := Lib.hid (show ∀ W, ClsW wr W → W.cell? ⟨b1, o1 + k * 2, none⟩ = some (.int .u8 ((x : Nat) : Int)) from fun W hW => ((show Ext wr W from hW).below.cell (p := ⟨b1, o1 + k * 2, none⟩) (block_lt_of_cell hc1)).trans hc1)
      have FY := Lib.hid (show ∀ W, ClsW wr W → W.cell? ⟨b1, o1 + k * 2 + 1, none⟩ = some (.int .u8 ((y : Nat) : Int)) from fun W hW => ((show Ext wr W from hW).below.cell (p := ⟨b1, o1 + k * 2 + 1, none⟩) (block_lt_of_cell hc2)).trans hc2)
      have FC := Lib.hid (show ∀ W, ClsW wr W → Calls Try.prog 28 #[.pointer (some ⟨f, 0, none⟩), .slice B m cb, .int .u8 ((x : Nat) : Int)] W (fun e w' => e = .returned (.int .u8 ((v : Nat) : Int)) ∧ ClsW wr w') from fun W hW =>
        (HEV.out x W hpx (HX.out.trans hW)).mono fun _ _ h => ⟨by rw [← hvv]; exact h.1, Ext.trans hW h.2⟩)
      clear hc1 hc2
      by_cases hq : v = y
      · have tq : ((v : Int) != (y : Int)) = false := by subst hq; simp
        have HQ := Lib.hid (Wel.wrongs_no (l := l) (a := a) (n := k) (by rw [hxx, hyy, hvv]; exact hq))
        clear hq hxx hyy hvv
        go_wp2
        refine wp_region_quiet (C := ClsW wr) (by kernel_rfl) (by kernel_rfl) (show ClsW wr wr.drew from (Ext.refl wr).drew) ?_
        repeat (first
          | (refine wpQuiet_step (fun K hK => ?_); go_simp; refine ⟨_, fun _ _ => rfl, hK _ ?_⟩; clear hK K)
          | (refine wpQuiet_step (fun K hK => ?_); go_simp; refine ⟨.int .u8 ((x : Nat) : Int), fun W hW => ?_, hK _ ?_⟩; (focus (have h1 := FX.out W hW; go_simp; done)); clear hK K)
          | (refine wpQuiet_step (fun K hK => ?_); go_simp; refine ⟨.int .u8 ((y : Nat) : Int), fun W hW => ?_, hK _ ?_⟩; (focus (have h1 := FY.out W hW; go_simp; done)); clear hK K)
          | (refine wpQuiet_step (fun K hK => ?_); go_simp; refine ⟨_, fun W hW => FC.out W hW, hK _ ?_⟩; clear hK K))
        refine wpQuiet_nil ?_
        intro u2 hu2
        have HY2 := Lib.hid (show Ext wr u2 from hu2)
        clear hu2
        go_wp2
        go_roundg g
        case measure => omega
        case rel => exact ⟨k + 1, by omega, by go_num, by rw [HQ.out]; exact HIM.out.ext HY2.out, HX.out.trans HY2.out⟩
      · have tq : ((v : Int) != (y : Int)) = true := by simp; omega
        have HQ := Lib.hid (Wel.wrongs_yes (l := l) (a := a) (n := k) (by rw [hxx, hyy, hvv]; exact hq))
        clear hq hxx hyy hvv
        go_wp2
        refine wp_region_quiet (C := ClsW wr) (by kernel_rfl) (by kernel_rfl) (show ClsW wr wr.drew from (Ext.refl wr).drew) ?_
        repeat (first
          | (refine wpQuiet_step (fun K hK => ?_); go_simp; refine ⟨_, fun _ _ => rfl, hK _ ?_⟩; clear hK K)
          | (refine wpQuiet_step (fun K hK => ?_); go_simp; refine ⟨.int .u8 ((x : Nat) : Int), fun W hW => ?_, hK _ ?_⟩; (focus (have h1 := FX.out W hW; go_simp; done)); clear hK K)
          | (refine wpQuiet_step (fun K hK => ?_); go_simp; refine ⟨.int .u8 ((y : Nat) : Int), fun W hW => ?_, hK _ ?_⟩; (focus (have h1 := FY.out W hW; go_simp; done)); clear hK K)
          | (refine wpQuiet_step (fun K hK => ?_); go_simp; refine ⟨_, fun W hW => FC.out W hW, hK _ ?_⟩; clear hK K))
        refine wpQuiet_nil ?_
        intro W hu2
        have HM2 := Lib.hid (show IMine W w.heap.size u7 (wrongs l a k) from HIM.out.ext hu2)
        have HX2 := Lib.hid (show Ext w W from HX.out.trans hu2)
        clear hu2
        go_wp2_with (at_builtin; refine wpList_append_int rfl (.tmp 28) (.tmp 30) rfl w.heap.size u7 (wrongs l a k) k rfl (HM2.out.ext ((Ext.refl _).alloc _)) W.heap.size 1 rfl (by rw [cell_of_row _ _ _ _ _ _ (heap_alloc_new W _)]; rfl) (by omega) (by have := HX2.out.size; simp; omega) ?_; intro v' w9 hown' hg' hat')
        have HO := Lib.hid (show IMine w9 w.heap.size v' (wrongs l a (k + 1)) from by rw [HQ.out]; exact hown')
        have HX9 := Lib.hid ((HX2.out.alloc _).more hg' (fun k e => (HM2.out.block k e).1))
        clear hown' hg' hat'
        go_wp2
        go_roundg g
        case measure => omega
        case rel => exact ⟨k + 1, by omega, by go_num, HO.out, HX9.out⟩
end Go.Proofs.Ytbcbnpjbcjmjmaa

/-
  What Pow of a field does, of a field in memory and of a nil field. Conditions: none beyond the kinds of the arguments.
-/
namespace Go.Proofs.Ytbcbnpjbcjmjmaa
open Go.RowKit

theorem pow_nil (x n : Int) (w : World) : Calls Try.prog 47 #[.pointer none, .int .u8 x, .int .u64 n] w (Hands (.int .u8 0) w) := by
  go_enter Try.func47, Try.ntmps47
  go_wp2
  go_ret
  exact ⟨rfl, 0, rfl⟩
set_option maxHeartbeats 400000 in
theorem pow_any (b x n : Nat) (w : World) (hf : IsField w b) (hx : x < 256) :
    Calls Try.prog 47 #[.pointer (some ⟨b, 0, none⟩), .int .u8 (x : Int), .int .u64 (n : Int)] w (Hands (.int .u8 ((Gf.pow x n : Nat) : Int)) w) := by
  by_cases n0 : n = 0
  · subst n0
    rw [Gf.pow_zero]
    clear hf
    go_enter Try.func47, Try.ntmps47
    go_wp2
    go_ret
    exact ⟨rfl, 0, rfl⟩
  have h1 : ((n : Int) == 0) = false := by simpa using n0
  by_cases x0 : x = 0
  · subst x0
    rw [Gf.zero_pow n n0]
    clear hf
    go_enter Try.func47, Try.ntmps47
    go_wp2
    go_ret
    exact ⟨rfl, 0, rfl⟩
  have h0 : ((x : Int) == 0) = false := by simpa using x0
  have c1 := hf.2 x hx
  have l1 := Gf.lg_lt x
  have c3 := hf.1 ((Gf.lg x * (n % 255)) % 255) (by omega)
  have hv : Gf.pow x n = Gf.pw ((Gf.lg x * (n % 255)) % 255) := by unfold Gf.pow; rw [if_neg n0, if_neg x0]
  have hm : n % 255 < 255 := Nat.mod_lt _ (by omega)
  have hp : Gf.lg x * (n % 255) ≤ 254 * 254 := Nat.mul_le_mul (by omega) (by omega)
  have hq : Gf.lg x * (n % 255) % 255 < 255 := Nat.mod_lt _ (by omega)
  have xI : (x : Int) < 256 := by omega
  have e1 : IntKind.u64.wrap ((Gf.lg x : Nat) : Int) = ((Gf.lg x : Nat) : Int) := IntWalk.u64_in _ (by omega)
  have e2 : (n : Int).tmod 255 = ((n % 255 : Nat) : Int) := by rw [Int.tmod_eq_emod_of_nonneg (by omega)]; omega
  have e3 : IntKind.u64.wrap (((Gf.lg x : Nat) : Int) * ((n % 255 : Nat) : Int)) = ((Gf.lg x * (n % 255) : Nat) : Int) := by
    rw [← Int.natCast_mul]; exact IntWalk.u64_in _ (by omega)
  have e4 : ((Gf.lg x * (n % 255) : Nat) : Int).tmod 255 = ((Gf.lg x * (n % 255) % 255 : Nat) : Int) := by
    rw [Int.tmod_eq_emod_of_nonneg (by omega)]; omega
  generalize Gf.lg x * (n % 255) % 255 = q at *
  generalize Gf.lg x * (n % 255) = p at *
  generalize n % 255 = m at *
  generalize Gf.lg x = l at *
  have HV := Lib.hid hv
  clear hv hf hp
  go_enter Try.func47, Try.ntmps47
  go_wp2
  go_quiet (fail)
  go_wp2
  go_ret
  exact ⟨ret_int (by rw [HV.out]), nq, rfl⟩
theorem pow_is (b x n v : Nat) (w : World) (hf : IsField w b) (hx : x < 256) (h : Gf.pow x n = v) :
    Calls Try.prog 47 #[.pointer (some ⟨b, 0, none⟩), .int .u8 (x : Int), .int .u64 (n : Int)] w (Hands (.int .u8 (v : Int)) w) := h ▸ pow_any b x n w hf hx
theorem pow_at (b x n v : Nat) (N : Int) (w : World) (hf : IsField w b) (hx : x < 256) (hN : N = (n : Int)) (h : Gf.pow x n = v) :
    Calls Try.prog 47 #[.pointer (some ⟨b, 0, none⟩), .int .u8 (x : Int), .int .u64 N] w (Hands (.int .u8 (v : Int)) w) := by
  subst hN
  exact pow_is b x n v w hf hx h
end Go.Proofs.Ytbcbnpjbcjmjmaa

/-
  What powersOf of layer 4 does: the powers of an element, from the one with the exponent 0 on. Conditions: a field that New made, no more than 2^16 powers.
-/
namespace Go.Proofs.Ytbcbnpjbcjmjmaa
open Go.RowKit
open Pol (co Sm)

/-- The first k powers. -/
def powt (x k : Nat) : Nat → Nat := fun i => if i < k then Gf.pow x i else 0
theorem powt_step (x k : Nat) : upd (powt x k) k (Gf.pow x k) = powt x (k + 1) := by
  funext i
  unfold upd powt
  by_cases e : i = k
  · rw [if_pos e, if_pos (by omega), e]
  · rw [if_neg e]
    by_cases h : i < k
    · rw [if_pos h, if_pos (by omega)]
    · rw [if_neg h, if_neg (by omega)]
def PowsE (x n : Nat) (w : World) (e : Ending) (w' : World) : Prop := e = .returned (.slice (some ⟨w.heap.size, 0, none⟩) n n) ∧ Blk w' w.heap.size n (Gf.pow x) ∧ Ext w w'

set_option maxHeartbeats 800000 in
set_option maxRecDepth 100000 in
theorem w_powers (f x n : Nat) (w : World) (hf : IsField w f) (hx : x < 256) (hn : n ≤ 65536) :
    Calls Try.prog 35 #[.pointer (some ⟨f, 0, none⟩), .int .u8 (x : Int), .int .i64 (n : Int)] w (PowsE x n w) := by
  have HP := Lib.hid (fun k W (hW : Ext w W) => pow_is f x k _ W (hf.ext hW) hx rfl)
  have HST := Lib.hid (powt_step x)
  have hmk := fun W => run_make_u8 n (by omega) W
  clear hf
  go_enter Try.func35, Try.ntmps35
  go_wp2
  clear hmk
  go_loopg [12] n (fun gh s wx => ∃ k : Nat, k + gh = n ∧ s = .int .i64 (k : Int) ∧ Blk wx w.heap.size n (powt x k) ∧ Ext w wx)
  case atStart => exact ⟨0, by omega, rfl, Blk.new w n (powt x 0), (Ext.refl _).alloc _⟩
  case round =>
    obtain ⟨k, hkg, rfl, hblk, hx1⟩ := hrel
    have HX := Lib.hid hx1
    have HK := Lib.hid hblk
    clear hx1 hblk
    cases gk with
    | zero =>
      obtain rfl : k = n := by omega
      clear hkg
      go_wp2
      go_ret
      exact ⟨rfl, HK.out.congr (fun i hi => if_pos hi), HX.out⟩
    | succ gh =>
      have hk : k < n := by omega
      have hkI : (k : Int) < (n : Int) := by omega
      have e1 : IntKind.u64.wrap (k : Int) = (k : Int) := IntWalk.u64_in _ (by omega)
      go_wp2_with fail
      refine (HP.out k wr HX.out).mono ?_
      rintro e w2 ⟨rfl, q, rfl⟩
      have hc := (HK.out.drewN q).cell k hk
      have hz := (HK.out.drewN q).frozen k
      have hs := (HK.out.drewN q).store k (Gf.pow x k)
      rw [HST.out k] at hs
      have HS := Lib.hid hs
      have HX2 := Lib.hid ((HX.out.drewN q).setCell (p := ⟨w.heap.size, k, none⟩) (Nat.le_refl _) (.int .u8 ((Gf.pow x k : Nat) : Int)))
      clear hs
      go_wp2
      go_roundg gh
      case measure => omega
      case rel => exact ⟨k + 1, by omega, by go_num, HS.out, HX2.out⟩
end Go.Proofs.Ytbcbnpjbcjmjmaa

/-
  Bytes in a block of a call's own, that are changed one by one; what stays while other blocks are written. Conditions: none.
-/
namespace Go.Proofs.Ytbcbnpjbcjmjmaa
open Go.RowKit
open Pol (co Sm trim)

/-- The first n cells of block g are the bytes F, and may be written. -/
def Cells (w : World) (g n : Nat) (F : Nat → Nat) : Prop := ∀ i, i < n → w.cell? ⟨g, i, none⟩ = some (.int .u8 ((F i : Nat) : Int)) ∧ w.frozen? ⟨g, i, none⟩ = false
theorem Blk.cells {w : World} {g n : Nat} {F : Nat → Nat} (h : Blk w g n F) : Cells w g n F := fun i hi => ⟨h.cell i hi, h.frozen i⟩
theorem Cells.drewN {w : World} {g n : Nat} {F : Nat → Nat} (h : Cells w g n F) (k : Nat) : Cells (w.drewN k) g n F := h
theorem Cells.congr {w : World} {g n : Nat} {F F' : Nat → Nat} (h : Cells w g n F) (hf : ∀ i, i < n → F i = F' i) : Cells w g n F' := fun i hi => ⟨by rw [(h i hi).1, hf i hi], (h i hi).2⟩
theorem Cells.store {w : World} {g n : Nat} {F : Nat → Nat} (h : Cells w g n F) (k v : Nat) : Cells (w.setCell ⟨g, k, none⟩ (.int .u8 (v : Int))) g n (upd F k v) := fun i hi => by
  refine ⟨?_, by rw [World.frozen?_setCell]; exact (h i hi).2⟩
  unfold upd
  by_cases e : i = k
  · subst e
    rw [if_pos rfl]
    exact World.cell?_setCell_same' _ _ _ (by rw [(h i hi).1]; rfl)
  · rw [if_neg e, World.cell?_setCell_other _ _ _ _ (fun h => e (by cases h; rfl))]
    exact (h i hi).1
theorem Cells.keep {w w' : World} {g n : Nat} {F : Nat → Nat} {row : Option Nat} (h : Cells w g n F) (hg : w.grownBy w' row) (hne : some g ≠ row) : Cells w' g n F := fun i hi =>
  ⟨hg.cell (h i hi).1 hne, (World.frozen?_of_block (a := ⟨g, i, none⟩) (hg.block g (block_lt_of_cell (h i hi).1) hne)).trans (h i hi).2⟩
theorem Cells.ext {w w' : World} {g n : Nat} {F : Nat → Nat} (h : Cells w g n F) (hx : Ext w w') : Cells w' g n F := fun i hi =>
  ⟨(hx.below.cell (p := ⟨g, i, none⟩) (block_lt_of_cell (h i hi).1)).trans (h i hi).1, (hx.below.frozen (p := ⟨g, i, none⟩) (block_lt_of_cell (h i hi).1)).trans (h i hi).2⟩
theorem Cells.reads {w : World} {g n : Nat} {F : Nat → Nat} (h : Cells w g n F) (hs : ∀ i, i < n → F i < 256) : Rd w (some ⟨g, 0, none⟩) (tab n F) :=
  ⟨tab_sm n F hs, fun i hi => ⟨g, 0, rfl, by
    rw [tab_len] at hi
    rw [Nat.zero_add, (h i hi).1, co_tab, if_pos hi]⟩⟩
theorem Rd.keep {w w' : World} {A : Option Addr} {l : List Nat} {row : Option Nat} (h : Rd w A l) (hg : w.grownBy w' row) (hne : ∀ b o, A = some ⟨b, o, none⟩ → 0 < l.length → some b ≠ row) : Rd w' A l :=
  ⟨h.1, fun i hi => by
    obtain ⟨b, o, e, hc⟩ := h.2 i hi
    exact ⟨b, o, e, hg.cell hc (hne b o e (by omega))⟩⟩
theorem IsField.keep {w w' : World} {b : Nat} {row : Option Nat} (h : IsField w b) (hg : w.grownBy w' row) (hne : some b ≠ row) : IsField w' b :=
  ⟨fun i hi => hg.cell (h.1 i hi) hne, fun x hx => hg.cell (h.2 x hx) hne⟩
theorem grown_set (w : World) (g o : Nat) (v : Value) : w.grownBy (w.setCell ⟨g, o, none⟩ v) (some g) :=
  ⟨rfl, rfl, rfl, by simp [World.setCell], fun k _ hk => Below.heap_setCell _ _ _ k (fun e => hk (by rw [e]))⟩
theorem grown_drewN (w : World) (n : Nat) (row : Option Nat) : w.grownBy (w.drewN n) row := ⟨rfl, rfl, rfl, Nat.le_refl _, fun _ _ _ => rfl⟩
theorem Ext.grown {w w' : World} (h : Ext w w') (row : Option Nat) : w.grownBy w' row := ⟨h.below.os, h.below.tape, h.below.output, h.below.size, fun k hk _ => h.below.block k hk⟩

/-- s[l:] of bytes, where the capacity goes on. -/
theorem run_from_u8 (g o len cap l : Nat) (h : l ≤ len) (hc : l < cap) (W : World) :
    (Instr.slice 23 (.slice (some ⟨g, o, none⟩) len cap) (some (.int .i64 (l : Int))) none none).run Try.prog W = .ok (.slice (some ⟨g, o + l, none⟩) (len - l) (cap - l)) W := by
  obtain ⟨i0, hi, hz0, hz1, hz2⟩ := info_parts u8_info
  have he : Try.prog.elem 23 = 5 := by kernel_rfl
  rw [run_slice_l W 23 _ len cap (by rw [he]; exact Try.underlying23) .i64 (l : Int) (by omega) (by omega), he]
  simp [sizeOf, typeInfo, hi, hz1, Result.andThen, sliced, addr_add]
  omega

/-- A slice of the call's own, as cells that may be written. -/
theorem Mine.cells {w : World} {base : Nat} {v : Value} {l : List Nat} (hm : Mine w base v l) : ∃ A c g, v = .slice A l.length c ∧ l.length ≤ c ∧ (0 < l.length → A = some ⟨g, 0, none⟩ ∧ base ≤ g) ∧ Cells w g l.length (co l) := by
  rcases hm.2 with ⟨rfl, hn⟩ | ⟨g, cap, cur, rfl, hb, hg, hnc, _, _, htake⟩
  · have : l = [] := List.eq_nil_of_length_eq_zero hn
    subst this
    exact ⟨none, 0, 0, rfl, Nat.le_refl _, fun h => absurd h (by simp), fun i hi => absurd hi (by simp)⟩
  · refine ⟨_, cap, g, rfl, hnc, fun _ => ⟨rfl, hb⟩, fun i hi => ⟨?_, frozen_of_row w g i cur _ hg⟩⟩
    rw [cell_of_row w g i cur _ _ hg, ← bv_at l i hi, ← htake, List.getElem?_take, if_pos (by omega)]
    simp
end Go.Proofs.Ytbcbnpjbcjmjmaa

/-
  Rows that lie each in a block of its own and may be written: a number is stored, two rows change places, other blocks are written. Conditions: the rows are not empty.
-/
namespace Go.Proofs.Ytbcbnpjbcjmjmaa
open Go.RowKit
open Pol (co Sm)

/-- Block g's first m cells are slices of N bytes, the i-th at the start of block blk i; no two share a block. -/
structure Mat (w : World) (g m N : Nat) (blk : Nat → Nat) (F : Nat → Nat → Nat) : Prop where
  row : ∀ i, i < m → ∃ c, w.cell? ⟨g, i, none⟩ = some (.slice (some ⟨blk i, 0, none⟩) N c) ∧ w.frozen? ⟨g, i, none⟩ = false ∧ N ≤ c
  has : ∀ i, i < m → Cells w (blk i) N (F i)
  one : ∀ i j, i < m → j < m → blk i = blk j → i = j
  off : ∀ i, i < m → blk i ≠ g
theorem Mat.congr {w : World} {g m N : Nat} {blk : Nat → Nat} {F F' : Nat → Nat → Nat} (h : Mat w g m N blk F) (hf : ∀ i, i < m → ∀ k, k < N → F i k = F' i k) : Mat w g m N blk F' :=
  ⟨h.row, fun i hi => (h.has i hi).congr (hf i hi), h.one, h.off⟩
theorem Mat.drewN {w : World} {g m N : Nat} {blk : Nat → Nat} {F : Nat → Nat → Nat} (h : Mat w g m N blk F) (k : Nat) : Mat (w.drewN k) g m N blk F := ⟨h.row, fun i hi => (h.has i hi).drewN k, h.one, h.off⟩
theorem Mat.ext {w w' : World} {g m N : Nat} {blk : Nat → Nat} {F : Nat → Nat → Nat} (h : Mat w g m N blk F) (hx : Ext w w') : Mat w' g m N blk F :=
  ⟨fun i hi => by
    obtain ⟨c, h1, h2, h3⟩ := h.row i hi
    exact ⟨c, (hx.below.cell (p := ⟨g, i, none⟩) (block_lt_of_cell h1)).trans h1, (hx.below.frozen (p := ⟨g, i, none⟩) (block_lt_of_cell h1)).trans h2, h3⟩, fun i hi => (h.has i hi).ext hx, h.one, h.off⟩
theorem Mat.keep {w w' : World} {g m N : Nat} {blk : Nat → Nat} {F : Nat → Nat → Nat} {row : Option Nat} (h : Mat w g m N blk F) (hg : w.grownBy w' row) (h0 : some g ≠ row) (hne : ∀ i, i < m → some (blk i) ≠ row) : Mat w' g m N blk F :=
  ⟨fun i hi => by
    obtain ⟨c, h1, h2, h3⟩ := h.row i hi
    exact ⟨c, hg.cell h1 h0, (World.frozen?_of_block (a := ⟨g, i, none⟩) (hg.block g (block_lt_of_cell h1) h0)).trans h2, h3⟩, fun i hi => (h.has i hi).keep hg (hne i hi), h.one, h.off⟩
theorem Mat.lt {w : World} {g m N : Nat} {blk : Nat → Nat} {F : Nat → Nat → Nat} (h : Mat w g m N blk F) (hN : 0 < N) (i : Nat) (hi : i < m) : blk i < w.heap.size := block_lt_of_cell ((h.has i hi) 0 hN).1
/-- What one row's cells become, while all else stays. -/
theorem Mat.turn {w w' : World} {g m N : Nat} {blk : Nat → Nat} {F : Nat → Nat → Nat} (h : Mat w g m N blk F) (i : Nat) (hi : i < m) (f : Nat → Nat) (hg : w.grownBy w' (some (blk i))) (hc : Cells w' (blk i) N f) : Mat w' g m N blk (fun r => if r = i then f else F r) :=
  ⟨fun j hj => by
    obtain ⟨c, h1, h2, h3⟩ := h.row j hj
    have h0 : some g ≠ some (blk i) := fun e => h.off i hi (by injection e with e; exact e.symm)
    exact ⟨c, hg.cell h1 h0, (World.frozen?_of_block (a := ⟨g, j, none⟩) (hg.block g (block_lt_of_cell h1) h0)).trans h2, h3⟩,
   fun j hj => by
    by_cases e : j = i
    · subst e
      rw [if_pos rfl]
      exact hc
    · rw [if_neg e]
      exact (h.has j hj).keep hg (fun e' => e (h.one j i hj hi (by injection e'))), h.one, h.off⟩
theorem Mat.store {w : World} {g m N : Nat} {blk : Nat → Nat} {F : Nat → Nat → Nat} (h : Mat w g m N blk F) (i : Nat) (hi : i < m) (k v : Nat) :
    Mat (w.setCell ⟨blk i, k, none⟩ (.int .u8 (v : Int))) g m N blk (fun r => if r = i then upd (F i) k v else F r) :=
  h.turn i hi _ (grown_set w (blk i) k _) ((h.has i hi).store k v)
/-- The number that stands for i when i and j change places. -/
def swp (i j r : Nat) : Nat := if r = i then j else if r = j then i else r
theorem swp_lt {i j m r : Nat} (hi : i < m) (hj : j < m) (hr : r < m) : swp i j r < m := by
  unfold swp
  split
  · exact hj
  · split
    · exact hi
    · exact hr
theorem swp_one {i j r s : Nat} (h : swp i j r = swp i j s) : r = s := by
  unfold swp at h
  split at h <;> split at h <;> (try split at h) <;> (try split at h) <;> omega
/-- Two rows have changed places: both cells are stored, one behind the other. -/
theorem Mat.swap {w : World} {g m N : Nat} {blk : Nat → Nat} {F : Nat → Nat → Nat} (h : Mat w g m N blk F) (i j : Nat) (hi : i < m) (hj : j < m) (ci cj : Nat) (hci : N ≤ ci) (hcj : N ≤ cj) :
    Mat ((w.setCell ⟨g, i, none⟩ (.slice (some ⟨blk j, 0, none⟩) N cj)).setCell ⟨g, j, none⟩ (.slice (some ⟨blk i, 0, none⟩) N ci)) g m N (fun r => blk (swp i j r)) (fun r => F (swp i j r)) :=
  ⟨fun r hr => by
    obtain ⟨c, h1, h2, h3⟩ := h.row r hr
    by_cases ej : r = j
    · subst ej
      have hs : (w.setCell ⟨g, i, none⟩ (.slice (some ⟨blk r, 0, none⟩) N cj)).cell? ⟨g, r, none⟩ ≠ none := by
        by_cases e : i = r
        · subst e; rw [World.cell?_setCell_same' _ _ _ (by rw [h1]; rfl)]; simp
        · rw [World.cell?_setCell_other _ _ _ _ (fun h => e (by cases h; rfl)), h1]; simp
      refine ⟨ci, ?_, by rw [World.frozen?_setCell, World.frozen?_setCell]; exact h2, hci⟩
      rw [World.cell?_setCell_same' _ _ _ (by
        cases hq : (w.setCell ⟨g, i, none⟩ (.slice (some ⟨blk r, 0, none⟩) N cj)).cell? ⟨g, r, none⟩ with
        | none => exact absurd hq hs
        | some _ => rfl)]
      unfold swp
      by_cases e : r = i
      · rw [if_pos e, e]
      · rw [if_neg e, if_pos rfl]
    · rw [World.cell?_setCell_other _ _ _ _ (fun h => ej (by cases h; rfl))]
      by_cases ei : r = i
      · subst ei
        refine ⟨cj, ?_, by rw [World.frozen?_setCell, World.frozen?_setCell]; exact h2, hcj⟩
        rw [World.cell?_setCell_same' _ _ _ (by rw [h1]; rfl)]
        unfold swp
        rw [if_pos rfl]
      · refine ⟨c, ?_, by rw [World.frozen?_setCell, World.frozen?_setCell]; exact h2, h3⟩
        rw [World.cell?_setCell_other _ _ _ _ (fun h => ei (by cases h; rfl)), h1]
        unfold swp
        rw [if_neg ei, if_neg ej],
   fun r hr => by
    have hs := swp_lt hi hj hr
    have h0 : some (blk (swp i j r)) ≠ some g := fun e => h.off _ hs (by injection e)
    exact ((h.has _ hs).keep (grown_set _ g i _) h0).keep (grown_set _ g j _) h0,
   fun r s hr hs e => swp_one (h.one _ _ (swp_lt hi hj hr) (swp_lt hi hj hs) e),
   fun r hr => h.off _ (swp_lt hi hj hr)⟩
end Go.Proofs.Ytbcbnpjbcjmjmaa

/-
  The builtin copy of bytes to the front of a block of the call's own. Conditions: the block is at least as long.
-/
namespace Go.Proofs.Ytbcbnpjbcjmjmaa
open Go.RowKit
open Pol (co Sm)

/-- A copy of bytes to the front of a block of the call's own. -/
theorem splice_bt (n : Nat) (f : Nat → Nat) (a : List Nat) (h : a.length ≤ n) : (splice (bt n f).toList 0 (bv a)).toArray = bt n (fun i => if i < a.length then co a i else f i) := by
  apply Array.ext
  · simp [splice, bv_len, bt_size]; omega
  · intro i h1 h2
    have hi : i < n := by rwa [bt_size] at h2
    rw [← Option.some_inj, ← Array.getElem?_eq_getElem, ← Array.getElem?_eq_getElem, bt_at _ _ _ hi]
    simp only [splice, List.take_zero, List.nil_append, Nat.zero_add, List.getElem?_toArray, bv_len]
    by_cases hia : i < a.length
    · rw [List.getElem?_append_left (by rw [bv_len]; exact hia), bv_at a i hia, if_pos hia]
    · rw [List.getElem?_append_right (by rw [bv_len]; omega), List.getElem?_drop, bv_len, if_neg hia, show a.length + (i - a.length) = i from by omega]
      have := bt_at n f i hi
      simpa using this
theorem wpList_copy_blk {ops : Array Oper} {rest : List Oper} {o : Oper} {act : Act} {w : World} {Q : Exit → Act → World → Prop} (hgd : o.guard = none) (d s : Operand)
    (ho : o.op = .call { callee := .builtin .copy, args := #[d, s], argTypes := #[23, 23] }) (g n dc : Nat) (f : Nat → Nat) (hd : act.eval d = .slice (some ⟨g, 0, none⟩) n dc) (hb : Blk w g n f)
    (A : Option Addr) (a : List Nat) (k c : Nat) (hs : act.eval s = .slice A k c) (hk : a.length = k) (hr : Rd w A a) (hn : k ≤ n) (w0 : World) (hx : Ext w0 w) (hg : w0.heap.size ≤ g)
    (h : ∀ w', Hid (Blk w' g n (fun i => if i < a.length then co a i else f i)) → Ext w0 w' → wpList Try.prog ops Q rest (act.put o.dst (goInt k)) w') :
    wpList Try.prog ops Q (o :: rest) act w := by
  subst hk
  refine wpList_copy_splice hgd d s 23 23 ho 5 Try.underlying23 (by kernel_rfl) _ A n dc a.length c hd hs g 0 (bt n f).toList 5 (by unfold Blk at hb; simpa using hb) (bv a) (by rw [bv_len]; exact (Nat.min_eq_left hn).symm)
    (fun hp => ⟨rfl, ?_⟩) (by simp [bv_len, bt_size]; omega) (bv_one a) w0.heap.size w0 hx.below hg ?_
  · rw [bv_len] at hp
    obtain ⟨b, o', e, hc⟩ := hr.addr hp
    refine ⟨_, e, fun j v hj => ?_⟩
    have hj' : j < a.length := by
      have := (List.getElem?_eq_some_iff.1 hj).1
      rwa [bv_len] at this
    rw [addr_add, hc j hj', ← bv_at a j hj', hj]
  · intro w' HG hB
    rw [bv_len]
    refine h w' (Lib.hid ?_) ⟨hB⟩
    unfold Blk
    rw [HG.out, splice_bt n f a hn]
end Go.Proofs.Ytbcbnpjbcjmjmaa

/-
  What copied of layer 3 does: rows of the call's own, each in a block of its own, that read as the argument's. Conditions: rows of one length that is at least 1, no more than 2^16 elements and rows.
-/
namespace Go.Proofs.Ytbcbnpjbcjmjmaa
open Go.RowKit
open Pol (co Sm)

/-- make([][]byte, n). -/
theorem run_make_rows (n : Nat) (hn : n ≤ 1048576) (w : World) :
    (Instr.makeSlice 57 (.int .i64 (n : Int)) (.int .i64 (n : Int))).run Try.prog w = .ok (.slice (some ⟨w.heap.size, 0, none⟩) n n) (w.alloc (.cells (madeCells #[.slice none 0 0] n) 23)) := by
  obtain ⟨i0, hi, hz0, hz1, hz2⟩ := info_parts row_info
  have h := run_make (P := Try.prog) w 57 23 i0 (.slice none 0 0) Try.underlying57 hi hz0 .i64 .i64 n n (by omega) (by omega) (by rw [hz2]; omega) (by omega)
  simp only [Int.toNat_natCast, hz1, Nat.mul_one] at h
  rw [h]
  rfl
/-- Block g's first m cells are there and may be written. -/
def Room (w : World) (g m : Nat) : Prop := ∀ i, i < m → (∃ v, w.cell? ⟨g, i, none⟩ = some v) ∧ w.frozen? ⟨g, i, none⟩ = false
theorem Room.ext {w w' : World} {g m : Nat} (h : Room w g m) (hx : Ext w w') : Room w' g m := fun i hi => by
  obtain ⟨⟨v, hv⟩, hf⟩ := h i hi
  exact ⟨⟨v, (hx.below.cell (p := ⟨g, i, none⟩) (block_lt_of_cell hv)).trans hv⟩, (hx.below.frozen (p := ⟨g, i, none⟩) (block_lt_of_cell hv)).trans hf⟩
theorem Room.set {w : World} {g m : Nat} (h : Room w g m) (k : Nat) (u : Value) : Room (w.setCell ⟨g, k, none⟩ u) g m := fun i hi => by
  obtain ⟨⟨v, hv⟩, hf⟩ := h i hi
  refine ⟨?_, by rw [World.frozen?_setCell]; exact hf⟩
  by_cases e : i = k
  · subst e
    exact ⟨u, World.cell?_setCell_same' _ _ _ (by rw [hv]; rfl)⟩
  · exact ⟨v, (World.cell?_setCell_other _ _ _ _ (fun h => e (by cases h; rfl))).trans hv⟩
theorem room_made (w : World) (m : Nat) : Room (w.alloc (.cells (madeCells #[.slice none 0 0] m) 23)) w.heap.size m := fun i hi => by
  have hg := heap_alloc_new w (.cells (madeCells #[.slice none 0 0] m) 23)
  refine ⟨⟨.slice none 0 0, ?_⟩, frozen_of_row _ _ _ _ _ hg⟩
  rw [cell_of_row _ _ _ _ _ _ hg]
  simp [madeCells, Nat.mod_one, hi]
/-- A row more. -/
theorem Mat.grow {w w' : World} {g k N b c : Nat} {blk : Nat → Nat} {F : Nat → Nat → Nat} (h : Mat w g k N blk F) (hx : Ext (w.setCell ⟨g, k, none⟩ (.slice (some ⟨b, 0, none⟩) N c)) w') (hr : (∃ v, w.cell? ⟨g, k, none⟩ = some v) ∧ w.frozen? ⟨g, k, none⟩ = false)
    (hN : 0 < N) (hc : N ≤ c) (hb : w.heap.size ≤ b) (hB : Cells w' b N (F k)) : Mat w' g (k + 1) N (fun i => if i = k then b else blk i) F := by
  obtain ⟨⟨v, hv⟩, hf⟩ := hr
  have hg : g < w.heap.size := block_lt_of_cell hv
  have hgs : g < (w.setCell ⟨g, k, none⟩ (.slice (some ⟨b, 0, none⟩) N c)).heap.size := by simpa [World.setCell] using hg
  refine ⟨fun i hi => ?_, fun i hi => ?_, fun i j hi hj e => ?_, fun i hi => ?_⟩
  · by_cases e : i = k
    · subst e
      rw [if_pos rfl]
      exact ⟨c, (hx.below.cell (p := ⟨g, i, none⟩) hgs).trans (World.cell?_setCell_same' _ _ _ (by rw [hv]; rfl)), (hx.below.frozen (p := ⟨g, i, none⟩) hgs).trans (by rw [World.frozen?_setCell]; exact hf), hc⟩
    · rw [if_neg e]
      obtain ⟨c', h1, h2, h3⟩ := h.row i (by omega)
      exact ⟨c', (hx.below.cell (p := ⟨g, i, none⟩) hgs).trans ((World.cell?_setCell_other _ _ _ _ (fun h => e (by cases h; rfl))).trans h1), (hx.below.frozen (p := ⟨g, i, none⟩) hgs).trans (by rw [World.frozen?_setCell]; exact h2), h3⟩
  · by_cases e : i = k
    · subst e
      rw [if_pos rfl]
      exact hB
    · rw [if_neg e]
      exact ((h.has i (by omega)).keep (grown_set _ g k _) (fun e => h.off i (by omega) (by injection e))).ext hx
  · by_cases e1 : i = k
    · by_cases e2 : j = k
      · omega
      · rw [if_pos e1, if_neg e2] at e
        have := h.lt hN j (by omega)
        omega
    · by_cases e2 : j = k
      · rw [if_neg e1, if_pos e2] at e
        have := h.lt hN i (by omega)
        omega
      · rw [if_neg e1, if_neg e2] at e
        exact h.one i j (by omega) (by omega) e
  · by_cases e : i = k
    · rw [if_pos e]; omega
    · rw [if_neg e]; exact h.off i (by omega)

/-- Rows of the call's own. -/
def Copies (m N : Nat) (F : Nat → Nat → Nat) (w : World) (e : Ending) (w' : World) : Prop :=
  ∃ g c blk, e = .returned (.slice (some ⟨g, 0, none⟩) m c) ∧ m ≤ c ∧ Mat w' g m N blk F ∧ Ext w w' ∧ w.heap.size ≤ g ∧ ∀ i, i < m → w.heap.size ≤ blk i

set_option maxHeartbeats 800000 in
set_option maxRecDepth 100000 in
theorem s_copied (rows : List (List Nat)) (A : Option Addr) (c N : Nat) (w : World) (ha : RRd w A rows) (hl : rows.length ≤ 65536) (hlen : ∀ i, i < rows.length → (ro rows i).length = N) (hN0 : 0 < N) (hN : N ≤ 65536) :
    Calls Try.prog 33 #[.slice A rows.length c] w (Copies rows.length N (fun i => co (ro rows i)) w) := by
  generalize hn : rows.length = m at *
  have HA := Lib.hid ha
  have HN := Lib.hid hn
  have HLL := Lib.hid hlen
  clear ha hn hlen
  have hmk := fun W => run_make_rows m (by omega) W
  go_enter Try.func33, Try.ntmps33
  go_wp2
  clear hmk
  go_loopg [11] m (fun gh s wx => ∃ (k : Nat) (blk : Nat → Nat), k + gh = m ∧ s = .int .i64 (k : Int) ∧ Mat wx w.heap.size k N blk (fun i => co (ro rows i)) ∧ Room wx w.heap.size m ∧ Ext w wx ∧ ∀ i, i < k → w.heap.size ≤ blk i)
  case atStart => exact ⟨0, fun _ => 0, by omega, rfl, ⟨fun i hi => by omega, fun i hi => by omega, fun i j hi hj => by omega, fun i hi => by omega⟩, room_made w m, (Ext.refl w).alloc _, fun i hi => by omega⟩
  case round =>
    obtain ⟨k, blk, hkg, rfl, hmat, hroom, hx, hnew⟩ := hrel
    have HM := Lib.hid hmat
    have HRO := Lib.hid hroom
    have HX := Lib.hid hx
    have HNEW := Lib.hid hnew
    clear hmat hroom hx hnew
    cases gk with
    | zero =>
      obtain rfl : k = m := by omega
      clear hkg
      go_wp2
      go_ret
      exact ⟨_, _, blk, rfl, Nat.le_refl _, HM.out, HX.out, Nat.le_refl _, HNEW.out⟩
    | succ gh =>
      have hk : k < m := by omega
      have hkI : (k : Int) < (m : Int) := by omega
      obtain ⟨b, o, B, ck, rfl, hck, hlk, hrd⟩ := (HA.out.ext HX.out) k (by rw [HN.out]; exact hk)
      have hlr := HLL.out k hk
      rw [hlr] at hck hlk
      obtain ⟨⟨v0, hv0⟩, hf0⟩ := HRO.out k hk
      have hG : w.heap.size < wr.heap.size := block_lt_of_cell hv0
      have z1 : (wr.alloc (.cells (bt N fun _ => 0) 5)).cell? ⟨w.heap.size, k, none⟩ = some v0 := (((Ext.refl wr).alloc _).below.cell (p := ⟨w.heap.size, k, none⟩) hG).trans hv0
      have z2 : (wr.alloc (.cells (bt N fun _ => 0) 5)).frozen? ⟨w.heap.size, k, none⟩ = false := (((Ext.refl wr).alloc _).below.frozen (p := ⟨w.heap.size, k, none⟩) hG).trans hf0
      have z3 : ((wr.setCell ⟨w.heap.size, k, none⟩ (.slice (some ⟨wr.heap.size, 0, none⟩) N N)).alloc (.cells (bt N fun _ => 0) 5)).cell? ⟨w.heap.size, k, none⟩ = some (.slice (some ⟨wr.heap.size, 0, none⟩) N N) := (((Ext.refl _).alloc _).below.cell (p := ⟨w.heap.size, k, none⟩) (by simpa [World.setCell] using hG)).trans (World.cell?_setCell_same' _ _ _ (by rw [hv0]; rfl))
      have HE0 := Lib.hid (show Ext (wr.setCell ⟨w.heap.size, k, none⟩ (.slice (some ⟨wr.heap.size, 0, none⟩) N N)) ((wr.setCell ⟨w.heap.size, k, none⟩ (.slice (some ⟨wr.heap.size, 0, none⟩) N N)).alloc (.cells (bt N fun _ => 0) 5)) from (Ext.refl _).alloc _)
      have HBK := Lib.hid (show Blk ((wr.setCell ⟨w.heap.size, k, none⟩ (.slice (some ⟨wr.heap.size, 0, none⟩) N N)).alloc (.cells (bt N fun _ => 0) 5)) wr.heap.size N (fun _ => 0) from by
        have h := Blk.new (wr.setCell ⟨w.heap.size, k, none⟩ (.slice (some ⟨wr.heap.size, 0, none⟩) N N)) N (fun _ => 0)
        rwa [show (wr.setCell ⟨w.heap.size, k, none⟩ (.slice (some ⟨wr.heap.size, 0, none⟩) N N)).heap.size = wr.heap.size from by simp [World.setCell]] at h)
      have HRD := Lib.hid (show Rd ((wr.setCell ⟨w.heap.size, k, none⟩ (.slice (some ⟨wr.heap.size, 0, none⟩) N N)).alloc (.cells (bt N fun _ => 0) 5)) B (ro rows k) from by
        have h0 := HA.out k (by rw [HN.out]; exact hk)
        obtain ⟨b', o', B', c', e', hc', _, hr'⟩ := h0
        injection e' with e'
        injection e' with e1 e2
        subst e1; subst e2
        have hc2 := (HX.out.below.cell (p := ⟨b, o + k, none⟩) (block_lt_of_cell hc')).trans hc'
        rw [hck] at hc2
        injection hc2 with hc2
        injection hc2 with hB
        subst hB
        exact hr'.ext ((HX.out.setCell (p := ⟨w.heap.size, k, none⟩) (Nat.le_refl _) _).alloc _))
      have hsz : (wr.setCell ⟨w.heap.size, k, none⟩ (.slice (some ⟨wr.heap.size, 0, none⟩) N N)).heap.size ≤ wr.heap.size := by simp [World.setCell]
      have HSZ := Lib.hid hsz
      have HLR := Lib.hid hlr
      have hmk := fun W => run_make_u8 N (by omega) W
      clear hrd hv0 hf0 hsz hlr
      go_wp2_with (with_reducible refine wpList_copy_blk rfl (.tmp 25) (.tmp 26) rfl wr.heap.size N N (fun _ => 0) rfl HBK.out B (ro rows k) N ck rfl HLR.out HRD.out (Nat.le_refl _) (wr.setCell ⟨w.heap.size, k, none⟩ (.slice (some ⟨wr.heap.size, 0, none⟩) N N)) HE0.out HSZ.out ?_; intro w3 HK3 hx3)
      have hcl : Cells w3 wr.heap.size N (co (ro rows k)) := HK3.out.cells.congr (fun i hi => if_pos (by rw [HLR.out]; exact hi))
      have hm := HM.out.grow hx3 (HRO.out k hk) hN0 (Nat.le_refl _) (Nat.le_refl _) hcl
      have HM3 := Lib.hid hm
      have HR3 := Lib.hid ((HRO.out.set k (.slice (some ⟨wr.heap.size, 0, none⟩) N N)).ext hx3)
      have HX3 := Lib.hid ((HX.out.setCell (p := ⟨w.heap.size, k, none⟩) (Nat.le_refl _) (.slice (some ⟨wr.heap.size, 0, none⟩) N N)).trans hx3)
      clear hcl hm hx3 HK3 z1 z2 z3 hmk
      go_wp2
      go_roundg gh
      case measure => omega
      case rel => exact ⟨k + 1, _, by omega, by go_num, HM3.out, HR3.out, HX3.out, fun i hi => by
        by_cases e : i = k
        · rw [if_pos e]; omega
        · rw [if_neg e]; exact HNEW.out i (by omega)⟩
end Go.Proofs.Ytbcbnpjbcjmjmaa

/-
  What equations of layer 4 does: a row for each point, of the powers of its place and of its value times these. Conditions: a field that New made, no more than 2^10 points, at least one coefficient.
-/
namespace Go.Proofs.Ytbcbnpjbcjmjmaa
open Go.RowKit
open Pol (co Sm px py)

/-- A point's row. -/
def eqr (l : List (Nat × Nat)) (k v i : Nat) : List Nat := tab (k + v) (Gf.pow (px l i)) ++ tab (v + 1) (fun j => Gf.mul (py l i) (Gf.pow (px l i) j))
def eqs (l : List (Nat × Nat)) (k v : Nat) : List (List Nat) := (List.range l.length).map (eqr l k v)
theorem eqs_len (l : List (Nat × Nat)) (k v : Nat) : (eqs l k v).length = l.length := by simp [eqs]
theorem eqs_ro (l : List (Nat × Nat)) (k v i : Nat) (h : i < l.length) : ro (eqs l k v) i = eqr l k v i := by
  unfold ro eqs
  rw [List.getElem?_map, List.getElem?_range h]
  rfl
theorem eqr_len (l : List (Nat × Nat)) (k v i : Nat) : (eqr l k v i).length = k + 2 * v + 1 := by
  unfold eqr
  rw [List.length_append, tab_len, tab_len]
  omega
theorem tab_succ (n : Nat) (f : Nat → Nat) : tab (n + 1) f = tab n f ++ [f n] := by
  unfold tab
  rw [List.range_succ, List.map_append]
  rfl
theorem tab_zero (f : Nat → Nat) : tab 0 f = [] := rfl
/-- Block g has m cells that may be written; its first k are slices of these rows, none of which lies in g. -/
structure RowsAt (w : World) (g m : Nat) (R : Nat → List Nat) (k : Nat) : Prop where
  room : Room w g m
  row : ∀ i, i < k → ∃ B c, w.cell? ⟨g, i, none⟩ = some (.slice (some ⟨B, 0, none⟩) (R i).length c) ∧ (R i).length ≤ c ∧ Rd w (some ⟨B, 0, none⟩) (R i) ∧ B ≠ g
theorem RowsAt.ext {w w' : World} {g m k : Nat} {R : Nat → List Nat} (h : RowsAt w g m R k) (hx : Ext w w') : RowsAt w' g m R k :=
  ⟨h.room.ext hx, fun i hi => by
    obtain ⟨B, c, h1, h2, h3, h4⟩ := h.row i hi
    exact ⟨B, c, (hx.below.cell (p := ⟨g, i, none⟩) (block_lt_of_cell h1)).trans h1, h2, h3.ext hx, h4⟩⟩
theorem Rd.set {w : World} {b o : Nat} {l : List Nat} (h : Rd w (some ⟨b, o, none⟩) l) (g k : Nat) (u : Value) (hne : b ≠ g) : Rd (w.setCell ⟨g, k, none⟩ u) (some ⟨b, o, none⟩) l :=
  h.keep (grown_set w g k u) (fun b' o' e _ e' => hne (by injection e with e; injection e with e1 e2; injection e' with e'; omega))
theorem RowsAt.put {w : World} {g m k B c n : Nat} {R : Nat → List Nat} (h : RowsAt w g m R k) (hk : k < m) (hn : (R k).length = n) (hc : n ≤ c) (hr : Rd w (some ⟨B, 0, none⟩) (R k)) (hB : B ≠ g) : RowsAt (w.setCell ⟨g, k, none⟩ (.slice (some ⟨B, 0, none⟩) n c)) g m R (k + 1) := by
  subst hn
  refine ⟨h.room.set k _, fun i hi => ?_⟩
  by_cases e : i = k
  · subst e
    obtain ⟨⟨v, hv⟩, _⟩ := h.room i hk
    exact ⟨B, c, World.cell?_setCell_same' _ _ _ (by rw [hv]; rfl), hc, hr.set g i _ hB, hB⟩
  · obtain ⟨B', c', h1, h2, h3, h4⟩ := h.row i (by omega)
    exact ⟨B', c', (World.cell?_setCell_other _ _ _ _ (fun h => e (by cases h; rfl))).trans h1, h2, h3.set g k _ h4, h4⟩
theorem step_append_rd {ops : Array Oper} {o : Oper} {a : Act} {w : World} {K : Act → World → Prop} {Q : Exit → Act → World → Prop} {E : Prop} (hgd : o.guard = none) (s x : Operand)
    (ho : o.op = .call { callee := .builtin .append, args := #[s, x], argTypes := #[23, 23] })
    (base : Nat) (v : Value) (l m : List Nat) (hs : a.eval s = v) (hown : Mine w base v l) (A : Option Addr) (n c : Nat) (hx : a.eval x = .slice A n c) (hn : m.length = n) (hr : Rd w A m)
    (hlen : l.length + m.length ≤ 1099511627776) (hbase : base ≤ w.heap.size)
    (h : ∀ v' w', Mine w' base v' (l ++ m) → w.grownBy w' v.ownBlock → (v'.ownBlock = v.ownBlock ∨ v'.ownBlock = some w.heap.size) → K (a.put o.dst v') w') :
    if Region.wanted o (yielded ops a.tmps) = true then Oper.wp Try.prog o a w K Q else E := by
  subst hn
  rw [if_pos (by simp [Region.wanted, hgd])]
  obtain ⟨v', w', hrun, h2, h3, h4⟩ := run_append_rd w base o.type v l m hown A c hr hlen hbase
  unfold Oper.wp execOp
  simp only [ho, resolve, invoke, builtin, Sem.run_bind, Sem.run_pure, Result.andThen_ok, List.map_toArray, List.map_cons, List.map_nil, hs, hx, hrun]
  exact h v' w' h2 h3 h4
/-- make([]byte, 0, n). -/
theorem run_make_cap (n : Nat) (N : Int) (hN : N = (n : Int)) (hn : n ≤ 1099511627776) (w : World) :
    (Instr.makeSlice 23 (.int .i64 0) (.int .i64 N)).run Try.prog w = .ok (.slice (some ⟨w.heap.size, 0, none⟩) 0 n) (w.alloc (.cells (bt n fun _ => 0) 5)) := by
  subst hN
  obtain ⟨i0, hi, hz0, hz1, hz2⟩ := info_parts u8_info
  have h := run_make (P := Try.prog) w 23 5 i0 (.int .u8 0) Try.underlying23 hi hz0 .i64 .i64 0 n (by omega) (by omega) (by rw [hz2]; omega) (by omega)
  simp only [Int.toNat_natCast, hz1, Nat.mul_one] at h
  rw [h, ← bt_made]
  rfl
theorem mine_made (w : World) (n : Nat) (hn : n ≤ 1099511627776) : Mine (w.alloc (.cells (bt n fun _ => 0) 5)) w.heap.size (.slice (some ⟨w.heap.size, 0, none⟩) 0 n) [] :=
  World.ownsRow_made w (bt n fun _ => 0) n (Nat.le_refl _) (by unfold maxLen; omega) (by rw [bt_size, Nat.mul_one])
/-- A slice of one's own that is not empty. -/
theorem Mine.at {w : World} {base : Nat} {v : Value} {l : List Nat} (h : Mine w base v l) (hs : Sm l) (hl : 0 < l.length) : ∃ g c, v = .slice (some ⟨g, 0, none⟩) l.length c ∧ l.length ≤ c ∧ Rd w (some ⟨g, 0, none⟩) l ∧ base ≤ g := by
  obtain ⟨B, c, rfl, hc, hr⟩ := h.slice hs
  rcases h.2 with ⟨_, hn⟩ | ⟨g, cap, cur, e, hb, _⟩
  · omega
  · injection e with e1 _ e3
    subst e1
    exact ⟨g, c, rfl, hc, hr, hb⟩
/-- Rows, one for each point. -/
def EqsE (l : List (Nat × Nat)) (k v : Nat) (w : World) (e : Ending) (w' : World) : Prop := ∃ A c, e = .returned (.slice A l.length c) ∧ l.length ≤ c ∧ RRd w' A (eqs l k v) ∧ Ext w w'

set_option maxHeartbeats 2000000 in
set_option maxRecDepth 100000 in
theorem w_equations (f : Nat) (l : List (Nat × Nat)) (k v : Nat) (A : Option Addr) (ca : Nat) (w : World) (hf : IsField w f) (hl : PRd w A l) (hll : l.length ≤ 1024) (hk : 1 ≤ k) (hkv : k + 2 * v ≤ 1024) :
    Calls Try.prog 23 #[.pointer (some ⟨f, 0, none⟩), .slice A l.length ca, .int .i64 (k : Int), .int .i64 (v : Int)] w (EqsE l k v w) := by
  have HEQ := Lib.hid (fun i (h : i < l.length) => eqs_ro l k v i h)
  have HELN := Lib.hid (eqs_len l k v)
  have HPO := Lib.hid (fun x W (hx : x < 256) (hW : Ext w W) => w_powers f x (k + v) W (hf.ext hW) hx (by omega))
  have HMU := Lib.hid (fun x y W (hx : x < 256) (hy : y < 256) (hW : Ext w W) => mul_any f x y W (hf.ext hW) hx hy)
  unfold EqsE
  generalize hn : l.length = n at *
  have HL := Lib.hid hl
  have HN := Lib.hid hn
  clear hl hn hf
  have hmr := fun W => run_make_rows n (by omega) W
  go_enter Try.func23, Try.ntmps23
  go_wp2
  clear hmr
  go_loopg [19] n (fun gh s wx => ∃ i : Nat, i + gh = n ∧ s = .int .i64 (i : Int) ∧ RowsAt wx w.heap.size n (eqr l k v) i ∧ Ext w wx)
  case atStart => exact ⟨0, by omega, rfl, ⟨room_made w n, fun i hi => by omega⟩, (Ext.refl w).alloc _⟩
  case round =>
    obtain ⟨i, hig, rfl, hrow, hx⟩ := hrel
    have HR := Lib.hid hrow
    have HX := Lib.hid hx
    clear hrow hx
    cases gk with
    | zero =>
      obtain rfl : i = n := by omega
      clear hig
      go_wp2
      go_ret
      refine ⟨_, _, rfl, Nat.le_refl _, fun j hj => ?_, HX.out⟩
      rw [HELN.out] at hj
      rw [HEQ.out j hj]
      obtain ⟨B, c, h1, h2, h3, _⟩ := HR.out.row j hj
      exact ⟨w.heap.size, 0, _, c, rfl, by rw [Nat.zero_add]; exact h1, h2, h3⟩
    | succ gh =>
      have hi : i < n := by omega
      have hiI : (i : Int) < (n : Int) := by omega
      obtain ⟨b1, o1, e1, hc1, hc2⟩ := (HL.out.ext HX.out).2 i (by rw [HN.out]; exact hi)
      subst e1
      obtain ⟨hpx, hpy⟩ := HL.out.1 i
      obtain ⟨x, hxx⟩ : ∃ x, px l i = x := ⟨_, rfl⟩
      obtain ⟨y, hyy⟩ : ∃ y, py l i = y := ⟨_, rfl⟩
      have HEI := Lib.hid (show eqr l k v i = tab (k + v) (Gf.pow x) ++ tab (v + 1) (fun j => Gf.mul y (Gf.pow x j)) by unfold eqr; rw [hxx, hyy])
      have HEL := Lib.hid (eqr_len l k v i)
      rw [hxx] at hc1 hpx
      rw [hyy] at hc2 hpy
      have HC2 := Lib.hid hc2
      have hkvI : ((k + v : Nat) : Int) = (k : Int) + (v : Int) := by omega
      have HP := Lib.hid (show Calls Try.prog 35 #[.pointer (some ⟨f, 0, none⟩), .int .u8 (x : Int), .int .i64 ((k : Int) + (v : Int))] wr (PowsE x (k + v) wr) from hkvI ▸ HPO.out x wr hpx HX.out)
      clear hc2 hxx hyy hkvI
      go_wp2_with fail
      refine HP.out.mono ?_
      rintro e w2 ⟨rfl, hblk, hx2⟩
      have HB2 := Lib.hid hblk
      have HX2 := Lib.hid hx2
      have HGW := Lib.hid (show w.heap.size < wr.heap.size from block_lt_of_cell (HR.out.room i hi).1.choose_spec)
      clear hblk hx2 HP hc1
      have hmk := fun W => run_make_cap (k + 2 * v + 1) ((k : Int) + 2 * (v : Int) + 1) (by omega) (by omega) W
      have HPR := Lib.hid (HB2.out.reads (fun j _ => Gf.pow_lt x j))
      have HM0 := Lib.hid (mine_made w2 (k + 2 * v + 1) (by omega))
      have HSM := Lib.hid (show Sm (tab (k + v) (Gf.pow x) ++ tab (v + 1) (fun j => Gf.mul y (Gf.pow x j))) from Pol.co_lt_of fun z hz => by
        rcases List.mem_append.1 hz with h | h
        · obtain ⟨j, _, rfl⟩ := List.mem_map.1 h
          exact Gf.pow_lt x j
        · obtain ⟨j, _, rfl⟩ := List.mem_map.1 h
          exact Gf.mul_lt _ _)
      have HTL := Lib.hid (tab_len (k + v) (Gf.pow x))
      go_wp2_with (at_builtin; refine wpList_append_rd rfl (.tmp 38) (.tmp 39) rfl w2.heap.size _ [] (tab (k + v) (Gf.pow x)) rfl HM0.out (some ⟨wr.heap.size, 0, none⟩) (k + v) (k + v) rfl HTL.out (HPR.out.ext ((Ext.refl _).alloc _)) (by rw [HTL.out]; simp; omega) (by simp) ?_; intro v' w3 hown' hg' hat')
      have HO := Lib.hid (show Mine w3 w2.heap.size v' (tab (k + v) (Gf.pow x) ++ tab 0 (fun j => Gf.mul y (Gf.pow x j))) from by rw [tab_zero, List.append_nil]; exact hown')
      have HX3 := Lib.hid (((Ext.refl w2).alloc (.cells (bt (k + 2 * v + 1) fun _ => 0) 5)).more hg' (fun r e => (HM0.out.block r e).1))
      clear hown' hg' hat' hmk HM0
      obtain ⟨wq, hwq⟩ : ∃ wq, wq = wr := ⟨_, rfl⟩
      subst hwq
      go_wp2
      go_loopg [12, 43] (v + 1) (fun g2 s12 s43 wx => ∃ j : Nat, j + g2 = v + 1 ∧ s43 = .int .i64 (j : Int) ∧ Mine wx w2.heap.size s12 (tab (k + v) (Gf.pow x) ++ tab j (fun j => Gf.mul y (Gf.pow x j))) ∧ Ext w2 wx)
      case atStart => exact ⟨0, by omega, rfl, HO.out, HX3.out⟩
      case round =>
        obtain ⟨j, hjg, rfl, hm, hxj⟩ := hrel
        have HM := Lib.hid hm
        have HXJ := Lib.hid hxj
        clear hm hxj
        cases gk with
        | zero =>
          obtain rfl : j = v + 1 := by omega
          clear hjg
          have hmm := HM.out
          rw [← HEI.out] at hmm
          obtain ⟨gb, cb, eu, hcb, hrd, hgb⟩ := hmm.at (by rw [HEI.out]; exact HSM.out) (by rw [HEL.out]; omega)
          rw [HEL.out] at eu hcb
          subst eu
          have hR := HR.out.ext (HX2.out.trans HXJ.out)
          obtain ⟨⟨v0, hv0⟩, hf0⟩ := hR.room i hi
          have hgw := HGW.out
          have hs2 := HX2.out.size
          have HPUT := Lib.hid (hR.put hi HEL.out hcb hrd (by omega))
          have HXP := Lib.hid ((HX.out.trans (HX2.out.trans HXJ.out)).setCell (p := ⟨w.heap.size, i, none⟩) (Nat.le_refl _) (.slice (some ⟨gb, 0, none⟩) (k + 2 * v + 1) cb))
          clear hmm hrd hR HM HXJ hgb
          go_wp2
          go_roundg gh
          case measure => omega
          case rel => exact ⟨i + 1, by omega, by go_num, HPUT.out, HXP.out⟩
        | succ g2 =>
          have hj : j < v + 1 := by omega
          have hjI : (j : Int) < (v : Int) + 1 := by omega
          have hjk : (j : Int) < ((k + v : Nat) : Int) := by omega
          have hjk2 : (j : Int) < (k : Int) + (v : Int) := by omega
          have hc1 := (HB2.out.ext HXJ.out).cell j (by omega)
          have hc2 : wr.cell? ⟨b1, o1 + i * 2 + 1, none⟩ = some (.int .u8 (y : Int)) := ((HX2.out.trans HXJ.out).below.cell (p := ⟨b1, o1 + i * 2 + 1, none⟩) (block_lt_of_cell HC2.out)).trans HC2.out
          have hpl := Gf.pow_lt x j
          have HTS := Lib.hid (show (tab (k + v) (Gf.pow x) ++ tab j (fun j => Gf.mul y (Gf.pow x j))) ++ [Gf.mul y (Gf.pow x j)] = tab (k + v) (Gf.pow x) ++ tab (j + 1) (fun j => Gf.mul y (Gf.pow x j)) from by rw [tab_succ, List.append_assoc])
          have HLL := Lib.hid (show (tab (k + v) (Gf.pow x) ++ tab j (fun j => Gf.mul y (Gf.pow x j))).length = k + v + j from by rw [List.length_append, tab_len, tab_len])
          have HMM := Lib.hid (fun q => HMU.out y (Gf.pow x j) (wr.drewN q) hpy hpl ((HX.out.trans (HX2.out.trans HXJ.out)).drewN q))
          generalize Gf.pow x j = p at hc1 hpl HTS HMM
          go_wp2
          go_region_law (first | (refine step_append_rd rfl (.tmp 46) (.tmp 58) rfl w2.heap.size u12 (tab (k + v) (Gf.pow x) ++ tab j (fun j => Gf.mul y (Gf.pow x j))) [Gf.mul y p] rfl (mine_ext (mine_ext HM.out ((Ext.refl _).drewN _)) ((Ext.refl _).alloc _)) (some ⟨wr.heap.size, 0, none⟩) 1 1 rfl rfl (rd_one (wr.drewN _) _ (Gf.mul_lt _ _)) (by rw [HLL.out]; simp; omega) (by simp; have := HXJ.out.size; omega) ?_; intro v9 w9 hown9 hg9 hat9) | (go_simp; go_at_call 36; refine (HMM.out _).mono ?_; rintro e w' ⟨rfl, m, rfl⟩))
          all_goals
            have hW0 : Ext wr ((wr.drewN (1 + m)).alloc (Obj.cells #[Value.int IntKind.u8 ((Gf.mul y p : Nat) : Int)] 5)) := ((Ext.refl _).drewN _).alloc _
            have HO9 := Lib.hid (show Mine w9 w2.heap.size v9 (tab (k + v) (Gf.pow x) ++ tab (j + 1) (fun j => Gf.mul y (Gf.pow x j))) from by rw [← HTS.out]; exact hown9)
            have HX9 := Lib.hid ((HXJ.out.trans hW0).more hg9 (fun r e => (HM.out.block r e).1))
            clear hown9 hg9 hat9 hW0
            go_wp2
            go_roundg g2
            case measure => omega
            case rel => exact ⟨j + 1, by omega, by go_num, HO9.out, HX9.out⟩
end Go.Proofs.Ytbcbnpjbcjmjmaa

/-
  What Solve of layer 3 is to do, as one statement. Conditions: a field that New made, no more than 2^12 rows and elements.
-/
namespace Go.Proofs.Ytbcbnpjbcjmjmaa
open Go.RowKit
open Pol (co Sm)
open Lin (SolSome SolNone Cnt NotFree Free KL)

structure SolveSaid : Prop where
  odd : ∀ (f : Nat) (rows : List (List Nat)) (A : Option Addr) (c : Nat) (w : World), IsField w f → RRd w A rows → rows.length ≤ c → rows.length ≤ 4096 → (∀ i, i < rows.length → (ro rows i).length ≤ 4096) → ¬ Rt rows →
    Calls Try.prog 22 #[.pointer (some ⟨f, 0, none⟩), .slice A rows.length c] w (GivesE [] 1 w)
  solve : ∀ (f : Nat) (rows : List (List Nat)) (A : Option Addr) (c : Nat) (w : World), IsField w f → RRd w A rows → rows.length ≤ c → rows.length ≤ 4096 → (∀ i, i < rows.length → (ro rows i).length ≤ 4096) → Rt rows →
    Calls Try.prog 22 #[.pointer (some ⟨f, 0, none⟩), .slice A rows.length c] w (SolveE rows w)
/-! ### Kernels -/
theorem kr_iff (N : Nat) (rows : List (List Nat)) (x : Nat → Nat) : KR N rows x ↔ KL N rows x :=
  ⟨fun h r hr => by
    obtain ⟨i, hi, rfl⟩ := ro_mem hr
    exact h i hi, fun h i hi => h (ro rows i) (ro_in rows i hi)⟩
theorem kr_kl (N : Nat) (rows : List (List Nat)) : Lin.Alike (KR N rows) (KL N rows) := fun x _ => kr_iff N rows x
theorem kr_lin (N : Nat) (rows : List (List Nat)) (hb : Lin.Bytes rows) : Lin.IsLin (KR N rows) := by
  have h := Lin.kl_lin N rows hb
  exact ⟨fun x y hx hy h1 h2 => (kr_iff N rows _).2 (h.add x y hx hy ((kr_iff N rows _).1 h1) ((kr_iff N rows _).1 h2)), fun c x hc hx h1 => (kr_iff N rows _).2 (h.smul c x hc hx ((kr_iff N rows _).1 h1)),
    fun x y e h1 => (kr_iff N rows _).2 (h.cong x y e ((kr_iff N rows _).1 h1))⟩
theorem solve_is (C : SolveSaid) (f : Nat) (rows : List (List Nat)) (A : Option Addr) (c : Nat) (w : World) (hf : IsField w f) (hr : RRd w A rows) (hc : rows.length ≤ c) (hl : rows.length ≤ 4096) (hll : ∀ i, i < rows.length → (ro rows i).length ≤ 4096) (ht : Rt rows) (x : List Nat) (hx : SolSome (KR (wide rows) rows) (wide rows - 1) x) :
    Calls Try.prog 22 #[.pointer (some ⟨f, 0, none⟩), .slice A rows.length c] w (GivesE x 0 w) := (C.solve f rows A c w hf hr hc hl hll ht).mono fun _ _ h => by
  rcases h with ⟨y, hy, h⟩ | ⟨hn, _⟩
  · rwa [Lin.sol_one (kr_lin _ rows hr.sm) hy hx] at h
  · exact absurd hn hx.not_none
theorem solve_no (C : SolveSaid) (f : Nat) (rows : List (List Nat)) (A : Option Addr) (c : Nat) (w : World) (hf : IsField w f) (hr : RRd w A rows) (hc : rows.length ≤ c) (hl : rows.length ≤ 4096) (hll : ∀ i, i < rows.length → (ro rows i).length ≤ 4096) (ht : Rt rows) (hx : SolNone (KR (wide rows) rows) (wide rows - 1)) :
    Calls Try.prog 22 #[.pointer (some ⟨f, 0, none⟩), .slice A rows.length c] w (GivesE [] 7 w) := (C.solve f rows A c w hf hr hc hl hll ht).mono fun _ _ h => by
  rcases h with ⟨y, hy, _⟩ | ⟨_, h⟩
  · exact absurd hx hy.not_none
  · exact h
end Go.Proofs.Ytbcbnpjbcjmjmaa
