/-
  What the document's own Mul of layer 2 does: the product, trimmed. Conditions: no more than 2^20 coefficients.
-/
import Derived.Test.YtagdialceelggaaRTrim
import Derived.Test.YtagdialceelggaaTab
import Derived.Test.YtagdialceelggaaRefMul
import Derived.StillTailTactics
namespace Go.Proofs.Ytagdialceelggaa
open Go.RowKit
open Pol (co Sm)

/-- The coefficient at place j, behind i whole rows, and k places of the next one. -/
def row (a b : List Nat) (i k j : Nat) : Nat := Pol.pc i (co a) (co b) j ^^^ (if i ≤ j ∧ j < i + k then Gf.mul (co a i) (co b (j - i)) else 0)
theorem pc_lt (n : Nat) (A B : Nat → Nat) (j : Nat) : Pol.pc n A B j < 256 := Pol.xs_lt n (fun i _ => by split; exact Gf.mul_lt _ _; omega)
theorem row_lt (a b : List Nat) (i k j : Nat) : row a b i k j < 256 := Gf.xor_lt _ _ (pc_lt _ _ _ _) (by split; exact Gf.mul_lt _ _; omega)
theorem row_zero (a b : List Nat) (i j : Nat) : row a b i 0 j = Pol.pc i (co a) (co b) j := by
  unfold row
  rw [if_neg (by omega), Nat.xor_zero]
theorem row_next (a b : List Nat) (i j : Nat) : row a b i b.length j = row a b (i + 1) 0 j := by
  rw [row_zero]
  unfold row Pol.pc
  rw [Pol.xs]
  congr 1
  by_cases h : i ≤ j
  · rw [if_pos h]
    by_cases h' : j < i + b.length
    · rw [if_pos ⟨h, h'⟩]
    · rw [if_neg (by omega), Pol.co_out b (j - i) (by omega), Gf.mul_zero]
  · rw [if_neg h, if_neg (by omega)]
theorem row_step (a b : List Nat) (i k j : Nat) : upd (row a b i k) (i + k) (row a b i k (i + k) ^^^ Gf.mul (co a i) (co b k)) j = row a b i (k + 1) j := by
  unfold upd
  by_cases h : j = i + k
  · subst h
    rw [if_pos rfl]
    unfold row
    rw [if_neg (by omega), if_pos (by omega), Nat.xor_zero, Nat.add_sub_cancel_left]
  · rw [if_neg h]
    unfold row
    by_cases h' : i ≤ j ∧ j < i + k
    · rw [if_pos h', if_pos (by omega)]
    · rw [if_neg h', if_neg (by omega)]

set_option maxHeartbeats 1000000 in
set_option maxRecDepth 100000 in
theorem ref_pmul (a b : List Nat) (A B : Option Addr) (ca cb : Nat) (w : World) (ha : Rd w A a) (hb : Rd w B b) (hla : a.length ≤ 524288) (hlb : b.length ≤ 524288) :
    Calls Try.prog 21 #[.slice A a.length ca, .slice B b.length cb] w (Gives (Pol.trim (Pol.mulP a b)) w) := by
  have hnext := row_next a b
  generalize hna : a.length = na at *
  generalize hnb : b.length = nb at *
  obtain ⟨N, hN⟩ : ∃ N, na + nb = N := ⟨_, rfl⟩
  have hmk := fun W => run_make_u8 N (by omega) W
  have HA := Lib.hid ha
  have HB := Lib.hid hb
  have HNA := Lib.hid hna
  have HNB := Lib.hid hnb
  have HNX := Lib.hid hnext
  clear ha hb hna hnb hnext
  have hcast : (N : Int) = (na : Int) + (nb : Int) := by omega
  have HN := Lib.hid hN
  rw [hcast] at hmk
  clear hcast hN
  go_enter Try.func21, Try.ntmps21
  go_wp2
  clear hmk
  go_loopg [16] na (fun g s wx => ∃ i : Nat, i + g = na ∧ s = .int .i64 (i : Int) ∧ Blk wx w.heap.size N (row a b i 0) ∧ Ext w wx)
  case atStart => exact ⟨0, by omega, rfl, (Blk.new w N (fun _ => 0)).congr (fun j _ => by rw [row_zero]; rfl), (Ext.refl _).alloc _⟩
  case round =>
    obtain ⟨i, hig, rfl, hblk, hx⟩ := hrel
    have HX := Lib.hid hx
    have HK := Lib.hid hblk
    clear hx hblk
    cases gk with
    | zero =>
      obtain rfl : na = i := by omega
      clear hig
      have hr := HK.out.reads (fun j _ => row_lt a b na 0 j)
      have ht : Pol.trim (tab N (row a b na 0)) = Pol.trim (Pol.mulP a b) := Pol.trim_ext _ _ (fun j => by
        rw [co_tab, Pol.co_mulP, HNA.out, row_zero]
        split
        · rfl
        · rename_i h
          refine (Pol.xs_zero na (fun i hi => ?_)).symm
          by_cases h' : i ≤ j
          · rw [if_pos h', Pol.co_out b (j - i) (by rw [HNB.out]; have := HN.out; omega), Gf.mul_zero]
          · rw [if_neg h'])
      have htr := ref_trim (tab N (row a b na 0)) (some ⟨w.heap.size, 0, none⟩) N _ hr (by rw [tab_len]; exact Nat.le_refl _) (by rw [tab_len]; have := HN.out; omega)
      rw [tab_len, ht] at htr
      have HT := Lib.hid htr
      clear htr hr ht
      go_wp2_with fail
      refine HT.out.mono ?_
      rintro e w2 ⟨V, c, rfl, hc, hrd, hxx⟩
      have HR := Lib.hid hrd
      have HXX := Lib.hid hxx
      clear hrd hxx
      go_wp2
      go_ret
      exact ⟨V, c, rfl, hc, HR.out, HX.out.trans HXX.out⟩
    | succ g =>
      have hiI : (i : Int) < (na : Int) := by omega
      go_wp2
      go_loopg [21] nb (fun g s wx => ∃ k : Nat, k + g = nb ∧ s = .int .i64 (k : Int) ∧ Blk wx w.heap.size N (row a b i k) ∧ Ext w wx)
      case atStart => exact ⟨0, by omega, rfl, HK.out, HX.out⟩
      case round =>
        obtain ⟨k, hkg, rfl, hblk, hx⟩ := hrel
        have HY := Lib.hid hx
        have HL := Lib.hid hblk
        clear hx hblk
        cases gk with
        | zero =>
          obtain rfl : nb = k := by omega
          clear hkg
          go_wp2
          go_roundg g
          case measure => omega
          case rel => exact ⟨i + 1, by omega, by go_num, HL.out.congr (fun j _ => HNX.out i j), HY.out⟩
        | succ h =>
          have hk : k < nb := by omega
          have hkI : (k : Int) < (nb : Int) := by omega
          obtain ⟨s, hs⟩ : ∃ s, i + k = s := ⟨_, rfl⟩
          have hsN : (s : Int) < (N : Int) := by have := HN.out; omega
          have hw : IntKind.i64.wrap ((i : Int) + (k : Int)) = (s : Int) := by rw [IntWalk.i64_in _ (by omega)]; omega
          obtain ⟨b1, o1, e1, hc1⟩ := (HA.out.ext HY.out).2 i (by rw [HNA.out]; omega)
          subst e1
          obtain ⟨b2, o2, e2, hc2⟩ := (HB.out.ext HY.out).2 k (by rw [HNB.out]; omega)
          subst e2
          have hc3 := HL.out.cell s (by have := HN.out; omega)
          have hfz := HL.out.frozen s
          have hxor := u8_xor_nat (row a b i k s) (Gf.mul (co a i) (co b k)) (row_lt _ _ _ _ _) (Gf.mul_lt _ _)
          have hst := ((HL.out.drewN 1).store s (row a b i k s ^^^ Gf.mul (co a i) (co b k))).congr (f' := row a b i (k + 1)) (fun j _ => by rw [← hs]; exact row_step a b i k j)
          have HU := Lib.hid hst
          have hext := (HY.out.drewN 1).setCell (p := ⟨w.heap.size, s, none⟩) (Nat.le_refl _) (.int .u8 ((row a b i k s ^^^ Gf.mul (co a i) (co b k) : Nat) : Int))
          have HE := Lib.hid hext
          have hcm := fun W => (ref_mul (co a i) (co b k) (HA.out.1 i) (HB.out.1 k) W).mono fun _ _ h => (⟨h.1, h.2.symm⟩ : _ ∧ _ = W)
          have HM := Lib.hid hcm
          have HS := Lib.hid hs
          clear hst hext hcm hs
          go_wp2
          go_still_tail 21, (by kernel_rfl)
          still_call (HM.out _)
          repeat still_step
          refine wpStill_nil ?_
          change wpList _ _ _ _ _ wr.drew
          go_wp2
          go_roundg h
          case measure => omega
          case rel => exact ⟨k + 1, by omega, by go_num, HU.out, HE.out⟩
end Go.Proofs.Ytagdialceelggaa
