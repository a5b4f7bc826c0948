/-
  What the document's own Add of layer 2 does: the sum, trimmed. Conditions: no more than 2^20 coefficients.
-/
import Derived.Test.YtagdialceelggaaRTrim
import Derived.Test.YtagdialceelggaaTab
namespace Go.Proofs.Ytagdialceelggaa
open Go.RowKit
open Pol (co Sm)

def sum1 (a : List Nat) (k i : Nat) : Nat := if i < k then co a i else 0
def sum2 (a b : List Nat) (k i : Nat) : Nat := co a i ^^^ (if i < k then co b i else 0)

set_option maxHeartbeats 800000 in
set_option maxRecDepth 100000 in
theorem ref_add_short (a b : List Nat) (A B : Option Addr) (ca cb : Nat) (w : World) (ha : Rd w A a) (hb : Rd w B b) (hla : a.length ≤ 1048576) (hlb : b.length ≤ 1048576) (hlt : a.length < b.length) :
    Calls Try.prog 19 #[.slice A a.length ca, .slice B b.length cb] w (Gives (Pol.trim (Pol.addP a b)) w) := by
  generalize hna : a.length = na at *
  generalize hnb : b.length = nb at *
  have hmk := fun W => run_make_u8 nb (by omega) W
  have hltI : (na : Int) < (nb : Int) := by omega
  have hna' : na ≤ nb := by omega
  have hnb' : nb ≤ nb := by omega
  have HA := Lib.hid ha
  have HB := Lib.hid hb
  have HNA := Lib.hid hna
  have HNB := Lib.hid hnb
  clear ha hb hna hnb
  go_enter Try.func19, Try.ntmps19
  go_wp2
  clear hmk
  go_loopg [16] na (fun g s wx => ∃ k : Nat, k + g = na ∧ s = .int .i64 (k : Int) ∧ Blk wx w.heap.size nb (sum1 a k) ∧ Ext w wx)
  case atStart => exact ⟨0, by omega, rfl, Blk.new w nb (sum1 a 0), (Ext.refl _).alloc _⟩
  case round =>
    obtain ⟨k, hkg, rfl, hblk, hx⟩ := hrel
    have HX := Lib.hid hx
    have HK := Lib.hid hblk
    clear hx hblk
    cases gk with
    | zero =>
      obtain rfl : na = k := by omega
      clear hkg
      go_wp2
      go_loopg [34] nb (fun g s wx => ∃ j : Nat, j + g = nb ∧ s = .int .i64 (j : Int) ∧ Blk wx w.heap.size nb (sum2 a b j) ∧ Ext w wx)
      case atStart => exact ⟨0, by omega, rfl, HK.out.congr (fun i _ => by
        unfold sum1 sum2
        rw [if_neg (show ¬ i < 0 by omega), Nat.xor_zero]
        split
        · rfl
        · rw [Pol.co_out a i (by rw [HNA.out]; omega)]), HX.out⟩
      case round =>
        obtain ⟨j, hjg, rfl, hblk, hx⟩ := hrel
        have HY := Lib.hid hx
        have HL := Lib.hid hblk
        clear hx hblk
        cases gk with
        | zero =>
          obtain rfl : nb = j := by omega
          clear hjg
          have hsm : ∀ i, i < nb → sum2 a b nb i < 256 := fun i _ => Gf.xor_lt _ _ (HA.out.1 i) (by split; exact HB.out.1 i; omega)
          have hr := HL.out.reads hsm
          have ht : Pol.trim (tab nb (sum2 a b nb)) = Pol.trim (Pol.addP a b) := Pol.trim_ext _ _ (fun i => by
            rw [co_tab, Pol.co_addP]
            unfold sum2
            by_cases h : i < nb
            · rw [if_pos h]
              by_cases h' : i < nb
              · rw [if_pos h']
              · rw [if_neg h', Pol.co_out b i (by rw [HNB.out]; omega)]
            · rw [if_neg h, Pol.co_out a i (by rw [HNA.out]; omega), Pol.co_out b i (by rw [HNB.out]; omega)]; rfl)
          have htr := ref_trim (tab nb (sum2 a b nb)) (some ⟨w.heap.size, 0, none⟩) nb _ hr (by rw [tab_len]; exact Nat.le_refl _) (by rw [tab_len]; omega)
          rw [tab_len, ht] at htr
          have HT := Lib.hid htr
          clear htr hr ht hsm
          go_wp2_with fail
          refine HT.out.mono ?_
          rintro e w2 ⟨V, c, rfl, hc, hrd, hxx⟩
          have HR := Lib.hid hrd
          have HXX := Lib.hid hxx
          clear hrd hxx
          go_wp2
          go_ret
          exact ⟨V, c, rfl, hc, HR.out, HY.out.trans HXX.out⟩
        | succ g =>
          have hj : j < nb := by omega
          have hjI : (j : Int) < (nb : Int) := by omega
          have hjN : (j : Int) < (nb : Int) := by omega
          obtain ⟨b1, o1, e1, hc⟩ := (HB.out.ext HY.out).2 j (by rw [HNB.out]; exact hj)
          subst e1
          have hc2 := HL.out.cell j (by omega)
          have hfz := HL.out.frozen j
          have hxor := u8_xor_nat (sum2 a b j j) (co b j) (Gf.xor_lt _ _ (HA.out.1 j) (by rw [if_neg (by omega)]; omega)) (HB.out.1 j)
          have hst := HL.out.drewN 1
          have hst2 := hst.store j (sum2 a b j j ^^^ co b j)
          have hup := hst2.congr (f' := sum2 a b (j + 1)) (fun i _ => by
            unfold upd sum2
            by_cases h : i = j
            · subst h; rw [if_pos rfl, if_neg (by omega), if_pos (by omega), Nat.xor_zero]
            · rw [if_neg h]
              by_cases h' : i < j
              · rw [if_pos h', if_pos (by omega)]
              · rw [if_neg h', if_neg (by omega)])
          have HU := Lib.hid hup
          have hext := (HY.out.drewN 1).setCell (p := ⟨w.heap.size, j, none⟩) (Nat.le_refl _) (.int .u8 ((sum2 a b j j ^^^ co b j : Nat) : Int))
          have HE := Lib.hid hext
          clear hst hst2 hup hext
          go_wp2
          go_region
          go_wp2
          go_roundg g
          case measure => omega
          case rel => exact ⟨j + 1, by omega, by go_num, HU.out, HE.out⟩
    | succ g =>
      have hk : k < na := by omega
      have hkI : (k : Int) < (na : Int) := by omega
      have hkN : (k : Int) < (nb : Int) := by omega
      obtain ⟨b1, o1, e1, hc⟩ := (HA.out.ext HX.out).2 k (by rw [HNA.out]; exact hk)
      subst e1
      have hc2 := HK.out.cell k (by omega)
      have hfz := HK.out.frozen k
      have hxor := u8_xor_nat (sum1 a k k) (co a k) (by unfold sum1; rw [if_neg (by omega)]; omega) (HA.out.1 k)
      have hst := HK.out.drewN 1
      have hst2 := hst.store k (sum1 a k k ^^^ co a k)
      have hup := hst2.congr (f' := sum1 a (k + 1)) (fun i _ => by
        unfold upd sum1
        by_cases h : i = k
        · subst h; rw [if_pos rfl, if_neg (by omega), if_pos (by omega), Nat.zero_xor]
        · rw [if_neg h]
          by_cases h' : i < k
          · rw [if_pos h', if_pos (by omega)]
          · rw [if_neg h', if_neg (by omega)])
      have HU := Lib.hid hup
      have hext := (HX.out.drewN 1).setCell (p := ⟨w.heap.size, k, none⟩) (Nat.le_refl _) (.int .u8 ((sum1 a k k ^^^ co a k : Nat) : Int))
      have HE := Lib.hid hext
      clear hst hst2 hup hext
      go_wp2
      go_region
      go_wp2
      go_roundg g
      case measure => omega
      case rel => exact ⟨k + 1, by omega, by go_num, HU.out, HE.out⟩

set_option maxHeartbeats 800000 in
set_option maxRecDepth 100000 in
theorem ref_add_long (a b : List Nat) (A B : Option Addr) (ca cb : Nat) (w : World) (ha : Rd w A a) (hb : Rd w B b) (hla : a.length ≤ 1048576) (_hlb : b.length ≤ 1048576) (hlt : ¬ a.length < b.length) :
    Calls Try.prog 19 #[.slice A a.length ca, .slice B b.length cb] w (Gives (Pol.trim (Pol.addP a b)) w) := by
  generalize hna : a.length = na at *
  generalize hnb : b.length = nb at *
  have hmk := fun W => run_make_u8 na (by omega) W
  have hltI : ¬ (na : Int) < (nb : Int) := by omega
  have hna' : na ≤ na := by omega
  have hnb' : nb ≤ na := by omega
  have HA := Lib.hid ha
  have HB := Lib.hid hb
  have HNA := Lib.hid hna
  have HNB := Lib.hid hnb
  clear ha hb hna hnb
  go_enter Try.func19, Try.ntmps19
  go_wp2
  clear hmk
  go_loopg [16] na (fun g s wx => ∃ k : Nat, k + g = na ∧ s = .int .i64 (k : Int) ∧ Blk wx w.heap.size na (sum1 a k) ∧ Ext w wx)
  case atStart => exact ⟨0, by omega, rfl, Blk.new w na (sum1 a 0), (Ext.refl _).alloc _⟩
  case round =>
    obtain ⟨k, hkg, rfl, hblk, hx⟩ := hrel
    have HX := Lib.hid hx
    have HK := Lib.hid hblk
    clear hx hblk
    cases gk with
    | zero =>
      obtain rfl : na = k := by omega
      clear hkg
      go_wp2
      go_loopg [34] nb (fun g s wx => ∃ j : Nat, j + g = nb ∧ s = .int .i64 (j : Int) ∧ Blk wx w.heap.size na (sum2 a b j) ∧ Ext w wx)
      case atStart => exact ⟨0, by omega, rfl, HK.out.congr (fun i _ => by
        unfold sum1 sum2
        rw [if_neg (show ¬ i < 0 by omega), Nat.xor_zero]
        split
        · rfl
        · rw [Pol.co_out a i (by rw [HNA.out]; omega)]), HX.out⟩
      case round =>
        obtain ⟨j, hjg, rfl, hblk, hx⟩ := hrel
        have HY := Lib.hid hx
        have HL := Lib.hid hblk
        clear hx hblk
        cases gk with
        | zero =>
          obtain rfl : nb = j := by omega
          clear hjg
          have hsm : ∀ i, i < na → sum2 a b nb i < 256 := fun i _ => Gf.xor_lt _ _ (HA.out.1 i) (by split; exact HB.out.1 i; omega)
          have hr := HL.out.reads hsm
          have ht : Pol.trim (tab na (sum2 a b nb)) = Pol.trim (Pol.addP a b) := Pol.trim_ext _ _ (fun i => by
            rw [co_tab, Pol.co_addP]
            unfold sum2
            by_cases h : i < na
            · rw [if_pos h]
              by_cases h' : i < nb
              · rw [if_pos h']
              · rw [if_neg h', Pol.co_out b i (by rw [HNB.out]; omega)]
            · rw [if_neg h, Pol.co_out a i (by rw [HNA.out]; omega), Pol.co_out b i (by rw [HNB.out]; omega)]; rfl)
          have htr := ref_trim (tab na (sum2 a b nb)) (some ⟨w.heap.size, 0, none⟩) na _ hr (by rw [tab_len]; exact Nat.le_refl _) (by rw [tab_len]; omega)
          rw [tab_len, ht] at htr
          have HT := Lib.hid htr
          clear htr hr ht hsm
          go_wp2_with fail
          refine HT.out.mono ?_
          rintro e w2 ⟨V, c, rfl, hc, hrd, hxx⟩
          have HR := Lib.hid hrd
          have HXX := Lib.hid hxx
          clear hrd hxx
          go_wp2
          go_ret
          exact ⟨V, c, rfl, hc, HR.out, HY.out.trans HXX.out⟩
        | succ g =>
          have hj : j < nb := by omega
          have hjI : (j : Int) < (nb : Int) := by omega
          have hjN : (j : Int) < (na : Int) := by omega
          obtain ⟨b1, o1, e1, hc⟩ := (HB.out.ext HY.out).2 j (by rw [HNB.out]; exact hj)
          subst e1
          have hc2 := HL.out.cell j (by omega)
          have hfz := HL.out.frozen j
          have hxor := u8_xor_nat (sum2 a b j j) (co b j) (Gf.xor_lt _ _ (HA.out.1 j) (by rw [if_neg (by omega)]; omega)) (HB.out.1 j)
          have hst := HL.out.drewN 1
          have hst2 := hst.store j (sum2 a b j j ^^^ co b j)
          have hup := hst2.congr (f' := sum2 a b (j + 1)) (fun i _ => by
            unfold upd sum2
            by_cases h : i = j
            · subst h; rw [if_pos rfl, if_neg (by omega), if_pos (by omega), Nat.xor_zero]
            · rw [if_neg h]
              by_cases h' : i < j
              · rw [if_pos h', if_pos (by omega)]
              · rw [if_neg h', if_neg (by omega)])
          have HU := Lib.hid hup
          have hext := (HY.out.drewN 1).setCell (p := ⟨w.heap.size, j, none⟩) (Nat.le_refl _) (.int .u8 ((sum2 a b j j ^^^ co b j : Nat) : Int))
          have HE := Lib.hid hext
          clear hst hst2 hup hext
          go_wp2
          go_region
          go_wp2
          go_roundg g
          case measure => omega
          case rel => exact ⟨j + 1, by omega, by go_num, HU.out, HE.out⟩
    | succ g =>
      have hk : k < na := by omega
      have hkI : (k : Int) < (na : Int) := by omega
      have hkN : (k : Int) < (na : Int) := by omega
      obtain ⟨b1, o1, e1, hc⟩ := (HA.out.ext HX.out).2 k (by rw [HNA.out]; exact hk)
      subst e1
      have hc2 := HK.out.cell k (by omega)
      have hfz := HK.out.frozen k
      have hxor := u8_xor_nat (sum1 a k k) (co a k) (by unfold sum1; rw [if_neg (by omega)]; omega) (HA.out.1 k)
      have hst := HK.out.drewN 1
      have hst2 := hst.store k (sum1 a k k ^^^ co a k)
      have hup := hst2.congr (f' := sum1 a (k + 1)) (fun i _ => by
        unfold upd sum1
        by_cases h : i = k
        · subst h; rw [if_pos rfl, if_neg (by omega), if_pos (by omega), Nat.zero_xor]
        · rw [if_neg h]
          by_cases h' : i < k
          · rw [if_pos h', if_pos (by omega)]
          · rw [if_neg h', if_neg (by omega)])
      have HU := Lib.hid hup
      have hext := (HX.out.drewN 1).setCell (p := ⟨w.heap.size, k, none⟩) (Nat.le_refl _) (.int .u8 ((sum1 a k k ^^^ co a k : Nat) : Int))
      have HE := Lib.hid hext
      clear hst hst2 hup hext
      go_wp2
      go_region
      go_wp2
      go_roundg g
      case measure => omega
      case rel => exact ⟨k + 1, by omega, by go_num, HU.out, HE.out⟩

theorem ref_add (a b : List Nat) (A B : Option Addr) (ca cb : Nat) (w : World) (ha : Rd w A a) (hb : Rd w B b) (hla : a.length ≤ 1048576) (hlb : b.length ≤ 1048576) :
    Calls Try.prog 19 #[.slice A a.length ca, .slice B b.length cb] w (Gives (Pol.trim (Pol.addP a b)) w) := by
  by_cases h : a.length < b.length
  · exact ref_add_short a b A B ca cb w ha hb hla hlb h
  · exact ref_add_long a b A B ca cb w ha hb hla hlb h
end Go.Proofs.Ytagdialceelggaa
