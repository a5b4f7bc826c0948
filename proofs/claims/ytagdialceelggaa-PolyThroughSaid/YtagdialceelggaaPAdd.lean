/-
  What Add of layer 2 does: the sum, trimmed. Conditions: no more than 2^16 coefficients.
-/
import Derived.Test.YtagdialceelggaaPTrim
import Derived.Test.YtagdialceelggaaBase
import Derived.StillTailTactics
import Derived.Laws.CopyOwn
namespace Go.Proofs.Ytagdialceelggaa
open Go.RowKit
open Pol (co Sm trim)

/-- A copy of bytes to the front of a block of the call's own. -/
theorem splice_bt (n : Nat) (f : Nat → Nat) (a : List Nat) (h : a.length ≤ n) : (splice (bt n f).toList 0 (bv a)).toArray = bt n (fun i => if i < a.length then co a i else f i) := by
  apply Array.ext
  · simp [splice, bv_len, bt_size]; omega
  · intro i h1 h2
    have hi : i < n := by rwa [bt_size] at h2
    rw [← Option.some_inj, ← Array.getElem?_eq_getElem, ← Array.getElem?_eq_getElem, bt_at _ _ _ hi]
    simp only [splice, List.take_zero, List.nil_append, Nat.zero_add, List.getElem?_toArray, bv_len]
    by_cases hia : i < a.length
    · rw [List.getElem?_append_left (by rw [bv_len]; exact hia), bv_at a i hia, if_pos hia]
    · rw [List.getElem?_append_right (by rw [bv_len]; omega), List.getElem?_drop, bv_len, if_neg hia, show a.length + (i - a.length) = i from by omega]
      have := bt_at n f i hi
      simpa using this
theorem wpList_copy_blk {ops : Array Oper} {rest : List Oper} {o : Oper} {act : Act} {w : World} {Q : Exit → Act → World → Prop} (hgd : o.guard = none) (d s : Operand)
    (ho : o.op = .call { callee := .builtin .copy, args := #[d, s], argTypes := #[22, 22] }) (g n dc : Nat) (f : Nat → Nat) (hd : act.eval d = .slice (some ⟨g, 0, none⟩) n dc) (hb : Blk w g n f)
    (A : Option Addr) (a : List Nat) (k c : Nat) (hs : act.eval s = .slice A k c) (hk : a.length = k) (hr : Rd w A a) (hn : k ≤ n) (w0 : World) (hx : Ext w0 w) (hg : w0.heap.size ≤ g)
    (h : ∀ w', Hid (Blk w' g n (fun i => if i < a.length then co a i else f i)) → Ext w0 w' → wpList Try.prog ops Q rest (act.put o.dst (goInt k)) w') :
    wpList Try.prog ops Q (o :: rest) act w := by
  subst hk
  refine wpList_copy_splice hgd d s 22 22 ho 5 Try.underlying22 (by kernel_rfl) _ A n dc a.length c hd hs g 0 (bt n f).toList 5 (by unfold Blk at hb; simpa using hb) (bv a) (by rw [bv_len]; exact (Nat.min_eq_left hn).symm)
    (fun hp => ⟨rfl, ?_⟩) (by simp [bv_len, bt_size]; omega) (bv_one a) w0.heap.size w0 hx.below hg ?_
  · rw [bv_len] at hp
    obtain ⟨b, o', e, hc⟩ := hr.addr hp
    refine ⟨_, e, fun j v hj => ?_⟩
    have hj' : j < a.length := by
      have := (List.getElem?_eq_some_iff.1 hj).1
      rwa [bv_len] at this
    rw [addr_add, hc j hj', ← bv_at a j hj', hj]
  · intro w' HG hB
    rw [bv_len]
    refine h w' (Lib.hid ?_) ⟨hB⟩
    unfold Blk
    rw [HG.out, splice_bt n f a hn]

/-- The sum at a place, behind k places of b. -/
def psum (a b : List Nat) (k i : Nat) : Nat := co a i ^^^ (if i < k then co b i else 0)
theorem psum_lt {a b : List Nat} (ha : Sm a) (hb : Sm b) (k i : Nat) : psum a b k i < 256 := Gf.xor_lt _ _ (ha i) (by split; exact hb i; omega)
theorem psum_step (a b : List Nat) (k i : Nat) : upd (psum a b k) k (psum a b k k ^^^ co b k) i = psum a b (k + 1) i := by
  unfold upd psum
  by_cases h : i = k
  · subst h; rw [if_pos rfl, if_neg (by omega), if_pos (by omega), Nat.xor_zero]
  · rw [if_neg h]
    by_cases h' : i < k
    · rw [if_pos h', if_pos (by omega)]
    · rw [if_neg h', if_neg (by omega)]
theorem psum_trim (a b : List Nat) (n : Nat) (ha : a.length ≤ n) (hb : b.length ≤ n) : trim (tab n (psum a b b.length)) = trim (Pol.addP a b) := Pol.trim_ext _ _ fun i => by
  rw [co_tab, Pol.co_addP]
  unfold psum
  by_cases h : i < n
  · rw [if_pos h]
    by_cases h' : i < b.length
    · rw [if_pos h']
    · rw [if_neg h', Pol.co_out b i (by omega)]
  · rw [if_neg h, Pol.co_out a i (by omega), Pol.co_out b i (by omega)]; rfl

set_option maxHeartbeats 800000 in
set_option maxRecDepth 100000 in
theorem padd_short (a b : List Nat) (A B : Option Addr) (ca cb : Nat) (w : World) (ha : Rd w A a) (hb : Rd w B b) (hla : a.length ≤ 65536) (hlb : b.length ≤ 65536) (hlt : a.length < b.length) :
    Calls Try.prog 18 #[.slice A a.length ca, .slice B b.length cb] w (Gives (trim (Pol.addP a b)) w) := by
  have ht := psum_trim a b b.length (by omega) (by omega)
  generalize hna : a.length = na at *
  generalize hnb : b.length = nb at *
  have hmk := fun W => run_make_u8 nb (by omega) W
  have hltI : (na : Int) < (nb : Int) := by omega
  have hna' : na ≤ nb := by omega
  have hnb' : nb ≤ nb := by omega
  have HA := Lib.hid ha
  have HB := Lib.hid hb
  have HNA := Lib.hid hna
  have HNB := Lib.hid hnb
  have HT := Lib.hid ht
  clear ha hb hna hnb ht
  go_enter Try.func18, Try.ntmps18
  go_wp2_with (with_reducible refine wpList_copy_blk rfl (.tmp 13) (.tmp 14) rfl w.heap.size nb nb (fun _ => 0) rfl (Blk.new w nb _) A a na ca rfl HNA.out (HA.out.ext ((Ext.refl _).alloc _)) hna' w ((Ext.refl _).alloc _) (Nat.le_refl _) ?_; intro w1 HK0 hx0)
  have HX0 := Lib.hid hx0
  clear hx0 hmk
  go_loopg [18] nb (fun g s wx => ∃ j : Nat, j + g = nb ∧ s = .int .i64 (j : Int) ∧ Blk wx w.heap.size nb (psum a b j) ∧ Ext w wx)
  case atStart => exact ⟨0, by omega, rfl, HK0.out.congr (fun i _ => by
    unfold psum
    rw [if_neg (show ¬ i < 0 by omega), Nat.xor_zero]
    split
    · rfl
    · rw [Pol.co_out a i (by omega)]), HX0.out⟩
  case round =>
    obtain ⟨j, hjg, rfl, hblk, hx⟩ := hrel
    have HY := Lib.hid hx
    have HL := Lib.hid hblk
    clear hx hblk
    cases gk with
    | zero =>
      obtain rfl : nb = j := by omega
      clear hjg
      have hr := HL.out.reads (fun i _ => psum_lt HA.out.1 HB.out.1 nb i)
      have htr := ptrimmed (tab nb (psum a b nb)) (some ⟨w.heap.size, 0, none⟩) nb _ hr (by rw [tab_len]; exact Nat.le_refl _) (by rw [tab_len]; omega)
      have hle := Pol.trim_len (tab nb (psum a b nb))
      have hrt := hr.trim
      unfold Cuts at htr
      rw [tab_len, HT.out] at htr
      rw [tab_len, HT.out] at hle
      rw [HT.out] at hrt
      have HTR := Lib.hid htr
      have HRT := Lib.hid hrt
      have HLE := Lib.hid hle
      clear htr hr hrt hle
      go_wp2_with fail
      refine HTR.out.mono ?_
      rintro e w2 ⟨rfl, hxx⟩
      have HXX := Lib.hid hxx
      clear hxx
      go_wp2
      go_ret
      exact ⟨_, _, rfl, HLE.out, HRT.out.ext HXX.out, HY.out.trans HXX.out⟩
    | succ g =>
      have hj : j < nb := by omega
      have hjI : (j : Int) < (nb : Int) := by omega
      have hjN : (j : Int) < (nb : Int) := by omega
      obtain ⟨b1, o1, e1, hc⟩ := (HB.out.ext HY.out).2 j (by rw [HNB.out]; exact hj)
      subst e1
      have hc2 := HL.out.cell j (by omega)
      have hfz := HL.out.frozen j
      have hst := ((HL.out.drewN 1).store j (psum a b j j ^^^ co b j)).congr (f' := psum a b (j + 1)) (fun i _ => psum_step a b j i)
      have HU := Lib.hid hst
      have hext := (HY.out.drewN 1).setCell (p := ⟨w.heap.size, j, none⟩) (Nat.le_refl _) (.int .u8 ((psum a b j j ^^^ co b j : Nat) : Int))
      have HE := Lib.hid hext
      have hcm := fun W => (add_is (psum a b j j) (co b j) _ (psum_lt HA.out.1 HB.out.1 j j) (HB.out.1 j) rfl W).mono fun _ _ h => (⟨h.1, h.2.symm⟩ : _ ∧ _ = W)
      have HM := Lib.hid hcm
      clear hst hext hcm
      go_wp2
      go_still_tail 12, (by kernel_rfl)
      still_call (HM.out _)
      repeat still_step
      refine wpStill_nil ?_
      change wpList _ _ _ _ _ wr.drew
      go_wp2
      go_roundg g
      case measure => omega
      case rel => exact ⟨j + 1, by omega, by go_num, HU.out, HE.out⟩

set_option maxHeartbeats 800000 in
set_option maxRecDepth 100000 in
theorem padd_long (a b : List Nat) (A B : Option Addr) (ca cb : Nat) (w : World) (ha : Rd w A a) (hb : Rd w B b) (hla : a.length ≤ 65536) (_hlb : b.length ≤ 65536) (hlt : ¬ a.length < b.length) :
    Calls Try.prog 18 #[.slice A a.length ca, .slice B b.length cb] w (Gives (trim (Pol.addP a b)) w) := by
  have ht := psum_trim a b a.length (by omega) (by omega)
  generalize hna : a.length = na at *
  generalize hnb : b.length = nb at *
  have hmk := fun W => run_make_u8 na (by omega) W
  have hltI : ¬ (na : Int) < (nb : Int) := by omega
  have hna' : na ≤ na := by omega
  have hnb' : nb ≤ na := by omega
  have HA := Lib.hid ha
  have HB := Lib.hid hb
  have HNA := Lib.hid hna
  have HNB := Lib.hid hnb
  have HT := Lib.hid ht
  clear ha hb hna hnb ht
  go_enter Try.func18, Try.ntmps18
  go_wp2_with (with_reducible refine wpList_copy_blk rfl (.tmp 13) (.tmp 14) rfl w.heap.size na na (fun _ => 0) rfl (Blk.new w na _) A a na ca rfl HNA.out (HA.out.ext ((Ext.refl _).alloc _)) hna' w ((Ext.refl _).alloc _) (Nat.le_refl _) ?_; intro w1 HK0 hx0)
  have HX0 := Lib.hid hx0
  clear hx0 hmk
  go_loopg [18] nb (fun g s wx => ∃ j : Nat, j + g = nb ∧ s = .int .i64 (j : Int) ∧ Blk wx w.heap.size na (psum a b j) ∧ Ext w wx)
  case atStart => exact ⟨0, by omega, rfl, HK0.out.congr (fun i _ => by
    unfold psum
    rw [if_neg (show ¬ i < 0 by omega), Nat.xor_zero]
    split
    · rfl
    · rw [Pol.co_out a i (by omega)]), HX0.out⟩
  case round =>
    obtain ⟨j, hjg, rfl, hblk, hx⟩ := hrel
    have HY := Lib.hid hx
    have HL := Lib.hid hblk
    clear hx hblk
    cases gk with
    | zero =>
      obtain rfl : nb = j := by omega
      clear hjg
      have hr := HL.out.reads (fun i _ => psum_lt HA.out.1 HB.out.1 nb i)
      have htr := ptrimmed (tab na (psum a b nb)) (some ⟨w.heap.size, 0, none⟩) na _ hr (by rw [tab_len]; exact Nat.le_refl _) (by rw [tab_len]; omega)
      have hle := Pol.trim_len (tab na (psum a b nb))
      have hrt := hr.trim
      unfold Cuts at htr
      rw [tab_len, HT.out] at htr
      rw [tab_len, HT.out] at hle
      rw [HT.out] at hrt
      have HTR := Lib.hid htr
      have HRT := Lib.hid hrt
      have HLE := Lib.hid hle
      clear htr hr hrt hle
      go_wp2_with fail
      refine HTR.out.mono ?_
      rintro e w2 ⟨rfl, hxx⟩
      have HXX := Lib.hid hxx
      clear hxx
      go_wp2
      go_ret
      exact ⟨_, _, rfl, HLE.out, HRT.out.ext HXX.out, HY.out.trans HXX.out⟩
    | succ g =>
      have hj : j < nb := by omega
      have hjI : (j : Int) < (nb : Int) := by omega
      have hjN : (j : Int) < (na : Int) := by omega
      obtain ⟨b1, o1, e1, hc⟩ := (HB.out.ext HY.out).2 j (by rw [HNB.out]; exact hj)
      subst e1
      have hc2 := HL.out.cell j (by omega)
      have hfz := HL.out.frozen j
      have hst := ((HL.out.drewN 1).store j (psum a b j j ^^^ co b j)).congr (f' := psum a b (j + 1)) (fun i _ => psum_step a b j i)
      have HU := Lib.hid hst
      have hext := (HY.out.drewN 1).setCell (p := ⟨w.heap.size, j, none⟩) (Nat.le_refl _) (.int .u8 ((psum a b j j ^^^ co b j : Nat) : Int))
      have HE := Lib.hid hext
      have hcm := fun W => (add_is (psum a b j j) (co b j) _ (psum_lt HA.out.1 HB.out.1 j j) (HB.out.1 j) rfl W).mono fun _ _ h => (⟨h.1, h.2.symm⟩ : _ ∧ _ = W)
      have HM := Lib.hid hcm
      clear hst hext hcm
      go_wp2
      go_still_tail 12, (by kernel_rfl)
      still_call (HM.out _)
      repeat still_step
      refine wpStill_nil ?_
      change wpList _ _ _ _ _ wr.drew
      go_wp2
      go_roundg g
      case measure => omega
      case rel => exact ⟨j + 1, by omega, by go_num, HU.out, HE.out⟩

theorem padd (a b : List Nat) (A B : Option Addr) (ca cb : Nat) (w : World) (ha : Rd w A a) (hb : Rd w B b) (hla : a.length ≤ 65536) (hlb : b.length ≤ 65536) :
    Calls Try.prog 18 #[.slice A a.length ca, .slice B b.length cb] w (Gives (trim (Pol.addP a b)) w) := by
  by_cases h : a.length < b.length
  · exact padd_short a b A B ca cb w ha hb hla hlb h
  · exact padd_long a b A B ca cb w ha hb hla hlb h
end Go.Proofs.Ytagdialceelggaa
