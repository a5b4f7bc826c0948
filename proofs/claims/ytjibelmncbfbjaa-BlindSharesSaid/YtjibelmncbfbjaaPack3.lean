/-
  Part 3 of the texts that the seat's proofs stand on; each part of it begins with its own sentence and conditions. Conditions: those that each theorem names.
-/
import Derived.Test.YtjibelmncbfbjaaPack2
import Derived.RangeFuncNested
import Derived.RangeFuncBox
import Derived.RangeFuncBound
import Derived.RangeFuncCalls
import Derived.RangeFuncLeaves
import Derived.Shelf.Abstract
import Derived.Shelf.RegionOpen
import Derived.WalkKit
import Derived.OwnWalkIn
import Derived.TacticsInMore
import Derived.LoopNIn
import Derived.LoopIn
import Derived.StillTailTactics
import Derived.ProofKit
import Derived.OpenShut
import Derived.SizedLaws
import Derived.Deep.Slices

/-
  What remappable, different and remappingPoints of layer 6 do. Conditions: no more than 2^10 participants.
-/
namespace Go.Proofs.Ytjibelmncbfbjaa
open Go.RowKit
open Pol (co Sm ev px py Apart)

/-- Numbers of which coins can be remapped. -/
def RmN (ns no nc : Nat) (k : Int) : Prop := 1 ≤ k ∧ k ≤ 200 ∧ ns = no ∧ ns ≤ 4096 ∧ (nc : Int) = cnum ns k

set_option maxHeartbeats 800000 in
theorem j_rem_yes (ns no nc : Nat) (k : Int) (A B C : Option Addr) (ca cb cc : Nat) (w : World) (h : RmN ns no nc k) :
    Calls Try.prog 22 #[.slice A ns ca, .slice B no cb, .slice C nc cc, .int .i64 k] w (Hands (.bool true) w) := by
  obtain ⟨h1, h2, h3, h4, h5⟩ := h
  have HC := Lib.hid (h_coins (ns : Int) k)
  have d1 : decide (k < 1) = false := decide_eq_false (by omega)
  have d2 : decide (200 < k) = false := decide_eq_false (by omega)
  have t3 : ((ns : Int) != (no : Int)) = false := by rw [h3]; simp
  have d4 : decide (4096 < (ns : Int)) = false := decide_eq_false (by omega)
  have t5 : ((nc : Int) == cnum (ns : Int) k) = true := by rw [h5]; simp
  generalize cnum (ns : Int) k = q at *
  clear h3 h5
  go_enter Try.func22, Try.ntmps22
  go_wp2_with fail
  refine (HC.out w).mono ?_
  rintro e w1 ⟨rfl, q1, rfl⟩
  go_wp2
  go_ret
  exact ⟨rfl, q1, rfl⟩
set_option maxHeartbeats 800000 in
theorem j_rem_no (ns no nc : Nat) (k : Int) (A B C : Option Addr) (ca cb cc : Nat) (w : World) (h : ¬ RmN ns no nc k) :
    Calls Try.prog 22 #[.slice A ns ca, .slice B no cb, .slice C nc cc, .int .i64 k] w (Hands (.bool false) w) := by
  unfold RmN at h
  have HC := Lib.hid (h_coins (ns : Int) k)
  by_cases h1 : k < 1
  · have d1 : decide (k < 1) = true := decide_eq_true h1
    clear h
    go_enter Try.func22, Try.ntmps22
    go_wp2
    go_ret
    exact ⟨rfl, 0, rfl⟩
  have d1 : decide (k < 1) = false := decide_eq_false h1
  by_cases h2 : 200 < k
  · have d2 : decide (200 < k) = true := decide_eq_true h2
    clear h
    go_enter Try.func22, Try.ntmps22
    go_wp2
    go_ret
    exact ⟨rfl, 0, rfl⟩
  have d2 : decide (200 < k) = false := decide_eq_false h2
  by_cases h3 : ns = no
  · have t3 : ((ns : Int) != (no : Int)) = false := by rw [h3]; simp
    by_cases h4 : 4096 < ns
    · have d4 : decide (4096 < (ns : Int)) = true := decide_eq_true (by omega)
      clear h h3
      go_enter Try.func22, Try.ntmps22
      go_wp2
      go_ret
      exact ⟨rfl, 0, rfl⟩
    have d4 : decide (4096 < (ns : Int)) = false := decide_eq_false (by omega)
    obtain ⟨q, hq⟩ : ∃ q, cnum (ns : Int) k = q := ⟨_, rfl⟩
    rw [hq] at HC h
    have t5 : ((nc : Int) == q) = false := beq_eq_false_iff_ne.2 (by omega)
    clear h h3 hq
    go_enter Try.func22, Try.ntmps22
    go_wp2_with fail
    refine (HC.out w).mono ?_
    rintro e w1 ⟨rfl, q1, rfl⟩
    go_wp2
    go_ret
    exact ⟨rfl, q1, rfl⟩
  · have t3 : ((ns : Int) != (no : Int)) = true := by simp; omega
    clear h h3
    go_enter Try.func22, Try.ntmps22
    go_wp2
    go_ret
    exact ⟨rfl, 0, rfl⟩

/-! ### The participants -/
/-- Whether a number was among the first i. -/
def sv (l : List Int) : Nat → Nat → Bool
  | 0, _ => false
  | i + 1, x => wn l i == (x : Int) || sv l i x
theorem sv_yes {l : List Int} {x : Nat} : ∀ {i}, sv l i x = true → ∃ j, j < i ∧ wn l j = (x : Int)
  | 0, h => by cases h
  | i + 1, h => by
    rw [sv, Bool.or_eq_true] at h
    rcases h with h | h
    · exact ⟨i, by omega, beq_iff_eq.1 h⟩
    · obtain ⟨j, hj, e⟩ := sv_yes h
      exact ⟨j, by omega, e⟩
theorem sv_no {l : List Int} {x : Nat} : ∀ {i}, sv l i x = false → ∀ j, j < i → wn l j ≠ (x : Int)
  | 0, _, j, hj => by omega
  | i + 1, h, j, hj => by
    rw [sv, Bool.or_eq_false_iff] at h
    by_cases e : j = i
    · subst e; exact fun e' => by rw [e'] at h; simp at h
    · exact sv_no h.2 j (by omega)
/-- The first n are participants, each another one. -/
def WhoN (l : List Int) (n : Nat) : Prop := ∀ i, i < n → 0 ≤ wn l i ∧ wn l i ≤ 199 ∧ ∀ k, k < i → wn l k ≠ wn l i
def WhoE (l : List Int) (w : World) (e : Ending) (w' : World) : Prop := (WhoOk l ∧ Tells (.bool true) w e w') ∨ (¬ WhoOk l ∧ Tells (.bool false) w e w')

set_option maxHeartbeats 1600000 in
set_option maxRecDepth 100000 in
theorem j_different (l : List Int) (A : Option Addr) (ca : Nat) (w : World) (ha : JRd w A l) (hl : l.length ≤ 1048576) (hI : ∀ i, In64 (wn l i)) :
    Calls Try.prog 23 #[.slice A l.length ca] w (WhoE l w) := by
  unfold WhoE
  have HWO := Lib.hid (show WhoOk l ↔ WhoN l l.length from Iff.rfl)
  generalize hnn : l.length = n at *
  have HA := Lib.hid ha
  have HN := Lib.hid hnn
  have HI := Lib.hid hI
  have hz := zero_marks.1
  clear ha hnn hI
  go_enter Try.func23, Try.ntmps23
  go_wp2
  clear hz
  go_loopg [8] n (fun g s wx => ∃ k : Nat, k + g = n ∧ s = .int .i64 (k : Int) ∧ TBlk wx w.heap.size (sv l k) ∧ Ext w wx ∧ WhoN l k)
  case atStart => exact ⟨0, by omega, rfl, heap_alloc_new w _, (Ext.refl _).alloc _, fun i hi => by omega⟩
  case round =>
    obtain ⟨k, hkg, rfl, hblk, hx, hap⟩ := hrel
    have HK := Lib.hid hblk
    have HX := Lib.hid hx
    have HP := Lib.hid hap
    clear hblk hx hap
    cases gk with
    | zero =>
      obtain rfl : k = n := by omega
      clear hkg
      go_wp2
      go_ret
      exact .inl ⟨HWO.out.2 HP.out, rfl, HX.out⟩
    | succ g =>
      have hk : k < n := by omega
      have hkI : (k : Int) < (n : Int) := by omega
      obtain ⟨b1, o1, e1, hc1⟩ := (HA.out.ext HX.out) k (by rw [HN.out]; exact hk)
      subst e1
      obtain ⟨hi1, hi2⟩ := HI.out k
      by_cases hin : 0 ≤ wn l k ∧ wn l k ≤ 199
      · obtain ⟨x, hxx⟩ : ∃ x : Nat, wn l k = (x : Int) := ⟨(wn l k).toNat, by omega⟩
        have hpx : x < 200 := by omega
        rw [hxx] at hc1
        have hxI : (x : Int) < 200 := by omega
        have d1 : decide ((x : Int) < 0) = false := decide_eq_false (by omega)
        have d2 : decide (200 ≤ (x : Int)) = false := decide_eq_false (by omega)
        have HXX := Lib.hid hxx
        clear hin hxx hi1 hi2
        have z1 := HK.out.cell x hpx
        have z2 := HK.out.frozen x
        cases hb : sv l k x with
        | true =>
          rw [hb] at z1
          obtain ⟨j, hj, ej⟩ := sv_yes hb
          have HNO := Lib.hid (show ¬ WhoOk l from fun h => (HWO.out.1 h k hk).2.2 j hj (by rw [HXX.out, ej]))
          clear hb hj ej
          go_wp2
          go_ret
          exact .inr ⟨HNO.out, rfl, HX.out⟩
        | false =>
          rw [hb] at z1
          have HNO := Lib.hid (sv_no hb)
          have HS := Lib.hid (HK.out.store (S' := sv l (k + 1)) x true (fun i => by
            rw [sv, HXX.out]
            by_cases e : i = x
            · subst e; simp
            · rw [if_neg e]
              have : ((x : Int) == (i : Int)) = false := beq_eq_false_iff_ne.2 (by omega)
              rw [this, Bool.false_or]))
          have HE := Lib.hid (HX.out.setCell (p := ⟨w.heap.size, x, none⟩) (Nat.le_refl _) (.bool true))
          clear hb
          go_wp2
          go_roundg g
          case measure => omega
          case rel => exact ⟨k + 1, by omega, by go_num, HS.out, HE.out, fun i h1 => by
            by_cases e : i = k
            · subst e; rw [HXX.out]; exact ⟨by omega, by omega, fun j hj => HNO.out j hj⟩
            · exact HP.out i (by omega)⟩
      · have HNO := Lib.hid (show ¬ WhoOk l from fun h => hin ⟨(HWO.out.1 h k hk).1, (HWO.out.1 h k hk).2.1⟩)
        obtain ⟨p, hp⟩ : ∃ p, wn l k = p := ⟨_, rfl⟩
        rw [hp] at hc1 hin hi1 hi2
        by_cases h0 : p < 0
        · have d1 : decide (p < 0) = true := decide_eq_true h0
          clear hin hp h0
          go_wp2
          go_ret
          exact .inr ⟨HNO.out, rfl, HX.out⟩
        · have d1 : decide (p < 0) = false := decide_eq_false h0
          have d2 : decide (200 ≤ p) = true := decide_eq_true (by omega)
          clear hin hp h0
          go_wp2
          go_ret
          exact .inr ⟨HNO.out, rfl, HX.out⟩

/-- The points that the remapping polynomial goes through. -/
def RptE (l : List Int) (w : World) (e : Ending) (w' : World) : Prop := ∃ X c, e = .returned (.slice X (l.length + 1) c) ∧ l.length + 1 ≤ c ∧ PRd w' X (rpts l) ∧ Ext w w'

set_option maxHeartbeats 1600000 in
set_option maxRecDepth 100000 in
theorem j_points (who : List Int) (A : Option Addr) (ca : Nat) (w : World) (hd : JRd w A who) (hl : who.length ≤ 1048576) (hw : WhoOk who) :
    Calls Try.prog 25 #[.slice A who.length ca] w (RptE who w) := by
  unfold RptE
  have HALLP := Lib.hid (rptsN_all who)
  have HSUC := Lib.hid (rptsN_succ who)
  have HPL := Lib.hid (rptsN_len who)
  have HPS := Lib.hid (fun k (hk : k ≤ who.length) => rptsN_sm (who := who) who.length hw.some (Nat.le_refl _) k hk)
  have HW := Lib.hid hw.some
  have HD := Lib.hid hd
  clear hd hw
  generalize hn : who.length = nw at *
  have HN := Lib.hid hn
  clear hn
  go_enter Try.func25, Try.ntmps25
  go_wp2
  go_loopg [3, 10] nw (fun gh s3 s10 wx => ∃ (i : Nat) (X : Option Addr) (cX : Nat), i + gh = nw ∧ s10 = .int .i64 (i : Int) ∧ s3 = .slice X (i + 1) cX ∧ i + 1 ≤ cX ∧ PMine wx w.heap.size (.slice X (i + 1) cX) (rptsN who i) ∧ Ext w wx)
  case atStart => exact ⟨0, _, _, by omega, rfl, rfl, Nat.le_refl _, one_pmine w 0 1, (Ext.refl w).alloc _⟩
  case round =>
    obtain ⟨i, X, cX, hig, rfl, rfl, hcx, hm, hx⟩ := hrel
    have HM := Lib.hid hm
    have HX := Lib.hid hx
    have HCX := Lib.hid hcx
    clear hm hx hcx
    cases gk with
    | zero =>
      obtain rfl : i = nw := by omega
      clear hig
      obtain ⟨X', cX', eX, _, hrd⟩ := HM.out.slice (HPS.out i (Nat.le_refl _))
      rw [HPL.out i (Nat.le_refl _)] at eX
      injection eX with eX1 eX2 eX3
      subst eX1; subst eX3
      have hrd' : PRd wr X (rpts who) := by rw [← HALLP.out]; exact hrd
      have HRD := Lib.hid hrd'
      clear hrd hrd' eX2
      go_wp2
      go_ret
      exact ⟨X, cX, rfl, HCX.out, HRD.out, HX.out⟩
    | succ gh =>
      have hi : i < nw := by omega
      have hiI : (i : Int) < (nw : Int) := by omega
      obtain ⟨b1, o1, e1, hc1⟩ := (HD.out.ext HX.out) i (by rw [HN.out]; exact hi)
      subst e1
      obtain ⟨x, hxx⟩ : ∃ x, wn who i = x := ⟨_, rfl⟩
      rw [hxx] at hc1
      have HXX := Lib.hid hxx
      clear hxx
      have hlo : 0 ≤ x := by rw [← HXX.out]; exact (HW.out i hi).1
      have hhi : x ≤ 199 := by rw [← HXX.out]; exact (HW.out i hi).2
      obtain ⟨y, hy⟩ : ∃ y : Nat, x.toNat + 1 = y := ⟨_, rfl⟩
      have ey0 : IntKind.i64.wrap (x + 1) = (y : Int) := by rw [IntWalk.i64_in _ (by omega)]; omega
      have ey : IntKind.u8.wrap (y : Int) = (y : Int) := IntWalk.u8_in _ (by omega)
      have ey1 : IntKind.u8.wrap (x + 1) = (y : Int) := by rw [IntWalk.u8_in _ (by omega)]; omega
      have hy256 : y < 256 := by omega
      have HS1 := Lib.hid (show rptsN who i ++ [(y, 0)] = rptsN who (i + 1) from by rw [← HSUC.out i hi, HXX.out, hy])
      have HPL1 := Lib.hid (HPL.out i (by omega))
      have HPL2 := Lib.hid (HPL.out (i + 1) (by omega))
      have HSM1 := Lib.hid (HPS.out (i + 1) (by omega))
      clear hy
      go_wp2_with (at_builtin; refine wpList_append_prd rfl (.tmp 14) (.tmp 19) rfl w.heap.size _ (rptsN who i) [(y, 0)] rfl (HM.out.kept ((Ext.refl _).alloc _)) (some ⟨wr.heap.size, 0, none⟩) 1 1 rfl rfl (one_prd wr y 0 hy256 (by omega)) (by rw [HPL1.out]; simp; omega) (by simp; have := HX.out.size; omega) ?_; intro v' w3 hown' hg' hat'; rw [HS1.out] at hown'; have hx3 := (HX.out.alloc (.cells #[.int .u8 (y : Int), .int .u8 0] 62)).more hg' (fun r e => HM.out.block r e); obtain ⟨Bv, cv, ev', hcv, _⟩ := hown'.slice HSM1.out; rw [HPL2.out] at ev' hcv; subst ev'; have HO := Lib.hid hown'; have HX3 := Lib.hid hx3; clear hown' hg' hat' hx3)
      go_roundg gh
      case measure => omega
      case rel => exact ⟨i + 1, Bv, cv, by omega, by go_num, rfl, hcv, HO.out, HX3.out⟩
end Go.Proofs.Ytjibelmncbfbjaa

/-
  A list, times an element, added to bytes from some place on: as a function of the place; a call that turns a block's bytes so. Conditions: none.
-/
namespace Go.Proofs.Ytjibelmncbfbjaa
open Go.RowKit
open Pol (co Sm)

/-- From place o on the polynomial, times t, is added, k places of it. -/
def addm (o t : Nat) (a : List Nat) (F : Nat → Nat) (k i : Nat) : Nat := if o ≤ i ∧ i < o + k then F i ^^^ Gf.mul t (co a (i - o)) else F i
theorem addm_lt {o t : Nat} {a : List Nat} {F : Nat → Nat} {n : Nat} (h : ∀ i, i < n → F i < 256) (k i : Nat) (hi : i < n) : addm o t a F k i < 256 := by
  unfold addm
  split
  · exact Gf.xor_lt _ _ (h i hi) (Gf.mul_lt _ _)
  · exact h i hi
theorem addm_zero (o t : Nat) (a : List Nat) (F : Nat → Nat) (i : Nat) : F i = addm o t a F 0 i := by
  unfold addm; rw [if_neg (by omega)]
theorem addm_step (o t : Nat) (a : List Nat) (F : Nat → Nat) (k i : Nat) : upd (addm o t a F k) (o + k) (addm o t a F k (o + k) ^^^ Gf.mul t (co a k)) i = addm o t a F (k + 1) i := by
  unfold upd
  by_cases h : i = o + k
  · subst h
    rw [if_pos rfl]
    unfold addm
    rw [if_neg (by omega), if_pos (by omega), Nat.add_sub_cancel_left]
  · rw [if_neg h]
    unfold addm
    by_cases h' : o ≤ i ∧ i < o + k
    · rw [if_pos h', if_pos (by omega)]
    · rw [if_neg h', if_neg (by omega)]

/-- Nothing is handed back; block g's first n cells are F' now, all else is as it was. -/
def Turns (g n : Nat) (F' : Nat → Nat) (w : World) (e : Ending) (w' : World) : Prop := (∃ v, e = .returned v) ∧ Cells w' g n F' ∧ w.grownBy w' (some g)
end Go.Proofs.Ytjibelmncbfbjaa

/-
  What Mul of a field does, of a field in memory and of a nil field. Conditions: none beyond the kinds of the arguments.
-/
namespace Go.Proofs.Ytjibelmncbfbjaa
open Go.RowKit

theorem mul_nil (x y : Int) (w : World) : Calls Try.prog 42 #[.pointer none, .int .u8 x, .int .u8 y] w (Hands (.int .u8 0) w) := by
  go_enter Try.func42, Try.ntmps42
  go_wp2
  go_ret
  exact ⟨rfl, 0, rfl⟩

set_option maxHeartbeats 400000 in
theorem mul_any (b x y : Nat) (w : World) (hf : IsField w b) (hx : x < 256) (hy : y < 256) :
    Calls Try.prog 42 #[.pointer (some ⟨b, 0, none⟩), .int .u8 (x : Int), .int .u8 (y : Int)] w (Hands (.int .u8 ((Gf.mul x y : Nat) : Int)) w) := by
  by_cases x0 : x = 0
  · subst x0
    rw [Gf.zero_mul]
    clear hf
    go_enter Try.func42, Try.ntmps42
    go_wp2
    go_ret
    exact ⟨rfl, 0, rfl⟩
  by_cases y0 : y = 0
  · subst y0
    rw [Gf.mul_zero]
    have h0 : ((x : Int) == 0) = false := by simpa using x0
    clear hf
    go_enter Try.func42, Try.ntmps42
    go_wp2
    go_ret
    exact ⟨rfl, 0, rfl⟩
  have h0 : ((x : Int) == 0) = false := by simpa using x0
  have h1 : ((y : Int) == 0) = false := by simpa using y0
  have c1 := hf.2 x hx
  have c2 := hf.2 y hy
  have l1 := Gf.lg_lt x
  have l2 := Gf.lg_lt y
  have c3 := hf.1 ((Gf.lg x + Gf.lg y) % 255) (by omega)
  have xI : (x : Int) < 256 := by omega
  have yI : (y : Int) < 256 := by omega
  clear hf
  go_enter Try.func42, Try.ntmps42
  go_wp2
  go_quiet (fail)
  go_wp2
  go_ret
  exact ⟨ret_int (by unfold Gf.mul; rw [if_neg (by omega)]), nq, rfl⟩

theorem mul_is (b x y v : Nat) (w : World) (hf : IsField w b) (hx : x < 256) (hy : y < 256) (h : Gf.mul x y = v) :
    Calls Try.prog 42 #[.pointer (some ⟨b, 0, none⟩), .int .u8 (x : Int), .int .u8 (y : Int)] w (Hands (.int .u8 (v : Int)) w) := h ▸ mul_any b x y w hf hx hy
end Go.Proofs.Ytjibelmncbfbjaa

/-
  What addMultiple of layer 6 does: a polynomial, times an element, added to a sum that lies somewhere in a block. Conditions: a field that New made, no more than 2^17 coefficients; the sum lies apart from the field and the polynomial.
-/
namespace Go.Proofs.Ytjibelmncbfbjaa
open Go.RowKit
open Pol (co Sm trim)

set_option maxHeartbeats 800000 in
set_option maxRecDepth 100000 in
theorem jaddm (f : Nat) (a : List Nat) (A : Option Addr) (g o n ls cs ca t : Nat) (F : Nat → Nat) (w : World) (hf : IsField w f) (ha : Rd w A a) (ht : t < 256) (hc : Cells w g n F) (hF : ∀ i, i < n → F i < 256)
    (hfg : f ≠ g) (hag : ∀ b o, A = some ⟨b, o, none⟩ → 0 < a.length → b ≠ g) (hls : a.length ≤ ls) (hon : o + a.length ≤ n) (hlsb : ls ≤ 1048576) :
    Calls Try.prog 26 #[.pointer (some ⟨f, 0, none⟩), .slice (some ⟨g, o, none⟩) ls cs, .slice A a.length ca, .int .u8 (t : Int)] w (Turns g n (addm o t a F a.length) w) := by
  generalize hm : a.length = m at *
  have HF := Lib.hid hf
  have HA := Lib.hid ha
  have HC := Lib.hid hc
  have HFF := Lib.hid hF
  have HM := Lib.hid hm
  have HAG := Lib.hid hag
  have HFG := Lib.hid hfg
  clear hf ha hc hF hm hag hfg
  go_enter Try.func26, Try.ntmps26
  go_wp2
  go_loopg [11] m (fun gk s wx => ∃ k : Nat, k + gk = m ∧ s = .int .i64 (k : Int) ∧ Cells wx g n (addm o t a F k) ∧ w.grownBy wx (some g))
  case atStart => exact ⟨0, by omega, rfl, HC.out.congr (fun i _ => addm_zero o t a F i), World.grownBy.refl _ _⟩
  case round =>
    obtain ⟨k, hkg, rfl, hcl, hg⟩ := hrel
    have HL := Lib.hid hcl
    have HG := Lib.hid hg
    clear hcl hg
    cases gk with
    | zero =>
      obtain rfl : m = k := by omega
      clear hkg
      go_wp2
      go_end0
      exact ⟨⟨_, rfl⟩, HL.out, HG.out⟩
    | succ gk =>
      have hk : k < m := by omega
      have hkI : (k : Int) < (m : Int) := by omega
      have hkL : (k : Int) < (ls : Int) := by omega
      have hr := HA.out.keep HG.out (fun b o' e h => fun h' => HAG.out b o' e (by have := HM.out; omega) (by cases h'; rfl))
      obtain ⟨b1, o1, e1, hc1⟩ := hr.2 k (by rw [HM.out]; exact hk)
      subst e1
      have hc2 := (HL.out (o + k) (by omega)).1
      have hfz := (HL.out (o + k) (by omega)).2
      have hfield := HF.out.keep HG.out (fun h => HFG.out (by cases h; rfl))
      have hmul := fun q => mul_any f t (co a k) (wr.drewN q) (hfield.drewN q) ht (HA.out.1 k)
      have hadd := fun q => add_is (addm o t a F k (o + k)) (Gf.mul t (co a k)) _ (addm_lt HFF.out k (o + k) (by omega)) (Gf.mul_lt _ _) rfl (wr.drewN q)
      have hst := fun q => ((HL.out.drewN q).store (o + k) (addm o t a F k (o + k) ^^^ Gf.mul t (co a k))).congr (F' := addm o t a F (k + 1)) (fun i _ => addm_step o t a F k i)
      have hgg := fun q => (HG.out.trans (grown_drewN wr q _)).trans (grown_set (wr.drewN q) g (o + k) (.int .u8 ((addm o t a F k (o + k) ^^^ Gf.mul t (co a k) : Nat) : Int)))
      have HMU := Lib.hid hmul
      have HAD := Lib.hid hadd
      have HST := Lib.hid hst
      have HGG := Lib.hid hgg
      clear hmul hadd hst hgg hfield hr
      go_wp2
      refine wp_region_quiet_tail 15 (fun w' => ∃ q, w' = wr.drewN q) (by kernel_rfl) (by kernel_rfl) ⟨1, rfl⟩ ?_
      simp only [List.take_succ_cons, List.take_zero, List.drop_succ_cons, List.drop_zero]
      repeat (quiet_step (first | (go_at_call 42; exact quiet_hands (HMU.out _)) | (go_at_call 27; exact quiet_same (HAD.out _))))
      refine wpQuiet_nil ?_
      rintro _ ⟨q, rfl⟩
      go_wp2
      go_roundg gk
      case measure => omega
      case rel => exact ⟨k + 1, by omega, by go_num, HST.out q, HGG.out q⟩
theorem jaddm_none (f ls cs ca : Nat) (x : Int) (V A : Option Addr) (w : World) :
    Calls Try.prog 26 #[.pointer (some ⟨f, 0, none⟩), .slice V ls cs, .slice A 0 ca, .int .u8 x] w (fun e w' => (∃ v, e = .returned v) ∧ w = w') := by
  go_enter Try.func26, Try.ntmps26
  go_wp2
  go_loopg [11] 0 (fun gk s wx => gk = 0 ∧ s = .int .i64 0 ∧ w = wx)
  case atStart => exact ⟨rfl, rfl, rfl⟩
  case round =>
    obtain ⟨rfl, rfl, rfl⟩ := hrel
    go_wp2
    go_end0
    exact ⟨⟨_, rfl⟩, rfl⟩
end Go.Proofs.Ytjibelmncbfbjaa

/-
  Words for layer 2: a quotient with what is left, none, a list with an error number. Conditions: none.
-/
namespace Go.Proofs.Ytjibelmncbfbjaa
open Go.RowKit
open Pol (co Sm px py Apart thr trim)

/-- A quotient and a rest. -/
def Quots (a b : List Nat) (w : World) (e : Ending) (w' : World) : Prop :=
  ∃ (vq vr : Value) (q r : List Nat), e = .returned (.tuple #[vq, vr, .int .i64 0]) ∧ Sl w' vq q ∧ Sl w' vr r ∧ trim q = q ∧ trim r = r ∧ (∀ j, co (Pol.mulP q b) j ^^^ co r j = co a j) ∧ r.length < (trim b).length ∧ q.length ≤ a.length ∧ Ext w w'
/-- No quotient. -/
def NoQuots (w : World) (e : Ending) (w' : World) : Prop := ∃ vq vr : Value, e = .returned (.tuple #[vq, vr, .int .i64 1]) ∧ Sl w' vq [] ∧ Sl w' vr [] ∧ Ext w w'
/-- A list, and a number. -/
def GivesTo (l : List Nat) (n : Int) (w : World) (e : Ending) (w' : World) : Prop := ∃ v : Value, e = .returned (.tuple #[v, .int .i64 n]) ∧ Sl w' v l ∧ Ext w w'
end Go.Proofs.Ytjibelmncbfbjaa

/-
  The polynomial through some points, made point by point: what has been made goes through the points so far, and what is 0 at just these places. Conditions: none.
-/
namespace Pol
open Gf (mul quo)

/-- The polynomial through the first points, and what is 0 at their places. -/
def nw (l : List (Nat × Nat)) : Nat → List Nat × List Nat
  | 0 => ([], [1])
  | i + 1 => (trim (addP (nw l i).1 (trim (mulP (nw l i).2 [quo (py l i ^^^ ev (nw l i).1 (px l i)) (ev (nw l i).2 (px l i))]))), trim (mulP (nw l i).2 [px l i, 1]))
theorem ev_one (t x : Nat) : ev [t] x = t := by simp [ev, Gf.mul_zero]
theorem ev_line (p x : Nat) (hx : x < 256) : ev [p, 1] x = x ^^^ p := by
  simp only [ev, Gf.mul_zero, Nat.xor_zero, Gf.mul_one x hx]
  exact Nat.xor_comm _ _
theorem one_sm {t : Nat} (h : t < 256) : Sm [t] := Sm.cons h Sm.nil
theorem nw_sm (l : List (Nat × Nat)) : ∀ i, Sm (nw l i).1 ∧ Sm (nw l i).2
  | 0 => ⟨Sm.nil, one_sm (by omega)⟩
  | i + 1 => ⟨((nw_sm l i).1.add (Sm.mul _ _).trim).trim, (Sm.mul _ _).trim⟩
theorem nw_len (l : List (Nat × Nat)) : ∀ i, (nw l i).1.length ≤ i ∧ (nw l i).2.length ≤ i + 1
  | 0 => ⟨Nat.le_refl _, Nat.le_refl _⟩
  | i + 1 => by
    have h := nw_len l i
    refine ⟨trim_le _ _ fun j hj => ?_, trim_le _ _ fun j hj => mulP_len _ _ j (by simp; omega) (by simp)⟩
    rw [co_addP, co_trim, co_out _ j (by omega), mulP_len _ _ j (by simp; omega) (by simp)]
    rfl
theorem nw_next (l : List (Nat × Nat)) (hl : PSm l) (i x : Nat) (hx : x < 256) : ev (nw l (i + 1)).2 x = mul (ev (nw l i).2 x) (x ^^^ px l i) := by
  rw [nw, ev_trim, ev_mulP _ _ _ (nw_sm l i).2 (pair_sm _ _ (hl i).1 (by omega)) hx, ev_line _ _ hx]
theorem nw_zero (l : List (Nat × Nat)) (hl : PSm l) (j : Nat) : ∀ i, j < i → ev (nw l i).2 (px l j) = 0
  | 0, h => by omega
  | i + 1, h => by
    rw [nw_next l hl i _ (hl j).1]
    by_cases e : j = i
    · subst e; rw [Nat.xor_self, Gf.mul_zero]
    · rw [nw_zero l hl j i (by omega), Gf.zero_mul]
theorem nw_ne (l : List (Nat × Nat)) (hl : PSm l) (x : Nat) (hx : x < 256) : ∀ i, (∀ j, j < i → x ≠ px l j) → ev (nw l i).2 x ≠ 0
  | 0, _ => by rw [nw, ev_one]; omega
  | i + 1, h => by
    rw [nw_next l hl i x hx]
    exact Gf.mul_ne _ _ (nw_ne l hl x hx i fun j hj => h j (by omega)) (fun e => h i (by omega) (Gf.xor_zero_iff _ _ e))
theorem nw_meets (l : List (Nat × Nat)) (hl : PSm l) (j : Nat) : ∀ i, Apart l i → j < i → ev (nw l i).1 (px l j) = py l j
  | 0, _, h => by omega
  | i + 1, ha, h => by
    have hz : ev (nw l i).2 (px l i) ≠ 0 := nw_ne l hl _ (hl i).1 i fun k hk => ha i k hk (by omega)
    have hs := nw_sm l i
    rw [nw, ev_trim, ev_addP _ _ _ hs.1 (Sm.mul _ _).trim (hl j).1, ev_trim, ev_mulP _ _ _ hs.2 (one_sm (Gf.quo_lt _ _)) (hl j).1, ev_one]
    by_cases e : j = i
    · subst e
      rw [Gf.mul_comm, Gf.quo_mul _ _ (Gf.xor_lt _ _ (hl j).2 (ev_lt _ _ hs.1)) (ev_lt _ _ hs.2) hz, Nat.xor_comm (py l j), ← Nat.xor_assoc, Nat.xor_self, Nat.zero_xor]
    · rw [nw_zero l hl j i (by omega), Gf.zero_mul, Nat.xor_zero, nw_meets l hl j i (fun a b h1 h2 => ha a b h1 (by omega)) (by omega)]
theorem nw_thr (l : List (Nat × Nat)) (hl : PSm l) (hd : Apart l l.length) : (nw l l.length).1 = thr l l.length := by
  have h := thr_one l hl hd (nw l l.length).1 (nw_sm l _).1 (fun i hi => co_out _ i (by have := (nw_len l l.length).1; omega)) (fun j hj => nw_meets l hl j _ hd hj)
  rw [← h]
  cases l.length with
  | zero => rfl
  | succ n => rw [nw, trim_trim]
theorem apart_next (l : List (Nat × Nat)) (hl : PSm l) (i : Nat) (h : Apart l i) (hz : ev (nw l i).2 (px l i) ≠ 0) : Apart l (i + 1) := fun a b h1 h2 => by
  by_cases e : a = i
  · subst e
    exact fun e => hz (by rw [e]; exact nw_zero l hl b a h1)
  · exact h a b h1 (by omega)
theorem apart_not (l : List (Nat × Nat)) (hl : PSm l) (i n : Nat) (hi : i < n) (hz : ev (nw l i).2 (px l i) = 0) : ¬ Apart l n := fun h =>
  nw_ne l hl _ (hl i).1 i (fun j hj => h i j hj hi) hz
end Pol

/-
  What slices.Backward of a slice of bytes does for a loop: the places come from the last one down to 0, each with a value that may stand there. Conditions: no more than 2^40 bytes.
-/
namespace Go.Proofs.Ytjibelmncbfbjaa
open Go.RowKit Go.Shelf
open Pol (co Sm)
attribute [local go_sem] Oper.semAt_some

/-- A place below n, with a value that may stand there. -/
abbrev Pl (n : Nat) (V : Nat → Nat → Prop) : Type := { x : Nat × Nat // x.1 < n ∧ V x.1 x.2 }
def plv {n : Nat} {V : Nat → Nat → Prop} (x : Pl n V) : Array Value := #[.int .i64 (x.1.1 : Int), .int .u8 (x.1.2 : Int)]
/-- At each place below n stands a value that may. -/
def HasA (V : Nat → Nat → Prop) (W : World) (A : Option Addr) (n : Nat) : Prop := ∀ i, i < n → ∃ b o v, A = some ⟨b, o, none⟩ ∧ V i v ∧ W.cell? ⟨b, o + i, none⟩ = some (.int .u8 ((v : Nat) : Int))
def downs (n k : Nat) : List Nat := (List.range k).map fun j => n - 1 - j
theorem downs_succ (n k : Nat) : downs n (k + 1) = downs n k ++ [n - 1 - k] := by simp [downs, List.range_succ]
theorem downs_len (n k : Nat) : (downs n k).length = k := by simp [downs]
theorem downs_mem (n k i : Nat) (h : i < n) (hk : n - 1 - i < k) : i ∈ downs n k := List.mem_map.2 ⟨n - 1 - i, List.mem_range.2 hk, by omega⟩
/-- What a round keeps: the slice's own box, and that each place has a value that may stand there. -/
def KpB (Bs : Nat) (s : Value) (V : Nat → Nat → Prop) (A : Option Addr) (n : Nat) (W W' : World) : Prop :=
  (W.cell? ⟨Bs, 0, none⟩ = some s → W'.cell? ⟨Bs, 0, none⟩ = some s) ∧ (HasA V W A n → HasA V W' A n)
theorem KpB.trans {Bs : Nat} {s : Value} {V : Nat → Nat → Prop} {A : Option Addr} {n : Nat} {X Y Z : World} (h : KpB Bs s V A n X Y) (k : KpB Bs s V A n Y Z) : KpB Bs s V A n X Z :=
  ⟨fun e => k.1 (h.1 e), fun e => k.2 (h.2 e)⟩
theorem KpB.below {Bs : Nat} {s : Value} {V : Nat → Nat → Prop} {A : Option Addr} {n n₀ : Nat} {W W' : World} (hb : Below n₀ W W') (h1 : Bs < n₀) (h2 : ∀ b o, A = some ⟨b, o, none⟩ → 0 < n → b < n₀) : KpB Bs s V A n W W' :=
  ⟨fun e => (hb.cell (p := ⟨Bs, 0, none⟩) h1).trans e, fun h i hi => by
    obtain ⟨b, o, v, e, hv, hc⟩ := h i hi
    exact ⟨b, o, v, e, hv, (hb.cell (p := ⟨b, o + i, none⟩) (h2 b o e (by omega))).trans hc⟩⟩
theorem KpB.put {Bs : Nat} {s : Value} {V : Nat → Nat → Prop} {A : Option Addr} {n : Nat} {w : World} (h1 : Bs < w.heap.size) (h2 : ∀ b o, A = some ⟨b, o, none⟩ → 0 < n → b < w.heap.size)
    (W : World) (l : Nat) (o o' : Obj) (hl : w.heap.size ≤ l) (h : W.heap[l]? = some o) (k1 : o.isCells = false) (k2 : o.isWalk = false) : KpB Bs s V A n W (W.putObj l o') :=
  KpB.below (belowK_b (w := w) (Nat.le_refl _) W l o o' hl h k1 k2) h1 h2

theorem far_block (a b : Nat) (o : Nat) (u : Nat) (h : a ≠ b) : (⟨a, o, none⟩ : Addr) ≠ ⟨b, u, none⟩ := fun e => by cases e; exact h rfl
theorem KpB.set {Bs : Nat} {s : Value} {V : Nat → Nat → Prop} {A : Option Addr} {n : Nat} (W : World) (g o : Nat) (v : Value) (h1 : g ≠ Bs) (h2 : ∀ b o, A = some ⟨b, o, none⟩ → 0 < n → g ≠ b) : KpB Bs s V A n W (W.setCell ⟨g, o, none⟩ v) :=
  ⟨fun e => (World.cell?_setCell_other _ _ _ _ (far_block g Bs o 0 h1)).trans e, fun h i hi => by
    obtain ⟨b, o', u, e, hv, hc⟩ := h i hi
    exact ⟨b, o', u, e, hv, (World.cell?_setCell_other _ _ _ _ (far_block g b o (o' + i) (h2 b o' e (by omega)))).trans hc⟩⟩
theorem keeps_drewN (W : World) (n : Nat) : KeepsOthers W (W.drewN n) := ⟨Nat.le_refl _, fun _ _ h _ => h⟩
theorem KpB.drewN {Bs : Nat} {s : Value} {V : Nat → Nat → Prop} {A : Option Addr} {n : Nat} (W : World) (k : Nat) : KpB Bs s V A n W (W.drewN k) := ⟨fun e => e, fun h => h⟩

def atI : Nat → Int
  | 0 => -1
  | g + 1 => (g : Int)
theorem atI_eq (g : Nat) : atI g = (g : Int) - 1 := by cases g <;> simp [atI]

set_option maxRecDepth 100000 in
set_option maxHeartbeats 2000000 in
theorem back1 (m : Nat) (hm : 1 ≤ m) (l Bs n cap : Nat) (A : Option Addr) (V : Nat → Nat → Prop) (hn : n ≤ 1099511627776) (J Jx : List (Pl n V) → World → Prop)
    (hY : ∀ pre x W, J pre W → pre.length < n → YieldAt Fence.wide (m - 1) Try.prog l (plv x) W fun e W' =>
      (e = .returned (.bool true) ∧ J (pre ++ [x]) W' ∧ KpB Bs (.slice A n cap) V A n W W') ∨ (e = .returned (.bool false) ∧ Jx (pre ++ [x]) W'))
    (W : World) (hBs : W.cell? ⟨Bs, 0, none⟩ = some (.slice A n cap)) (hc : HasA V W A n) (h0 : J [] W) :
    CallsIn Fence.wide m Try.prog 53 #[.func (.yield l) #[] #[], .pointer (some ⟨Bs, 0, none⟩)] W fun e W' => (∃ v, e = .returned v) ∧
      ((∃ ys : List (Pl n V), ys.map (fun x => x.1.1) = downs n n ∧ J ys W') ∨ (∃ pre : List (Pl n V), (∃ k, k ≤ n ∧ pre.map (fun x => x.1.1) = downs n k) ∧ Jx pre W')) := by
  have HC := Lib.hid hc
  have HB := Lib.hid hBs
  clear hc
  refine callsIn_of_wp Try.func53 rfl trivial ?_ rfl
  simp only [Try.ntmps53, List.size_toArray, List.length_cons, List.length_nil, Nat.reduceAdd, Nat.reduceSub, Array.replicate_succ, Array.replicate_zero, List.push_toArray, List.append_toArray, List.nil_append, List.cons_append]
  gi_wp2
  clear hBs
  gi_loopw [3] (fun i wr => ∃ (g : Nat) (pre : List (Pl n V)), pre.length + g = n ∧ i = .int .i64 (atI g) ∧ pre.map (fun x => x.1.1) = downs n pre.length ∧ J pre wr ∧ wr.cell? ⟨Bs, 0, none⟩ = some (.slice A n cap) ∧ HasA V wr A n)
    (fun i _ => (intOf i + 1).toNat)
  case atStart => exact ⟨n, [], by simp, by rw [atI_eq], rfl, h0, HB.out, HC.out⟩
  case round =>
    obtain ⟨g, pre, hpg, rfl, hpre, hJs, hb, hh⟩ := hrel
    have HH := Lib.hid hh
    have HP := Lib.hid hpre
    have HBB := Lib.hid hb
    clear hh hpre
    cases g with
    | zero =>
      dsimp only [atI]
      gi_wp2
      go_end0
      have hpl : pre.length = n := hpg
      exact ⟨⟨_, rfl⟩, .inl ⟨pre, by rw [HP.out, hpl], hJs⟩⟩
    | succ g =>
      have hgn : g < n := by omega
      obtain ⟨b, o, v, rfl, hv, hcl⟩ := HH.out g hgn
      obtain ⟨fn, tmps, assign, body, hy, hR⟩ := hY pre ⟨(g, v), hgn, hv⟩ wr hJs (by omega)
      dsimp only [plv] at hy
      dsimp only [atI]
      have hgI : (g : Int) < (n : Int) := by omega
      have hpx : (pre ++ [(⟨(g, v), hgn, hv⟩ : Pl n V)]).map (fun x => x.1.1) = downs n (pre ++ [(⟨(g, v), hgn, hv⟩ : Pl n V)]).length := by
        rw [List.map_append, HP.out, List.length_append, List.length_singleton, downs_succ]
        congr 1
        simp
        omega
      have HX := Lib.hid hpx
      clear hpx
      gi_wp2
      refine hR.mono ?_
      rintro e W3 (⟨rfl, hJ3, hk3⟩ | ⟨rfl, hJx3⟩)
      · gi_wp2
        go_roundw
        case rel => exact ⟨g, pre ++ [⟨(g, v), hgn, hv⟩], by simp; omega, congrArg (Value.int .i64) (atI_eq g).symm, HX.out, hJ3, hk3.1 HBB.out, hk3.2 HH.out⟩
        case measure => simp [intOf]
      · gi_wp2
        refine bodyPost_ret (results_none rfl _ _ _) rfl ?_
        exact ⟨⟨_, rfl⟩, .inr ⟨_, ⟨_, by simp; omega, HX.out⟩, hJx3⟩⟩

theorem back_stops (m : Nat) (hm : 1 ≤ m) (Bs n cap : Nat) (A : Option Addr) (V : Nat → Nat → Prop) (hn : n ≤ 1099511627776) (w : World) (hBs : Bs < w.heap.size) (hA : ∀ b o, A = some ⟨b, o, none⟩ → 0 < n → b < w.heap.size)
    (hc : w.cell? ⟨Bs, 0, none⟩ = some (.slice A n cap)) (hh : HasA V w A n) :
    SeqStopsK Fence.wide m Try.prog 53 #[.pointer (some ⟨Bs, 0, none⟩)] (plv (n := n) (V := V)) (KpB Bs (.slice A n cap) V A n) (fun ys => ys.map (fun x => x.1.1) = downs n n)
      (fun pre => ∃ k, k ≤ n ∧ pre.map (fun x => x.1.1) = downs n k) n w := fun l J Jx W hW _ _ hY h0 =>
  have hk := KpB.below (s := .slice A n cap) (V := V) (A := A) (n := n) hW hBs hA
  back1 m hm l Bs n cap A V hn J Jx hY W (hk.1 hc) (hk.2 hh) h0

set_option maxHeartbeats 1000000 in
/-- slices.Backward(s): the slice value is boxed; the function value captures the box. -/
theorem back_in (m : Nat) (a : Option Addr) (len cap : Nat) (w : World) :
    CallsIn Fence.wide m Try.prog 48 #[.slice a len cap] w fun e w' => e = .returned (.func (.func 53) #[] #[.pointer (some ⟨w.heap.size, 0, none⟩)]) ∧ w' = w.alloc (.cells #[.slice a len cap] 22) := by
  refine callsIn_of_wp Try.func48 rfl trivial ?_ rfl
  simp only [Try.ntmps48, List.size_toArray, List.length_cons, List.length_nil, Nat.reduceAdd, Nat.reduceSub, Array.replicate_succ, Array.replicate_zero, List.push_toArray, List.append_toArray, List.nil_append, List.cons_append]
  gi_wp2
  go_ret
  exact ⟨rfl, rfl⟩
theorem back_calls (a : Option Addr) (len cap : Nat) (w : World) :
    Calls Try.prog 48 #[.slice a len cap] w fun e w' => e = .returned (.func (.func 53) #[] #[.pointer (some ⟨w.heap.size, 0, none⟩)]) ∧ w' = w.alloc (.cells #[.slice a len cap] 22) :=
  (callsIn_wide (n := 1)).1 (back_in 1 a len cap w)
end Go.Proofs.Ytjibelmncbfbjaa

/-
  What Degree, trimmed and Trim of layer 2 do. Conditions: no more than 2^16 coefficients.
-/
namespace Go.Proofs.Ytjibelmncbfbjaa
open Go.RowKit Go.Shelf
open Pol (co Sm trim)
attribute [local go_sem] Oper.semAt_some

/-- At place i stands the coefficient. -/
def Is (l : List Nat) (i v : Nat) : Prop := v = co l i
theorem Rd.has {w : World} {A : Option Addr} {l : List Nat} (h : Rd w A l) : HasA (Is l) w A l.length := fun i hi => by
  obtain ⟨b, o, e, hc⟩ := h.2 i hi
  exact ⟨b, o, co l i, e, rfl, hc⟩
theorem Rd.block {w : World} {A : Option Addr} {l : List Nat} (h : Rd w A l) : ∀ b o, A = some ⟨b, o, none⟩ → 0 < l.length → b < w.heap.size := fun b o e hl => by
  obtain ⟨b', o', e', hc⟩ := h.2 0 hl
  rw [e] at e'
  cases e'
  exact block_lt_of_cell hc

theorem trim_all (l : List Nat) (ys : List (Pl l.length (Is l))) (h : ys.map (fun x => x.1.1) = downs l.length l.length) (hz : ∀ p ∈ ys, p.1.2 = 0) : trim l = [] := by
  refine (Pol.trim_nil_iff l).2 fun i => ?_
  by_cases hi : i < l.length
  · have hm := downs_mem l.length l.length i hi (by omega)
    rw [← h] at hm
    obtain ⟨p, hp, e⟩ := List.mem_map.1 hm
    rw [← e, ← show p.1.2 = co l p.1.1 from p.2.2]
    exact hz p hp
  · exact Pol.co_out l i (by omega)
theorem trim_at (l : List Nat) (ini : List (Pl l.length (Is l))) (last : Pl l.length (Is l)) (k : Nat) (h : (ini ++ [last]).map (fun x => x.1.1) = downs l.length k) (hk : k ≤ l.length) (hz : ∀ p ∈ ini, p.1.2 = 0) (hl : last.1.2 ≠ 0) : (trim l).length = last.1.1 + 1 := by
  cases k with
  | zero => simp [downs] at h
  | succ k =>
    rw [downs_succ, List.map_append] at h
    obtain ⟨h1, h2⟩ := List.append_inj' h rfl
    have h3 : last.1.1 = l.length - 1 - k := by simpa using h2
    refine Pol.trim_len_top l last.1.1 (by rw [← show last.1.2 = co l last.1.1 from last.2.2]; exact hl) fun i hi => ?_
    by_cases hil : i < l.length
    · have hm := downs_mem l.length k i hil (by omega)
      rw [← h1] at hm
      obtain ⟨p, hp, e⟩ := List.mem_map.1 hm
      rw [← e, ← show p.1.2 = co l p.1.1 from p.2.2]
      exact hz p hp
    · exact Pol.co_out l i (by omega)

set_option maxRecDepth 100000 in
set_option maxHeartbeats 2000000 in
theorem pdegree (l : List Nat) (A : Option Addr) (c : Nat) (w : World) (hr : Rd w A l) (hl : l.length ≤ 65536) :
    Calls Try.prog 54 #[.slice A l.length c] w (Tells (.int .i64 (((trim l).length : Int) - 1)) w) := by
  have HTA := Lib.hid (trim_all l)
  have HTB := Lib.hid (trim_at l)
  have HR := Lib.hid hr
  have hh := hr.has
  have hbk := hr.block
  generalize hlen : l.length = n at *
  have HN := Lib.hid hlen
  have HH := Lib.hid hh
  have HBK := Lib.hid hbk
  clear hlen hr hh hbk
  refine (callsIn_wide (n := 4)).1 ?_
  refine callsIn_of_wp_marks Try.func54 rfl trivial ?_ rfl
  simp only [Try.ntmps54, List.size_toArray, List.length_cons, List.length_nil, Nat.reduceAdd, Nat.reduceSub, Array.replicate_succ, Array.replicate_zero, List.push_toArray, List.append_toArray, List.nil_append, List.cons_append]
  gi_wp2_with (refine ⟨trivial, ?_⟩; gi_at_call 48; refine (back_in _ _ _ _ _).mono ?_; rintro e w' ⟨rfl, rfl⟩)
  have bR := Boxed.new w 3 (.int .i64 0)
  have bN := Boxed.new (w.alloc (.cells #[.int .i64 0] 3)) 22 (.slice A n c)
  rw [World.size_alloc] at bN
  have hB0 : Below w.heap.size w ((w.alloc (.cells #[.int .i64 0] 3)).alloc (.cells #[.slice A n c] 22)) := ((Below.refl _ w).alloc (Nat.le_refl _) _).alloc (by simp) _
  have hK0 : KpB 0 (.bool true) (Is l) A n w ((w.alloc (.cells #[.int .i64 0] 3)).alloc (.cells #[.slice A n c] 22)) := by
    refine ⟨fun e => (hB0.cell (p := ⟨0, 0, none⟩) (block_lt_of_cell e)).trans e, fun h i hi => ?_⟩
    obtain ⟨b, o, v, e, hv, hc⟩ := h i hi
    exact ⟨b, o, v, e, hv, (hB0.cell (p := ⟨b, o + i, none⟩) (block_lt_of_cell hc)).trans hc⟩
  refine wpIn_rangeFunc_ownG rfl (by omega) (gf := 53) (lb := #[.pointer (some ⟨w.heap.size + 1, 0, none⟩)]) rfl trivial (enters_of Try.func53 (by kernel_rfl) rfl)
    (back_stops _ (by omega) (w.heap.size + 1) n c A (Is l) (by omega) _ (by simp) (fun b o e h => Nat.lt_of_lt_of_le (HBK.out b o e h) hB0.size) bN.cell (hK0.2 HH.out))
    KpB.trans (KpB.put (by simp) (fun b o e h => Nat.lt_of_lt_of_le (HBK.out b o e h) hB0.size)) (Below.refl _ _) (fun _ => rfl)
    (fun pre W => ((∀ p ∈ pre, p.1.2 = 0) ∧ W.cell? ⟨w.heap.size, 0, none⟩ = some (.int .i64 0) ∧ W.frozen? ⟨w.heap.size, 0, none⟩ = false) ∧ Below w.heap.size w W)
    (fun c pre W => (c = .ret ∧ ∃ ini last, pre = ini ++ [last] ∧ (∀ p ∈ ini, p.1.2 = 0) ∧ last.1.2 ≠ 0 ∧ W.cell? ⟨w.heap.size, 0, none⟩ = some (.int .i64 (last.1.1 : Int))) ∧ Below w.heap.size w W)
    (OwnFrom.and (Own.from (fun s A B row hs hg hr => ⟨hs.1, cell_kept hs.2.1 hg hr, (frozen_kept hs.2.1 hg hr).trans hs.2.2⟩) _) (ownFrom_below (Nat.le_refl _) (by simp; omega)))
    (fun c => OwnFrom.and (Own.from (fun s A B row hs hg hr => by obtain ⟨hc, ini, last, e1, e2, e3, e4⟩ := hs; exact ⟨hc, ini, last, e1, e2, e3, cell_kept e4 hg hr⟩) _) (ownFrom_below (Nat.le_refl _) (by simp; omega)))
    ⟨⟨by simp, (bR.alloc _).cell, (bR.alloc _).frozen⟩, hB0⟩
    (fun x => { tmps := #[.slice A n c, undef, .pointer (some ⟨w.heap.size, 0, none⟩), .int .i64 (x.1.1 : Int), .int .u8 (x.1.2 : Int), .slice A n c, .func (.func 53) #[] #[.pointer (some ⟨w.heap.size + 1, 0, none⟩)], .int .i64 (x.1.1 : Int), .int .u8 (x.1.2 : Int), undef, undef, undef], defers := [] }) ?assign ?body ?done ?stop
  case assign =>
    intro l x W K hK
    dsimp only [plv]
    gi_wp2
    exact hK
  case body =>
    rintro l pre x W ⟨⟨hp, hcr, hfr⟩, hB⟩ _
    by_cases hx : x.1.2 = 0
    · have ht : (((x.1.2 : Nat) : Int) != 0) = false := by simp [hx]
      have HX := Lib.hid hx
      clear hx
      gi_wp2
      exact ⟨KeepsFrom.refl _ _, ⟨fun e => e, fun h => h⟩, ⟨fun p hp' => (List.mem_append.1 hp').elim (hp p) (fun e => by simp at e; subst e; exact HX.out), hcr, hfr⟩, hB⟩
    · have ht : (((x.1.2 : Nat) : Int) != 0) = true := by simp; omega
      have HX := Lib.hid hx
      clear hx
      gi_wp2
      exact ⟨(KeepsOthers.setCell _ _ _).from _, ⟨rfl, pre, x, rfl, hp, HX.out, World.cell?_setCell_same' _ _ _ (by rw [hcr]; rfl)⟩, hB.setCell (p := ⟨w.heap.size, 0, none⟩) (Nat.le_refl _) _⟩
  case done =>
    rintro D ys W hD hys ⟨⟨hne, hcr, hfr⟩, hB⟩ hK
    have HT := Lib.hid (HTA.out ys hys hne)
    gi_wp2
    have hK' := (KeepsOthers.setCell W ⟨w.heap.size, 0, none⟩ (.int .i64 (-1))).same D _ hK rfl
    refine ⟨by simp, .inl ⟨_, _, rfl, run_takeDeferred hK', ?_⟩⟩
    have hc5 := cell_kept (World.cell?_setCell_same' W ⟨w.heap.size, 0, none⟩ (.int .i64 (-1)) (by rw [hcr]; rfl)) (grownBy_putObj' _ D (.deferred none)) (fun r e => by cases e; exact ⟨_, hK', rfl⟩)
    refine ⟨.int .i64 (-1), ?_, by rw [HT.out]; rfl, ⟨(hB.setCell (p := ⟨w.heap.size, 0, none⟩) (Nat.le_refl _) _).trans (belowK_b (w := w) (Nat.le_refl _) _ D _ _ (by simp at hD; omega) hK' rfl rfl)⟩⟩
    simp [results, Try.f54, go_sem, hc5]
  case stop =>
    rintro D cc pre W hD ⟨k, hk, hpre⟩ ⟨⟨rfl, ini, last, rfl, e2, e3, hcr⟩, hB⟩ hK
    have HT := Lib.hid (HTB.out ini last k hpre hk e2 e3)
    gi_wp2
    refine ⟨by simp, .inl ⟨_, _, rfl, run_takeDeferred hK, ?_⟩⟩
    have hc5 := cell_kept hcr (grownBy_putObj' _ D (.deferred none)) (fun r e => by cases e; exact ⟨_, hK, rfl⟩)
    refine ⟨.int .i64 (last.1.1 : Int), ?_, ret_int (by rw [HT.out]; omega), ⟨hB.trans (belowK_b (w := w) (Nat.le_refl _) W D _ _ (by simp at hD; omega) hK rfl rfl)⟩⟩
    simp [results, Try.f54, go_sem, hc5]
end Go.Proofs.Ytjibelmncbfbjaa

/-
  What Eval of layer 2 does: the value of a polynomial, from the greatest power down. Conditions: a field that New made, no more than 2^16 coefficients.
-/
namespace Go.Proofs.Ytjibelmncbfbjaa
open Go.RowKit Go.Shelf
open Pol (co Sm trim)
attribute [local go_sem] Oper.semAt_some

/-- The value so far. -/
def hor {n : Nat} {V : Nat → Nat → Prop} (x : Nat) (pre : List (Pl n V)) : Nat := pre.foldl (fun a p => Gf.mul a x ^^^ p.1.2) 0
theorem hor_snoc {n : Nat} {V : Nat → Nat → Prop} (x : Nat) (pre : List (Pl n V)) (p : Pl n V) : hor x (pre ++ [p]) = Gf.mul (hor x pre) x ^^^ p.1.2 := by simp [hor]
theorem hor_map {n : Nat} {V : Nat → Nat → Prop} (x : Nat) : ∀ (ys : List (Pl n V)) (a : Nat), ys.foldl (fun a p => Gf.mul a x ^^^ p.1.2) a = (ys.map fun p => p.1.2).foldl (fun a v => Gf.mul a x ^^^ v) a
  | [], _ => rfl
  | p :: ys, a => by simp only [List.foldl_cons, List.map_cons]; exact hor_map x ys _
theorem downs_co (l : List Nat) : (downs l.length l.length).map (co l) = l.reverse := by
  apply List.ext_getElem
  · simp [downs]
  · intro i h1 h2
    have hi : i < l.length := by simpa [downs] using h1
    simp only [downs, List.map_map, List.getElem_map, List.getElem_range, Function.comp, List.getElem_reverse]
    unfold co
    rw [List.getElem?_eq_getElem (by omega)]
    rfl
theorem fold_ev (x : Nat) : ∀ l : List Nat, l.foldr (fun v a => Gf.mul a x ^^^ v) 0 = Pol.ev l x
  | [] => rfl
  | v :: l => by rw [List.foldr_cons, fold_ev x l, Pol.ev, Nat.xor_comm, Gf.mul_comm]
theorem hor_all (l : List Nat) (x : Nat) (ys : List (Pl l.length (Is l))) (h : ys.map (fun p => p.1.1) = downs l.length l.length) : hor x ys = Pol.ev l x := by
  unfold hor
  rw [hor_map]
  have e : (ys.map fun p => p.1.2) = l.reverse := by
    rw [← downs_co, ← h, List.map_map]
    exact List.map_congr_left fun p _ => p.2.2
  rw [e, List.foldl_reverse, fold_ev]
theorem hor_lt {n : Nat} {l : List Nat} (hl : Sm l) (x : Nat) : ∀ (ys : List (Pl n (Is l))) (a : Nat), a < 256 → ys.foldl (fun a p => Gf.mul a x ^^^ p.1.2) a < 256
  | [], _, h => h
  | p :: ys, a, _ => hor_lt hl x ys _ (Gf.xor_lt _ _ (Gf.mul_lt _ _) (by rw [show p.1.2 = co l p.1.1 from p.2.2]; exact hl _))

set_option maxRecDepth 100000 in
set_option maxHeartbeats 2000000 in
theorem peval (f : Nat) (l : List Nat) (x : Nat) (A : Option Addr) (c : Nat) (w : World) (hf : IsField w f) (hr : Rd w A l) (hx : x < 256) (hl : l.length ≤ 65536) :
    Calls Try.prog 38 #[.pointer (some ⟨f, 0, none⟩), .slice A l.length c, .int .u8 (x : Int)] w (Tells (.int .u8 ((Pol.ev l x : Nat) : Int)) w) := by
  have HEV := Lib.hid (hor_all l x)
  have HF := Lib.hid hf
  have hh := hr.has
  have hbk := hr.block
  have HSM := Lib.hid hr.1
  generalize hlen : l.length = n at *
  have HN := Lib.hid hlen
  have HH := Lib.hid hh
  have HBK := Lib.hid hbk
  clear hlen hr hh hbk hf
  refine (callsIn_wide (n := 4)).1 ?_
  refine callsIn_of_wp_marks Try.func38 rfl trivial ?_ rfl
  simp only [Try.ntmps38, List.size_toArray, List.length_cons, List.length_nil, Nat.reduceAdd, Nat.reduceSub, Array.replicate_succ, Array.replicate_zero, List.push_toArray, List.append_toArray, List.nil_append, List.cons_append]
  gi_wp2_with (refine ⟨trivial, ?_⟩; gi_at_call 48; refine (back_in _ _ _ _ _).mono ?_; rintro e w' ⟨rfl, rfl⟩)
  have b1 := Boxed.new w 28 (.pointer (some ⟨f, 0, none⟩))
  have b2 := Boxed.new (w.alloc (.cells #[.pointer (some ⟨f, 0, none⟩)] 28)) 5 (.int .u8 (x : Int))
  have b3 := Boxed.new ((w.alloc (.cells #[.pointer (some ⟨f, 0, none⟩)] 28)).alloc (.cells #[.int .u8 (x : Int)] 5)) 5 (.int .u8 0)
  have bN := Boxed.new (((w.alloc (.cells #[.pointer (some ⟨f, 0, none⟩)] 28)).alloc (.cells #[.int .u8 (x : Int)] 5)).alloc (.cells #[.int .u8 0] 5)) 22 (.slice A n c)
  simp only [World.size_alloc] at b2 b3 bN
  obtain ⟨W0, hW0⟩ : ∃ W0, (((w.alloc (.cells #[.pointer (some ⟨f, 0, none⟩)] 28)).alloc (.cells #[.int .u8 (x : Int)] 5)).alloc (.cells #[.int .u8 0] 5)).alloc (.cells #[.slice A n c] 22) = W0 := ⟨_, rfl⟩
  have hB0 : Below w.heap.size w W0 := by
    rw [← hW0]
    exact ((((Below.refl _ w).alloc (Nat.le_refl _) _).alloc (by simp) _).alloc (by simp; omega) _).alloc (by simp; omega) _
  have hsz : W0.heap.size = w.heap.size + 4 := by rw [← hW0]; simp
  have c1 := (((b1.alloc (.cells #[.int .u8 (x : Int)] 5)).alloc (.cells #[.int .u8 0] 5)).alloc (.cells #[.slice A n c] 22))
  have c2 := ((b2.alloc (.cells #[.int .u8 0] 5)).alloc (.cells #[.slice A n c] 22))
  have c3 := b3.alloc (.cells #[.slice A n c] 22)
  rw [hW0] at c1 c2 c3 bN ⊢
  have hK0 : HasA (Is l) W0 A n := fun i hi => by
    obtain ⟨b, o, v, e, hv, hc⟩ := HH.out i hi
    exact ⟨b, o, v, e, hv, (hB0.cell (p := ⟨b, o + i, none⟩) (block_lt_of_cell hc)).trans hc⟩
  have HSZ := Lib.hid hsz
  clear hsz b1 b2 b3 hW0
  refine wpIn_rangeFunc_ownG rfl (by omega) (gf := 53) (lb := #[.pointer (some ⟨w.heap.size + 1 + 1 + 1, 0, none⟩)]) rfl trivial (enters_of Try.func53 (by kernel_rfl) rfl)
    (back_stops _ (by omega) (w.heap.size + 1 + 1 + 1) n c A (Is l) (by omega) W0 (by have := HSZ.out; omega) (fun b o e h => Nat.lt_of_lt_of_le (HBK.out b o e h) hB0.size) bN.cell hK0)
    KpB.trans (KpB.put (by have := HSZ.out; omega) (fun b o e h => Nat.lt_of_lt_of_le (HBK.out b o e h) hB0.size)) (Below.refl _ _) (fun _ => rfl)
    (fun pre W => (W.cell? ⟨w.heap.size, 0, none⟩ = some (.pointer (some ⟨f, 0, none⟩)) ∧ W.cell? ⟨w.heap.size + 1, 0, none⟩ = some (.int .u8 (x : Int)) ∧ W.cell? ⟨w.heap.size + 1 + 1, 0, none⟩ = some (.int .u8 ((hor x pre : Nat) : Int)) ∧ W.frozen? ⟨w.heap.size + 1 + 1, 0, none⟩ = false) ∧ Below w.heap.size w W)
    (fun _ _ _ => False)
    (OwnFrom.and (Own.from (fun s A B row hs hg hr => ⟨cell_kept hs.1 hg hr, cell_kept hs.2.1 hg hr, cell_kept hs.2.2.1 hg hr, (frozen_kept hs.2.2.1 hg hr).trans hs.2.2.2⟩) _) (ownFrom_below (Nat.le_refl _) (by have := HSZ.out; omega)))
    (fun _ _ _ _ _ hs _ _ => hs)
    ⟨⟨c1.cell, c2.cell, c3.cell, c3.frozen⟩, hB0⟩
    (fun y => { tmps := #[.pointer (some ⟨f, 0, none⟩), .slice A n c, .int .u8 (x : Int), .pointer (some ⟨w.heap.size, 0, none⟩), undef, .pointer (some ⟨w.heap.size + 1, 0, none⟩), .int .u8 0, .pointer (some ⟨w.heap.size + 1 + 1, 0, none⟩), undef, .int .u8 (y.1.2 : Int), .slice A n c, .func (.func 53) #[] #[.pointer (some ⟨w.heap.size + 1 + 1 + 1, 0, none⟩)], .int .i64 (y.1.1 : Int), .int .u8 (y.1.2 : Int), undef, undef, undef, undef, undef, undef, undef], defers := [] }) ?assign ?body ?done ?stop
  case assign =>
    intro l x W K hK
    dsimp only [plv]
    gi_wp2
    exact hK
  case body =>
    rintro lq pre y W ⟨⟨h1, h2, h3, h4⟩, hB⟩ _
    have hyv : y.1.2 < 256 := by rw [show y.1.2 = co l y.1.1 from y.2.2]; exact HSM.out _
    have hho : hor x pre < 256 := hor_lt HSM.out x pre 0 (by omega)
    have hmul := mul_is f (hor x pre) x _ W (HF.out.ext ⟨hB⟩) hho hx rfl
    have hadd := fun u => add_is (Gf.mul (hor x pre) x) y.1.2 _ (Gf.mul_lt _ _) hyv (hor_snoc x pre y).symm u
    have HM := Lib.hid hmul
    have HA := Lib.hid hadd
    have HB := Lib.hid hB
    clear hmul hadd hB
    gi_wp2_with (first | (refine ⟨trivial, ?_⟩; gi_at_call 42; refine (CallsIn.inRound lq (callsIn_wide.2 HM.out)).mono ?_; rintro e w' ⟨rfl, nq, rfl⟩) | (refine ⟨trivial, ?_⟩; gi_at_call 27; refine (CallsIn.inRound lq (callsIn_wide.2 (HA.out _))).mono ?_; rintro e w' ⟨rfl, rfl⟩))
    refine ⟨((keeps_drewN W nq).trans (KeepsOthers.setCell _ _ _)).from _, (KpB.drewN W nq).trans (KpB.set _ _ _ _ (by omega) (fun b o e h => by have := HBK.out b o e h; omega)), ⟨?_, ?_, ?_, ?_⟩, ?_⟩
    · exact (World.cell?_setCell_other _ _ _ _ (far_block _ _ _ _ (by omega))).trans h1
    · exact (World.cell?_setCell_other _ _ _ _ (far_block _ _ _ _ (by omega))).trans h2
    · exact World.cell?_setCell_same' _ _ _ (by rw [show (W.drewN nq).cell? _ = _ from h3]; rfl)
    · rw [World.frozen?_setCell]; exact h4
    · exact ((Ext.mk HB.out).drewN nq).below.setCell (p := ⟨w.heap.size + 1 + 1, 0, none⟩) (by simp; omega) _
  case done =>
    rintro D ys W hD hys ⟨⟨h1, h2, h3, h4⟩, hB⟩ hK
    have HT := Lib.hid (HEV.out ys hys)
    gi_wp2
    refine ⟨by simp, .inl ⟨_, _, rfl, run_takeDeferred hK, ?_⟩⟩
    exact ⟨_, results_tmp rfl _ _ _, by rw [← HT.out]; rfl, ⟨hB.trans (belowK_b (w := w) (Nat.le_refl _) W D _ _ (by have := HSZ.out; omega) hK rfl rfl)⟩⟩
  case stop =>
    rintro D c pre W _ _ h _
    exact h.elim
end Go.Proofs.Ytjibelmncbfbjaa

/-
  What trimmed and Trim of layer 2 do. Conditions: no more than 2^16 coefficients.
-/
namespace Go.Proofs.Ytjibelmncbfbjaa
open Go.RowKit
open Pol (co Sm trim)

theorem trim_take (l : List Nat) : trim l = l.take (trim l).length :=
  Pol.trim_of l _ (Pol.trim_len l) (fun i hi => by rw [← Pol.co_trim]; exact Pol.co_out _ i hi) (by
    by_cases h : trim l = []
    · exact .inl (by rw [h]; rfl)
    · exact .inr (Pol.trim_last l h))
theorem Rd.trim {w : World} {A : Option Addr} {l : List Nat} (h : Rd w A l) : Rd w A (Pol.trim l) := by
  have := h.take (Pol.trim l).length
  rwa [← trim_take] at this

/-- The same slice, without the zeros at its end. -/
def Cuts (A : Option Addr) (l : List Nat) (c : Nat) (w : World) (e : Ending) (w' : World) : Prop := e = .returned (.slice A (trim l).length c) ∧ Ext w w'

set_option maxHeartbeats 400000 in
theorem ptrimmed (l : List Nat) (A : Option Addr) (c : Nat) (w : World) (hr : Rd w A l) (hc : l.length ≤ c) (hl : l.length ≤ 65536) :
    Calls Try.prog 49 #[.slice A l.length c] w (Cuts A l c w) := by
  have hd := pdegree l A c w hr hl
  have ht := Pol.trim_len l
  unfold Cuts
  generalize (trim l).length = t at *
  generalize l.length = n at *
  have HD := Lib.hid hd
  have htc : t ≤ c := by omega
  have htI : (t : Int) ≤ (c : Int) := by omega
  clear hd hr
  cases A with
  | none =>
    go_enter Try.func49, Try.ntmps49
    go_wp2_with fail
    refine HD.out.mono ?_
    rintro e w1 ⟨rfl, hx⟩
    have HX := Lib.hid hx
    clear hx
    go_wp2
    go_ret
    exact ⟨rfl, HX.out⟩
  | some a =>
    go_enter Try.func49, Try.ntmps49
    go_wp2_with fail
    refine HD.out.mono ?_
    rintro e w1 ⟨rfl, hx⟩
    have HX := Lib.hid hx
    clear hx
    go_wp2
    go_ret
    exact ⟨rfl, HX.out⟩

theorem mine_nil (w : World) (base : Nat) : Mine w base (.slice none 0 0) [] := World.ownsRow_nil w base 5 1
end Go.Proofs.Ytjibelmncbfbjaa

/-
  What Add of layer 2 does: the sum, trimmed. Conditions: no more than 2^16 coefficients.
-/
namespace Go.Proofs.Ytjibelmncbfbjaa
open Go.RowKit
open Pol (co Sm trim)

/-- The sum at a place, behind k places of b. -/
def psum (a b : List Nat) (k i : Nat) : Nat := co a i ^^^ (if i < k then co b i else 0)
theorem psum_lt {a b : List Nat} (ha : Sm a) (hb : Sm b) (k i : Nat) : psum a b k i < 256 := Gf.xor_lt _ _ (ha i) (by split; exact hb i; omega)
theorem psum_step (a b : List Nat) (k i : Nat) : upd (psum a b k) k (psum a b k k ^^^ co b k) i = psum a b (k + 1) i := by
  unfold upd psum
  by_cases h : i = k
  · subst h; rw [if_pos rfl, if_neg (by omega), if_pos (by omega), Nat.xor_zero]
  · rw [if_neg h]
    by_cases h' : i < k
    · rw [if_pos h', if_pos (by omega)]
    · rw [if_neg h', if_neg (by omega)]
theorem psum_trim (a b : List Nat) (n : Nat) (ha : a.length ≤ n) (hb : b.length ≤ n) : trim (tab n (psum a b b.length)) = trim (Pol.addP a b) := Pol.trim_ext _ _ fun i => by
  rw [co_tab, Pol.co_addP]
  unfold psum
  by_cases h : i < n
  · rw [if_pos h]
    by_cases h' : i < b.length
    · rw [if_pos h']
    · rw [if_neg h', Pol.co_out b i (by omega)]
  · rw [if_neg h, Pol.co_out a i (by omega), Pol.co_out b i (by omega)]; rfl

set_option maxHeartbeats 800000 in
set_option maxRecDepth 100000 in
theorem padd_short (a b : List Nat) (A B : Option Addr) (ca cb : Nat) (w : World) (ha : Rd w A a) (hb : Rd w B b) (hla : a.length ≤ 65536) (hlb : b.length ≤ 65536) (hlt : a.length < b.length) :
    Calls Try.prog 40 #[.slice A a.length ca, .slice B b.length cb] w (Gives (trim (Pol.addP a b)) w) := by
  have ht := psum_trim a b b.length (by omega) (by omega)
  generalize hna : a.length = na at *
  generalize hnb : b.length = nb at *
  have hmk := fun W => run_make_u8 nb (by omega) W
  have hltI : (na : Int) < (nb : Int) := by omega
  have hna' : na ≤ nb := by omega
  have hnb' : nb ≤ nb := by omega
  have HA := Lib.hid ha
  have HB := Lib.hid hb
  have HNA := Lib.hid hna
  have HNB := Lib.hid hnb
  have HT := Lib.hid ht
  clear ha hb hna hnb ht
  go_enter Try.func40, Try.ntmps40
  go_wp2_with (with_reducible refine wpList_copy_blk rfl (.tmp 13) (.tmp 14) rfl w.heap.size nb nb (fun _ => 0) rfl (Blk.new w nb _) A a na ca rfl HNA.out (HA.out.ext ((Ext.refl _).alloc _)) hna' w ((Ext.refl _).alloc _) (Nat.le_refl _) ?_; intro w1 HK0 hx0)
  have HX0 := Lib.hid hx0
  clear hx0 hmk
  go_loopg [18] nb (fun g s wx => ∃ j : Nat, j + g = nb ∧ s = .int .i64 (j : Int) ∧ Blk wx w.heap.size nb (psum a b j) ∧ Ext w wx)
  case atStart => exact ⟨0, by omega, rfl, HK0.out.congr (fun i _ => by
    unfold psum
    rw [if_neg (show ¬ i < 0 by omega), Nat.xor_zero]
    split
    · rfl
    · rw [Pol.co_out a i (by omega)]), HX0.out⟩
  case round =>
    obtain ⟨j, hjg, rfl, hblk, hx⟩ := hrel
    have HY := Lib.hid hx
    have HL := Lib.hid hblk
    clear hx hblk
    cases gk with
    | zero =>
      obtain rfl : nb = j := by omega
      clear hjg
      have hr := HL.out.reads (fun i _ => psum_lt HA.out.1 HB.out.1 nb i)
      have htr := ptrimmed (tab nb (psum a b nb)) (some ⟨w.heap.size, 0, none⟩) nb _ hr (by rw [tab_len]; exact Nat.le_refl _) (by rw [tab_len]; omega)
      have hle := Pol.trim_len (tab nb (psum a b nb))
      have hrt := hr.trim
      unfold Cuts at htr
      rw [tab_len, HT.out] at htr
      rw [tab_len, HT.out] at hle
      rw [HT.out] at hrt
      have HTR := Lib.hid htr
      have HRT := Lib.hid hrt
      have HLE := Lib.hid hle
      clear htr hr hrt hle
      go_wp2_with fail
      refine HTR.out.mono ?_
      rintro e w2 ⟨rfl, hxx⟩
      have HXX := Lib.hid hxx
      clear hxx
      go_wp2
      go_ret
      exact ⟨_, _, rfl, HLE.out, HRT.out.ext HXX.out, HY.out.trans HXX.out⟩
    | succ g =>
      have hj : j < nb := by omega
      have hjI : (j : Int) < (nb : Int) := by omega
      have hjN : (j : Int) < (nb : Int) := by omega
      obtain ⟨b1, o1, e1, hc⟩ := (HB.out.ext HY.out).2 j (by rw [HNB.out]; exact hj)
      subst e1
      have hc2 := HL.out.cell j (by omega)
      have hfz := HL.out.frozen j
      have hst := ((HL.out.drewN 1).store j (psum a b j j ^^^ co b j)).congr (f' := psum a b (j + 1)) (fun i _ => psum_step a b j i)
      have HU := Lib.hid hst
      have hext := (HY.out.drewN 1).setCell (p := ⟨w.heap.size, j, none⟩) (Nat.le_refl _) (.int .u8 ((psum a b j j ^^^ co b j : Nat) : Int))
      have HE := Lib.hid hext
      have hcm := fun W => (add_is (psum a b j j) (co b j) _ (psum_lt HA.out.1 HB.out.1 j j) (HB.out.1 j) rfl W).mono fun _ _ h => (⟨h.1, h.2.symm⟩ : _ ∧ _ = W)
      have HM := Lib.hid hcm
      clear hst hext hcm
      go_wp2
      go_still_tail 12, (by kernel_rfl)
      still_call (HM.out _)
      repeat still_step
      refine wpStill_nil ?_
      change wpList _ _ _ _ _ wr.drew
      go_wp2
      go_roundg g
      case measure => omega
      case rel => exact ⟨j + 1, by omega, by go_num, HU.out, HE.out⟩

set_option maxHeartbeats 800000 in
set_option maxRecDepth 100000 in
theorem padd_long (a b : List Nat) (A B : Option Addr) (ca cb : Nat) (w : World) (ha : Rd w A a) (hb : Rd w B b) (hla : a.length ≤ 65536) (_hlb : b.length ≤ 65536) (hlt : ¬ a.length < b.length) :
    Calls Try.prog 40 #[.slice A a.length ca, .slice B b.length cb] w (Gives (trim (Pol.addP a b)) w) := by
  have ht := psum_trim a b a.length (by omega) (by omega)
  generalize hna : a.length = na at *
  generalize hnb : b.length = nb at *
  have hmk := fun W => run_make_u8 na (by omega) W
  have hltI : ¬ (na : Int) < (nb : Int) := by omega
  have hna' : na ≤ na := by omega
  have hnb' : nb ≤ na := by omega
  have HA := Lib.hid ha
  have HB := Lib.hid hb
  have HNA := Lib.hid hna
  have HNB := Lib.hid hnb
  have HT := Lib.hid ht
  clear ha hb hna hnb ht
  go_enter Try.func40, Try.ntmps40
  go_wp2_with (with_reducible refine wpList_copy_blk rfl (.tmp 13) (.tmp 14) rfl w.heap.size na na (fun _ => 0) rfl (Blk.new w na _) A a na ca rfl HNA.out (HA.out.ext ((Ext.refl _).alloc _)) hna' w ((Ext.refl _).alloc _) (Nat.le_refl _) ?_; intro w1 HK0 hx0)
  have HX0 := Lib.hid hx0
  clear hx0 hmk
  go_loopg [18] nb (fun g s wx => ∃ j : Nat, j + g = nb ∧ s = .int .i64 (j : Int) ∧ Blk wx w.heap.size na (psum a b j) ∧ Ext w wx)
  case atStart => exact ⟨0, by omega, rfl, HK0.out.congr (fun i _ => by
    unfold psum
    rw [if_neg (show ¬ i < 0 by omega), Nat.xor_zero]
    split
    · rfl
    · rw [Pol.co_out a i (by omega)]), HX0.out⟩
  case round =>
    obtain ⟨j, hjg, rfl, hblk, hx⟩ := hrel
    have HY := Lib.hid hx
    have HL := Lib.hid hblk
    clear hx hblk
    cases gk with
    | zero =>
      obtain rfl : nb = j := by omega
      clear hjg
      have hr := HL.out.reads (fun i _ => psum_lt HA.out.1 HB.out.1 nb i)
      have htr := ptrimmed (tab na (psum a b nb)) (some ⟨w.heap.size, 0, none⟩) na _ hr (by rw [tab_len]; exact Nat.le_refl _) (by rw [tab_len]; omega)
      have hle := Pol.trim_len (tab na (psum a b nb))
      have hrt := hr.trim
      unfold Cuts at htr
      rw [tab_len, HT.out] at htr
      rw [tab_len, HT.out] at hle
      rw [HT.out] at hrt
      have HTR := Lib.hid htr
      have HRT := Lib.hid hrt
      have HLE := Lib.hid hle
      clear htr hr hrt hle
      go_wp2_with fail
      refine HTR.out.mono ?_
      rintro e w2 ⟨rfl, hxx⟩
      have HXX := Lib.hid hxx
      clear hxx
      go_wp2
      go_ret
      exact ⟨_, _, rfl, HLE.out, HRT.out.ext HXX.out, HY.out.trans HXX.out⟩
    | succ g =>
      have hj : j < nb := by omega
      have hjI : (j : Int) < (nb : Int) := by omega
      have hjN : (j : Int) < (na : Int) := by omega
      obtain ⟨b1, o1, e1, hc⟩ := (HB.out.ext HY.out).2 j (by rw [HNB.out]; exact hj)
      subst e1
      have hc2 := HL.out.cell j (by omega)
      have hfz := HL.out.frozen j
      have hst := ((HL.out.drewN 1).store j (psum a b j j ^^^ co b j)).congr (f' := psum a b (j + 1)) (fun i _ => psum_step a b j i)
      have HU := Lib.hid hst
      have hext := (HY.out.drewN 1).setCell (p := ⟨w.heap.size, j, none⟩) (Nat.le_refl _) (.int .u8 ((psum a b j j ^^^ co b j : Nat) : Int))
      have HE := Lib.hid hext
      have hcm := fun W => (add_is (psum a b j j) (co b j) _ (psum_lt HA.out.1 HB.out.1 j j) (HB.out.1 j) rfl W).mono fun _ _ h => (⟨h.1, h.2.symm⟩ : _ ∧ _ = W)
      have HM := Lib.hid hcm
      clear hst hext hcm
      go_wp2
      go_still_tail 12, (by kernel_rfl)
      still_call (HM.out _)
      repeat still_step
      refine wpStill_nil ?_
      change wpList _ _ _ _ _ wr.drew
      go_wp2
      go_roundg g
      case measure => omega
      case rel => exact ⟨j + 1, by omega, by go_num, HU.out, HE.out⟩

theorem padd (a b : List Nat) (A B : Option Addr) (ca cb : Nat) (w : World) (ha : Rd w A a) (hb : Rd w B b) (hla : a.length ≤ 65536) (hlb : b.length ≤ 65536) :
    Calls Try.prog 40 #[.slice A a.length ca, .slice B b.length cb] w (Gives (trim (Pol.addP a b)) w) := by
  by_cases h : a.length < b.length
  · exact padd_short a b A B ca cb w ha hb hla hlb h
  · exact padd_long a b A B ca cb w ha hb hla hlb h
end Go.Proofs.Ytjibelmncbfbjaa

/-
  What addMultiple of layer 2 does: a polynomial, times an element, added to a sum that lies somewhere in a block. Conditions: a field that New made, no more than 2^17 coefficients; the sum lies apart from the field and the polynomial.
-/
namespace Go.Proofs.Ytjibelmncbfbjaa
open Go.RowKit
open Pol (co Sm trim)

set_option maxHeartbeats 800000 in
set_option maxRecDepth 100000 in
theorem paddm (f : Nat) (a : List Nat) (A : Option Addr) (g o n ls cs ca t : Nat) (F : Nat → Nat) (w : World) (hf : IsField w f) (ha : Rd w A a) (ht : t < 256) (hc : Cells w g n F) (hF : ∀ i, i < n → F i < 256)
    (hfg : f ≠ g) (hag : ∀ b o, A = some ⟨b, o, none⟩ → 0 < a.length → b ≠ g) (hls : a.length ≤ ls) (hon : o + a.length ≤ n) (hlsb : ls ≤ 1048576) :
    Calls Try.prog 50 #[.pointer (some ⟨f, 0, none⟩), .slice (some ⟨g, o, none⟩) ls cs, .slice A a.length ca, .int .u8 (t : Int)] w (Turns g n (addm o t a F a.length) w) := by
  generalize hm : a.length = m at *
  have HF := Lib.hid hf
  have HA := Lib.hid ha
  have HC := Lib.hid hc
  have HFF := Lib.hid hF
  have HM := Lib.hid hm
  have HAG := Lib.hid hag
  have HFG := Lib.hid hfg
  clear hf ha hc hF hm hag hfg
  go_enter Try.func50, Try.ntmps50
  go_wp2
  go_loopg [11] m (fun gk s wx => ∃ k : Nat, k + gk = m ∧ s = .int .i64 (k : Int) ∧ Cells wx g n (addm o t a F k) ∧ w.grownBy wx (some g))
  case atStart => exact ⟨0, by omega, rfl, HC.out.congr (fun i _ => addm_zero o t a F i), World.grownBy.refl _ _⟩
  case round =>
    obtain ⟨k, hkg, rfl, hcl, hg⟩ := hrel
    have HL := Lib.hid hcl
    have HG := Lib.hid hg
    clear hcl hg
    cases gk with
    | zero =>
      obtain rfl : m = k := by omega
      clear hkg
      go_wp2
      go_end0
      exact ⟨⟨_, rfl⟩, HL.out, HG.out⟩
    | succ gk =>
      have hk : k < m := by omega
      have hkI : (k : Int) < (m : Int) := by omega
      have hkL : (k : Int) < (ls : Int) := by omega
      have hr := HA.out.keep HG.out (fun b o' e h => fun h' => HAG.out b o' e (by have := HM.out; omega) (by cases h'; rfl))
      obtain ⟨b1, o1, e1, hc1⟩ := hr.2 k (by rw [HM.out]; exact hk)
      subst e1
      have hc2 := (HL.out (o + k) (by omega)).1
      have hfz := (HL.out (o + k) (by omega)).2
      have hfield := HF.out.keep HG.out (fun h => HFG.out (by cases h; rfl))
      have hmul := fun q => mul_any f t (co a k) (wr.drewN q) (hfield.drewN q) ht (HA.out.1 k)
      have hadd := fun q => add_is (addm o t a F k (o + k)) (Gf.mul t (co a k)) _ (addm_lt HFF.out k (o + k) (by omega)) (Gf.mul_lt _ _) rfl (wr.drewN q)
      have hst := fun q => ((HL.out.drewN q).store (o + k) (addm o t a F k (o + k) ^^^ Gf.mul t (co a k))).congr (F' := addm o t a F (k + 1)) (fun i _ => addm_step o t a F k i)
      have hgg := fun q => (HG.out.trans (grown_drewN wr q _)).trans (grown_set (wr.drewN q) g (o + k) (.int .u8 ((addm o t a F k (o + k) ^^^ Gf.mul t (co a k) : Nat) : Int)))
      have HMU := Lib.hid hmul
      have HAD := Lib.hid hadd
      have HST := Lib.hid hst
      have HGG := Lib.hid hgg
      clear hmul hadd hst hgg hfield hr
      go_wp2
      refine wp_region_quiet_tail 15 (fun w' => ∃ q, w' = wr.drewN q) (by kernel_rfl) (by kernel_rfl) ⟨1, rfl⟩ ?_
      simp only [List.take_succ_cons, List.take_zero, List.drop_succ_cons, List.drop_zero]
      repeat (quiet_step (first | (go_at_call 42; exact quiet_hands (HMU.out _)) | (go_at_call 27; exact quiet_same (HAD.out _))))
      refine wpQuiet_nil ?_
      rintro _ ⟨q, rfl⟩
      go_wp2
      go_roundg gk
      case measure => omega
      case rel => exact ⟨k + 1, by omega, by go_num, HST.out q, HGG.out q⟩
end Go.Proofs.Ytjibelmncbfbjaa

/-
  What Mul of layer 2 does: the product, trimmed. Conditions: a field that New made, no more than 2^16 coefficients.
-/
namespace Go.Proofs.Ytjibelmncbfbjaa
open Go.RowKit
open Pol (co Sm trim)

theorem addm_pc (a b : List Nat) (i j : Nat) : addm i (co a i) b (Pol.pc i (co a) (co b)) b.length j = Pol.pc (i + 1) (co a) (co b) j := by
  unfold addm Pol.pc
  rw [Pol.xs]
  by_cases h : i ≤ j
  · rw [if_pos h]
    by_cases h' : j < i + b.length
    · rw [if_pos ⟨h, h'⟩]
    · rw [if_neg (by omega), Pol.co_out b (j - i) (by omega), Gf.mul_zero, Nat.xor_zero]
  · rw [if_neg h, if_neg (by omega), Nat.xor_zero]
theorem prod_tab (a b : List Nat) (ha : trim a ≠ []) (hb : trim b ≠ []) : tab ((trim a).length + (trim b).length - 1) (Pol.pc (trim a).length (co (trim a)) (co (trim b))) = trim (Pol.mulP a b) := by
  have la := List.length_pos_iff.2 ha
  have lb := List.length_pos_iff.2 hb
  have ta := Pol.top_of a ha
  have tb := Pol.top_of b hb
  have e : ∀ j, co (tab ((trim a).length + (trim b).length - 1) (Pol.pc (trim a).length (co (trim a)) (co (trim b)))) j = co (Pol.mulP a b) j := fun j => by
    rw [co_tab, ← Pol.co_mulP, Pol.mulP_congr (trim a) (trim b) a b (Pol.co_trim a) (Pol.co_trim b)]
    split
    · rfl
    · exact (Pol.mulP_above a b _ _ ta.2 tb.2 j (by omega)).symm
  rw [← Pol.trim_ext _ _ e]
  refine (Pol.trim_fix _ (.inr ?_)).symm
  rw [tab_len, e, show (trim a).length + (trim b).length - 1 - 1 = ((trim a).length - 1) + ((trim b).length - 1) from by omega, Pol.mulP_top a b _ _ ta.2 tb.2]
  exact Gf.mul_ne _ _ ta.1 tb.1
theorem prod_none (a b : List Nat) (h : trim a = [] ∨ trim b = []) : trim (Pol.mulP a b) = [] := (Pol.trim_nil_iff _).2 fun j => by
  rw [← Pol.mulP_congr (trim a) (trim b) a b (Pol.co_trim a) (Pol.co_trim b)]
  rcases h with h | h
  · rw [h]; rfl
  · rw [h]; exact Pol.mulP_nil _ j

set_option maxHeartbeats 800000 in
set_option maxRecDepth 100000 in
theorem pmul_none (f : Nat) (a b : List Nat) (A B : Option Addr) (ca cb : Nat) (w : World) (ha : Rd w A a) (hb : Rd w B b) (hca : a.length ≤ ca) (hcb : b.length ≤ cb) (hla : a.length ≤ 65536) (hlb : b.length ≤ 65536) (h : trim a = [] ∨ trim b = []) :
    Calls Try.prog 41 #[.pointer (some ⟨f, 0, none⟩), .slice A a.length ca, .slice B b.length cb] w (Gives (trim (Pol.mulP a b)) w) := by
  rw [prod_none a b h]
  have h1 := ptrimmed a A ca w ha hca hla
  have h2 := fun u (hx : Ext w u) => ptrimmed b B cb u (hb.ext hx) hcb hlb
  have h0 : (trim a).length = 0 ∨ (trim b).length = 0 := h.imp (fun e => by rw [e]; rfl) (fun e => by rw [e]; rfl)
  have hta := Pol.trim_len a
  unfold Cuts at h1 h2
  generalize (trim a).length = ta at *
  generalize (trim b).length = tb at *
  have H1 := Lib.hid h1
  have H2 := Lib.hid h2
  clear h1 h2 ha hb h
  go_enter Try.func41, Try.ntmps41
  go_wp2_with fail
  refine H1.out.mono ?_
  rintro e w1 ⟨rfl, hx1⟩
  have HX1 := Lib.hid hx1
  clear hx1
  go_wp2_with fail
  refine (H2.out w1 HX1.out).mono ?_
  rintro e w2 ⟨rfl, hx2⟩
  have HX2 := Lib.hid hx2
  clear hx2
  by_cases hz : ta = 0
  · have t1 : ((ta : Int) == 0) = true := by simp [hz]
    clear hz h0
    go_wp2
    go_ret
    exact ⟨none, 0, rfl, Nat.le_refl _, Rd.nil _ _, HX1.out.trans HX2.out⟩
  · have t1 : ((ta : Int) == 0) = false := by simp; omega
    have t2 : ((tb : Int) == 0) = true := by simp; omega
    clear hz h0
    go_wp2
    go_ret
    exact ⟨none, 0, rfl, Nat.le_refl _, Rd.nil _ _, HX1.out.trans HX2.out⟩

set_option maxHeartbeats 800000 in
set_option maxRecDepth 100000 in
theorem pmul_some (f : Nat) (a b : List Nat) (A B : Option Addr) (ca cb : Nat) (w : World) (hf : IsField w f) (ha : Rd w A a) (hb : Rd w B b) (hca : a.length ≤ ca) (hcb : b.length ≤ cb) (hla : a.length ≤ 65536) (hlb : b.length ≤ 65536) (ha0 : trim a ≠ []) (hb0 : trim b ≠ []) :
    Calls Try.prog 41 #[.pointer (some ⟨f, 0, none⟩), .slice A a.length ca, .slice B b.length cb] w (Gives (trim (Pol.mulP a b)) w) := by
  have h1 := ptrimmed a A ca w ha hca hla
  have h2 := fun u (hx : Ext w u) => ptrimmed b B cb u (hb.ext hx) hcb hlb
  have hta := Pol.trim_len a
  have htb := Pol.trim_len b
  have la := List.length_pos_iff.2 ha0
  have lb := List.length_pos_iff.2 hb0
  have hsm : Sm (trim (Pol.mulP a b)) := (Sm.mul a b).trim
  have hprod := prod_tab a b ha0 hb0
  have hda := ha.trim
  have hdb := hb.trim
  have hba := hda.block
  have hbb := hdb.block
  have hnext := addm_pc (trim a) (trim b)
  unfold Cuts at h1 h2
  generalize hra : trim a = ra at *
  generalize hrb : trim b = rb at *
  generalize hxa : ra.length = ta at *
  generalize hxb : rb.length = tb at *
  have H1 := Lib.hid h1
  have H2 := Lib.hid h2
  have HF := Lib.hid hf
  have HDA := Lib.hid hda
  have HDB := Lib.hid hdb
  have HBA := Lib.hid hba
  have HBB := Lib.hid hbb
  have HS := Lib.hid hsm
  have HP := Lib.hid hprod
  have HNX := Lib.hid hnext
  have HXA := Lib.hid hxa
  have HXB := Lib.hid hxb
  obtain ⟨N, hN⟩ : ∃ N, ta + tb - 1 = N := ⟨_, rfl⟩
  have HN := Lib.hid hN
  have hmk := fun W => run_make_u8 N (by omega) W
  have hcast : (N : Int) = (ta : Int) + (tb : Int) - 1 := by omega
  rw [hcast] at hmk
  have t1 : ((ta : Int) == 0) = false := by simp; omega
  have t2 : ((tb : Int) == 0) = false := by simp; omega
  clear h1 h2 ha hb hf hda hdb hba hbb hsm hprod hnext hxa hxb hcast hN hra hrb ha0 hb0
  go_enter Try.func41, Try.ntmps41
  go_wp2_with fail
  refine H1.out.mono ?_
  rintro e w1 ⟨rfl, hx1⟩
  have HX1 := Lib.hid hx1
  clear hx1
  go_wp2_with fail
  refine (H2.out w1 HX1.out).mono ?_
  rintro e w2 ⟨rfl, hx2⟩
  have HX2 := Lib.hid (HX1.out.trans hx2)
  clear hx2
  go_wp2
  clear hmk t1 t2
  go_loopg [30] ta (fun g s wx => ∃ i : Nat, i + g = ta ∧ s = .int .i64 (i : Int) ∧ Cells wx w2.heap.size N (Pol.pc i (co ra) (co rb)) ∧ Ext w wx)
  case atStart => exact ⟨0, by omega, rfl, ((Blk.new w2 N (fun _ => 0)).cells).congr (fun j _ => rfl), HX2.out.alloc _⟩
  case round =>
    obtain ⟨i, hig, rfl, hcl, hx⟩ := hrel
    have HX := Lib.hid hx
    have HL := Lib.hid hcl
    clear hx hcl
    cases gk with
    | zero =>
      obtain rfl : ta = i := by omega
      clear hig
      have hr := HL.out.reads (fun j _ => pc_lt _ _ _ j)
      have hlen : (trim (Pol.mulP a b)).length = N := by rw [← HP.out, tab_len]; exact HN.out
      rw [← HN.out, HP.out] at hr
      have HR := Lib.hid hr
      have HLN := Lib.hid hlen
      clear hr hlen
      go_wp2
      go_ret
      exact ⟨some ⟨w2.heap.size, 0, none⟩, N, by rw [HLN.out]; rfl, by rw [HLN.out]; exact Nat.le_refl _, HR.out, HX.out⟩
    | succ g =>
      have hi : i < ta := by omega
      have hiI : (i : Int) < (ta : Int) := by omega
      have hiN : i < N := by have := HN.out; omega
      have hiNI : (i : Int) < (N : Int) := by omega
      obtain ⟨b1, o1, e1, hc1⟩ := (HDA.out.ext HX.out).2 i (by rw [HXA.out]; exact hi)
      subst e1
      have hszw := HX2.out.size
      have hct := fun q => paddm f rb B w2.heap.size i N (N - i) (N - i) cb (co ra i) _ (wr.drewN q) ((HF.out.ext HX.out).drewN q) ((HDB.out.ext HX.out).drewN q) (HDA.out.1 i) (HL.out.drewN q) (fun j _ => pc_lt _ _ _ j)
        (by have := HF.out.lt; omega) (fun b o e h => by have := HBB.out b o e (by have := HXB.out; omega); omega) (by rw [HXB.out]; have := HN.out; omega) (by rw [HXB.out]; have := HN.out; omega) (by have := HN.out; omega)
      rw [HXB.out] at hct
      have hnx : ∀ j, addm i (co ra i) rb (Pol.pc i (co ra) (co rb)) tb j = Pol.pc (i + 1) (co ra) (co rb) j := HNX.out i
      have HNJ := Lib.hid hnx
      have hsl := fun W => run_from_u8 w2.heap.size 0 N N i (by omega) (by omega) W
      rw [Nat.zero_add] at hsl
      have HCT := Lib.hid hct
      clear hct hnx
      go_wp2
      refine wp_region_quiet_tail 9 (fun w' => ∃ q, w' = wr.drewN q) (by kernel_rfl) (by kernel_rfl) ⟨1, rfl⟩ ?_
      simp only [List.take_succ_cons, List.take_zero, List.drop_succ_cons, List.drop_zero]
      repeat (quiet_step (fail))
      refine wpQuiet_nil ?_
      rintro _ ⟨q, rfl⟩
      go_wp2_with fail
      refine (HCT.out q).mono ?_
      rintro e w4 ⟨⟨v, rfl⟩, hc4, hg4⟩
      have H4 := Lib.hid (hc4.congr (fun j _ => HNJ.out j))
      have HX4 := Lib.hid ((HX.out.drewN q).more hg4 (fun k e => by cases e; exact hszw))
      clear hc4 hg4
      go_wp2
      go_roundg g
      case measure => omega
      case rel => exact ⟨i + 1, by omega, by go_num, H4.out, HX4.out⟩

theorem pmul (f : Nat) (a b : List Nat) (A B : Option Addr) (c d : Nat) (w : World) (hf : IsField w f) (ha : Rd w A a) (hb : Rd w B b) (hca : a.length ≤ c) (hcb : b.length ≤ d) (hla : a.length ≤ 65536) (hlb : b.length ≤ 65536) :
    Calls Try.prog 41 #[.pointer (some ⟨f, 0, none⟩), .slice A a.length c, .slice B b.length d] w (Gives (trim (Pol.mulP a b)) w) := by
  by_cases h : trim a = [] ∨ trim b = []
  · exact pmul_none f a b A B c d w ha hb hca hcb hla hlb h
  · exact pmul_some f a b A B c d w hf ha hb hca hcb hla hlb (fun e => h (.inl e)) (fun e => h (.inr e))
end Go.Proofs.Ytjibelmncbfbjaa

/-
  What Div of a field does, of a field in memory and of a nil field. Conditions: none beyond the kinds of the arguments.
-/
namespace Go.Proofs.Ytjibelmncbfbjaa
open Go.RowKit

theorem div_nil (x y : Int) (w : World) : Calls Try.prog 39 #[.pointer none, .int .u8 x, .int .u8 y] w (Hands (.tuple #[.int .u8 0, .int .i64 1]) w) := by
  go_enter Try.func39, Try.ntmps39
  go_wp2
  go_ret2
  exact ⟨rfl, 0, rfl⟩
theorem div_zero (b : Nat) (x : Int) (w : World) : Calls Try.prog 39 #[.pointer (some ⟨b, 0, none⟩), .int .u8 x, .int .u8 0] w (Hands (.tuple #[.int .u8 0, .int .i64 1]) w) := by
  go_enter Try.func39, Try.ntmps39
  go_wp2
  go_ret2
  exact ⟨rfl, 0, rfl⟩
set_option maxHeartbeats 400000 in
theorem div_any (b x y : Nat) (w : World) (hf : IsField w b) (hx : x < 256) (hy : y < 256) (y0 : y ≠ 0) :
    Calls Try.prog 39 #[.pointer (some ⟨b, 0, none⟩), .int .u8 (x : Int), .int .u8 (y : Int)] w (Hands (.tuple #[.int .u8 ((Gf.quo x y : Nat) : Int), .int .i64 0]) w) := by
  have h1 : ((y : Int) == 0) = false := by simpa using y0
  by_cases x0 : x = 0
  · subst x0
    rw [show Gf.quo 0 y = 0 from rfl]
    clear hf
    go_enter Try.func39, Try.ntmps39
    go_wp2
    go_ret2
    exact ⟨rfl, 0, rfl⟩
  have h0 : ((x : Int) == 0) = false := by simpa using x0
  have c1 := hf.2 x hx
  have c2 := hf.2 y hy
  have l1 := Gf.lg_lt x
  have l2 := Gf.lg_lt y
  have c3 := hf.1 ((Gf.lg x + 255 - Gf.lg y) % 255) (by omega)
  have xI : (x : Int) < 256 := by omega
  have yI : (y : Int) < 256 := by omega
  clear hf
  go_enter Try.func39, Try.ntmps39
  go_wp2
  go_quiet (fail)
  go_wp2
  go_ret2
  exact ⟨ret_two (by unfold Gf.quo; rw [if_neg x0]), nq, rfl⟩

theorem div_is (b x y v : Nat) (w : World) (hf : IsField w b) (hx : x < 256) (hy : y < 256) (y0 : y ≠ 0) (h : Gf.quo x y = v) :
    Calls Try.prog 39 #[.pointer (some ⟨b, 0, none⟩), .int .u8 (x : Int), .int .u8 (y : Int)] w (Hands (.tuple #[.int .u8 (v : Int), .int .i64 0]) w) := h ▸ div_any b x y w hf hx hy y0
end Go.Proofs.Ytjibelmncbfbjaa

/-
  What Through of layer 2 does: the polynomial through points of which no place is there twice; else an error. Conditions: a field that New made, no more than 2^12 points.
-/
namespace Go.Proofs.Ytjibelmncbfbjaa
open Go.RowKit
open Pol (co Sm px py Apart thr trim nw ev)

/-- What Through answers. -/
def ThrPost (l : List (Nat × Nat)) (w : World) (e : Ending) (w' : World) : Prop :=
  (Apart l l.length ∧ GivesTo (thr l l.length) 0 w e w') ∨ (¬ Apart l l.length ∧ GivesTo [] 1 w e w')
/-- New blocks alone. -/
def NewW (u w : World) : Prop := Ext u w
theorem sl_nil (w : World) : Sl w (.slice none 0 0) [] := ⟨none, 0, rfl, Nat.le_refl _, Rd.nil _ _⟩

set_option maxHeartbeats 1000000 in
set_option maxRecDepth 100000 in
theorem pthrough (f : Nat) (l : List (Nat × Nat)) (A : Option Addr) (ca : Nat) (w : World) (hf : IsField w f) (ha : PRd w A l) (hl : l.length ≤ 4096) :
    Calls Try.prog 24 #[.pointer (some ⟨f, 0, none⟩), .slice A l.length ca] w (ThrPost l w) := by
  have HE := Lib.hid (fun h => Pol.nw_thr l ha.1 h)
  unfold ThrPost
  generalize hnn : l.length = n at *
  have HF := Lib.hid hf
  have HA := Lib.hid ha
  have HN := Lib.hid hnn
  have h00 : Sl ((w.alloc (.cells #[] 5)).alloc (.cells #[.int .u8 1] 5)) (.slice (some ⟨w.heap.size, 0, none⟩) 0 0) (nw l 0).1 := ⟨_, 0, rfl, Nat.le_refl _, Rd.nil _ _⟩
  have h01 : Sl ((w.alloc (.cells #[] 5)).alloc (.cells #[.int .u8 1] 5)) (.slice (some ⟨w.heap.size + 1, 0, none⟩) 1 1) (nw l 0).2 := ⟨_, 1, rfl, Nat.le_refl _, by
    have := rd_one (w.alloc (.cells #[] 5)) 1 (by omega)
    rwa [show (w.alloc (.cells #[] 5)).heap.size = w.heap.size + 1 from by simp] at this⟩
  have H00 := Lib.hid h00
  have H01 := Lib.hid h01
  clear hf ha hnn h00 h01
  go_enter Try.func24, Try.ntmps24
  go_wp2
  go_loopg [6, 7, 17] n (fun g s6 s7 s17 wx => ∃ i : Nat, i + g = n ∧ s17 = .int .i64 (i : Int) ∧ Sl wx s6 (nw l i).1 ∧ Sl wx s7 (nw l i).2 ∧ Apart l i ∧ Ext w wx)
  case atStart => exact ⟨0, by omega, rfl, H00.out, H01.out, fun i k _ h => by omega, ((Ext.refl _).alloc _).alloc _⟩
  case round =>
    obtain ⟨i, hig, rfl, ⟨P, cp, rfl, hcp, hrp⟩, ⟨Z, cz, rfl, hcz, hrz⟩, hap, hx⟩ := hrel
    have HX := Lib.hid hx
    have HP := Lib.hid hrp
    have HZ := Lib.hid hrz
    have HCP := Lib.hid hcp
    have HCZ := Lib.hid hcz
    have HAP := Lib.hid hap
    clear hx hrp hrz hcp hcz hap
    cases gk with
    | zero =>
      obtain rfl : n = i := by omega
      clear hig
      go_wp2
      go_ret2
      exact .inl ⟨HAP.out, _, rfl, by rw [← HE.out HAP.out]; exact ⟨P, cp, rfl, HCP.out, HP.out⟩, HX.out⟩
    | succ g =>
      have hi : i < n := by omega
      have hiI : (i : Int) < (n : Int) := by omega
      obtain ⟨b1, o1, e1, hcx, hcy⟩ := (HA.out.ext HX.out).2 i (by rw [HN.out]; exact hi)
      subst e1
      go_wp2
      have hsm := HA.out.1
      have hpx := (hsm i).1
      have hpy := (hsm i).2
      have hnl := Pol.nw_len l i
      have hns := Pol.nw_sm l i
      have HNL := Lib.hid hnl
      have HNS := Lib.hid hns
      have HSM := Lib.hid hsm
      obtain ⟨u1, hu1⟩ : ∃ u, wr.alloc (.cells #[.int .u8 ((px l i : Nat) : Int), .int .u8 ((py l i : Nat) : Int)] 62) = u := ⟨_, rfl⟩
      have q0 : u1.cell? ⟨wr.heap.size, 0, none⟩ = some (.int .u8 ((px l i : Nat) : Int)) := by rw [← hu1, cell_of_row _ _ _ _ _ _ (heap_alloc_new wr _)]; rfl
      have q1 : u1.cell? ⟨wr.heap.size, 1, none⟩ = some (.int .u8 ((py l i : Nat) : Int)) := by rw [← hu1, cell_of_row _ _ _ _ _ _ (heap_alloc_new wr _)]; rfl
      have hxu : Ext wr u1 := by rw [← hu1]; exact (Ext.refl _).alloc _
      rw [hu1]
      have hlt : wr.heap.size < u1.heap.size := block_lt_of_cell q0
      obtain ⟨m, hm⟩ : ∃ m, py l i ^^^ ev (nw l i).1 (px l i) = m := ⟨_, rfl⟩
      have hml : m < 256 := by rw [← hm]; exact Gf.xor_lt _ _ hpy (Pol.ev_lt _ _ hns.1)
      have hevl := Pol.ev_lt _ (px l i) hns.1
      have FX := Lib.hid (show ∀ W, NewW u1 W → W.cell? ⟨wr.heap.size, 0, none⟩ = some (.int .u8 ((px l i : Nat) : Int)) from fun W hW => (hW.below.cell (p := ⟨wr.heap.size, 0, none⟩) hlt).trans q0)
      have FY := Lib.hid (show ∀ W, NewW u1 W → W.cell? ⟨wr.heap.size, 1, none⟩ = some (.int .u8 ((py l i : Nat) : Int)) from fun W hW => (hW.below.cell (p := ⟨wr.heap.size, 1, none⟩) hlt).trans q1)
      have HXU := Lib.hid (HX.out.trans hxu)
      have HWU := Lib.hid hxu
      have FC := Lib.hid (show ∀ W, NewW u1 W → Calls Try.prog 38 #[.pointer (some ⟨f, 0, none⟩), .slice P (nw l i).1.length cp, .int .u8 ((px l i : Nat) : Int)] W (fun e w' => e = .returned (.int .u8 ((ev (nw l i).1 (px l i) : Nat) : Int)) ∧ NewW u1 w') from fun W hW =>
        (peval f (nw l i).1 (px l i) P cp W (HF.out.ext (HXU.out.trans hW)) (HP.out.ext (HWU.out.trans hW)) hpx (by omega)).mono fun _ _ h => ⟨h.1, Ext.trans hW h.2⟩)
      have FA := Lib.hid (show ∀ W, NewW u1 W → Calls Try.prog 27 #[.int .u8 ((py l i : Nat) : Int), .int .u8 ((ev (nw l i).1 (px l i) : Nat) : Int)] W (fun e w' => e = .returned (.int .u8 ((m : Nat) : Int)) ∧ NewW u1 w') from fun W hW =>
        (add_is (py l i) (ev (nw l i).1 (px l i)) m hpy hevl hm W).mono fun _ _ h => ⟨h.1, by rw [← h.2]; exact hW⟩)
      have HMM := Lib.hid hm
      clear hu1 q0 q1 hxu hm hcx hcy hnl hns hsm
      refine wp_region_quiet (C := NewW u1) (by kernel_rfl) (by kernel_rfl) (show NewW u1 u1.drew from (Ext.refl u1).drew) ?_
      repeat (first
        | (refine wpQuiet_step (fun K hK => ?_); go_simp; refine ⟨_, fun _ _ => rfl, hK _ ?_⟩; clear hK K)
        | (refine wpQuiet_step (fun K hK => ?_); go_simp; refine ⟨.int .u8 ((px l i : Nat) : Int), fun W hW => ?_, hK _ ?_⟩; (focus (have h1 := FX.out W hW; go_simp; done)); clear hK K)
        | (refine wpQuiet_step (fun K hK => ?_); go_simp; refine ⟨.int .u8 ((py l i : Nat) : Int), fun W hW => ?_, hK _ ?_⟩; (focus (have h1 := FY.out W hW; go_simp; done)); clear hK K)
        | (refine wpQuiet_step (fun K hK => ?_); go_simp; refine ⟨_, fun W hW => FC.out W hW, hK _ ?_⟩; clear hK K)
        | (refine wpQuiet_step (fun K hK => ?_); go_simp; refine ⟨_, fun W hW => FA.out W hW, hK _ ?_⟩; clear hK K))
      refine wpQuiet_nil ?_
      intro u2 hu2
      have hc2 := FX.out u2 hu2
      have hz := peval f (nw l i).2 (px l i) Z cz u2 (HF.out.ext (HXU.out.trans hu2)) (HZ.out.ext (HWU.out.trans hu2)) hpx (by have := HNL.out; omega)
      have HU2 := Lib.hid hu2
      clear hu2
      by_cases h0 : ev (nw l i).2 (px l i) = 0
      · have hna : ¬ Apart l n := Pol.apart_not l HSM.out i n hi h0
        have hz' : Calls Try.prog 38 #[.pointer (some ⟨f, 0, none⟩), .slice Z (nw l i).2.length cz, .int .u8 ((px l i : Nat) : Int)] u2 (Tells (.int .u8 0) u2) := by
          rw [h0] at hz
          exact hz
        have HZE := Lib.hid hz'
        have HNA := Lib.hid hna
        clear hz hz' hna h0
        go_wp2_with fail
        refine HZE.out.mono ?_
        rintro e u3 ⟨rfl, hx3⟩
        have HX3 := Lib.hid (HXU.out.trans (HU2.out.trans hx3))
        clear hx3
        go_wp2_with fail
        refine (div_zero f (m : Int) u3).mono ?_
        rintro e u4 ⟨rfl, q, rfl⟩
        go_wp2
        go_ret2
        exact .inr ⟨HNA.out, _, rfl, sl_nil _, HX3.out.drewN q⟩
      · have hap' := Pol.apart_next l HSM.out i HAP.out h0
        have HA2 := Lib.hid hap'
        have HZE := Lib.hid hz
        have H0 := Lib.hid h0
        have hzl : ev (nw l i).2 (px l i) < 256 := Pol.ev_lt _ _ HNS.out.2
        obtain ⟨z, hzz⟩ : ∃ z, ev (nw l i).2 (px l i) = z := ⟨_, rfl⟩
        obtain ⟨t, htt⟩ : ∃ t, Gf.quo m z = t := ⟨_, rfl⟩
        have htl : t < 256 := by rw [← htt]; exact Gf.quo_lt _ _
        have hn1 : (nw l (i + 1)).1 = trim (Pol.addP (nw l i).1 (trim (Pol.mulP (nw l i).2 [t]))) := by
          rw [nw, HMM.out, hzz, htt]
        have hn2 : (nw l (i + 1)).2 = trim (Pol.mulP (nw l i).2 [px l i, 1]) := by rw [nw]
        have HN1 := Lib.hid hn1
        have HN2 := Lib.hid hn2
        have hz0 : z ≠ 0 := by rw [← hzz]; exact h0
        rw [hzz] at hzl
        have HZZ := Lib.hid hzz
        have HTT := Lib.hid htt
        have HZ0 := Lib.hid hz0
        clear hap' hz h0 hzz htt hn1 hn2 hz0
        go_wp2_with fail
        refine HZE.out.mono ?_
        rintro e u3 ⟨he, hx3⟩
        rw [HZZ.out] at he
        subst he
        have HX3 := Lib.hid (HU2.out.trans hx3)
        clear hx3 hc2
        go_wp2_with fail
        refine (div_is f m z t u3 (HF.out.ext (HXU.out.trans HX3.out)) hml hzl HZ0.out HTT.out).mono ?_
        rintro e u4 ⟨rfl, q, rfl⟩
        have HX4 := Lib.hid (HX3.out.drewN q)
        go_wp2_with fail
        have hmu := pmul f (nw l i).2 [t] Z (some ⟨u3.heap.size, 0, none⟩) cz 1 ((u3.drewN q).alloc (.cells #[.int .u8 (t : Int)] 5)) (HF.out.ext ((HXU.out.trans HX4.out).alloc _)) (HZ.out.ext ((HWU.out.trans HX4.out).alloc _)) (rd_one (u3.drewN q) t htl) HCZ.out (by simp) (by have := HNL.out; omega) (by simp)
        refine hmu.mono ?_
        rintro e u5 ⟨B, cB, rfl, hcB, hrB, hxB⟩
        have HRB := Lib.hid hrB
        have HCB := Lib.hid hcB
        have HX5 := Lib.hid ((HX4.out.alloc _).trans hxB)
        have hlB : (trim (Pol.mulP (nw l i).2 [t])).length ≤ 65536 := by
          have h1 := Pol.trim_le (Pol.mulP (nw l i).2 [t]) (i + 1) (fun j hj => Pol.mulP_len _ _ j (by have := HNL.out; simp; omega) (by simp))
          omega
        have HLB := Lib.hid hlB
        clear hrB hcB hxB hmu hlB
        go_wp2_with fail
        refine (padd (nw l i).1 (trim (Pol.mulP (nw l i).2 [t])) P B cp cB u5 (HP.out.ext (HWU.out.trans HX5.out)) HRB.out (by have := HNL.out; omega) HLB.out).mono ?_
        rintro e u6 ⟨D, cD, rfl, hcD, hrD, hxD⟩
        have HRD := Lib.hid hrD
        have HCD := Lib.hid hcD
        have HX6 := Lib.hid (HX5.out.trans hxD)
        clear hrD hcD hxD
        have hc6 := FX.out u6 HX6.out
        go_wp2_with fail
        have hmu := pmul f (nw l i).2 [px l i, 1] Z (some ⟨u6.heap.size, 0, none⟩) cz 2 (u6.alloc (.cells #[.int .u8 ((px l i : Nat) : Int), .int .u8 1] 5)) (HF.out.ext ((HXU.out.trans HX6.out).alloc _)) (HZ.out.ext ((HWU.out.trans HX6.out).alloc _)) (rd_two u6 (px l i) 1 hpx (by omega)) HCZ.out (by simp) (by have := HNL.out; omega) (by simp)
        refine hmu.mono ?_
        rintro e u7 ⟨E, cE, rfl, hcE, hrE, hxE⟩
        have HRE := Lib.hid hrE
        have HCE := Lib.hid hcE
        have HX7 := Lib.hid ((HX6.out.alloc _).trans hxE)
        have HX67 := Lib.hid ((Ext.refl u6).alloc (.cells #[.int .u8 ((px l i : Nat) : Int), .int .u8 1] 5) |>.trans hxE)
        clear hrE hcE hxE hmu hc6
        go_wp2
        go_roundg g
        case measure => omega
        case rel => exact ⟨i + 1, by omega, by go_num, by rw [HN1.out]; exact ⟨D, cD, rfl, HCD.out, HRD.out.ext HX67.out⟩, by rw [HN2.out]; exact ⟨E, cE, rfl, HCE.out, HRE.out⟩, HA2.out, HXU.out.trans HX7.out⟩

end Go.Proofs.Ytjibelmncbfbjaa

/-
  What Remap of layer 6 does. Conditions: a field that New made, no more than 2^12 bytes and coins, no more than 2^10 participants.
-/
namespace Go.Proofs.Ytjibelmncbfbjaa
open Go.RowKit
open Pol (co Sm ev px py Apart)

/-- The remapping polynomial but for its first coefficient. -/
def t1 (T : List Nat) (l : Nat) : List Nat := tab l (fun j => co T (1 + j))
theorem t1_len (T : List Nat) (l : Nat) : (t1 T l).length = l := by unfold t1; rw [tab_len]
theorem rmF_add (s o c T : List Nat) (d i e l j : Nat) (he : i * d = e) (hl : T.length = l + 1) (hd : l ≤ d) :
    addm e (co s i ^^^ co o i) (t1 T l) (rmF s o c T d i 1) l j = rmF s o c T d (i + 1) 1 j := by
  subst he
  unfold addm
  by_cases h : i * d ≤ j ∧ j < i * d + l
  · obtain ⟨t, rfl⟩ : ∃ t, j = i * d + t := ⟨j - i * d, by omega⟩
    have ht : t < d := by omega
    rw [if_pos h]
    unfold rmF
    rw [row_div ht, row_mod ht, if_neg (by omega), if_pos (by omega)]
    unfold rmv t1
    rw [row_div ht, row_mod ht, show i * d + t - i * d = t from by omega, co_tab, if_pos (by omega), Nat.add_comm 1 t, Gf.mul_comm]
  · rw [if_neg h]
    have hj := Nat.div_add_mod j d
    unfold rmF
    by_cases h1 : j / d < i
    · rw [if_pos (.inl h1), if_pos (.inl (by omega))]
    · rw [if_neg (by omega)]
      by_cases h2 : j / d = i
      · rw [if_pos (.inl (by omega))]
        unfold rmv
        rw [h2, Nat.mul_comm] at hj
        rw [Pol.co_out T (j % d + 1) (by omega), Gf.zero_mul, Nat.xor_zero]
      · rw [if_neg (by omega)]

set_option maxHeartbeats 3200000 in
set_option maxRecDepth 100000 in
theorem j_remap_num (f ns no nc nw : Nat) (k : Int) (A B C D : Option Addr) (ca cb cc cd : Nat) (w : World) (h : ¬ RmN ns no nc k) :
    Calls Try.prog 9 #[.pointer (some ⟨f, 0, none⟩), .slice A ns ca, .slice B no cb, .slice C nc cc, .int .i64 k, .slice D nw cd] w (GivesE [] 1 w) := by
  have HC := Lib.hid (j_rem_no ns no nc k A B C ca cb cc w h)
  clear h
  go_enter Try.func9, Try.ntmps9
  go_wp2_with fail
  refine HC.out.mono ?_
  rintro e w1 ⟨rfl, q1, rfl⟩
  go_wp2
  go_ret2
  exact ⟨_, rfl, sl_none _, (Ext.refl w).drewN q1⟩
set_option maxHeartbeats 3200000 in
set_option maxRecDepth 100000 in
theorem j_remap_who (f ns no nc : Nat) (k : Int) (who : List Int) (A B C D : Option Addr) (ca cb cc cd : Nat) (w : World) (h : RmN ns no nc k) (hd : JRd w D who) (hl : who.length ≤ 1024) (hI : ∀ i, In64 (wn who i)) (hno : ¬ (WhoOk who ∧ (who.length : Int) < k)) :
    Calls Try.prog 9 #[.pointer (some ⟨f, 0, none⟩), .slice A ns ca, .slice B no cb, .slice C nc cc, .int .i64 k, .slice D who.length cd] w (GivesE [] 1 w) := by
  have HC := Lib.hid (j_rem_yes ns no nc k A B C ca cb cc w h)
  have HD := Lib.hid (fun q => j_different who D cd (w.drewN q) (hd.ext ((Ext.refl w).drewN q)) (by omega) hI)
  have HNO := Lib.hid hno
  clear h hd hI hno
  generalize who.length = nw at *
  go_enter Try.func9, Try.ntmps9
  go_wp2_with fail
  refine HC.out.mono ?_
  rintro e w1 ⟨rfl, q1, rfl⟩
  go_wp2_with fail
  refine (HD.out q1).mono ?_
  rintro e w2 (⟨hy, rfl, hx⟩ | ⟨hn, rfl, hx⟩)
  · have d6 : decide (k ≤ (nw : Int)) = true := decide_eq_true (by
      have := HNO.out
      by_cases h : (nw : Int) < k
      · exact absurd ⟨hy, h⟩ this
      · omega)
    have HX := Lib.hid (((Ext.refl w).drewN q1).trans hx)
    clear hy hx
    go_wp2
    go_ret2
    exact ⟨_, rfl, sl_none _, HX.out⟩
  · have HX := Lib.hid (((Ext.refl w).drewN q1).trans hx)
    clear hn hx
    go_wp2
    go_ret2
    exact ⟨_, rfl, sl_none _, HX.out⟩

set_option maxHeartbeats 6400000 in
set_option maxRecDepth 100000 in
theorem j_remap (f : Nat) (s o c : List Nat) (who : List Int) (d : Nat) (k : Int) (A B C D : Option Addr) (ca cb cc cd : Nat) (w : World) (hf : IsField w f) (hs : Rd w A s) (ho : Rd w B o) (hc : Rd w C c) (hd : JRd w D who) (h : RemapOk s o c k who) (hk : k = (d : Int) + 1) (hcl : c.length ≤ 1048576) :
    Calls Try.prog 9 #[.pointer (some ⟨f, 0, none⟩), .slice A s.length ca, .slice B o.length cb, .slice C c.length cc, .int .i64 k, .slice D who.length cd] w (GivesE (remap s o c d who) 0 w) := by
  obtain ⟨h1, h2, h3, h4, h5, h6, hw⟩ := h
  have hcd : c.length = s.length * d := by
    have hok : DealOk s c k 200 := ⟨h1, h2, by omega, h4, h5⟩
    exact hok.len hk
  have hI : ∀ i, In64 (wn who i) := fun i => by
    by_cases hi : i < who.length
    · have := hw i hi
      exact ⟨by omega, by omega⟩
    · unfold wn
      rw [List.getElem?_eq_none (by omega)]
      exact ⟨by decide, by decide⟩
  have HC := Lib.hid (j_rem_yes s.length o.length c.length k A B C ca cb cc w ⟨h1, h2, h3, h4, h5⟩)
  have HDI := Lib.hid (fun q => j_different who D cd (w.drewN q) (hd.ext ((Ext.refl w).drewN q)) (by omega) hI)
  have HPT := Lib.hid (fun W (hx : Ext w W) => j_points who D cd W (hd.ext hx) (by omega) hw)
  have HTH := Lib.hid (fun W X cX (hx : Ext w W) (hX : PRd W X (rpts who)) => show Calls Try.prog 24 #[.pointer (some ⟨f, 0, none⟩), .slice X (who.length + 1) cX] W (GivesTo (trn who) 0 W) from by
    have h := pthrough f (rpts who) X cX W (hf.ext hx) hX (by rw [rpts_len]; omega)
    refine Calls.mono (by rw [rpts_len] at h; exact h) ?_
    rintro e w' (⟨_, h⟩ | ⟨hn, _⟩)
    · exact h
    · exact absurd hw.apart hn)
  have d6 : decide (k ≤ (who.length : Int)) = false := decide_eq_false (by omega)
  have htl : (trn who).length ≤ d + 1 := by have := trn_len who; omega
  have hts := trn_sm hw.some
  have ht1 : 1 ≤ (trn who).length := by
    rcases Nat.eq_zero_or_pos (trn who).length with h | h
    · have h0 := trn_zero hw
      rw [List.eq_nil_of_length_eq_zero h, Pol.co_nil] at h0
      omega
    · exact h
  have HRM := Lib.hid (show remap s o c d who = tab (s.length * d) (rmv s o c (trn who) d) from rfl)
  have HWW := Lib.hid hw
  unfold RptE at HPT
  unfold WhoE at HDI
  generalize trn who = T at *
  have HF := Lib.hid hf
  have HS := Lib.hid hs
  have HOO := Lib.hid ho
  have HCC := Lib.hid hc
  have HTS := Lib.hid hts
  have HCD := Lib.hid hcd
  have e1 : IntKind.i64.wrap (k - 1) = (d : Int) := by rw [IntWalk.i64_in _ (by omega)]; omega
  have hd200 : d < 200 := by omega
  have HSO := Lib.hid h3
  clear hf hd hw h3 h5 hs ho hc hts hk hI
  generalize hn : who.length = nw at *
  clear hn
  generalize hns : s.length = ns at *
  have HNS := Lib.hid hns
  generalize hno : o.length = no at *
  have HNO := Lib.hid hno
  generalize hnc : c.length = nc at *
  have HNC := Lib.hid hnc
  clear hns hno hnc hcd
  go_enter Try.func9, Try.ntmps9
  go_wp2_with fail
  refine HC.out.mono ?_
  rintro e w1 ⟨rfl, q1, rfl⟩
  go_wp2_with fail
  refine (HDI.out q1).mono ?_
  rintro e w2 (⟨_, rfl, hx2⟩ | ⟨hn, _⟩)
  · have HX2 := Lib.hid (((Ext.refl w).drewN q1).trans hx2)
    clear hx2 HC HDI
    go_wp2_with fail
    refine (HPT.out w2 HX2.out).mono ?_
    rintro e w3 ⟨X, cX, rfl, hcX, hrX, hx3⟩
    have HX3 := Lib.hid (HX2.out.trans hx3)
    have HTT := Lib.hid (HTH.out w3 X cX (HX2.out.trans hx3) hrX)
    clear hx3 hrX HTH HPT hcX
    go_wp2_with fail
    refine HTT.out.mono ?_
    rintro e w4 ⟨v, rfl, ⟨TB, tc, rfl, htc, htr⟩, hx4⟩
    have HX4 := Lib.hid (HX3.out.trans hx4)
    obtain ⟨l1, hl1⟩ : ∃ l1, T.length = l1 + 1 := ⟨T.length - 1, by omega⟩
    obtain ⟨lt, hlt⟩ : ∃ lt, T.length = lt := ⟨_, rfl⟩
    obtain ⟨Y, hY, hYr, _⟩ := run_rest_u8 TB lt tc 1 (by omega) (by omega)
    have hY' : ∀ W, (Instr.slice 22 (.slice TB lt tc) (some (.int .i64 1)) none none).run Try.prog W = .ok (.slice Y (lt - 1) (tc - 1)) W := hY
    obtain ⟨ty, hty⟩ : ∃ ty, tc - 1 = ty := ⟨_, rfl⟩
    have hYr' := hYr w4 T htr hlt
    rw [show lt - 1 = l1 from by omega] at hY' hYr'
    rw [hty] at hY'
    have HYR := Lib.hid (show Rd w4 Y (t1 T l1) from hYr')
    have hl1d : l1 ≤ d := by omega
    have HL1 := Lib.hid hl1
    have HT1 := Lib.hid (t1_len T l1)
    have HAD := Lib.hid (fun i e j he => rmF_add s o c T d i e l1 j he hl1 hl1d)
    rw [hlt] at htl htc ht1 ⊢
    clear htr hx4 HTT hlt hY hYr hYr' hty hl1
    go_wp2_with (at_builtin; refine wpList_append_rd rfl (.const (.slice none 0 0)) (.tmp 45) rfl w4.heap.size (.slice none 0 0) [] c rfl (Mine.nil _ _) C nc cc rfl HNC.out (HCC.out.ext HX4.out) (by rw [HNC.out]; simp; omega) (by simp) ?_; intro v5 w5 hown5 hg5 hat5; rw [List.nil_append] at hown5; have hx5 := (Ext.refl w4).more hg5 (fun r e => by simp [Value.ownBlock] at e); obtain ⟨A5, c5, g5, ev5, hc5, hpos5, hcl5⟩ := hown5.cells; rw [HNC.out] at ev5 hc5 hpos5 hcl5; subst ev5; have HCL := Lib.hid hcl5; have HPOS := Lib.hid hpos5; have HX5 := Lib.hid hx5; clear hown5 hg5 hat5 hx5 hcl5 hpos5)
    go_loopg [49] ns (fun gh v49 wx => ∃ i : Nat, i + gh = ns ∧ v49 = .int .i64 (i : Int) ∧ Cells wx g5 nc (rmF s o c T d i 1) ∧ Ext w4 wx)
    case atStart => exact ⟨0, by omega, rfl, HCL.out.congr (fun j _ => rmF_start s o c T d j), HX5.out⟩
    case round =>
      obtain ⟨i, hig, rfl, hcl, hx⟩ := hrel
      have HC1 := Lib.hid hcl
      have HXI := Lib.hid hx
      clear hcl hx HCL HX5
      cases gk with
      | zero =>
        obtain rfl : i = ns := by omega
        clear hig
        go_wp2
        go_ret2
        rw [HRM.out, ← HCD.out]
        refine ⟨_, rfl, ⟨A5, c5, (show Value.slice A5 nc c5 = Value.slice A5 (tab nc (rmv s o c T d)).length c5 from by rw [tab_len]), by rw [tab_len]; exact hc5, ?_⟩, HX4.out.trans HXI.out⟩
        rcases Nat.eq_zero_or_pos nc with h0 | h0
        · subst h0
          exact Rd.nil _ _
        · obtain ⟨eA, _⟩ := HPOS.out h0
          rw [eA]
          exact (HC1.out.congr (fun j hj => rmF_end s o c T d i j (by rw [← HCD.out]; exact hj))).reads (fun j _ => rmv_lt HCC.out.1 d j)
      | succ gh =>
        have hi : i < ns := by omega
        have hiI : (i : Int) < (ns : Int) := by omega
        obtain ⟨e, he⟩ : ∃ e, i * d = e := ⟨_, rfl⟩
        have he2 : e ≤ 4096 * 200 := by rw [← he]; exact Nat.mul_le_mul (by omega) (by omega)
        have e2 : IntKind.i64.wrap ((i : Int) * (d : Int)) = (e : Int) := by rw [← Int.natCast_mul, he]; exact IntWalk.i64_in _ (by omega)
        have hed : e + d ≤ nc := by
          rw [HCD.out, ← he, ← Nat.succ_mul]
          exact Nat.mul_le_mul_right d hi
        have HADI := Lib.hid (fun j => HAD.out i e j he)
        clear he
        obtain ⟨Z, hZ, _, hZa⟩ := run_rest_u8 A5 nc c5 e (by omega) hc5
        obtain ⟨ne, hne⟩ : ∃ ne, nc - e = ne := ⟨_, rfl⟩
        obtain ⟨ce, hce⟩ : ∃ ce, c5 - e = ce := ⟨_, rfl⟩
        rw [hne, hce] at hZ
        obtain ⟨b3, o3, eS, hc3⟩ := (HS.out.ext (HX4.out.trans HXI.out)).2 i (by rw [HNS.out]; exact hi)
        obtain ⟨b4, o4, eO, hc4⟩ := (HOO.out.ext (HX4.out.trans HXI.out)).2 i (by rw [HNO.out, ← HSO.out]; exact hi)
        subst eS; subst eO
        have hiO : (i : Int) < (no : Int) := by have := HSO.out; omega
        have hb3 := HS.out.1 i
        have hb4 := HOO.out.1 i
        obtain ⟨x, hx⟩ : ∃ x, co s i ^^^ co o i = x := ⟨_, rfl⟩
        have hxb : x < 256 := by rw [← hx]; exact Gf.xor_lt _ _ hb3 hb4
        have HG := Lib.hid (fun q => add_is (co s i) (co o i) x hb3 hb4 hx (wr.drewN q))
        rw [hx] at HADI
        have HCT := Lib.hid (show ∀ q, Calls Try.prog 26 #[.pointer (some ⟨f, 0, none⟩), .slice Z ne ce, .slice Y l1 ty, .int .u8 (x : Int)] (wr.drewN q) (fun e' w' => (∃ v, e' = .returned v) ∧ Cells w' g5 nc (rmF s o c T d (i + 1) 1) ∧ Ext w4 w') from fun q => by
          rcases Nat.eq_zero_or_pos l1 with h0 | h0
          · subst h0
            refine (jaddm_none f ne ce ty (x : Int) Z Y (wr.drewN q)).mono ?_
            rintro e' w' ⟨hv, rfl⟩
            refine ⟨hv, (HC1.out.drewN q).congr (fun j _ => ?_), HXI.out.drewN q⟩
            rw [← HADI.out j]
            exact addm_zero _ _ _ _ _
          · obtain ⟨eA, hg5⟩ := HPOS.out (by omega)
            have hZ1 := hZa g5 0 (by omega) eA
            rw [Nat.zero_add] at hZ1
            subst hZ1
            have hyr := HYR.out
            have hblk := hyr.block
            have hct := jaddm f (t1 T l1) Y g5 e nc ne ce ty x _ (wr.drewN q) ((HF.out.ext (HX4.out.trans HXI.out)).drewN q) ((hyr.ext HXI.out).drewN q) hxb (HC1.out.drewN q) (fun j _ => rmF_lt HCC.out.1 d i 1 j)
              (by have := (HF.out.ext HX4.out).lt; omega) (fun b o e h => by have := hblk b o e h; omega) (by rw [HT1.out]; omega) (by rw [HT1.out]; omega) (by omega)
            rw [HT1.out] at hct
            refine hct.mono ?_
            rintro e' w' ⟨hv, hcl, hg⟩
            exact ⟨hv, hcl.congr (fun j _ => HADI.out j), (HXI.out.drewN q).more hg (fun k e => by cases e; exact hg5)⟩)
        generalize co s i = y3 at *
        generalize co o i = y4 at *
        clear hZa hne hce hx HAD
        go_wp2
        refine wp_region_quiet_tail 18 (fun w' => ∃ q, w' = wr.drewN q) (by kernel_rfl) (by kernel_rfl) ⟨1, rfl⟩ ?_
        simp only [List.take_succ_cons, List.take_zero, List.drop_succ_cons, List.drop_zero]
        repeat (quiet_step (first | (go_at_call 27; exact quiet_same (HG.out _))))
        refine wpQuiet_nil ?_
        rintro _ ⟨q, rfl⟩
        go_wp2_with fail
        refine (HCT.out q).mono ?_
        rintro e' w6 ⟨⟨v, rfl⟩, hc6, hx6⟩
        have HC6 := Lib.hid hc6
        have HX6 := Lib.hid hx6
        clear hc6 hx6
        go_wp2
        go_roundg gh
        case measure => omega
        case rel => exact ⟨i + 1, by omega, by go_num, HC6.out, HX6.out⟩
  · exact absurd HWW.out hn
end Go.Proofs.Ytjibelmncbfbjaa

/-
  What layer 6's own functions do, all together: what the laws ask of them. Conditions: a field that New made, no more than 2^12 bytes and coins, no more than 2^10 participants.
-/
namespace Go.Proofs.Ytjibelmncbfbjaa
open Go.RowKit
open Pol (co Sm ev px py Apart)

theorem blindSaid : BlindSaid where
  sealYes := fun t p A B ca cb w ha hb _ _ hl he => j_seal _ _ _ _ w (j_sum t p A B ca cb w ha hb hl he)
  sealNo := fun t p A B ca cb w _ _ _ _ _ _ he => j_seal _ _ _ _ w (j_sum_no t.length p.length A B ca cb w he)
  padYes := fun t p A B ca cb w ha hb _ _ hl he => j_pad _ _ _ _ w (j_sum t p A B ca cb w ha hb hl he)
  padNo := fun t p A B ca cb w _ _ _ _ _ _ he => j_pad _ _ _ _ w (j_sum_no t.length p.length A B ca cb w he)
  fill := fun t m A ca w hr _ h => j_fill t m A ca w hr h
  fillOdd := fun t m A ca w _ _ _ _ h => j_fill_no t.length m A ca w h
  strip := j_strip
  stripOdd := fun b A ca w _ _ _ h => j_strip_no b.length A ca w h
  remap := fun f s o c d who A B C D ca cb cc cd w hf hs ho hc hd _ _ _ _ hcl h => j_remap f s o c who d _ A B C D ca cb cc cd w hf hs ho hc hd h (by omega) (by omega)
  remapOdd := fun f s o c k who A B C D ca cb cc cd w _ _ _ _ hd _ _ _ _ _ _ hl hI _ h => by
    by_cases hn : RmN s.length o.length c.length k
    · exact j_remap_who f s.length o.length c.length k who A B C D ca cb cc cd w hn hd hl hI (fun hh => h ⟨hn.1, hn.2.1, hn.2.2.1, hn.2.2.2.1, hn.2.2.2.2, hh.2, hh.1⟩)
    · exact j_remap_num f s.length o.length c.length who.length k A B C D ca cb cc cd w hn
end Go.Proofs.Ytjibelmncbfbjaa

/-
  An argument that is a slice of bytes, or of points, reads as a list. Conditions: none.
-/
namespace Go.Proofs.Ytjibelmncbfbjaa
open Go.RowKit
open Go.ChangeShapes Go.WideShapes Go.ChangeAt
open Pol (co Sm)

section
variable {H : Type} {enc : TypeId × Value → H} {w : World} {base : Nat} {spare : Nat → Bool} {held : Bool}
theorem open_bytes {fuel len cap : Nat} {a : Option Addr} {x : DataW H × List MemPlace} (h : DataW.trod enc Try.prog w base spare held fuel 22 [.slice a len cap] = some x) :
    ∃ l : List Nat, l.length = len ∧ len ≤ cap ∧ Rd w a l := by
  rcases open_ints Try.underlying22 Try.underlying5 (by kernel_rfl) h with ⟨hcs, _⟩ | ⟨a', len', cap', zs, hcs, _, hl, _, hz, _, hcell, hwz⟩
  · simp at hcs
    obtain ⟨rfl, rfl, rfl⟩ := hcs
    exact ⟨[], rfl, Nat.le_refl _, Rd.nil _ _⟩
  · simp at hcs
    obtain ⟨rfl, rfl, rfl⟩ := hcs
    have hlz : len ≤ zs.length := by rw [hz]; split <;> omega
    have hnat : ∀ i, i < zs.length → ∃ n : Nat, zs.getD i 0 = (n : Int) ∧ n < 256 := fun i hi => by
      have hm : zs.getD i 0 ∈ zs := by rw [List.getD_eq_getElem?_getD, List.getElem?_eq_getElem hi]; exact List.getElem_mem hi
      exact nat_u8 (hwz _ hm)
    refine ⟨(List.range len).map (fun i => (zs.getD i 0).toNat), by simp, hl, ?_, fun i hi => ?_⟩
    · refine Pol.co_lt_of (fun v hv => ?_)
      obtain ⟨i, hi, rfl⟩ := List.mem_map.1 hv
      obtain ⟨n, hn, hn'⟩ := hnat i (by have := List.mem_range.1 hi; omega)
      show (zs.getD i 0).toNat < 256
      rw [hn]; omega
    · have hi' : i < len := by simpa using hi
      obtain ⟨b, o, rfl, hc⟩ := ints_at hcell (by omega)
      refine ⟨b, o, rfl, ?_⟩
      rw [hc i (by omega)]
      obtain ⟨n, hn, _⟩ := hnat i (by omega)
      congr 2
      unfold co
      rw [List.getElem?_map, List.getElem?_range hi']
      show zs.getD i 0 = (((zs.getD i 0).toNat : Nat) : Int)
      rw [hn]; omega
end
end Go.Proofs.Ytjibelmncbfbjaa

/-
  An argument that is a slice of ints reads as a list of integers. Conditions: none.
-/
namespace Go.Proofs.Ytjibelmncbfbjaa
open Go.RowKit
open Go.ChangeShapes Go.WideShapes Go.ChangeAt
open Pol (co Sm)

/-- Ints as they come in. -/
def AInt (w : World) (A : Option Addr) (l : List Int) : Prop := JRd w A l ∧ ∀ i, In64 (wn l i)
section
variable {H : Type} {enc : TypeId × Value → H} {w : World} {base : Nat} {spare : Nat → Bool} {held : Bool}
theorem open_whos {fuel len cap : Nat} {a : Option Addr} {x : DataW H × List MemPlace} (h : DataW.trod enc Try.prog w base spare held fuel 23 [.slice a len cap] = some x) :
    ∃ l : List Int, l.length = len ∧ len ≤ cap ∧ AInt w a l := by
  rcases open_ints Try.underlying23 Try.underlying3 (by kernel_rfl) h with ⟨hcs, _⟩ | ⟨a', len', cap', zs, hcs, _, hl, _, hz, _, hcell, hwz⟩
  · simp at hcs
    obtain ⟨rfl, rfl, rfl⟩ := hcs
    exact ⟨[], rfl, Nat.le_refl _, JRd.nil _ _, fun i => ⟨by simp [wn], by simp [wn]⟩⟩
  · simp at hcs
    obtain ⟨rfl, rfl, rfl⟩ := hcs
    have hlz : len ≤ zs.length := by rw [hz]; split <;> omega
    have hat : ∀ i, i < len → wn ((List.range len).map fun i => zs.getD i 0) i = zs.getD i 0 := fun i hi => by
      unfold wn
      rw [List.getElem?_map, List.getElem?_range hi]
      rfl
    refine ⟨(List.range len).map (fun i => zs.getD i 0), by simp, hl, fun i hi => ?_, fun i => ?_⟩
    · have hi' : i < len := by simpa using hi
      obtain ⟨b, o, rfl, hc⟩ := ints_at hcell (by omega)
      refine ⟨b, o, rfl, ?_⟩
      rw [hc i (by omega), hat i hi']
    · by_cases hi : i < len
      · rw [hat i hi]
        have hm : zs.getD i 0 ∈ zs := by rw [List.getD_eq_getElem?_getD, List.getElem?_eq_getElem (by omega)]; exact List.getElem_mem (by omega)
        have := bounds_i64 (hwz _ hm)
        exact ⟨by omega, by omega⟩
      · unfold wn
        rw [List.getElem?_eq_none (by simp; omega)]
        exact ⟨by decide, by decide⟩
/-- Bytes that come in take no more than the form's reach. -/
theorem bytes_reach {ts : List TypeId} {ds : List (DataW H)} {j fuel len cap : Nat} {a : Option Addr} {d : DataW H} {p : List MemPlace} (hsz : (DataW.weightsEach Try.prog ts ds).all (· ≤ reachBytes) = true) (ht : ts[j]? = some 22) (hd : ds[j]? = some d)
    (h : DataW.trod enc Try.prog w base spare held fuel 22 [.slice a len cap] = some (d, p)) : len ≤ reachBytes := by
  rcases Go.Deep.open_slice Try.underlying22 h with ⟨e, _⟩ | ⟨a2, l2, c2, m, n, D, Pl, e, _, _, _, _, hx, _⟩
  · simp at e
    obtain ⟨_, rfl, _⟩ := e
    exact Nat.zero_le _
  · simp at e
    obtain ⟨rfl, rfl, rfl⟩ := e
    injection hx with hx1 hx2
    subst hx1
    have hb := sized_slice hsz ht hd Try.underlying22
    rw [show Try.prog.bytesOf 5 = 1 from by kernel_rfl, Nat.mul_one] at hb
    simp at hb
    omega
end
end Go.Proofs.Ytjibelmncbfbjaa

/-
  Marks in a block of a call's own. Conditions: none; no function is named here.
-/
namespace Go.Proofs.Ytjibelmncbfbjaa
open Go.RowKit

/-! ### Marks -/
def Bo (w : World) (g n : Nat) (S : Nat → Bool) : Prop := ∀ i, i < n → w.cell? ⟨g, i, none⟩ = some (.bool (S i)) ∧ w.frozen? ⟨g, i, none⟩ = false
def updB (S : Nat → Bool) (k : Nat) (b : Bool) : Nat → Bool := fun i => if i = k then b else S i
theorem Bo.ext {w w' : World} {g n : Nat} {S : Nat → Bool} (h : Bo w g n S) (hx : Ext w w') : Bo w' g n S := fun i hi =>
  ⟨(hx.below.cell (p := ⟨g, i, none⟩) (block_lt_of_cell (h i hi).1)).trans (h i hi).1, (hx.below.frozen (p := ⟨g, i, none⟩) (block_lt_of_cell (h i hi).1)).trans (h i hi).2⟩
theorem Bo.keep {w w' : World} {g n : Nat} {S : Nat → Bool} {row : Option Nat} (h : Bo w g n S) (hg : w.grownBy w' row) (hne : some g ≠ row) : Bo w' g n S := fun i hi =>
  ⟨hg.cell (h i hi).1 hne, (World.frozen?_of_block (a := ⟨g, i, none⟩) (hg.block g (block_lt_of_cell (h i hi).1) hne)).trans (h i hi).2⟩
theorem Bo.store {w : World} {g n : Nat} {S : Nat → Bool} (h : Bo w g n S) (k : Nat) (b : Bool) : Bo (w.setCell ⟨g, k, none⟩ (.bool b)) g n (updB S k b) := fun i hi => by
  refine ⟨?_, by rw [World.frozen?_setCell]; exact (h i hi).2⟩
  unfold updB
  by_cases e : i = k
  · subst e
    rw [if_pos rfl]
    exact World.cell?_setCell_same' _ _ _ (by rw [(h i hi).1]; rfl)
  · rw [if_neg e, World.cell?_setCell_other _ _ _ _ (fun h => e (by cases h; rfl))]
    exact (h i hi).1
end Go.Proofs.Ytjibelmncbfbjaa

/-
  What the statements' own coinsOf and few of layer 6 do. Conditions: no more than 2^47 - 1 coins and 2^16 numbers.
-/
namespace Go.Proofs.Ytjibelmncbfbjaa
open Go.RowKit
open Pol (co Sm ev px py Apart)

/-- So many coins, whichever. -/
def CoinsE (n : Nat) (w : World) (e : Ending) (w' : World) : Prop := ∃ (c : List Nat) (B : Option Addr) (cap : Nat), e = .returned (.slice B n cap) ∧ c.length = n ∧ n ≤ cap ∧ Rd w' B c ∧ Ext w w'

set_option maxHeartbeats 1600000 in
set_option maxRecDepth 100000 in
theorem law_coins (cs : List Nat) (b k : Int) (n : Nat) (C : Option Addr) (cc : Nat) (w : World) (hc : Rd w C cs) (hcl : cs.length ≤ 140737488351232) (hn : cnum b k = (n : Int)) (hn2 : n ≤ 4096) :
    Calls Try.prog 13 #[.slice C cs.length cc, .int .i64 b, .int .i64 k] w (CoinsE n w) := by
  have HC := Lib.hid (fun u => show Calls Try.prog 29 #[.int .i64 b, .int .i64 k] u (Hands (.int .i64 (n : Int)) u) from hn ▸ ref_coins b k u)
  have HCS := Lib.hid hc
  have HSM := Lib.hid hc.1
  clear hn hc
  generalize hN : cs.length = nc at *
  have HN := Lib.hid hN
  clear hN
  go_enter Try.func13, Try.ntmps13
  go_wp2_with fail
  refine (HC.out w).mono ?_
  rintro e w1 ⟨rfl, q1, rfl⟩
  have HX1 := Lib.hid ((Ext.refl w).drewN q1)
  generalize w.drewN q1 = w1 at HX1 ⊢
  clear HC
  go_wp2_with (at_builtin; refine wpList_append_rd rfl (.tmp 12) (.tmp 13) rfl w1.heap.size _ [] cs rfl (mine_empty w1) C nc cc rfl HN.out ((HCS.out.ext HX1.out).ext ((Ext.refl _).alloc _)) (by rw [HN.out]; simp; omega) (by simp) ?_; intro v5 w5 hown5 hg5 hat5; rw [List.nil_append] at hown5; have hx5 := ((Ext.refl w1).alloc (.cells #[] 5)).more hg5 (fun r e => ((mine_empty w1).block r e).1); obtain ⟨B5, c5, ev5, hc5, _⟩ := hown5.slice HSM.out; rw [HN.out] at ev5 hc5; subst ev5; have HO := Lib.hid hown5; have HX5 := Lib.hid hx5; clear hown5 hg5 hat5 hx5)
  go_loopg [8] (n - nc) (fun gh v8 wx => ∃ (l : List Nat) (m : Nat) (B : Option Addr) (c : Nat), l.length = m ∧ gh = n - m ∧ v8 = .slice B m c ∧ m ≤ c ∧ (m : Int) ≤ 140737488351232 ∧ Mine wx w1.heap.size (.slice B m c) l ∧ Sm l ∧ Ext w1 wx)
  case atStart => exact ⟨cs, nc, B5, c5, HN.out, rfl, rfl, hc5, by omega, HO.out, HSM.out, HX5.out⟩
  case round =>
    obtain ⟨l, m, B, c, hlm, hgm, rfl, hmc, hmI, hm, hs, hx⟩ := hrel
    have HM := Lib.hid hm
    have HS := Lib.hid hs
    have HX := Lib.hid hx
    have HLM := Lib.hid hlm
    clear hm hs hx hlm
    cases gk with
    | zero =>
      have tge : decide ((m : Int) < (n : Int)) = false := decide_eq_false (by omega)
      have tge' : decide (m < n) = false := decide_eq_false (by omega)
      have sl := fun W => run_to_u8 B m c n (by omega) W
      have hnc : n ≤ c := by omega
      have hnm : n ≤ m := by omega
      obtain ⟨B', c', e', _, hr'⟩ := HM.out.slice HS.out
      injection e' with e1 e2 e3
      subst e1; subst e3
      have HTK := Lib.hid (hr'.take n)
      have HTL := Lib.hid (show (l.take n).length = n by rw [List.length_take, HLM.out]; omega)
      clear hr' e2 hgm
      go_wp2
      go_ret
      exact ⟨l.take n, B, c, rfl, HTL.out, hnc, HTK.out, HX1.out.trans HX.out⟩
    | succ gh =>
      have hmn : m < n := by omega
      have hmnI : (m : Int) < (n : Int) := by omega
      obtain ⟨y, hy⟩ : ∃ y : Nat, y = (m * 5 + 3) % 256 := ⟨_, rfl⟩
      have hy256 : y < 256 := by omega
      have ey : IntKind.u8.wrap ((m : Int) * 5 + 3) = (y : Int) := by rw [IntKind.wrap_u8]; omega
      have HL9 := Lib.hid (show (l ++ [y]).length = m + 1 by rw [List.length_append, HLM.out]; rfl)
      have HS9 := Lib.hid (show Sm (l ++ [y]) from Pol.co_lt_of fun z hz => by
        rcases List.mem_append.1 hz with h | h
        · exact HS.out.mem z h
        · rw [List.mem_singleton.1 h]; exact hy256)
      clear hy
      go_wp2_with (at_builtin; refine wpList_append_rd rfl (.tmp 19) (.tmp 25) rfl w1.heap.size _ l [y] rfl (mine_ext HM.out ((Ext.refl _).alloc _)) (some ⟨wr.heap.size, 0, none⟩) 1 1 rfl rfl (rd_one wr y hy256) (by rw [HLM.out]; simp; omega) (by simp; have := HX.out.size; omega) ?_; intro v9 w9 hown9 hg9 hat9; have hx9 := (HX.out.alloc (.cells #[.int .u8 (y : Int)] 5)).more hg9 (fun r e => (HM.out.block r e).1); obtain ⟨B9, c9, e9, hc9, _⟩ := hown9.slice HS9.out; rw [HL9.out] at e9 hc9; subst e9; have HO9 := Lib.hid hown9; have HX9 := Lib.hid hx9; clear hown9 hg9 hat9 hx9)
      go_roundg gh
      case measure => omega
      case rel => exact ⟨l ++ [y], m + 1, B9, c9, HL9.out, by omega, rfl, hc9, by omega, HO9.out, HS9.out, HX9.out⟩

/-! ### Some participants, each one's first -/
structure Few (l : List Nat) (S : Nat → Bool) : Prop where
  lt : ∀ i, i < l.length → co l i < 10
  seen : ∀ x, S x = true ↔ ∃ i, i < l.length ∧ co l i = x
  one : ∀ i k, i < l.length → k < i → co l k ≠ co l i
theorem Few.nil : Few [] (fun _ => false) := ⟨fun i hi => absurd hi (by simp), fun x => ⟨fun h => (by cases h), fun ⟨i, hi, _⟩ => absurd hi (by simp)⟩, fun i k hi => absurd hi (by simp)⟩
theorem co_append_left {a b : List Nat} {i : Nat} (h : i < a.length) : co (a ++ b) i = co a i := by unfold co; rw [List.getElem?_append_left h]
theorem co_append_last {a : List Nat} {x : Nat} : co (a ++ [x]) a.length = x := by unfold co; rw [List.getElem?_append_right (Nat.le_refl _), Nat.sub_self]; rfl
theorem Few.more {l : List Nat} {S : Nat → Bool} (h : Few l S) (x : Nat) (hx : x < 10) (hS : S x = false) : Few (l ++ [x]) (updB S x true) := by
  refine ⟨fun i hi => ?_, fun y => ?_, fun i k hi hk => ?_⟩
  · rw [List.length_append] at hi
    by_cases e : i < l.length
    · rw [co_append_left e]; exact h.lt i e
    · obtain rfl : i = l.length := by simp at hi; omega
      rw [co_append_last]; exact hx
  · unfold updB
    constructor
    · intro hy
      by_cases e : y = x
      · exact ⟨l.length, by rw [List.length_append]; simp, by rw [co_append_last, e]⟩
      · rw [if_neg e] at hy
        obtain ⟨i, hi, e'⟩ := (h.seen y).1 hy
        exact ⟨i, by rw [List.length_append]; omega, by rw [co_append_left hi]; exact e'⟩
    · rintro ⟨i, hi, e⟩
      by_cases hil : i < l.length
      · rw [co_append_left hil] at e
        by_cases e' : y = x
        · rw [if_pos e']
        · rw [if_neg e']; exact (h.seen y).2 ⟨i, hil, e⟩
      · obtain rfl : i = l.length := by rw [List.length_append] at hi; simp at hi; omega
        rw [co_append_last] at e
        rw [if_pos e.symm]
  · rw [List.length_append] at hi
    by_cases e : i < l.length
    · rw [co_append_left e, co_append_left (by omega)]; exact h.one i k e hk
    · obtain rfl : i = l.length := by simp at hi; omega
      rw [co_append_left hk, co_append_last]
      intro e'
      rw [(h.seen x).2 ⟨k, hk, e'⟩] at hS
      cases hS
theorem Few.who {l : List Nat} {S : Nat → Bool} (h : Few l S) : WhoOk (ji l) := fun i hi => by
  rw [ji_len] at hi
  have h1 := h.lt i hi
  refine ⟨by rw [wn_ji]; omega, by rw [wn_ji]; omega, fun k hk e => ?_⟩
  rw [wn_ji, wn_ji] at e
  exact h.one i k hi hk (by omega)
def FewE (k : Nat) (w : World) (e : Ending) (w' : World) : Prop := ∃ (l : List Nat) (S : Nat → Bool) (B : Option Addr) (cap : Nat), e = .returned (.slice B l.length cap) ∧ l.length < k ∧ l.length ≤ cap ∧ Few l S ∧ IRd w' B l ∧ Ext w w'

set_option maxHeartbeats 1600000 in
set_option maxRecDepth 100000 in
theorem law_few (p : List Nat) (k : Nat) (P : Option Addr) (cp : Nat) (w : World) (hp : Rd w P p) (hpl : p.length ≤ 65536) (hk : 1 ≤ k) (hk2 : k ≤ 1024) :
    Calls Try.prog 14 #[.slice P p.length cp, .int .i64 (k : Int)] w (FewE k w) := by
  have HP := Lib.hid hp
  clear hp
  unfold FewE
  generalize hN : p.length = np at *
  have HN := Lib.hid hN
  clear hN
  go_enter Try.func14, Try.ntmps14
  go_wp2
  go_loopg [5, 12] np (fun gh v5 v12 wx => ∃ (i : Nat) (l : List Nat) (S : Nat → Bool) (B : Option Addr) (m c : Nat), i + gh = np ∧ v12 = .int .i64 (i : Int) ∧ v5 = .slice B m c ∧ l.length = m ∧ m < k ∧ IMine wx (w.heap.size + 1) (.slice B m c) l ∧ Few l S ∧ Bo wx w.heap.size 10 S ∧ Ext w wx)
  case atStart => exact ⟨0, [], fun _ => false, none, 0, 0, by omega, rfl, rfl, rfl, by omega, IMine.nil _ _, Few.nil, fun i hi => ⟨by
    rw [cell_of_row _ _ _ _ _ _ (heap_alloc_new w _)]
    show (Array.replicate 10 (Value.bool false))[i]? = _
    simp [hi], frozen_of_row _ _ _ _ _ (heap_alloc_new w _)⟩, (Ext.refl _).alloc _⟩
  case round =>
    obtain ⟨i, l, S, B, m, c, hig, rfl, rfl, hlm, hmk, him, hfew, hbo, hx⟩ := hrel
    have HM := Lib.hid him
    have HF := Lib.hid hfew
    have HB := Lib.hid hbo
    have HX := Lib.hid hx
    have HLM := Lib.hid hlm
    clear him hfew hbo hx hlm
    cases gk with
    | zero =>
      obtain rfl : i = np := by omega
      clear hig
      obtain ⟨B', c', e', hc', hr'⟩ := HM.out.slice
      rw [HLM.out] at e' hc'
      injection e' with e1 e2 e3
      subst e1; subst e3
      have HR := Lib.hid hr'
      clear hr' e2
      go_wp2
      go_ret
      exact ⟨l, S, B, c, (show Ending.returned (.slice B m c) = .returned (.slice B l.length c) from by rw [HLM.out]), by rw [HLM.out]; exact hmk, by rw [HLM.out]; exact hc', HF.out, HR.out, HX.out⟩
    | succ gh =>
      have hi : i < np := by omega
      have hiI : (i : Int) < (np : Int) := by omega
      obtain ⟨b1, o1, e1, hc1⟩ := (HP.out.ext HX.out).2 i (by rw [HN.out]; exact hi)
      have hxb := HP.out.1 i
      subst e1
      obtain ⟨x, hxx⟩ : ∃ x, co p i = x := ⟨_, rfl⟩
      rw [hxx] at hc1 hxb
      obtain ⟨r, hr⟩ : ∃ r, x % 10 = r := ⟨_, rfl⟩
      have hr10 : r < 10 := by omega
      have hrI : (r : Int) < 10 := by omega
      have er : Int.tmod (x : Int) 10 = (r : Int) := by rw [Int.tmod_eq_emod_of_nonneg (by omega)]; omega
      obtain ⟨hb1, hb2⟩ := HB.out r hr10
      obtain ⟨m1, hm1⟩ : ∃ m1, m + 1 = m1 := ⟨_, rfl⟩
      have em : IntKind.i64.wrap ((m : Int) + 1) = (m1 : Int) := by rw [IntWalk.i64_in _ (by omega)]; omega
      clear hxx hr
      cases hS : S r with
      | true =>
        rw [hS] at hb1
        clear hS
        go_wp2
        go_roundg gh
        case measure => omega
        case rel => exact ⟨i + 1, l, S, B, m, c, by omega, by go_num, rfl, HLM.out, hmk, HM.out, HF.out, HB.out, HX.out⟩
      | false =>
        rw [hS] at hb1
        by_cases hlt : m1 < k
        · have t1 : decide ((m1 : Int) < (k : Int)) = true := decide_eq_true (by omega)
          have t2 : decide (m1 < k) = true := decide_eq_true hlt
          have hgn : ∀ j, (Value.slice B m c).ownBlock = some j → some j ≠ some w.heap.size := fun j hj e => by
            have := (HM.out.block j hj).1
            injection e with e
            omega
          have HM2 := Lib.hid (HM.out.keep (grown_set wr w.heap.size r (.bool true)) hgn)
          have HB2 := Lib.hid (HB.out.store r true)
          have HF2 := Lib.hid (HF.out.more r hr10 hS)
          have HX2 := Lib.hid (HX.out.setCell (p := ⟨w.heap.size, r, none⟩) (Nat.le_refl _) (.bool true))
          have HGN := Lib.hid hgn
          have HL9 := Lib.hid (show (l ++ [r]).length = m1 by rw [List.length_append, HLM.out, ← hm1]; rfl)
          have hsz : (wr.setCell ⟨w.heap.size, r, none⟩ (.bool true)).heap.size = wr.heap.size := by simp [World.setCell]
          have HSZ := Lib.hid hsz
          have HLT := Lib.hid (show w.heap.size < wr.heap.size from block_lt_of_cell hb1)
          have HCL := Lib.hid (show ((wr.setCell ⟨w.heap.size, r, none⟩ (.bool true)).alloc (.cells #[.int .i64 (r : Int)] 3)).cell? ⟨wr.heap.size, 0, none⟩ = some (.int .i64 (r : Int)) from by
            have h := heap_alloc_new (wr.setCell ⟨w.heap.size, r, none⟩ (.bool true)) (.cells #[.int .i64 (r : Int)] 3)
            rw [hsz] at h
            rw [cell_of_row _ _ _ _ _ _ h]; rfl)
          clear hgn hS hsz
          go_wp2_with (at_builtin; refine wpList_append_int rfl (.tmp 34) (.tmp 36) rfl (w.heap.size + 1) (.slice B m c) l r rfl (HM2.out.ext ((Ext.refl _).alloc _)) wr.heap.size 1 rfl HCL.out (by rw [HLM.out]; omega) (by simp; have := HLT.out; omega) ?_; intro v' w9 hown' hg' hat'; have hx9 := (HX2.out.alloc (.cells #[.int .i64 (r : Int)] 3)).more hg' (fun q e => by have := (HM.out.block q e).1; omega); have hb9 := (HB2.out.ext ((Ext.refl _).alloc (.cells #[.int .i64 (r : Int)] 3))).keep hg' (fun e => HGN.out w.heap.size e.symm rfl); obtain ⟨B9, c9, e9, hc9, _⟩ := hown'.slice; rw [HL9.out] at e9 hc9; subst e9; have HO9 := Lib.hid hown'; have HB9 := Lib.hid hb9; have HX9 := Lib.hid hx9; clear hown' hg' hat' hx9 hb9)
          go_roundg gh
          case measure => omega
          case rel => exact ⟨i + 1, l ++ [r], updB S r true, B9, m1, c9, by omega, by go_num, rfl, HL9.out, hlt, HO9.out, HF2.out, HB9.out, HX9.out⟩
        · have t1 : decide ((m1 : Int) < (k : Int)) = false := decide_eq_false (by omega)
          have t2 : decide (m1 < k) = false := decide_eq_false hlt
          clear hS
          go_wp2
          go_roundg gh
          case measure => omega
          case rel => exact ⟨i + 1, l, S, B, m, c, by omega, by go_num, rfl, HLM.out, hmk, HM.out, HF.out, HB.out, HX.out⟩
end Go.Proofs.Ytjibelmncbfbjaa

/-
  The law BlindBack, walked, under what layer 6's functions are to do. Conditions: none.
-/
namespace Go.Proofs.Ytjibelmncbfbjaa
open Go.RowKit
open Pol (co Sm ev px py Apart)

/-- Remap of shares' coins for some. -/
theorem remap_few (C : BlindSaid) (f : Nat) (s o c l : List Nat) (S : Nat → Bool) (d ns n nl : Nat) (K : Int) (A B Z L : Option Addr) (ca cb cz cl : Nat) (u : World) (hf : IsField u f) (hs : Rd u A s) (ho : Rd u B o) (hc : Rd u Z c) (hl : IRd u L l) (hfew : Few l S) (hns : s.length = ns) (hos : o.length = ns) (hn : c.length = n) (hnl : l.length = nl) (hnd : n = ns * d) (hld : nl < d + 1) (hd : d ≤ 199) (h4 : ns ≤ 4096) (hn4 : n ≤ 4096) (hK : K = (d : Int) + 1) (hca : ns ≤ ca) (hcb : ns ≤ cb) (hcz : n ≤ cz) (hcl : nl ≤ cl) :
    Calls Try.prog 9 #[.pointer (some ⟨f, 0, none⟩), .slice A ns ca, .slice B ns cb, .slice Z n cz, .int .i64 K, .slice L nl cl] u (GivesE (remap s o c d (ji l)) 0 u) := by
  subst hns; subst hn; subst hnl
  have hok : RemapOk s o c ((d + 1 : Nat) : Int) (ji l) := ⟨by omega, by omega, hos.symm, h4, by rw [show ((d + 1 : Nat) : Int) = (d : Int) + 1 from rfl, cnum_nat _ _ h4 (by omega), hnd], by rw [ji_len]; omega, hfew.who⟩
  have h := C.remap f s o c d (ji l) A B Z L ca cb cz cl u hf hs ho hc hl.ji hca (by omega) hcz (by rw [ji_len]; exact hcl) hn4 hok
  rw [ji_len, hos] at h
  rw [hK]
  exact h

set_option maxHeartbeats 1600000 in
set_option maxRecDepth 100000 in
theorem back6_big (C : BlindSaid) (A B Cc D : Option Addr) (ns no nc nw ca cb cc cd : Nat) (x : Int) (w : World)  (h : 20 < ns ∨ no < ns ∨ 9 < nw) :
    Calls Try.prog 5 #[.slice A ns ca, .slice B no cb, .slice Cc nc cc, .int .u8 x, .slice D nw cd] w (Holds w) := by
  have HAW := Lib.hid (fun u => awake6 C u)
  clear C
  by_cases h0 : 20 < ns
  · have e0 : decide ((20 : Int) < (ns : Int)) = true := decide_eq_true (by omega)
    clear h
    go_enter Try.func5, Try.ntmps5
    go_wp2_with fail
    refine (HAW.out w).mono ?_
    rintro e w1 ⟨rfl, hx1⟩
    have HX1 := Lib.hid hx1
    clear hx1
    go_wp2_with fail
    refine (HAW.out w1).mono ?_
    rintro e w2 ⟨rfl, hx2⟩
    have HX2 := Lib.hid (HX1.out.trans hx2)
    clear hx2
    go_wp2
    go_ret
    exact ⟨rfl, HX2.out⟩
  have e0 : decide ((20 : Int) < (ns : Int)) = false := decide_eq_false (by omega)
  by_cases h1 : no < ns
  · have e1 : decide ((no : Int) < (ns : Int)) = true := decide_eq_true (by omega)
    have e1' : decide (no < ns) = true := decide_eq_true h1
    clear h
    go_enter Try.func5, Try.ntmps5
    go_wp2_with fail
    refine (HAW.out w).mono ?_
    rintro e w1 ⟨rfl, hx1⟩
    have HX1 := Lib.hid hx1
    clear hx1
    go_wp2_with fail
    refine (HAW.out w1).mono ?_
    rintro e w2 ⟨rfl, hx2⟩
    have HX2 := Lib.hid (HX1.out.trans hx2)
    clear hx2
    go_wp2
    go_ret
    exact ⟨rfl, HX2.out⟩
  have e1 : decide ((no : Int) < (ns : Int)) = false := decide_eq_false (by omega)
  have e1' : decide (no < ns) = false := decide_eq_false h1
  have h2 : 9 < nw := by omega
  have e2 : decide ((9 : Int) < (nw : Int)) = true := decide_eq_true (by omega)
  clear h
  go_enter Try.func5, Try.ntmps5
  go_wp2_with fail
  refine (HAW.out w).mono ?_
  rintro e w1 ⟨rfl, hx1⟩
  have HX1 := Lib.hid hx1
  clear hx1
  go_wp2_with fail
  refine (HAW.out w1).mono ?_
  rintro e w2 ⟨rfl, hx2⟩
  have HX2 := Lib.hid (HX1.out.trans hx2)
  clear hx2
  go_wp2
  go_ret
  exact ⟨rfl, HX2.out⟩

set_option maxHeartbeats 6400000 in
set_option maxRecDepth 100000 in
theorem back6_walk (C : BlindSaid) (s o cs p : List Nat) (x : Nat) (A B Cc D : Option Addr) (ca cb cc cd : Nat) (w : World) (hs : Rd w A s) (ho : Rd w B o) (hc : Rd w Cc cs) (hp : Rd w D p) (hca : s.length ≤ ca) (hcb : o.length ≤ cb) (hcl : cs.length ≤ 140737488351232) (hx : x < 256) :
    Calls Try.prog 5 #[.slice A s.length ca, .slice B o.length cb, .slice Cc cs.length cc, .int .u8 (x : Int), .slice D p.length cd] w (Holds w) := by
  by_cases hbig : 20 < s.length ∨ o.length < s.length ∨ 9 < p.length
  · exact back6_big C A B Cc D _ _ _ _ ca cb cc cd _ w hbig
  obtain ⟨d, hd⟩ : ∃ d, x % 5 = d := ⟨_, rfl⟩
  obtain ⟨k, hk⟩ : ∃ k, 1 + d = k := ⟨_, rfl⟩
  obtain ⟨n, hn⟩ : ∃ n, s.length * d = n := ⟨_, rfl⟩
  have hn80 : n ≤ 80 := by rw [← hn]; exact Nat.le_trans (Nat.mul_le_mul (show s.length ≤ 20 by omega) (show d ≤ 4 by omega)) (by decide)
  have HAW := Lib.hid (fun u => awake6 C u)
  obtain ⟨q, hq⟩ : ∃ q, o.take s.length = q := ⟨_, rfl⟩
  have hql : q.length = s.length := by rw [← hq, List.length_take]; omega
  have HQ := Lib.hid (show Rd w B q from hq ▸ ho.take _)
  have HS := Lib.hid hs
  have sl := fun W => run_to_u8 B o.length cb s.length (by omega) W
  have HCO := Lib.hid (fun u (hu : Ext w u) => law_coins cs (s.length : Int) (k : Int) n Cc cc u (hc.ext hu) hcl (by rw [show (k : Int) = (d : Int) + 1 from by omega, cnum_nat _ _ (by omega) (by omega), hn]) (by omega))
  have HFE := Lib.hid (fun u (hu : Ext w u) => law_few p k D cd u (hp.ext hu) (by omega) (by omega) (by omega))
  have HRM := Lib.hid (fun f u (s' o' c l : List Nat) (S : Nat → Bool) (nl : Nat) (X Y Z L : Option Addr) (cx cy cz cl : Nat) (hf : IsField u f) (hs' : Rd u X s') (ho' : Rd u Y o') (hc : Rd u Z c) (hl : IRd u L l) (hfew : Few l S) (h1 : s'.length = s.length) (h2 : o'.length = s.length) (h3 : c.length = n) (h4 : l.length = nl) (h5 : nl < k) (h6 : s.length ≤ cx) (h7 : s.length ≤ cy) (h8 : n ≤ cz) (h9 : nl ≤ cl) => remap_few C f s' o' c l S d s.length n nl (k : Int) X Y Z L cx cy cz cl u hf hs' ho' hc hl hfew h1 h2 h3 h4 hn.symm (by omega) (by omega) (by omega) (by omega) (by omega) h6 h7 h8 h9)
  have e0 : decide ((20 : Int) < (s.length : Int)) = false := decide_eq_false (by omega)
  have e1 : decide ((o.length : Int) < (s.length : Int)) = false := decide_eq_false (by omega)
  have e1' : decide (o.length < s.length) = false := decide_eq_false (by omega)
  have e2 : decide ((9 : Int) < (p.length : Int)) = false := decide_eq_false (by omega)
  have eo : Int.tmod (x : Int) 5 = (d : Int) := by rw [Int.tmod_eq_emod_of_nonneg (by omega)]; omega
  have ek : IntKind.i64.wrap (1 + (d : Int)) = (k : Int) := by rw [IntWalk.i64_in _ (by omega)]; omega
  have hxI : (x : Int) < 256 := by omega
  have hk5 : k ≤ 5 := by omega
  have hns20 : s.length ≤ 20 := by omega
  have hcbn : s.length ≤ cb := by omega
  have HND := Lib.hid hn
  have HBK := Lib.hid (fun (c l : List Nat) (h : c.length = n) => remap_back (s := s) (o := q) (c := c) (d := d) (who := ji l) hql.symm (h.trans hn.symm))
  have HSF := Lib.hid (fun (c l : List Nat) (h : c.length = n) => remap_self (s := s) (c := c) (d := d) (who := ji l) (h.trans hn.symm))
  have HSA := Lib.hid (fun (c : List Nat) u X Y cx cy (hX : Rd u X c) (hY : Rd u Y c) (h : c.length = n) => show Calls Try.prog 12 #[.slice X n cx, .slice Y n cy] u (Hands (.bool true) u) from h ▸ same_true c X Y cx cy u hX hY (by omega))
  have HRL := Lib.hid (fun (c l : List Nat) => show (remap s q c d (ji l)).length = n by rw [remap_len, hn])
  generalize hns : s.length = ns at *
  have HNS := Lib.hid hns
  have HQL := Lib.hid hql
  generalize o.length = no at *
  generalize cs.length = nc at *
  generalize p.length = np at *
  clear hs ho hc hp hbig hd hk hn C hq hns hql HND
  go_enter Try.func5, Try.ntmps5
  go_wp2_with fail
  refine (HAW.out w).mono ?_
  rintro e w1 ⟨rfl, hx1⟩
  have HX1 := Lib.hid hx1
  clear hx1
  go_wp2_with fail
  refine (new_any w1).mono ?_
  rintro e w2 ⟨f, rfl, hf, _, hx2⟩
  have HF := Lib.hid hf
  have HX2 := Lib.hid (HX1.out.trans hx2)
  clear hf hx2
  go_wp2_with fail
  refine (HCO.out w2 HX2.out).mono ?_
  rintro e w3 ⟨c, R3, c3, rfl, hcl3, hc3, hr3, hx3⟩
  have HX3 := Lib.hid (HX2.out.trans hx3)
  have HF3 := Lib.hid (HF.out.ext hx3)
  have HC3 := Lib.hid hr3
  have HCL := Lib.hid hcl3
  clear hr3 hx3 hcl3
  go_wp2_with fail
  refine (HFE.out w3 HX3.out).mono ?_
  rintro e w4 ⟨l, S, R4, c4, rfl, hlk, hc4, hfew, hr4, hx4⟩
  obtain ⟨nl, hnl⟩ : ∃ nl, l.length = nl := ⟨_, rfl⟩
  rw [hnl] at hlk hc4 ⊢
  have HX4 := Lib.hid (HX3.out.trans hx4)
  have HF4 := Lib.hid (HF3.out.ext hx4)
  have HC4 := Lib.hid (HC3.out.ext hx4)
  have HL4 := Lib.hid hr4
  have HFW := Lib.hid hfew
  have HNL := Lib.hid hnl
  clear hr4 hx4 hfew hnl
  go_wp2_with fail
  refine (HRM.out f w4 s q c l S nl A B R3 R4 ca cb c3 c4 HF4.out (HS.out.ext HX4.out) (HQ.out.ext HX4.out) HC4.out HL4.out HFW.out HNS.out HQL.out HCL.out HNL.out hlk hca hcbn hc3 hc4).mono ?_
  rintro e w5 ⟨v5, rfl, ⟨R5, c5, rfl, hc5, hr5⟩, hx5⟩
  rw [HRL.out c l] at hc5 ⊢
  have HX5 := Lib.hid (HX4.out.trans hx5)
  have HF5 := Lib.hid (HF4.out.ext hx5)
  have HC5 := Lib.hid (HC4.out.ext hx5)
  have HL5 := Lib.hid (HL4.out.ext hx5)
  have HD5 := Lib.hid hr5
  clear hr5 hx5
  go_wp2_with fail
  refine (HRM.out f w5 q s (remap s q c d (ji l)) l S nl B A R5 R4 cb ca c5 c4 HF5.out (HQ.out.ext HX5.out) (HS.out.ext HX5.out) HD5.out HL5.out HFW.out HQL.out HNS.out (HRL.out c l) HNL.out hlk hcbn hca hc5 hc4).mono ?_
  rw [HBK.out c l HCL.out]
  rintro e w6 ⟨v6, rfl, ⟨R6, c6, rfl, hc6, hr6⟩, hx6⟩
  rw [HCL.out] at hc6 ⊢
  have HX6 := Lib.hid (HX5.out.trans hx6)
  have HF6 := Lib.hid (HF5.out.ext hx6)
  have HC6 := Lib.hid (HC5.out.ext hx6)
  have HL6 := Lib.hid (HL5.out.ext hx6)
  have HB6 := Lib.hid hr6
  clear hr6 hx6
  go_wp2_with fail
  refine (HRM.out f w6 s s c l S nl A A R3 R4 ca ca c3 c4 HF6.out (HS.out.ext HX6.out) (HS.out.ext HX6.out) HC6.out HL6.out HFW.out HNS.out HNS.out HCL.out HNL.out hlk hca hca hc3 hc4).mono ?_
  rw [HSF.out c l HCL.out]
  rintro e w7 ⟨v7, rfl, ⟨R7, c7, rfl, hc7, hr7⟩, hx7⟩
  rw [HCL.out] at hc7 ⊢
  have HX7 := Lib.hid (HX6.out.trans hx7)
  have HC7 := Lib.hid (HC6.out.ext hx7)
  have HB7 := Lib.hid (HB6.out.ext hx7)
  have HS7 := Lib.hid hr7
  clear hr7 hx7
  go_wp2_with fail
  refine (HSA.out c w7 R6 R3 c6 c3 HB7.out HC7.out HCL.out).mono ?_
  rintro e w8 ⟨rfl, q8, rfl⟩
  go_wp2_with fail
  refine (HSA.out c _ R7 R3 c7 c3 (HS7.out.drewN q8) (HC7.out.drewN q8) HCL.out).mono ?_
  rintro e w9 ⟨rfl, q9, rfl⟩
  go_wp2
  go_ret
  exact ⟨rfl, HX7.out.drewN (q8 + q9)⟩
end Go.Proofs.Ytjibelmncbfbjaa

/-
  What value and share of layer 5 do: a participant's value of a byte's polynomial, and all of them. Conditions: a field that New made, a secret that can be dealt.
-/
namespace Go.Proofs.Ytjibelmncbfbjaa
open Go.RowKit
open Pol (co Sm ev px py)

/-- Worlds that have all of u's blocks as they were. -/
def After (u w : World) : Prop := Ext u w

set_option maxHeartbeats 1600000 in
set_option maxRecDepth 100000 in
theorem h_value (f : Nat) (s c : List Nat) (d i p : Nat) (o : Int) (A B : Option Addr) (ca cb : Nat) (w : World) (hf : IsField w f) (hs : Rd w A s) (hc : Rd w B c) (hcb : c.length ≤ cb) (ho : o = (d : Int) + 1) (hd : d < 200) (hi : i < s.length) (hl : c.length = s.length * d) (hsl : s.length ≤ 4096) (hp : p < 200) :
    Calls Try.prog 47 #[.pointer (some ⟨f, 0, none⟩), .slice A s.length ca, .slice B c.length cb, .int .i64 o, .int .i64 (i : Int), .int .i64 (p : Int)] w (Tells (.int .u8 ((ev (pl s c d i) (p + 1) : Nat) : Int)) w) := by
  obtain ⟨a, ha⟩ : ∃ a, i * d = a := ⟨_, rfl⟩
  obtain ⟨b, hb⟩ : ∃ b, (i + 1) * d = b := ⟨_, rfl⟩
  have hbl : b ≤ c.length := by rw [hl, ← hb]; exact Nat.mul_le_mul_right d hi
  have hcl : c.length ≤ 4096 * 4096 := by rw [hl]; exact Nat.mul_le_mul hsl (by omega)
  have hab : b = a + d := by rw [← hb, ← ha, Nat.succ_mul]
  obtain ⟨X, hX, hXr⟩ := run_cut_u8 B c.length cb a b (by omega) (by omega)
  have e1 : IntKind.i64.wrap (o - 1) = (d : Int) := by rw [IntWalk.i64_in _ (by omega)]; omega
  have e2 : IntKind.i64.wrap ((i : Int) * (d : Int)) = (a : Int) := by rw [← Int.natCast_mul, ha]; exact IntWalk.i64_in _ (by omega)
  have e3 : IntKind.i64.wrap ((i : Int) + 1) = (i : Int) + 1 := IntWalk.i64_in _ (by omega)
  have e4 : IntKind.i64.wrap (((i : Int) + 1) * (d : Int)) = (b : Int) := by rw [show (i : Int) + 1 = ((i + 1 : Nat) : Int) from by omega, ← Int.natCast_mul, hb]; exact IntWalk.i64_in _ (by omega)
  obtain ⟨b1, o1, e, hc1⟩ := hs.2 i hi
  subst e
  rw [show b - a = d from by omega] at hX hXr
  have HXR := Lib.hid (hXr w c hc hbl)
  have hev : ev (pl s c d i) (p + 1) = co s i ^^^ Gf.mul (p + 1) (ev (tab d (fun j => co c (a + j))) (p + 1)) := by unfold pl; rw [ha]; rfl
  have hxb : co s i < 256 := hs.1 i
  have heb : ev (tab d (fun j => co c (a + j))) (p + 1) < 256 := Pol.ev_lt _ _ (tab_sm _ _ fun _ _ => hc.1 _)
  have HE := Lib.hid (fun (x : Nat) W (hW : Ext w W) (hx : x < 256) => show Calls Try.prog 38 #[.pointer (some ⟨f, 0, none⟩), .slice X d (cb - a), .int .u8 (x : Int)] W (Tells (.int .u8 ((ev (tab d (fun j => co c (a + j))) x : Nat) : Int)) W) from by
    have h := peval f (tab d (fun j => co c (a + j))) x X (cb - a) W (hf.ext hW) (HXR.out.ext hW) hx (by rw [tab_len]; omega)
    rwa [tab_len] at h)
  have HF := Lib.hid hf
  have HC1 := Lib.hid hc1
  have hiI : (i : Int) < (s.length : Int) := by omega
  obtain ⟨x, hx⟩ : ∃ x, co s i = x := ⟨_, rfl⟩
  obtain ⟨y, hy⟩ : ∃ y, ev (tab d (fun j => co c (a + j))) (p + 1) = y := ⟨_, rfl⟩
  obtain ⟨x1, hx1⟩ : ∃ x1, p + 1 = x1 := ⟨_, rfl⟩
  rw [hx1] at hev hy ⊢
  rw [hx, hy] at hev
  rw [hx] at hxb HC1
  have HE1 := Lib.hid (fun W (hW : Ext w W) => show Calls Try.prog 38 #[.pointer (some ⟨f, 0, none⟩), .slice X d (cb - a), .int .u8 (x1 : Int)] W (Tells (.int .u8 (y : Int)) W) from by
    have h := HE.out x1 W hW (by omega)
    rwa [hy] at h)
  have hyb : y < 256 := by rw [← hy, ← hx1]; exact heb
  have HP := Lib.hid (show Calls Try.prog 52 #[.int .i64 (p : Int)] w (Hands (.int .u8 (x1 : Int)) w) from hx1 ▸ h_pos p w hp)
  obtain ⟨z, hz⟩ : ∃ z, Gf.mul x1 y = z := ⟨_, rfl⟩
  have hzb : z < 256 := by rw [← hz]; exact Gf.mul_lt _ _
  have HM := Lib.hid (fun W (hW : Ext w W) => mul_is f x1 y z W (HF.out.ext hW) (by omega) hyb hz)
  rw [hz] at hev
  obtain ⟨r, hr⟩ : ∃ r, ev (pl s c d i) x1 = r := ⟨_, rfl⟩
  rw [hr] at hev ⊢
  have HA := Lib.hid (fun W => add_is x z r hxb hzb hev.symm W)
  obtain ⟨cc, hcc⟩ : ∃ cc, cb - a = cc := ⟨_, rfl⟩
  rw [hcc] at hX HE1
  clear hc1 hx hy hz hr hev heb hf hs hc hXr ha hb hl hab HE HXR hx1 hcc HF
  generalize s.length = n at *
  generalize c.length = m at *
  go_enter Try.func47, Try.ntmps47
  go_wp2_with fail
  refine HP.out.mono ?_
  rintro e w1 ⟨rfl, q1, rfl⟩
  have HX1 := Lib.hid ((Ext.refl w).drewN q1)
  have HC2 := Lib.hid (show (w.drewN q1).cell? ⟨b1, o1 + i, none⟩ = some (.int .u8 (x : Int)) from HC1.out)
  generalize w.drewN q1 = u at HX1 HC2 ⊢
  clear HC1 HP
  have FX := Lib.hid (show ∀ W, After u W → W.cell? ⟨b1, o1 + i, none⟩ = some (.int .u8 (x : Int)) from fun W hW => (Ext.below hW).cell (p := ⟨b1, o1 + i, none⟩) (block_lt_of_cell HC2.out) |>.trans HC2.out)
  have FE := Lib.hid (show ∀ W, After u W → Calls Try.prog 38 #[.pointer (some ⟨f, 0, none⟩), .slice X d cc, .int .u8 (x1 : Int)] W (fun e w' => e = .returned (.int .u8 (y : Int)) ∧ After u w') from fun W hW => (HE1.out W (HX1.out.trans hW)).mono fun _ _ h => ⟨h.1, Ext.trans hW h.2⟩)
  have FM := Lib.hid (show ∀ W, After u W → Calls Try.prog 42 #[.pointer (some ⟨f, 0, none⟩), .int .u8 (x1 : Int), .int .u8 (y : Int)] W (fun e w' => e = .returned (.int .u8 (z : Int)) ∧ After u w') from fun W hW => (HM.out W (HX1.out.trans hW)).mono fun _ _ h => ⟨h.1, Ext.trans hW h.tells.2⟩)
  have FA := Lib.hid (show ∀ W, After u W → Calls Try.prog 27 #[.int .u8 (x : Int), .int .u8 (z : Int)] W (fun e w' => e = .returned (.int .u8 (r : Int)) ∧ After u w') from fun W hW => (HA.out W).mono fun _ _ h => ⟨h.1, h.2 ▸ hW⟩)
  clear HE1 HM HA HC2
  go_wp2
  refine wp_region_quiet (C := After u) (by kernel_rfl) (by kernel_rfl) (show After u u.drew from (Ext.refl u).drew) ?_
  repeat (first
    | (refine wpQuiet_step (fun K hK => ?_); go_simp; refine ⟨_, fun _ _ => rfl, hK _ ?_⟩; clear hK K)
    | (refine wpQuiet_step (fun K hK => ?_); go_simp; refine ⟨.int .u8 (x : Int), fun W hW => ?_, hK _ ?_⟩; (focus (have h1 := FX.out W hW; go_simp; done)); clear hK K)
    | (refine wpQuiet_step (fun K hK => ?_); go_simp; refine ⟨_, fun W hW => FE.out W hW, hK _ ?_⟩; clear hK K)
    | (refine wpQuiet_step (fun K hK => ?_); go_simp; refine ⟨_, fun W hW => FM.out W hW, hK _ ?_⟩; clear hK K)
    | (refine wpQuiet_step (fun K hK => ?_); go_simp; refine ⟨_, fun W hW => FA.out W hW, hK _ ?_⟩; clear hK K))
  refine wpQuiet_nil ?_
  intro u2 hu2
  have HX2 := Lib.hid (HX1.out.trans hu2)
  clear hu2
  go_wp2
  go_ret
  exact ⟨rfl, HX2.out⟩
end Go.Proofs.Ytjibelmncbfbjaa

/-
  What share and Deal of layer 5 do: a participant's bytes, and all shares of a secret that can be dealt. Conditions: a field that New made, no more than 2^12 bytes and coins.
-/
namespace Go.Proofs.Ytjibelmncbfbjaa
open Go.RowKit
open Pol (co Sm ev px py)

/-- The first k values. -/
def firstk (F : Nat → Nat) (k : Nat) : Nat → Nat := fun i => if i < k then F i else 0
theorem firstk_step (F : Nat → Nat) (k : Nat) : upd (firstk F k) k (F k) = firstk F (k + 1) := by
  funext i
  unfold upd firstk
  by_cases e : i = k
  · rw [if_pos e, if_pos (by omega), e]
  · rw [if_neg e]
    by_cases h : i < k
    · rw [if_pos h, if_pos (by omega)]
    · rw [if_neg h, if_neg (by omega)]
def ShareE (n : Nat) (F : Nat → Nat) (w : World) (e : Ending) (w' : World) : Prop := e = .returned (.slice (some ⟨w.heap.size, 0, none⟩) n n) ∧ Blk w' w.heap.size n F ∧ Ext w w'

set_option maxHeartbeats 1600000 in
set_option maxRecDepth 100000 in
theorem h_share (f : Nat) (s c : List Nat) (d p : Nat) (o : Int) (A B : Option Addr) (ca cb : Nat) (w : World) (hf : IsField w f) (hs : Rd w A s) (hc : Rd w B c) (hcb : c.length ≤ cb) (ho : o = (d : Int) + 1) (hd : d < 200) (hl : c.length = s.length * d) (hsl : s.length ≤ 4096) (hp : p < 200) :
    Calls Try.prog 34 #[.pointer (some ⟨f, 0, none⟩), .slice A s.length ca, .slice B c.length cb, .int .i64 o, .int .i64 (p : Int)] w (ShareE s.length (fun i => ev (pl s c d i) (p + 1)) w) := by
  have HV := Lib.hid (fun i W (hi : i < s.length) (hW : Ext w W) => h_value f s c d i p o A B ca cb W (hf.ext hW) (hs.ext hW) (hc.ext hW) hcb ho hd hi hl hsl hp)
  unfold ShareE
  obtain ⟨F, hF⟩ : ∃ F : Nat → Nat, (fun i => ev (pl s c d i) (p + 1)) = F := ⟨_, rfl⟩
  have HVF := Lib.hid (fun i W (hi : i < s.length) (hW : Ext w W) => show Calls Try.prog 47 #[.pointer (some ⟨f, 0, none⟩), .slice A s.length ca, .slice B c.length cb, .int .i64 o, .int .i64 (i : Int), .int .i64 (p : Int)] W (Tells (.int .u8 ((F i : Nat) : Int)) W) from by
    rw [← hF]; exact HV.out i W hi hW)
  rw [hF]
  have HST := Lib.hid (firstk_step F)
  clear hf hs hc hl hF HV ho
  generalize s.length = n at *
  generalize c.length = m at *
  have hmk := fun W => run_make_u8 n (by omega) W
  go_enter Try.func34, Try.ntmps34
  go_wp2
  clear hmk
  go_loopg [18] n (fun gh s wx => ∃ k : Nat, k + gh = n ∧ s = .int .i64 (k : Int) ∧ Blk wx w.heap.size n (firstk F k) ∧ Ext w wx)
  case atStart => exact ⟨0, by omega, rfl, Blk.new w n (firstk F 0), (Ext.refl _).alloc _⟩
  case round =>
    obtain ⟨k, hkg, rfl, hblk, hx1⟩ := hrel
    have HX := Lib.hid hx1
    have HK := Lib.hid hblk
    clear hx1 hblk
    cases gk with
    | zero =>
      obtain rfl : k = n := by omega
      clear hkg
      go_wp2
      go_ret
      exact ⟨rfl, HK.out.congr (fun i hi => if_pos hi), HX.out⟩
    | succ gh =>
      have hk : k < n := by omega
      have hkI : (k : Int) < (n : Int) := by omega
      go_wp2_with fail
      refine (HVF.out k wr hk HX.out).mono ?_
      rintro e w2 ⟨rfl, hx2⟩
      have hc := (HK.out.ext hx2).cell k hk
      have hz := (HK.out.ext hx2).frozen k
      have hs := (HK.out.ext hx2).store k (F k)
      rw [HST.out k] at hs
      have HS := Lib.hid hs
      have HX2 := Lib.hid ((HX.out.trans hx2).setCell (p := ⟨w.heap.size, k, none⟩) (Nat.le_refl _) (.int .u8 ((F k : Nat) : Int)))
      clear hs hx2
      go_wp2
      go_roundg gh
      case measure => omega
      case rel => exact ⟨k + 1, by omega, by go_num, HS.out, HX2.out⟩

set_option maxHeartbeats 800000 in
set_option maxRecDepth 100000 in
theorem h_deal_odd (f : Nat) (s c : List Nat) (o m : Int) (A B : Option Addr) (ca cb : Nat) (w : World) (h : ¬ DealOk s c o m) :
    Calls Try.prog 15 #[.pointer (some ⟨f, 0, none⟩), .slice A s.length ca, .slice B c.length cb, .int .i64 o, .int .i64 m] w (GivesR [] 1 w) := by
  have HD := Lib.hid (h_dealable_no s.length c.length o m A B ca cb w h)
  clear h
  generalize s.length = n at *
  generalize c.length = k at *
  go_enter Try.func15, Try.ntmps15
  go_wp2_with fail
  refine HD.out.mono ?_
  rintro e w1 ⟨rfl, q1, rfl⟩
  go_wp2
  go_ret2
  exact ⟨_, rfl, rsl_none _, (Ext.refl w).drewN q1⟩

set_option maxHeartbeats 1600000 in
set_option maxRecDepth 100000 in
theorem h_deal (f : Nat) (s c : List Nat) (o : Int) (d n : Nat) (A B : Option Addr) (ca cb : Nat) (w : World) (hf : IsField w f) (hs : Rd w A s) (hc : Rd w B c) (hcb : c.length ≤ cb) (h : DealOk s c o (n : Int)) (ho : o = (d : Int) + 1) :
    Calls Try.prog 15 #[.pointer (some ⟨f, 0, none⟩), .slice A s.length ca, .slice B c.length cb, .int .i64 o, .int .i64 (n : Int)] w (GivesR (deal s c d n) 0 w) := by
  have HD := Lib.hid (h_dealable_yes s.length c.length o n A B ca cb w h)
  have hcl := h.len ho
  obtain ⟨h1, h2, h3, h4, h5⟩ := h
  have HS := Lib.hid (fun p W (hp : p < 200) (hW : Ext w W) => h_share f s c d p o A B ca cb W (hf.ext hW) (hs.ext hW) (hc.ext hW) hcb ho (by omega) hcl h4 hp)
  have HLT := Lib.hid (fun i x => Pol.ev_lt (pl s c d i) x (pl_sm hs.1 hc.1 d i))
  have HSL := Lib.hid (fun who => shr_len s c d who)
  have HSE := Lib.hid (fun who => show shr s c d who = tab s.length (fun i => ev (pl s c d i) (who + 1)) from rfl)
  have HDL := Lib.hid (deal_len s c d n)
  have HDR := Lib.hid (deal_ro s c d n)
  clear hf hs hc hcl h5 ho
  generalize s.length = ns at *
  generalize c.length = nc at *
  have hmr := fun W => run_make_rows n (by omega) W
  go_enter Try.func15, Try.ntmps15
  go_wp2_with fail
  refine HD.out.mono ?_
  rintro e w1 ⟨rfl, q1, rfl⟩
  have HX1 := Lib.hid ((Ext.refl w).drewN q1)
  generalize w.drewN q1 = w1 at HX1 ⊢
  clear HD
  go_wp2
  clear hmr
  go_loopg [23] n (fun gh v wx => ∃ k : Nat, k + gh = n ∧ v = .int .i64 (k : Int) ∧ RowsAt wx w1.heap.size n (shr s c d) k ∧ Ext w1 wx)
  case atStart => exact ⟨0, by omega, rfl, ⟨room_made w1 n, fun i hi => by omega⟩, (Ext.refl w1).alloc _⟩
  case round =>
    obtain ⟨k, hkg, rfl, hrow, hx⟩ := hrel
    have HR := Lib.hid hrow
    have HX := Lib.hid hx
    clear hrow hx
    cases gk with
    | zero =>
      obtain rfl : k = n := by omega
      clear hkg
      go_wp2
      go_ret2
      refine ⟨_, rfl, ⟨some ⟨w1.heap.size, 0, none⟩, k, (show Value.slice (some ⟨w1.heap.size, 0, none⟩) k k = Value.slice (some ⟨w1.heap.size, 0, none⟩) (deal s c d k).length k from by rw [HDL.out]), Nat.le_of_eq HDL.out, fun j hj => ?_⟩, HX1.out.trans HX.out⟩
      rw [HDL.out] at hj
      rw [HDR.out j hj]
      obtain ⟨B, c, h1, h2, h3, _⟩ := HR.out.row j hj
      exact ⟨w1.heap.size, 0, _, c, rfl, by rw [Nat.zero_add]; exact h1, h2, h3⟩
    | succ gh =>
      have hk : k < n := by omega
      have hkI : (k : Int) < (n : Int) := by omega
      go_wp2_with fail
      refine (HS.out k wr (by omega) (HX1.out.trans HX.out)).mono ?_
      rintro e w2 ⟨rfl, hblk, hx2⟩
      have hR := HR.out.ext hx2
      obtain ⟨⟨v0, hv0⟩, hf0⟩ := hR.room k hk
      have hgw : w1.heap.size < wr.heap.size := block_lt_of_cell (HR.out.room k hk).1.choose_spec
      have hrd := hblk.reads (fun i _ => HLT.out i (k + 1))
      rw [← HSE.out k] at hrd
      have HPUT := Lib.hid (hR.put hk (HSL.out k) (Nat.le_refl _) hrd (by omega))
      have HXP := Lib.hid ((HX.out.trans hx2).setCell (p := ⟨w1.heap.size, k, none⟩) (Nat.le_refl _) (.slice (some ⟨wr.heap.size, 0, none⟩) ns ns))
      clear hR hrd hblk hx2
      go_wp2
      go_roundg gh
      case measure => omega
      case rel => exact ⟨k + 1, by omega, by go_num, HPUT.out, HXP.out⟩
end Go.Proofs.Ytjibelmncbfbjaa

/-
  The law BlindShares, walked, under what layer 6's functions are to do. Conditions: none.
-/
namespace Go.Proofs.Ytjibelmncbfbjaa
open Go.RowKit
open Pol (co Sm ev px py Apart)

set_option maxHeartbeats 1600000 in
set_option maxRecDepth 100000 in
theorem shares6_big (C : BlindSaid) (A B Cc D : Option Addr) (ns no nc nw ca cb cc cd : Nat) (x : Int) (w : World)  (h : 20 < ns ∨ no < ns ∨ 9 < nw) :
    Calls Try.prog 4 #[.slice A ns ca, .slice B no cb, .slice Cc nc cc, .int .u8 x, .slice D nw cd] w (Holds w) := by
  have HAW := Lib.hid (fun u => awake6 C u)
  clear C
  by_cases h0 : 20 < ns
  · have e0 : decide ((20 : Int) < (ns : Int)) = true := decide_eq_true (by omega)
    clear h
    go_enter Try.func4, Try.ntmps4
    go_wp2_with fail
    refine (HAW.out w).mono ?_
    rintro e w1 ⟨rfl, hx1⟩
    have HX1 := Lib.hid hx1
    clear hx1
    go_wp2_with fail
    refine (HAW.out w1).mono ?_
    rintro e w2 ⟨rfl, hx2⟩
    have HX2 := Lib.hid (HX1.out.trans hx2)
    clear hx2
    go_wp2
    go_ret
    exact ⟨rfl, HX2.out⟩
  have e0 : decide ((20 : Int) < (ns : Int)) = false := decide_eq_false (by omega)
  by_cases h1 : no < ns
  · have e1 : decide ((no : Int) < (ns : Int)) = true := decide_eq_true (by omega)
    have e1' : decide (no < ns) = true := decide_eq_true h1
    clear h
    go_enter Try.func4, Try.ntmps4
    go_wp2_with fail
    refine (HAW.out w).mono ?_
    rintro e w1 ⟨rfl, hx1⟩
    have HX1 := Lib.hid hx1
    clear hx1
    go_wp2_with fail
    refine (HAW.out w1).mono ?_
    rintro e w2 ⟨rfl, hx2⟩
    have HX2 := Lib.hid (HX1.out.trans hx2)
    clear hx2
    go_wp2
    go_ret
    exact ⟨rfl, HX2.out⟩
  have e1 : decide ((no : Int) < (ns : Int)) = false := decide_eq_false (by omega)
  have e1' : decide (no < ns) = false := decide_eq_false h1
  have h2 : 9 < nw := by omega
  have e2 : decide ((9 : Int) < (nw : Int)) = true := decide_eq_true (by omega)
  clear h
  go_enter Try.func4, Try.ntmps4
  go_wp2_with fail
  refine (HAW.out w).mono ?_
  rintro e w1 ⟨rfl, hx1⟩
  have HX1 := Lib.hid hx1
  clear hx1
  go_wp2_with fail
  refine (HAW.out w1).mono ?_
  rintro e w2 ⟨rfl, hx2⟩
  have HX2 := Lib.hid (HX1.out.trans hx2)
  clear hx2
  go_wp2
  go_ret
  exact ⟨rfl, HX2.out⟩

set_option maxHeartbeats 6400000 in
set_option maxRecDepth 100000 in
theorem shares6_walk (C : BlindSaid) (s o cs p : List Nat) (x : Nat) (A B Cc D : Option Addr) (ca cb cc cd : Nat) (w : World) (hs : Rd w A s) (ho : Rd w B o) (hc : Rd w Cc cs) (hp : Rd w D p) (hca : s.length ≤ ca) (hcb : o.length ≤ cb) (hcl : cs.length ≤ 140737488351232) (hx : x < 256) :
    Calls Try.prog 4 #[.slice A s.length ca, .slice B o.length cb, .slice Cc cs.length cc, .int .u8 (x : Int), .slice D p.length cd] w (Holds w) := by
  by_cases hbig : 20 < s.length ∨ o.length < s.length ∨ 9 < p.length
  · exact shares6_big C A B Cc D _ _ _ _ ca cb cc cd _ w hbig
  obtain ⟨d, hd⟩ : ∃ d, x % 5 = d := ⟨_, rfl⟩
  obtain ⟨k, hk⟩ : ∃ k, 1 + d = k := ⟨_, rfl⟩
  obtain ⟨n, hn⟩ : ∃ n, s.length * d = n := ⟨_, rfl⟩
  have hn80 : n ≤ 80 := by rw [← hn]; exact Nat.le_trans (Nat.mul_le_mul (show s.length ≤ 20 by omega) (show d ≤ 4 by omega)) (by decide)
  have HAW := Lib.hid (fun u => awake6 C u)
  obtain ⟨q, hq⟩ : ∃ q, o.take s.length = q := ⟨_, rfl⟩
  have hql : q.length = s.length := by rw [← hq, List.length_take]; omega
  have HQ := Lib.hid (show Rd w B q from hq ▸ ho.take _)
  have HS := Lib.hid hs
  have sl := fun W => run_to_u8 B o.length cb s.length (by omega) W
  have HCO := Lib.hid (fun u (hu : Ext w u) => law_coins cs (s.length : Int) (k : Int) n Cc cc u (hc.ext hu) hcl (by rw [show (k : Int) = (d : Int) + 1 from by omega, cnum_nat _ _ (by omega) (by omega), hn]) (by omega))
  have HFE := Lib.hid (fun u (hu : Ext w u) => law_few p k D cd u (hp.ext hu) (by omega) (by omega) (by omega))
  have HRM := Lib.hid (fun f u (s' o' c l : List Nat) (S : Nat → Bool) (nl : Nat) (X Y Z L : Option Addr) (cx cy cz cl : Nat) (hf : IsField u f) (hs' : Rd u X s') (ho' : Rd u Y o') (hc : Rd u Z c) (hl : IRd u L l) (hfew : Few l S) (h1 : s'.length = s.length) (h2 : o'.length = s.length) (h3 : c.length = n) (h4 : l.length = nl) (h5 : nl < k) (h6 : s.length ≤ cx) (h7 : s.length ≤ cy) (h8 : n ≤ cz) (h9 : nl ≤ cl) => remap_few C f s' o' c l S d s.length n nl (k : Int) X Y Z L cx cy cz cl u hf hs' ho' hc hl hfew h1 h2 h3 h4 hn.symm (by omega) (by omega) (by omega) (by omega) (by omega) h6 h7 h8 h9)
  have e0 : decide ((20 : Int) < (s.length : Int)) = false := decide_eq_false (by omega)
  have e1 : decide ((o.length : Int) < (s.length : Int)) = false := decide_eq_false (by omega)
  have e1' : decide (o.length < s.length) = false := decide_eq_false (by omega)
  have e2 : decide ((9 : Int) < (p.length : Int)) = false := decide_eq_false (by omega)
  have eo : Int.tmod (x : Int) 5 = (d : Int) := by rw [Int.tmod_eq_emod_of_nonneg (by omega)]; omega
  have ek : IntKind.i64.wrap (1 + (d : Int)) = (k : Int) := by rw [IntWalk.i64_in _ (by omega)]; omega
  have hxI : (x : Int) < 256 := by omega
  have hk5 : k ≤ 5 := by omega
  have hns20 : s.length ≤ 20 := by omega
  have hcbn : s.length ≤ cb := by omega
  have HND := Lib.hid hn
  have HD1 := Lib.hid (fun f u (c : List Nat) (Z : Option Addr) (cz : Nat) (hf : IsField u f) (hu : Ext w u) (hZ : Rd u Z c) (h : c.length = n) (hcz : n ≤ cz) => show Calls Try.prog 15 #[.pointer (some ⟨f, 0, none⟩), .slice A s.length ca, .slice Z n cz, .int .i64 (k : Int), .int .i64 10] u (GivesR (deal s c d 10) 0 u) from by
    have hok : DealOk s c (k : Int) ((10 : Nat) : Int) := by rw [show (k : Int) = ((d + 1 : Nat) : Int) from by omega]; exact ok_nat (by omega) (by omega) (by omega) (by rw [h, hn])
    have h' := h_deal f s c (k : Int) d 10 A Z ca cz u hf (hs.ext hu) hZ (by omega) hok (by omega)
    rwa [h] at h')
  have HD2 := Lib.hid (fun f u (c : List Nat) (Z : Option Addr) (cz : Nat) (hf : IsField u f) (hu : Ext w u) (hZ : Rd u Z c) (h : c.length = n) (hcz : n ≤ cz) => show Calls Try.prog 15 #[.pointer (some ⟨f, 0, none⟩), .slice B s.length cb, .slice Z n cz, .int .i64 (k : Int), .int .i64 10] u (GivesR (deal q c d 10) 0 u) from by
    have hok : DealOk q c (k : Int) ((10 : Nat) : Int) := by rw [show (k : Int) = ((d + 1 : Nat) : Int) from by omega]; exact ok_nat (by omega) (by omega) (by omega) (by rw [h, hql, hn])
    have h' := h_deal f q c (k : Int) d 10 B Z cb cz u hf (HQ.out.ext hu) hZ (by omega) hok (by omega)
    rwa [h, hql] at h')
  have HEQ := Lib.hid (fun (c l : List Nat) (S : Nat → Bool) (hcs : Sm c) (hfew : Few l S) (hl : l.length ≤ d) i (hi : i < l.length) => show ro (deal q (remap s q c d (ji l)) d 10) (co l i) = ro (deal s c d 10) (co l i) from by
    have h10 := hfew.lt i hi
    rw [deal_ro _ _ _ _ _ h10, deal_ro _ _ _ _ _ h10]
    have h := remap_shr (s := s) (o := q) (c := c) (d := d) (who := ji l) hfew.who (by rw [ji_len]; exact hl) hs.1 HQ.out.1 hcs hql.symm i (by rw [ji_len]; exact hi)
    rwa [wn_ji, Int.toNat_natCast] at h)
  have HROL := Lib.hid (fun (c : List Nat) i (hi : i < 10) => show (ro (deal s c d 10) i).length = s.length by rw [deal_ro _ _ _ _ _ hi, shr_len])
  have HDL1 := Lib.hid (fun (c : List Nat) => deal_len s c d 10)
  have HDL2 := Lib.hid (fun (c : List Nat) => deal_len q c d 10)
  have HDK := Lib.hid (show ∀ m, m < k → m ≤ d from fun m hm => by omega)
  have HRL := Lib.hid (fun (c l : List Nat) => show (remap s q c d (ji l)).length = n by rw [remap_len, hn])
  generalize hns : s.length = ns at *
  have HNS := Lib.hid hns
  have HQL := Lib.hid hql
  generalize o.length = no at *
  generalize cs.length = nc at *
  generalize p.length = np at *
  clear hs ho hc hp hbig hd hk hn C hq hns hql HND
  go_enter Try.func4, Try.ntmps4
  go_wp2_with fail
  refine (HAW.out w).mono ?_
  rintro e w1 ⟨rfl, hx1⟩
  have HX1 := Lib.hid hx1
  clear hx1
  go_wp2_with fail
  refine (new_any w1).mono ?_
  rintro e w2 ⟨f, rfl, hf, _, hx2⟩
  have HF := Lib.hid hf
  have HX2 := Lib.hid (HX1.out.trans hx2)
  clear hf hx2
  go_wp2_with fail
  refine (HCO.out w2 HX2.out).mono ?_
  rintro e w3 ⟨c, R3, c3, rfl, hcl3, hc3, hr3, hx3⟩
  have HX3 := Lib.hid (HX2.out.trans hx3)
  have HF3 := Lib.hid (HF.out.ext hx3)
  have HC3 := Lib.hid hr3
  have HCL := Lib.hid hcl3
  clear hr3 hx3 hcl3
  go_wp2_with fail
  refine (HFE.out w3 HX3.out).mono ?_
  rintro e w4 ⟨l, S, R4, c4, rfl, hlk, hc4, hfew, hr4, hx4⟩
  obtain ⟨nl, hnl⟩ : ∃ nl, l.length = nl := ⟨_, rfl⟩
  rw [hnl] at hlk hc4 ⊢
  have HX4 := Lib.hid (HX3.out.trans hx4)
  have HF4 := Lib.hid (HF3.out.ext hx4)
  have HC4 := Lib.hid (HC3.out.ext hx4)
  have HL4 := Lib.hid hr4
  have HFW := Lib.hid hfew
  have HNL := Lib.hid hnl
  clear hr4 hx4 hfew hnl
  go_wp2_with fail
  refine (HRM.out f w4 s q c l S nl A B R3 R4 ca cb c3 c4 HF4.out (HS.out.ext HX4.out) (HQ.out.ext HX4.out) HC4.out HL4.out HFW.out HNS.out HQL.out HCL.out HNL.out hlk hca hcbn hc3 hc4).mono ?_
  rintro e w5 ⟨v5, rfl, ⟨R5, c5, rfl, hc5, hr5⟩, hx5⟩
  rw [HRL.out c l] at hc5 ⊢
  have HX5 := Lib.hid (HX4.out.trans hx5)
  have HF5 := Lib.hid (HF4.out.ext hx5)
  have HC5 := Lib.hid (HC4.out.ext hx5)
  have HL5 := Lib.hid (HL4.out.ext hx5)
  have HD5 := Lib.hid hr5
  clear hr5 hx5
  go_wp2_with fail
  refine (HD1.out f w5 c R3 c3 HF5.out HX5.out HC5.out HCL.out hc3).mono ?_
  rintro e w6 ⟨v6, rfl, ⟨R6, c6, rfl, hc6, hr6⟩, hx6⟩
  rw [HDL1.out c] at hc6 ⊢
  have HX6 := Lib.hid (HX5.out.trans hx6)
  have HF6 := Lib.hid (HF5.out.ext hx6)
  have HL6 := Lib.hid (HL5.out.ext hx6)
  have HD6 := Lib.hid (HD5.out.ext hx6)
  have HA6 := Lib.hid hr6
  clear hr6 hx6
  go_wp2_with fail
  refine (HD2.out f w6 (remap s q c d (ji l)) R5 c5 HF6.out HX6.out HD6.out (HRL.out c l) hc5).mono ?_
  rintro e w7 ⟨v7, rfl, ⟨R7, c7, rfl, hc7, hr7⟩, hx7⟩
  rw [HDL2.out _] at hc7 ⊢
  have HX7 := Lib.hid (HX6.out.trans hx7)
  have HL7 := Lib.hid (HL6.out.ext hx7)
  have HA7 := Lib.hid (HA6.out.ext hx7)
  have HB7 := Lib.hid hr7
  have HCS := Lib.hid HC5.out.1
  clear hr7 hx7
  go_wp2
  go_loopg [107] nl (fun g s wx => ∃ i m : Nat, i + g = nl ∧ s = .int .i64 (i : Int) ∧ wx = w7.drewN m)
  case atStart => exact ⟨0, 0, by omega, rfl, rfl⟩
  case round =>
    obtain ⟨i, m, hig, rfl, rfl⟩ := hrel
    cases gk with
    | zero =>
      obtain rfl : i = nl := by omega
      clear hig
      go_wp2
      go_ret
      exact ⟨rfl, HX7.out.drewN m⟩
    | succ g =>
      have hi : i < nl := by omega
      have hiI : (i : Int) < (nl : Int) := by omega
      have hil : i < l.length := by rw [HNL.out]; exact hi
      obtain ⟨b0, o0, e0', hc0⟩ := HL7.out i hil
      have hy10 := HFW.out.lt i hil
      have HE := Lib.hid (HEQ.out c l S HCS.out HFW.out (by rw [HNL.out]; exact HDK.out nl hlk) i hil)
      obtain ⟨y, hy⟩ : ∃ y, co l i = y := ⟨_, rfl⟩
      rw [hy] at hc0 hy10 HE
      have hyI : (y : Int) < 10 := by omega
      obtain ⟨b1, o1, B1, c1, e1'', h1, h1c, h1r⟩ := HA7.out y (by rw [HDL1.out]; exact hy10)
      obtain ⟨b2, o2, B2, c2, e2', h2, h2c, h2r⟩ := HB7.out y (by rw [HDL2.out]; exact hy10)
      subst e0'; subst e1''; subst e2'
      rw [HE.out] at h2 h2c h2r
      obtain ⟨r, hr⟩ : ∃ r, ro (deal s c d 10) y = r := ⟨_, rfl⟩
      have hrl := HROL.out c y hy10
      rw [hr] at h1 h1c h1r h2 h2c h2r hrl
      rw [hrl] at h1 h1c h2 h2c
      have HSS := Lib.hid (fun q' => show Calls Try.prog 12 #[.slice B1 ns c1, .slice B2 ns c2] ((w7.drewN m).drewN q') (Hands (.bool true) ((w7.drewN m).drewN q')) from hrl ▸ same_true r B1 B2 c1 c2 ((w7.drewN m).drewN q') ((h1r.drewN m).drewN q') ((h2r.drewN m).drewN q') (by omega))
      have hc0' : (w7.drewN m).cell? ⟨b0, o0 + i, none⟩ = some (.int .i64 (y : Int)) := hc0
      have h1' : (w7.drewN m).cell? ⟨b1, o1 + y, none⟩ = some (.slice B1 ns c1) := h1
      have h2' : (w7.drewN m).cell? ⟨b2, o2 + y, none⟩ = some (.slice B2 ns c2) := h2
      generalize hW : w7.drewN m = W at HSS hc0' h1' h2' ⊢
      have HW := Lib.hid hW
      clear h1 h2 hc0 h1r h2r hr hrl hW hy
      go_wp2
      go_quiet (first | (go_at_call 12; exact quiet_hands (HSS.out _)))
      go_wp2
      go_roundg g
      case measure => omega
      case rel => exact ⟨i + 1, m + nq, by omega, by go_num, by rw [← HW.out, World.drewN_drewN]⟩
end Go.Proofs.Ytjibelmncbfbjaa

/-
  The law BlindPads, walked, under what layer 6's functions are to do. Conditions: none.
-/
namespace Go.Proofs.Ytjibelmncbfbjaa
open Go.RowKit
open Pol (co Sm ev px py Apart)

set_option maxHeartbeats 1600000 in
set_option maxRecDepth 100000 in
theorem pads6_big (C : BlindSaid) (A B D : Option Addr) (nt np no ca cb cd : Nat) (w : World)  (h : 300 < nt ∨ 300 < np ∨ 300 < no) :
    Calls Try.prog 6 #[.slice A nt ca, .slice B np cb, .slice D no cd] w (Holds w) := by
  have HAW := Lib.hid (fun u => awake6 C u)
  clear C
  by_cases h0 : 300 < nt
  · have e0 : decide ((300 : Int) < (nt : Int)) = true := decide_eq_true (by omega)
    clear h
    go_enter Try.func6, Try.ntmps6
    go_wp2_with fail
    refine (HAW.out w).mono ?_
    rintro e w1 ⟨rfl, hx1⟩
    have HX1 := Lib.hid hx1
    clear hx1
    go_wp2_with fail
    refine (HAW.out w1).mono ?_
    rintro e w2 ⟨rfl, hx2⟩
    have HX2 := Lib.hid (HX1.out.trans hx2)
    clear hx2
    go_wp2
    go_ret
    exact ⟨rfl, HX2.out⟩
  have e0 : decide ((300 : Int) < (nt : Int)) = false := decide_eq_false (by omega)
  by_cases h1 : 300 < np
  · have e1 : decide ((300 : Int) < (np : Int)) = true := decide_eq_true (by omega)
    clear h
    go_enter Try.func6, Try.ntmps6
    go_wp2_with fail
    refine (HAW.out w).mono ?_
    rintro e w1 ⟨rfl, hx1⟩
    have HX1 := Lib.hid hx1
    clear hx1
    go_wp2_with fail
    refine (HAW.out w1).mono ?_
    rintro e w2 ⟨rfl, hx2⟩
    have HX2 := Lib.hid (HX1.out.trans hx2)
    clear hx2
    go_wp2
    go_ret
    exact ⟨rfl, HX2.out⟩
  have e1 : decide ((300 : Int) < (np : Int)) = false := decide_eq_false (by omega)
  have h2 : 300 < no := by omega
  have e2 : decide ((300 : Int) < (no : Int)) = true := decide_eq_true (by omega)
  clear h
  go_enter Try.func6, Try.ntmps6
  go_wp2_with fail
  refine (HAW.out w).mono ?_
  rintro e w1 ⟨rfl, hx1⟩
  have HX1 := Lib.hid hx1
  clear hx1
  go_wp2_with fail
  refine (HAW.out w1).mono ?_
  rintro e w2 ⟨rfl, hx2⟩
  have HX2 := Lib.hid (HX1.out.trans hx2)
  clear hx2
  go_wp2
  go_ret
  exact ⟨rfl, HX2.out⟩

set_option maxHeartbeats 1600000 in
set_option maxRecDepth 100000 in
theorem pads6_odd (C : BlindSaid) (t p : List Nat) (A B D : Option Addr) (no ca cb cd : Nat) (w : World) (ht : Rd w A t) (hp : Rd w B p) (hca : t.length ≤ ca) (hcb : p.length ≤ cb) (h1 : t.length ≤ 300) (h2 : p.length ≤ 300) (h3 : no ≤ 300) (hne : t.length ≠ p.length) :
    Calls Try.prog 6 #[.slice A t.length ca, .slice B p.length cb, .slice D no cd] w (Holds w) := by
  have HAW := Lib.hid (fun u => awake6 C u)
  have HS := Lib.hid (fun u (hu : Ext w u) => C.sealNo t p A B ca cb u (ht.ext hu) (hp.ext hu) hca hcb (by omega) (by omega) hne)
  have HP := Lib.hid (fun u (hu : Ext w u) => C.padNo t p A B ca cb u (ht.ext hu) (hp.ext hu) hca hcb (by omega) (by omega) hne)
  have e0 : decide ((300 : Int) < (t.length : Int)) = false := decide_eq_false (by omega)
  have e1 : decide ((300 : Int) < (p.length : Int)) = false := decide_eq_false (by omega)
  have e2 : decide ((300 : Int) < (no : Int)) = false := decide_eq_false (by omega)
  have tne : ((t.length : Int) != (p.length : Int)) = true := by simp; omega
  clear ht hp C hne
  generalize t.length = nt at *
  generalize p.length = np at *
  go_enter Try.func6, Try.ntmps6
  go_wp2_with fail
  refine (HAW.out w).mono ?_
  rintro e w1 ⟨rfl, hx1⟩
  have HX1 := Lib.hid hx1
  clear hx1
  go_wp2_with fail
  refine (HS.out w1 HX1.out).mono ?_
  rintro e w2 ⟨v2, rfl, ⟨B2, c2, rfl, hc2, hr2⟩, hx2⟩
  have HX2 := Lib.hid (HX1.out.trans hx2)
  clear hx2 hr2
  go_wp2_with fail
  refine (HP.out w2 HX2.out).mono ?_
  rintro e w3 ⟨v3, rfl, ⟨B3, c3, rfl, hc3, hr3⟩, hx3⟩
  have HX3 := Lib.hid (HX2.out.trans hx3)
  clear hx3 hr3
  go_wp2
  go_ret
  exact ⟨rfl, HX3.out⟩

set_option maxHeartbeats 3200000 in
set_option maxRecDepth 100000 in
theorem pads6_walk (C : BlindSaid) (t p o : List Nat) (A B D : Option Addr) (ca cb cd : Nat) (w : World) (ht : Rd w A t) (hp : Rd w B p) (ho : Rd w D o) (hca : t.length ≤ ca) (hcb : p.length ≤ cb) (hcd : o.length ≤ cd) :
    Calls Try.prog 6 #[.slice A t.length ca, .slice B p.length cb, .slice D o.length cd] w (Holds w) := by
  by_cases hbig : 300 < t.length ∨ 300 < p.length ∨ 300 < o.length
  · exact pads6_big C A B D _ _ _ ca cb cd w hbig
  by_cases hne : t.length = p.length
  case neg => exact pads6_odd C t p A B D o.length ca cb cd w ht hp hca hcb (by omega) (by omega) (by omega) hne
  have HAW := Lib.hid (fun u => awake6 C u)
  have HLX := Lib.hid (lx_len t p)
  have HS1 := Lib.hid (fun u (hu : Ext w u) => C.sealYes t p A B ca cb u (ht.ext hu) (hp.ext hu) hca hcb (by omega) hne)
  have HS2 := Lib.hid (fun u X cx (hu : Ext w u) (hX : Rd u X (lx t p)) (hcx : t.length ≤ cx) => show Calls Try.prog 16 #[.slice X t.length cx, .slice B p.length cb] u (GivesE t 0 u) from by
    have h := C.sealYes (lx t p) p X B cx cb u hX (hp.ext hu) (by rw [lx_len]; exact hcx) hcb (by rw [lx_len]; omega) (by rw [lx_len]; exact hne)
    rwa [lx_len, lx_back] at h)
  have HSA := Lib.hid (fun u X cx (hu : Ext w u) (hX : Rd u X t) => same_true t X A cx ca u hX (ht.ext hu) (by omega))
  have e0 : decide ((300 : Int) < (t.length : Int)) = false := decide_eq_false (by omega)
  have e1 : decide ((300 : Int) < (p.length : Int)) = false := decide_eq_false (by omega)
  have e2 : decide ((300 : Int) < (o.length : Int)) = false := decide_eq_false (by omega)
  have tne : ((t.length : Int) != (p.length : Int)) = false := by rw [hne]; simp
  have hn300 : t.length ≤ 300 := by omega
  have hno300 : o.length ≤ 300 := by omega
  by_cases hlt : o.length < t.length
  · have tl : decide ((o.length : Int) < (t.length : Int)) = true := decide_eq_true (by omega)
    have tl' : decide (o.length < t.length) = true := decide_eq_true hlt
    clear ht hp ho C hne hlt hbig
    generalize hnt : t.length = nt at *
    have HNT := Lib.hid hnt
    clear hnt
    generalize p.length = np at *
    generalize o.length = no at *
    go_enter Try.func6, Try.ntmps6
    go_wp2_with fail
    refine (HAW.out w).mono ?_
    rintro e w1 ⟨rfl, hx1⟩
    have HX1 := Lib.hid hx1
    clear hx1
    go_wp2_with fail
    refine (HS1.out w1 HX1.out).mono ?_
    rintro e w2 ⟨v2, rfl, ⟨B2, c2, rfl, hc2, hr2⟩, hx2⟩
    rw [HLX.out] at hc2 ⊢
    have HX2 := Lib.hid (HX1.out.trans hx2)
    have HR2 := Lib.hid hr2
    clear hx2 hr2
    go_wp2_with fail
    refine (HS2.out w2 B2 c2 HX2.out HR2.out hc2).mono ?_
    rintro e w3 ⟨v3, rfl, ⟨B3, c3, rfl, hc3, hr3⟩, hx3⟩
    rw [HNT.out] at hc3 ⊢
    have HX3 := Lib.hid (HX2.out.trans hx3)
    have HR23 := Lib.hid (HR2.out.ext hx3)
    have HSS3 := Lib.hid (HSA.out w3 B3 c3 HX3.out hr3)
    clear hx3 hr3
    go_wp2_with fail
    refine HSS3.out.mono ?_
    rintro e w4 ⟨rfl, q4, rfl⟩
    go_wp2
    go_ret
    exact ⟨rfl, HX3.out.drewN q4⟩
  · have tl : decide ((o.length : Int) < (t.length : Int)) = false := decide_eq_false (by omega)
    have tl' : decide (o.length < t.length) = false := decide_eq_false hlt
    obtain ⟨q, hq⟩ : ∃ q, o.take t.length = q := ⟨_, rfl⟩
    have hql : q.length = t.length := by rw [← hq, List.length_take]; omega
    have HQR := Lib.hid (show Rd w D q from hq ▸ ho.take _)
    have sl := fun W => run_to_u8 D o.length cd t.length (by omega) W
    have HP1 := Lib.hid (fun u X cx (hu : Ext w u) (hX : Rd u X (lx t p)) (hcx : t.length ≤ cx) => show Calls Try.prog 17 #[.slice D t.length cd, .slice X t.length cx] u (GivesE (lx q (lx t p)) 0 u) from by
      have h := C.padYes q (lx t p) D X cd cx u (HQR.out.ext hu) hX (by omega) (by rw [lx_len]; exact hcx) (by omega) (by rw [lx_len]; exact hql)
      rwa [lx_len, hql] at h)
    have HS3 := Lib.hid (fun u X cx (hu : Ext w u) (hX : Rd u X (lx q (lx t p))) (hcx : t.length ≤ cx) => show Calls Try.prog 16 #[.slice D t.length cd, .slice X t.length cx] u (GivesE (lx t p) 0 u) from by
      have h := C.sealYes q (lx q (lx t p)) D X cd cx u (HQR.out.ext hu) hX (by omega) (by rw [lx_len, hql]; exact hcx) (by omega) (by rw [lx_len])
      rwa [lx_len, hql, lx_pad q (lx t p) (by rw [lx_len]; exact hql)] at h)
    have HSB := Lib.hid (fun u X cx Y cy (hX : Rd u X (lx t p)) (hY : Rd u Y (lx t p)) => show Calls Try.prog 12 #[.slice X t.length cx, .slice Y t.length cy] u (Hands (.bool true) u) from by
      have h := same_true (lx t p) X Y cx cy u hX hY (by rw [lx_len]; omega)
      rwa [lx_len] at h)
    have HLQ := Lib.hid (show (lx q (lx t p)).length = t.length by rw [lx_len, hql])
    clear ht hp ho C hne hlt hbig hq hql HQR
    generalize hnt : t.length = nt at *
    have HNT := Lib.hid hnt
    clear hnt
    generalize p.length = np at *
    generalize o.length = no at *
    go_enter Try.func6, Try.ntmps6
    go_wp2_with fail
    refine (HAW.out w).mono ?_
    rintro e w1 ⟨rfl, hx1⟩
    have HX1 := Lib.hid hx1
    clear hx1
    go_wp2_with fail
    refine (HS1.out w1 HX1.out).mono ?_
    rintro e w2 ⟨v2, rfl, ⟨B2, c2, rfl, hc2, hr2⟩, hx2⟩
    rw [HLX.out] at hc2 ⊢
    have HX2 := Lib.hid (HX1.out.trans hx2)
    have HR2 := Lib.hid hr2
    clear hx2 hr2
    go_wp2_with fail
    refine (HS2.out w2 B2 c2 HX2.out HR2.out hc2).mono ?_
    rintro e w3 ⟨v3, rfl, ⟨B3, c3, rfl, hc3, hr3⟩, hx3⟩
    rw [HNT.out] at hc3 ⊢
    have HX3 := Lib.hid (HX2.out.trans hx3)
    have HR23 := Lib.hid (HR2.out.ext hx3)
    have HSS3 := Lib.hid (HSA.out w3 B3 c3 HX3.out hr3)
    clear hx3 hr3
    go_wp2_with fail
    refine HSS3.out.mono ?_
    rintro e w4 ⟨rfl, q4, rfl⟩
    have HX4 := Lib.hid (HX3.out.drewN q4)
    have HR4 := Lib.hid (HR23.out.drewN q4)
    generalize w3.drewN q4 = w4 at HX4 HR4 ⊢
    go_wp2_with fail
    refine (HP1.out w4 B2 c2 HX4.out HR4.out hc2).mono ?_
    rintro e w5 ⟨v5, rfl, ⟨B5, c5, rfl, hc5, hr5⟩, hx5⟩
    rw [HLQ.out] at hc5 ⊢
    have HX5 := Lib.hid (HX4.out.trans hx5)
    have HR5 := Lib.hid hr5
    have HR25 := Lib.hid (HR4.out.ext hx5)
    clear hx5 hr5
    go_wp2_with fail
    refine (HS3.out w5 B5 c5 HX5.out HR5.out hc5).mono ?_
    rintro e w6 ⟨v6, rfl, ⟨B6, c6, rfl, hc6, hr6⟩, hx6⟩
    rw [HLX.out] at hc6 ⊢
    have HX6 := Lib.hid (HX5.out.trans hx6)
    have HSS := Lib.hid (HSB.out w6 B6 c6 B2 c2 hr6 (HR25.out.ext hx6))
    clear hx6 hr6
    go_wp2_with fail
    refine HSS.out.mono ?_
    rintro e w7 ⟨rfl, q7, rfl⟩
    go_wp2
    go_ret
    exact ⟨rfl, HX6.out.drewN q7⟩
end Go.Proofs.Ytjibelmncbfbjaa
