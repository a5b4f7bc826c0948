/-
  Part 2 of the texts that the seat's proofs stand on; each part of it begins with its own sentence and conditions. Conditions: those that each theorem names.
-/
import Derived.Test.YtmjndomjnhjncaaPack1
import Derived.Lib.SlBytesConst
import Derived.Lib.SliceRun
import Derived.ArgAppend
import Derived.DeepKeys
import Derived.OwnWalk
import Derived.Laws.Cover3
import Derived.ProofKit
import Derived.OpenShut
import Derived.Deep.Slices
import Derived.StillTail
import Derived.Deep.Quiet
import Derived.Deep.QuietTactic
import Derived.BigQuiet
import Derived.KernelRfl

/-
  What layer 9's own functions are to do, as one statement; the document's comparison of lists; the laws' first call. Conditions: no more than 2^16 bytes.
-/
namespace Go.Proofs.Ytmjndomjnhjncaa
open Go.RowKit
open Pol (co Sm)

/-- Bytes of a call's own that may be written; bytes of its own. -/
def OwnW (base : Nat) (v : Value) (w : World) (t : List Nat) : Prop :=
  ∃ B c, v = .slice B t.length c ∧ t.length ≤ c ∧ Rd w B t ∧ ∀ b o, B = some ⟨b, o, none⟩ → 0 < t.length → base ≤ b ∧ ∀ i, i < t.length → w.frozen? ⟨b, o + i, none⟩ = false
def OwnT (base : Nat) (v : Value) (w : World) (t : List Nat) : Prop :=
  ∃ B c, v = .slice B t.length c ∧ t.length ≤ c ∧ Rd w B t ∧ ∀ b o, B = some ⟨b, o, none⟩ → 0 < t.length → base ≤ b
/-- Frame: the frame, or an error and no bytes. -/
def FrameS (l : List Nat) (w : World) (e : Ending) (w' : World) : Prop :=
  Ext w w' ∧ ((FrOk l ∧ ∃ v, e = .returned (.tuple #[v, .int .i64 0]) ∧ OwnT w.heap.size v w' (fr l)) ∨ (¬ FrOk l ∧ ∃ B c, e = .returned (.tuple #[.slice B 0 c, .int .i64 1])))
/-- Next: the body, in bytes that may be written, and the bytes behind it; or an error and no bytes. -/
def NextS (b : List Nat) (w : World) (e : Ending) (w' : World) : Prop :=
  Ext w w' ∧ ((∃ t r v u, nx b = .ok t r ∧ e = .returned (.tuple #[v, u, .int .i64 0]) ∧ OwnW w.heap.size v w' t ∧ OwnT w.heap.size u w' r) ∨ (∃ k B1 c1 B2 c2, nx b = .er k ∧ e = .returned (.tuple #[.slice B1 0 c1, .slice B2 0 c2, .int .i64 (k : Int)])))
/-- All: the bodies, each in bytes that may be written, none of which lies in the list's own block. -/
def AllS (b : List Nat) (w : World) (e : Ending) (w' : World) : Prop :=
  Ext w w' ∧ ∃ R c, e = .returned (.tuple #[.slice R (al b).1.length c, .int .i64 (((al b).2 : Nat) : Int)]) ∧ (al b).1.length ≤ c ∧
    ∀ i, i < (al b).1.length → ∃ g o v, R = some ⟨g, o, none⟩ ∧ w.heap.size ≤ g ∧ w'.cell? ⟨g, o + i, none⟩ = some v ∧ OwnW w.heap.size v w' (ro (al b).1 i) ∧ (∀ b' o' n' c', v = .slice (some ⟨b', o', none⟩) n' c' → b' ≠ g)
theorem AllS.reads {b : List Nat} {w w' : World} {R : Option Addr}
    (h : ∀ i, i < (al b).1.length → ∃ g o v, R = some ⟨g, o, none⟩ ∧ w.heap.size ≤ g ∧ w'.cell? ⟨g, o + i, none⟩ = some v ∧ OwnW w.heap.size v w' (ro (al b).1 i) ∧ (∀ b' o' n' c', v = .slice (some ⟨b', o', none⟩) n' c' → b' ≠ g)) : RRd w' R (al b).1 := fun i hi => by
  obtain ⟨g, o, v, hR, _, hc, ⟨B, c, rfl, hlc, hr, _⟩, _⟩ := h i hi
  exact ⟨g, o, B, c, hR, hc, hlc, hr⟩

structure CrcSaid : Prop where
  of : ∀ (l : List Nat) (A : Option Addr) (c : Nat) (w : World), Rd w A l → l.length ≤ c → l.length ≤ 65536 → Calls Try.prog 11 #[.slice A l.length c] w (Tells (.int .u32 ((crcl l : Nat) : Int)) w)
  more : ∀ (s : Nat) (l : List Nat) (A : Option Addr) (c : Nat) (w : World), s < 4294967296 → Rd w A l → l.length ≤ c → l.length ≤ 65536 →
    Calls Try.prog 13 #[.int .u32 (s : Int), .slice A l.length c] w (Tells (.int .u32 ((crf (s ^^^ 4294967295) (co l) l.length ^^^ 4294967295 : Nat) : Int)) w)
  frame : ∀ (l : List Nat) (A : Option Addr) (c : Nat) (w : World), Rd w A l → l.length ≤ c → Calls Try.prog 14 #[.slice A l.length c] w (FrameS l w)
  next : ∀ (b : List Nat) (A : Option Addr) (c : Nat) (w : World), Rd w A b → b.length ≤ c → b.length ≤ 65536 → Calls Try.prog 16 #[.slice A b.length c] w (NextS b w)
  all : ∀ (b : List Nat) (A : Option Addr) (c : Nat) (w : World), Rd w A b → b.length ≤ c → b.length ≤ 65536 → Calls Try.prog 19 #[.slice A b.length c] w (AllS b w)

theorem rd_mark (w : World) (l : List Nat) (fr : Nat × Nat) (h : Sm l) : Rd (w.alloc (.cells (bv l).toArray 5 fr)) (some ⟨w.heap.size, 0, none⟩) l :=
  ⟨h, fun i hi => ⟨w.heap.size, 0, rfl, by
    rw [cell_of_row _ _ _ _ _ _ (heap_alloc_new w _), Nat.zero_add]
    simpa using bv_at l i hi⟩⟩
set_option maxRecDepth 100000 in
theorem ex9 : crcl [49, 50, 51, 52, 53, 54, 55, 56, 57] = 3421780262 := by decide +kernel

set_option maxHeartbeats 800000 in
set_option maxRecDepth 100000 in
theorem awake9 (C : CrcSaid) (w : World) : Calls Try.prog 10 #[] w (Holds w) := by
  have HF := Lib.hid (C.frame [7] (some ⟨w.heap.size, 0, none⟩) 1 _ (rd_one w 7 (by decide)) (by decide))
  have HO := Lib.hid (fun W => C.of [49, 50, 51, 52, 53, 54, 55, 56, 57] (some ⟨W.heap.size, 0, none⟩) 9 (W.alloc (.cells (bv [49, 50, 51, 52, 53, 54, 55, 56, 57]).toArray 5 (9, 10))) (rd_mark W _ (9, 10) (Pol.co_lt_of (by decide))) (by decide) (by decide))
  rw [ex9] at HO
  have kc := fun (w : World) (C : Array Value) (n c : Nat) => Lib.run_convert_bytes_const (P := Try.prog) w 22 5 C n c Try.underlying22 Try.underlying5
  have HX0 := Lib.hid ((Ext.refl w).alloc (.cells #[.int .u8 7] 5))
  clear C
  go_enter Try.func10, Try.ntmps10
  go_wp2_with fail
  refine HF.out.mono ?_
  rintro e w1 ⟨hx1, (⟨_, v, rfl, B, c, rfl, _⟩ | ⟨hno, _⟩)⟩
  · have HX1 := Lib.hid (HX0.out.trans hx1)
    have hl : (fr [7]).length = 7 := rfl
    rw [hl]
    clear hx1
    go_wp2_with fail
    refine (HO.out w1).mono ?_
    rintro e w2 ⟨rfl, hx2⟩
    have HX2 := Lib.hid ((HX1.out.alloc (.cells (bv [49, 50, 51, 52, 53, 54, 55, 56, 57]).toArray 5 (9, 10))).trans hx2)
    clear hx2
    go_wp2
    go_ret
    exact ⟨rfl, HX2.out⟩
  · exact absurd (show FrOk [7] from ⟨by decide, by decide⟩) hno

set_option maxHeartbeats 800000 in
theorem ref9_lists (rows : List (List Nat)) (A B : Option Addr) (ca cb : Nat) (w : World) (ha : RRd w A rows) (hb : RRd w B rows) (hl : rows.length ≤ 1048576) (hls : ∀ i, i < rows.length → (ro rows i).length ≤ 1048576) :
    Calls Try.prog 21 #[.slice A rows.length ca, .slice B rows.length cb] w (Hands (.bool true) w) := by
  have HA := Lib.hid ha
  have HB := Lib.hid hb
  obtain ⟨n, hn⟩ : ∃ n, rows.length = n := ⟨_, rfl⟩
  have HN := Lib.hid hn
  rw [hn] at hl hls ⊢
  have HLS := Lib.hid hls
  clear ha hb hn hls
  go_enter Try.func21, Try.ntmps21
  go_wp2
  go_loopg [14] n (fun g s wx => ∃ i m : Nat, i + g = n ∧ s = .int .i64 (i : Int) ∧ wx = w.drewN m)
  case atStart => exact ⟨0, 0, by omega, rfl, rfl⟩
  case round =>
    obtain ⟨i, m, hig, rfl, rfl⟩ := hrel
    cases gk with
    | zero =>
      obtain rfl : i = n := by omega
      clear hig
      go_wp2
      go_ret
      exact ⟨rfl, m, rfl⟩
    | succ g =>
      have hi : i < n := by omega
      have hiI : (i : Int) < (n : Int) := by omega
      obtain ⟨b1, o1, R1, c1, rfl, hc1, hl1, hr1⟩ := HA.out i (by rw [HN.out]; exact hi)
      obtain ⟨b2, o2, R2, c2, rfl, hc2, hl2, hr2⟩ := HB.out i (by rw [HN.out]; exact hi)
      obtain ⟨t, ht⟩ : ∃ t, ro rows i = t := ⟨_, rfl⟩
      rw [ht] at hc1 hc2 hr1 hr2 hl1 hl2
      obtain ⟨k, hk⟩ : ∃ k, t.length = k := ⟨_, rfl⟩
      rw [hk] at hc1 hc2 hl1 hl2
      have HR1 := Lib.hid hr1
      have HR2 := Lib.hid hr2
      have HK := Lib.hid hk
      have HIG := Lib.hid hig
      have hkl : k ≤ 1048576 := by rw [← hk, ← ht]; exact HLS.out i hi
      clear hr1 hr2 hk ht hig
      go_wp2
      go_quiet (fail)
      go_wp2
      go_loopg [33] k (fun g s wx => ∃ j m : Nat, j + g = k ∧ s = .int .i64 (j : Int) ∧ wx = w.drewN m)
      case atStart => exact ⟨0, _, by omega, rfl, rfl⟩
      case round =>
        obtain ⟨j, m2, hjg, rfl, rfl⟩ := hrel
        cases gk with
        | zero =>
          obtain rfl : j = k := by omega
          clear hjg
          go_wp2
          go_roundg g
          case measure => omega
          case rel => exact ⟨i + 1, m2, by have := HIG.out; omega, by go_num, rfl⟩
        | succ g2 =>
          have hj : j < k := by omega
          have hjI : (j : Int) < (k : Int) := by omega
          obtain ⟨b3, o3, rfl, hc3⟩ := HR1.out.2 j (by rw [HK.out]; exact hj)
          obtain ⟨b4, o4, rfl, hc4⟩ := HR2.out.2 j (by rw [HK.out]; exact hj)
          generalize co t j = y at *
          have d6 : ((y : Int) != (y : Int)) = false := by simp
          go_wp2
          go_quiet (fail)
          go_wp2
          go_roundg g2
          case measure => omega
          case rel => exact ⟨j + 1, _, by omega, by go_num, rfl⟩
end Go.Proofs.Ytmjndomjnhjncaa

/-
  The law CrcChecks, walked, under what layer 9's functions are to do. Conditions: none.
-/
namespace Go.Proofs.Ytmjndomjnhjncaa
open Go.RowKit
open Pol (co Sm)

theorem co_app_left (a b : List Nat) (i : Nat) (h : i < a.length) : co (a ++ b) i = co a i := by unfold co; rw [List.getElem?_append_left h]
theorem co_app_right (a b : List Nat) (i : Nat) : co (a ++ b) (a.length + i) = co b i := by unfold co; rw [List.getElem?_append_right (by omega), Nat.add_sub_cancel_left]
theorem xor_xor (x y : Nat) : x ^^^ y ^^^ y = x := by rw [Nat.xor_assoc, Nat.xor_self, Nat.xor_zero]
/-- In two parts. -/
theorem crcl_app (a b : List Nat) : crf (crcl a ^^^ 4294967295) (co b) b.length ^^^ 4294967295 = crcl (a ++ b) := by
  unfold crcl
  rw [xor_xor, List.length_append, crf_add, crf_congr (g := co a) _ (fun i hi => co_app_left a b i hi)]
  congr 1
  exact crf_congr _ fun i _ => (co_app_right a b i).symm

set_option maxHeartbeats 3200000 in
set_option maxRecDepth 100000 in
theorem checks9_walk (C : CrcSaid) (l0 : List Nat) (a0 : Option Addr) (c0 : Nat) (l1 : List Nat) (a1 : Option Addr) (c1 : Nat) (w : World) (hr0 : Rd w a0 l0) (hc0 : l0.length ≤ c0) (hr1 : Rd w a1 l1) (hc1 : l1.length ≤ c1) :
    Calls Try.prog 3 #[.slice a0 l0.length c0, .slice a1 l1.length c1] w (Holds w) := by
  have HAW := Lib.hid (fun W => awake9 C W)
  by_cases hbig : l0.length ≤ 400 ∧ l1.length ≤ 400
  · have hs0 := crcl_lt hr0.1
    have hs1 := crcl_lt hr1.1
    have H0 := Lib.hid (fun W (hx : Ext w W) => C.of l0 a0 c0 W (hr0.ext hx) hc0 (by omega))
    have H1 := Lib.hid (fun W (hx : Ext w W) => C.of l1 a1 c1 W (hr1.ext hx) hc1 (by omega))
    have HQ0 := Lib.hid (fun W (hx : Ext w W) => (ref9_of l0 a0 c0 W (hr0.ext hx) (by omega)).mono fun _ _ h => h.tells)
    have HM01 := Lib.hid (fun W (hx : Ext w W) => C.more (crcl l0) l1 a1 c1 W hs0 (hr1.ext hx) hc1 (by omega))
    have HM00 := Lib.hid (fun W (hx : Ext w W) => C.more 0 l0 a0 c0 W (by decide) (hr0.ext hx) hc0 (by omega))
    have HM1n := Lib.hid (fun W => C.more (crcl l1) [] none 0 W hs1 (Rd.nil _ _) (by decide) (by decide))
    have HOF := Lib.hid (fun A c W (hr : Rd W A (l0 ++ l1)) (hc : (l0 ++ l1).length ≤ c) => C.of (l0 ++ l1) A c W hr hc (by rw [List.length_append]; omega))
    have HQF := Lib.hid (fun A c W (hr : Rd W A (l0 ++ l1)) => (ref9_of (l0 ++ l1) A c W hr (by rw [List.length_append]; omega)).mono fun _ _ h => h.tells)
    have HR0 := Lib.hid hr0
    have HR1 := Lib.hid hr1
    have HS := Lib.hid (sm_app9 hr0.1 hr1.1)
    rw [crcl_app l0 l1] at HM01
    rw [show crf (0 ^^^ 4294967295) (co l0) l0.length ^^^ 4294967295 = crcl l0 from by rw [Nat.zero_xor]; rfl] at HM00
    rw [show crf (crcl l1 ^^^ 4294967295) (co []) ([] : List Nat).length ^^^ 4294967295 = crcl l1 from xor_xor _ _] at HM1n
    obtain ⟨x0, hx0⟩ : ∃ x, crcl l0 = x := ⟨_, rfl⟩
    obtain ⟨x1, hx1⟩ : ∃ x, crcl l1 = x := ⟨_, rfl⟩
    obtain ⟨x2, hx2⟩ : ∃ x, crcl (l0 ++ l1) = x := ⟨_, rfl⟩
    rw [hx0] at H0 HQ0 HM01 HM00
    rw [hx1] at H1 HM1n
    rw [hx2] at HM01 HOF HQF
    obtain ⟨n0, hn0⟩ : ∃ n, l0.length = n := ⟨_, rfl⟩
    obtain ⟨n1, hn1⟩ : ∃ n, l1.length = n := ⟨_, rfl⟩
    have HN0 := Lib.hid hn0
    have HN1 := Lib.hid hn1
    have HN := Lib.hid (show (l0 ++ l1).length = n0 + n1 by rw [List.length_append, hn0, hn1])
    rw [hn0] at H0 HQ0 HM00 hbig hc0 ⊢
    rw [hn1] at H1 HM01 hbig hc1 ⊢
    rw [HN.out] at HOF HQF
    have d1 : decide (400 < (n0 : Int)) = false := decide_eq_false (by omega)
    have d2 : decide (400 < (n1 : Int)) = false := decide_eq_false (by omega)
    clear C hr0 hr1 hs0 hs1 hx0 hx1 hx2 hn0 hn1
    obtain ⟨hb0, hb1⟩ := hbig
    go_enter Try.func3, Try.ntmps3
    go_wp2_with fail
    refine (HAW.out w).mono ?_
    rintro e v1 ⟨rfl, hv1⟩
    have HX1 := Lib.hid hv1
    clear hv1
    go_wp2_with (at_builtin; first
      | (refine wpList_append_rd rfl (.tmp 19) (.tmp 20) rfl v1.heap.size (.slice (some ⟨v1.heap.size, 0, none⟩) 0 0) [] l0 rfl (mine_empty v1) a0 n0 c0 rfl HN0.out (HR0.out.ext (HX1.out.alloc _)) (by rw [HN0.out]; simp; omega) (by simp) ?_; intro v7 w7 hown7 hg7 hat7
         rw [List.nil_append] at hown7
         have hx7 : Ext v1 w7 := ((Ext.refl v1).alloc _).more hg7 (fun q hq => by simp [Value.ownBlock] at hq; omega)
         have HM7 := Lib.hid hown7
         have HX7 := Lib.hid (HX1.out.trans hx7)
         have hs7 := hx7.size
         have hs1 := HX1.out.size
         obtain ⟨B7, cc7, ev7, hc7, _⟩ := hown7.slice HR0.out.1
         rw [HN0.out] at ev7
         subst ev7
         clear hown7 hg7 hat7 hx7 hc7)
      | (refine wpList_append_rd rfl (.tmp 21) (.tmp 22) rfl v1.heap.size (.slice B7 n0 cc7) l0 l1 rfl HM7.out a1 n1 c1 rfl HN1.out (HR1.out.ext HX7.out) (by rw [HN0.out, HN1.out]; omega) hs7 ?_; intro v8 w8 hown8 hg8 hat8
         have hx8 : Ext w w8 := HX7.out.more hg8 (fun q hq => Nat.le_trans hs1 (HM7.out.block q hq).1)
         obtain ⟨B8, cc8, ev8, hc8, hr8⟩ := hown8.slice HS.out
         rw [HN.out] at ev8 hc8
         subst ev8
         have HR8 := Lib.hid (fun W (hx : Ext w8 W) => hr8.ext hx)
         have HX8 := Lib.hid hx8
         clear hown8 hg8 hat8 hx8 hr8))
    go_wp2_with fail
    refine (H0.out _ HX8.out).mono ?_
    rintro e u1 ⟨rfl, hz⟩
    have HZ1 := Lib.hid (HX8.out.trans hz)
    have HY1 := Lib.hid ((Ext.refl _).trans hz)
    clear hz
    go_wp2_with fail
    refine (HQ0.out _ HZ1.out).mono ?_
    rintro e u2 ⟨rfl, hz⟩
    have HZ2 := Lib.hid (HZ1.out.trans hz)
    have HY2 := Lib.hid (HY1.out.trans hz)
    clear hz
    go_wp2_with fail
    refine (HOF.out B8 cc8 _ (HR8.out _ HY2.out) hc8).mono ?_
    rintro e u3 ⟨rfl, hz⟩
    have HZ3 := Lib.hid (HZ2.out.trans hz)
    have HY3 := Lib.hid (HY2.out.trans hz)
    clear hz
    go_wp2_with fail
    refine (HQF.out B8 cc8 _ (HR8.out _ HY3.out)).mono ?_
    rintro e u4 ⟨rfl, hz⟩
    have HZ4 := Lib.hid (HZ3.out.trans hz)
    have HY4 := Lib.hid (HY3.out.trans hz)
    clear hz
    go_wp2_with fail
    refine (H0.out _ HZ4.out).mono ?_
    rintro e u5 ⟨rfl, hz⟩
    have HZ5 := Lib.hid (HZ4.out.trans hz)
    have HY5 := Lib.hid (HY4.out.trans hz)
    clear hz
    go_wp2_with fail
    refine (HM01.out _ HZ5.out).mono ?_
    rintro e u6 ⟨rfl, hz⟩
    have HZ6 := Lib.hid (HZ5.out.trans hz)
    have HY6 := Lib.hid (HY5.out.trans hz)
    clear hz
    go_wp2_with fail
    refine (HQF.out B8 cc8 _ (HR8.out _ HY6.out)).mono ?_
    rintro e u7 ⟨rfl, hz⟩
    have HZ7 := Lib.hid (HZ6.out.trans hz)
    have HY7 := Lib.hid (HY6.out.trans hz)
    clear hz
    go_wp2_with fail
    refine (HM00.out _ HZ7.out).mono ?_
    rintro e u8 ⟨rfl, hz⟩
    have HZ8 := Lib.hid (HZ7.out.trans hz)
    have HY8 := Lib.hid (HY7.out.trans hz)
    clear hz
    go_wp2_with fail
    refine (H0.out _ HZ8.out).mono ?_
    rintro e u9 ⟨rfl, hz⟩
    have HZ9 := Lib.hid (HZ8.out.trans hz)
    have HY9 := Lib.hid (HY8.out.trans hz)
    clear hz
    go_wp2_with fail
    refine (H1.out _ HZ9.out).mono ?_
    rintro e u10 ⟨rfl, hz⟩
    have HZ10 := Lib.hid (HZ9.out.trans hz)
    have HY10 := Lib.hid (HY9.out.trans hz)
    clear hz
    go_wp2_with fail
    refine (HM1n.out _).mono ?_
    rintro e u11 ⟨rfl, hz⟩
    have HZ11 := Lib.hid (HZ10.out.trans hz)
    have HY11 := Lib.hid (HY10.out.trans hz)
    clear hz
    go_wp2_with fail
    refine (H1.out _ HZ11.out).mono ?_
    rintro e u12 ⟨rfl, hz⟩
    have HZ12 := Lib.hid (HZ11.out.trans hz)
    have HY12 := Lib.hid (HY11.out.trans hz)
    clear hz
    go_wp2_with fail
    go_ret
    exact ⟨rfl, HZ12.out⟩
  · have hor : decide (400 < (l0.length : Int)) = true ∨ (decide (400 < (l0.length : Int)) = false ∧ decide (400 < (l1.length : Int)) = true) := by
      by_cases h : 400 < (l0.length : Int)
      · exact .inl (decide_eq_true h)
      · exact .inr ⟨decide_eq_false h, decide_eq_true (by omega)⟩
    clear C hr0 hr1 hbig
    generalize l0.length = n0 at *
    generalize l1.length = n1 at *
    rcases hor with d1 | ⟨d1, d2⟩
    all_goals
      go_enter Try.func3, Try.ntmps3
      go_wp2_with fail
      refine (HAW.out w).mono ?_
      rintro e v1 ⟨rfl, hv1⟩
      have HX1 := Lib.hid hv1
      clear hv1
      go_wp2_with fail
      refine (HAW.out v1).mono ?_
      rintro e v2 ⟨rfl, hv2⟩
      have HX2 := Lib.hid (HX1.out.trans hv2)
      clear hv2
      go_wp2
      go_ret
      exact ⟨rfl, HX2.out⟩
end Go.Proofs.Ytmjndomjnhjncaa

/-
  What remainders of layer 9 does: of each four bits what dividing them leaves. Conditions: none.
-/
namespace Go.Proofs.Ytmjndomjnhjncaa
open Go.RowKit
open Pol (co Sm)

/-- Numbers of 32 bits as cells, by a function of the place. -/
def dt (n : Nat) (f : Nat → Nat) : Array Value := Array.ofFn (n := n) fun i => Value.int .u32 ((f i.val : Nat) : Int)
theorem dt_size (n : Nat) (f : Nat → Nat) : (dt n f).size = n := by simp [dt]
theorem dt_at (n : Nat) (f : Nat → Nat) (i : Nat) (h : i < n) : (dt n f)[i]? = some (.int .u32 ((f i : Nat) : Int)) := by simp [dt, h]
theorem dt_set (n : Nat) (f : Nat → Nat) (k v : Nat) : (dt n f).setIfInBounds k (.int .u32 (v : Int)) = dt n (upd f k v) := by
  apply Array.ext (by simp [dt])
  intro i h1 h2
  have hi : i < (dt n f).size := by simpa using h1
  rw [Array.getElem_setIfInBounds hi]
  simp only [dt, Array.getElem_ofFn, upd]
  by_cases e : k = i
  · subst e; simp
  · rw [if_neg e, if_neg (fun h => e h.symm)]
theorem dt_congr (n : Nat) {f g : Nat → Nat} (h : ∀ i, i < n → f i = g i) : dt n f = dt n g := by
  apply Array.ext (by simp [dt])
  intro i h1 h2
  have hi : i < n := by simpa [dt] using h1
  simp only [dt, Array.getElem_ofFn, h i hi]
/-- The block of a table of sixteen. -/
def TBk (w : World) (g : Nat) (f : Nat → Nat) : Prop := w.heap[g]? = some (.cells (dt 16 f) 50 (0, 0))
theorem TBk.cell {w : World} {g : Nat} {f : Nat → Nat} (h : TBk w g f) (i : Nat) (hi : i < 16) : w.cell? ⟨g, i, none⟩ = some (.int .u32 ((f i : Nat) : Int)) := by rw [cell_of_row w g i _ _ _ h, dt_at 16 f i hi]
theorem TBk.frozen {w : World} {g : Nat} {f : Nat → Nat} (h : TBk w g f) (i : Nat) : w.frozen? ⟨g, i, none⟩ = false := frozen_of_row w g i _ _ h
theorem TBk.store {w : World} {g : Nat} {f : Nat → Nat} (h : TBk w g f) (k v : Nat) : TBk (w.setCell ⟨g, k, none⟩ (.int .u32 (v : Int))) g (upd f k v) := by
  unfold TBk
  rw [heap_setCell_same w g k _ _ _ h, dt_set]
theorem TBk.congr {w : World} {g : Nat} {f f' : Nat → Nat} (h : TBk w g f) (hf : ∀ i, i < 16 → f i = f' i) : TBk w g f' := by
  unfold TBk at *
  rw [h, dt_congr 16 hf]
theorem TBk.lt {w : World} {g : Nat} {f : Nat → Nat} (h : TBk w g f) : g < w.heap.size := by
  rcases Nat.lt_or_ge g w.heap.size with hlt | hge
  · exact hlt
  · unfold TBk at h; rw [Array.getElem?_eq_none hge] at h; cases h
theorem TBk.ext {w w' : World} {g : Nat} {f : Nat → Nat} (h : TBk w g f) (hx : Ext w w') : TBk w' g f := (hx.below.block g h.lt).trans h
theorem zero_table : (∀ w, (zeroValue 50).run Try.prog w = .ok (.agg (dt 16 fun _ => 0)) w) ∧ (Try.prog.info? 50).map (·.size) = some 16 := by
  have e : dt 16 (fun _ => 0) = Array.replicate 16 (.int .u32 0) := by
    apply Array.ext (by simp [dt])
    intro i h1 h2
    simp [dt]
  rw [e]
  exact zero_of_info (by kernel_rfl)
theorem crz_mul (d : Nat) : crz d = d / 2 ^^^ (d % 2 * 3988292384) := by
  unfold crz
  split
  · rename_i h; rw [h, Nat.zero_mul, Nat.xor_zero]
  · rename_i h; rw [show d % 2 = 1 by omega, Nat.one_mul]
theorem dt_one (n : Nat) (f : Nat → Nat) : (dt n f).all (·.oneCell') = true := by
  rw [Array.all_eq_true]; intro i h; simp [dt, Value.oneCell']
theorem info16 (f : Nat → Nat) : (Try.prog.info? 50).map (·.size) = some (dt 16 f).size := by rw [dt_size]; exact zero_table.2
/-- The table as far as it is filled. -/
def rt (k : Nat) : Nat → Nat := fun i => if i < k then czn 4 i else 0
theorem rt_zero : dt 16 (rt 0) = #[.int .u32 0, .int .u32 0, .int .u32 0, .int .u32 0, .int .u32 0, .int .u32 0, .int .u32 0, .int .u32 0, .int .u32 0, .int .u32 0, .int .u32 0, .int .u32 0, .int .u32 0, .int .u32 0, .int .u32 0, .int .u32 0] := by
  have e : dt 16 (rt 0) = Array.replicate 16 (.int .u32 0) := by
    apply Array.ext (by simp [dt])
    intro i h1 h2
    simp [dt, rt]
  rw [e]
  rfl
theorem rt_succ (k i : Nat) : upd (rt k) k (czn 4 k) i = rt (k + 1) i := by
  unfold upd rt
  by_cases h : i = k
  · subst h; rw [if_pos rfl, if_pos (by omega)]
  · rw [if_neg h]
    by_cases h2 : i < k
    · rw [if_pos h2, if_pos (by omega)]
    · rw [if_neg h2, if_neg (by omega)]

set_option maxHeartbeats 800000 in
set_option maxRecDepth 100000 in
theorem cr_remainders (w : World) : Calls Try.prog 23 #[] w (Tells (.agg (dt 16 fun i => czn 4 i)) w) := by
  have HZ := Lib.hid rt_zero
  go_enter Try.func23, Try.ntmps23
  go_wp2
  go_loopg [6] 16 (fun g s wx => ∃ k : Nat, k + g = 16 ∧ s = .int .i64 (k : Int) ∧ TBk wx w.heap.size (rt 0) ∧ TBk wx (w.heap.size + 1) (rt k) ∧ Ext w wx)
  case atStart =>
    refine ⟨0, by omega, rfl, ?_, ?_, ((Ext.refl w).alloc _).alloc _⟩
    · unfold TBk; rw [HZ.out]; exact (heap_alloc_old (w.alloc _) _ (r := w.heap.size) (by simp)).trans (heap_alloc_new w _)
    · unfold TBk; rw [HZ.out]; have h := heap_alloc_new (w.alloc (.cells (dt 16 (rt 0)) 50)) (.cells (dt 16 (rt 0)) 50)
      rw [show (w.alloc (.cells (dt 16 (rt 0)) 50)).heap.size = w.heap.size + 1 from by simp, HZ.out] at h
      exact h
  case round =>
    obtain ⟨k, hkg, rfl, h0, h1, hx⟩ := hrel
    have H0 := Lib.hid h0
    have H1 := Lib.hid h1
    have HX := Lib.hid hx
    clear h0 h1 hx
    cases gk with
    | zero =>
      have hk16 : k = 16 := by omega
      have hkI : ¬ (k : Int) < 16 := by omega
      have d1 : decide ((k : Int) < 16) = false := decide_eq_false hkI
      have hg : wr.heap[w.heap.size + 1]? = some (.cells (dt 16 (rt k)) 50 (0, 0)) := H1.out
      rw [dt_congr 16 (f := rt k) (g := fun i => czn 4 i) (fun i hi => if_pos (by omega))] at hg
      have hin := info16 (fun i => czn 4 i)
      have hsz : (dt 16 (rt 0)).size = (dt 16 fun i => czn 4 i).size := by rw [dt_size, dt_size]
      have hon := dt_one 16 (fun i => czn 4 i)
      generalize hV : (dt 16 fun i => czn 4 i) = V at *
      have hg3 := setRow_heap wr w.heap.size _ V _ _ H0.out
      have HG0 := Lib.hid (show wr.heap[w.heap.size]? = some (.cells (dt 16 (rt 0)) 50 (0, 0)) from H0.out)
      have HVE := Lib.hid hV
      have HG := Lib.hid hg
      have HIN := Lib.hid hin
      have HSZ := Lib.hid hsz
      have HON := Lib.hid hon
      have HG3 := Lib.hid hg3
      have HX3 := Lib.hid (HX.out.setRow (Nat.le_refl _) V)
      clear hkg hk16 hg hin hsz hon hg3 hV
      go_wp2_with (first | (with_reducible refine wpList_load_row rfl 50 (.tmp 1) rfl (w.heap.size + 1) rfl 50 V (0, 0) _ HG.out Try.underlying50 rfl HIN.out ?_) | (with_reducible refine wpList_store_all rfl 50 (.tmp 0) (.tmp 25) rfl w.heap.size (dt 16 (rt 0)) V rfl rfl HG0.out HIN.out HSZ.out HON.out ?_))
      exact ⟨rfl, .agg V, results_cell_row Try.results23 _ _ w.heap.size 50 V (0, 0) _ rfl HG3.out Try.underlying50 rfl HIN.out, by rw [HVE.out], HX3.out⟩
    | succ g =>
      have hk : k < 16 := by omega
      have hkI : (k : Int) < 16 := by omega
      have HKG := Lib.hid hkg
      clear hkg
      obtain ⟨wo, hwo⟩ : ∃ wo, wo = wr := ⟨_, rfl⟩
      subst hwo
      go_wp2
      go_loopg [3, 11] 4 (fun g s3 s11 wx => ∃ j d : Nat, j + g = 4 ∧ s3 = .int .u32 (d : Int) ∧ s11 = .int .i64 (j : Int) ∧ d = czn j k ∧ wx = wo)
      case atStart => exact ⟨0, k, by omega, by go_num, rfl, rfl, rfl⟩
      case round =>
        obtain ⟨j, d, hjg, rfl, rfl, hd, rfl⟩ := hrel
        have hd32 : d < 4294967296 := by rw [hd]; exact czn_lt j (by omega)
        cases gk with
        | zero =>
          have hj4 : j = 4 := by omega
          have hjI : ¬ (j : Int) < 4 := by omega
          have d1 : decide ((j : Int) < 4) = false := decide_eq_false hjI
          rw [hj4] at hd
          have hfz := H1.out.frozen k
          have hc := H1.out.cell k hk
          have H0' := Lib.hid (show TBk (wr.setCell ⟨w.heap.size + 1, k, none⟩ (.int .u32 (d : Int))) w.heap.size (rt 0) from (heap_setCell_other wr ⟨w.heap.size + 1, k, none⟩ w.heap.size _ (by simp)).trans H0.out)
          have H1' := Lib.hid (show TBk (wr.setCell ⟨w.heap.size + 1, k, none⟩ (.int .u32 (d : Int))) (w.heap.size + 1) (rt (k + 1)) from by
            have h := H1.out.store k d
            rw [hd] at h ⊢
            exact h.congr (fun i _ => rt_succ k i))
          have HX' := Lib.hid (HX.out.setCell (p := ⟨w.heap.size + 1, k, none⟩) (by simp) (.int .u32 (d : Int)))
          clear hd hjg hj4
          go_wp2
          go_roundg g
          case measure => omega
          case rel => exact ⟨k + 1, by have := HKG.out; omega, by go_num, H0'.out, H1'.out, HX'.out⟩
        | succ g2 =>
          have hj : j < 4 := by omega
          have hjI : (j : Int) < 4 := by omega
          obtain ⟨u, hu⟩ : ∃ u, d % 2 = u := ⟨_, rfl⟩
          obtain ⟨h, hh⟩ : ∃ h, d / 2 = h := ⟨_, rfl⟩
          obtain ⟨p, hp⟩ : ∃ p, u * 3988292384 = p := ⟨_, rfl⟩
          obtain ⟨X, hX⟩ : ∃ X, h ^^^ p = X := ⟨_, rfl⟩
          have hu2 : u < 2 := by omega
          have hp32 : p < 4294967296 := by omega
          have HN := Lib.hid (show X = czn (j + 1) k from by rw [czn_succ, ← hd, crz_mul, hu, hh, hp, hX])
          have da : bits .and .u32 (d : Int) 1 = (u : Int) := by rw [← hu, ← Nat.and_one_is_mod]; exact u32_and_nat d 1 hd32 (by decide)
          have ds : (d : Int).tdiv 2 = (h : Int) := by rw [Int.tdiv_eq_ediv_of_nonneg (by omega)]; omega
          have ds' : (d : Int) / 2 = (h : Int) := by omega
          have dm : (u : Int) * 3988292384 = (p : Int) := by omega
          have hh32 : h < 4294967296 := by omega
          have dx : bits .xor .u32 (h : Int) (p : Int) = (X : Int) := by rw [← hX]; exact u32_xor_nat h p hh32 hp32
          have hX32 : X < 4294967296 := by rw [HN.out]; exact czn_lt _ (by omega)
          clear hd hu hh hp hX
          go_wp2
          go_roundg g2
          case measure => omega
          case rel => exact ⟨j + 1, X, by omega, by go_num, by go_num, HN.out, rfl⟩
end Go.Proofs.Ytmjndomjnhjncaa

/-
  What More and Of of layer 9 do: the bytes' state by groups of four bits. Conditions: no more than 2^16 bytes.
-/
namespace Go.Proofs.Ytmjndomjnhjncaa
open Go.RowKit
open Pol (co Sm)

/-- By a table of sixteen: four bits at once. -/
theorem czn_nib (r : Nat) : czn 4 r = r / 16 ^^^ czn 4 (r % 16) := by
  have h2 : r = 2 ^ 4 * (r / 16) ^^^ r % 16 := by
    rw [← add_xor 4 _ _ (Nat.mod_lt _ (by decide)), show (2 : Nat) ^ 4 = 16 from rfl]
    omega
  conv => lhs; rw [h2]
  rw [czn_lin, czn_pow]
theorem czn_four (r m : Nat) : czn (4 * (m + 1)) r = czn (4 * m) r / 16 ^^^ czn 4 (czn (4 * m) r % 16) := by
  rw [Nat.mul_succ, czn_add, czn_nib]
theorem not_u32 {x : Nat} (h : x < 4294967296) : bits .xor .u32 IntKind.u32.max (x : Int) = ((x ^^^ 4294967295 : Nat) : Int) := by
  have h1 := u32_xor_nat 4294967295 x (by decide) h
  rw [Nat.xor_comm] at h1
  exact h1

set_option maxHeartbeats 1600000 in
set_option maxRecDepth 100000 in
theorem cr_more (s : Nat) (l : List Nat) (A : Option Addr) (ca : Nat) (w : World) (hs : s < 4294967296) (hr : Rd w A l) (hl : l.length ≤ 65536) :
    Calls Try.prog 13 #[.int .u32 (s : Int), .slice A l.length ca] w (Tells (.int .u32 ((crf (s ^^^ 4294967295) (co l) l.length ^^^ 4294967295 : Nat) : Int)) w) := by
  obtain ⟨s0, hs0⟩ : ∃ s0, s ^^^ 4294967295 = s0 := ⟨_, rfl⟩
  have hs32 : s0 < 4294967296 := by rw [← hs0]; exact Nat.xor_lt_two_pow (n := 32) hs (by decide)
  have hs1 : bits .xor .u32 IntKind.u32.max (s : Int) = (s0 : Int) := by rw [not_u32 hs, hs0]
  rw [hs0]
  obtain ⟨n, hn⟩ : ∃ n, l.length = n := ⟨_, rfl⟩
  have HCR := Lib.hid (fun j => crf_lt (c := s0) (f := co l) hs32 hr.1 j)
  have HSM := Lib.hid hr.1
  have HR := Lib.hid hr
  have HN := Lib.hid hn
  obtain ⟨V, hV⟩ : ∃ V, crf s0 (co l) n ^^^ 4294967295 = V := ⟨_, rfl⟩
  rw [hn] at hl ⊢
  rw [hV]
  have HV := Lib.hid (show bits .xor .u32 IntKind.u32.max ((crf s0 (co l) n : Nat) : Int) = (V : Int) from by rw [not_u32 (HCR.out n), hV])
  have HRM := Lib.hid (cr_remainders w)
  clear hr hs0 hn hV
  go_enter Try.func13, Try.ntmps13
  go_wp2_with fail
  refine HRM.out.mono ?_
  rintro e w1 ⟨rfl, hx1⟩
  have hz := zero_table.1
  have h0 := heap_alloc_new w1 (.cells (dt 16 fun _ => 0) 50)
  have hx2 := hx1.alloc (.cells (dt 16 fun _ => 0) 50)
  have hin := info16 (fun i => czn 4 i)
  have hsz : (dt 16 fun _ => 0).size = (dt 16 fun i => czn 4 i).size := by rw [dt_size, dt_size]
  have hon := dt_one 16 (fun i => czn 4 i)
  have ht := fun (w : World) (g : Nat) (h : w.heap[g]? = some (.cells (dt 16 fun i => czn 4 i) 50 (0, 0))) => (show TBk w g (fun i => czn 4 i) from h)
  generalize (dt 16 fun i => czn 4 i) = V2 at *
  have hb := ht _ _ (setRow_heap _ _ _ V2 _ _ h0)
  have hx3 := hx2.setRow (g := w1.heap.size) hx1.size V2
  obtain ⟨w2, hw2⟩ : ∃ w2, (w1.alloc (Obj.cells (dt 16 fun _ => 0) 50)).setRow w1.heap.size V2 = w2 := ⟨_, rfl⟩
  rw [hw2] at hb hx3
  have HW2 := Lib.hid hw2
  have HG0 := Lib.hid h0
  have HIN := Lib.hid hin
  have HSZ := Lib.hid hsz
  have HON := Lib.hid hon
  have HB := Lib.hid hb
  have HX := Lib.hid hx3
  clear hw2 h0 hx1 hx2 hin hsz hon ht hb hx3
  go_wp2_with (first | (with_reducible refine wpList_alloc_zero rfl 50 rfl (dt 16 fun _ => 0) hz ?_) | (with_reducible refine wpList_store_all rfl 50 (.tmp 5) (.tmp 10) rfl w1.heap.size (dt 16 fun _ => 0) V2 rfl rfl HG0.out HIN.out HSZ.out HON.out ?_; rw [HW2.out]))
  clear hz
  clear hs1
  generalize w1.heap.size = tb at HB ⊢
  have HR2 := Lib.hid (HR.out.ext HX.out)
  go_loopg [6, 15] n (fun g s6 s15 wx => ∃ j c : Nat, j + g = n ∧ c = crf s0 (co l) j ∧ s6 = .int .u32 (c : Int) ∧ s15 = .int .i64 (j : Int) ∧ w2 = wx)
  case atStart => exact ⟨0, s0, by omega, rfl, rfl, rfl, rfl⟩
  case round =>
    obtain ⟨j, c, hjg, hc, rfl, rfl, rfl⟩ := hrel
    have hc32 : c < 4294967296 := by rw [hc]; exact HCR.out j
    cases gk with
    | zero =>
      have hjn : j = n := by omega
      have hv : bits .xor .u32 IntKind.u32.max (c : Int) = (V : Int) := by rw [hc, hjn]; exact HV.out
      have hjI : ¬ (j : Int) < (n : Int) := by omega
      have d1 : decide ((j : Int) < (n : Int)) = false := decide_eq_false hjI
      clear hc hjg hjn
      go_wp2
      go_ret
      exact ⟨rfl, HX.out⟩
    | succ g =>
      have hj : j < n := by omega
      have hjI : (j : Int) < (n : Int) := by omega
      obtain ⟨b0, o, rfl, hcb⟩ := HR2.out.2 j (by rw [HN.out]; exact hj)
      have hb256 : co l j < 256 := HSM.out j
      have hb32 : co l j < 4294967296 := by omega
      obtain ⟨x, hx⟩ : ∃ x, c ^^^ co l j = x := ⟨_, rfl⟩
      have HC := Lib.hid (show crf s0 (co l) (j + 1) = czn (4 * 2) x from by
        rw [crf, ← hc, hx])
      have hx32 : x < 4294967296 := by rw [← hx]; exact Nat.xor_lt_two_pow (n := 32) hc32 hb32
      obtain ⟨b, hb⟩ : ∃ b, co l j = b := ⟨_, rfl⟩
      rw [hb] at hcb hb256 hb32 hx
      have q1 : IntKind.u32.wrap (b : Int) = (b : Int) := by rw [IntKind.wrap_u32]; omega
      have ex : bits .xor .u32 (c : Int) (b : Int) = (x : Int) := by rw [← hx]; exact u32_xor_nat c b hc32 hb32
      have HJG := Lib.hid hjg
      clear hc hb hjg hx
      go_wp2
      go_loopg [6, 23] 2 (fun g s6 s23 wx => ∃ m r : Nat, m + g = 2 ∧ r = czn (4 * m) x ∧ s6 = .int .u32 (r : Int) ∧ s23 = .int .i64 (m : Int) ∧ w2 = wx)
      case atStart => exact ⟨0, x, by omega, rfl, rfl, rfl, rfl⟩
      case round =>
        obtain ⟨m, r, hmg, hr, rfl, rfl, rfl⟩ := hrel
        have hr32 : r < 4294967296 := by rw [hr]; exact czn_lt _ hx32
        cases gk with
        | zero =>
          have hm2 : m = 2 := by omega
          have hmI : ¬ (m : Int) < 2 := by omega
          have d1 : decide ((m : Int) < 2) = false := decide_eq_false hmI
          have HF := Lib.hid (show r = crf s0 (co l) (j + 1) from by rw [HC.out, hr, hm2])
          clear hr hmg hm2
          go_wp2
          go_roundg g
          case measure => omega
          case rel => exact ⟨j + 1, r, by have := HJG.out; omega, HF.out, rfl, by go_num, rfl⟩
        | succ g2 =>
          have hm : m < 2 := by omega
          have hmI : (m : Int) < 2 := by omega
          obtain ⟨u, hu⟩ : ∃ u, r % 16 = u := ⟨_, rfl⟩
          obtain ⟨h, hh⟩ : ∃ h, r / 16 = h := ⟨_, rfl⟩
          obtain ⟨p, hp⟩ : ∃ p, czn 4 u = p := ⟨_, rfl⟩
          obtain ⟨X, hX⟩ : ∃ X, h ^^^ p = X := ⟨_, rfl⟩
          have hu16 : u < 16 := by omega
          have huI : (u : Int) < 16 := by omega
          have hp32 : p < 4294967296 := by rw [← hp]; exact czn_lt 4 (by omega)
          have hct := HB.out.cell u hu16
          rw [hp] at hct
          have HN2 := Lib.hid (show X = czn (4 * (m + 1)) x from by rw [czn_four, ← hr, hu, hh, hp, hX])
          have hh32 : h < 4294967296 := by omega
          have e1 : (r : Int).tmod 16 = (u : Int) := by rw [Int.tmod_eq_emod_of_nonneg (by omega)]; omega
          have e1' : (r : Int) % 16 = (u : Int) := by omega
          have e2 : (r : Int).tdiv 16 = (h : Int) := by rw [Int.tdiv_eq_ediv_of_nonneg (by omega)]; omega
          have e2' : (r : Int) / 16 = (h : Int) := by omega
          have dx : bits .xor .u32 (h : Int) (p : Int) = (X : Int) := by rw [← hX]; exact u32_xor_nat h p hh32 hp32
          clear hr hu hh hp hX
          go_wp2
          go_roundg g2
          case measure => omega
          case rel => exact ⟨m + 1, X, by omega, HN2.out, by go_num, by go_num, rfl⟩
theorem cr_of (l : List Nat) (A : Option Addr) (ca : Nat) (w : World) (hr : Rd w A l) (hl : l.length ≤ 65536) :
    Calls Try.prog 11 #[.slice A l.length ca] w (Tells (.int .u32 ((crcl l : Nat) : Int)) w) := by
  have HM := Lib.hid (cr_more 0 l A ca w (by decide) hr hl)
  rw [Nat.zero_xor] at HM
  obtain ⟨v, hv⟩ : ∃ v, crcl l = v := ⟨_, rfl⟩
  rw [show crf 4294967295 (co l) l.length ^^^ 4294967295 = crcl l from rfl, hv] at HM
  rw [hv]
  clear hr hl hv
  go_enter Try.func11, Try.ntmps11
  go_wp2_with fail
  refine HM.out.mono ?_
  rintro e w1 ⟨rfl, hx1⟩
  have HX := Lib.hid hx1
  clear hx1
  go_wp2
  go_ret
  exact ⟨rfl, HX.out⟩
end Go.Proofs.Ytmjndomjnhjncaa

/-
  What fits, header of layer 9 and bytes.Clone do. Conditions: no more than 2^16 bytes for header.
-/
namespace Go.Proofs.Ytmjndomjnhjncaa
open Go.RowKit
open Pol (co Sm)

theorem cr_fits_yes (n : Nat) (h1 : 1 ≤ n) (h2 : n ≤ 1000) (w : World) : Calls Try.prog 24 #[.int .i64 (n : Int)] w (fun e w' => e = .returned (.bool true) ∧ w = w') := by
  have d1 : decide ((n : Int) < 1) = false := decide_eq_false (by omega)
  have d1' : decide (1 ≤ (n : Int)) = true := decide_eq_true (by omega)
  have d2 : decide ((n : Int) ≤ 1000) = true := decide_eq_true (by omega)
  have d2' : decide (1000 < (n : Int)) = false := decide_eq_false (by omega)
  go_enter Try.func24, Try.ntmps24
  go_wp2
  go_ret
  exact ⟨rfl, rfl⟩
theorem cr_fits_no (n : Nat) (h : ¬ (1 ≤ n ∧ n ≤ 1000)) (w : World) : Calls Try.prog 24 #[.int .i64 (n : Int)] w (fun e w' => e = .returned (.bool false) ∧ w = w') := by
  by_cases h1 : 1 ≤ n
  · have d1 : decide ((n : Int) < 1) = false := decide_eq_false (by omega)
    have d1' : decide (1 ≤ (n : Int)) = true := decide_eq_true (by omega)
    have d2 : decide ((n : Int) ≤ 1000) = false := decide_eq_false (by omega)
    have d2' : decide (1000 < (n : Int)) = true := decide_eq_true (by omega)
    clear h
    go_enter Try.func24, Try.ntmps24
    go_wp2
    go_ret
    exact ⟨rfl, rfl⟩
  · have d1 : decide ((n : Int) < 1) = true := decide_eq_true (by omega)
    have d1' : decide (1 ≤ (n : Int)) = false := decide_eq_false (by omega)
    clear h
    go_enter Try.func24, Try.ntmps24
    go_wp2
    go_ret
    exact ⟨rfl, rfl⟩
/-- Bytes of a call's own that read as these. -/
def CloneS (t : List Nat) (w : World) (e : Ending) (w' : World) : Prop := Ext w w' ∧ ∃ v, e = .returned v ∧ Mine w' w.heap.size v t
set_option maxHeartbeats 800000 in
set_option maxRecDepth 100000 in
theorem cr_clone (t : List Nat) (A : Option Addr) (c : Nat) (w : World) (hr : Rd w A t) (hl : t.length ≤ 65536) : Calls Try.prog 27 #[.slice A t.length c] w (CloneS t w) := by
  unfold CloneS
  have HR := Lib.hid hr
  obtain ⟨n, hn⟩ : ∃ n, t.length = n := ⟨_, rfl⟩
  have HN := Lib.hid hn
  rw [hn] at hl ⊢
  have qn : ∀ (W : World) (B : Option Addr) (n c : Nat), (binOp .eql 22 (.slice B n c) (.slice none 0 0)).run Try.prog W = .ok (.bool B.isNone) W := fun W B n c => Lib.run_eql_slice_nil W _ _ B n c 0 0 Try.underlying22
  cases A with
  | none =>
    have ht : t = [] := by
      rcases Nat.eq_zero_or_pos t.length with h | h
      · exact List.eq_nil_of_length_eq_zero h
      · obtain ⟨_, _, e, _⟩ := hr.2 0 h; cases e
    have HT := Lib.hid ht
    clear hr hn ht
    go_enter Try.func27, Try.ntmps27
    go_wp2
    skip
    go_ret
    exact ⟨Ext.refl _, _, rfl, by rw [HT.out]; exact Mine.nil _ _⟩
  | some a =>
    have hx := (Ext.refl w).alloc (.cells #[] 5)
    have HX := Lib.hid hx
    have HM := Lib.hid (mine_empty w)
    clear hr hn hx
    go_enter Try.func27, Try.ntmps27
    go_wp2_with (at_builtin; refine wpList_append_rd rfl (.tmp 5) (.tmp 6) rfl w.heap.size (.slice (some ⟨w.heap.size, 0, none⟩) 0 0) [] t rfl HM.out (some a) n c rfl HN.out (HR.out.ext HX.out) (by rw [HN.out]; simp; omega) HX.out.size ?_; intro v' w3 hown' hg' hat'; rw [List.nil_append] at hown'; have HM2 := Lib.hid hown'; have HX2 := Lib.hid (HX.out.more hg' (fun k e => (HM.out.block k e).1)); clear hown' hg' hat')
    go_ret
    exact ⟨HX2.out, _, rfl, HM2.out⟩
def Z6 : Array Value := #[.int .u8 0, .int .u8 0, .int .u8 0, .int .u8 0, .int .u8 0, .int .u8 0]
theorem zero6 : (Try.prog.info? 53).map (·.size) = some 6 := (zero_of_info (v := .agg (Array.replicate 6 (.int .u8 0))) (by kernel_rfl)).2
theorem header_cells (t : List Nat) : (bv (t.length / 256 :: t.length % 256 :: cbs (crcl t))).toArray = #[.int .u8 ((t.length / 256 : Nat) : Int), .int .u8 ((t.length % 256 : Nat) : Int), .int .u8 ((crcl t / 16777216 : Nat) : Int), .int .u8 ((crcl t / 65536 % 256 : Nat) : Int), .int .u8 ((crcl t / 256 % 256 : Nat) : Int), .int .u8 ((crcl t % 256 : Nat) : Int)] := rfl
set_option maxHeartbeats 800000 in
set_option maxRecDepth 100000 in
theorem cr_header (t : List Nat) (A : Option Addr) (c : Nat) (w : World) (hr : Rd w A t) (hl : t.length ≤ 65535) :
    Calls Try.prog 25 #[.slice A t.length c] w (Tells (.agg (bv (t.length / 256 :: t.length % 256 :: cbs (crcl t))).toArray) w) := by
  have HO0 := Lib.hid (fun W (hx : Ext w W) => cr_of t A c W (hr.ext hx) (by omega))
  have hcl := crcl_lt hr.1
  rw [header_cells]
  obtain ⟨C, hC⟩ : ∃ C, crcl t = C := ⟨_, rfl⟩
  obtain ⟨n, hn⟩ : ∃ n, t.length = n := ⟨_, rfl⟩
  rw [hn, hC] at HO0 ⊢
  rw [hC] at hcl
  rw [hn] at hl
  obtain ⟨x0, hx0⟩ : ∃ x, n / 256 = x := ⟨_, rfl⟩
  obtain ⟨x1, hx1⟩ : ∃ x, n % 256 = x := ⟨_, rfl⟩
  obtain ⟨y0, hy0⟩ : ∃ x, C / 16777216 = x := ⟨_, rfl⟩
  obtain ⟨y1, hy1⟩ : ∃ x, C / 65536 = x := ⟨_, rfl⟩
  obtain ⟨y2, hy2⟩ : ∃ x, C / 256 = x := ⟨_, rfl⟩
  obtain ⟨z1, hz1⟩ : ∃ x, y1 % 256 = x := ⟨_, rfl⟩
  obtain ⟨z2, hz2⟩ : ∃ x, y2 % 256 = x := ⟨_, rfl⟩
  obtain ⟨z3, hz3⟩ : ∃ x, C % 256 = x := ⟨_, rfl⟩
  rw [hx0, hx1, hy0, hy1, hy2, hz1, hz2, hz3]
  have e0 : (n : Int).tdiv 256 = (x0 : Int) := by rw [Int.tdiv_eq_ediv_of_nonneg (by omega)]; omega
  have e0' : (n : Int) / 256 = (x0 : Int) := by omega
  have e2 : (C : Int) / 16777216 = (y0 : Int) := by omega
  have e3 : (C : Int) / 65536 = (y1 : Int) := by omega
  have e4 : (C : Int) / 256 = (y2 : Int) := by omega
  have w0 : IntKind.u8.wrap (x0 : Int) = (x0 : Int) := IntWalk.u8_in _ (by omega)
  have w1 : IntKind.u8.wrap (n : Int) = (x1 : Int) := by rw [IntKind.wrap_u8]; omega
  have w2 : IntKind.u8.wrap (y0 : Int) = (y0 : Int) := IntWalk.u8_in _ (by omega)
  have w3 : IntKind.u8.wrap (y1 : Int) = (z1 : Int) := by rw [IntKind.wrap_u8]; omega
  have w4 : IntKind.u8.wrap (y2 : Int) = (z2 : Int) := by rw [IntKind.wrap_u8]; omega
  have w5 : IntKind.u8.wrap (C : Int) = (z3 : Int) := by rw [IntKind.wrap_u8]; omega
  have hbx : x0 < 256 ∧ x1 < 256 ∧ y0 < 256 := by omega
  have hby : y1 < 4294967296 ∧ y2 < 4294967296 ∧ z1 < 256 ∧ z2 < 256 ∧ z3 < 256 := by omega
  obtain ⟨hb1, hb2, hb3⟩ := hbx
  obtain ⟨hb4, hb5, hb6, hb7, hb8⟩ := hby
  clear hx0 hx1 hy0 hy1 hy2 hz1 hz2 hz3 hC hn hr
  have HX0 := Lib.hid ((Ext.refl w).alloc (.cells #[.int .u8 0, .int .u8 0, .int .u8 0, .int .u8 0, .int .u8 0, .int .u8 0] 53))
  have HO2 := Lib.hid (fun W (hx : Ext w W) => show Calls Try.prog 11 #[.slice A n c] W (Tells (.int .u32 (C : Int)) W) from HO0.out W hx)
  go_enter Try.func25, Try.ntmps25
  go_wp2_with fail
  refine (HO2.out _ HX0.out).mono ?_
  rintro e w1 ⟨rfl, hx1⟩
  have hg := (hx1.below.block w.heap.size (by simp)).trans (heap_alloc_new w (.cells Z6 53))
  have hin : (Try.prog.info? 53).map (·.size) = some (#[.int .u8 (x0 : Int), .int .u8 (x1 : Int), .int .u8 (y0 : Int), .int .u8 (z1 : Int), .int .u8 (z2 : Int), .int .u8 (z3 : Int)] : Array Value).size := zero6
  have hon : (#[.int .u8 (x0 : Int), .int .u8 (x1 : Int), .int .u8 (y0 : Int), .int .u8 (z1 : Int), .int .u8 (z2 : Int), .int .u8 (z3 : Int)] : Array Value).all (·.oneCell') = true := by simp [Value.oneCell']
  have hsz : Z6.size = (#[.int .u8 (x0 : Int), .int .u8 (x1 : Int), .int .u8 (y0 : Int), .int .u8 (z1 : Int), .int .u8 (z2 : Int), .int .u8 (z3 : Int)] : Array Value).size := rfl
  obtain ⟨V, hV⟩ : ∃ V, (#[.int .u8 (x0 : Int), .int .u8 (x1 : Int), .int .u8 (y0 : Int), .int .u8 (z1 : Int), .int .u8 (z2 : Int), .int .u8 (z3 : Int)] : Array Value) = V := ⟨_, rfl⟩
  rw [hV] at hin hon hsz ⊢
  have hg3 := setRow_heap w1 w.heap.size Z6 V _ _ hg
  have HV := Lib.hid hV
  have HG := Lib.hid hg
  have HIN := Lib.hid hin
  have HON := Lib.hid hon
  have HSZ := Lib.hid hsz
  have HG3 := Lib.hid hg3
  have HX3 := Lib.hid ((HX0.out.trans hx1).setRow (g := w.heap.size) (Nat.le_refl _) V)
  clear hx1 hg hin hon hsz hV hg3
  go_wp2_with (first | (rw [HV.out]; with_reducible refine wpList_store_all rfl 53 (.tmp 2) (.tmp 25) rfl w.heap.size Z6 V rfl rfl HG.out HIN.out HSZ.out HON.out ?_))
  exact ⟨rfl, .agg V, results_cell_row Try.results25 _ _ w.heap.size 53 V (0, 0) _ rfl HG3.out Try.underlying53 rfl HIN.out, by rw [HV.out], HX3.out⟩
end Go.Proofs.Ytmjndomjnhjncaa

/-
  What Frame of layer 9 does. Conditions: none.
-/
namespace Go.Proofs.Ytmjndomjnhjncaa
open Go.RowKit
open Pol (co Sm)

set_option maxRecDepth 100000 in
/-- An append to a slice without room. -/
theorem run_append_full9 (w : World) (ty : TypeId) (b o n c : Nat) (l m : List Nat) (hn : l.length = n) (hr : Rd w (some ⟨b, o, none⟩) l) (a : Addr) (hm : Rd w (some a) m) (h0 : 0 < m.length) (hlen : l.length + m.length ≤ 1099511627776) :
    ∃ v' w', (Builtin.append_ #[22, 22] ty #[.slice (some ⟨b, o, none⟩) n n, .slice (some a) m.length c]).run Try.prog w = .ok v' w' ∧ Mine w' w.heap.size v' (l ++ m) ∧ Ext w w' := by
  subst hn
  obtain ⟨i0, hi, hz0, hz1, hz2⟩ := info_parts u8_info
  have hcells : ∀ (L : List Nat) (A : Addr), Rd w (some A) L → ∀ j u, (bv L)[j]? = some u → w.cell? (A.add j) = some u := fun L A h j u hu => by
    have hj : j < L.length := by
      have := (List.getElem?_eq_some_iff.1 hu).1
      rwa [bv_len] at this
    obtain ⟨b, o, e, hc⟩ := h.2 j hj
    injection e with e
    subst e
    rw [addr_add, hc, ← bv_at L j hj, hu]
  obtain ⟨v', w', h1, h2, h3⟩ := run_append_arg_grows (P := Try.prog) w 22 ty 5 i0 (.int .u8 0) 1 1 Try.underlying22 hi hz0 hz1 hz2 rfl (by omega) ⟨b, o, none⟩ l.length l.length (bv l) (by rw [bv_len, Nat.mul_one]) (hcells l _ hr)
    a m.length c (bv m) (by rw [bv_len, Nat.mul_one]) (hcells m _ hm) (by omega) (by unfold maxLen; omega) (by omega)
  exact ⟨v', w', h1, by unfold Mine; rw [List.length_append, bv_append]; exact h2, (Ext.refl w).more h3 (fun k e => by cases e)⟩
theorem wpList_append_full9 {ops : Array Oper} {rest : List Oper} {op : Oper} {a : Act} {w : World} {Q : Exit → Act → World → Prop} (hgd : op.guard = none) (s x : Operand)
    (ho : op.op = .call { callee := .builtin .append, args := #[s, x], argTypes := #[22, 22] })
    (b o n : Nat) (l m : List Nat) (hs : a.eval s = .slice (some ⟨b, o, none⟩) n n) (hn : l.length = n) (hr : Rd w (some ⟨b, o, none⟩) l) (A : Addr) (c k : Nat) (hx : a.eval x = .slice (some A) k c) (hk : m.length = k) (hm : Rd w (some A) m) (h0 : 0 < m.length)
    (hlen : l.length + m.length ≤ 1099511627776)
    (h : ∀ v' w', Mine w' w.heap.size v' (l ++ m) → Ext w w' → wpList Try.prog ops Q rest (a.put op.dst v') w') : wpList Try.prog ops Q (op :: rest) a w := by
  subst hk
  refine wpList_plain hgd fun K hK => ?_
  obtain ⟨v', w', hrun, h2, h3⟩ := run_append_full9 w op.type b o n c l m hn hr A hm h0 hlen
  unfold Oper.wp execOp
  simp only [ho, resolve, invoke, builtin, Sem.run_bind, Sem.run_pure, Result.andThen_ok, List.map_toArray, List.map_cons, List.map_nil, hs, hx, hrun]
  exact hK _ _ (h v' w' h2 h3)
/-- A frame's head. -/
def hd6 (t : List Nat) : List Nat := t.length / 256 :: t.length % 256 :: cbs (crcl t)
theorem hd6_len (t : List Nat) : (hd6 t).length = 6 := rfl
theorem fr_hd6 (t : List Nat) : fr t = hd6 t ++ t := rfl
theorem hd6_sm {t : List Nat} (h : Sm t) (hl : t.length ≤ 65535) : Sm (hd6 t) := by
  have hc := crcl_lt h
  exact Sm.cons (by omega) (Sm.cons (by omega) (cbs_sm hc))
theorem Mine.ownT {w : World} {base : Nat} {v : Value} {t : List Nat} (h : Mine w base v t) (hs : Sm t) : OwnT base v w t := by
  obtain ⟨B, c, rfl, hc, hr⟩ := h.slice hs
  exact ⟨B, c, rfl, hc, hr, fun b o e _ => (h.block b (by rw [e]; rfl)).1⟩
theorem Mine.ownW {w : World} {base : Nat} {v : Value} {t : List Nat} (h : Mine w base v t) (hs : Sm t) : OwnW base v w t := by
  obtain ⟨B, c, rfl, hc, hr⟩ := h.slice hs
  refine ⟨B, c, rfl, hc, hr, fun b o e _ => ⟨(h.block b (by rw [e]; rfl)).1, fun i _ => ?_⟩⟩
  subst e
  rcases h.2 with ⟨e, _⟩ | ⟨g, cap, cur, e, _, hg, _⟩
  · cases e
  · injection e with e1 e2 e3
    injection e1 with e1
    injection e1 with e1 e2
    subst e1; subst e2
    rw [Nat.zero_add]
    exact frozen_of_row w b i cur _ hg
set_option maxHeartbeats 800000 in
set_option maxRecDepth 100000 in
theorem cr_frame (l : List Nat) (A : Option Addr) (c : Nat) (w : World) (hr : Rd w A l) :
    Calls Try.prog 14 #[.slice A l.length c] w (FrameS l w) := by
  unfold FrameS
  by_cases hf : FrOk l
  · obtain ⟨hf1, hf2⟩ := hf
    have HF := Lib.hid (cr_fits_yes l.length hf1 hf2 w)
    have HH := Lib.hid (cr_header l A c w hr (by omega))
    obtain ⟨a, ha⟩ : ∃ a, A = some a := by
      obtain ⟨b, o, e, _⟩ := hr.addr (by omega)
      exact ⟨_, e⟩
    subst ha
    have HR := Lib.hid hr
    have HS := Lib.hid (hd6_sm hr.1 (by omega))
    have HFR := Lib.hid (fr_sm hr.1 ⟨hf1, hf2⟩)
    have HFO := Lib.hid (show FrOk l from ⟨hf1, hf2⟩)
    have HFH := Lib.hid (fr_hd6 l)
    have hv : (bv (hd6 l)).toArray.size = 6 := by simp [bv_len, hd6_len]
    have hone : (bv (hd6 l)).toArray.all (·.oneCell') = true := by
      rw [Array.all_eq_true]; intro i h; exact bv_one (hd6 l) _ (by simp)
    have HRD := Lib.hid (fun (W : World) (g : Nat) (h : W.heap[g]? = some (.cells (bv (hd6 l)).toArray 53 (0, 0))) => show Rd W (some ⟨g, 0, none⟩) (hd6 l) from
      ⟨hd6_sm hr.1 (by omega), fun i hi => ⟨g, 0, rfl, by rw [Nat.zero_add, cell_of_row W g i _ _ _ h]; simpa using bv_at (hd6 l) i hi⟩⟩)
    rw [show (bv (l.length / 256 :: l.length % 256 :: cbs (crcl l))).toArray = (bv (hd6 l)).toArray from rfl] at HH
    obtain ⟨V, hV⟩ : ∃ V, (bv (hd6 l)).toArray = V := ⟨_, rfl⟩
    rw [hV] at HH HRD hv hone
    obtain ⟨H6, hH6⟩ : ∃ H, hd6 l = H := ⟨_, rfl⟩
    have h6 : H6.length = 6 := by rw [← hH6]; rfl
    rw [hH6] at HFH HS HRD
    have H6L := Lib.hid h6
    have HVS := Lib.hid hv
    have HON := Lib.hid hone
    obtain ⟨n, hn⟩ : ∃ n, l.length = n := ⟨_, rfl⟩
    have HN := Lib.hid hn
    rw [hn] at HF HH hf1 hf2 ⊢
    clear hr hV hH6 hn hv hone h6
    go_enter Try.func14, Try.ntmps14
    go_wp2_with fail
    refine HF.out.mono ?_
    rintro e w1 ⟨rfl, rfl⟩
    go_wp2_with fail
    refine HH.out.mono ?_
    rintro e w1 ⟨rfl, hx1⟩
    have hg := heap_alloc_new w1 (.cells Z6 53)
    have hg3 := setRow_heap _ w1.heap.size Z6 V _ _ hg
    have hx3 := (hx1.alloc (.cells Z6 53)).setRow (g := w1.heap.size) hx1.size V
    have hin : (Try.prog.info? 53).map (·.size) = some V.size := by rw [HVS.out]; exact zero6
    have hsz : Z6.size = V.size := by rw [HVS.out]; rfl
    obtain ⟨w2, hw2⟩ : ∃ w2, (w1.alloc (.cells Z6 53)).setRow w1.heap.size V = w2 := ⟨_, rfl⟩
    rw [hw2] at hg3 hx3
    unfold Z6 at hg hw2 hsz
    have HW2 := Lib.hid hw2
    have HG := Lib.hid hg
    have HIN := Lib.hid hin
    have HSZ := Lib.hid hsz
    have HX := Lib.hid hx3
    have HR6 := Lib.hid (HRD.out _ _ hg3)
    have HRW := Lib.hid (HR.out.ext hx3)
    clear hx1 hg hg3 hx3 hin hsz hw2
    go_wp2_with (first | (with_reducible refine wpList_store_all rfl 53 (.tmp 4) (.tmp 10) rfl w1.heap.size _ V rfl rfl HG.out HIN.out HSZ.out HON.out ?_; rw [HW2.out]) | (at_builtin; refine wpList_append_full9 rfl (.tmp 11) (.tmp 12) rfl w1.heap.size 0 6 H6 l rfl H6L.out HR6.out a c n rfl HN.out HRW.out (by rw [HN.out]; omega) (by rw [H6L.out, HN.out]; omega) ?_; intro v3 w3 hm3 hx3; rw [← HFH.out] at hm3; have HM3 := Lib.hid hm3; have HX3 := Lib.hid (HX.out.trans hx3); clear hm3 hx3))
    go_ret2
    obtain ⟨B, cc, rfl, hcc, hrr⟩ := HM3.out.slice HFR.out
    exact ⟨HX3.out, .inl ⟨HFO.out, _, rfl, B, cc, rfl, hcc, hrr, fun b o e _ => Nat.le_trans HX.out.size (HM3.out.block b (by rw [e]; rfl)).1⟩⟩
  · have HF := Lib.hid (cr_fits_no l.length hf w)
    have HNO := Lib.hid hf
    generalize l.length = n at *
    clear hr hf
    go_enter Try.func14, Try.ntmps14
    go_wp2_with fail
    refine HF.out.mono ?_
    rintro e w1 ⟨rfl, rfl⟩
    go_wp2
    go_ret2
    exact ⟨Ext.refl _, .inr ⟨HNO.out, none, 0, rfl⟩⟩
end Go.Proofs.Ytmjndomjnhjncaa

/-
  What split of layer 9 does: the first frame's body, and what is behind it, in the memory of what came in. Conditions: no more than 2^16 bytes.
-/
namespace Go.Proofs.Ytmjndomjnhjncaa
open Go.RowKit
open Pol (co Sm)

theorem i64_or9 (a b : Nat) (ha : a < 65536) (hb : b < 65536) : bits .or .i64 (a : Int) (b : Int) = ((a ||| b : Nat) : Int) := by
  have hx : a ||| b < 2 ^ 16 := Nat.or_lt_two_pow (by omega) (by omega)
  have h : ∀ c : Nat, c < 65536 → (BitVec.ofInt 64 (c : Int)).toNat = c := fun c hc => by
    rw [BitVec.ofInt_natCast, BitVec.toNat_ofNat]; exact Nat.mod_eq_of_lt (by omega)
  show IntKind.i64.wrap ((BitVec.ofInt 64 (a : Int) ||| BitVec.ofInt 64 (b : Int)).toNat : Int) = _
  rw [BitVec.toNat_or, h a ha, h b hb]
  exact IntWalk.i64_in _ (by omega)
theorem or_bytes (a b : Nat) (hb : b < 256) : a * 256 ||| b = a * 256 + b := by
  have h := Nat.two_pow_add_eq_or_of_lt (i := 8) (b := b) hb a
  rw [Nat.mul_comm a 256, ← h]
/-! ### Two arrays of six bytes -/
theorem mapM_some9 {α β : Type} {F : α → Option β} {G : α → β} : ∀ (l : List α), (∀ x ∈ l, F x = some (G x)) → l.mapM F = some (l.map G)
  | [], _ => rfl
  | x :: l, h => by
    rw [List.mapM_cons, h x (by simp), mapM_some9 l (fun y hy => h y (by simp [hy]))]
    rfl
theorem drop_one9 (l : List Value) (i : Nat) (h : i < l.length) : (l.drop i).take 1 = [l[i]] := by
  rw [List.drop_eq_getElem_cons h]; rfl
theorem cells6 : Try.prog.cellsOf 53 = 6 := by kernel_rfl
theorem cells_u8_9 : Try.prog.cellsOf 5 = 1 := by kernel_rfl
theorem lit_u8_9 (n : Nat) (h : n < 256) (d : Nat) : Try.prog.keyLits (d + 1) 5 [.int .u8 (n : Int)] = some [.int .u8 (n : Int)] := by
  have hw : (Lit.int .u8 (n : Int)).wf = true := by
    simp [Lit.wf, IntKind.min, IntKind.max, IntKind.signed, IntKind.bits]
    omega
  simp [Program.keyLits, Try.underlying5, hw]
theorem lits6 (l : List Nat) (hl : l.length = 6) (hs : Sm l) : Try.prog.keyLits 2 53 (bv l) = some (l.map fun x => [Lit.int .u8 ((x : Nat) : Int)]).flatten := by
  have hlen : (bv l).length = 6 := by rw [bv_len, hl]
  have hm : (List.range 6).mapM (fun i => Try.prog.keyLits 1 5 (((bv l).drop (i * 1)).take 1)) = some ((List.range 6).map fun i => [Lit.int .u8 ((co l i : Nat) : Int)]) := mapM_some9 _ fun i hi => by
    have hi := List.mem_range.1 hi
    rw [Nat.mul_one, drop_one9 _ i (by rw [hlen]; exact hi), show (bv l)[i]'(by rw [hlen]; exact hi) = .int .u8 ((co l i : Nat) : Int) from by
      have h := bv_at l i (by omega)
      rw [← Option.some_inj, ← List.getElem?_eq_getElem, ← h]]
    exact lit_u8_9 _ (hs i) 0
  have e : (List.range 6).map (fun i => [Lit.int .u8 ((co l i : Nat) : Int)]) = l.map fun x => [Lit.int .u8 ((x : Nat) : Int)] := by
    match l, hl with
    | [a, b, c, d, e, f], _ => rfl
  unfold Program.keyLits
  rw [Try.underlying53]
  simp only [cells6, cells_u8_9, hlen, if_true, hm, Option.map_some, e]
theorem flat_inj9 : ∀ (l m : List Nat), (l.map fun x => [Lit.int .u8 ((x : Nat) : Int)]).flatten = (m.map fun x => [Lit.int .u8 ((x : Nat) : Int)]).flatten ↔ l = m
  | [], [] => by simp
  | [], _ :: _ => by simp
  | _ :: _, [] => by simp
  | x :: l, y :: m => by
    have ih := flat_inj9 l m
    simp only [List.map_cons, List.flatten_cons, List.singleton_append, List.cons.injEq, Lit.int.injEq, true_and, ih]
    constructor
    · rintro ⟨h1, h2⟩; exact ⟨by omega, h2⟩
    · rintro ⟨h1, h2⟩; exact ⟨by omega, h2⟩
theorem eq6 (l m : List Nat) (hl : l.length = 6) (hm : m.length = 6) (hsl : Sm l) (hsm : Sm m) (w : World) : ∃ r : Bool, (Op.equalIn 10000 53 (.agg (bv l).toArray) (.agg (bv m).toArray)).run Try.prog w = .ok r w ∧ (r = true ↔ l = m) := by
  have hk : Try.prog.keyTypeAt 2 53 = true := by kernel_rfl
  have hform : ∀ h : List Nat, h.length = 6 → (Value.agg (bv h).toArray).formed Try.prog 53 = true := fun h hh => by
    simp [Value.formed, Try.underlying53, bv_len, hh, cells6]
  obtain ⟨r, h1, h2⟩ := run_equalIn_deep 9998 2 53 hk w 2 2 (.agg (bv l).toArray) (.agg (bv m).toArray) _ _ (hform l hl) (hform m hm) (lits6 l hl hsl) (lits6 m hm hsm)
  exact ⟨r, h1, h2.trans (flat_inj9 l m)⟩
/-- Six bytes, loaded as an array. -/
theorem load6 (w : World) (A : Option Addr) (t : List Nat) (hr : Rd w A t) (hl : t.length = 6) : (Instr.loadAt 53 (.pointer A)).run Try.prog w = .ok (.agg (bv t).toArray) w := by
  obtain ⟨b, o, rfl, _⟩ := hr.addr (by omega)
  have hc := run_loadCells_list (P := Try.prog) w ⟨b, o, none⟩ (bv t) (fun j v hv => by
    have hj : j < t.length := by
      have := (List.getElem?_eq_some_iff.1 hv).1
      rwa [bv_len] at this
    obtain ⟨b', o', e, hc⟩ := hr.2 j hj
    injection e with e
    rw [e, addr_add, hc, ← bv_at t j hj, hv])
  rw [bv_len, hl] at hc
  have hi := zero6
  cases hq : Try.prog.info? 53 with
  | none => simp [hq] at hi
  | some i =>
    rw [hq] at hi
    have hs : i.size = 6 := by simpa using hi
    simp [Instr.loadAt, Instr.sureAddr, loadVar, isAgg, run_underlying Try.underlying53, sizeOf, typeInfo, hq, hs, hc]
theorem take6 (x y : Nat) (l : List Nat) : (x :: y :: l).take 6 = x :: y :: l.take 4 := rfl
theorem head_same2 (x y : Nat) (l : List Nat) (n : Nat) (hy : y < 256) (hn : x * 256 + y = n) (t : List Nat) (ht : t.length = n) (C : List Nat) (hC : cbs (crcl t) = C) : (x :: y :: l).take 6 = hd6 t ↔ l.take 4 = C := by
  rw [take6]
  unfold hd6
  rw [ht, hC, show n / 256 = x by omega, show n % 256 = y by omega, List.cons.injEq, List.cons.injEq]
  exact ⟨fun h => h.2.2, fun h => ⟨rfl, rfl, h⟩⟩
theorem head_same (b : List Nat) (n : Nat) (h6 : 2 ≤ b.length) (hs : Sm b) (hn : co b 0 * 256 + co b 1 = n) (t : List Nat) (ht : t.length = n) : b.take 6 = hd6 t ↔ (b.drop 2).take 4 = cbs (crcl t) := by
  rcases b with _ | ⟨x, _ | ⟨y, l⟩⟩
  · simp at h6
  · simp at h6
  · exact head_same2 x y l n (sm_head (sm_tail hs)) hn t ht _ rfl
def After9 (u w : World) : Prop := Ext u w
/-- What split answers. -/
def SplitS (A : Option Addr) (b : List Nat) (w : World) (e : Ending) (w' : World) : Prop :=
  Ext w w' ∧ ((∃ t r X Y cx cy, nx b = .ok t r ∧ e = .returned (.tuple #[.slice X t.length cx, .slice Y r.length cy, .int .i64 0]) ∧ t.length ≤ cx ∧ r.length ≤ cy ∧ ∀ W, Rd W A b → Rd W X t ∧ Rd W Y r) ∨
    (∃ k, nx b = .er k ∧ e = .returned (.tuple #[.slice none 0 0, .slice none 0 0, .int .i64 (k : Int)])))

set_option maxHeartbeats 1600000 in
set_option maxRecDepth 100000 in
theorem cr_split (b : List Nat) (A : Option Addr) (ca : Nat) (w : World) (hr : Rd w A b) (hc : b.length ≤ ca) (hl : b.length ≤ 65536) :
    Calls Try.prog 26 #[.slice A b.length ca] w (SplitS A b w) := by
  by_cases h2 : b.length < 2
  · have HN := Lib.hid (show nx b = .er 2 from by unfold nx; rw [if_pos h2])
    have d1 : decide ((b.length : Int) < 2) = true := decide_eq_true (by omega)
    generalize b.length = L at *
    go_enter Try.func26, Try.ntmps26
    go_wp2
    go_ret3
    exact ⟨Ext.refl _, .inr ⟨2, HN.out, rfl⟩⟩
  · have h2' : 2 ≤ b.length := by omega
    obtain ⟨b0, o, rfl, hc0⟩ := hr.addr (by omega)
    have c0 := hc0 0 (by omega)
    have c1 := hc0 1 (by omega)
    rw [Nat.add_zero] at c0
    have hx256 := hr.1 0
    have hy256 := hr.1 1
    obtain ⟨n, hn⟩ : ∃ n, co b 0 * 256 + co b 1 = n := ⟨_, rfl⟩
    have HNC := Lib.hid (fun hf hl => nx_case (b := b) h2' hn hf hl)
    have HER1 := Lib.hid (show (n < 1 ∨ 1000 < n) → nx b = .er 14 from fun h => by unfold nx; rw [hn, if_neg h2, if_pos h])
    have HER2 := Lib.hid (show ¬ (n < 1 ∨ 1000 < n) → b.length < 6 + n → nx b = .er 2 from fun h h' => by unfold nx; rw [hn, if_neg h2, if_neg h, if_pos h'])
    have HHS := Lib.hid (fun t ht => head_same b n h2' hr.1 hn t ht)
    have HFN := Lib.hid (fun h W => cr_fits_no n h W)
    have HFY := Lib.hid (fun h1 h2 W => cr_fits_yes n h1 h2 W)
    obtain ⟨x, hx⟩ : ∃ x, co b 0 = x := ⟨_, rfl⟩
    obtain ⟨y, hy⟩ : ∃ y, co b 1 = y := ⟨_, rfl⟩
    rw [hx] at c0 hx256 hn
    rw [hy] at c1 hy256 hn
    obtain ⟨z, hz⟩ : ∃ z, x * 256 = z := ⟨_, rfl⟩
    have e1 : (x : Int) * 256 = (z : Int) := by omega
    have e2 : bits .or .i64 (z : Int) (y : Int) = (n : Int) := by
      rw [i64_or9 z y (by omega) (by omega), ← hz, or_bytes x y hy256, hn]
    have HR := Lib.hid hr
    have d1 : decide ((b.length : Int) < 2) = false := decide_eq_false (by omega)
    clear hc0 hr hx hy
    obtain ⟨L, hL⟩ : ∃ L, b.length = L := ⟨_, rfl⟩
    have HL := Lib.hid hL
    have hn1 : n < 65536 := by omega
    have hbnd : z < 65536 := by omega
    rw [hL] at HNC HER2 hc hl h2 h2' d1 ⊢
    clear hL hn hz
    go_enter Try.func26, Try.ntmps26
    go_wp2
    go_quiet (fail)
    by_cases hbad : n < 1 ∨ 1000 < n
    · have HE := Lib.hid (HER1.out hbad)
      have HFN2 := Lib.hid (HFN.out (by omega))
      go_wp2_with fail
      refine (HFN2.out _).mono ?_
      rintro e w1 ⟨rfl, rfl⟩
      go_wp2
      go_ret3
      exact ⟨(Ext.refl w).drewN nq, .inr ⟨14, HE.out, rfl⟩⟩
    · have HFY2 := Lib.hid (HFY.out (by omega) (by omega))
      obtain ⟨k, hk⟩ : ∃ k, 6 + n = k := ⟨_, rfl⟩
      have ek : 6 + (n : Int) = (k : Int) := by omega
      rw [hk] at HNC HER2
      go_wp2_with fail
      refine (HFY2.out _).mono ?_
      rintro e w1 ⟨rfl, rfl⟩
      by_cases hsh : L < k
      · have HE := Lib.hid (HER2.out hbad hsh)
        have d4 : decide ((L : Int) < (k : Int)) = true := decide_eq_true (by omega)
        go_wp2
        go_ret3
        exact ⟨(Ext.refl w).drewN nq, .inr ⟨2, HE.out, rfl⟩⟩
      · have d4 : decide ((L : Int) < (k : Int)) = false := decide_eq_false (by omega)
        have HE := Lib.hid (HNC.out (by omega) (by omega))
        have HT := Lib.hid (tab_cut b 6 n (by rw [HL.out]; omega))
        obtain ⟨T, hT⟩ : ∃ T, (b.drop 6).take n = T := ⟨_, rfl⟩
        have hTl : T.length = n := by rw [← hT, List.length_take, List.length_drop, HL.out]; omega
        rw [hT] at HE HT
        have HS := Lib.hid (HHS.out T hTl)
        obtain ⟨X, s1, hX⟩ := run_cut_u8 (some ⟨b0, o, none⟩) L ca 6 k (by omega) (by omega)
        have HXA := Lib.hid (show ∀ W, Rd W (some ⟨b0, o, none⟩) b → Rd W X T from fun W hW => by
          have h := hX W b hW (by rw [HL.out]; omega)
          rw [show k - 6 = n by omega, HT.out] at h
          exact h)
        have HXT := Lib.hid (HXA.out w HR.out)
        rw [show k - 6 = n by omega] at s1
        have s2 : ∀ W, (Instr.slice 22 (.slice (some ⟨b0, o, none⟩) L ca) (some (.int .i64 6)) (some (.int .i64 (k : Int))) none).run Try.prog W = .ok (.slice X n (ca - 6)) W := s1
        clear s1
        have HTL := Lib.hid hTl
        have HH := Lib.hid (fun W (h : Rd W X T) => show Calls Try.prog 25 #[.slice X n (ca - 6)] W (Tells (.agg (bv (hd6 T)).toArray) W) from by have h' := cr_header T X (ca - 6) W h (by rw [hTl]; omega); rw [show T.length / 256 :: T.length % 256 :: cbs (crcl T) = hd6 T from rfl, hTl] at h'; exact h')
        clear hX hT hTl HNC HER2 HER1
        have HRB := Lib.hid (show Rd w (some ⟨b0, o, none⟩) (b.take 6) from HR.out.take 6)
        have hl6 : (b.take 6).length = 6 := by rw [List.length_take, HL.out]; omega
        have HRE := Lib.hid (show ∃ Y, (∀ W, (Instr.slice 22 (.slice (some ⟨b0, o, none⟩) L ca) (some (.int .i64 (k : Int))) none none).run Try.prog W = .ok (.slice Y (L - k) (ca - k)) W) ∧ ∀ W, Rd W (some ⟨b0, o, none⟩) b → Rd W Y (b.drop k) from by
          obtain ⟨Y, s1, hY, _⟩ := run_rest_u8 (some ⟨b0, o, none⟩) L ca k (by omega) hc
          refine ⟨Y, s1, fun W hW => ?_⟩
          have h := hY W b hW HL.out
          have e := tab_drop9 b k (by rw [HL.out]; omega)
          rw [HL.out] at e
          rw [e] at h
          exact h)
        have hdl : (b.drop k).length = L - k := by rw [List.length_drop, HL.out]
        have hsT : Sm (hd6 T) := hd6_sm HXT.out.1 (by rw [HTL.out]; omega)
        have hs6 : Sm (b.take 6) := HRB.out.1
        obtain ⟨G6, hG6⟩ : ∃ G, hd6 T = G := ⟨_, rfl⟩
        obtain ⟨B6, hB6⟩ : ∃ B, b.take 6 = B := ⟨_, rfl⟩
        have hg6 : G6.length = 6 := by rw [← hG6]; rfl
        rw [hG6] at HH HS hsT
        rw [hB6] at HRB HS hl6 hs6
        obtain ⟨V1, hV1⟩ : ∃ V, (bv G6).toArray = V := ⟨_, rfl⟩
        obtain ⟨V2, hV2⟩ : ∃ V, (bv B6).toArray = V := ⟨_, rfl⟩
        obtain ⟨u, hu⟩ : ∃ u, w.drewN nq = u := ⟨_, rfl⟩
        have hxu : Ext w u := by rw [← hu]; exact (Ext.refl w).drewN nq
        have FH := Lib.hid (show ∀ W, After9 u W → Calls Try.prog 25 #[.slice X n (ca - 6)] W (fun e w' => e = .returned (.agg V1) ∧ After9 u w') from fun W hW => by
          have h := HH.out W (HXT.out.ext (hxu.trans hW))
          rw [hV1] at h
          exact h.mono fun _ _ h => ⟨h.1, Ext.trans hW h.2⟩)
        have FL := Lib.hid (show ∀ W, After9 u W → (Instr.loadAt 53 (.pointer (some ⟨b0, o, none⟩))).run Try.prog W = .ok (.agg V2) W from fun W hW => by
          have h := load6 W _ B6 (HRB.out.ext (hxu.trans hW)) hl6
          rw [hV2] at h
          exact h)
        have FA : ∀ W, (Instr.arrayAt 53 (.slice (some ⟨b0, o, none⟩) L ca)).run Try.prog W = .ok (.pointer (some ⟨b0, o, none⟩)) W := fun W => run_arrayAt W 53 _ 6 _ L ca Try.underlying53 (by omega)
        have FN := Lib.hid (show ∀ W, ∃ d : Bool, (Op.equalIn 10000 53 (.agg V1) (.agg V2)).run Try.prog W = .ok d W ∧ (d = true ↔ G6 = B6) from fun W => by
          have h := eq6 G6 B6 hg6 hl6 hsT hs6 W
          rw [hV1, hV2] at h
          exact h)
        have HXU := Lib.hid hxu
        have HDL := Lib.hid hdl
        rw [hu]
        clear hl6 hdl hsT hs6 hG6 hB6 hg6 hV1 hV2 hu hxu HH HRB
        by_cases hm : G6 = B6
        · have HOK := Lib.hid (HE.out.trans (if_pos (HS.out.1 hm.symm)))
          have HQ := Lib.hid (show ∀ W, (Op.equalIn 10000 53 (.agg V1) (.agg V2)).run Try.prog W = .ok true W from fun W => by
            obtain ⟨d, h1, h2⟩ := FN.out W
            rw [h1, h2.2 hm])
          have hq : ∀ W, (binOp .neq 53 (.agg V1) (.agg V2)).run Try.prog W = .ok (.bool false) W := fun W => by
            simp only [binOp]
            simp [Op.equal, Op.maxDepth, HQ.out W]
          clear hm
          go_wp2
          refine wp_region_quiet (C := After9 u) (by kernel_rfl) (by kernel_rfl) (show After9 u u.drew from (Ext.refl u).drew) ?_
          repeat (first
            | (refine wpQuiet_step (fun K hK => ?_); go_simp; refine ⟨_, fun _ _ => rfl, hK _ ?_⟩; clear hK K)
            | (refine wpQuiet_load rfl 53 (.tmp 35) rfl (.agg V2) (fun W hW => FL.out W hW) ?_)
            | (refine wpQuiet_step (fun K hK => ?_); go_simp; refine ⟨_, fun W hW => FH.out W hW, hK _ ?_⟩; clear hK K))
          refine wpQuiet_nil ?_
          intro u2 hu2
          have HX2 := Lib.hid (HXU.out.trans hu2)
          clear hu2
          obtain ⟨Y, s3, hY⟩ := HRE.out
          have HY := Lib.hid hY
          clear hY
          have hLk : k ≤ L := by omega
          go_wp2
          go_quiet (fail)
          go_wp2
          go_ret3
          exact ⟨HX2.out.drewN _, .inl ⟨T, b.drop k, X, Y, ca - 6, ca - k, HOK.out, by rw [HTL.out, HDL.out]; rfl, by rw [HTL.out]; omega, by rw [HDL.out]; omega, fun W hW => ⟨HXA.out W hW, HY.out W hW⟩⟩⟩
        · have HOK := Lib.hid (HE.out.trans (if_neg (fun h => hm (HS.out.2 h).symm)))
          have HQ := Lib.hid (show ∀ W, (Op.equalIn 10000 53 (.agg V1) (.agg V2)).run Try.prog W = .ok false W from fun W => by
            obtain ⟨d, h1, h2⟩ := FN.out W
            have hd : d = false := by
              cases d
              · rfl
              · exact absurd (h2.1 rfl) hm
            rw [h1, hd])
          have hq : ∀ W, (binOp .neq 53 (.agg V1) (.agg V2)).run Try.prog W = .ok (.bool true) W := fun W => by
            simp only [binOp]
            simp [Op.equal, Op.maxDepth, HQ.out W]
          clear hm
          go_wp2
          refine wp_region_quiet (C := After9 u) (by kernel_rfl) (by kernel_rfl) (show After9 u u.drew from (Ext.refl u).drew) ?_
          repeat (first
            | (refine wpQuiet_step (fun K hK => ?_); go_simp; refine ⟨_, fun _ _ => rfl, hK _ ?_⟩; clear hK K)
            | (refine wpQuiet_load rfl 53 (.tmp 35) rfl (.agg V2) (fun W hW => FL.out W hW) ?_)
            | (refine wpQuiet_step (fun K hK => ?_); go_simp; refine ⟨_, fun W hW => FH.out W hW, hK _ ?_⟩; clear hK K))
          refine wpQuiet_nil ?_
          intro u2 hu2
          have HX2 := Lib.hid (HXU.out.trans hu2)
          clear hu2
          go_wp2
          go_ret3
          exact ⟨HX2.out, .inr ⟨4, HOK.out, rfl⟩⟩
end Go.Proofs.Ytmjndomjnhjncaa

/-
  What Next and All of layer 9 do; with them all of layer 9's own functions do what they are to do. Conditions: as in the statement CrcSaid.
-/
namespace Go.Proofs.Ytmjndomjnhjncaa
open Go.RowKit
open Pol (co Sm)

set_option maxHeartbeats 800000 in
set_option maxRecDepth 100000 in
theorem cr_next (b : List Nat) (A : Option Addr) (ca : Nat) (w : World) (hr : Rd w A b) (hc : b.length ≤ ca) (hl : b.length ≤ 65536) :
    Calls Try.prog 16 #[.slice A b.length ca] w (NextS b w) := by
  have HS := Lib.hid (cr_split b A ca w hr hc hl)
  have HSM := Lib.hid hr.1
  have HRB := Lib.hid hr
  unfold NextS
  generalize hL : b.length = L at *
  have HL := Lib.hid hL
  clear hr hL
  go_enter Try.func16, Try.ntmps16
  go_wp2_with fail
  refine HS.out.mono ?_
  rintro e w1 ⟨hx1, (⟨t, r, X, Y, cx, cy, hn, rfl, hcx, hcy, hXY⟩ | ⟨k, hn, rfl⟩)⟩
  · obtain ⟨hX, hY⟩ := hXY w HRB.out
    obtain ⟨hfr, hfo⟩ := nx_ok HSM.out hn
    have hlen := congrArg List.length hfr
    rw [List.length_append, fr_len, HL.out] at hlen
    have HXT := Lib.hid (hX.ext hx1)
    have HC1 := Lib.hid (cr_clone t X cx w1 (hX.ext hx1) (by omega))
    have HC2 := Lib.hid (fun W (h : Ext w W) => cr_clone r Y cy W (hY.ext h) (by omega))
    have HST := Lib.hid hX.1
    have HSR := Lib.hid hY.1
    have HN := Lib.hid hn
    have HX1 := Lib.hid hx1
    obtain ⟨nt, hnt⟩ : ∃ n, t.length = n := ⟨_, rfl⟩
    obtain ⟨nr, hnr⟩ : ∃ n, r.length = n := ⟨_, rfl⟩
    rw [hnt] at HC1 ⊢
    rw [hnr] at HC2 ⊢
    clear hn hx1 hX hY hXY hfr hfo hlen hnt hnr hcx hcy
    go_wp2_with fail
    refine HC1.out.mono ?_
    rintro e w2 ⟨hx2, v, rfl, hm⟩
    have HM := Lib.hid hm
    have HX2 := Lib.hid (HX1.out.trans hx2)
    clear hm hx2
    go_wp2_with fail
    refine (HC2.out _ HX2.out).mono ?_
    rintro e w3 ⟨hx3, u, rfl, hm3⟩
    have HM2 := Lib.hid (mine_ext HM.out hx3)
    have HM3 := Lib.hid hm3
    have HX3 := Lib.hid (HX2.out.trans hx3)
    clear hm3 hx3
    go_wp2
    go_ret3
    exact ⟨HX3.out, .inl ⟨t, r, v, u, HN.out, rfl, (HM2.out.down HX1.out.size).ownW HST.out, (HM3.out.down HX2.out.size).ownT HSR.out⟩⟩
  · have HC1 := Lib.hid (fun W => cr_clone [] none 0 W (Rd.nil _ _) (by simp))
    have HX1 := Lib.hid hx1
    have HN := Lib.hid hn
    clear hx1 hn
    go_wp2_with fail
    refine (HC1.out _).mono ?_
    rintro e w2 ⟨hx2, v, rfl, hm⟩
    obtain ⟨B1, c1, rfl, _, _⟩ := hm.slice Sm.nil
    have HX2 := Lib.hid (HX1.out.trans hx2)
    clear hm hx2
    go_wp2_with fail
    refine (HC1.out _).mono ?_
    rintro e w3 ⟨hx3, u, rfl, hm3⟩
    obtain ⟨B2, c2, rfl, _, _⟩ := hm3.slice Sm.nil
    have HX3 := Lib.hid (HX2.out.trans hx3)
    clear hm3 hx3
    go_wp2
    go_ret3
    exact ⟨HX3.out, .inr ⟨k, B1, c1, B2, c2, HN.out, rfl⟩⟩

/-! ### All -/
/-- A body: bytes that may be written, in a block that isn't the list's. -/
def BodE (base : Nat) (w : World) (row : Option Nat) (t : List Nat) (u : Value) : Prop := 0 < t.length ∧ OwnW base u w t ∧ ∀ b o n c, u = .slice (some ⟨b, o, none⟩) n c → some b ≠ row ∧ b < w.heap.size
theorem OwnW.keep {base : Nat} {w w' : World} {row : Option Nat} {t : List Nat} {u : Value} (h : OwnW base u w t) (hg : w.grownBy w' row) (hne : ∀ b o n c, u = .slice (some ⟨b, o, none⟩) n c → some b ≠ row ∧ b < w.heap.size) : OwnW base u w' t := by
  obtain ⟨B, c, rfl, hc, hr, hb⟩ := h
  refine ⟨B, c, rfl, hc, hr.keep hg (fun b o e _ => (hne b o _ c (by rw [e])).1), fun b o e ht => ?_⟩
  obtain ⟨h1, h2⟩ := hb b o e ht
  refine ⟨h1, fun i hi => ?_⟩
  obtain ⟨h3, h4⟩ := hne b o _ c (by rw [e])
  exact (World.frozen?_of_block (a := ⟨b, o + i, none⟩) (hg.block b h4 h3)).trans (h2 i hi)
theorem BodE.keep {base : Nat} {w w' : World} {row row' : Option Nat} {t : List Nat} {u : Value} (h : BodE base w row t u) (hg : w.grownBy w' row) (hrow : row' = row ∨ row' = some w.heap.size) : BodE base w' row' t u := by
  refine ⟨h.1, h.2.1.keep hg h.2.2, fun b o n c e => ?_⟩
  obtain ⟨h1, h2⟩ := h.2.2 b o n c e
  refine ⟨?_, Nat.lt_of_lt_of_le h2 hg.size⟩
  rcases hrow with e' | e'
  · rw [e']; exact h1
  · rw [e']; intro e2; injection e2 with e2; omega
/-- A list of bodies of a call's own. -/
def Bods (w : World) (base : Nat) (v : Value) (rows : List (List Nat)) : Prop := ∃ vs, w.ownsRow base 22 1 v rows.length vs ∧ ∀ i, i < rows.length → ∃ u, vs[i]? = some u ∧ BodE base w v.ownBlock (ro rows i) u
theorem Bods.nil (w : World) (base : Nat) : Bods w base (.slice none 0 0) [] := ⟨[], World.ownsRow_nil w base _ _, fun i hi => absurd hi (by simp)⟩
theorem Bods.ext {w w' : World} {base : Nat} {v : Value} {rows : List (List Nat)} (h : Bods w base v rows) (hx : Ext w w') : Bods w' base v rows := by
  obtain ⟨vs, hown, hv⟩ := h
  refine ⟨vs, World.ownsRow.kept hown (row := none) (hx.grown none) (by
    cases hb : v.ownBlock with
    | none => exact .inl rfl
    | some k => exact .inr (by simp)), fun i hi => ?_⟩
  obtain ⟨u, hu, he⟩ := hv i hi
  exact ⟨u, hu, he.keep (hx.grown _) (.inl rfl)⟩
theorem Bods.block {w : World} {base : Nat} {v : Value} {rows : List (List Nat)} (h : Bods w base v rows) : ∀ k, v.ownBlock = some k → base ≤ k ∧ k < w.heap.size := fun k hk => by
  obtain ⟨vs, hown, _⟩ := h
  exact World.ownsRow.lt hown k hk
theorem Bods.slice {w : World} {base : Nat} {v : Value} {rows : List (List Nat)} (h : Bods w base v rows) : ∃ R c, v = .slice R rows.length c ∧ rows.length ≤ c ∧
    ∀ i, i < rows.length → ∃ g o u, R = some ⟨g, o, none⟩ ∧ base ≤ g ∧ w.cell? ⟨g, o + i, none⟩ = some u ∧ OwnW base u w (ro rows i) ∧ (∀ b' o' n' c', u = .slice (some ⟨b', o', none⟩) n' c' → b' ≠ g) := by
  obtain ⟨vs, hown, hv⟩ := h
  rcases hown.2 with ⟨rfl, hn⟩ | ⟨g, cap, cur, rfl, hb, hg, hnc, _, _, htake⟩
  · have : rows = [] := List.eq_nil_of_length_eq_zero hn
    subst this
    exact ⟨none, 0, rfl, Nat.le_refl _, fun i hi => absurd hi (by simp)⟩
  · refine ⟨_, cap, rfl, hnc, fun i hi => ?_⟩
    obtain ⟨u, h1, h2⟩ := hv i hi
    refine ⟨g, 0, u, rfl, hb, ?_, h2.2.1, fun b' o' n' c' e e' => (h2.2.2 b' o' n' c' e).1 (by rw [e']; rfl)⟩
    rw [Nat.zero_add, cell_of_row w g i cur _ _ hg, ← h1, ← htake, List.getElem?_take, if_pos (by omega)]
    simp
set_option maxRecDepth 100000 in
theorem run_append_bod (w : World) (base : Nat) (ty : TypeId) (v : Value) (rows : List (List Nat)) (hown : Bods w base v rows) (t : List Nat) (u : Value) (hu : BodE base w v.ownBlock t u) (g : Nat) (hc : w.cell? ⟨g, 0, none⟩ = some u)
    (hlen : rows.length ≤ 1048576) (hbase : base ≤ w.heap.size) :
    ∃ v' w', (Builtin.append_ #[37, 37] ty #[v, .slice (some ⟨g, 0, none⟩) 1 1]).run Try.prog w = .ok v' w' ∧ Bods w' base v' (rows ++ [t]) ∧ w.grownBy w' v.ownBlock := by
  obtain ⟨i0, hi, hz0, hz1, hz2⟩ := info_parts row_info
  obtain ⟨vs, hv1, hv2⟩ := hown
  have hvl : vs.length = rows.length := by rw [hv1.1, Nat.mul_one]
  have hcells : ∀ j x, [u][j]? = some x → w.cell? ((⟨g, 0, none⟩ : Addr).add j) = some x := by
    intro j x hx
    match j, hx with
    | 0, hx =>
      rw [addr_add]
      simp only [List.getElem?_cons_zero, Option.some.injEq] at hx
      rw [← hx]
      exact hc
  have hone : ∀ x ∈ [u], x.oneCell' = true := fun x hx => by
    obtain ⟨B, c, e, _⟩ := hu.2.1
    rw [List.mem_singleton.1 hx, e]
    rfl
  obtain ⟨v', w', h1, h2, h3, _, h5⟩ := run_append_own_at (P := Try.prog) w base 37 ty 22 i0 (.slice none 0 0) 1 24 Try.underlying37 hi hz0 hz1 hz2 rfl (by omega) v rows.length vs hv1 ⟨g, 0, none⟩ 1 1 [u] rfl hcells hone
    (by unfold maxLen; omega) (by omega) hbase
  refine ⟨v', w', h1, ⟨vs ++ [u], by rw [List.length_append]; exact h2, fun i hi => ?_⟩, h3⟩
  rcases Nat.lt_or_ge i rows.length with hl | hl
  · obtain ⟨x, hx, he⟩ := hv2 i hl
    refine ⟨x, by rw [List.getElem?_append_left (by omega)]; exact hx, ?_⟩
    rw [ro_append_left _ _ _ hl]
    exact he.keep h3 h5
  · have hi' : i = rows.length := by rw [List.length_append] at hi; simp at hi; omega
    subst hi'
    refine ⟨u, by rw [List.getElem?_append_right (by omega), hvl]; simp, ?_⟩
    rw [ro_append_right _ _ _ (Nat.le_refl _), Nat.sub_self]
    exact hu.keep h3 h5
/-- At the operation, for the walk. -/
theorem wpList_append_bod {ops : Array Oper} {rest : List Oper} {o : Oper} {a : Act} {w : World} {Q : Exit → Act → World → Prop} (hgd : o.guard = none) (s x : Operand)
    (ho : o.op = .call { callee := .builtin .append, args := #[s, x], argTypes := #[37, 37] })
    (base : Nat) (v : Value) (rows : List (List Nat)) (hs : a.eval s = v) (hown : Bods w base v rows) (t : List Nat) (u : Value) (hu : BodE base w v.ownBlock t u) (g : Nat) (hx : a.eval x = .slice (some ⟨g, 0, none⟩) 1 1) (hc : w.cell? ⟨g, 0, none⟩ = some u)
    (hlen : rows.length ≤ 1048576) (hbase : base ≤ w.heap.size)
    (h : ∀ v' w', Bods w' base v' (rows ++ [t]) → w.grownBy w' v.ownBlock → wpList Try.prog ops Q rest (a.put o.dst v') w') :
    wpList Try.prog ops Q (o :: rest) a w := by
  refine wpList_plain hgd fun K hK => ?_
  obtain ⟨v', w', hrun, h2, h3⟩ := run_append_bod w base o.type v rows hown t u hu g hc hlen hbase
  unfold Oper.wp execOp
  simp only [ho, resolve, invoke, builtin, Sem.run_bind, Sem.run_pure, Result.andThen_ok, List.map_toArray, List.map_cons, List.map_nil, hs, hx, hrun]
  exact hK _ _ (h v' w' h2 h3)
set_option maxHeartbeats 1600000 in
set_option maxRecDepth 100000 in
theorem cr_all (b : List Nat) (A : Option Addr) (ca : Nat) (w : World) (hr : Rd w A b) (hc : b.length ≤ ca) (hl : b.length ≤ 65536) :
    Calls Try.prog 19 #[.slice A b.length ca] w (AllS b w) := by
  unfold AllS
  have HR := Lib.hid hr
  obtain ⟨L, hL⟩ : ∃ L, b.length = L := ⟨_, rfl⟩
  have HL := Lib.hid hL
  rw [hL] at hc hl ⊢
  clear hr hL
  have HSP := Lib.hid (fun (l : List Nat) X cx W (h : Rd W X l) hc hl => cr_split l X cx W h hc hl)
  have HCL := Lib.hid (fun (l : List Nat) X cx W (h : Rd W X l) hl => cr_clone l X cx W h hl)
  go_enter Try.func19, Try.ntmps19
  go_wp2
  go_loopg [4, 5] L (fun g s4 s5 wx => ∃ (k n : Nat) (done : List (List Nat)) (X : Option Addr) (cx : Nat), k + n = L ∧ n ≤ g ∧ s5 = .slice X n cx ∧ n ≤ cx ∧ (∀ W, Ext w W → Rd W X (b.drop k)) ∧ Bods wx w.heap.size s4 done ∧ al b = (done ++ (al (b.drop k)).1, k + (al (b.drop k)).2) ∧ done.length ≤ k ∧ Ext w wx)
  case atStart => exact ⟨0, L, [], A, ca, by omega, Nat.le_refl _, rfl, hc, fun W h => HR.out.ext h, Bods.nil _ _, by simp, Nat.le_refl _, Ext.refl _⟩
  case round =>
    obtain ⟨k, n, done, X, cx, hkn, hng, rfl, hcx, hrk, hm, hal, hdk, hx⟩ := hrel
    have hlk : (b.drop k).length = n := by rw [List.length_drop, HL.out]; omega
    have HSK := Lib.hid (show Calls Try.prog 26 #[.slice X n cx] wr (SplitS X (b.drop k) wr) from by
      have h := HSP.out (b.drop k) X cx wr (hrk _ hx) (by rw [hlk]; omega) (by rw [hlk]; omega)
      rw [hlk] at h
      exact h)
    obtain ⟨Rv, cv, rfl, hcv, _⟩ := hm.slice
    have HM := Lib.hid hm
    have HX := Lib.hid hx
    have HAL := Lib.hid hal
    have HSR := Lib.hid (hrk _ hx).1
    have HRK := Lib.hid hrk
    have HLK := Lib.hid hlk
    have HKN := Lib.hid hkn
    clear hrk hm hx hal hlk hkn
    go_wp2_with fail
    refine HSK.out.mono ?_
    rintro e w1 ⟨hx1, (⟨t, r, Y, Z, cy, cz, hn, rfl, hcy, hcz, hYZ⟩ | ⟨q, hn, rfl⟩)⟩
    · have hY := (hYZ _ (HRK.out _ HX.out)).1
      obtain ⟨hfr, hfo⟩ := nx_ok HSR.out hn
      obtain ⟨ht1, ht2, _⟩ := fr_drop hfr
      have hlen := congrArg List.length hfr
      rw [HLK.out, List.length_append, fr_len] at hlen
      have HAL2 := Lib.hid (show al b = ((done ++ [t]) ++ (al (b.drop (k + 6 + t.length))).1, (k + 6 + t.length) + (al (b.drop (k + 6 + t.length))).2) from by
        rw [HAL.out, al_ok hn, ht2]
        simp
        omega)
      have hft := hfo
      unfold FrOk at hft
      have HTP := Lib.hid (show 0 < t.length from hft.1)
      have HC := Lib.hid (HCL.out t Y cy w1 (hY.ext hx1) (by omega))
      have HST := Lib.hid hY.1
      have HZ := Lib.hid (fun W (h : Ext w W) => (hYZ _ (HRK.out W h)).2)
      rw [← ht2] at HZ
      obtain ⟨nt, hnt⟩ : ∃ n, t.length = n := ⟨_, rfl⟩
      have HNT := Lib.hid hnt
      obtain ⟨nr, hnr⟩ : ∃ n, r.length = n := ⟨_, rfl⟩
      rw [hnt] at HC HAL2 HZ hlen hft ⊢
      rw [hnr] at hlen hcz ⊢
      obtain ⟨k', hk'⟩ : ∃ q, k + 6 + nt = q := ⟨_, rfl⟩
      rw [hk'] at HAL2 HZ
      have HB := Lib.hid (show k' + nr = L ∧ nr < n ∧ nr ≤ cz from ⟨by have := HKN.out; omega, by omega, hcz⟩)
      have hdl : (done ++ [t]).length ≤ k' := by rw [List.length_append]; simp; omega
      have HDL := Lib.hid hdl
      have HDN := Lib.hid (show done.length ≤ 65536 by have := HKN.out; omega)
      have HX1 := Lib.hid (HX.out.trans hx1)
      have HM1 := Lib.hid (HM.out.ext hx1)
      clear hn hfr hfo ht1 ht2 hlen hft hnt hnr hk' hdl hY hYZ hcy hcz hx1
      go_wp2_with fail
      refine HC.out.mono ?_
      rintro e w2 ⟨hx2, u, rfl, hmu⟩
      obtain ⟨Bu, cu, hue, _, _⟩ := hmu.slice HST.out
      rw [HNT.out] at hue
      subst hue
      generalize hu : Value.slice Bu nt cu = u at hmu
      have HX2 := Lib.hid (HX1.out.trans hx2)
      have HM2 := Lib.hid (HM1.out.ext hx2)
      have HU := Lib.hid (show BodE w.heap.size w2 (Value.slice Rv done.length cv).ownBlock t u from ⟨HTP.out, (hmu.down HX1.out.size).ownW HST.out, fun b' o' n' c' e => by
        obtain ⟨h1, h2⟩ := hmu.block b' (by rw [e]; rfl)
        refine ⟨fun e' => ?_, h2⟩
        have h3 := (HM1.out.block b' e'.symm).2
        omega⟩)
      have hcu : (w2.alloc (.cells #[u] 22)).cell? ⟨w2.heap.size, 0, none⟩ = some u := by
        rw [cell_of_row _ _ _ _ _ _ (heap_alloc_new w2 _)]; rfl
      have HCU := Lib.hid hcu
      have HXA := Lib.hid ((Ext.refl w2).alloc (.cells #[u] 22))
      subst hu
      clear hmu hx2 hcu
      go_wp2_with (at_builtin; refine wpList_append_bod rfl (.tmp 24) (.tmp 27) rfl w.heap.size (.slice Rv done.length cv) done rfl (HM2.out.ext HXA.out) t _ (HU.out.keep (HXA.out.grown _) (.inl rfl)) w2.heap.size rfl HCU.out (by have := HDN.out; omega) (Nat.le_trans HX2.out.size HXA.out.size) ?_; intro v9 w9 hown9 hg9; have hx9 := (HX2.out.trans HXA.out).more hg9 (fun q hq => (HM2.out.block q hq).1); have HX9 := Lib.hid hx9; have HO9 := Lib.hid hown9; clear hown9 hg9 hx9)
      go_roundg nr
      case measure => have := HB.out; omega
      case rel => exact ⟨k', nr, done ++ [t], Z, cz, HB.out.1, Nat.le_refl _, rfl, HB.out.2.2, HZ.out, HO9.out, HAL2.out, HDL.out, HX9.out⟩
    · have hq := (nx_er hn).1
      have d1 : ((q : Int) == 0) = false := by simp; omega
      have d2 : ((q : Int) != 0) = true := by simp; omega
      have d3 : decide (q = 0) = false := decide_eq_false (by omega)
      have e1 : (L : Int) - (n : Int) = (k : Int) := by have := HKN.out; omega
      have HFIN := Lib.hid (show al b = (done, k) from by rw [HAL.out, al_er hn]; simp)
      have HX1 := Lib.hid (HX.out.trans hx1)
      have HM1 := Lib.hid (HM.out.ext hx1)
      clear hx1 hn hq
      go_wp2
      go_ret2
      obtain ⟨R', c', e', h1, h2⟩ := HM1.out.slice
      refine ⟨HX1.out, R', c', ?_, ?_, ?_⟩
      · rw [HFIN.out]
        show Ending.returned (.tuple #[.slice Rv done.length cv, .int .i64 (k : Int)]) = _
        rw [e']
      · rw [HFIN.out]; exact h1
      · rw [HFIN.out]; exact h2
theorem crcSaid : CrcSaid where
  of l A c w hr _ hl := cr_of l A c w hr hl
  more s l A c w hs hr _ hl := cr_more s l A c w hs hr hl
  frame l A c w hr _ := cr_frame l A c w hr
  next b A c w hr hc hl := cr_next b A c w hr hc hl
  all b A c w hr hc hl := cr_all b A c w hr hc hl
end Go.Proofs.Ytmjndomjnhjncaa

/-
  An argument that is a slice of bytes, or of points, reads as a list. Conditions: none.
-/
namespace Go.Proofs.Ytmjndomjnhjncaa
open Go.RowKit
open Go.ChangeShapes Go.WideShapes Go.ChangeAt
open Pol (co Sm)

section
variable {H : Type} {enc : TypeId × Value → H} {w : World} {base : Nat} {spare : Nat → Bool} {held : Bool}
theorem open_bytes {fuel len cap : Nat} {a : Option Addr} {x : DataW H × List MemPlace} (h : DataW.trod enc Try.prog w base spare held fuel 22 [.slice a len cap] = some x) :
    ∃ l : List Nat, l.length = len ∧ len ≤ cap ∧ Rd w a l := by
  rcases open_ints Try.underlying22 Try.underlying5 (by kernel_rfl) h with ⟨hcs, _⟩ | ⟨a', len', cap', zs, hcs, _, hl, _, hz, _, hcell, hwz⟩
  · simp at hcs
    obtain ⟨rfl, rfl, rfl⟩ := hcs
    exact ⟨[], rfl, Nat.le_refl _, Rd.nil _ _⟩
  · simp at hcs
    obtain ⟨rfl, rfl, rfl⟩ := hcs
    have hlz : len ≤ zs.length := by rw [hz]; split <;> omega
    have hnat : ∀ i, i < zs.length → ∃ n : Nat, zs.getD i 0 = (n : Int) ∧ n < 256 := fun i hi => by
      have hm : zs.getD i 0 ∈ zs := by rw [List.getD_eq_getElem?_getD, List.getElem?_eq_getElem hi]; exact List.getElem_mem hi
      exact nat_u8 (hwz _ hm)
    refine ⟨(List.range len).map (fun i => (zs.getD i 0).toNat), by simp, hl, ?_, fun i hi => ?_⟩
    · refine Pol.co_lt_of (fun v hv => ?_)
      obtain ⟨i, hi, rfl⟩ := List.mem_map.1 hv
      obtain ⟨n, hn, hn'⟩ := hnat i (by have := List.mem_range.1 hi; omega)
      show (zs.getD i 0).toNat < 256
      rw [hn]; omega
    · have hi' : i < len := by simpa using hi
      obtain ⟨b, o, rfl, hc⟩ := ints_at hcell (by omega)
      refine ⟨b, o, rfl, ?_⟩
      rw [hc i (by omega)]
      obtain ⟨n, hn, _⟩ := hnat i (by omega)
      congr 2
      unfold co
      rw [List.getElem?_map, List.getElem?_range hi']
      show zs.getD i 0 = (((zs.getD i 0).toNat : Nat) : Int)
      rw [hn]; omega
end
end Go.Proofs.Ytmjndomjnhjncaa

/-
  An argument that is a slice of slices of bytes reads as a list of rows. Conditions: none.
-/
namespace Go.Proofs.Ytmjndomjnhjncaa
open Go.RowKit
open Go.ChangeShapes Go.WideShapes Go.ChangeAt
open Pol (co Sm)

/-- Rows as they come in. -/
def ARd (w : World) (A : Option Addr) (rows : List (List Nat)) : Prop := RRd w A rows ∧ rows.length ≤ maxLen
section
variable {H : Type} {enc : TypeId × Value → H} {w : World} {base : Nat} {spare : Nat → Bool} {held : Bool}
theorem open_rows {fuel len cap : Nat} {a : Option Addr} {x : DataW H × List MemPlace} (h : DataW.trod enc Try.prog w base spare held fuel 37 [.slice a len cap] = some x) :
    ∃ l : List (List Nat), l.length = len ∧ len ≤ cap ∧ ARd w a l := by
  rcases Go.Deep.open_slice1 Try.underlying37 (by kernel_rfl) h with ⟨hcs, _⟩ | ⟨a', len', cap', m, n, V, D, Pl, hcs, _, hl, hmax, hm, _, hall⟩
  · simp at hcs
    obtain ⟨rfl, rfl, rfl⟩ := hcs
    exact ⟨[], rfl, Nat.le_refl _, RRd.nil _ _, Nat.zero_le _⟩
  · simp at hcs
    obtain ⟨rfl, rfl, rfl⟩ := hcs
    have hlm : len ≤ m := by rw [hm]; split <;> omega
    have each : ∀ i, i < len → ∃ q : List Nat, ∃ B c, w.cell? (a'.add i) = some (.slice B q.length c) ∧ q.length ≤ c ∧ Rd w B q := fun i hi => by
      obtain ⟨hc, ht⟩ := hall i (by omega)
      obtain ⟨B, nb, cb, hv⟩ : ∃ B nb cb, V i = .slice B nb cb := by
        rcases Go.Deep.open_slice Try.underlying22 ht with ⟨e, _⟩ | ⟨a2, l2, c2, _, _, _, _, e, _⟩
        · exact ⟨none, 0, 0, by simpa using e⟩
        · exact ⟨some a2, l2, c2, by simpa using e⟩
      rw [hv] at ht hc
      obtain ⟨q, hq, hqc, hqr⟩ := open_bytes ht
      exact ⟨q, B, cb, by rw [hq]; exact hc, by rw [hq]; exact hqc, hqr⟩
    obtain ⟨q, hq⟩ := Go.Deep.choose_lt each
    have hat : ∀ i, i < len → ro ((List.range len).map q) i = q i := fun i hi => by unfold ro; rw [List.getElem?_map, List.getElem?_range hi]; rfl
    refine ⟨(List.range len).map q, by simp, hl, fun i hi => ?_, by rw [List.length_map, List.length_range]; omega⟩
    have hi' : i < len := by simpa using hi
    obtain ⟨B, c, h1, h2, h3⟩ := hq i hi'
    obtain ⟨b, o, spot⟩ := a'
    have hspot : spot = none := by
      obtain ⟨_, _, h0, _⟩ := hq 0 (by omega)
      simpa [Addr.add] using World.cell?_spot h0
    subst hspot
    rw [hat i hi']
    exact ⟨b, o, B, c, rfl, by rw [← Addr.add_mid]; exact h1, h2, h3⟩
end
end Go.Proofs.Ytmjndomjnhjncaa

/-
  The law CrcFrames, walked, under what layer 9's functions are to do. Conditions: none.
-/
namespace Go.Proofs.Ytmjndomjnhjncaa
open Go.RowKit
open Pol (co Sm)

/-- What framing answers: the bytes, the error's number. -/
def frL (l : List Nat) : List Nat := if 1 ≤ l.length ∧ l.length ≤ 1000 then fr l else []
def frK (l : List Nat) : Nat := if 1 ≤ l.length ∧ l.length ≤ 1000 then 0 else 1
def FrA (L : List Nat) (k : Nat) (w : World) (e : Ending) (w' : World) : Prop := Ext w w' ∧ ∃ B c, e = .returned (.tuple #[.slice B L.length c, .int .i64 (k : Int)]) ∧ Rd w' B L
theorem frA_ok {l : List Nat} (h : FrOk l) : frL l = fr l ∧ frK l = 0 := ⟨if_pos h, if_pos h⟩
theorem frA_no {l : List Nat} (h : ¬ FrOk l) : frL l = [] ∧ frK l = 1 := ⟨if_neg h, if_neg h⟩
theorem frL_sm {l : List Nat} (h : Sm l) : Sm (frL l) := by
  unfold frL
  split
  · rename_i ho; exact fr_sm h ho
  · exact Sm.nil
theorem frL_len (l : List Nat) : (frL l).length ≤ 1006 := by
  unfold frL
  split
  · rw [fr_len]; omega
  · simp
theorem FrameS.any {l : List Nat} {w w' : World} {e : Ending} (h : FrameS l w e w') : FrA (frL l) (frK l) w e w' := by
  obtain ⟨hx, (⟨ho, v, rfl, B, c, rfl, _, hr, _⟩ | ⟨hno, B, c, rfl⟩)⟩ := h
  · rw [(frA_ok ho).1, (frA_ok ho).2]
    exact ⟨hx, B, c, rfl, hr⟩
  · rw [(frA_no hno).1, (frA_no hno).2]
    exact ⟨hx, B, c, rfl, Rd.nil _ _⟩
theorem FrameE.any {l : List Nat} {w w' : World} {e : Ending} (hs : Sm l) (h : FrameE .i64 l w e w') : FrA (frL l) (frK l) w e w' := by
  obtain ⟨hx, (⟨ho, v, rfl, hm⟩ | ⟨hno, B, c, rfl⟩)⟩ := h
  · rw [(frA_ok ho).1, (frA_ok ho).2]
    obtain ⟨B, c, rfl, _, hr⟩ := hm.slice (fr_sm hs ho)
    exact ⟨hx, B, c, rfl, hr⟩
  · rw [(frA_no hno).1, (frA_no hno).2]
    exact ⟨hx, B, c, rfl, Rd.nil _ _⟩

set_option maxHeartbeats 3200000 in
set_option maxRecDepth 100000 in
theorem frames9_walk (C : CrcSaid) (l0 : List Nat) (a0 : Option Addr) (c0 : Nat) (l1 : List Nat) (a1 : Option Addr) (c1 : Nat) (w : World) (hr0 : Rd w a0 l0) (hc0 : l0.length ≤ c0) (hr1 : Rd w a1 l1) (hc1 : l1.length ≤ c1) :
    Calls Try.prog 4 #[.slice a0 l0.length c0, .slice a1 l1.length c1] w (Holds w) := by
  have HAW := Lib.hid (fun W => awake9 C W)
  by_cases hbig : l0.length ≤ 1200 ∧ l1.length ≤ 1200
  · have HF := Lib.hid (fun W (hx : Ext w W) => (C.frame l0 a0 c0 W (hr0.ext hx) hc0).mono fun _ _ h => h.any)
    have HG := Lib.hid (fun W (hx : Ext w W) => (ref9_frame l0 a0 c0 W (hr0.ext hx) (by omega)).mono fun _ _ h => h.any hr0.1)
    have HN := Lib.hid (fun W (hx : Ext w W) => C.next l1 a1 c1 W (hr1.ext hx) hc1 (by omega))
    have HM := Lib.hid (fun W (hx : Ext w W) => ref9_next l1 a1 c1 W (hr1.ext hx) hc1 (by omega))
    have HLL := Lib.hid (frL_len l0)
    have HR1 := Lib.hid hr1
    generalize frL l0 = F at *
    generalize frK l0 = K at *
    obtain ⟨n0, hn0⟩ : ∃ n, l0.length = n := ⟨_, rfl⟩
    obtain ⟨n1, hn1⟩ : ∃ n, l1.length = n := ⟨_, rfl⟩
    have HN1 := Lib.hid hn1
    rw [hn0] at HF HG hbig hc0 ⊢
    rw [hn1] at HN HM hbig hc1 ⊢
    have d1 : decide (1200 < (n0 : Int)) = false := decide_eq_false (by omega)
    have d2 : decide (1200 < (n1 : Int)) = false := decide_eq_false (by omega)
    obtain ⟨hb0, hb1⟩ := hbig
    clear C hr0 hr1 hn0 hn1
    go_enter Try.func4, Try.ntmps4
    go_wp2_with fail
    refine (HAW.out w).mono ?_
    rintro e v1 ⟨rfl, hv1⟩
    have HX1 := Lib.hid hv1
    clear hv1
    go_wp2_with fail
    refine (HF.out _ HX1.out).mono ?_
    rintro e v2 ⟨hv2, Bf, cf, rfl, hrf⟩
    have HX2 := Lib.hid (HX1.out.trans hv2)
    have HRF := Lib.hid hrf
    clear hv2 hrf
    go_wp2_with fail
    refine (HG.out _ HX2.out).mono ?_
    rintro e v3 ⟨hv3, Bg, cg, rfl, hrg⟩
    have HX3 := Lib.hid (HX2.out.trans hv3)
    have HRF3 := Lib.hid (HRF.out.ext hv3)
    have HRG := Lib.hid hrg
    clear hv3 hrg
    go_wp2_with fail
    refine (HN.out _ HX3.out).mono ?_
    rintro e v4 ⟨hv4, hnx⟩
    have HX4 := Lib.hid (HX3.out.trans hv4)
    have HRF4 := Lib.hid (HRF3.out.ext hv4)
    have HRG4 := Lib.hid (HRG.out.ext hv4)
    have HNX := Lib.hid hnx
    rcases hnx with ⟨t, r, v, u, hn, rfl, ⟨Bt, ct, rfl, hct, hrt, _⟩, ⟨Br, cr, rfl, hcr, hrr, _⟩⟩ | ⟨k, B1, cc1, B2, cc2, hn, rfl⟩
    · have HRT := Lib.hid hrt
      have HRR := Lib.hid hrr
      have hM : Calls Try.prog 17 #[.slice a1 n1 c1] v4 (fun e w' => Ext v4 w' ∧ e = .returned (.tuple #[.int .i64 (t.length : Int), .int .i64 0])) := (HM.out v4 HX4.out).mono fun e w' h => by
        unfold NextN at h
        rw [hn] at h
        exact h
      have HM4 := Lib.hid hM
      obtain ⟨hfr, hfo⟩ := nx_ok HR1.out.1 hn
      obtain ⟨ht1, ht2, _⟩ := fr_drop (k := 0) hfr
      rw [Nat.zero_add] at ht1 ht2
      have hlen := congrArg List.length hfr
      rw [List.length_append, fr_len, HN1.out] at hlen
      obtain ⟨n, hnn⟩ : ∃ n, t.length = n := ⟨_, rfl⟩
      obtain ⟨m, hm⟩ : ∃ m, r.length = m := ⟨_, rfl⟩
      rw [hnn] at ht1 ht2 hlen HM4 hct ⊢
      rw [hm] at hlen hcr ⊢
      obtain ⟨k, hk⟩ : ∃ k, 6 + n = k := ⟨_, rfl⟩
      rw [hk] at ht2 hlen
      have ek : 6 + (n : Int) = (k : Int) := by omega
      have HNN := Lib.hid hnn
      have HMM := Lib.hid hm
      obtain ⟨X, s1, hX⟩ := run_cut_u8 a1 n1 c1 6 k (by omega) (by omega)
      have HXT := Lib.hid (show ∀ W, Ext w W → Rd W X t from fun W hW => by
        have h := hX W l1 (HR1.out.ext hW) (by rw [HN1.out]; omega)
        rw [show k - 6 = n by omega, tab_cut l1 6 n (by rw [HN1.out]; omega), ht1] at h
        exact h)
      rw [show k - 6 = n by omega] at s1
      have s2 : ∀ W, (Instr.slice 22 (.slice a1 n1 c1) (some (.int .i64 6)) (some (.int .i64 (k : Int))) none).run Try.prog W = .ok (.slice X n (c1 - 6)) W := s1
      obtain ⟨Y, s3, hY, _⟩ := run_rest_u8 a1 n1 c1 k (by omega) hc1
      have HYT := Lib.hid (show ∀ W, Ext w W → Rd W Y r from fun W hW => by
        have h := hY W l1 (HR1.out.ext hW) HN1.out
        rw [← HN1.out, tab_drop9 l1 k (by rw [HN1.out]; omega), ht2] at h
        exact h)
      rw [show n1 - k = m by omega] at s3
      have hnb : n ≤ 1200 ∧ m ≤ 1200 := by omega
      obtain ⟨hnb1, hnb2⟩ := hnb
      clear s1 hX hY hv4 hn hrt hrr hM hfr hfo ht1 ht2 hnn hm hlen
      go_wp2_with fail
      refine HM4.out.mono ?_
      rintro e v5 ⟨hv5, rfl⟩
      have HX5 := Lib.hid (HX4.out.trans hv5)
      have HRF5 := Lib.hid (HRF4.out.ext hv5)
      have HRG5 := Lib.hid (HRG4.out.ext hv5)
      have HRT5 := Lib.hid (HRT.out.ext hv5)
      have HRR5 := Lib.hid (HRR.out.ext hv5)
      clear hv5
      go_wp2_with fail
      refine (same_tells F Bf Bg cf cg _ HRF5.out HRG5.out (by have := HLL.out; omega)).mono ?_
      rintro e v6 ⟨rfl, hv6⟩
      have HX6 := Lib.hid (HX5.out.trans hv6)
      have HRT6 := Lib.hid (HRT5.out.ext hv6)
      have HRR6 := Lib.hid (HRR5.out.ext hv6)
      have HS1 := Lib.hid (show Calls Try.prog 18 #[.slice Bt n ct, .slice X n (c1 - 6)] v6 (Tells (.bool true) v6) from by
        have h := same_tells t Bt X ct (c1 - 6) v6 HRT6.out (HXT.out _ HX6.out) (by rw [HNN.out]; omega)
        rw [HNN.out] at h
        exact h)
      clear hv6
      go_wp2_with fail
      refine HS1.out.mono ?_
      rintro e v7 ⟨rfl, hv7⟩
      have HX7 := Lib.hid (HX6.out.trans hv7)
      have HS2 := Lib.hid (show Calls Try.prog 18 #[.slice Br m cr, .slice Y m (c1 - k)] v7 (Tells (.bool true) v7) from by
        have h := same_tells r Br Y cr (c1 - k) v7 (HRR6.out.ext hv7) (HYT.out _ HX7.out) (by rw [HMM.out]; omega)
        rw [HMM.out] at h
        exact h)
      clear hv7
      go_wp2_with fail
      refine HS2.out.mono ?_
      rintro e v8 ⟨rfl, hv8⟩
      have HX8 := Lib.hid (HX7.out.trans hv8)
      clear hv8
      go_wp2
      go_ret
      exact ⟨rfl, HX8.out⟩
    · have hM := HM.out v4 HX4.out
      unfold NextN at hM
      rw [hn] at hM
      have HM4 := Lib.hid hM
      have hk := (nx_er hn).1
      have d3 : ((k : Int) != 0) = true := by simp; omega
      have d4 : decide (k = 0) = false := decide_eq_false (by omega)
      have d5 : ((k : Int) == 0) = false := by simp; omega
      clear hv4 hn hM hk
      go_wp2_with fail
      refine HM4.out.mono ?_
      rintro e v5 ⟨hv5, rfl⟩
      have HX5 := Lib.hid (HX4.out.trans hv5)
      have HRF5 := Lib.hid (HRF4.out.ext hv5)
      have HRG5 := Lib.hid (HRG4.out.ext hv5)
      clear hv5
      go_wp2_with fail
      refine (same_tells F Bf Bg cf cg _ HRF5.out HRG5.out (by have := HLL.out; omega)).mono ?_
      rintro e v6 ⟨rfl, hv6⟩
      have HX6 := Lib.hid (HX5.out.trans hv6)
      clear hv6
      go_wp2
      go_ret
      exact ⟨rfl, HX6.out⟩
  · have hor : decide (1200 < (l0.length : Int)) = true ∨ (decide (1200 < (l0.length : Int)) = false ∧ decide (1200 < (l1.length : Int)) = true) := by
      by_cases h : 1200 < (l0.length : Int)
      · exact .inl (decide_eq_true h)
      · exact .inr ⟨decide_eq_false h, decide_eq_true (by omega)⟩
    clear C hr0 hr1 hbig
    generalize l0.length = n0 at *
    generalize l1.length = n1 at *
    rcases hor with d1 | ⟨d1, d2⟩
    all_goals
      go_enter Try.func4, Try.ntmps4
      go_wp2_with fail
      refine (HAW.out w).mono ?_
      rintro e v1 ⟨rfl, hv1⟩
      have HX1 := Lib.hid hv1
      clear hv1
      go_wp2_with fail
      refine (HAW.out v1).mono ?_
      rintro e v2 ⟨rfl, hv2⟩
      have HX2 := Lib.hid (HX1.out.trans hv2)
      clear hv2
      go_wp2
      go_ret
      exact ⟨rfl, HX2.out⟩
end Go.Proofs.Ytmjndomjnhjncaa

/-
  The law CrcAll, walked, under what layer 9's functions are to do. Conditions: none.
-/
namespace Go.Proofs.Ytmjndomjnhjncaa
open Go.RowKit
open Pol (co Sm)

theorem fl_take_succ (rows : List (List Nat)) (i : Nat) (h : i < rows.length) : fl (rows.take (i + 1)) = fl (rows.take i) ++ fr (ro rows i) := by
  rw [take_ro rows i h, fl_app]
  unfold fl
  simp
theorem fl_take_le (rows : List (List Nat)) (i : Nat) : (fl (rows.take i)).length ≤ (fl rows).length := by
  have h : fl rows = fl (rows.take i) ++ fl (rows.drop i) := by rw [← fl_app, List.take_append_drop]
  rw [h, List.length_append]
  omega
theorem fl_sm {rows : List (List Nat)} (h : ∀ t ∈ rows, FrOk t ∧ Sm t) : Sm (fl rows) := by
  unfold fl
  refine Pol.co_lt_of fun x hx => ?_
  obtain ⟨l, hl, hxl⟩ := List.mem_flatten.1 hx
  obtain ⟨t, ht, rfl⟩ := List.mem_map.1 hl
  exact (fr_sm (h t ht).2 (h t ht).1).mem x hxl
/-- What All tells, in short. -/
structure AlOk (b : List Nat) (rows : List (List Nat)) (n : Nat) : Prop where
  flat : fl rows = b.take n
  le : n ≤ b.length
  ok : ∀ t ∈ rows, FrOk t ∧ Sm t
  flen : (fl rows).length = n
  few : rows.length ≤ n
theorem alOk (b : List Nat) (hs : Sm b) : AlOk b (al b).1 (al b).2 := by
  obtain ⟨h1, h2, h3⟩ := al_flat b hs
  have hl : (fl (al b).1).length = (al b).2 := by rw [h1, List.length_take]; omega
  refine ⟨h1, h2, h3, hl, ?_⟩
  rw [← hl]
  have : ∀ rows : List (List Nat), rows.length ≤ (fl rows).length := fun rows => by
    induction rows with
    | nil => exact Nat.zero_le _
    | cons t rows ih => rw [fl_cons, List.length_append, fr_len, List.length_cons]; omega
  exact this _
def AllT (rows : List (List Nat)) (n : Nat) (w : World) (e : Ending) (w' : World) : Prop :=
  Ext w w' ∧ ∃ R c, e = .returned (.tuple #[.slice R rows.length c, .int .i64 (n : Int)]) ∧ rows.length ≤ c ∧ RRd w' R rows
theorem AllS.any {b : List Nat} {w w' : World} {e : Ending} (h : AllS b w e w') : AllT (al b).1 (al b).2 w e w' := by
  obtain ⟨hx, R, c, he, hc, hr⟩ := h
  exact ⟨hx, R, c, he, hc, AllS.reads hr⟩
theorem AllR.any {b : List Nat} {w w' : World} {e : Ending} (h : AllR b w e w') : AllT (al b).1 (al b).2 w e w' := by
  obtain ⟨hx, v, he, hm⟩ := h
  obtain ⟨A, c, rfl, hc, hr⟩ := hm.slice
  exact ⟨hx, A, c, he, hc, hr⟩

set_option maxHeartbeats 800000 in
set_option maxRecDepth 100000 in
theorem all9_walk (C : CrcSaid) (l0 : List Nat) (a0 : Option Addr) (c0 : Nat) (w : World) (hr0 : Rd w a0 l0) (hc0 : l0.length ≤ c0) :
    Calls Try.prog 5 #[.slice a0 l0.length c0] w (Holds w) := by
  have HAW := Lib.hid (fun W => awake9 C W)
  by_cases hbig : l0.length ≤ 1200
  · have HA := Lib.hid (fun W (hx : Ext w W) => (C.all l0 a0 c0 W (hr0.ext hx) hc0 (by omega)).mono fun _ _ h => h.any)
    have HQ := Lib.hid (fun W (hx : Ext w W) => (ref9_all l0 a0 c0 W (hr0.ext hx) hc0 (by omega)).mono fun _ _ h => h.any)
    have HF := Lib.hid (fun t A c W (hr : Rd W A t) hc => C.frame t A c W hr hc)
    have hok := alOk l0 hr0.1
    generalize (al l0).1 = rows at *
    generalize (al l0).2 = n at *
    have HOK := Lib.hid hok
    have HR0 := Lib.hid hr0
    obtain ⟨n0, hn0⟩ : ∃ n, l0.length = n := ⟨_, rfl⟩
    have HN0 := Lib.hid hn0
    rw [hn0] at HA HQ hbig hc0 ⊢
    have hnn : n ≤ n0 := by rw [← hn0]; exact hok.le
    obtain ⟨k, hk⟩ : ∃ k, rows.length = k := ⟨_, rfl⟩
    have HK := Lib.hid hk
    have hkn : k ≤ n := by rw [← hk]; exact hok.few
    have HLS := Lib.hid (fun A B ca cb W (ha : RRd W A rows) (hb : RRd W B rows) => (ref9_lists rows A B ca cb W ha hb (by rw [hk]; omega) (fun i hi => by
      have := (hok.ok _ (ro_in rows i hi)).1.2; omega)).mono fun _ _ h => h.tells)
    have HEX := Lib.hid (fun i (hi : i < k) => show (ro rows i).length ≤ 1000 ∧ FrOk (ro rows i) ∧ Sm (ro rows i) from by
      have h := hok.ok _ (ro_in rows i (by rw [hk]; exact hi))
      exact ⟨h.1.2, h.1, h.2⟩)
    unfold AllT at HA HQ
    rw [hk] at HA HQ HLS
    have hs1 := fun W => run_to_u8 a0 n0 c0 n (by omega) W
    have HT := Lib.hid (fun i (hi : i < k) => fl_take_succ rows i (by rw [hk]; exact hi))
    have HTL := Lib.hid (fun i => show (fl (rows.take i)).length ≤ 1200 from by
      have h1 := fl_take_le rows i
      have h2 := hok.flen
      omega)
    have HSM := Lib.hid (fun i => show Sm (fl (rows.take i)) from fl_sm fun t ht => hok.ok t (List.mem_of_mem_take ht))
    have HE := Lib.hid (show fl (rows.take k) = l0.take n from by rw [← hk, List.take_length]; exact hok.flat)
    have d1 : decide (1200 < (n0 : Int)) = false := decide_eq_false (by omega)
    have d2 : ((n : Int) != (n : Int)) = false := by simp
    clear C hr0 hn0 hok hk
    go_enter Try.func5, Try.ntmps5
    go_wp2_with fail
    refine (HAW.out w).mono ?_
    rintro e v1 ⟨rfl, hv1⟩
    have HX1 := Lib.hid hv1
    clear hv1
    go_wp2_with fail
    refine (HA.out _ HX1.out).mono ?_
    rintro e v2 ⟨hv2, R, cr, rfl, hcr, hrr⟩
    have HX2 := Lib.hid (HX1.out.trans hv2)
    have HRR := Lib.hid hrr
    clear hv2 hrr
    go_wp2_with fail
    refine (HQ.out _ HX2.out).mono ?_
    rintro e v3 ⟨hv3, S, cs, rfl, hcs, hrs⟩
    have HX3 := Lib.hid (HX2.out.trans hv3)
    have HRR3 := Lib.hid (HRR.out.ext hv3)
    have HRS := Lib.hid hrs
    clear hv3 hrs
    go_wp2_with fail
    refine (HLS.out R S cr cs _ HRR3.out HRS.out).mono ?_
    rintro e v4 ⟨rfl, hv4⟩
    have HX4 := Lib.hid (HX3.out.trans hv4)
    have HRR4 := Lib.hid (HRR3.out.ext hv4)
    clear hv4
    go_wp2
    go_loopg [7, 40] k (fun g s7 s40 wx => ∃ i : Nat, i + g = k ∧ s40 = .int .i64 (i : Int) ∧ Mine wx v4.heap.size s7 (fl (rows.take i)) ∧ Ext v4 wx)
    case atStart => exact ⟨0, by omega, rfl, by rw [List.take_zero]; exact Mine.nil _ _, Ext.refl _⟩
    case round =>
      obtain ⟨i, hig, rfl, hm, hx⟩ := hrel
      have HM := Lib.hid hm
      have HX := Lib.hid hx
      obtain ⟨Bv, cv, ev, hcv, hrv⟩ := hm.slice (HSM.out i)
      have HRV := Lib.hid hrv
      subst ev
      have hs4 := HX4.out.size
      have hsr := hx.size
      clear hm hx hrv
      cases gk with
      | zero =>
        obtain rfl : i = k := by omega
        clear hig
        have hE := HE.out
        rw [hE] at HRV ⊢
        have hL := HTL.out i
        rw [hE] at hL
        have hlen : (l0.take n).length = n := by rw [List.length_take, HN0.out]; omega
        have HSA := Lib.hid (show Calls Try.prog 18 #[.slice Bv n cv, .slice a0 n c0] wr (Tells (.bool true) wr) from by
          have h := same_tells (l0.take n) Bv a0 cv c0 wr HRV.out ((HR0.out.ext (HX4.out.trans HX.out)).take n) (by omega)
          rw [hlen] at h
          exact h)
        rw [hlen]
        clear hE hL hlen
        go_wp2_with fail
        refine HSA.out.mono ?_
        rintro e v5 ⟨rfl, hv5⟩
        have HX5 := Lib.hid ((HX4.out.trans HX.out).trans hv5)
        clear hv5
        go_wp2
        go_ret
        exact ⟨rfl, HX5.out⟩
      | succ g =>
        have hi : i < k := by omega
        have hiI : (i : Int) < (k : Int) := by omega
        obtain ⟨b1, o1, R1, c1, rfl, hc1, hl1, hr1⟩ := (HRR4.out.ext HX.out) i (by rw [HK.out]; exact hi)
        obtain ⟨ht1, ht2, ht3⟩ := HEX.out i hi
        have HTI := Lib.hid (HT.out i hi)
        have HTL1 := Lib.hid (HTL.out (i + 1))
        have HFI := Lib.hid (HF.out (ro rows i) R1 c1 wr hr1 hl1)
        obtain ⟨t, ht⟩ : ∃ t, ro rows i = t := ⟨_, rfl⟩
        rw [ht] at hc1 hl1 hr1 ht1 ht2 ht3 HTI HFI
        obtain ⟨nt, hnt⟩ : ∃ nt, t.length = nt := ⟨_, rfl⟩
        have HNT := Lib.hid hnt
        rw [hnt] at hc1 hl1 ht1 HFI
        have HFO := Lib.hid ht2
        have HST := Lib.hid (fr_sm ht3 ht2)
        have HIG := Lib.hid hig
        clear hr1 ht2 ht3 ht hnt hig
        go_wp2_with fail
        refine HFI.out.mono ?_
        rintro e v5 ⟨hv5, (⟨_, v, rfl, Bf, cf, rfl, hcf, hrf, _⟩ | ⟨hno, _⟩)⟩
        · have HX5 := Lib.hid hv5
          have HRF := Lib.hid hrf
          have hfl : (fr t).length = 6 + nt := by rw [fr_len, HNT.out]
          obtain ⟨nf, hnf⟩ : ∃ nf, (fr t).length = nf := ⟨_, rfl⟩
          have HNF := Lib.hid hnf
          rw [hnf] at hcf ⊢
          have hnf2 : nf ≤ 1006 := by omega
          obtain ⟨La, hLa⟩ : ∃ La, (fl (rows.take i)).length = La := ⟨_, rfl⟩
          have HLA := Lib.hid hLa
          have hLa2 : La ≤ 1200 := by rw [← hLa]; exact HTL.out i
          have hs5 := hv5.size
          rw [hLa] at HM ⊢
          clear hv5 hrf hfl hnf hLa
          go_wp2_with (at_builtin; refine wpList_append_rd rfl (.tmp 53) (.tmp 54) rfl v4.heap.size (.slice Bv La cv) (fl (rows.take i)) (fr t) rfl (mine_ext HM.out HX5.out) Bf nf cf rfl HNF.out HRF.out (by rw [HLA.out, HNF.out]; omega) (by omega) ?_; intro v7 w7 hown7 hg7 hat7; rw [← HTI.out] at hown7; have HX7 := Lib.hid ((HX.out.trans HX5.out).more hg7 (fun q hq => (HM.out.block q hq).1)); have HM7 := Lib.hid hown7; clear hown7 hg7 hat7)
          go_roundg g
          case measure => omega
          case rel => exact ⟨i + 1, by have := HIG.out; omega, by go_num, HM7.out, HX7.out⟩
        · exact absurd HFO.out hno
  · have d1 : decide (1200 < (l0.length : Int)) = true := decide_eq_true (by omega)
    clear C hr0 hbig
    generalize l0.length = n0 at *
    go_enter Try.func5, Try.ntmps5
    go_wp2_with fail
    refine (HAW.out w).mono ?_
    rintro e v1 ⟨rfl, hv1⟩
    have HX1 := Lib.hid hv1
    clear hv1
    go_wp2_with fail
    refine (HAW.out v1).mono ?_
    rintro e v2 ⟨rfl, hv2⟩
    have HX2 := Lib.hid (HX1.out.trans hv2)
    clear hv2
    go_wp2
    go_ret
    exact ⟨rfl, HX2.out⟩
end Go.Proofs.Ytmjndomjnhjncaa

/-
  Slices of ints that read as a list, and slices of ints of a call's own: what append does with them. Conditions: the lengths add up to no more than 2^20.
-/
namespace Go.Proofs.Ytmjndomjnhjncaa
open Go.RowKit
open Pol (co Sm)

/-! ### Ints -/
theorem int_info : (Try.prog.info? 3).map (fun i => (i.zero, i.size, i.bytes)) = some (some (.int .i64 0), 1, 8) := by kernel_rfl
def iv (l : List Nat) : List Value := l.map fun x : Nat => Value.int .i64 (x : Int)
theorem iv_len (l : List Nat) : (iv l).length = l.length := by simp [iv]
theorem iv_at (l : List Nat) (i : Nat) (h : i < l.length) : (iv l)[i]? = some (.int .i64 ((co l i : Nat) : Int)) := by simp [iv, co, List.getElem?_eq_getElem h]
/-- From address A on lie the ints l. -/
def IRd (w : World) (A : Option Addr) (l : List Nat) : Prop := ∀ i, i < l.length → ∃ b o, A = some ⟨b, o, none⟩ ∧ w.cell? ⟨b, o + i, none⟩ = some (.int .i64 ((co l i : Nat) : Int))
theorem IRd.ext {w w' : World} {A : Option Addr} {l : List Nat} (h : IRd w A l) (hx : Ext w w') : IRd w' A l := fun i hi => by
  obtain ⟨b, o, e, hc⟩ := h i hi
  exact ⟨b, o, e, (hx.below.cell (p := ⟨b, o + i, none⟩) (block_lt_of_cell hc)).trans hc⟩
/-- A slice of ints of the call's own. -/
def IMine (w : World) (base : Nat) (v : Value) (l : List Nat) : Prop := w.ownsRow base 3 1 v l.length (iv l)
theorem IMine.nil (w : World) (base : Nat) : IMine w base (.slice none 0 0) [] := World.ownsRow_nil w base _ _
theorem IMine.slice {w : World} {base : Nat} {v : Value} {l : List Nat} (h : IMine w base v l) : ∃ B c, v = .slice B l.length c ∧ l.length ≤ c ∧ IRd w B l := by
  rcases h.2 with ⟨rfl, hn⟩ | ⟨g, cap, cur, rfl, _, hg, hnc, _, _, htake⟩
  · have : l = [] := List.eq_nil_of_length_eq_zero hn
    subst this
    exact ⟨none, 0, rfl, Nat.le_refl _, fun i hi => absurd hi (by simp)⟩
  · refine ⟨_, cap, rfl, hnc, fun i hi => ⟨g, 0, rfl, ?_⟩⟩
    rw [Nat.zero_add, cell_of_row w g i cur _ _ hg, ← iv_at l i hi, ← htake, List.getElem?_take, if_pos (by omega)]
    simp
theorem IMine.ext {w w' : World} {base : Nat} {v : Value} {l : List Nat} (h : IMine w base v l) (hx : Ext w w') : IMine w' base v l :=
  World.ownsRow.kept h (row := none) ⟨hx.below.os, hx.below.tape, hx.below.output, hx.below.size, fun k hk _ => hx.below.block k hk⟩ (by
    cases hb : v.ownBlock with
    | none => exact .inl rfl
    | some k => exact .inr (by simp))
theorem IMine.keep {w w' : World} {base : Nat} {v : Value} {l : List Nat} {row : Option Nat} (h : IMine w base v l) (hg : w.grownBy w' row) (hne : ∀ k, v.ownBlock = some k → some k ≠ row) : IMine w' base v l :=
  World.ownsRow.kept h hg (by
    cases hb : v.ownBlock with
    | none => exact .inl rfl
    | some k => exact .inr (hne k hb))
theorem IMine.block {w : World} {base : Nat} {v : Value} {l : List Nat} (h : IMine w base v l) : ∀ k, v.ownBlock = some k → base ≤ k ∧ k < w.heap.size := fun k hk => World.ownsRow.lt h k hk
set_option maxRecDepth 100000 in
theorem wpList_append_int {ops : Array Oper} {rest : List Oper} {o : Oper} {a : Act} {w : World} {Q : Exit → Act → World → Prop} (hgd : o.guard = none) (s x : Operand)
    (ho : o.op = .call { callee := .builtin .append, args := #[s, x], argTypes := #[43, 43] })
    (base : Nat) (v : Value) (l : List Nat) (n : Nat) (hs : a.eval s = v) (hown : IMine w base v l) (b c : Nat) (hx : a.eval x = .slice (some ⟨b, 0, none⟩) 1 c) (hr : w.cell? ⟨b, 0, none⟩ = some (.int .i64 (n : Int)))
    (hlen : l.length + 1 ≤ 1048576) (hbase : base ≤ w.heap.size)
    (h : ∀ v' w', IMine w' base v' (l ++ [n]) → w.grownBy w' v.ownBlock → (v'.ownBlock = v.ownBlock ∨ v'.ownBlock = some w.heap.size) → wpList Try.prog ops Q rest (a.put o.dst v') w') :
    wpList Try.prog ops Q (o :: rest) a w := by
  refine wpList_plain hgd fun K hK => ?_
  obtain ⟨i0, hi, hz0, hz1, hz2⟩ := info_parts int_info
  obtain ⟨v', w', h1, h2, h3, _, h5⟩ := run_append_own_at (P := Try.prog) w base 43 o.type 3 i0 (.int .i64 0) 1 8 Try.underlying43 hi hz0 hz1 hz2 rfl (by omega) v l.length (iv l) hown ⟨b, 0, none⟩ 1 c [.int .i64 (n : Int)] rfl
    (fun j u hu => by
      match j, hu with
      | 0, hu =>
        have e : (Value.int .i64 (n : Int)) = u := by simpa using hu
        rw [addr_add, ← e]
        exact hr) (fun u hu => by
      have e : u = Value.int .i64 (n : Int) := by simpa using hu
      rw [e]; rfl) (by unfold maxLen; omega) (by omega) hbase
  unfold Oper.wp execOp
  simp only [ho, resolve, invoke, builtin, Sem.run_bind, Sem.run_pure, Result.andThen_ok, List.map_toArray, List.map_cons, List.map_nil, hs, hx, h1]
  exact hK _ _ (h v' w' (by unfold IMine; rw [List.length_append, show iv (l ++ [n]) = iv l ++ [.int .i64 (n : Int)] from by simp [iv]]; exact h2) h3 h5)
end Go.Proofs.Ytmjndomjnhjncaa

/-
  The law CrcBack, walked, under what layer 9's functions are to do. Conditions: none.
-/
namespace Go.Proofs.Ytmjndomjnhjncaa
open Go.RowKit
open Pol (co Sm)

/-- s[:h] of rows. -/
theorem run_to_rows (A : Option Addr) (len cap h : Nat) (hh : h ≤ cap) (W : World) :
    (Instr.slice 37 (.slice A len cap) none (some (.int .i64 (h : Int))) none).run Try.prog W = .ok (.slice A h cap) W := by
  obtain ⟨i0, hi, hz0, hz1, hz2⟩ := info_parts row_info
  have he : Try.prog.elem 37 = 22 := by kernel_rfl
  rw [run_slice_h W 37 _ len cap (by rw [he]; exact Try.underlying37) .i64 (h : Int) (by omega) (by omega), he]
  cases A <;> simp [sizeOf, typeInfo, hi, hz1, Result.andThen, sliced, Addr.add]
theorem ro_take (rows : List (List Nat)) (k i : Nat) (h : i < k) : ro (rows.take k) i = ro rows i := by unfold ro; rw [List.getElem?_take, if_pos h]
theorem RRd.take {w : World} {A : Option Addr} {rows : List (List Nat)} (h : RRd w A rows) (k : Nat) : RRd w A (rows.take k) := fun i hi => by
  rw [List.length_take] at hi
  rw [ro_take rows k i (by omega)]
  exact h i (by omega)
/-- Where the first m frames end; all ends. -/
def ps (rows : List (List Nat)) (m : Nat) : Nat := (fl (rows.take m)).length
def psl (rows : List (List Nat)) (i : Nat) : List Nat := (List.range i).map fun j => ps rows (j + 1)
theorem psl_len (rows : List (List Nat)) (i : Nat) : (psl rows i).length = i := by unfold psl; simp
theorem psl_succ (rows : List (List Nat)) (i : Nat) : psl rows (i + 1) = psl rows i ++ [ps rows (i + 1)] := by unfold psl; rw [List.range_succ, List.map_append]; rfl
theorem psl_at (rows : List (List Nat)) (i j : Nat) (h : j < i) : co (psl rows i) j = ps rows (j + 1) := by
  unfold co psl
  rw [List.getElem?_map, List.getElem?_range h]
  rfl
theorem ps_mono (rows : List (List Nat)) (a b : Nat) (h : a ≤ b) : ps rows a ≤ ps rows b := by
  unfold ps
  have h1 := fl_take_le (rows.take b) a
  rw [List.take_take, Nat.min_eq_left h] at h1
  exact h1
theorem ps_zero (rows : List (List Nat)) : ps rows 0 = 0 := rfl
theorem ps_step (rows : List (List Nat)) (i : Nat) (h : i < rows.length) : ps rows (i + 1) = ps rows i + (6 + (ro rows i).length) := by
  unfold ps
  rw [fl_take_succ rows i h, List.length_append, fr_len]
/-- The first i rows are short, and frames. -/
def Ok9 (rows : List (List Nat)) (i : Nat) : Prop := ∀ j, j < i → FrOk (ro rows j) ∧ (ro rows j).length ≤ 60
theorem Ok9.ps_le {rows : List (List Nat)} : ∀ {i : Nat}, Ok9 rows i → i ≤ rows.length → ps rows i ≤ 66 * i
  | 0, _, _ => by rw [ps_zero]; omega
  | i + 1, h, hi => by
    rw [ps_step rows i (by omega)]
    have := ps_le (i := i) (fun j hj => h j (by omega)) (by omega)
    have := (h i (by omega)).2
    omega
theorem Ok9.all {rows : List (List Nat)} (h : Ok9 rows rows.length) : ∀ t ∈ rows, FrOk t := fun t ht => by
  obtain ⟨i, hi, rfl⟩ := ro_mem ht
  exact (h i hi).1
/-- No block of one is the other's. -/
def Sp (u v : Value) : Prop := ∀ q, u.ownBlock = some q → v.ownBlock ≠ some q
theorem Sp.left {u u' v : Value} {n : Nat} (h : Sp u v) (ha : u'.ownBlock = u.ownBlock ∨ u'.ownBlock = some n) (hv : ∀ q, v.ownBlock = some q → q < n) : Sp u' v := fun q hq => by
  rcases ha with e | e
  · exact h q (e.symm.trans hq)
  · intro hv'
    rw [e] at hq
    injection hq with hq
    have := hv q hv'
    omega
theorem Sp.right {u v v' : Value} {n : Nat} (h : Sp u v) (ha : v'.ownBlock = v.ownBlock ∨ v'.ownBlock = some n) (hu : ∀ q, u.ownBlock = some q → q < n) : Sp u v' := fun q hq => by
  rcases ha with e | e
  · rw [e]; exact h q hq
  · rw [e]
    intro e'
    injection e' with e'
    have := hu q hq
    omega
theorem Mine.keep9 {w w' : World} {base : Nat} {v : Value} {l : List Nat} {row : Option Nat} (h : Mine w base v l) (hg : w.grownBy w' row) (hne : ∀ k, v.ownBlock = some k → some k ≠ row) : Mine w' base v l :=
  World.ownsRow.kept h hg (by
    cases hb : v.ownBlock with
    | none => exact .inl rfl
    | some k => exact .inr (hne k hb))

set_option maxHeartbeats 800000 in
set_option maxRecDepth 100000 in
theorem back9_walk (C : CrcSaid) (l0 : List (List Nat)) (a0 : Option Addr) (c0 : Nat) (x1 : Nat) (w : World) (hr0 : RRd w a0 l0) (hc0 : l0.length ≤ c0) (hx1 : x1 < 18446744073709551616) :
    Calls Try.prog 6 #[.slice a0 l0.length c0, .int .u64 (x1 : Int)] w (Holds w) := by
  have HAW := Lib.hid (fun W => awake9 C W)
  by_cases hbig : l0.length ≤ 12
  · have HSMR := Lib.hid (fun i (hi : i < l0.length) => show Sm (ro l0 i) from hr0.sm _ (ro_in l0 i hi))
    have HR0 := Lib.hid hr0
    have HF := Lib.hid (fun t A c W (hr : Rd W A t) hc => C.frame t A c W hr hc)
    have HALL := Lib.hid (fun b A c W (hr : Rd W A b) hc (hl : b.length ≤ 65536) => (C.all b A c W hr hc hl).mono fun _ _ h => h.any)
    have HPS := Lib.hid (fun i (hi : i < l0.length) => ps_step l0 i hi)
    have HFT := Lib.hid (fun i (hi : i < l0.length) => fl_take_succ l0 i hi)
    obtain ⟨k, hk⟩ : ∃ k, l0.length = k := ⟨_, rfl⟩
    have HK := Lib.hid hk
    rw [hk] at hbig hc0 HSMR HPS HFT ⊢
    have d1 : decide (12 < (k : Int)) = false := decide_eq_false (by omega)
    clear C hr0 hk
    go_enter Try.func6, Try.ntmps6
    go_wp2_with fail
    refine (HAW.out w).mono ?_
    rintro e v1 ⟨rfl, hv1⟩
    have HX1 := Lib.hid hv1
    clear hv1
    go_wp2
    go_loopg [5, 6, 28] k (fun g s5 s6 s28 wx => ∃ i : Nat, i + g = k ∧ s28 = .int .i64 (i : Int) ∧ Mine wx v1.heap.size s5 (fl (l0.take i)) ∧ IMine wx v1.heap.size s6 (psl l0 i) ∧ Sp s5 s6 ∧ Ok9 l0 i ∧ Ext v1 wx)
    case atStart => exact ⟨0, by omega, rfl, Mine.nil _ _, IMine.nil _ _, fun q h => by simp [Value.ownBlock] at h, fun j hj => by omega, Ext.refl _⟩
    case round =>
      obtain ⟨i, hig, rfl, hm, him, hsp, hok, hx⟩ := hrel
      have HM := Lib.hid hm
      have HIM := Lib.hid him
      have HSP := Lib.hid hsp
      have HOK := Lib.hid hok
      have HX := Lib.hid hx
      have hs0 := HX1.out.size
      have hs1 := hx.size
      have hik : i ≤ k := by omega
      have HPL := Lib.hid (hok.ps_le (by rw [HK.out]; exact hik))
      have hpl : ps l0 i ≤ 66 * i := HPL.out
      clear hm him hsp hok hx
      cases gk with
      | zero =>
        obtain rfl : i = k := by omega
        clear hig hik
        have HFRM := Lib.hid (show ∀ t ∈ l0, FrOk t from Ok9.all (HK.out.symm ▸ HOK.out))
        have hTK : l0.take i = l0 := by rw [← HK.out, List.take_length]
        have HMB := HM.out
        rw [hTK] at HMB
        have hsm : Sm (fl l0) := fl_sm fun t' ht' => by
          obtain ⟨j, hj, e⟩ := ro_mem ht'
          subst e
          exact ⟨(HOK.out j (by rw [← HK.out]; exact hj)).1, HSMR.out j (by rw [← HK.out]; exact hj)⟩
        obtain ⟨B5, c5, ev5, hc5, hr5⟩ := HMB.slice hsm
        obtain ⟨A6, c6, ev6, hc6, hr6⟩ := HIM.out.slice
        rw [psl_len] at ev6 hc6
        obtain ⟨P, hP⟩ : ∃ P, (fl l0).length = P := ⟨_, rfl⟩
        have hPi : ps l0 i = P := by unfold ps; rw [hTK]; exact hP
        rw [hPi] at hpl
        rw [hP] at ev5 hc5
        subst ev5; subst ev6
        obtain ⟨M, hM⟩ : ∃ M, P + 1 = M := ⟨_, rfl⟩
        obtain ⟨N, hN⟩ : ∃ N, x1 % M = N := ⟨_, rfl⟩
        have hM0 : 0 < M := by omega
        have hNP : N ≤ P := by
          have := Nat.mod_lt x1 hM0
          omega
        have q1 : (P : Int) + 1 = (M : Int) := by omega
        have q2 : IntKind.u64.wrap (M : Int) = (M : Int) := by rw [IntKind.wrap_u64]; omega
        have q3 : (x1 : Int) % (M : Int) = (N : Int) := by omega
        have q4 : IntKind.i64.wrap (N : Int) = (N : Int) := by rw [IntKind.wrap_i64]; omega
        have hMI : (M : Int) ≠ 0 := by omega
        have HR5 := Lib.hid hr5
        have HR6 := Lib.hid hr6
        have HP := Lib.hid hP
        have HPI := Lib.hid hPi
        have hP1 : P ≤ 1000 := by omega
        clear HMB hsm hr5 hr6 hP hPi hTK hM hN HPS HFT HF
        go_wp2
        obtain ⟨w5, hw5⟩ : ∃ q, q = wr := ⟨_, rfl⟩
        subst hw5
        go_loopg [11, 12, 81] i (fun g s11 s12 s81 wx => ∃ j m q : Nat, j + g = i ∧ s81 = .int .i64 (j : Int) ∧ s11 = .int .i64 (m : Int) ∧ s12 = .int .i64 ((ps l0 m : Nat) : Int) ∧ m ≤ j ∧ ps l0 m ≤ N ∧ (m < j → N < ps l0 (m + 1)) ∧ wx = w5.drewN q)
        case atStart => exact ⟨0, 0, 0, by omega, rfl, rfl, rfl, Nat.le_refl _, by rw [ps_zero]; omega, fun h => by omega, rfl⟩
        case round =>
          obtain ⟨j, m, q, hjg, rfl, rfl, rfl, hmj, hpm, hpm1, rfl⟩ := hrel
          cases gk with
          | zero =>
            obtain rfl : j = i := by omega
            clear hjg
            have hmi : m ≤ l0.length := by rw [HK.out]; exact hmj
            have halA : al (fl l0) = (l0, P) := by
              have h := al_frames [] 2 (by unfold nx; simp) l0 HFRM.out
              rw [List.append_nil, HP.out] at h
              exact h
            have halB : al ((fl l0).take N) = (l0.take m, ps l0 m) := al_cut l0 HFRM.out N m hpm (fun h => hpm1 (by rw [← HK.out]; exact h))
            have hlN : ((fl l0).take N).length = N := by rw [List.length_take, HP.out]; omega
            have hlm : (l0.take m).length = m := by rw [List.length_take]; omega
            obtain ⟨Q, hQ⟩ : ∃ Q, ps l0 m = Q := ⟨_, rfl⟩
            rw [hQ] at halB hpm ⊢
            have HA1 := Lib.hid (fun W (hx : Ext w5 W) => show Calls Try.prog 19 #[.slice B5 P c5] W (AllT l0 P W) from by
              have h := HALL.out (fl l0) B5 c5 W (HR5.out.ext hx) (by rw [HP.out]; exact hc5) (by rw [HP.out]; omega)
              rw [halA, HP.out] at h
              exact h)
            have HA2 := Lib.hid (fun W (hx : Ext w5 W) => show Calls Try.prog 19 #[.slice B5 N c5] W (AllT (l0.take m) Q W) from by
              have h := HALL.out ((fl l0).take N) B5 c5 W ((HR5.out.ext hx).take N) (by rw [hlN]; omega) (by rw [hlN]; omega)
              rw [halB, hlN] at h
              exact h)
            have HL1 := Lib.hid (fun A ca W (ha : RRd W A l0) (hx : Ext w W) => show Calls Try.prog 21 #[.slice A j ca, .slice a0 j c0] W (Tells (.bool true) W) from by
              have h := (ref9_lists l0 A a0 ca c0 W ha (HR0.out.ext hx) (by rw [HK.out]; omega) (fun i' hi' => by have := (HOK.out i' (by rw [← HK.out]; exact hi')).2; omega)).mono fun _ _ h => h.tells
              rw [HK.out] at h
              exact h)
            have HL2 := Lib.hid (fun A ca W (ha : RRd W A (l0.take m)) (hx : Ext w W) => show Calls Try.prog 21 #[.slice A m ca, .slice a0 m c0] W (Tells (.bool true) W) from by
              have h := (ref9_lists (l0.take m) A a0 ca c0 W ha ((HR0.out.ext hx).take m) (by rw [hlm]; omega) (fun i' hi' => by
                rw [hlm] at hi'
                rw [ro_take l0 m i' hi']
                have := (HOK.out i' (by omega)).2
                omega)).mono fun _ _ h => h.tells
              rw [hlm] at h
              exact h)
            have HLM := Lib.hid hlm
            have s1 := fun W => run_to_u8 B5 P c5 N (by omega) W
            have s2 := fun W => run_to_rows a0 j c0 m (by omega) W
            have HW5 := Lib.hid (HX1.out.trans HX.out)
            obtain ⟨W5, hW5⟩ : ∃ W5, w5.drewN q = W5 := ⟨_, rfl⟩
            have HY5 := Lib.hid (show Ext w5 W5 from by rw [← hW5]; exact (Ext.refl _).drewN q)
            rw [hW5]
            unfold AllT at HA1 HA2
            rw [HK.out] at HA1
            rw [hlm] at HA2
            clear hW5 halA halB hlN hlm hQ hpm1
            go_wp2_with fail
            refine (HA1.out _ HY5.out).mono ?_
            rintro e u1 ⟨hz, R1, cr1, rfl, hcr1, hrr1⟩
            have HZ1 := Lib.hid (HY5.out.trans hz)
            have HRR1 := Lib.hid hrr1
            clear hz hrr1
            go_wp2_with fail
            refine (HA2.out _ HZ1.out).mono ?_
            rintro e u2 ⟨hz, R2, cr2, rfl, hcr2, hrr2⟩
            have HZ2 := Lib.hid (HZ1.out.trans hz)
            have HRR12 := Lib.hid (HRR1.out.ext hz)
            have HRR2 := Lib.hid hrr2
            clear hz hrr2
            go_wp2_with fail
            refine (HL1.out _ _ _ HRR12.out (HW5.out.trans HZ2.out)).mono ?_
            rintro e u3 ⟨rfl, hz⟩
            have HZ3 := Lib.hid (HZ2.out.trans hz)
            have HRR23 := Lib.hid (HRR2.out.ext hz)
            clear hz
            go_wp2_with fail
            refine (HL2.out _ _ _ HRR23.out (HW5.out.trans HZ3.out)).mono ?_
            rintro e u4 ⟨rfl, hz⟩
            have HZ4 := Lib.hid ((HW5.out.trans HZ3.out).trans hz)
            clear hz
            go_wp2
            go_ret
            exact ⟨rfl, HZ4.out⟩
          | succ g =>
            have hj : j < i := by omega
            have hjI : (j : Int) < (i : Int) := by omega
            obtain ⟨b6, o6, rfl, hc6'⟩ := HR6.out j (by rw [psl_len]; exact hj)
            rw [psl_at l0 i j hj] at hc6'
            have HC6 := Lib.hid hc6'
            by_cases hle : ps l0 (j + 1) ≤ N
            · have t1 : decide (((ps l0 (j + 1) : Nat) : Int) ≤ (N : Int)) = true := decide_eq_true (by omega)
              have hNN : ps l0 (j + 1) ≤ 1000 := by omega
              obtain ⟨Y, hY⟩ : ∃ Y, ps l0 (j + 1) = Y := ⟨_, rfl⟩
              have HY := Lib.hid hY
              rw [hY] at hc6' t1 hle hNN
              clear hY hpm1 hpm
              go_wp2
              go_quiet (fail)
              go_wp2
              go_roundg g
              case measure => omega
              case rel => exact ⟨j + 1, j + 1, _, by omega, by go_num, by go_num, by rw [HY.out], Nat.le_refl _, by rw [HY.out]; exact hle, fun h => by omega, rfl⟩
            · have t1 : decide (((ps l0 (j + 1) : Nat) : Int) ≤ (N : Int)) = false := decide_eq_false (by omega)
              have HLT := Lib.hid (show m < j + 1 → N < ps l0 (m + 1) from fun h => by
                by_cases e : m = j
                · subst e; omega
                · exact hpm1 (by omega))
              obtain ⟨Y, hY⟩ : ∃ Y, ps l0 (j + 1) = Y := ⟨_, rfl⟩
              rw [hY] at hc6' t1 hle
              clear hY hpm1
              go_wp2
              go_roundg g
              case measure => omega
              case rel => exact ⟨j + 1, m, q, by omega, by go_num, rfl, rfl, by omega, hpm, HLT.out, rfl⟩
      | succ g =>
        have hi : i < k := by omega
        have hiI : (i : Int) < (k : Int) := by omega
        obtain ⟨b1, o1, R1, c1, rfl, hc1, hl1, hr1⟩ := (HR0.out.ext (HX1.out.trans HX.out)) i (by rw [HK.out]; exact hi)
        have HPSI := Lib.hid (HPS.out i hi)
        have HFTI := Lib.hid (HFT.out i hi)
        have HSI := Lib.hid (HSMR.out i hi)
        have HFI := Lib.hid (HF.out (ro l0 i) R1 c1 wr hr1 hl1)
        obtain ⟨t, ht⟩ : ∃ t, ro l0 i = t := ⟨_, rfl⟩
        rw [ht] at hc1 hl1 hr1 HPSI HFTI HSI HFI
        obtain ⟨nt, hnt⟩ : ∃ nt, t.length = nt := ⟨_, rfl⟩
        have HNT := Lib.hid hnt
        rw [hnt] at hc1 hl1 HPSI HFI
        have HTR := Lib.hid ht
        have HIG := Lib.hid hig
        obtain ⟨B5, c5, ev5, hc5, _⟩ := HM.out.slice (fl_sm (fun t' ht' => by
          obtain ⟨j, hj, e⟩ := ro_mem ht'
          rw [List.length_take] at hj
          rw [ro_take l0 i j (by omega)] at e
          subst e
          exact ⟨(HOK.out j (by omega)).1, HSMR.out j (by omega)⟩))
        obtain ⟨A6, c6, ev6, hc6, _⟩ := HIM.out.slice
        rw [psl_len] at ev6 hc6
        have hLb : (fl (l0.take i)).length = ps l0 i := rfl
        rw [hLb] at ev5 hc5
        subst ev5; subst ev6
        clear hr1 ht hnt hig hLb
        go_wp2_with fail
        refine HFI.out.mono ?_
        rintro e v2 ⟨hv2, (⟨hfo, v, rfl, Bf, cf, rfl, hcf, hrf, _⟩ | ⟨hno, Bn, cn, rfl⟩)⟩
        · have hc1' := (hv2.below.cell (p := ⟨b1, o1 + i, none⟩) (block_lt_of_cell hc1)).trans hc1
          by_cases h60 : nt ≤ 60
          · have d2 : decide (60 < (nt : Int)) = false := decide_eq_false (by omega)
            have HX2 := Lib.hid (HX.out.trans hv2)
            have HM2 := Lib.hid (mine_ext HM.out hv2)
            have HIM2 := Lib.hid (HIM.out.ext hv2)
            have HRF := Lib.hid hrf
            have hfl : (fr t).length = 6 + nt := by rw [fr_len, HNT.out]
            obtain ⟨nf, hnf⟩ : ∃ nf, (fr t).length = nf := ⟨_, rfl⟩
            have HNF := Lib.hid hnf
            rw [hnf] at hcf ⊢
            have hnf2 : nf ≤ 66 := by omega
            have HOK1 := Lib.hid (show Ok9 l0 (i + 1) from fun j hj => by
              by_cases e : j = i
              · subst e; rw [HTR.out]; exact ⟨hfo, by rw [HNT.out]; exact h60⟩
              · exact HOK.out j (by omega))
            obtain ⟨P, hP⟩ : ∃ P, ps l0 i = P := ⟨_, rfl⟩
            have HPE := Lib.hid hP
            rw [hP] at HM2 HSP hpl hc5 ⊢
            have hs2 := hv2.size
            clear hv2 hrf hfl hnf hP
            have hlb : (fl (l0.take i)).length = P := HPE.out
            have HSF := Lib.hid (show Sm (fl (l0.take (i + 1))) from fl_sm fun t' ht' => by
              obtain ⟨j, hj, e⟩ := ro_mem ht'
              rw [List.length_take] at hj
              rw [ro_take l0 (i + 1) j (by omega)] at e
              subst e
              exact ⟨(HOK1.out j (by omega)).1, HSMR.out j (by have := HK.out; omega)⟩)
            have HLB := Lib.hid hlb
            obtain ⟨P1, hP1⟩ : ∃ P1, ps l0 (i + 1) = P1 := ⟨_, rfl⟩
            have HP1 := Lib.hid hP1
            have hp1b : P1 ≤ 1000 := by rw [← hP1, HPSI.out, HPE.out]; omega
            clear hlb hP1
            go_wp2_with (at_builtin; first
              | (refine wpList_append_rd rfl (.tmp 63) (.tmp 64) rfl v1.heap.size (.slice B5 P c5) (fl (l0.take i)) (fr t) rfl HM2.out Bf nf cf rfl HNF.out HRF.out (by rw [HLB.out, HNF.out]; omega) (by omega) ?_; intro v7 w7 hown7 hg7 hat7
                 rw [← HFTI.out] at hown7
                 have hsp7 : Sp v7 (.slice A6 i c6) := HSP.out.left hat7 (fun q hq => (HIM2.out.block q hq).2)
                 have him7 := HIM2.out.keep hg7 (fun q hq e => HSP.out q e.symm hq)
                 obtain ⟨B7, c7, ev7, hc7, _⟩ := hown7.slice HSF.out
                 have hl7 : (fl (l0.take (i + 1))).length = P1 := HP1.out
                 rw [hl7] at ev7 hc7
                 subst ev7
                 have HM7 := Lib.hid hown7
                 have HIM7 := Lib.hid him7
                 have HSP7 := Lib.hid hsp7
                 have HX7 := Lib.hid (HX2.out.more hg7 (fun q hq => (HM2.out.block q hq).1))
                 have hs7 := HX7.out.size
                 clear hown7 hg7 hat7 hsp7 him7 hl7)
              | (refine wpList_append_int rfl (.tmp 66) (.tmp 69) rfl v1.heap.size (.slice A6 i c6) (psl l0 i) P1 rfl (HIM7.out.ext ((Ext.refl w7).alloc _)) w7.heap.size 1 rfl (by rw [cell_of_row _ _ _ _ _ _ (heap_alloc_new w7 _)]; rfl) (by rw [psl_len]; omega) (by simp; omega) ?_; intro v9 w9 hown9 hg9 hat9
                 rw [← HP1.out, ← psl_succ] at hown9
                 have hsp9 : Sp (.slice B7 P1 c7) v9 := HSP7.out.right hat9 (fun q hq => (by have := (HM7.out.block q hq).2; simp; omega))
                 have hm9 : Mine w9 v1.heap.size (.slice B7 P1 c7) (fl (l0.take (i + 1))) := (mine_ext HM7.out ((Ext.refl w7).alloc _)).keep9 hg9 (fun q hq e => HSP7.out q hq e.symm)
                 have HM9 := Lib.hid hm9
                 have HIM9 := Lib.hid hown9
                 have HSP9 := Lib.hid hsp9
                 have HX9 := Lib.hid ((HX7.out.alloc (.cells #[.int .i64 (P1 : Int)] 3)).more hg9 (fun q hq => (HIM7.out.block q hq).1))
                 clear hown9 hg9 hat9 hsp9 hm9))
            go_roundg g
            case measure => omega
            case rel => exact ⟨i + 1, by have := HIG.out; omega, by go_num, HM9.out, HIM9.out, HSP9.out, HOK1.out, HX9.out⟩
          · have d2 : decide (60 < (nt : Int)) = true := decide_eq_true (by omega)
            have d3 : ((nt : Int) == 0) = false := by simp; omega
            have d4 : decide (nt = 0) = false := decide_eq_false (by omega)
            have HXE := Lib.hid ((HX1.out.trans HX.out).trans hv2)
            clear hv2 hrf
            go_wp2
            go_ret
            exact ⟨rfl, HXE.out⟩
        · have hc1' := (hv2.below.cell (p := ⟨b1, o1 + i, none⟩) (block_lt_of_cell hc1)).trans hc1
          have HXE := Lib.hid ((HX1.out.trans HX.out).trans hv2)
          unfold FrOk at hno
          rw [HNT.out] at hno
          clear hv2
          by_cases h0 : nt = 0
          · subst h0
            go_wp2
            go_ret
            exact ⟨rfl, HXE.out⟩
          · have d2 : decide (60 < (nt : Int)) = true := decide_eq_true (by omega)
            have d3 : ((nt : Int) == 0) = false := by simp; omega
            have d4 : decide (nt = 0) = false := decide_eq_false h0
            go_wp2
            go_ret
            exact ⟨rfl, HXE.out⟩
  · have d1 : decide (12 < (l0.length : Int)) = true := decide_eq_true (by omega)
    clear C hr0 hbig
    generalize l0.length = n0 at *
    go_enter Try.func6, Try.ntmps6
    go_wp2_with fail
    refine (HAW.out w).mono ?_
    rintro e v1 ⟨rfl, hv1⟩
    have HX1 := Lib.hid hv1
    clear hv1
    go_wp2_with fail
    refine (HAW.out v1).mono ?_
    rintro e v2 ⟨rfl, hv2⟩
    have HX2 := Lib.hid (HX1.out.trans hv2)
    clear hv2
    go_wp2
    go_ret
    exact ⟨rfl, HX2.out⟩
end Go.Proofs.Ytmjndomjnhjncaa

/-
  The law CrcTurned, walked, under what layer 9's functions are to do. Conditions: none.
-/
namespace Go.Proofs.Ytmjndomjnhjncaa
open Go.RowKit
open Pol (co Sm)

theorem dm_lt (s v : Nat) : ∀ i j, dm s v i j < 256
  | 0, _ => by unfold dm; omega
  | i + 1, j => by
    unfold dm
    refine Nat.xor_lt_two_pow (n := 8) (dm_lt s v i j) ?_
    split
    · exact Nat.pow_lt_pow_right (by omega) (by omega)
    · omega
def tn (l : List Nat) (s v i j : Nat) : Nat := co l j ^^^ dm s v i j
theorem tn_lt {l : List Nat} (h : Sm l) (s v i j : Nat) : tn l s v i j < 256 := Nat.xor_lt_two_pow (n := 8) (h j) (dm_lt s v i j)
theorem tn_no (l : List Nat) (s v i j : Nat) (h : ¬ v / 2 ^ i % 2 = 1) : tn l s v i j = tn l s v (i + 1) j := by
  unfold tn
  rw [dm, if_neg (fun e => h e.1), Nat.xor_zero]
theorem tn_yes (l : List Nat) (s v i j : Nat) (h : v / 2 ^ i % 2 = 1) : upd (tn l s v i) ((s + i) / 8) (tn l s v i ((s + i) / 8) ^^^ 2 ^ ((s + i) % 8)) j = tn l s v (i + 1) j := by
  unfold upd
  by_cases e : j = (s + i) / 8
  · rw [if_pos e]
    unfold tn
    rw [dm, if_pos ⟨h, e⟩, ← e, Nat.xor_assoc]
  · rw [if_neg e]
    unfold tn
    rw [dm, if_neg (fun h' => e h'.2), Nat.xor_zero]
/-- It has another checksum. -/
theorem tn_other (l : List Nat) (s v : Nat) (hv : v < 4294967296) (h0 : v ≠ 0) (h : s + 32 ≤ 8 * l.length) : crcl (tab l.length (tn l s v 32)) ≠ crcl l := by
  intro e
  unfold crcl at e
  rw [tab_len, crf_congr (g := fun j => co l j ^^^ dm s v 32 j) l.length (fun i hi => by rw [co_tab, if_pos hi]; rfl)] at e
  have hl := crf_lin 4294967295 0 (co l) (dm s v 32) l.length
  rw [Nat.xor_zero] at hl
  rw [hl] at e
  have e2 : crf 4294967295 (co l) l.length ^^^ crf 0 (dm s v 32) l.length = crf 4294967295 (co l) l.length := by
    have := congrArg (· ^^^ 4294967295) e
    simpa [Nat.xor_assoc] using this
  have e3 : crf 0 (dm s v 32) l.length = 0 := by
    have := congrArg (crf 4294967295 (co l) l.length ^^^ ·) e2
    simpa [← Nat.xor_assoc] using this
  exact crf_burst s v l.length hv h0 h e3
set_option maxRecDepth 100000 in
theorem shl8 : ∀ k : Nat, k < 8 → 2 ^ k < 256 := fun k hk => Nat.pow_lt_pow_right (a := 2) (n := 8) (by omega) hk

set_option maxHeartbeats 800000 in
set_option maxRecDepth 100000 in
theorem turned9_walk (C : CrcSaid) (l0 : List Nat) (a0 : Option Addr) (c0 : Nat) (x1 x2 : Nat) (w : World) (hr0 : Rd w a0 l0) (hc0 : l0.length ≤ c0) (hx1 : x1 < 18446744073709551616) (hx2 : x2 < 4294967296) :
    Calls Try.prog 7 #[.slice a0 l0.length c0, .int .u64 (x1 : Int), .int .u32 (x2 : Int)] w (Holds w) := by
  have HAW := Lib.hid (fun W => awake9 C W)
  by_cases hbig : 5 ≤ l0.length ∧ l0.length ≤ 400 ∧ x2 ≠ 0
  · obtain ⟨hb5, hb4, hx20⟩ := hbig
    have H0 := Lib.hid (fun W (hx : Ext w W) => C.of l0 a0 c0 W (hr0.ext hx) hc0 (by omega))
    have HF := Lib.hid (fun W (hx : Ext w W) => C.frame l0 a0 c0 W (hr0.ext hx) hc0)
    have HR0 := Lib.hid hr0
    obtain ⟨n, hn⟩ : ∃ n, l0.length = n := ⟨_, rfl⟩
    have HN0 := Lib.hid hn
    obtain ⟨M, hM⟩ : ∃ M, 8 * n - 31 = M := ⟨_, rfl⟩
    obtain ⟨s, hs⟩ : ∃ s, x1 % M = s := ⟨_, rfl⟩
    have hM0 : 0 < M := by omega
    have hsM : s < M := by rw [← hs]; exact Nat.mod_lt _ hM0
    have hs8 : s + 32 ≤ 8 * n := by omega
    have HOT := Lib.hid (show crcl (tab n (tn l0 s x2 32)) ≠ crcl l0 from by
      have h := tn_other l0 s x2 hx2 hx20 (by rw [hn]; exact hs8)
      rw [hn] at h
      exact h)
    have HOF := Lib.hid (fun A c W (hr : Rd W A (tab n (tn l0 s x2 32))) (hc : n ≤ c) => show Calls Try.prog 11 #[.slice A n c] W (Tells (.int .u32 ((crcl (tab n (tn l0 s x2 32)) : Nat) : Int)) W) from by
      have h := C.of (tab n (tn l0 s x2 32)) A c W hr (by rw [tab_len]; exact hc) (by rw [tab_len]; omega)
      rw [tab_len] at h
      exact h)
    have hfo : FrOk l0 := by unfold FrOk; omega
    have HBAD := Lib.hid (show nx ((fr l0).take 6 ++ tab n (tn l0 s x2 32)) = .er 4 from nx_bad l0 _ hfo (by rw [tab_len, hn]) HOT.out)
    have HFL := Lib.hid (show (fr l0).length = 6 + n by rw [fr_len, hn])
    have HFS := Lib.hid (fr_sm hr0.1 hfo)
    have HNX := Lib.hid (fun b A c W hr (hc : b.length ≤ c) hl => C.next b A c W hr hc hl)
    have HFO := Lib.hid hfo
    have HST := Lib.hid (tab_sm n (tn l0 s x2 32) (fun i _ => tn_lt hr0.1 s x2 32 i))
    rw [hn] at hb5 hb4 hc0 H0 HF ⊢
    have d1 : decide ((n : Int) < 5) = false := decide_eq_false (by omega)
    have d2 : decide (400 < (n : Int)) = false := decide_eq_false (by omega)
    have d3 : ((x2 : Int) == 0) = false := by simp; omega
    have d4 : decide (x2 = 0) = false := decide_eq_false hx20
    have e1 : 8 * (n : Int) - 31 = (M : Int) := by omega
    have e2 : IntKind.u64.wrap (M : Int) = (M : Int) := by rw [IntKind.wrap_u64]; omega
    have e3 : (x1 : Int) % (M : Int) = (s : Int) := by omega
    have e3' : (x1 : Int).tmod (M : Int) = (s : Int) := by rw [Int.tmod_eq_emod_of_nonneg (by omega)]; exact e3
    have e4 : IntKind.i64.wrap (s : Int) = (s : Int) := by rw [IntKind.wrap_i64]; omega
    have hMI : (M : Int) ≠ 0 := by omega
    clear C hr0 hn hfo hM hs
    go_enter Try.func7, Try.ntmps7
    go_wp2_with fail
    refine (HAW.out w).mono ?_
    rintro e v1 ⟨rfl, hv1⟩
    have HX1 := Lib.hid hv1
    clear hv1
    go_wp2_with (at_builtin; first
      | (refine wpList_append_rd rfl (.tmp 34) (.tmp 35) rfl v1.heap.size (.slice (some ⟨v1.heap.size, 0, none⟩) 0 0) [] l0 rfl (mine_empty v1) a0 n c0 rfl HN0.out (HR0.out.ext (HX1.out.alloc _)) (by rw [HN0.out]; simp; omega) (by simp) ?_; intro v7 w7 hown7 hg7 hat7
         rw [List.nil_append] at hown7
         have hx7 : Ext v1 w7 := ((Ext.refl v1).alloc _).more hg7 (fun q hq => by simp [Value.ownBlock] at hq; omega)
         obtain ⟨B7, cc7, g7, ev7, hc7, hB7, hcl7⟩ := hown7.cells
         rw [HN0.out] at ev7 hc7 hB7 hcl7
         obtain ⟨rfl, hb7⟩ := hB7 (by omega)
         subst ev7
         have HX7 := Lib.hid (HX1.out.trans hx7)
         have hs7 := HX1.out.size
         have HCL := Lib.hid hcl7
         clear hown7 hg7 hat7 hx7 hB7 hcl7))
    go_loopg [45] 32 (fun g s45 wx => ∃ i : Nat, i + g = 32 ∧ s45 = .int .i64 (i : Int) ∧ Cells wx g7 n (tn l0 s x2 i) ∧ Ext w wx)
    case atStart => exact ⟨0, by omega, rfl, HCL.out.congr (fun i _ => by unfold tn dm; rw [Nat.xor_zero]), HX7.out⟩
    case round =>
      obtain ⟨i, hig, rfl, hblk, hx⟩ := hrel
      have HY := Lib.hid hx
      have HL := Lib.hid hblk
      clear hx hblk
      cases gk with
      | zero =>
        obtain rfl : i = 32 := by omega
        clear hig
        obtain ⟨T, hT⟩ : ∃ T, tab n (tn l0 s x2 32) = T := ⟨_, rfl⟩
        have hrT : Rd wr (some ⟨g7, 0, none⟩) T := by rw [← hT]; exact HL.out.reads (fun i _ => tn_lt HR0.out.1 s x2 32 i)
        have hTl : T.length = n := by rw [← hT, tab_len]
        rw [hT] at HOF HOT HBAD HST
        obtain ⟨cs, hcs⟩ : ∃ c, crcl T = c := ⟨_, rfl⟩
        obtain ⟨cb, hcb⟩ : ∃ c, crcl l0 = c := ⟨_, rfl⟩
        rw [hcs] at HOF HOT
        rw [hcb] at H0 HOT
        have hne := HOT.out
        have t1 : ((cs : Int) == (cb : Int)) = false := by simp; omega
        have t2 : decide (cs = cb) = false := decide_eq_false hne
        have HRT := Lib.hid hrT
        have HTL := Lib.hid hTl
        clear hT hrT hTl hcs hcb
        go_wp2_with fail
        refine (HOF.out _ _ _ HRT.out hc7).mono ?_
        rintro e u1 ⟨rfl, hz⟩
        have HZ1 := Lib.hid (HY.out.trans hz)
        have HRT1 := Lib.hid (HRT.out.ext hz)
        clear hz
        go_wp2_with fail
        refine (H0.out _ HZ1.out).mono ?_
        rintro e u2 ⟨rfl, hz⟩
        have HZ2 := Lib.hid (HZ1.out.trans hz)
        have HRT2 := Lib.hid (HRT1.out.ext hz)
        clear hz
        go_wp2_with fail
        refine (HF.out _ HZ2.out).mono ?_
        rintro e u3 ⟨hz, (⟨_, v, rfl, Bf, cf, rfl, hcf, hrf, _⟩ | ⟨hno, _⟩)⟩
        · have HZ3 := Lib.hid (HZ2.out.trans hz)
          have HRT3 := Lib.hid (HRT2.out.ext hz)
          have HRF := Lib.hid (hrf.take 6)
          obtain ⟨G, hG⟩ : ∃ G, (fr l0).take 6 = G := ⟨_, rfl⟩
          have hGl : G.length = 6 := by rw [← hG, List.length_take, HFL.out]; omega
          have hGs : Sm G := by rw [← hG]; exact (hrf.take 6).1
          have hGT : Sm (G ++ T) := sm_app9 hGs HST.out
          rw [hG] at HRF HBAD
          have HGL := Lib.hid hGl
          have HGS := Lib.hid hGs
          have HGT := Lib.hid hGT
          have hl1 : (fr l0).length = 6 + n := HFL.out
          obtain ⟨nf, hnf⟩ : ∃ nf, (fr l0).length = nf := ⟨_, rfl⟩
          rw [hnf] at hcf ⊢
          have h6 : 6 ≤ cf := by omega
          have s1 := fun W => run_to_u8 Bf nf cf 6 h6 W
          have s2 : ∀ W, (Instr.slice 22 (.slice Bf nf cf) none (some (.int .i64 6)) none).run Try.prog W = .ok (.slice Bf 6 cf) W := s1
          have hs3 := HZ3.out.size
          clear hz hrf hG hGl hGs hGT hl1 hnf s1
          go_wp2_with (at_builtin; first
            | (refine wpList_append_rd rfl (.tmp 79) (.tmp 81) rfl u3.heap.size (.slice (some ⟨u3.heap.size, 0, none⟩) 0 0) [] G rfl (mine_empty u3) Bf 6 cf rfl HGL.out (HRF.out.ext ((Ext.refl _).alloc _)) (by rw [HGL.out]; simp) (by simp) ?_; intro v8 w8 hown8 hg8 hat8
               rw [List.nil_append] at hown8
               have hx8 : Ext u3 w8 := ((Ext.refl u3).alloc _).more hg8 (fun q hq => by simp [Value.ownBlock] at hq; omega)
               obtain ⟨B8, cc8, ev8, hc8, _⟩ := hown8.slice HGS.out
               rw [HGL.out] at ev8
               subst ev8
               have HM8 := Lib.hid hown8
               have HX8 := Lib.hid (HZ3.out.trans hx8)
               have HRT8 := Lib.hid (HRT3.out.ext hx8)
               have hs8' := hx8.size
               clear hown8 hg8 hat8 hx8)
            | (refine wpList_append_rd rfl (.tmp 84) (.tmp 85) rfl u3.heap.size (.slice B8 6 cc8) G T rfl HM8.out (some ⟨g7, 0, none⟩) n cc7 rfl HTL.out HRT8.out (by rw [HGL.out, HTL.out]; omega) hs8' ?_; intro v9 w9 hown9 hg9 hat9
               have hx9 : Ext w w9 := HX8.out.more hg9 (fun q hq => Nat.le_trans hs3 (HM8.out.block q hq).1)
               obtain ⟨B9, cc9, ev9, hc9, hr9⟩ := hown9.slice HGT.out
               have hl9 : (G ++ T).length = 6 + n := by rw [List.length_append, HGL.out, HTL.out]
               have HNX9 := Lib.hid (HNX.out (G ++ T) B9 cc9 w9 hr9 hc9 (by rw [hl9]; omega))
               obtain ⟨N9, hN9⟩ : ∃ N, (G ++ T).length = N := ⟨_, rfl⟩
               rw [hN9] at HNX9 ev9
               subst ev9
               have HX9 := Lib.hid hx9
               clear hown9 hg9 hat9 hx9 hr9 hc9 hl9 hN9))
          refine HNX9.out.mono ?_
          rintro e u4 ⟨hz, (⟨t, r, v, u, hnx, _⟩ | ⟨q, B1, cc1, B2, cc2, hnx, rfl⟩)⟩
          · rw [HBAD.out] at hnx
            cases hnx
          · rw [HBAD.out] at hnx
            injection hnx with hnx
            subst hnx
            have HZ4 := Lib.hid (HX9.out.trans hz)
            clear hz
            go_wp2
            go_ret
            exact ⟨rfl, HZ4.out⟩
        · exact absurd HFO.out hno
      | succ g =>
        have hi : i < 32 := by omega
        have hiI : (i : Int) < 32 := by omega
        obtain ⟨q, hq⟩ : ∃ q, x2 / 2 ^ i = q := ⟨_, rfl⟩
        obtain ⟨t, ht⟩ : ∃ t, q % 2 = t := ⟨_, rfl⟩
        have hq32 : q < 4294967296 := by rw [← hq]; exact Nat.lt_of_le_of_lt (Nat.div_le_self _ _) hx2
        have dq : (x2 : Int) / 2 ^ i = (q : Int) := by rw [← hq]; simp
        have da : bits .and .u32 (q : Int) 1 = (t : Int) := by rw [← ht, ← Nat.and_one_is_mod]; exact u32_and_nat q 1 hq32 (by decide)
        obtain ⟨d, hd⟩ : ∃ d, (s + i) / 8 = d := ⟨_, rfl⟩
        obtain ⟨m, hm⟩ : ∃ m, (s + i) % 8 = m := ⟨_, rfl⟩
        obtain ⟨k, hk⟩ : ∃ k, s + i = k := ⟨_, rfl⟩
        have HNO := Lib.hid (fun (h : ¬ t = 1) j => tn_no l0 s x2 i j (by rw [hq, ht]; exact h))
        have HYES := Lib.hid (fun (h : t = 1) j => tn_yes l0 s x2 i j (by rw [hq, ht]; exact h))
        have hdn : d < n := by omega
        obtain ⟨hc3, hfz⟩ := HL.out d hdn
        have hy8 := tn_lt HR0.out.1 s x2 i d
        rw [hd, hm] at HYES
        obtain ⟨y, hy⟩ : ∃ y, tn l0 s x2 i d = y := ⟨_, rfl⟩
        rw [hy] at hc3 hy8 HYES
        obtain ⟨p, hp⟩ : ∃ p, 2 ^ m = p := ⟨_, rfl⟩
        have hp8 : p < 256 := by rw [← hp]; exact shl8 m (by omega)
        rw [hp] at HYES
        obtain ⟨z, hz⟩ : ∃ z, y ^^^ p = z := ⟨_, rfl⟩
        rw [hz] at HYES
        have ex : bits .xor .u8 (y : Int) (p : Int) = (z : Int) := by rw [u8_xor_nat _ _ hy8 hp8, hz]
        have hz8 : z < 256 := by rw [← hz]; exact Nat.xor_lt_two_pow (n := 8) hy8 hp8
        have f1 : (s : Int) + (i : Int) = (k : Int) := by omega
        have f2 : (k : Int).tdiv 8 = (d : Int) := by rw [Int.tdiv_eq_ediv_of_nonneg (by omega)]; omega
        have f3 : (k : Int).tmod 8 = (m : Int) := by rw [Int.tmod_eq_emod_of_nonneg (by omega)]; omega
        have f4 : IntKind.u64.wrap (m : Int) = (m : Int) := by rw [IntKind.wrap_u64]; omega
        have hk64 : k < 4000 := by omega
        have hm8 : m < 8 := by omega
        by_cases ht1 : t = 1
        · have dt : ((t : Int) == 1) = true := by simp [ht1]
          have f5 : (2 : Int) ^ m % 256 = (p : Int) := by rw [← hp]; have h := shl8 m hm8; rw [Int.emod_eq_of_lt (by exact_mod_cast Nat.zero_le _) (by exact_mod_cast h)]; simp
          have HU := Lib.hid ((HL.out.store d z).congr (F' := tn l0 s x2 (i + 1)) (fun j _ => HYES.out ht1 j))
          have HE := Lib.hid (HY.out.setCell (p := ⟨g7, d, none⟩) (by show w.heap.size ≤ g7; omega) (.int .u8 (z : Int)))
          clear hq ht hd hm hk hy hp hz
          go_wp2
          go_roundg g
          case measure => omega
          case rel => exact ⟨i + 1, by omega, by go_num, HU.out, HE.out⟩
        · have dt : ((t : Int) == 1) = false := by simp; omega
          clear hq ht hd hm hk hy hp hz
          go_wp2
          go_roundg g
          case measure => omega
          case rel => exact ⟨i + 1, by omega, by go_num, HL.out.congr (fun j _ => HNO.out ht1 j), HY.out⟩
  · have hor : decide ((l0.length : Int) < 5) = true ∨ (decide ((l0.length : Int) < 5) = false ∧ (decide (400 < (l0.length : Int)) = true ∨ (decide (400 < (l0.length : Int)) = false ∧ x2 = 0))) := by
      by_cases h : (l0.length : Int) < 5
      · exact .inl (decide_eq_true h)
      · refine .inr ⟨decide_eq_false h, ?_⟩
        by_cases h1 : 400 < (l0.length : Int)
        · exact .inl (decide_eq_true h1)
        · exact .inr ⟨decide_eq_false h1, by omega⟩
    clear C hr0 hbig
    generalize l0.length = n0 at *
    rcases hor with d1 | ⟨d1, d2 | ⟨d2, rfl⟩⟩
    all_goals
      go_enter Try.func7, Try.ntmps7
      go_wp2_with fail
      refine (HAW.out w).mono ?_
      rintro e v1 ⟨rfl, hv1⟩
      have HX1 := Lib.hid hv1
      clear hv1
      go_wp2_with fail
      refine (HAW.out v1).mono ?_
      rintro e v2 ⟨rfl, hv2⟩
      have HX2 := Lib.hid (HX1.out.trans hv2)
      clear hv2
      go_wp2
      go_ret
      exact ⟨rfl, HX2.out⟩
end Go.Proofs.Ytmjndomjnhjncaa

/-
  Worlds that differ in some blocks alone. Conditions: none; no function is named here.
-/
namespace Go.Proofs.Ytmjndomjnhjncaa
open Go.RowKit

/-- What was there is as it was, but for the blocks of X. -/
structure Only (X : Nat → Prop) (w w' : World) : Prop where
  os : w'.os = w.os
  tape : w'.tape = w.tape
  output : w'.output = w.output
  size : w.heap.size ≤ w'.heap.size
  block : ∀ k, k < w.heap.size → ¬ X k → w'.heap[k]? = w.heap[k]?
theorem Only.refl (X : Nat → Prop) (w : World) : Only X w w := ⟨rfl, rfl, rfl, Nat.le_refl _, fun _ _ _ => rfl⟩
theorem Only.trans {X : Nat → Prop} {a b c : World} (h : Only X a b) (k : Only X b c) : Only X a c :=
  ⟨k.os.trans h.os, k.tape.trans h.tape, k.output.trans h.output, Nat.le_trans h.size k.size, fun i hi hx => (k.block i (Nat.lt_of_lt_of_le hi h.size) hx).trans (h.block i hi hx)⟩
theorem Only.of_grown {X : Nat → Prop} {w w' : World} {row : Option Nat} (h : w.grownBy w' row) (hr : ∀ k, row = some k → X k) : Only X w w' :=
  ⟨h.os, h.tape, h.output, h.size, fun k hk hx => h.block k hk (fun e => hx (hr k e.symm))⟩
theorem Only.of_ext {X : Nat → Prop} {w w' : World} (h : Ext w w') : Only X w w' := ⟨h.below.os, h.below.tape, h.below.output, h.below.size, fun k hk _ => h.below.block k hk⟩
theorem Only.drewN {X : Nat → Prop} {a w : World} (h : Only X a w) (n : Nat) : Only X a (w.drewN n) := ⟨h.os, h.tape, h.output, h.size, h.block⟩
theorem Only.mono {X Y : Nat → Prop} {w w' : World} (h : Only X w w') (hxy : ∀ k, k < w.heap.size → X k → Y k) : Only Y w w' := ⟨h.os, h.tape, h.output, h.size, fun k hk hy => h.block k hk (fun hx => hy (hxy k hk hx))⟩
theorem Only.ext {X : Nat → Prop} {a w w' : World} (h : Only X w w') (hx : Ext a w) (hX : ∀ k, X k → a.heap.size ≤ k) : Ext a w' :=
  ⟨hx.below.trans ⟨h.os, h.tape, h.output, h.size, fun k hk => h.block k (Nat.lt_of_lt_of_le hk hx.size) (fun hk' => by have := hX k hk'; omega)⟩⟩
theorem Only.cell {X : Nat → Prop} {w w' : World} (h : Only X w w') {b o : Nat} {v : Value} (hc : w.cell? ⟨b, o, none⟩ = some v) (hx : ¬ X b) : w'.cell? ⟨b, o, none⟩ = some v :=
  (World.cell?_of_block (a := ⟨b, o, none⟩) (h.block b (block_lt_of_cell hc) hx)).trans hc
theorem Only.frozen {X : Nat → Prop} {w w' : World} (h : Only X w w') {b o : Nat} (hb : b < w.heap.size) (hx : ¬ X b) : w'.frozen? ⟨b, o, none⟩ = w.frozen? ⟨b, o, none⟩ :=
  World.frozen?_of_block (a := ⟨b, o, none⟩) (h.block b hb hx)
end Go.Proofs.Ytmjndomjnhjncaa

/-
  The law CrcOwn, walked, under what layer 9's functions are to do. Conditions: none.
-/
namespace Go.Proofs.Ytmjndomjnhjncaa
open Go.RowKit
open Pol (co Sm)

theorem nx_one (b : List Nat) (h : FrOk b) : nx (fr b) = .ok b [] := by
  have := nx_fr b [] h
  rwa [List.append_nil] at this
theorem al_one (b : List Nat) (h : FrOk b) : al (fr b) = ([b], 6 + b.length) := by
  rw [al_ok (nx_one b h), al_er (e := 2) (by unfold nx; simp)]
  rfl
theorem grown_set9 (w : World) (g o : Nat) (v : Value) : w.grownBy (w.setCell ⟨g, o, none⟩ v) (some g) := grown_set w g o v
/-- n cells from there on may be written. -/
def Wr (w : World) (g o n : Nat) : Prop := ∀ i, i < n → (∃ v, w.cell? ⟨g, o + i, none⟩ = some v) ∧ w.frozen? ⟨g, o + i, none⟩ = false
theorem Wr.set {w : World} {g o n : Nat} (h : Wr w g o n) (a : Addr) (v : Value) : Wr (w.setCell a v) g o n := fun i hi => by
  obtain ⟨⟨u, hu⟩, hf⟩ := h i hi
  refine ⟨?_, by rw [World.frozen?_setCell]; exact hf⟩
  by_cases e : a = ⟨g, o + i, none⟩
  · subst e; exact ⟨v, World.cell?_setCell_same' _ _ _ (by rw [hu]; rfl)⟩
  · exact ⟨u, (World.cell?_setCell_other _ _ _ _ e).trans hu⟩
theorem Wr.only {X : Nat → Prop} {w w' : World} {g o n : Nat} (h : Wr w g o n) (ho : Only X w w') (hx : ¬ X g) : Wr w' g o n := fun i hi => by
  obtain ⟨⟨u, hu⟩, hf⟩ := h i hi
  exact ⟨⟨u, ho.cell hu hx⟩, (ho.frozen (block_lt_of_cell hu) hx).trans hf⟩
theorem Wr.ext {w w' : World} {g o n : Nat} (h : Wr w g o n) (hx : Ext w w') : Wr w' g o n := h.only (X := fun _ => False) (Only.of_ext hx) (fun h => h)
theorem OwnW.wr {base : Nat} {v : Value} {w : World} {t : List Nat} (h : OwnW base v w t) (ht : 0 < t.length) : ∃ g o c, v = .slice (some ⟨g, o, none⟩) t.length c ∧ t.length ≤ c ∧ base ≤ g ∧ g < w.heap.size ∧ Wr w g o t.length := by
  obtain ⟨B, c, rfl, hc, hr, hb⟩ := h
  obtain ⟨g, o, rfl, hcell⟩ := hr.addr ht
  obtain ⟨h1, h2⟩ := hb g o rfl ht
  exact ⟨g, o, c, rfl, hc, h1, block_lt_of_cell (hcell 0 ht), fun i hi => ⟨⟨_, hcell i hi⟩, h2 i hi⟩⟩

set_option maxHeartbeats 800000 in
set_option maxRecDepth 100000 in
theorem own9_walk (C : CrcSaid) (l0 : List Nat) (a0 : Option Addr) (c0 : Nat) (x : Nat) (w : World) (hr0 : Rd w a0 l0) (hc0 : l0.length ≤ c0) :
    Calls Try.prog 8 #[.slice a0 l0.length c0, .int .u8 (x : Int)] w (Holds w) := by
  have HAW := Lib.hid (fun W => awake9 C W)
  by_cases hbig : 1 ≤ l0.length ∧ l0.length ≤ 400
  · obtain ⟨hb1, hb4⟩ := hbig
    have hfo : FrOk l0 := ⟨hb1, by omega⟩
    have HF := Lib.hid (fun W (hx : Ext w W) => C.frame l0 a0 c0 W (hr0.ext hx) hc0)
    have hfl : (fr l0).length = 6 + l0.length := fr_len l0
    have HNX := Lib.hid (fun A c W hr (hc : (fr l0).length ≤ c) => C.next (fr l0) A c W hr hc (by omega))
    have HAL := Lib.hid (fun A c W hr (hc : (fr l0).length ≤ c) => C.all (fr l0) A c W hr hc (by omega))
    have HN1 := Lib.hid (nx_one l0 hfo)
    have HA1 := Lib.hid (al_one l0 hfo)
    have HFS := Lib.hid (fr_sm hr0.1 hfo)
    have HFO := Lib.hid hfo
    obtain ⟨F, hF⟩ : ∃ F, fr l0 = F := ⟨_, rfl⟩
    have HFE := Lib.hid hF
    obtain ⟨nf, hnf⟩ : ∃ nf, F.length = nf := ⟨_, rfl⟩
    rw [hF] at HNX HAL HN1 HA1 HFS hfl
    rw [hnf] at HNX HAL hfl
    have HNF := Lib.hid hnf
    obtain ⟨n, hn⟩ : ∃ n, l0.length = n := ⟨_, rfl⟩
    have HN0 := Lib.hid hn
    rw [hn] at hb1 hb4 hc0 HF hfl ⊢
    have d1 : decide ((n : Int) < 1) = false := decide_eq_false (by omega)
    have d2 : decide (400 < (n : Int)) = false := decide_eq_false (by omega)
    have hnf2 : nf ≤ 406 ∧ 0 < nf := by omega
    obtain ⟨hnf3, hnf4⟩ := hnf2
    clear C hr0 hfo hF hnf hn hfl
    go_enter Try.func8, Try.ntmps8
    go_wp2_with fail
    refine (HAW.out w).mono ?_
    rintro e v1 ⟨rfl, hv1⟩
    have HX1 := Lib.hid hv1
    clear hv1
    go_wp2_with fail
    refine (HF.out _ HX1.out).mono ?_
    rintro e v2 ⟨hv2, (⟨_, v, rfl, Bf, cf, rfl, hcf, hrf, _⟩ | ⟨hno, _⟩)⟩
    · have HX2 := Lib.hid (HX1.out.trans hv2)
      rw [HFE.out] at hrf hcf ⊢
      rw [HNF.out] at hcf ⊢
      have HRF := Lib.hid hrf
      have hs2 := HX2.out.size
      clear hv2 hrf
      go_wp2_with (at_builtin; refine wpList_append_rd rfl (.tmp 34) (.tmp 35) rfl v2.heap.size (.slice (some ⟨v2.heap.size, 0, none⟩) 0 0) [] F rfl (mine_empty v2) Bf nf cf rfl HNF.out (HRF.out.ext ((Ext.refl _).alloc _)) (by rw [HNF.out]; simp; omega) (by simp) ?_; intro v8 w8 hown8 hg8 hat8; rw [List.nil_append] at hown8; have hx8 : Ext v2 w8 := ((Ext.refl v2).alloc _).more hg8 (fun q hq => by simp [Value.ownBlock] at hq; omega); obtain ⟨B8, cc8, ev8, hc8, hr8⟩ := hown8.slice HFS.out; rw [HNF.out] at ev8; subst ev8; have HX8 := Lib.hid (HX2.out.trans hx8); have HRF8 := Lib.hid (HRF.out.ext hx8); have HRW8 := Lib.hid hr8; clear hown8 hg8 hat8 hx8 hr8 hc8)
      refine (HNX.out Bf cf _ HRF8.out hcf).mono ?_
      rintro e w3 ⟨hx3, (⟨t, r, v, u, hnx, rfl, hwv, _⟩ | ⟨q, B1, cc1, B2, cc2, hnx, rfl⟩)⟩
      · rw [HN1.out] at hnx
        injection hnx with e1 e2
        subst e1; subst e2
        obtain ⟨g3, o3, c3, ev3, hc3, hg3, hg3s, hw3⟩ := hwv.wr (by rw [HN0.out]; omega)
        rw [HN0.out] at ev3 hc3 hw3
        subst ev3
        have HX3 := Lib.hid hx3
        have HW3 := Lib.hid hw3
        clear hx3 hw3 hwv
        go_wp2_with fail
        refine (HAL.out Bf cf _ (HRF8.out.ext HX3.out) hcf).mono ?_
        rintro e w4 ⟨hx4, R, cr, rfl, hcr, hrow⟩
        rw [HA1.out] at hcr hrow ⊢
        obtain ⟨g4, o4, v, rfl, hg4, hcell4, hwv, hne⟩ := hrow 0 (by simp)
        obtain ⟨g5, o5, c5, ev5, hc5, hg5, hg5s, hw5⟩ := hwv.wr (by show 0 < l0.length; rw [HN0.out]; omega)
        have hro : (ro [l0] 0).length = n := HN0.out
        rw [hro] at ev5 hc5 hw5
        subst ev5
        have hne5 : g5 ≠ g4 := hne g5 o5 n c5 rfl
        rw [Nat.add_zero] at hcell4
        have HX4 := Lib.hid hx4
        have HW5 := Lib.hid hw5
        have HW34 := Lib.hid (HW3.out.ext hx4)
        have HC4 := Lib.hid hcell4
        have h34 : g3 < w3.heap.size ∧ g3 ≠ g4 ∧ g3 ≠ g5 ∧ w8.heap.size ≤ w3.heap.size := ⟨hg3s, by omega, by omega, HX3.out.size⟩
        obtain ⟨k1, k2, k3, k4⟩ := h34
        have HL1 : ([l0] : List (List Nat)).length = 1 := rfl
        rw [show (([l0], 6 + l0.length) : List (List Nat) × Nat).1.length = 1 from rfl]
        clear hx4 hw5 hcell4 hwv hne hrow hro
        go_wp2
        go_loopg [50] n (fun g s wx => ∃ i : Nat, i + g = n ∧ s = .int .i64 (i : Int) ∧ Wr wx g3 o3 n ∧ Only (fun k => k = g3) w4 wx)
        case atStart => exact ⟨0, by omega, rfl, HW34.out, Only.refl _ _⟩
        case round =>
          obtain ⟨i, hig, rfl, hw, ho⟩ := hrel
          have HW := Lib.hid hw
          have HO := Lib.hid ho
          clear ho
          cases gk with
          | zero =>
            obtain rfl : i = n := by omega
            clear hig hw
            obtain ⟨i0, hi0⟩ : ∃ q, q = i := ⟨_, rfl⟩
            subst hi0
            have c4 := HO.out.cell HC4.out (fun h => k2 h.symm)
            have HW5' := Lib.hid (HW5.out.only HO.out (fun h => k3 h.symm))
            obtain ⟨w6, hw6⟩ : ∃ q, q = wr := ⟨_, rfl⟩
            subst hw6
            go_wp2
            go_loopg [60] 1 (fun g s wx => ∃ i : Nat, i + g = 1 ∧ s = .int .i64 (i : Int) ∧ Wr wx g5 o5 i0 ∧ Only (fun k => k = g5) w6 wx)
            case atStart => exact ⟨0, by omega, rfl, HW5'.out, Only.refl _ _⟩
            case round =>
              obtain ⟨j, hjg, rfl, hw7, ho7⟩ := hrel
              have HW7 := Lib.hid hw7
              have HO7 := Lib.hid ho7
              clear hw7 ho7
              cases gk with
              | zero =>
                obtain rfl : j = 1 := by omega
                clear hjg
                have hx68 : Ext w8 w6 := HO.out.ext (HX3.out.trans HX4.out) (fun k hk => by rw [hk]; exact hg3)
                have hx : Ext w8 wr := HO7.out.ext hx68 (fun k hk => by rw [hk]; omega)
                have HSA := Lib.hid (show Calls Try.prog 18 #[.slice Bf nf cf, .slice B8 nf cc8] wr (Tells (.bool true) wr) from by
                  have h := same_tells F Bf B8 cf cc8 wr (HRF8.out.ext hx) (HRW8.out.ext hx) (by rw [HNF.out]; omega)
                  rw [HNF.out] at h
                  exact h)
                have HXF := Lib.hid (HX8.out.trans hx)
                clear hx hx68
                go_wp2_with fail
                refine HSA.out.mono ?_
                rintro e w9 ⟨rfl, hx9⟩
                have HX9 := Lib.hid (HXF.out.trans hx9)
                clear hx9
                go_wp2
                go_ret
                exact ⟨rfl, HX9.out⟩
              | succ g =>
                obtain ⟨rfl, rfl⟩ : j = 0 ∧ g = 0 := by omega
                have c4' := HO7.out.cell c4 (fun h => hne5 h.symm)
                clear hjg
                go_wp2
                go_loopg [68] i0 (fun g s wx => ∃ m : Nat, m + g = i0 ∧ s = .int .i64 (m : Int) ∧ Wr wx g5 o5 i0 ∧ Only (fun k => k = g5) w6 wx)
                case atStart => exact ⟨0, by omega, rfl, HW7.out, HO7.out⟩
                case round =>
                  obtain ⟨m, hmg, rfl, hw8, ho8⟩ := hrel
                  have HW8 := Lib.hid hw8
                  have HO8 := Lib.hid ho8
                  cases gk with
                  | zero =>
                    obtain rfl : m = i0 := by omega
                    clear hmg hw8 ho8
                    go_wp2
                    go_roundg 0
                    case measure => omega
                    case rel => exact ⟨1, by omega, rfl, HW8.out, HO8.out⟩
                  | succ g =>
                    have hm : m < i0 := by omega
                    have hmI : (m : Int) < (i0 : Int) := by omega
                    obtain ⟨⟨u, hu⟩, hf⟩ := hw8 m hm
                    have c4'' := ho8.cell c4 (fun h => hne5 h.symm)
                    clear hw8 ho8 c4'
                    go_wp2
                    go_roundg g
                    case measure => omega
                    case rel => exact ⟨m + 1, by omega, by go_num, HW8.out.set _ _, HO8.out.trans (Only.of_grown (grown_set9 wr g5 (o5 + m) _) (fun k e => by injection e with e; exact e.symm))⟩
          | succ g =>
            have hi : i < n := by omega
            have hiI : (i : Int) < (n : Int) := by omega
            obtain ⟨⟨u, hu⟩, hf⟩ := hw i hi
            clear hw
            go_wp2
            go_roundg g
            case measure => omega
            case rel => exact ⟨i + 1, by omega, by go_num, HW.out.set _ _, HO.out.trans (Only.of_grown (grown_set9 wr g3 (o3 + i) _) (fun k e => by injection e with e; exact e.symm))⟩
      · rw [HN1.out] at hnx
        cases hnx
    · exact absurd HFO.out hno
  · have hor : decide ((l0.length : Int) < 1) = true ∨ (decide ((l0.length : Int) < 1) = false ∧ decide (400 < (l0.length : Int)) = true) := by
      by_cases h : (l0.length : Int) < 1
      · exact .inl (decide_eq_true h)
      · exact .inr ⟨decide_eq_false h, decide_eq_true (by omega)⟩
    clear C hr0 hbig
    generalize l0.length = n0 at *
    rcases hor with d1 | ⟨d1, d2⟩
    all_goals
      go_enter Try.func8, Try.ntmps8
      go_wp2_with fail
      refine (HAW.out w).mono ?_
      rintro e v1 ⟨rfl, hv1⟩
      have HX1 := Lib.hid hv1
      clear hv1
      go_wp2_with fail
      refine (HAW.out v1).mono ?_
      rintro e v2 ⟨rfl, hv2⟩
      have HX2 := Lib.hid (HX1.out.trans hv2)
      clear hv2
      go_wp2
      go_ret
      exact ⟨rfl, HX2.out⟩
end Go.Proofs.Ytmjndomjnhjncaa

/-
  A region that draws its order, whose first operations leave every world of a class in that class and yield the same values in all of them, and whose last operations follow in a forced order: one walk of the text's order serves every order. Conditions: none; of no program in particular.
-/
namespace Go.Proofs.Ytmjndomjnhjncaa
open Go

section
variable {P : Program} {ops : Array Oper} {md : Region.Mode} {C : World → Prop}

/-- f operations below n come up in whatever order, each quiet in the class; then L. -/
def ahead (P : Program) (md : Region.Mode) (ops : Array Oper) (C : World → Prop) (n : Nat) (L : Array Bool → Act → Prop) : Nat → Array Bool → Act → Prop
  | 0, listed, a => L listed a
  | f + 1, listed, a => Region.ready md ops listed ≠ [] ∧ ∀ i, i ∈ Region.ready md ops listed → i < n ∧ qOp P ops C i (ahead P md ops C n L f (listed.setIfInBounds i true)) a

theorem wpAny_of_ahead {n g : Nat} {L : Array Bool → Act → Prop} {Q' : Exit → Act → World → Prop} (hL : ∀ listed a w, C w → L listed a → wpAny P md ops Q' g listed a w) (f : Nat) :
    ∀ (listed : Array Bool) (a : Act) (w : World), C w → ahead P md ops C n L f listed a → wpAny P md ops Q' (f + g) listed a w := by
  induction f with
  | zero => intro listed a w hw h; rw [Nat.zero_add]; exact hL _ _ _ hw h
  | succ f ih =>
    intro listed a w hw h
    rw [Nat.succ_add]
    exact ⟨fun h0 => absurd h0 h.1, fun i hi => wpOp_of_qOp hw (fun a' w' hw' h' => ih _ a' w' hw' h') (h.2 i hi).2⟩

/-- What may come up now may be taken first. -/
theorem ahead_first {n i : Nat} {oi : Oper} {v : Value} {L : Array Bool → Act → Prop} (hi : ops[i]? = some oi) (hsel : ∀ (j : Nat) (o : Oper) cs b, ops[j]? = some o → o.op ≠ .select cs b)
    (hs : Region.sinkB md ops n = true) (hc : Region.chainB md ops n = true) (hn : n < ops.size) (hin : i < n)
    (hdone : ∀ listed a, L listed a → ∀ j ∈ Region.ready md ops listed, n ≤ j) (f : Nat) :
    ∀ (listed : Array Bool) (a : Act), HeadInv md ops n listed →
      (∀ j oj, ops[j]? = some oj → j ≠ i → listed.getD j true = false → (∀ e ∈ oj.after, Region.binds md e = true → e.on ≠ i) → oi.apart ops oj = true) →
      i ∈ Region.ready md ops listed → YieldsIn P ops C oi v a →
      ahead P md ops C n L f (listed.setIfInBounds i true) (a.put oi.dst v) → ahead P md ops C n L (f + 1) listed a := by
  induction f with
  | zero =>
    intro listed a inv _ hr hy H
    refine ⟨List.ne_nil_of_mem hr, fun j hj => ?_⟩
    have hjn : j < n := Nat.lt_of_not_le fun h => tail_waits hs hc hn inv _ i rfl hin (mem_ready.1 hr).1 j h hj
    by_cases hji : j = i
    · subst hji; exact ⟨hjn, hy.qOp hi H⟩
    · exact absurd (hdone _ _ H j (ready_mono hj hji)) (by omega)
  | succ f ih =>
    intro listed a inv hfree hr hy H
    have hun := (mem_ready.1 hr).1
    refine ⟨List.ne_nil_of_mem hr, fun j hj => ?_⟩
    have hjn : j < n := Nat.lt_of_not_le fun h => tail_waits hs hc hn inv _ i rfl hin hun j h hj
    by_cases hji : j = i
    · subst hji; exact ⟨hjn, hy.qOp hi H⟩
    obtain ⟨hjun, oj, hoj, hall⟩ := mem_ready.1 hj
    have hap := hfree j oj hoj hji hjun fun e he hb heq => by
      have h1 := hall e he hb
      rw [heq, getD_both hun] at h1
      cases h1
    refine ⟨hjn, qOp_mono (fun a' h3 => ih (listed.setIfInBounds j true) a' (inv.set hj hjn) ?_ (ready_mono hr (Ne.symm hji)) h3.1 ?_)
      (qOp_put hoj hap (fun cs b => hsel i oi cs b hi) (fun cs b => hsel j oj cs b hoj) hy (H.2 j (ready_mono hj hji)).2)⟩
    · intro k ok hk hki hu hno
      refine hfree k ok hk hki ?_ hno
      by_cases hjk : j = k
      · subst hjk; exact hjun
      · rwa [getD_set_ne true hjk] at hu
    · rw [Array.setIfInBounds_comm _ _ hji]; exact h3.2

theorem ahead_lex {n g : Nat} {Lq : Act → Prop} (hsel : Region.noSelect ops = true) (hs : Region.sinkB md ops n = true) (hc : Region.chainB md ops n = true) (hn : n < ops.size) (l : List Oper) :
    ∀ (k : Nat) (listed : Array Bool) (a : Act), (∀ j, j < l.length → l[j]? = ops[k + j]?) → k + l.length = n → HeadInv md ops n listed →
    Region.lexHead md ops g l.length k listed = true → wpQuiet P ops C Lq l a →
    ahead P md ops C n (fun listed' a' => Region.seqB md ops g n listed' = true ∧ Lq a') l.length listed a := by
  induction l with
  | nil =>
    intro k listed a _ hk _ hB h
    obtain rfl : k = n := by simpa using hk
    exact ⟨by simpa [Region.lexHead] using hB, h⟩
  | cons o l ih =>
    intro k listed a hl hk inv hB h
    have h0 : ops[k]? = some o := by simpa using (hl 0 (by simp)).symm
    simp only [List.length_cons, Region.lexHead, Bool.and_eq_true] at hB hk
    have hr : k ∈ Region.ready md ops listed := by simpa using hB.1.1
    obtain ⟨v, hy, hK⟩ := yieldsIn_of_qOp (C := C) (K := wpQuiet P ops C Lq l) h0 (by unfold qOp; simp only [h0]; exact h)
    refine ahead_first h0 (Region.noSelect_spec hsel) hs hc hn (by omega) (fun _ _ hL => seqB_ready hL.1) l.length listed a inv (Region.free_spec h0 hB.1.2) hr hy ?_
    exact ih (k + 1) _ _ (fun j hj => by have := hl (j + 1) (by simp; omega); simpa [Nat.add_assoc, Nat.add_comm 1 j] using this) (by omega) (inv.set hr (by omega)) hB.2 hK

theorem any_quiet_tail {Q : Exit → Act → World → Prop} {a : Act} {w : World} {l : List Oper} (n : Nat) (C : World → Prop) (hB : Region.lexTailB .any l.toArray n = true) (hC : C w.drew)
    (h : wpQuiet P l.toArray C (fun a' => ∀ w', C w' → wpList P l.toArray Q (l.drop n) a' w') (l.take n) a) : wpAny P .any l.toArray Q l.toArray.size (Array.replicate l.toArray.size false) a w.drew := by
  simp only [Region.lexTailB, Bool.and_eq_true, decide_eq_true_eq] at hB
  obtain ⟨⟨⟨⟨hsel, hn⟩, hs⟩, hc⟩, hlex⟩ := hB
  have hn' : n < l.length := by simpa using hn
  have htl : (l.take n).length = n := by rw [List.length_take]; omega
  have hdl : (l.drop n).length = l.toArray.size - n := by simp
  have inv0 : HeadInv .any l.toArray n (Array.replicate l.toArray.size false) :=
    ⟨by simp, fun j oj _ hl => (by rw [getD_replicate_false] at hl; cases hl), fun t _ ht => getD_in (by simpa using ht) (getD_replicate_false _ _)⟩
  have H := ahead_lex (md := .any) (g := l.toArray.size - n) (C := C) hsel hs hc hn (l.take n) 0 _ a (fun j hj => by
    have hj' : j < n := by rwa [htl] at hj
    simp [hj']) (by rw [htl]; exact Nat.zero_add n) inv0 (by rw [htl]; exact hlex) h
  have key := wpAny_of_ahead (C := C) (Q' := Q) (g := l.toArray.size - n) (fun listed a' w' hw' hL => by
    have := wpAny_of_seq (md := .any) (Q' := Q) (l.drop n) n listed a' w' (fun j => by simp [List.getElem?_drop]) (by rw [hdl]; exact hL.1) (hL.2 w' hw')
    rwa [hdl] at this) _ _ _ _ hC H
  rw [htl, show n + (l.toArray.size - n) = l.toArray.size by omega] at key
  exact key
theorem wp_region_quiet_tail {id : Nat} {Q : Exit → Act → World → Prop} {a : Act} {w : World} {l : List Oper} (n : Nat) (C : World → Prop) (hm : P.follows .mixedOrders = true) (hB : Region.lexTailB .any l.toArray n = true) (hC : C w.drew)
    (h : wpQuiet P l.toArray C (fun a' => ∀ w', C w' → wpList P l.toArray Q (l.drop n) a' w') (l.take n) a) : (Code.region id l.toArray true).wp P Q a w :=
  wp_region_any hm (any_quiet_tail n C hB hC h)
end
end Go.Proofs.Ytmjndomjnhjncaa
