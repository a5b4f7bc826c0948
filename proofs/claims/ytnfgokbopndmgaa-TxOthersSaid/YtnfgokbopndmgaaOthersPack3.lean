/-
  Part 3 of the texts that the seat's proofs stand on; each part of it begins with its own sentence and conditions. Conditions: those that each theorem names.
-/
import Derived.Test.YtnfgokbopndmgaaOthersPack2
import Derived.Lib.Hide
import Derived.Defers
import Derived.Recover
import Derived.Laws.Pointers

/-
  The document's own reader of layer 8, whatever it has read before: numbers, texts, the end. Conditions: no more than 2^16 bytes.
-/
namespace Go.Proofs.Ytnfgokbopndmgaa
open Go.RowKit
open Pol (co Sm)

/-- Where the reader of l stands: what is left, or its error. -/
def Stn (l : List Nat) (g : Nat) (B : Option Addr) (cb : Nat) (w : World) (r : Rs Unit) : Prop :=
  match r with
  | .ok _ rest => (∃ pre, l = pre ++ rest) ∧ RR w g B l.length cb (l.length - rest.length) 0
  | .er n => 0 < n ∧ ∃ a, RR w g B l.length cb a n
def Rs.unit {α : Type} (r : Rs α) : Rs Unit := match r with | .ok _ rest => .ok () rest | .er n => .er n
def Rs.val {α : Type} (r : Rs α) (z : α) : α := match r with | .ok a _ => a | .er _ => z
theorem Stn.ext {l : List Nat} {g cb : Nat} {B : Option Addr} {w w' : World} {r : Rs Unit} (h : Stn l g B cb w r) (hx : Ext w w') : Stn l g B cb w' r := by
  cases r with
  | ok u rest => exact ⟨h.1, h.2.ext hx⟩
  | er n =>
    obtain ⟨h0, a, h1⟩ := h
    exact ⟨h0, a, h1.ext hx⟩
theorem Stn.only {X : Nat → Prop} {l : List Nat} {g cb : Nat} {B : Option Addr} {w w' : World} {r : Rs Unit} (h : Stn l g B cb w r) (ho : Only X w w') (hx : ¬ X g) : Stn l g B cb w' r := by
  cases r with
  | ok u rest => exact ⟨h.1, h.2.only ho hx⟩
  | er n =>
    obtain ⟨h0, a, h1⟩ := h
    exact ⟨h0, a, h1.only ho hx⟩
theorem Stn.lt {l : List Nat} {g cb : Nat} {B : Option Addr} {w : World} {r : Rs Unit} (h : Stn l g B cb w r) : g < w.heap.size := by
  cases r with
  | ok u rest => exact block_lt_of_cell h.2.c0
  | er n =>
    obtain ⟨_, a, h1⟩ := h
    exact block_lt_of_cell h1.c0
set_option maxHeartbeats 1600000 in
theorem rd14_none (g : Nat) (B : Option Addr) (n cb a e most : Nat) (w : World) (hR : RR w g B n cb a e) (he : 0 < e) :
    Calls Try.prog 38 #[.pointer (some ⟨g, 0, none⟩), .int .u64 (most : Int)] w (fun en w' => en = .returned (.int .u64 0) ∧ w = w') := by
  have z2 := hR.c2
  have t0 : ((e : Int) == 0) = false := by simp; omega
  have t1 : decide ((e : Int) = 0) = false := decide_eq_false (by omega)
  have t2 : decide (e = 0) = false := decide_eq_false (by omega)
  clear hR he
  go_enter Try.func38, Try.ntmps38
  go_wp2
  go_loopg [5, 6, 7] 0 (fun gk s5 s6 s7 wx => w = wx)
  case atStart => rfl
  case round =>
    subst hrel
    go_wp2
    go_ret
    exact ⟨rfl, rfl⟩
set_option maxHeartbeats 1600000 in
theorem rd14_tnone (g : Nat) (B : Option Addr) (n cb a e : Nat) (most : Nat) (w : World) (hR : RR w g B n cb a e) (he : 0 < e) (hm : most < 9223372036854775808) :
    Calls Try.prog 39 #[.pointer (some ⟨g, 0, none⟩), .int .i64 (most : Int)] w (fun en w' => en = .returned (.slice none 0 0) ∧ w = w') := by
  have HN := Lib.hid (rd14_none g B n cb a e most w hR he)
  have HB := Lib.hid (ref8r_none g B n cb a e 0 w hR he)
  have e1 : IntKind.u64.wrap (most : Int) = (most : Int) := by rw [IntKind.wrap_u64]; omega
  have m1 : max (most : Int) 0 = (most : Int) := by omega
  clear hR he
  go_enter Try.func39, Try.ntmps39
  go_wp2_with fail
  refine HN.out.mono ?_
  rintro en w1 ⟨rfl, rfl⟩
  go_wp2_with fail
  refine HB.out.mono ?_
  rintro en w2 ⟨rfl, rfl⟩
  go_wp2
  go_ret
  exact ⟨rfl, rfl⟩
theorem rd14_number (l : List Nat) (g : Nat) (B : Option Addr) (cb most : Nat) (w : World) (r : Rs Unit) (hr : Rd w B l) (hfar : ∀ b o, B = some ⟨b, o, none⟩ → 0 < l.length → b ≠ g) (hl : l.length ≤ 65536) (hm : most < 18446744073709551616) (h : Stn l g B cb w r) :
    Calls Try.prog 38 #[.pointer (some ⟨g, 0, none⟩), .int .u64 (most : Int)] w
      (fun e w' => Only (fun k => k = g) w w' ∧ e = .returned (.int .u64 (((r.bind fun _ rest => rdN most rest).val 0 : Nat) : Int)) ∧ Stn l g B cb w' (r.bind fun _ rest => rdN most rest).unit) := by
  cases r with
  | er n =>
    obtain ⟨h0, a, h1⟩ := h
    refine (rd14_none g B l.length cb a n most w h1 h0).mono ?_
    rintro e w' ⟨rfl, rfl⟩
    exact ⟨Only.refl _ _, rfl, h0, a, h1⟩
  | ok u rest =>
    obtain ⟨⟨pre, hp⟩, h1⟩ := h
    have hs : Sm rest := by have h := hr.1; rw [hp] at h; exact (sm_split h).2
    refine (ref8r_number l rest g B cb most w hr hfar hl ⟨pre, hp⟩ h1 hm).mono ?_
    rintro e w' ⟨ho, h⟩
    show Only _ _ _ ∧ e = .returned (.int .u64 (((rdN most rest).val 0 : Nat) : Int)) ∧ Stn l g B cb w' (rdN most rest).unit
    cases hq : rdN most rest with
    | ok n rest' =>
      rw [hq] at h
      obtain ⟨v, he, hv, hR⟩ := h
      subst hv
      obtain ⟨e1, _, _⟩ := vn_rdN hs hq
      exact ⟨ho, he, ⟨pre ++ vn n, by rw [List.append_assoc, ← e1]; exact hp⟩, hR⟩
    | er n =>
      rw [hq] at h
      obtain ⟨v, a, he, hv, hR⟩ := h
      subst hv
      exact ⟨ho, he, (rdN_er hq).1, a, hR⟩
theorem rd14_text (l : List Nat) (g : Nat) (B : Option Addr) (cb most : Nat) (w : World) (r : Rs Unit) (hr : Rd w B l) (hcb : l.length ≤ cb) (hfar : ∀ b o, B = some ⟨b, o, none⟩ → 0 < l.length → b ≠ g) (hl : l.length ≤ 65536) (hm : most ≤ 5000) (h : Stn l g B cb w r) :
    Calls Try.prog 39 #[.pointer (some ⟨g, 0, none⟩), .int .i64 (most : Int)] w
      (fun e w' => Only (fun k => k = g) w w' ∧ (∃ D n c, e = .returned (.slice D n c) ∧ ((r.bind fun _ rest => rdT most rest).val []).length = n ∧ n ≤ c ∧ Rd w' D ((r.bind fun _ rest => rdT most rest).val []) ∧ ∀ b o, D = some ⟨b, o, none⟩ → 0 < n → w.heap.size ≤ b) ∧ Stn l g B cb w' (r.bind fun _ rest => rdT most rest).unit) := by
  cases r with
  | er n =>
    obtain ⟨h0, a, h1⟩ := h
    refine (rd14_tnone g B l.length cb a n most w h1 h0 (by omega)).mono ?_
    rintro e w' ⟨rfl, rfl⟩
    exact ⟨Only.refl _ _, ⟨none, 0, 0, rfl, rfl, Nat.le_refl _, Rd.nil _ _, fun b o h => by cases h⟩, h0, a, h1⟩
  | ok u rest =>
    obtain ⟨⟨pre, hp⟩, h1⟩ := h
    have hs : Sm rest := by have h := hr.1; rw [hp] at h; exact (sm_split h).2
    refine (ref8r_text l rest g B cb most w hr hcb hfar hl ⟨pre, hp⟩ h1 hm).mono ?_
    rintro e w' ⟨ho, h⟩
    show Only _ _ _ ∧ (∃ D n c, e = .returned (.slice D n c) ∧ ((rdT most rest).val []).length = n ∧ n ≤ c ∧ Rd w' D ((rdT most rest).val []) ∧ ∀ b o, D = some ⟨b, o, none⟩ → 0 < n → w.heap.size ≤ b) ∧ Stn l g B cb w' (rdT most rest).unit
    cases hq : rdT most rest with
    | ok n rest' =>
      rw [hq] at h
      obtain ⟨v, he, ⟨D, c, rfl, hc, hD, hb⟩, hR⟩ := h
      obtain ⟨e1, _, _⟩ := vt_rdT hs hq
      exact ⟨ho, ⟨D, _, c, he, rfl, hc, hD, fun b o e hn => hb b o e hn⟩, ⟨pre ++ vt n, by rw [List.append_assoc, ← e1]; exact hp⟩, hR⟩
    | er n =>
      rw [hq] at h
      obtain ⟨v, a, he, ⟨D, c, rfl, hc, hD, hb⟩, hR⟩ := h
      exact ⟨ho, ⟨D, _, c, he, rfl, hc, hD, fun b o e hn => hb b o e hn⟩, (rdT_er hq).1, a, hR⟩
/-- The error's number at the end. -/
def endc (r : Rs Unit) : Nat := match r with | .ok _ rest => if rest = [] then 0 else 3 | .er n => n
set_option maxHeartbeats 800000 in
theorem rd14_end (l : List Nat) (g : Nat) (B : Option Addr) (cb : Nat) (w : World) (r : Rs Unit) (h : Stn l g B cb w r) :
    Calls Try.prog 40 #[.pointer (some ⟨g, 0, none⟩)] w (fun e w' => e = .returned (.int .i64 ((endc r : Nat) : Int)) ∧ Only (fun k => k = g) w w') := by
  cases r with
  | ok u rest =>
    obtain ⟨⟨pre, hp⟩, h1⟩ := h
    refine (ref8r_end rest g B l.length cb w h1 (by rw [hp, List.length_append]; omega)).mono ?_
    rintro e w' ⟨he, ho⟩
    refine ⟨?_, ho⟩
    rw [he]
    unfold endc
    dsimp only
    split <;> rfl
  | er n =>
    obtain ⟨h0, a, h1⟩ := h
    have z2 := h1.c2
    have t0 : ((n : Int) == 0) = false := by simp; omega
    have t1 : decide ((n : Int) = 0) = false := decide_eq_false (by omega)
    have t2 : decide (n = 0) = false := decide_eq_false (by omega)
    clear h1 h0
    show Calls _ _ _ _ (fun e w' => e = .returned (.int .i64 (n : Int)) ∧ _)
    go_enter Try.func40, Try.ntmps40
    go_wp2
    go_quiet (fail)
    go_wp2
    go_ret
    exact ⟨rfl, (Only.refl _ w).drewN nq⟩
end Go.Proofs.Ytnfgokbopndmgaa

/-
  What the document's own Decode of layer 14 does. Conditions: no more than 2^16 bytes.
-/
namespace Go.Proofs.Ytnfgokbopndmgaa
open Go.RowKit
open Pol (co Sm)

/-- An order that was read, and the error's number. -/
def DecR (b : List Nat) (w : World) (e : Ending) (w' : World) : Prop :=
  Ext w w' ∧ ∃ B n c, e = .returned (.tuple #[.agg #[.int .i64 (dec14 b).2.k, .int .i64 (dec14 b).2.t, .int .u64 (((dec14 b).2.a : Nat) : Int), .slice B n c], .int .i64 (((dec14 b).1 : Nat) : Int)]) ∧ (dec14 b).2.m.length = n ∧ n ≤ c ∧ Rd w' B (dec14 b).2.m
/-- The reader's steps, and what they come to. -/
theorem dec14_steps (b : List Nat) : ∃ (r1 : Rs Nat) (r2 : Rs Nat) (r3 : Rs Nat) (r4 : Rs (List Nat)), r1 = (Rs.ok () b).bind (fun _ rest => rdN 2 rest) ∧ r2 = r1.unit.bind (fun _ rest => rdN 5 rest) ∧ r3 = r2.unit.bind (fun _ rest => rdN 18446744073709551615 rest) ∧ r4 = r3.unit.bind (fun _ rest => rdT 16 rest) ∧
    dec14 b = (if endc r4.unit ≠ 0 then (endc r4.unit, Od.zero) else if Od.right ⟨((r1.val 0 : Nat) : Int), ((r2.val 0 : Nat) : Int), r3.val 0, r4.val []⟩ then (0, ⟨((r1.val 0 : Nat) : Int), ((r2.val 0 : Nat) : Int), r3.val 0, r4.val []⟩) else (14, Od.zero)) := by
  refine ⟨_, _, _, _, rfl, rfl, rfl, rfl, ?_⟩
  unfold dec14 rdO
  show _ = _
  cases h1 : rdN 2 b with
  | er n =>
    have hn := (rdN_er h1).1
    simp only [Rs.bind, h1, Rs.unit, Rs.val, endc]
    rw [if_pos (by omega)]
  | ok k b1 =>
    cases h2 : rdN 5 b1 with
    | er n =>
      have hn := (rdN_er h2).1
      simp only [Rs.bind, h1, h2, Rs.unit, Rs.val, endc]
      rw [if_pos (by omega)]
    | ok t b2 =>
      cases h3 : rdN 18446744073709551615 b2 with
      | er n =>
        have hn := (rdN_er h3).1
        simp only [Rs.bind, h1, h2, h3, Rs.unit, Rs.val, endc]
        rw [if_pos (by omega)]
      | ok a b3 =>
        cases h4 : rdT 16 b3 with
        | er n =>
          have hn := (rdT_er h4).1
          simp only [Rs.bind, h1, h2, h3, h4, Rs.unit, Rs.val, endc]
          rw [if_pos (by omega)]
        | ok m b4 =>
          simp only [Rs.bind, h1, h2, h3, h4, Rs.unit, Rs.val, endc]
          by_cases hb : b4 = []
          · rw [if_pos hb, if_neg (by simpa using hb), if_neg (show ¬ (0 ≠ 0) from fun h => h rfl)]
          · rw [if_neg hb, if_pos hb, if_pos (by simp)]
theorem rdN_val_le {m : Nat} {l : List Nat} (hs : Sm l) : (rdN m l).val 0 ≤ m := by
  cases h : rdN m l with
  | er n => exact Nat.zero_le _
  | ok n rest => exact (vn_rdN hs h).2.2
theorem stn_val {l : List Nat} {g cb m : Nat} {B : Option Addr} {w : World} {r : Rs Unit} (h : Stn l g B cb w r) (hs : Sm l) : (r.bind fun _ rest => rdN m rest).val 0 ≤ m := by
  cases r with
  | er n => exact Nat.zero_le _
  | ok u rest =>
    obtain ⟨⟨pre, hp⟩, _⟩ := h
    rw [hp] at hs
    exact rdN_val_le (sm_split hs).2
theorem results_tx14 {fn : Func} {p u : Tmp} (h : fn.results = #[.cell p 25, .tmp u]) (tmps : Array Value) (w : World) (g : Nat) (t : TypeId) (cs : Array Value) (fr : Nat × Nat)
    (hp : tmps.getD p undef = .pointer (some ⟨g, 0, none⟩)) (hg : w.heap[g]? = some (.cells cs t fr)) (hi : (Try.prog.info? 25).map (·.size) = some cs.size) :
    (results fn tmps).run Try.prog w = .ok (.tuple #[.agg cs, tmps.getD u undef]) w := by
  have hl := run_loadVar_row w g t 25 cs fr _ hg Try.underlying25 rfl hi
  rw [results_cell_tmp h, hp]
  simp [asAddr, Result.andThen, hl]
theorem tx_size14 : (#[.int .i64 0, .int .i64 0, .int .u64 0, .slice none 0 0] : Array Value).size = (#[.int .i64 0, .int .i64 0, .int .u64 0, .slice none 0 0] : Array Value).size := rfl
set_option maxHeartbeats 6400000 in
set_option maxRecDepth 100000 in
theorem ref14_decode (b : List Nat) (A : Option Addr) (n c : Nat) (w : World) (hn : b.length = n) (hr : Rd w A b) (hc : n ≤ c) (hl : n ≤ 65536) :
    Calls Try.prog 13 #[.slice A n c] w (DecR b w) := by
  unfold DecR
  obtain ⟨r1, r2, r3, r4, e1, e2, e3, e4, hdec⟩ := dec14_steps b
  have HDEC := Lib.hid hdec
  have HSB := Lib.hid hr.1
  have HFAR := Lib.hid (show ∀ q o, A = some ⟨q, o, none⟩ → 0 < b.length → q ≠ w.heap.size + 1 from fun q o e h0 => by have := hr.block' q o e h0; omega)
  have HRD := Lib.hid (fun u (h : Ext w u) => hr.ext h)
  have HCB := Lib.hid (show b.length ≤ c by omega)
  have HLB := Lib.hid (show b.length ≤ 65536 by omega)
  have hx0 : Ext w ((w.alloc (.cells #[.int .i64 0, .int .i64 0, .int .u64 0, .slice none 0 0] 25)).alloc (.cells #[.slice A n c, .int .i64 0, .int .i64 0] 71)) := ((Ext.refl w).alloc _).alloc _
  have hR0 : ((w.alloc (.cells #[.int .i64 0, .int .i64 0, .int .u64 0, .slice none 0 0] 25)).alloc (.cells #[.slice A n c, .int .i64 0, .int .i64 0] 71)).heap[w.heap.size]? = some (.cells #[.int .i64 0, .int .i64 0, .int .u64 0, .slice none 0 0] 25) := by
    rw [heap_alloc_old _ _ (by simp)]
    exact heap_alloc_new w _
  have hg0 : ((w.alloc (.cells #[.int .i64 0, .int .i64 0, .int .u64 0, .slice none 0 0] 25)).alloc (.cells #[.slice A n c, .int .i64 0, .int .i64 0] 71)).heap[w.heap.size + 1]? = some (.cells #[.slice A n c, .int .i64 0, .int .i64 0] 71) := by
    have h := heap_alloc_new (w.alloc (.cells #[.int .i64 0, .int .i64 0, .int .u64 0, .slice none 0 0] 25)) (.cells #[.slice A n c, .int .i64 0, .int .i64 0] 71)
    rwa [show (w.alloc (.cells #[.int .i64 0, .int .i64 0, .int .u64 0, .slice none 0 0] 25)).heap.size = w.heap.size + 1 from by simp] at h
  have HX0 := Lib.hid hx0
  have HR0 := Lib.hid hR0
  have HS0 := Lib.hid (show Stn b (w.heap.size + 1) A c _ (.ok () b) from ⟨⟨[], rfl⟩, by rw [cell_of_row _ _ 0 _ _ _ hg0, hn]; rfl, by rw [cell_of_row _ _ 1 _ _ _ hg0, Nat.sub_self]; rfl, by rw [cell_of_row _ _ 2 _ _ _ hg0]; rfl, frozen_of_row _ _ 1 _ _ hg0, frozen_of_row _ _ 2 _ _ hg0⟩)
  clear hr hx0 hR0 hg0 hdec
  obtain ⟨g, hgd⟩ : ∃ g, w.heap.size + 1 = g := ⟨_, rfl⟩
  have HGD := Lib.hid hgd
  rw [hgd] at HS0 HFAR
  clear hgd
  go_enter Try.func13, Try.ntmps13
  go_wp2_with fail
  rw [HGD.out]
  refine (rd14_number b g A c 2 _ _ (HRD.out _ HX0.out) HFAR.out HLB.out (by decide) HS0.out).mono ?_
  rintro e w1 ⟨ho, rfl, hs⟩
  have hv := stn_val (m := 2) HS0.out HSB.out
  rw [← e1] at hs hv ⊢
  obtain ⟨v1, hv1⟩ : ∃ v, r1.val 0 = v := ⟨_, rfl⟩
  rw [hv1] at hv ⊢
  have HV1 := Lib.hid hv1
  have HX1 := Lib.hid (ho.ext HX0.out (fun q e => by have := HGD.out; omega))
  have HS1 := Lib.hid hs
  have HR1 := Lib.hid (ho.row HR0.out (by have := HGD.out; omega))
  have x1 : IntKind.i64.wrap (v1 : Int) = (v1 : Int) := by rw [IntKind.wrap_i64]; omega
  clear ho hs hv hv1
  go_wp2_with fail
  refine (rd14_number b g A c 5 _ _ (HRD.out _ HX1.out) HFAR.out HLB.out (by decide) HS1.out).mono ?_
  rintro e w2 ⟨ho, rfl, hs⟩
  have hv := stn_val (m := 5) HS1.out HSB.out
  rw [← e2] at hs hv ⊢
  obtain ⟨v2, hv2⟩ : ∃ v, r2.val 0 = v := ⟨_, rfl⟩
  rw [hv2] at hv ⊢
  have HV2 := Lib.hid hv2
  have HX2 := Lib.hid (ho.ext HX1.out (fun q e => by have := HGD.out; omega))
  have HS2 := Lib.hid hs
  have HR2 := Lib.hid (ho.row HR1.out (by have := HGD.out; omega))
  have x2 : IntKind.i64.wrap (v2 : Int) = (v2 : Int) := by rw [IntKind.wrap_i64]; omega
  clear ho hs hv hv2
  -- the order under way lies in block w2.heap.size
  have HXa := Lib.hid (HX2.out.alloc (.cells #[.int .i64 (v1 : Int), .int .i64 (v2 : Int), .int .u64 0, .slice none 0 0] 25))
  have HSa := Lib.hid (HS2.out.ext ((Ext.refl w2).alloc (.cells #[.int .i64 (v1 : Int), .int .i64 (v2 : Int), .int .u64 0, .slice none 0 0] 25)))
  have HRa := Lib.hid (((Ext.refl w2).alloc (.cells #[.int .i64 (v1 : Int), .int .i64 (v2 : Int), .int .u64 0, .slice none 0 0] 25)).row HR2.out)
  have HTa := Lib.hid (heap_alloc_new w2 (.cells #[.int .i64 (v1 : Int), .int .i64 (v2 : Int), .int .u64 0, .slice none 0 0] 25))
  have HTg := Lib.hid (show g < w2.heap.size ∧ w.heap.size < w2.heap.size from ⟨HS2.out.lt, by have h1 := HS2.out.lt; have h2 := HGD.out; omega⟩)
  obtain ⟨T, hT⟩ : ∃ T, w2.heap.size = T := ⟨_, rfl⟩
  go_wp2_with fail
  rw [hT] at HTa HTg
  clear hT HX2 HS2 HR2 HX1 HS1 HR1 HX0 HS0 HR0
  generalize w2.alloc (.cells #[.int .i64 (v1 : Int), .int .i64 (v2 : Int), .int .u64 0, .slice none 0 0] 25) = wa at HXa HSa HRa HTa ⊢
  refine (rd14_number b g A c 18446744073709551615 _ _ (HRD.out _ HXa.out) HFAR.out HLB.out (by decide) HSa.out).mono ?_
  rintro e w3 ⟨ho, rfl, hs⟩
  rw [← e3] at hs ⊢
  obtain ⟨v3, hv3⟩ : ∃ v, r3.val 0 = v := ⟨_, rfl⟩
  rw [hv3]
  have HV3 := Lib.hid hv3
  have ht3 := ho.row HTa.out (fun e => by have := HTg.out; omega)
  have hx3 := ho.ext HXa.out (fun q e => by have := HGD.out; omega)
  have t2 := cell_of_row _ T 2 _ _ _ ht3
  simp only [List.getElem?_toArray, List.getElem?_cons_zero, List.getElem?_cons_succ] at t2
  have z2 : w3.frozen? ⟨T, 2, none⟩ = false := frozen_of_row _ T 2 _ _ ht3
  have HT3 := Lib.hid (heap_setCell_same w3 T 2 _ _ (.int .u64 (v3 : Int)) ht3)
  have HX3 := Lib.hid (hx3.setCell (p := ⟨T, 2, none⟩) (by have := HTg.out; dsimp only; omega) (.int .u64 (v3 : Int)))
  have HR3 := Lib.hid ((heap_setCell_other w3 ⟨T, 2, none⟩ w.heap.size (.int .u64 (v3 : Int)) (by have := HTg.out; dsimp only; omega)).trans (ho.row HRa.out (by have := HGD.out; omega)))
  have HS3 := Lib.hid (hs.only (X := fun k => k = T) (Only.of_grown (grown_set' w3 T 2 (.int .u64 (v3 : Int))) (fun k e => by injection e with e; exact e.symm)) (by have := HTg.out; omega))
  clear ho hs hv3 ht3 hx3 HXa HSa HRa HTa
  go_wp2_with fail
  generalize w3.setCell ⟨T, 2, none⟩ (.int .u64 (v3 : Int)) = wb at HT3 HX3 HR3 HS3 ⊢
  clear t2 z2
  refine (rd14_text b g A c 16 _ _ (HRD.out _ HX3.out) HCB.out HFAR.out HLB.out (by decide) HS3.out).mono ?_
  rintro e w4 ⟨ho, ⟨D, n4, c4, rfl, hn4, hc4, hD, hDb⟩, hs⟩
  rw [← e4] at hs hn4 hD
  obtain ⟨V4, hV4⟩ : ∃ v, r4.val [] = v := ⟨_, rfl⟩
  rw [hV4] at hn4 hD
  have HV4 := Lib.hid hV4
  have ht4 := ho.row HT3.out (fun e => by have := HTg.out; omega)
  have hx4 := ho.ext HX3.out (fun q e => by have := HGD.out; omega)
  have t3 := cell_of_row _ T 3 _ _ _ ht4
  simp only [List.getElem?_toArray, Array.setIfInBounds, List.size_toArray, List.length_cons, List.length_nil, Nat.zero_add, Nat.reduceAdd, Nat.reduceLT, dite_true, List.set_toArray, List.set_cons_zero, List.set_cons_succ, List.getElem?_cons_zero, List.getElem?_cons_succ] at t3
  have z3 : w4.frozen? ⟨T, 3, none⟩ = false := frozen_of_row _ T 3 _ _ ht4
  have HT4 := Lib.hid (heap_setCell_same w4 T 3 _ _ (.slice D n4 c4) ht4)
  have HX4 := Lib.hid (hx4.setCell (p := ⟨T, 3, none⟩) (by have := HTg.out; dsimp only; omega) (.slice D n4 c4))
  have HR4 := Lib.hid ((heap_setCell_other w4 ⟨T, 3, none⟩ w.heap.size (.slice D n4 c4) (by have := HTg.out; dsimp only; omega)).trans (ho.row HR3.out (by have := HGD.out; omega)))
  have HS4 := Lib.hid (hs.only (X := fun k => k = T) (Only.of_grown (grown_set' w4 T 3 (.slice D n4 c4)) (fun k e => by injection e with e; exact e.symm)) (by have := HTg.out; omega))
  have HDB := Lib.hid (show ∀ q o, D = some ⟨q, o, none⟩ → 0 < V4.length → q ≠ g ∧ q ≠ T ∧ q ≠ w.heap.size from fun q o e h0 => by
    have h1 := hDb q o e (by omega)
    have h2 := row_lt HT3.out
    have h3 := HTg.out
    omega)
  have HD4 := Lib.hid (show Rd (w4.setCell ⟨T, 3, none⟩ (.slice D n4 c4)) D V4 from hD.keep (grown_set' w4 T 3 (.slice D n4 c4)) (fun q o e h0 e2 => by injection e2 with e2; exact (HDB.out q o e h0).2.1 e2))
  have HN4 := Lib.hid (And.intro hn4 hc4)
  clear ho hs hn4 hc4 hD hDb hV4 ht4 hx4 HX3 HS3 HR3 HT3
  go_wp2_with fail
  generalize w4.setCell ⟨T, 3, none⟩ (.slice D n4 c4) = wc at HT4 HX4 HR4 HS4 HD4 ⊢
  clear t3 z3
  refine (rd14_end b g A c _ _ HS4.out).mono ?_
  rintro e w5 ⟨rfl, ho⟩
  have HT5 := Lib.hid (ho.row HT4.out (fun e => by have := HTg.out; omega))
  have HX5 := Lib.hid (ho.ext HX4.out (fun q e => by have := HGD.out; omega))
  have HR5 := Lib.hid (ho.row HR4.out (by have := HGD.out; omega))
  have HD5 := Lib.hid (rd_keep HD4.out ho (fun q o e h0 => (HDB.out q o e h0).1))
  rw [HV1.out, HV2.out, HV3.out, HV4.out] at HDEC
  clear ho HX4 HS4 HR4 HT4 HD4 e1 e2 e3 e4
  obtain ⟨ec, hec⟩ : ∃ ec, endc r4.unit = ec := ⟨_, rfl⟩
  rw [hec] at HDEC ⊢
  by_cases hec0 : ec = 0
  · rw [if_neg (by simpa using hec0)] at HDEC
    subst hec0
    have q0 := cell_of_row _ T 0 _ _ _ HT5.out
    have q1 := cell_of_row _ T 1 _ _ _ HT5.out
    have q2 := cell_of_row _ T 2 _ _ _ HT5.out
    have q3 := cell_of_row _ T 3 _ _ _ HT5.out
    simp only [List.getElem?_toArray, Array.setIfInBounds, List.size_toArray, List.length_cons, List.length_nil, Nat.zero_add, Nat.reduceAdd, Nat.reduceLT, dite_true, List.set_toArray, List.set_cons_zero, List.set_cons_succ, List.getElem?_cons_zero, List.getElem?_cons_succ] at q0 q1 q2 q3
    have HRI := Lib.hid (fun u => ref14_right (v1 : Int) (v2 : Int) v3 n4 c4 D u)
    rw [right_is HN4.out.1] at HRI
    go_wp2_with fail
    refine (HRI.out w5).mono ?_
    rintro e w6 ⟨rfl, hx6⟩
    have HX6 := Lib.hid (HX5.out.trans hx6)
    have HR6 := Lib.hid (hx6.row HR5.out)
    have HD6 := Lib.hid (HD5.out.ext hx6)
    have p0 := hx6.at q0
    have p1 := hx6.at q1
    have p2 := hx6.at q2
    have p3 := hx6.at q3
    clear hx6 q0 q1 q2 q3
    by_cases ho : Od.right ⟨(v1 : Int), (v2 : Int), v3, V4⟩
    · rw [if_pos ho] at HDEC
      rw [decide_eq_true ho]
      have hin : (Try.prog.info? 25).map (·.size) = some (#[.int .i64 (v1 : Int), .int .i64 (v2 : Int), .int .u64 (v3 : Int), .slice D n4 c4] : Array Value).size := by kernel_rfl
      have HSZ := Lib.hid (show (#[.int .i64 0, .int .i64 0, .int .u64 0, .slice none 0 0] : Array Value).size = (#[.int .i64 (v1 : Int), .int .i64 (v2 : Int), .int .u64 (v3 : Int), .slice D n4 c4] : Array Value).size from rfl)
      have hone : (#[.int .i64 (v1 : Int), .int .i64 (v2 : Int), .int .u64 (v3 : Int), .slice D n4 c4] : Array Value).all (·.oneCell') = true := by simp [Value.oneCell']
      have HXF := Lib.hid (HX6.out.setRow (Nat.le_refl _) #[.int .i64 (v1 : Int), .int .i64 (v2 : Int), .int .u64 (v3 : Int), .slice D n4 c4])
      have HGF := Lib.hid (setRow_heap w6 w.heap.size _ #[.int .i64 (v1 : Int), .int .i64 (v2 : Int), .int .u64 (v3 : Int), .slice D n4 c4] _ _ HR6.out)
      go_wp2_with (with_reducible refine wpList_store_all rfl 25 (.tmp 2) (.tmp 33) rfl w.heap.size _ #[.int .i64 (v1 : Int), .int .i64 (v2 : Int), .int .u64 (v3 : Int), .slice D n4 c4] rfl rfl HR6.out hin HSZ.out hone ?_)
      refine bodyPost_ret (results_tx14 Try.results13 _ _ w.heap.size 25 _ (0, 0) rfl HGF.out hin) rfl ?_
      rw [HDEC.out]
      exact ⟨HXF.out, D, n4, c4, rfl, HN4.out.1, HN4.out.2, HD6.out.keep (grown_block w6 w.heap.size #[.int .i64 (v1 : Int), .int .i64 (v2 : Int), .int .u64 (v3 : Int), .slice D n4 c4]) (fun q o e h0 e2 => by injection e2 with e2; exact (HDB.out q o e h0).2.2 e2)⟩
    · rw [if_neg ho] at HDEC
      rw [decide_eq_false ho]
      have hin : (Try.prog.info? 25).map (·.size) = some (#[.int .i64 0, .int .i64 0, .int .u64 0, .slice none 0 0] : Array Value).size := by kernel_rfl
      have hone : (#[.int .i64 0, .int .i64 0, .int .u64 0, .slice none 0 0] : Array Value).all (·.oneCell') = true := by simp [Value.oneCell']
      have HXF := Lib.hid (HX6.out.setRow (Nat.le_refl _) #[.int .i64 0, .int .i64 0, .int .u64 0, .slice none 0 0])
      have HGF := Lib.hid (setRow_heap w6 w.heap.size _ #[.int .i64 0, .int .i64 0, .int .u64 0, .slice none 0 0] _ _ HR6.out)
      go_wp2_with (with_reducible refine wpList_store_all rfl 25 (.tmp 2) (.tmp 32) rfl w.heap.size _ #[.int .i64 0, .int .i64 0, .int .u64 0, .slice none 0 0] rfl rfl HR6.out hin tx_size14 hone ?_)
      refine bodyPost_ret (results_tx14 Try.results13 _ _ w.heap.size 25 _ (0, 0) rfl HGF.out hin) rfl ?_
      rw [HDEC.out]
      exact ⟨HXF.out, none, 0, 0, rfl, rfl, Nat.le_refl _, Rd.nil _ _⟩
  · rw [if_pos hec0] at HDEC
    have d1 : ((ec : Int) == 0) = false := by simp; omega
    have d1' : ((ec : Int) != 0) = true := by simp; omega
    have d1'' : decide ((ec : Int) = 0) = false := decide_eq_false (by omega)
    have d1''' : decide (ec = 0) = false := decide_eq_false hec0
    have hin : (Try.prog.info? 25).map (·.size) = some (#[.int .i64 0, .int .i64 0, .int .u64 0, .slice none 0 0] : Array Value).size := by kernel_rfl
    have hone : (#[.int .i64 0, .int .i64 0, .int .u64 0, .slice none 0 0] : Array Value).all (·.oneCell') = true := by simp [Value.oneCell']
    have HXF := Lib.hid (HX5.out.setRow (Nat.le_refl _) #[.int .i64 0, .int .i64 0, .int .u64 0, .slice none 0 0])
    have HGF := Lib.hid (setRow_heap w5 w.heap.size _ #[.int .i64 0, .int .i64 0, .int .u64 0, .slice none 0 0] _ _ HR5.out)
    go_wp2_with (with_reducible refine wpList_store_all rfl 25 (.tmp 2) (.tmp 27) rfl w.heap.size _ #[.int .i64 0, .int .i64 0, .int .u64 0, .slice none 0 0] rfl rfl HR5.out hin tx_size14 hone ?_)
    refine bodyPost_ret (results_tx14 Try.results13 _ _ w.heap.size 25 _ (0, 0) rfl HGF.out hin) rfl ?_
    rw [HDEC.out]
    exact ⟨HXF.out, none, 0, 0, rfl, rfl, Nat.le_refl _, Rd.nil _ _⟩
end Go.Proofs.Ytnfgokbopndmgaa

/-
  Layer 14: what the code's own functions are to do; the statements' own comparison of orders; the first call. Conditions: none.
-/
namespace Go.Proofs.Ytnfgokbopndmgaa
open Go.RowKit
open Pol (co Sm)

structure TxSaid : Prop where
  enc : ∀ (k t : Int) (a n c : Nat) (m : List Nat) (A : Option Addr) (w : World), m.length = n → Rd w A m → n ≤ c → n ≤ 65536 → a < 18446744073709551616 →
    Calls Try.prog 10 #[.agg #[.int .i64 k, .int .i64 t, .int .u64 (a : Int), .slice A n c]] w (EncR ⟨k, t, a, m⟩ w)
  dec : ∀ (b : List Nat) (A : Option Addr) (n c : Nat) (w : World), b.length = n → Rd w A b → n ≤ c → n ≤ 65536 →
    Calls Try.prog 12 #[.slice A n c] w (DecR b w)

theorem tx_in14 {a b c d : Value} : (Try.prog.info? 25).map (·.size) = some (#[a, b, c, d] : Array Value).size := by kernel_rfl
theorem tx_in14x {a b c d : Value} : (Try.prog.info? 30).map (·.size) = some (#[a, b, c, d] : Array Value).size := by kernel_rfl
theorem load_tx14 {w : World} {g : Nat} {a b c d : Value} {t : TypeId} {fr : Nat × Nat} (hg : w.heap[g]? = some (.cells #[a, b, c, d] t fr)) : (Instr.loadAt 25 (.pointer (some ⟨g, 0, none⟩))).run Try.prog w = .ok (.agg #[a, b, c, d]) w := by
  simp only [Instr.loadAt, Instr.sureAddr, Sem.run_bind, Sem.run_pure, Result.andThen]
  exact run_loadVar_row w g t _ _ fr _ hg Try.underlying25 rfl tx_in14
theorem load_tx14x {w : World} {g : Nat} {a b c d : Value} {t : TypeId} {fr : Nat × Nat} (hg : w.heap[g]? = some (.cells #[a, b, c, d] t fr)) : (Instr.loadAt 30 (.pointer (some ⟨g, 0, none⟩))).run Try.prog w = .ok (.agg #[a, b, c, d]) w := by
  simp only [Instr.loadAt, Instr.sureAddr, Sem.run_bind, Sem.run_pure, Result.andThen]
  exact run_loadVar_row w g t _ _ fr _ hg Try.underlying30 rfl tx_in14x
def Cls14 (u w : World) : Prop := Ext u w
theorem Od.right_code {o : Od} (h : o.right) : o.code = 0 := if_pos h
theorem Od.right_bytes {o : Od} (h : o.right) : o.bytes = o.enc := if_pos h
/-- Whether two lists of bytes are one. -/
theorem same14 (l m : List Nat) (A B : Option Addr) (n n' ca cb : Nat) (w : World) (hn : l.length = n) (hn' : m.length = n') (ha : Rd w A l) (hb : Rd w B m) (hl : n ≤ 1048576) :
    Calls Try.prog 14 #[.slice A n ca, .slice B n' cb] w (Tells (.bool (decide (l = m))) w) := by
  subst hn hn'
  by_cases h : l = m
  · rw [decide_eq_true h]
    subst h
    exact same_tells l A B ca cb w ha hb hl
  · rw [decide_eq_false h]
    exact (same_no l m A B ca cb w ha hb hl h).mono fun _ _ h => h.tells
theorem Od.eq_iff {o p : Od} : o = p ↔ o.k = p.k ∧ o.t = p.t ∧ o.a = p.a ∧ o.m = p.m := by
  constructor
  · rintro rfl; exact ⟨rfl, rfl, rfl, rfl⟩
  · obtain ⟨k, t, a, m⟩ := o
    obtain ⟨k', t', a', m'⟩ := p
    rintro ⟨h1, h2, h3, h4⟩
    dsimp only at h1 h2 h3 h4
    subst h1 h2 h3 h4
    rfl
instance : DecidableEq Od := fun _ _ => decidable_of_iff _ Od.eq_iff.symm
set_option maxHeartbeats 1600000 in
theorem law14_same (k t k' t' : Int) (a n c a' n' c' : Nat) (m m' : List Nat) (A A' : Option Addr) (w : World) (hn : m.length = n) (hn' : m'.length = n') (hr : Rd w A m) (hr' : Rd w A' m') (hl : n ≤ 1048576) :
    Calls Try.prog 15 #[.agg #[.int .i64 k, .int .i64 t, .int .u64 (a : Int), .slice A n c], .agg #[.int .i64 k', .int .i64 t', .int .u64 (a' : Int), .slice A' n' c']] w (Tells (.bool (decide ((⟨k, t, a, m⟩ : Od) = ⟨k', t', a', m'⟩))) w) := by
  by_cases h1 : k = k'
  · subst h1
    by_cases h2 : t = t'
    · subst h2
      by_cases h3 : a = a'
      · subst h3
        have HX := Lib.hid (((Ext.refl w).alloc (.cells #[.int .i64 k, .int .i64 t, .int .u64 (a : Int), .slice A n c] 30)).alloc (.cells #[.int .i64 k, .int .i64 t, .int .u64 (a : Int), .slice A' n' c'] 25))
        have HS := Lib.hid (same14 m m' A A' n n' c c' _ hn hn' (hr.ext HX.out) (hr'.ext HX.out) hl)
        rw [show decide ((⟨k, t, a, m⟩ : Od) = ⟨k, t, a, m'⟩) = decide (m = m') from decide_eq_decide.2 ⟨fun h => by injection h, fun h => by rw [h]⟩]
        clear hr hr' hl
        generalize decide (m = m') = q at *
        go_enter Try.func15, Try.ntmps15
        go_wp2_with fail
        refine HS.out.mono ?_
        rintro e w1 ⟨rfl, hx⟩
        have HX1 := Lib.hid (HX.out.trans hx)
        clear hx
        go_wp2
        go_ret
        exact ⟨rfl, HX1.out⟩
      · rw [decide_eq_false (show ¬ ((⟨k, t, a, m⟩ : Od) = ⟨k, t, a', m'⟩) from fun h => h3 (by injection h))]
        have t3 : ((a : Int) == (a' : Int)) = false := by simp; omega
        clear hr hr' hl
        go_enter Try.func15, Try.ntmps15
        go_wp2
        go_ret
        exact ⟨rfl, ((Ext.refl w).alloc _).alloc _⟩
    · rw [decide_eq_false (show ¬ ((⟨k, t, a, m⟩ : Od) = ⟨k, t', a', m'⟩) from fun h => h2 (by injection h))]
      have t3 : (t == t') = false := by simp; omega
      clear hr hr' hl
      go_enter Try.func15, Try.ntmps15
      go_wp2
      go_ret
      exact ⟨rfl, ((Ext.refl w).alloc _).alloc _⟩
  · rw [decide_eq_false (show ¬ ((⟨k, t, a, m⟩ : Od) = ⟨k', t', a', m'⟩) from fun h => h1 (by injection h))]
    have t3 : (k == k') = false := by simp; omega
    clear hr hr' hl
    go_enter Try.func15, Try.ntmps15
    go_wp2
    go_ret
    exact ⟨rfl, ((Ext.refl w).alloc _).alloc _⟩
theorem ex14_right : Od.right ⟨1, 2, 300, []⟩ := by decide
theorem ex14_bytes : Od.bytes ⟨1, 2, 300, []⟩ = [1, 2, 172, 2, 0] := by
  have e : vn 300 = [172, 2] := by rw [vn_ge (by decide), vn_lt (by decide)]
  unfold Od.bytes
  rw [if_pos ex14_right]
  unfold Od.enc vt
  dsimp only
  rw [e]
  rw [show vn (Int.toNat 1) = [1] from vn_lt (by decide), show vn (Int.toNat 2) = [2] from vn_lt (by decide), show vn ([] : List Nat).length = [0] from vn_lt (by decide)]
  rfl
theorem ex14_sm : Sm [1, 2, 172, 2, 0] := Sm.cons (by decide) (Sm.cons (by decide) (Sm.cons (by decide) (Sm.cons (by decide) (Sm.cons (by decide) Sm.nil))))
theorem ex14_dec : dec14 [1, 2, 172, 2, 0] = (0, ⟨1, 2, 300, []⟩) := by
  have h := dec_enc ex14_right (by decide)
  rwa [show Od.enc ⟨1, 2, 300, []⟩ = [1, 2, 172, 2, 0] from by have := ex14_bytes; unfold Od.bytes at this; rwa [if_pos ex14_right] at this] at h
set_option maxHeartbeats 1600000 in
theorem awake14 (C : TxSaid) (w : World) : Calls Try.prog 9 #[] w (Holds w) := by
  have HE := Lib.hid (C.enc 1 2 300 0 0 [] none w rfl (Rd.nil _ _) (Nat.le_refl _) (by decide) (by decide))
  have HD := Lib.hid C.dec
  clear C
  go_enter Try.func9, Try.ntmps9
  go_wp2_with fail
  refine HE.out.mono ?_
  rintro e w1 ⟨hx1, B1, n1, c1, rfl, hn1, hc1, hr1⟩
  rw [ex14_bytes] at hn1 hr1
  rw [show Od.code ⟨1, 2, 300, []⟩ = 0 from if_pos ex14_right]
  have HD1 := Lib.hid (HD.out _ B1 n1 c1 w1 hn1 hr1 hc1 (by rw [← hn1]; decide))
  have HX1 := Lib.hid hx1
  have HR1 := Lib.hid hr1
  have HN1 := Lib.hid hn1
  clear hx1 hr1 hn1 HD HE
  go_wp2_with fail
  refine HD1.out.mono ?_
  rintro e w2 ⟨hx2, B2, n2, c2, rfl, hn2, hc2, hr2⟩
  simp only [ex14_dec]
  have HX2 := Lib.hid hx2
  have q1 := hx2.alloc (.cells #[.int .i64 1, .int .i64 2, .int .u64 300, .slice B2 n2 c2] 30)
  have q2 := q1.alloc (.cells #[.int .u8 1, .int .u8 2, .int .u8 172, .int .u8 2, .int .u8 0] 5)
  have HX3 := Lib.hid (HX1.out.trans q2)
  have HS := Lib.hid (same14 [1, 2, 172, 2, 0] [1, 2, 172, 2, 0] B1 (some ⟨w2.heap.size + 1, 0, none⟩) n1 5 c1 5 _ HN1.out rfl (HR1.out.ext q2) (rd_lit_next w2 _ [1, 2, 172, 2, 0] ex14_sm) (by rw [← HN1.out]; decide))
  have b2 := cell_of_row _ w2.heap.size 2 _ _ _ (heap_alloc_new w2 (.cells #[.int .i64 1, .int .i64 2, .int .u64 300, .slice B2 n2 c2] 30))
  have b3 := ((Ext.refl (w2.alloc (.cells #[.int .i64 1, .int .i64 2, .int .u64 300, .slice B2 n2 c2] 30))).alloc (.cells #[.int .u8 1, .int .u8 2, .int .u8 172, .int .u8 2, .int .u8 0] 5)).at b2
  have HB3 := Lib.hid (show World.cell? _ ⟨w2.heap.size, 2, none⟩ = some (.int .u64 300) from b3)
  rw [decide_eq_true (rfl : ([1, 2, 172, 2, 0] : List Nat) = [1, 2, 172, 2, 0])] at HS
  clear hx2 hr2 q1 q2 b2 b3
  go_wp2_with fail
  refine HS.out.mono ?_
  rintro e w3 ⟨rfl, hx3⟩
  have c3 := hx3.at HB3.out
  have HX4 := Lib.hid (HX3.out.trans hx3)
  clear hx3
  go_wp2
  go_ret
  exact ⟨rfl, HX4.out⟩
end Go.Proofs.Ytnfgokbopndmgaa

/-
  What the document's own Move of layer 13 does. Conditions: a total of 64 bits.
-/
namespace Go.Proofs.Ytnfgokbopndmgaa
open Go.RowKit
open Pol (co)

theorem RG.drewN {Y : Nat → Prop} {σ m : Nat} {G : Gb} {w : World} {s : Lgr} (h : RG Y σ G w m s) (q : Nat) : RG Y σ G (w.drewN q) m s := h.stay fun _ _ => rfl
set_option maxHeartbeats 1600000 in
theorem ref13_move {Y : Nat → Prop} {σ m M x : Nat} {G : Gb} {s : Lgr} (w : World) (h : RG Y σ G w m s) (hk : s.ok m M) (hM : M < 18446744073709551616) (a b : Int) (hx : x < 18446744073709551616) :
    Calls Try.prog 42 #[.pointer (some ⟨σ, 0, none⟩), .int .i64 a, .int .i64 b, .int .u64 (x : Int)] w
      (LedP Y σ m G w (if (0 ≤ a ∧ a < (m : Int)) ∧ 0 ≤ b ∧ b < (m : Int) then s.move a.toNat b.toNat x else (1, s))) := by
  have HIA := Lib.hid (ref13_is w h a)
  have HIB := Lib.hid (ref13_is w h b)
  have HR := Lib.hid h
  have c0 := h.c0
  by_cases ha : 0 ≤ a ∧ a < (m : Int)
  · by_cases hb : 0 ≤ b ∧ b < (m : Int)
    · rw [if_pos ⟨ha, hb⟩]
      obtain ⟨i, rfl⟩ : ∃ i : Nat, (i : Int) = a := ⟨a.toNat, by omega⟩
      obtain ⟨j, rfl⟩ : ∃ j : Nat, (j : Int) = b := ⟨b.toNat, by omega⟩
      rw [decide_eq_true ha] at HIA
      rw [decide_eq_true hb] at HIB
      rw [Int.toNat_natCast, Int.toNat_natCast]
      have hi : i < m := by omega
      have hj : j < m := by omega
      have ci := h.rb.at hi
      have zi := h.rb.free i
      obtain ⟨v, hv⟩ : ∃ v, co s.b i = v := ⟨_, rfl⟩
      rw [hv] at ci
      have HT := Lib.hid (show s.move i j x = if v < x then (9, s) else (0, { s with b := (s.b.set i (v - x)).set j (co (s.b.set i (v - x)) j + x) }) by rw [← hv]; rfl)
      have hiI : (i : Int) < (m : Int) := by omega
      have hi0 : (0 : Int) ≤ (i : Int) := by omega
      have hjI : (j : Int) < (m : Int) := by omega
      have hj0 : (0 : Int) ≤ (j : Int) := by omega
      by_cases h1 : v < x
      · rw [HT.out, if_pos h1]
        have d1 : decide ((v : Int) < (x : Int)) = true := decide_eq_true (by omega)
        have d2 : decide (v < x) = true := decide_eq_true h1
        clear h hk ha hb hv
        obtain ⟨gb, gn, gf, gd, cb, cn', cf, cd⟩ := G
        go_enter Try.func42, Try.ntmps42
        go_wp2_with fail
        refine HIA.out.mono ?_
        rintro e w1 ⟨rfl, rfl⟩
        go_wp2_with fail
        refine HIB.out.mono ?_
        rintro e w1 ⟨rfl, rfl⟩
        go_wp2
        go_ret
        exact ⟨rfl, Only.refl _ _, HR.out⟩
      · rw [HT.out, if_neg h1]
        have d1 : decide ((v : Int) < (x : Int)) = false := decide_eq_false (by omega)
        have d2 : decide (v < x) = false := decide_eq_false h1
        have hle := hk.le i
        rw [hv] at hle
        have HB := Lib.hid (fun (c : Nat) (hc : co (s.b.set i (v - x)) j = c) => show c + x < 18446744073709551616 from by
          have h1 := sum_set13 s.b i (v - x) (by rw [hk.lb]; exact hi)
          have h2 := co_le_sum13 (s.b.set i (v - x)) j
          have h3 := hk.sum
          rw [hv] at h1
          omega)
        obtain ⟨y, hy⟩ : ∃ y, v - x = y := ⟨_, rfl⟩
        have e1 : IntKind.u64.wrap ((v : Int) - (x : Int)) = (y : Int) := by rw [IntKind.wrap_u64]; omega
        have hys : y < 18446744073709551616 := by omega
        rw [hy] at HB ⊢
        have H1 := Lib.hid (fun q => (h.drewN q).set_b (i := i) (x := y) hys)
        clear h hk ha hb hv hle hy HT
        obtain ⟨gb, gn, gf, gd, cb, cn', cf, cd⟩ := G
        go_enter Try.func42, Try.ntmps42
        go_wp2_with fail
        refine HIA.out.mono ?_
        rintro e w1 ⟨rfl, rfl⟩
        go_wp2_with fail
        refine HIB.out.mono ?_
        rintro e w1 ⟨rfl, rfl⟩
        go_wp2
        refine wp_region_quiet_tail 15 (fun w' => ∃ q, w' = w.drewN q) (by kernel_rfl) (by kernel_rfl) ⟨1, rfl⟩ ?_
        simp only [List.take_succ_cons, List.take_zero, List.drop_succ_cons, List.drop_zero]
        repeat (quiet_step (fail))
        refine wpQuiet_nil ?_
        rintro _ ⟨q, rfl⟩
        go_wp2
        obtain ⟨u, hu⟩ : ∃ u, co (s.b.set i y) j = u := ⟨_, rfl⟩
        have hux := HB.out u hu
        have H2 := H1.out q
        have c0' := H2.c0
        have cj := H2.rb.at hj
        have zj := H2.rb.free j
        change World.cell? _ _ = some (.int .u64 ((co (s.b.set i y) j : Nat) : Int)) at cj
        rw [hu] at cj
        obtain ⟨z, hz⟩ : ∃ z, u + x = z := ⟨_, rfl⟩
        have HZ := Lib.hid (show co (s.b.set i y) j + x = z by rw [hu]; exact hz)
        have e2 : IntKind.u64.wrap ((u : Int) + (x : Int)) = (z : Int) := by rw [IntKind.wrap_u64]; omega
        rw [hz] at hux
        have HO := Lib.hid (show Only (Gb.has ⟨gb, gn, gf, gd, cb, cn', cf, cd⟩ σ) w ((w.drewN q).setCell ⟨gb, i, none⟩ (.int .u64 (y : Int))) from ((Only.refl _ w).drewN q).trans (Only.of_grown (grown_set _ gb i _) (fun k e => by injection e with e; exact .inr (.inl e.symm))))
        have HH2 := Lib.hid (fun q2 => (H2.drewN q2).set_b (i := j) (x := z) hux)
        clear H2 hu H1 HB hz
        generalize ((w.drewN q).setCell ⟨gb, i, none⟩ (.int .u64 (y : Int))) = wa at *
        refine wp_region_quiet_tail 15 (fun w' => ∃ q, w' = wa.drewN q) (by kernel_rfl) (by kernel_rfl) ⟨1, rfl⟩ ?_
        simp only [List.take_succ_cons, List.take_zero, List.drop_succ_cons, List.drop_zero]
        repeat (quiet_step (fail))
        refine wpQuiet_nil ?_
        rintro _ ⟨q2, rfl⟩
        go_wp2
        go_ret
        exact ⟨rfl, HO.out.trans (((Only.refl _ wa).drewN q2).trans (Only.of_grown (grown_set _ gb j _) (fun k e => by injection e with e; exact .inr (.inl e.symm)))), by rw [HZ.out]; exact HH2.out q2⟩
    · rw [if_neg (by omega)]
      rw [decide_eq_true ha] at HIA
      rw [decide_eq_false hb] at HIB
      clear h hk ha hb
      go_enter Try.func42, Try.ntmps42
      go_wp2_with fail
      refine HIA.out.mono ?_
      rintro e w1 ⟨rfl, rfl⟩
      go_wp2_with fail
      refine HIB.out.mono ?_
      rintro e w1 ⟨rfl, rfl⟩
      go_wp2
      go_ret
      exact ⟨rfl, Only.refl _ _, HR.out⟩
  · rw [if_neg (by omega)]
    rw [decide_eq_false ha] at HIA
    clear h hk ha HIB
    go_enter Try.func42, Try.ntmps42
    go_wp2_with fail
    refine HIA.out.mono ?_
    rintro e w1 ⟨rfl, rfl⟩
    go_wp2
    go_ret
    exact ⟨rfl, Only.refl _ _, HR.out⟩
end Go.Proofs.Ytnfgokbopndmgaa

/-
  The document's own ledger of layer 13 beside other blocks; its New of a list that may be. Conditions: none.
-/
namespace Go.Proofs.Ytnfgokbopndmgaa
open Go.RowKit
open Pol (co)

theorem RG.ext {Y : Nat → Prop} {σ m : Nat} {G : Gb} {w w' : World} {s : Lgr} (h : RG Y σ G w m s) (hx : Ext w w') : RG Y σ G w' m s :=
  ⟨(hx.below.block σ (row_lt h.head)).trans h.head, h.rb.ext hx, h.rn.ext hx, h.rf.ext hx, h.rd.ext hx, h.t, h.yσ, h.yb, h.yn, h.yf, h.yd, h.far⟩
theorem RG.only {X Y : Nat → Prop} {τ m : Nat} {G : Gb} {w w' : World} {s : Lgr} (h : RG Y τ G w m s) (ho : Only X w w') (hd : ∀ b, X b → ¬ G.has τ b) : RG Y τ G w' m s :=
  ⟨(ho.block τ (row_lt h.head) (fun e => hd _ e (.inl rfl))).trans h.head, h.rb.stay (ho.block _ h.rb.lt (fun e => hd _ e (.inr (.inl rfl)))), h.rn.stay (ho.block _ h.rn.lt (fun e => hd _ e (.inr (.inr (.inl rfl))))),
    h.rf.stay (ho.block _ h.rf.lt (fun e => hd _ e (.inr (.inr (.inr (.inl rfl)))))), h.rd.stay (ho.block _ h.rd.lt (fun e => hd _ e (.inr (.inr (.inr (.inr rfl)))))), h.t, h.yσ, h.yb, h.yn, h.yf, h.yd, h.far⟩
theorem RG.has {Y : Nat → Prop} {τ m b : Nat} {G : Gb} {w : World} {s : Lgr} (h : RG Y τ G w m s) (hb : G.has τ b) : Y b := by
  rcases hb with rfl | rfl | rfl | rfl | rfl
  · exact h.yσ
  · exact h.yb
  · exact h.yn
  · exact h.yf
  · exact h.yd
/-- The document's New of a list that may be. -/
theorem ref13_new_ok {l : List Nat} {A : Option Addr} {n c : Nat} (w : World) (hn : l.length = n) (hr : URd w A l) (h0 : newc l = 0) : Calls Try.prog 17 #[.slice A n c] w (fun e w' => Ext w w' ∧
    ∃ τ G, e = .returned (.tuple #[.pointer (some ⟨τ, 0, none⟩), .int .i64 0]) ∧ RG (Fresh w w') τ G w' n (Lgr.new l)) := by
  refine (ref13_new l A n c w hn hr).mono ?_
  rintro e w' ⟨hx, (⟨_, τ, G, h1, h2⟩ | ⟨h, _⟩)⟩
  · exact ⟨hx, τ, G, h1, by rw [hn] at h2; exact h2⟩
  · exact absurd h0 h
theorem ref13_new_no {l : List Nat} {A : Option Addr} {n c : Nat} (w : World) (hn : l.length = n) (hr : URd w A l) (h0 : newc l ≠ 0) : Calls Try.prog 17 #[.slice A n c] w (fun e w' => Ext w w' ∧
    e = .returned (.tuple #[.pointer none, .int .i64 ((newc l : Nat) : Int)])) := by
  refine (ref13_new l A n c w hn hr).mono ?_
  rintro e w' ⟨hx, (⟨h, _⟩ | ⟨_, h⟩)⟩
  · exact absurd h h0
  · exact ⟨hx, h⟩
end Go.Proofs.Ytnfgokbopndmgaa

/-
  What the document's own Run of layer 14 does. Conditions: a total of 64 bits.
-/
namespace Go.Proofs.Ytnfgokbopndmgaa
open Go.RowKit
open Pol (co Sm)

/-- What comes of an order that is done. -/
def Lgr.run (s : Lgr) (m : Nat) (who : Int) (o : Od) : Nat × Lgr :=
  if o.right then (if o.k = 1 then (if Inn m who ∧ Inn m o.t then s.move who.toNat o.t.toNat o.a else (1, s)) else if Inn m who then (0, s) else (1, s)) else (1, s)
set_option maxHeartbeats 3200000 in
theorem ref14_run {Y : Nat → Prop} {τ mm M : Nat} {G : Gb} {s : Lgr} (who k t : Int) (a n c : Nat) (m : List Nat) (A : Option Addr) (w : World) (h : RG Y τ G w mm s) (hk : s.ok mm M) (hM : M < 18446744073709551616) (hn : m.length = n) (ha : a < 18446744073709551616) :
    Calls Try.prog 19 #[.pointer (some ⟨τ, 0, none⟩), .int .i64 who, .agg #[.int .i64 k, .int .i64 t, .int .u64 (a : Int), .slice A n c]] w (LedP Y τ mm G w (s.run mm who ⟨k, t, a, m⟩)) := by
  have HRI := Lib.hid (fun u => ref14_right k t a n c A u)
  rw [right_is hn] at HRI
  have hx0 := (Ext.refl w).alloc (.cells #[.int .i64 k, .int .i64 t, .int .u64 (a : Int), .slice A n c] 25)
  have HX0 := Lib.hid hx0
  have HG := Lib.hid h
  have b0 := cell_of_row _ w.heap.size 0 _ _ _ (heap_alloc_new w (.cells #[.int .i64 k, .int .i64 t, .int .u64 (a : Int), .slice A n c] 25))
  have b1 := cell_of_row _ w.heap.size 1 _ _ _ (heap_alloc_new w (.cells #[.int .i64 k, .int .i64 t, .int .u64 (a : Int), .slice A n c] 25))
  have b2 := cell_of_row _ w.heap.size 2 _ _ _ (heap_alloc_new w (.cells #[.int .i64 k, .int .i64 t, .int .u64 (a : Int), .slice A n c] 25))
  simp only [List.getElem?_toArray, List.getElem?_cons_zero, List.getElem?_cons_succ] at b0 b1 b2
  have HB := Lib.hid (And.intro b0 (And.intro b1 b2))
  clear b0 b1 b2 hn
  by_cases ho : Od.right ⟨k, t, a, m⟩
  · rw [decide_eq_true ho] at HRI
    by_cases h1 : k = 1
    · have HE := Lib.hid (show s.run mm who ⟨k, t, a, m⟩ = if Inn mm who ∧ Inn mm t then s.move who.toNat t.toNat a else (1, s) from by unfold Lgr.run; rw [if_pos ho]; dsimp only; rw [if_pos h1])
      subst h1
      have HMV := Lib.hid (fun u (hu : Ext w u) => show Calls Try.prog 42 #[.pointer (some ⟨τ, 0, none⟩), .int .i64 who, .int .i64 t, .int .u64 (a : Int)] u (LedP Y τ mm G u (s.run mm who ⟨1, t, a, m⟩)) from by
        rw [HE.out]
        exact ref13_move u (h.ext hu) hk hM who t ha)
      clear h hk ho hx0 HE
      generalize s.run mm who ⟨1, t, a, m⟩ = r at HMV ⊢
      go_enter Try.func19, Try.ntmps19
      go_wp2_with fail
      refine (HRI.out _).mono ?_
      rintro e w1 ⟨rfl, hx1⟩
      obtain ⟨q0, q1, q2⟩ := HB.out
      have c0 := hx1.at q0
      have c1 := hx1.at q1
      have c2 := hx1.at q2
      have HX1 := Lib.hid (HX0.out.trans hx1)
      clear hx1 q0 q1 q2
      go_wp2_with fail
      refine (HMV.out _ HX1.out).mono ?_
      rintro e w2 ⟨rfl, ho2, hg2⟩
      have HO2 := Lib.hid ((Only.of_ext HX1.out).trans ho2)
      have HG2 := Lib.hid hg2
      clear ho2 hg2
      go_wp2
      go_ret
      exact ⟨rfl, HO2.out, HG2.out⟩
    · have d1 : (k == 1) = false := by simp; omega
      have d1' : decide (k = 1) = false := decide_eq_false h1
      have HIS := Lib.hid (fun u (hu : Ext w u) => ref13_is u (h.ext hu) who)
      have HE := Lib.hid (show s.run mm who ⟨k, t, a, m⟩ = if Inn mm who then (0, s) else (1, s) from by unfold Lgr.run; rw [if_pos ho]; dsimp only; rw [if_neg h1])
      clear hk ho hx0
      by_cases hin : Inn mm who
      · rw [HE.out, if_pos hin]
        have hd : decide (0 ≤ who ∧ who < (mm : Int)) = true := decide_eq_true hin
        rw [hd] at HIS
        clear h hin HE hd
        go_enter Try.func19, Try.ntmps19
        go_wp2_with fail
        refine (HRI.out _).mono ?_
        rintro e w1 ⟨rfl, hx1⟩
        obtain ⟨q0, q1, q2⟩ := HB.out
        have c0 := hx1.at q0
        have HX1 := Lib.hid (HX0.out.trans hx1)
        clear hx1 q0 q1 q2
        go_wp2_with fail
        refine (HIS.out _ HX1.out).mono ?_
        rintro e w2 ⟨rfl, rfl⟩
        go_wp2
        go_ret
        exact ⟨rfl, Only.of_ext HX1.out, HG.out.ext HX1.out⟩
      · rw [HE.out, if_neg hin]
        have hd : decide (0 ≤ who ∧ who < (mm : Int)) = false := decide_eq_false hin
        rw [hd] at HIS
        clear h hin HE hd
        go_enter Try.func19, Try.ntmps19
        go_wp2_with fail
        refine (HRI.out _).mono ?_
        rintro e w1 ⟨rfl, hx1⟩
        obtain ⟨q0, q1, q2⟩ := HB.out
        have c0 := hx1.at q0
        have HX1 := Lib.hid (HX0.out.trans hx1)
        clear hx1 q0 q1 q2
        go_wp2_with fail
        refine (HIS.out _ HX1.out).mono ?_
        rintro e w2 ⟨rfl, rfl⟩
        go_wp2
        go_ret
        exact ⟨rfl, Only.of_ext HX1.out, HG.out.ext HX1.out⟩
  · rw [decide_eq_false ho] at HRI
    rw [show s.run mm who ⟨k, t, a, m⟩ = (1, s) from by unfold Lgr.run; rw [if_neg ho]]
    clear h hk ho hx0
    go_enter Try.func19, Try.ntmps19
    go_wp2_with fail
    refine (HRI.out _).mono ?_
    rintro e w1 ⟨rfl, hx1⟩
    have HX1 := Lib.hid (HX0.out.trans hx1)
    clear hx1
    go_wp2
    go_ret
    exact ⟨rfl, Only.of_ext HX1.out, HG.out.ext HX1.out⟩
end Go.Proofs.Ytnfgokbopndmgaa

/-
  Layer 14: what a ledger's calls, and an order that is done, are to leave. Conditions: no more than 6 accounts, a total of no more than 2^60.
-/
namespace Go.Proofs.Ytnfgokbopndmgaa
open Go.RowKit
open Pol (co Sm)

structure LedQ (I : LgrP) : Prop where
  keeps : Keeps I
  new : ∀ (l : List Nat) (A : Option Addr) (n c : Nat) (w : World), l.length = n → URd w A l → Calls Try.prog 16 #[.slice A n c] w (fun e w' => Ext w w' ∧
    ((newc l = 0 ∧ ∃ σ X, e = .returned (.tuple #[.pointer (some ⟨σ, 0, none⟩), .int .i64 0]) ∧ Lq I X σ w' n (Lgr.new l) l.sum w.heap.size) ∨ (newc l ≠ 0 ∧ e = .returned (.tuple #[.pointer none, .int .i64 ((newc l : Nat) : Int)]))))
  run : ∀ {X : Nat → Prop} {σ m M base : Nat} {s : Lgr} (who k t : Int) (a n c : Nat) (l : List Nat) (A : Option Addr) (w : World), Lq I X σ w m s M base → l.length = n → Rd w A l → n ≤ c → n ≤ 65536 → a < 18446744073709551616 →
    Calls Try.prog 18 #[.pointer (some ⟨σ, 0, none⟩), .int .i64 who, .agg #[.int .i64 k, .int .i64 t, .int .u64 (a : Int), .slice A n c]] w (LqP I X σ m M base w (s.run m who ⟨k, t, a, l⟩))
  balance : ∀ {X : Nat → Prop} {σ m M base : Nat} {s : Lgr} (who : Int) (w : World), Lq I X σ w m s M base →
    Calls Try.prog 20 #[.pointer (some ⟨σ, 0, none⟩), .int .i64 who] w (Tells (.int .u64 (((if Inn m who then co s.b who.toNat else 0) : Nat) : Int)) w)
  nonce : ∀ {X : Nat → Prop} {σ m M base : Nat} {s : Lgr} (who : Int) (w : World), Lq I X σ w m s M base →
    Calls Try.prog 23 #[.pointer (some ⟨σ, 0, none⟩), .int .i64 who] w (Tells (.int .u64 (((if Inn m who then co s.n who.toNat else 0) : Nat) : Int)) w)
  fees : ∀ {X : Nat → Prop} {σ m M base : Nat} {s : Lgr} (w : World), Lq I X σ w m s M base → Calls Try.prog 24 #[.pointer (some ⟨σ, 0, none⟩)] w (Tells (.int .u64 ((s.f.sum : Nat) : Int)) w)
  deposits : ∀ {X : Nat → Prop} {σ m M base : Nat} {s : Lgr} (w : World), Lq I X σ w m s M base → Calls Try.prog 25 #[.pointer (some ⟨σ, 0, none⟩)] w (Tells (.int .u64 ((s.d.sum : Nat) : Int)) w)
  treasury : ∀ {X : Nat → Prop} {σ m M base : Nat} {s : Lgr} (w : World), Lq I X σ w m s M base → Calls Try.prog 26 #[.pointer (some ⟨σ, 0, none⟩)] w (Tells (.int .u64 ((s.t : Nat) : Int)) w)
  total : ∀ {X : Nat → Prop} {σ m M base : Nat} {s : Lgr} (w : World), Lq I X σ w m s M base → Calls Try.prog 21 #[.pointer (some ⟨σ, 0, none⟩)] w (Tells (.int .u64 (M : Int)) w)
theorem Lgr.run_good {s : Lgr} {m M : Nat} {who : Int} {o : Od} (h : Good s m M) : Good (s.run m who o).2 m M := by
  unfold Lgr.run
  split
  · split
    · split
      · rename_i hin
        exact h.move hin.1.lt hin.2.lt
      · exact h
    · split
      · exact h
      · exact h
  · exact h
end Go.Proofs.Ytnfgokbopndmgaa

/-
  TxOthers over TxSaid and the ledger's calls. Conditions: none.
-/
namespace Go.Proofs.Ytnfgokbopndmgaa
open Go.RowKit
open Pol (co Sm)

/-- What an order leaves of a ledger that is new. -/
theorem oth14 {l : List Nat} {who : Int} {o : Od} {r : Nat × Lgr} (hr : (Lgr.new l).run l.length who o = r) :
    r.2.n = List.replicate l.length 0 ∧ r.2.f.sum = 0 ∧ r.2.d.sum = 0 ∧ r.2.t = 0 ∧ ((r.1 ≠ 0 ∨ o.k ≠ 1) → r.2.b = l) ∧
    (r.1 = 0 → o.k = 1 → ∃ i p : Nat, (i : Int) = who ∧ (p : Int) = o.t ∧ i < l.length ∧ p < l.length ∧ o.a ≤ co l i ∧ ∀ j, co r.2.b j = if j = i then (if j = p then co l j else co l j - o.a) else if j = p then co l j + o.a else co l j) := by
  have hz := sum_zeros13 l.length
  have same : ∀ {e : Nat}, r = (e, Lgr.new l) → (o.k = 1 → e ≠ 0) → r.2.n = List.replicate l.length 0 ∧ r.2.f.sum = 0 ∧ r.2.d.sum = 0 ∧ r.2.t = 0 ∧ ((r.1 ≠ 0 ∨ o.k ≠ 1) → r.2.b = l) ∧
      (r.1 = 0 → o.k = 1 → ∃ i p : Nat, (i : Int) = who ∧ (p : Int) = o.t ∧ i < l.length ∧ p < l.length ∧ o.a ≤ co l i ∧ ∀ j, co r.2.b j = if j = i then (if j = p then co l j else co l j - o.a) else if j = p then co l j + o.a else co l j) := fun h he => by
    subst h
    exact ⟨rfl, hz, hz, rfl, fun _ => rfl, fun h1 h2 => absurd h1 (he h2)⟩
  unfold Lgr.run at hr
  by_cases h1 : o.right
  · rw [if_pos h1] at hr
    by_cases h2 : o.k = 1
    · rw [if_pos h2] at hr
      by_cases h3 : Inn l.length who ∧ Inn l.length o.t
      · rw [if_pos h3] at hr
        obtain ⟨⟨a1, a2⟩, b1, b2⟩ := h3
        unfold Lgr.move at hr
        have eb : (Lgr.new l).b = l := rfl
        rw [eb] at hr
        by_cases h4 : co l who.toNat < o.a
        · rw [if_pos h4] at hr
          exact same hr.symm (fun _ => by decide)
        · rw [if_neg h4] at hr
          subst hr
          refine ⟨rfl, hz, hz, rfl, fun h => h.elim (fun h => absurd rfl h) (fun h => absurd h2 h), fun _ _ => ⟨who.toNat, o.t.toNat, by omega, by omega, by omega, by omega, by omega, fun j => ?_⟩⟩
          show co ((l.set who.toNat _).set o.t.toNat _) j = _
          rw [co_set13, co_set13, co_set13]
          simp only [List.length_set]
          have l1 : who.toNat < l.length := by omega
          have l2 : o.t.toNat < l.length := by omega
          by_cases e1 : j = who.toNat
          · by_cases e2 : j = o.t.toNat
            · rw [if_pos ⟨e2.symm, l2⟩, if_pos e1, if_pos e2, if_pos ⟨by omega, l1⟩, e1]
              omega
            · rw [if_neg (fun h => e2 h.1.symm), if_pos ⟨e1.symm, l1⟩, if_pos e1, if_neg e2, e1]
          · by_cases e2 : j = o.t.toNat
            · rw [if_pos ⟨e2.symm, l2⟩, if_neg e1, if_pos e2, if_neg (fun h => e1 (by omega)), e2]
            · rw [if_neg (fun h => e2 h.1.symm), if_neg (fun h => e1 h.1.symm), if_neg e1, if_neg e2]
      · rw [if_neg h3] at hr
        exact same hr.symm (fun _ => by decide)
    · rw [if_neg h2] at hr
      by_cases h3 : Inn l.length who
      · rw [if_pos h3] at hr
        exact same hr.symm (fun h => absurd h h2)
      · rw [if_neg h3] at hr
        exact same hr.symm (fun h => absurd h h2)
  · rw [if_neg h1] at hr
    exact same hr.symm (fun _ => by decide)
set_option maxHeartbeats 6400000 in
set_option maxRecDepth 100000 in
theorem others14_walk {I : LgrP} (C : TxSaid) (L : LedQ I) (l : List Nat) (A : Option Addr) (n c : Nat) (who k t : Int) (a nm cm : Nat) (mm : List Nat) (Bm : Option Addr) (w : World) (hn : l.length = n) (hr : URd w A l) (hnm : mm.length = nm) (hrm : Rd w Bm mm) (hcm : nm ≤ cm) (ha : a < 18446744073709551616) :
    Calls Try.prog 6 #[.slice A n c, .int .i64 who, .agg #[.int .i64 k, .int .i64 t, .int .u64 (a : Int), .slice Bm nm cm]] w (Holds w) := by
  have HL := Lib.hid L
  have HAW := Lib.hid (fun u => awake14 C u)
  have HR := Lib.hid hr
  have HN := Lib.hid hn
  have HNM := Lib.hid hnm
  have HRM := Lib.hid hrm
  have HX0 := Lib.hid ((Ext.refl w).alloc (.cells #[.int .i64 k, .int .i64 t, .int .u64 (a : Int), .slice Bm nm cm] 25))
  have HG := Lib.hid (heap_alloc_new w (.cells #[.int .i64 k, .int .i64 t, .int .u64 (a : Int), .slice Bm nm cm] 25))
  have HB := Lib.hid (show World.cell? _ ⟨w.heap.size, 3, none⟩ = some (.slice Bm nm cm) from cell_of_row _ w.heap.size 3 _ _ _ HG.out)
  clear C L hr hn hnm hrm
  by_cases h1 : 20 < n
  · have d1 : decide ((n : Int) > 20) = true := decide_eq_true (by omega)
    have d1' : decide (20 < (n : Int)) = true := decide_eq_true (by omega)
    go_enter Try.func6, Try.ntmps6
    go_wp2_with fail
    refine (HAW.out _).mono ?_
    rintro e w1 ⟨rfl, hx1⟩
    have c3 := hx1.at HB.out
    have HX1 := Lib.hid hx1
    clear hx1
    go_wp2_with fail
    refine (HAW.out w1).mono ?_
    rintro e w2 ⟨rfl, hx2⟩
    have HX2 := Lib.hid (HX0.out.trans (HX1.out.trans hx2))
    clear hx2
    go_wp2
    go_ret
    exact ⟨rfl, HX2.out⟩
  have d1 : decide ((n : Int) > 20) = false := decide_eq_false (by omega)
  have d1' : decide (20 < (n : Int)) = false := decide_eq_false (by omega)
  by_cases h2 : 100 < nm
  · have d2 : decide ((nm : Int) > 100) = true := decide_eq_true (by omega)
    have d2' : decide (100 < (nm : Int)) = true := decide_eq_true (by omega)
    go_enter Try.func6, Try.ntmps6
    go_wp2_with fail
    refine (HAW.out _).mono ?_
    rintro e w1 ⟨rfl, hx1⟩
    have c3 := hx1.at HB.out
    have HX1 := Lib.hid hx1
    clear hx1
    go_wp2_with fail
    refine (HAW.out w1).mono ?_
    rintro e w2 ⟨rfl, hx2⟩
    have HX2 := Lib.hid (HX0.out.trans (HX1.out.trans hx2))
    clear hx2
    go_wp2
    go_ret
    exact ⟨rfl, HX2.out⟩
  have d2 : decide ((nm : Int) > 100) = false := decide_eq_false (by omega)
  have d2' : decide (100 < (nm : Int)) = false := decide_eq_false (by omega)
  go_enter Try.func6, Try.ntmps6
  go_wp2_with fail
  refine (HAW.out _).mono ?_
  rintro e w1 ⟨rfl, hx1⟩
  have c3 := hx1.at HB.out
  have HX1 := Lib.hid hx1
  clear hx1
  go_wp2_with fail
  refine (HL.out.new l A n c w1 HN.out (HR.out.ext (HX0.out.trans HX1.out))).mono ?_
  rintro e w2 ⟨hx2, (⟨h0, σ, X, rfl, hq2⟩ | ⟨h0, rfl⟩)⟩
  case inr =>
    have HX2 := Lib.hid (HX0.out.trans (HX1.out.trans hx2))
    obtain ⟨cc, hcc⟩ : ∃ cc, newc l = cc := ⟨_, rfl⟩
    rw [hcc] at h0 ⊢
    have d3 : ((cc : Int) == 0) = false := by simp; omega
    have d3' : ((cc : Int) != 0) = true := by simp; omega
    have d3p : decide ((cc : Int) = 0) = false := decide_eq_false (by omega)
    have d3q : decide (cc = 0) = false := decide_eq_false h0
    clear hx2 hcc
    go_wp2
    go_ret
    exact ⟨rfl, HX2.out⟩
  case inl =>
    have HX2 := Lib.hid (HX1.out.trans hx2)
    have HG2 := Lib.hid (HX2.out.row HG.out)
    have HQ2 := Lib.hid hq2
    have HBX := Lib.hid (show ∀ b, X b → (w.alloc (.cells #[.int .i64 k, .int .i64 t, .int .u64 (a : Int), .slice Bm nm cm] 25)).heap.size ≤ b from fun b hb => Nat.le_trans HX1.out.size (HQ2.out.own b hb).1)
    have HRC := Lib.hid (HL.out.run (s := Lgr.new l) who k t a nm cm mm Bm w2 hq2 HNM.out (HRM.out.ext (HX0.out.trans HX2.out)) hcm (by omega) ha)
    obtain ⟨f, s, hr⟩ : ∃ f s, (Lgr.new l).run n who ⟨k, t, a, mm⟩ = (f, s) := ⟨_, _, rfl⟩
    obtain ⟨hrn, hrf, hrd, hrt, hrs, hrm⟩ := oth14 (l := l) (who := who) (o := ⟨k, t, a, mm⟩) (r := (f, s)) (by rw [HN.out]; exact hr)
    rw [hr] at HRC
    dsimp only at hrn hrf hrd hrt hrs hrm
    rw [HN.out] at hrn hrm
    have HRN := Lib.hid hrn
    have HRF := Lib.hid hrf
    have HRD := Lib.hid hrd
    have HRT := Lib.hid hrt
    have HRS := Lib.hid hrs
    have HRM2 := Lib.hid hrm
    clear hx2 hq2 h0 hr hrn hrf hrd hrt hrs hrm HQ2 c3
    go_wp2_with (with_reducible refine wpList_load_row rfl 25 (.tmp 5) rfl (w.heap.size) rfl 25 #[.int .i64 k, .int .i64 t, .int .u64 (a : Int), .slice Bm nm cm] (0, 0) _ HG2.out Try.underlying25 rfl tx_in14 ?_)
    refine HRC.out.mono ?_
    rintro e w3 ⟨rfl, ho3, hq3⟩
    have HX3 := Lib.hid (ho3.ext HX2.out HBX.out)
    have HQ3 := Lib.hid hq3
    obtain ⟨bs, hbs⟩ : ∃ b, w1.heap.size = b := ⟨_, rfl⟩
    obtain ⟨M, hM⟩ : ∃ M, l.sum = M := ⟨_, rfl⟩
    rw [hbs, hM] at HQ3
    clear ho3 hq3 HRC hbs hM
    go_wp2
    go_loopg [42] n (fun gk s42 wx => ∃ j : Nat, j + gk = n ∧ s42 = .int .i64 (j : Int) ∧ Ext w3 wx)
    case atStart => exact ⟨0, by omega, rfl, Ext.refl _⟩
    case round =>
      obtain ⟨j, hjg, rfl, hxr⟩ := hrel
      have HX := Lib.hid hxr
      clear hxr
      cases gk with
      | zero =>
        have hjn : j = n := by omega
        subst hjn
        have d4 : decide ((j : Int) < (j : Int)) = false := decide_eq_false (by omega)
        have HQ := Lib.hid (HQ3.out.ext HL.out.keeps HX.out)
        go_wp2_with fail
        refine (HL.out.fees wr HQ.out).mono ?_
        rintro e w5 ⟨rfl, hx5⟩
        rw [HRF.out]
        have HQ5 := Lib.hid (HQ.out.ext HL.out.keeps hx5)
        have HX5 := Lib.hid (HX.out.trans hx5)
        clear hx5
        go_wp2_with fail
        refine (HL.out.deposits w5 HQ5.out).mono ?_
        rintro e w6 ⟨rfl, hx6⟩
        rw [HRD.out]
        have HQ6 := Lib.hid (HQ5.out.ext HL.out.keeps hx6)
        have HX6 := Lib.hid (HX5.out.trans hx6)
        clear hx6
        go_wp2_with fail
        refine (HL.out.treasury w6 HQ6.out).mono ?_
        rintro e w7 ⟨rfl, hx7⟩
        rw [HRT.out]
        have HX7 := Lib.hid (HX0.out.trans (HX3.out.trans (HX6.out.trans hx7)))
        clear hx7
        go_wp2
        go_ret
        exact ⟨rfl, HX7.out⟩
      | succ gk =>
        have hj : j < n := by omega
        have hjI : (j : Int) < (n : Int) := by omega
        have hin : Inn n (j : Int) := ⟨by omega, hjI⟩
        obtain ⟨ab, ao, rfl, hlj⟩ := HR.out.2 j (by rw [HN.out]; exact hj)
        obtain ⟨v, hv⟩ : ∃ v, co s.b j = v := ⟨_, rfl⟩
        obtain ⟨u, hu⟩ : ∃ u, co l j = u := ⟨_, rfl⟩
        rw [hu] at hlj
        have HLJ := Lib.hid (show ∀ W, Ext wr W → W.cell? ⟨ab, ao + j, none⟩ = some (.int .u64 (u : Int)) from fun W hW => (HX0.out.trans (HX3.out.trans (HX.out.trans hW))).at hlj)
        have HTX := Lib.hid (show ∀ W, Ext wr W → W.cell? ⟨w.heap.size, 0, none⟩ = some (.int .i64 k) ∧ W.cell? ⟨w.heap.size, 1, none⟩ = some (.int .i64 t) ∧ W.cell? ⟨w.heap.size, 2, none⟩ = some (.int .u64 (a : Int)) ∧ W.cell? ⟨w.heap.size, 3, none⟩ = some (.slice Bm nm cm) from fun W hW => by
          have h := (HX3.out.trans (HX.out.trans hW)).row HG.out
          exact ⟨cell_of_row _ _ 0 _ _ _ h, cell_of_row _ _ 1 _ _ _ h, cell_of_row _ _ 2 _ _ _ h, cell_of_row _ _ 3 _ _ _ h⟩)
        have HBAL := Lib.hid (show ∀ W, Ext wr W → Calls Try.prog 20 #[.pointer (some ⟨σ, 0, none⟩), .int .i64 (j : Int)] W (Tells (.int .u64 (v : Int)) W) from fun W hW =>
          (HL.out.balance (j : Int) W (HQ3.out.ext HL.out.keeps (HX.out.trans hW))).mono fun _ _ h => ⟨by rw [h.1, if_pos hin, Int.toNat_natCast, hv], h.2⟩)
        have HNON := Lib.hid (show ∀ W, Ext wr W → Calls Try.prog 23 #[.pointer (some ⟨σ, 0, none⟩), .int .i64 (j : Int)] W (Tells (.int .u64 0) W) from fun W hW =>
          (HL.out.nonce (j : Int) W (HQ3.out.ext HL.out.keeps (HX.out.trans hW))).mono fun _ _ h => ⟨by rw [h.1, if_pos hin, Int.toNat_natCast, HRN.out, co_zeros13]; rfl, h.2⟩)
        have HVB := Lib.hid (show v < 18446744073709551616 from by
          have h1 := co_le_sum13 s.b j
          have h2 := HQ3.out.good.ok.sum
          have h3 := HQ3.out.good.tot
          omega)
        clear hin hlj
        by_cases hf : f = 0
        · subst hf
          by_cases hk : k = 1
          · subst hk
            obtain ⟨i, p, rfl, rfl, hi, hp, hle, hco⟩ := HRM2.out rfl rfl
            have hvu := hco j
            rw [hv, hu] at hvu
            clear hco hv
            by_cases e1 : j = i
            · subst e1
              rw [hu] at hle
              rw [if_pos rfl] at hvu
              clear hu
              by_cases e2 : j = p
              · subst e2
                rw [if_pos rfl] at hvu
                subst hvu
                go_wp2_with fail
                refine (HBAL.out wr (Ext.refl _)).mono ?_
                rintro e w5 ⟨rfl, hx5⟩
                have HX5 := Lib.hid hx5
                obtain ⟨x0, x1, x2, x3⟩ := HTX.out w5 hx5
                have xl := HLJ.out w5 hx5
                clear hx5
                go_wp2_with fail
                refine (HNON.out w5 HX5.out).mono ?_
                rintro e w6 ⟨rfl, hx6⟩
                have HX6 := Lib.hid (HX5.out.trans hx6)
                have HU6 := Lib.hid (HX.out.trans HX6.out)
                obtain ⟨x0, x1, x2, x3⟩ := HTX.out w6 HX6.out
                have xl := HLJ.out w6 HX6.out
                clear hx6
                go_wp2
                go_quiet (fail)
                have HU6 := Lib.hid (HU6.out.drewN nq)
                generalize w6.drewN nq = w7 at *
                go_wp2
                go_roundg gk
                case measure => omega
                case rel => exact ⟨j + 1, by omega, by go_num, HU6.out⟩
              · rw [if_neg e2] at hvu
                have hw : IntKind.u64.wrap ((u : Int) - (a : Int)) = (v : Int) := by rw [IntKind.wrap_u64]; have := HVB.out; omega
                have e2a : ((j : Int) == (p : Int)) = false := by simp; omega
                have e2b : ((j : Int) != (p : Int)) = true := by simp; omega
                have e2c : ¬ p = j := fun h => e2 h.symm
                have e2d : decide (j = p) = false := decide_eq_false e2
                have e2e : decide (p = j) = false := decide_eq_false e2c
                by_cases e5 : v = u
                · have e5a : ((u : Int) != (v : Int)) = false := by simp; omega
                  have HW := Lib.hid (show IntKind.u64.wrap ((v : Int) - (a : Int)) = (v : Int) from by subst e5; exact hw)
                  clear hvu hle e5a hw
                  subst e5
                  have hw := HW.out
                  clear HW
                  go_wp2_with fail
                  refine (HBAL.out wr (Ext.refl _)).mono ?_
                  rintro e w5 ⟨rfl, hx5⟩
                  have HX5 := Lib.hid hx5
                  obtain ⟨x0, x1, x2, x3⟩ := HTX.out w5 hx5
                  have xl := HLJ.out w5 hx5
                  clear hx5
                  go_wp2_with fail
                  refine (HNON.out w5 HX5.out).mono ?_
                  rintro e w6 ⟨rfl, hx6⟩
                  have HX6 := Lib.hid (HX5.out.trans hx6)
                  have HU6 := Lib.hid (HX.out.trans HX6.out)
                  obtain ⟨x0, x1, x2, x3⟩ := HTX.out w6 HX6.out
                  have xl := HLJ.out w6 HX6.out
                  clear hx6
                  go_wp2
                  go_quiet (fail)
                  have HU6 := Lib.hid (HU6.out.drewN nq)
                  generalize w6.drewN nq = w7 at *
                  go_wp2
                  go_roundg gk
                  case measure => omega
                  case rel => exact ⟨j + 1, by omega, by go_num, HU6.out⟩
                · clear hvu hle
                  have e5a : ((v : Int) == (u : Int)) = false := by simp; omega
                  have e5b : ((v : Int) != (u : Int)) = true := by simp; omega
                  have e5c : ¬ u = v := fun h => e5 h.symm
                  have e5d : decide (v = u) = false := decide_eq_false e5
                  have e5e : decide (u = v) = false := decide_eq_false e5c
                  go_wp2_with fail
                  refine (HBAL.out wr (Ext.refl _)).mono ?_
                  rintro e w5 ⟨rfl, hx5⟩
                  have HX5 := Lib.hid hx5
                  obtain ⟨x0, x1, x2, x3⟩ := HTX.out w5 hx5
                  have xl := HLJ.out w5 hx5
                  clear hx5
                  go_wp2_with fail
                  refine (HNON.out w5 HX5.out).mono ?_
                  rintro e w6 ⟨rfl, hx6⟩
                  have HX6 := Lib.hid (HX5.out.trans hx6)
                  have HU6 := Lib.hid (HX.out.trans HX6.out)
                  obtain ⟨x0, x1, x2, x3⟩ := HTX.out w6 HX6.out
                  have xl := HLJ.out w6 HX6.out
                  clear hx6
                  go_wp2
                  go_quiet (fail)
                  have HU6 := Lib.hid (HU6.out.drewN nq)
                  generalize w6.drewN nq = w7 at *
                  go_wp2
                  go_roundg gk
                  case measure => omega
                  case rel => exact ⟨j + 1, by omega, by go_num, HU6.out⟩
            · rw [if_neg e1] at hvu
              have e1a : ((j : Int) == (i : Int)) = false := by simp; omega
              have e1b : ((j : Int) != (i : Int)) = true := by simp; omega
              have e1c : ¬ i = j := fun h => e1 h.symm
              have e1d : decide (j = i) = false := decide_eq_false e1
              have e1e : decide (i = j) = false := decide_eq_false e1c
              by_cases e2 : j = p
              · subst e2
                rw [if_pos rfl] at hvu
                clear hu
                have hw : IntKind.u64.wrap ((u : Int) + (a : Int)) = (v : Int) := by rw [IntKind.wrap_u64]; have := HVB.out; omega
                have e1ca : ((i : Int) == (j : Int)) = false := by simp; omega
                have e1cb : ((i : Int) != (j : Int)) = true := by simp; omega
                have e1cc : ¬ j = i := fun h => e1c h.symm
                have e1cd : decide (i = j) = false := decide_eq_false e1c
                have e1ce : decide (j = i) = false := decide_eq_false e1cc
                by_cases e5 : v = u
                · have HW := Lib.hid (show IntKind.u64.wrap ((v : Int) + (a : Int)) = (v : Int) from by subst e5; exact hw)
                  clear hvu hle hw
                  subst e5
                  have hw := HW.out
                  clear HW
                  go_wp2_with fail
                  refine (HBAL.out wr (Ext.refl _)).mono ?_
                  rintro e w5 ⟨rfl, hx5⟩
                  have HX5 := Lib.hid hx5
                  obtain ⟨x0, x1, x2, x3⟩ := HTX.out w5 hx5
                  have xl := HLJ.out w5 hx5
                  clear hx5
                  go_wp2_with fail
                  refine (HNON.out w5 HX5.out).mono ?_
                  rintro e w6 ⟨rfl, hx6⟩
                  have HX6 := Lib.hid (HX5.out.trans hx6)
                  have HU6 := Lib.hid (HX.out.trans HX6.out)
                  obtain ⟨x0, x1, x2, x3⟩ := HTX.out w6 HX6.out
                  have xl := HLJ.out w6 HX6.out
                  clear hx6
                  go_wp2
                  go_quiet (fail)
                  have HU6 := Lib.hid (HU6.out.drewN nq)
                  generalize w6.drewN nq = w7 at *
                  go_wp2
                  go_roundg gk
                  case measure => omega
                  case rel => exact ⟨j + 1, by omega, by go_num, HU6.out⟩
                · clear hvu hle
                  have e5a : ((v : Int) == (u : Int)) = false := by simp; omega
                  have e5b : ((v : Int) != (u : Int)) = true := by simp; omega
                  have e5c : ¬ u = v := fun h => e5 h.symm
                  have e5d : decide (v = u) = false := decide_eq_false e5
                  have e5e : decide (u = v) = false := decide_eq_false e5c
                  go_wp2_with fail
                  refine (HBAL.out wr (Ext.refl _)).mono ?_
                  rintro e w5 ⟨rfl, hx5⟩
                  have HX5 := Lib.hid hx5
                  obtain ⟨x0, x1, x2, x3⟩ := HTX.out w5 hx5
                  have xl := HLJ.out w5 hx5
                  clear hx5
                  go_wp2_with fail
                  refine (HNON.out w5 HX5.out).mono ?_
                  rintro e w6 ⟨rfl, hx6⟩
                  have HX6 := Lib.hid (HX5.out.trans hx6)
                  have HU6 := Lib.hid (HX.out.trans HX6.out)
                  obtain ⟨x0, x1, x2, x3⟩ := HTX.out w6 HX6.out
                  have xl := HLJ.out w6 HX6.out
                  clear hx6
                  go_wp2
                  go_quiet (fail)
                  have HU6 := Lib.hid (HU6.out.drewN nq)
                  generalize w6.drewN nq = w7 at *
                  go_wp2
                  go_roundg gk
                  case measure => omega
                  case rel => exact ⟨j + 1, by omega, by go_num, HU6.out⟩
              · rw [if_neg e2] at hvu
                have e2a : ((j : Int) == (p : Int)) = false := by simp; omega
                have e2b : ((j : Int) != (p : Int)) = true := by simp; omega
                have e2c : ¬ p = j := fun h => e2 h.symm
                have e2d : decide (j = p) = false := decide_eq_false e2
                have e2e : decide (p = j) = false := decide_eq_false e2c
                subst hvu
                clear hu hle
                by_cases e6 : i = p
                · subst e6
                  go_wp2_with fail
                  refine (HBAL.out wr (Ext.refl _)).mono ?_
                  rintro e w5 ⟨rfl, hx5⟩
                  have HX5 := Lib.hid hx5
                  obtain ⟨x0, x1, x2, x3⟩ := HTX.out w5 hx5
                  have xl := HLJ.out w5 hx5
                  clear hx5
                  go_wp2_with fail
                  refine (HNON.out w5 HX5.out).mono ?_
                  rintro e w6 ⟨rfl, hx6⟩
                  have HX6 := Lib.hid (HX5.out.trans hx6)
                  have HU6 := Lib.hid (HX.out.trans HX6.out)
                  obtain ⟨x0, x1, x2, x3⟩ := HTX.out w6 HX6.out
                  have xl := HLJ.out w6 HX6.out
                  clear hx6
                  go_wp2
                  go_quiet (fail)
                  have HU6 := Lib.hid (HU6.out.drewN nq)
                  generalize w6.drewN nq = w7 at *
                  go_wp2
                  go_roundg gk
                  case measure => omega
                  case rel => exact ⟨j + 1, by omega, by go_num, HU6.out⟩
                · have e6a : ((i : Int) == (p : Int)) = false := by simp; omega
                  have e6b : ((i : Int) != (p : Int)) = true := by simp; omega
                  have e6c : ¬ p = i := fun h => e6 h.symm
                  have e6d : decide (i = p) = false := decide_eq_false e6
                  have e6e : decide (p = i) = false := decide_eq_false e6c
                  go_wp2_with fail
                  refine (HBAL.out wr (Ext.refl _)).mono ?_
                  rintro e w5 ⟨rfl, hx5⟩
                  have HX5 := Lib.hid hx5
                  obtain ⟨x0, x1, x2, x3⟩ := HTX.out w5 hx5
                  have xl := HLJ.out w5 hx5
                  clear hx5
                  go_wp2_with fail
                  refine (HNON.out w5 HX5.out).mono ?_
                  rintro e w6 ⟨rfl, hx6⟩
                  have HX6 := Lib.hid (HX5.out.trans hx6)
                  have HU6 := Lib.hid (HX.out.trans HX6.out)
                  obtain ⟨x0, x1, x2, x3⟩ := HTX.out w6 HX6.out
                  have xl := HLJ.out w6 HX6.out
                  clear hx6
                  go_wp2
                  go_quiet (fail)
                  have HU6 := Lib.hid (HU6.out.drewN nq)
                  generalize w6.drewN nq = w7 at *
                  go_wp2
                  go_roundg gk
                  case measure => omega
                  case rel => exact ⟨j + 1, by omega, by go_num, HU6.out⟩
          · have hvu : v = u := by rw [← hv, ← hu, HRS.out (.inr hk)]
            subst hvu
            have k1 : (k == 1) = false := by simp; omega
            have k2 : (k != 1) = true := by simp; omega
            have k3 : decide (k = 1) = false := decide_eq_false hk
            clear hv hu
            go_wp2_with fail
            refine (HBAL.out wr (Ext.refl _)).mono ?_
            rintro e w5 ⟨rfl, hx5⟩
            have HX5 := Lib.hid hx5
            obtain ⟨x0, x1, x2, x3⟩ := HTX.out w5 hx5
            have xl := HLJ.out w5 hx5
            clear hx5
            go_wp2_with fail
            refine (HNON.out w5 HX5.out).mono ?_
            rintro e w6 ⟨rfl, hx6⟩
            have HX6 := Lib.hid (HX5.out.trans hx6)
            have HU6 := Lib.hid (HX.out.trans HX6.out)
            obtain ⟨x0, x1, x2, x3⟩ := HTX.out w6 HX6.out
            have xl := HLJ.out w6 HX6.out
            clear hx6
            go_wp2
            go_quiet (fail)
            have HU6 := Lib.hid (HU6.out.drewN nq)
            generalize w6.drewN nq = w7 at *
            go_wp2
            go_roundg gk
            case measure => omega
            case rel => exact ⟨j + 1, by omega, by go_num, HU6.out⟩
        · have hvu : v = u := by rw [← hv, ← hu, HRS.out (.inl hf)]
          subst hvu
          have k1 : ((f : Int) == 0) = false := by simp; omega
          have k2 : ((f : Int) != 0) = true := by simp; omega
          have k3 : decide (f = 0) = false := decide_eq_false hf
          have k4 : decide ((f : Int) = 0) = false := decide_eq_false (by omega)
          clear hv hu
          go_wp2_with fail
          refine (HBAL.out wr (Ext.refl _)).mono ?_
          rintro e w5 ⟨rfl, hx5⟩
          have HX5 := Lib.hid hx5
          obtain ⟨x0, x1, x2, x3⟩ := HTX.out w5 hx5
          have xl := HLJ.out w5 hx5
          clear hx5
          go_wp2_with fail
          refine (HNON.out w5 HX5.out).mono ?_
          rintro e w6 ⟨rfl, hx6⟩
          have HX6 := Lib.hid (HX5.out.trans hx6)
          have HU6 := Lib.hid (HX.out.trans HX6.out)
          obtain ⟨x0, x1, x2, x3⟩ := HTX.out w6 HX6.out
          have xl := HLJ.out w6 HX6.out
          clear hx6
          go_wp2
          go_quiet (fail)
          have HU6 := Lib.hid (HU6.out.drewN nq)
          generalize w6.drewN nq = w7 at *
          go_wp2
          go_roundg gk
          case measure => omega
          case rel => exact ⟨j + 1, by omega, by go_num, HU6.out⟩
end Go.Proofs.Ytnfgokbopndmgaa

/-
  The code's own valid: which orders can be. Conditions: none.
-/
namespace Go.Proofs.Ytnfgokbopndmgaa
open Go.RowKit
open Pol (co Sm)

set_option maxHeartbeats 1600000 in
theorem tx_valid (k t : Int) (a n c : Nat) (A : Option Addr) (w : World) : Calls Try.prog 28 #[.agg #[.int .i64 k, .int .i64 t, .int .u64 (a : Int), .slice A n c]] w (Tells (.bool (decide (RightN k t a n))) w) := by
  by_cases h0 : 16 < n
  · have d0 : decide ((n : Int) > 16) = true := decide_eq_true (by omega)
    have d0' : decide (16 < (n : Int)) = true := decide_eq_true (by omega)
    rw [show decide (RightN k t a n) = false from decide_eq_false (by unfold RightN; omega)]
    go_enter Try.func28, Try.ntmps28
    go_wp2
    go_ret
    exact ⟨rfl, (Ext.refl _).alloc _⟩
  have d0 : decide ((n : Int) > 16) = false := decide_eq_false (by omega)
  have d0' : decide (16 < (n : Int)) = false := decide_eq_false (by omega)
  by_cases h1 : k = 1
  · by_cases h2 : 0 ≤ t
    · have d2 : decide (t ≥ 0) = true := decide_eq_true (by omega)
      have d2' : decide (0 ≤ t) = true := decide_eq_true (by omega)
      by_cases h3 : t < 6
      · have d3 : decide (t < 6) = true := decide_eq_true h3
        rw [show decide (RightN k t a n) = true from decide_eq_true (by unfold RightN; omega)]
        subst h1
        go_enter Try.func28, Try.ntmps28
        go_wp2
        go_ret
        exact ⟨rfl, (Ext.refl _).alloc _⟩
      · have d3 : decide (t < 6) = false := decide_eq_false h3
        rw [show decide (RightN k t a n) = false from decide_eq_false (by unfold RightN; omega)]
        subst h1
        go_enter Try.func28, Try.ntmps28
        go_wp2
        go_ret
        exact ⟨rfl, (Ext.refl _).alloc _⟩
    · have d2 : decide (t ≥ 0) = false := decide_eq_false (by omega)
      have d2' : decide (0 ≤ t) = false := decide_eq_false (by omega)
      rw [show decide (RightN k t a n) = false from decide_eq_false (by unfold RightN; omega)]
      subst h1
      go_enter Try.func28, Try.ntmps28
      go_wp2
      go_ret
      exact ⟨rfl, (Ext.refl _).alloc _⟩
  have d1 : (k == 1) = false := by simp; omega
  have d1' : decide (k = 1) = false := decide_eq_false h1
  by_cases h4 : k = 2
  · by_cases h5 : t = 0
    · by_cases h6 : a = 0
      · have HD := Lib.hid (show decide (RightN k t a n) = true from decide_eq_true (by unfold RightN; omega))
        rw [HD.out]
        subst h4 h5 h6
        go_enter Try.func28, Try.ntmps28
        go_wp2
        go_ret
        exact ⟨rfl, (Ext.refl _).alloc _⟩
      · have d6 : ((a : Int) == 0) = false := by simp; omega
        have d6' : decide ((a : Int) = 0) = false := decide_eq_false (by omega)
        have d6'' : decide (a = 0) = false := decide_eq_false h6
        have HD := Lib.hid (show decide (RightN k t a n) = false from decide_eq_false (by unfold RightN; omega))
        rw [HD.out]
        subst h4 h5
        go_enter Try.func28, Try.ntmps28
        go_wp2
        go_ret
        exact ⟨rfl, (Ext.refl _).alloc _⟩
    · have d5 : (t == 0) = false := by simp; omega
      have d5' : decide (t = 0) = false := decide_eq_false h5
      have HD := Lib.hid (show decide (RightN k t a n) = false from decide_eq_false (by unfold RightN; omega))
      rw [HD.out]
      subst h4
      go_enter Try.func28, Try.ntmps28
      go_wp2
      go_ret
      exact ⟨rfl, (Ext.refl _).alloc _⟩
  · have d4 : (k == 2) = false := by simp; omega
    have d4' : decide (k = 2) = false := decide_eq_false h4
    rw [show decide (RightN k t a n) = false from decide_eq_false (by unfold RightN; omega)]
    go_enter Try.func28, Try.ntmps28
    go_wp2
    go_ret
    exact ⟨rfl, (Ext.refl _).alloc _⟩
end Go.Proofs.Ytnfgokbopndmgaa

/-
  What Number and Text of layer 8 lay behind bytes. Conditions: no more than 2^20 bytes each.
-/
namespace Go.Proofs.Ytnfgokbopndmgaa
open Go.RowKit
open Pol (co Sm)

set_option maxHeartbeats 1600000 in
set_option maxRecDepth 100000 in
theorem cd_layN (base : Nat) (v : Value) (l : List Nat) (n : Nat) (w : World) (hm : Mine w base v l) (hs : Sm l) (hl : l.length ≤ 1048576) (hn : n < 18446744073709551616) (hb : base ≤ w.heap.size) :
    Calls Try.prog 29 #[v, .int .u64 (n : Int)] w (Lays base v (l ++ vn n) w) := by
  have HSM := Lib.hid (sm_app hs (vn_sm n))
  have HTEN := Lib.hid (vn_ten hn)
  have hn10 : n < 128 ^ (9 + 1) := by omega
  obtain ⟨V, hV⟩ : ∃ V, l ++ vn n = V := ⟨_, rfl⟩
  have HVL := Lib.hid (show V.length ≤ 1048586 by rw [← hV, List.length_append]; have := HTEN.out; omega)
  rw [hV] at HSM
  rw [hV]
  have HV := Lib.hid hV
  clear hV
  obtain ⟨B0, c0, rfl, hc0, _⟩ := hm.slice hs
  have HM0 := Lib.hid hm
  have HB := Lib.hid hb
  obtain ⟨l0, hl0⟩ : ∃ l0, l.length = l0 := ⟨_, rfl⟩
  have HL0 := Lib.hid hl0
  obtain ⟨v0, hv0⟩ : ∃ v0, Value.slice B0 l.length c0 = v0 := ⟨_, rfl⟩
  rw [hv0] at HM0 ⊢
  rw [hl0] at hv0 hc0 hl
  have HV0 := Lib.hid hv0
  rw [← hv0]
  clear hm hb hl0 hv0
  go_enter Try.func29, Try.ntmps29
  go_wp2
  go_loopg [0, 1] 9 (fun g s0 s1 wx => ∃ (m : Nat) (acc : List Nat) (B : Option Addr) (c : Nat), m < 128 ^ (g + 1) ∧ s1 = .int .u64 (m : Int) ∧ m < 18446744073709551616 ∧ acc ++ vn m = V ∧ s0 = .slice B acc.length c ∧ Mine wx base (.slice B acc.length c) acc ∧ LayS w wx v0 (.slice B acc.length c))
  case atStart => exact ⟨n, l, B0, c0, hn10, rfl, hn, HV.out, by rw [HL0.out], by rw [HL0.out, HV0.out]; exact HM0.out, by rw [HL0.out, HV0.out]; exact LayS.refl _ _⟩
  case round =>
    obtain ⟨m, acc, B, c, hmg, rfl, hm64, hac, rfl, hmi, hx⟩ := hrel
    have HM := Lib.hid hmi
    have HX := Lib.hid hx
    have hlen : acc.length ≤ 1048586 := by have := HVL.out; rw [← hac, List.length_append] at this; omega
    have hsz : w.heap.size ≤ wr.heap.size := hx.1.size
    have HSZ := Lib.hid (Nat.le_trans HB.out hsz)
    obtain ⟨la, hla⟩ : ∃ la, acc.length = la := ⟨_, rfl⟩
    have HLA := Lib.hid hla
    rw [hla] at HM HX hlen ⊢
    clear hmi hx hla hsz
    by_cases h128 : m < 128
    · have d1 : decide (128 ≤ (m : Int)) = false := decide_eq_false (by omega)
      have e1 : IntKind.u8.wrap (m : Int) = (m : Int) := IntWalk.u8_in _ (by omega)
      have HAV := Lib.hid (show acc ++ [m] = V from by rw [← hac, vn_lt h128])
      have hm256 : m < 256 := by omega
      clear hac hmg
      go_wp2_with (at_builtin; refine wpList_append_rd rfl (.tmp 15) (.tmp 18) rfl base _ acc [m] rfl (mine_ext HM.out ((Ext.refl _).alloc _)) (some ⟨wr.heap.size, 0, none⟩) 1 1 rfl rfl (rd_one wr m hm256) (by rw [HLA.out]; simp; omega) (by simp; have := HSZ.out; omega) ?_; intro v' w3 hown' hg' hat'; rw [HAV.out] at hown'; have hx3 := (HX.out.alloc (.cells #[.int .u8 (m : Int)] 5)).step hg' hat'; have HO := Lib.hid (hx3.lays hown'); clear hown' hg' hat' hx3)
      go_ret
      rw [HV0.out]
      exact HO.out
    · cases gk with
      | zero => omega
      | succ g =>
        have d1 : decide (128 ≤ (m : Int)) = true := decide_eq_true (by omega)
        obtain ⟨q, hq⟩ : ∃ q, m % 256 = q := ⟨_, rfl⟩
        obtain ⟨y, hy⟩ : ∃ y, q % 128 + 128 = y := ⟨_, rfl⟩
        obtain ⟨m2, hm2⟩ : ∃ m2, m / 128 = m2 := ⟨_, rfl⟩
        have e1 : IntKind.u8.wrap (m : Int) = (q : Int) := by rw [IntKind.wrap_u8]; omega
        have e2 : bits .or .u8 (q : Int) 128 = (y : Int) := by rw [or8_128 q (by omega), hy]
        have e5 : (m : Int) / 128 = (m2 : Int) := by omega
        have hy256 : y < 256 := by omega
        have HAV := Lib.hid (show (acc ++ [y]) ++ vn m2 = V from by
          rw [← hac, vn_ge h128, List.append_assoc, hm2, show m % 128 + 128 = y from by omega]; rfl)
        have HS9 := Lib.hid (show Sm (acc ++ [y]) from (sm_split (b := vn m2) (by rw [HAV.out]; exact HSM.out)).1)
        have HL9 := Lib.hid (show (acc ++ [y]).length = la + 1 by rw [List.length_append, HLA.out]; rfl)
        have hm2b : m2 < 128 ^ (g + 1) := by rw [← hm2]; rw [Nat.pow_succ] at hmg; omega
        have hm2c : m2 < 18446744073709551616 := by omega
        clear hac hq hy hm2 hmg
        go_wp2_with (at_builtin; refine wpList_append_rd rfl (.tmp 7) (.tmp 11) rfl base _ acc [y] rfl (mine_ext HM.out ((Ext.refl _).alloc _)) (some ⟨wr.heap.size, 0, none⟩) 1 1 rfl rfl (rd_one wr y hy256) (by rw [HLA.out]; simp; omega) (by simp; have := HSZ.out; omega) ?_; intro v' w3 hown' hg' hat'; have hx3 := (HX.out.alloc (.cells #[.int .u8 (y : Int)] 5)).step hg' hat'; obtain ⟨Bv, cv, ev', hcv, _⟩ := hown'.slice HS9.out; rw [HL9.out] at ev'; subst ev'; have HO := Lib.hid hown'; have HX3 := Lib.hid hx3; clear hown' hg' hat' hx3)
        go_roundg g
        case measure => omega
        case rel => exact ⟨m2, acc ++ [y], Bv, cv, hm2b, rfl, hm2c, HAV.out, by rw [HL9.out], by rw [HL9.out]; exact HO.out, by rw [HL9.out]; exact HX3.out⟩
set_option maxHeartbeats 1600000 in
theorem cd_layT (base : Nat) (v : Value) (l t : List Nat) (A : Option Addr) (ca : Nat) (w : World) (hm : Mine w base v l) (hs : Sm l) (hr : Rd w A t) (hl : l.length ≤ 1048576) (ht : t.length ≤ 1048576) (hb : base ≤ w.heap.size) :
    Calls Try.prog 30 #[v, .slice A t.length ca] w (Lays base v (l ++ vt t) w) := by
  have HN := Lib.hid (cd_layN w.heap.size (.slice none 0 0) [] t.length w (Mine.nil _ _) Sm.nil (by decide) (by omega) (Nat.le_refl _))
  have HR := Lib.hid hr
  have HM := Lib.hid hm
  have HB := Lib.hid hb
  have HS := Lib.hid (vt_sm hr.1)
  have HSN := Lib.hid (vn_sm t.length)
  have HTEN := Lib.hid (vn_ten (n := t.length) (by omega))
  have HVT := Lib.hid (show vn t.length ++ t = vt t from rfl)
  have HVL := Lib.hid (show (vt t).length ≤ 1048586 by rw [← HVT.out, List.length_append]; have := HTEN.out; omega)
  rw [List.nil_append] at HN
  obtain ⟨B0, c0, ev0, hc0, _⟩ := hm.slice hs
  have HV0 := Lib.hid ev0
  rw [ev0]
  clear hr hm hb
  generalize hn : t.length = n at *
  have HL := Lib.hid hn
  clear hn
  have e1 : IntKind.u64.wrap (n : Int) = (n : Int) := by rw [IntKind.wrap_u64]; omega
  generalize vn n = V at *
  obtain ⟨V2, hV2⟩ : ∃ V2, vt t = V2 := ⟨_, rfl⟩
  rw [hV2] at HS HVT HVL ⊢
  clear hV2 ev0
  go_enter Try.func30, Try.ntmps30
  go_wp2_with fail
  refine HN.out.mono ?_
  rintro e w1 ⟨v1, rfl, hm1, hg1, _⟩
  have HX1 := Lib.hid ((Ext.refl w).more hg1 (fun r e => by simp [Value.ownBlock] at e))
  obtain ⟨B, c, ev, hc, _⟩ := hm1.slice HSN.out
  subst ev
  have HM1 := Lib.hid hm1
  clear hm1 hg1
  obtain ⟨lv, hlv⟩ : ∃ lv, V.length = lv := ⟨_, rfl⟩
  have HLV := Lib.hid hlv
  rw [hlv] at HM1 hc HTEN ⊢
  clear hlv
  go_wp2_with (at_builtin; first | (refine wpList_append_rd rfl (.tmp 9) (.tmp 10) rfl w.heap.size _ V t rfl HM1.out A n ca rfl HL.out (HR.out.ext HX1.out) (by rw [HLV.out, HL.out]; have := HTEN.out; omega) (by have := HX1.out.size; omega) ?_; intro v2 w3 hown' hg' hat'; rw [HVT.out] at hown'; have hx3 := HX1.out.more hg' (fun r e => (HM1.out.block r e).1); obtain ⟨Bv, cv, ev', hcv, hrv⟩ := hown'.slice HS.out; subst ev'; have HR3 := Lib.hid hrv; have HX3 := Lib.hid hx3; clear hown' hg' hat' hx3 hrv) | (refine wpList_append_rd rfl (.tmp 12) (.tmp 13) rfl base _ l V2 rfl (HV0.out ▸ mine_ext HM.out HX3.out) Bv V2.length cv rfl rfl HR3.out (by have := HVL.out; omega) (by have := HX3.out.size; have := HB.out; omega) ?_; intro v4 w5 hown5 hg5 hat5; have HO := Lib.hid ((((LayS.refl w (.slice B0 l.length c0)).ext HX3.out).step hg5 hat5).lays hown5); clear hown5 hg5 hat5))
  go_ret
  exact HO.out

end Go.Proofs.Ytnfgokbopndmgaa

/-
  The code's own Encode of layer 14. Conditions: no more than 2^16 bytes.
-/
namespace Go.Proofs.Ytnfgokbopndmgaa
open Go.RowKit
open Pol (co Sm)

set_option maxHeartbeats 3200000 in
set_option maxRecDepth 100000 in
theorem tx_encode (k t : Int) (a n c : Nat) (m : List Nat) (A : Option Addr) (w : World) (hn : m.length = n) (hr : Rd w A m) (hl : n ≤ 65536) (ha : a < 18446744073709551616) :
    Calls Try.prog 10 #[.agg #[.int .i64 k, .int .i64 t, .int .u64 (a : Int), .slice A n c]] w (EncR ⟨k, t, a, m⟩ w) := by
  have HV := Lib.hid (fun u => tx_valid k t a n c A u)
  rw [right_is hn] at HV
  have HX0 := Lib.hid ((Ext.refl w).alloc (.cells #[.int .i64 k, .int .i64 t, .int .u64 (a : Int), .slice A n c] 30))
  have HG := Lib.hid (heap_alloc_new w (.cells #[.int .i64 k, .int .i64 t, .int .u64 (a : Int), .slice A n c] 30))
  by_cases ho : Od.right ⟨k, t, a, m⟩
  · rw [decide_eq_true ho] at HV
    obtain ⟨b1, b2, b3, b4, _⟩ := Od.right_bounds ho
    dsimp only at b1 b2 b3 b4
    have HE := Lib.hid (show Od.bytes ⟨k, t, a, m⟩ = [] ++ vn k.toNat ++ vn t.toNat ++ vn a ++ vt m ∧ Od.code ⟨k, t, a, m⟩ = 0 from by
      unfold Od.bytes Od.code Od.enc
      rw [if_pos ho, if_pos ho]
      exact ⟨rfl, rfl⟩)
    have HSM := Lib.hid (Od.bytes_sm (o := ⟨k, t, a, m⟩) hr.1)
    obtain ⟨kk, rfl⟩ : ∃ q : Nat, (q : Int) = k := ⟨k.toNat, by omega⟩
    obtain ⟨tt, rfl⟩ : ∃ q : Nat, (q : Int) = t := ⟨t.toNat, by omega⟩
    rw [Int.toNat_natCast, Int.toNat_natCast] at HE
    have w8 : IntKind.u64.wrap (kk : Int) = (kk : Int) := by rw [IntKind.wrap_u64]; omega
    have w8' : IntKind.u64.wrap (tt : Int) = (tt : Int) := by rw [IntKind.wrap_u64]; omega
    obtain ⟨base, hbase⟩ : ∃ base, (w.alloc (.cells #[.int .i64 (kk : Int), .int .i64 (tt : Int), .int .u64 (a : Int), .slice A n c] 30)).heap.size = base := ⟨_, rfl⟩
    have HBS := Lib.hid hbase
    have S1 : Sm ([] ++ vn kk) := sm_app Sm.nil (vn_sm _)
    have S2 : Sm ([] ++ vn kk ++ vn tt) := sm_app S1 (vn_sm _)
    have S3 : Sm ([] ++ vn kk ++ vn tt ++ vn a) := sm_app S2 (vn_sm _)
    have T1 := vn_ten (show kk < 18446744073709551616 by omega)
    have T2 := vn_ten (show tt < 18446744073709551616 by omega)
    have T3 := vn_ten ha
    have L1 := Lib.hid (fun u (hb : base ≤ u.heap.size) => cd_layN base (.slice none 0 0) [] kk u (Mine.nil _ _) Sm.nil (by decide) (by omega) hb)
    have L2 := Lib.hid (fun u v (hb : base ≤ u.heap.size) (hm : Mine u base v ([] ++ vn kk)) => cd_layN base v _ tt u hm S1 (by simp; omega) (by omega) hb)
    have L3 := Lib.hid (fun u v (hb : base ≤ u.heap.size) (hm : Mine u base v ([] ++ vn kk ++ vn tt)) => cd_layN base v _ a u hm S2 (by simp; omega) ha hb)
    have L4 := Lib.hid (fun u v (hb : base ≤ u.heap.size) (hu : Ext w u) (hm : Mine u base v ([] ++ vn kk ++ vn tt ++ vn a)) => show Calls Try.prog 30 #[v, .slice A n c] u (Lays base v ([] ++ vn kk ++ vn tt ++ vn a ++ vt m) u) from by
      have h := cd_layT base v _ m A c u hm S3 (hr.ext hu) (by simp; omega) (by omega) hb
      rwa [hn] at h)
    unfold EncR
    rw [HE.out.1] at HSM ⊢
    rw [HE.out.2]
    clear hr ho S1 S2 S3 T1 T2 T3 b1 b2 b3 b4 HE hbase
    generalize vn kk = V1 at *
    generalize vn tt = V2 at *
    generalize vn a = V3 at *
    generalize vt m = V4 at *
    go_enter Try.func10, Try.ntmps10
    go_wp2_with fail
    refine (HV.out _).mono ?_
    rintro e w1 ⟨rfl, hx1⟩
    have g1 := hx1.row HG.out
    have q0 : w1.cell? ⟨w.heap.size, 0, none⟩ = some (.int .i64 (kk : Int)) := cell_of_row _ _ 0 _ _ _ g1
    have HX1 := Lib.hid hx1
    clear hx1 g1
    go_wp2_with fail
    refine (L1.out w1 (by rw [← HBS.out]; exact HX1.out.size)).mono ?_
    rintro e w2 ⟨v2, rfl, hm2, hg2, _⟩
    have hx2 := HX1.out.more hg2 (fun r e => by cases e)
    have g2 := hx2.row HG.out
    have q1 : w2.cell? ⟨w.heap.size, 1, none⟩ = some (.int .i64 (tt : Int)) := cell_of_row _ _ 1 _ _ _ g2
    have HX2 := Lib.hid hx2
    have HM2 := Lib.hid hm2
    clear hx2 g2 hm2 hg2 q0
    go_wp2_with fail
    refine (L2.out w2 v2 (by rw [← HBS.out]; exact HX2.out.size) HM2.out).mono ?_
    rintro e w3 ⟨v3, rfl, hm3, hg3, _⟩
    have hx3 := HX2.out.more hg3 (fun r e => by rw [HBS.out]; exact (HM2.out.block r e).1)
    have g3 := hx3.row HG.out
    have q2 : w3.cell? ⟨w.heap.size, 2, none⟩ = some (.int .u64 (a : Int)) := cell_of_row _ _ 2 _ _ _ g3
    have HX3 := Lib.hid hx3
    have HM3 := Lib.hid hm3
    clear hx3 g3 hm3 hg3 q1
    go_wp2_with fail
    refine (L3.out w3 v3 (by rw [← HBS.out]; exact HX3.out.size) HM3.out).mono ?_
    rintro e w4 ⟨v4, rfl, hm4, hg4, _⟩
    have hx4 := HX3.out.more hg4 (fun r e => by rw [HBS.out]; exact (HM3.out.block r e).1)
    have g4 := hx4.row HG.out
    have q3 : w4.cell? ⟨w.heap.size, 3, none⟩ = some (.slice A n c) := cell_of_row _ _ 3 _ _ _ g4
    have HX4 := Lib.hid hx4
    have HM4 := Lib.hid hm4
    clear hx4 g4 hm4 hg4 q2
    go_wp2_with fail
    refine (L4.out w4 v4 (by rw [← HBS.out]; exact HX4.out.size) (HX0.out.trans HX4.out) HM4.out).mono ?_
    rintro e w5 ⟨v5, rfl, hm5, hg5, _⟩
    have HX5 := Lib.hid (HX4.out.more hg5 (fun r e => by rw [HBS.out]; exact (HM4.out.block r e).1))
    obtain ⟨B5, c5, rfl, hc5, hr5⟩ := hm5.slice HSM.out
    obtain ⟨n5, hn5⟩ : ∃ q, ([] ++ V1 ++ V2 ++ V3 ++ V4).length = q := ⟨_, rfl⟩
    rw [hn5] at hc5 ⊢
    have HN5 := Lib.hid hn5
    have HR5 := Lib.hid hr5
    have HC5 := Lib.hid hc5
    clear hm5 hg5 hr5 hc5 q3 hn5
    go_wp2
    go_ret2
    exact ⟨HX0.out.trans HX5.out, _, _, _, rfl, HN5.out, HC5.out, HR5.out⟩
  · rw [decide_eq_false ho] at HV
    have HO := Lib.hid ho
    clear hr ho
    go_enter Try.func10, Try.ntmps10
    go_wp2_with fail
    refine (HV.out _).mono ?_
    rintro e w1 ⟨rfl, hx1⟩
    have HX1 := Lib.hid (HX0.out.trans hx1)
    clear hx1
    go_wp2
    go_ret2
    exact EncR.no HO.out HX1.out
end Go.Proofs.Ytnfgokbopndmgaa

/-
  What a reader of layer 8 is in memory, and what its small functions do: running, fail, limit. Conditions: none.
-/
namespace Go.Proofs.Ytnfgokbopndmgaa
open Go.RowKit
open Pol (co Sm)

/-- A decoding that goes on: l is left. -/
def Dc (lo hi db rb : Nat) (w : World) (l : List Nat) : Prop :=
  ∃ A c, w.heap[db]? = some (.cells #[.pointer (some ⟨rb, 0, none⟩), .slice A l.length c, .int .i64 0] 89 (0, 0)) ∧ Rd w A l ∧ l.length ≤ c ∧ (∀ b o, A = some ⟨b, o, none⟩ → 0 < l.length → Btw lo hi b ∧ b ≠ db)
/-- One that has ended with error n. -/
def Fl (db rb : Nat) (w : World) (n : Nat) : Prop :=
  w.heap[db]? = some (.cells #[.pointer (some ⟨rb, 0, none⟩), .slice none 0 0, .int .i64 (n : Int)] 89 (0, 0))
/-- The panic that ends it. -/
def En (db : Nat) : List PanicEntry := [{ v := .iface 95 (.agg #[.pointer (some ⟨db, 0, none⟩)]), recovered := false }]
/-- A reader. -/
def Rp (rb db : Nat) (w : World) : Prop := w.heap[rb]? = some (.cells #[.pointer (some ⟨db, 0, none⟩)] 91 (0, 0))
/-- Where the reading's own variables lie: behind the decoding its variable, behind that the reader; first of all the error that is told. -/
def Fr (lo hi rb db : Nat) (w : World) : Prop :=
  rb + 1 = hi ∧ db + 2 = rb ∧ lo < db ∧ w.heap[db + 1]? = some (.cells #[.pointer (some ⟨db, 0, none⟩)] 87 (0, 0)) ∧ w.heap[lo]? = some (.cells #[.int .i64 0] 27 (0, 0))
/-- What a call at a decoding does. -/
def DReads {α : Type} (lo hi db rb : Nat) (V : Value → World → α → Prop) (r : Rs α) (w : World) (e : Ending) (w' : World) : Prop :=
  Only (fun k => k = db) w w' ∧ match r with
    | .ok a rest => ∃ v, e = .returned v ∧ V v w' a ∧ Dc lo hi db rb w' rest
    | .er n => e = .panicked (En db) ∧ Fl db rb w' n
def rdr : Rdr where
  RI := fun lo hi _ ρ w l => ∃ rb db, ρ = ⟨rb, 0, none⟩ ∧ Btw lo hi rb ∧ Btw lo hi db ∧ rb ≠ db ∧ hi ≤ w.heap.size ∧ (Rp rb db w ∧ Fr lo hi rb db w) ∧ Dc lo hi db rb w l ∧ l.length ≤ 65536
  St := fun lo hi _ ρ w n ch => ∃ rb db, ρ = ⟨rb, 0, none⟩ ∧ Btw lo hi rb ∧ Btw lo hi db ∧ rb ≠ db ∧ hi ≤ w.heap.size ∧ Fr lo hi rb db w ∧ Fl db rb w n ∧ ch = En db ∧ 0 < n

theorem Dc.keep {lo hi db rb : Nat} {w w' : World} {l : List Nat} (h : Dc lo hi db rb w l) (hd : w'.heap[db]? = w.heap[db]?) (hk : ∀ k, Btw lo hi k → w'.heap[k]? = w.heap[k]?) : Dc lo hi db rb w' l := by
  obtain ⟨A, c, h1, h2, h3, h4⟩ := h
  refine ⟨A, c, hd.trans h1, ⟨h2.1, fun i hi => ?_⟩, h3, h4⟩
  obtain ⟨b, o, e, hc⟩ := h2.2 i hi
  exact ⟨b, o, e, (World.cell?_of_block (a := ⟨b, o + i, none⟩) (hk b (h4 b o e (by omega)).1)).trans hc⟩
theorem Fr.keep {lo hi rb db : Nat} {w w' : World} (h : Fr lo hi rb db w) (hk : ∀ k, Btw lo hi k → k ≠ db → w'.heap[k]? = w.heap[k]?) : Fr lo hi rb db w' := by
  obtain ⟨h1, h2, h3, h4, h5⟩ := h
  exact ⟨h1, h2, h3, (hk (db + 1) ⟨by omega, by omega⟩ (by omega)).trans h4, (hk lo ⟨by omega, by omega⟩ (by omega)).trans h5⟩
theorem cd_keep (lo hi : Nat) (B : Option Addr) (ρ : Addr) (w w' : World) (l : List Nat) (h : rdr.RI lo hi B ρ w l) (hk : ∀ k, Btw lo hi k → w'.heap[k]? = w.heap[k]?) : rdr.RI lo hi B ρ w' l := by
  obtain ⟨rb, db, h1, h2, h3, h4, h5, h6, h7, h8⟩ := h
  refine ⟨rb, db, h1, h2, h3, h4, ?_, ⟨(hk _ h2).trans h6.1, h6.2.keep fun k h _ => hk k h⟩, h7.keep (hk _ h3) hk, h8⟩
  have hp : ∀ k, Btw lo hi k → k < w'.heap.size := fun k hb => by
    have e := hk k hb
    rcases Nat.lt_or_ge k w'.heap.size with h | h
    · exact h
    · rw [Array.getElem?_eq_none h] at e
      have := Array.getElem?_eq_none_iff.1 e.symm
      have := hb.2
      omega
  have := hp (hi - 1) ⟨by have := h2.1; have := h2.2; omega, by have := h2.2; omega⟩
  omega

theorem run_equalIn_same (d : Nat) (t e : TypeId) (p : Addr) (w : World) (h : Try.prog.underlying t = some (.pointer e)) (hi : (Try.prog.info? e).isSome = true) : (Op.equalIn (d + 1) t (.pointer (some p)) (.pointer (some p))).run Try.prog w = .ok true w := by
  obtain ⟨i, hi⟩ := Option.isSome_iff_exists.1 hi
  simp [Op.equalIn, run_underlying h, sizeOf, typeInfo, hi, sameAddr]
theorem run_neq_same (p : Addr) (w : World) : (binOp .neq 64 (.pointer (some p)) (.pointer (some p))).run Try.prog w = .ok (.bool false) w := by
  have h := run_equalIn_same 9999 64 91 p w Try.underlying64 (by kernel_rfl)
  have h' : (Op.equal 64 (.pointer (some p)) (.pointer (some p))).run Try.prog w = .ok true w := h
  simp only [binOp]
  simp [h']
theorem run_eql_same (p : Addr) (w : World) : (binOp .eql 87 (.pointer (some p)) (.pointer (some p))).run Try.prog w = .ok (.bool true) w := by
  have h := run_equalIn_same 9999 87 89 p w Try.underlying87 (by kernel_rfl)
  have h' : (Op.equal 87 (.pointer (some p)) (.pointer (some p))).run Try.prog w = .ok true w := h
  simp only [binOp]
  simp [h']

set_option maxHeartbeats 800000 in
theorem cd_running (rb db lo hi : Nat) (l : List Nat) (w : World) (h1 : Rp rb db w) (h2 : Dc lo hi db rb w l) :
    Calls Try.prog 50 #[.pointer (some ⟨rb, 0, none⟩)] w (fun e w' => e = .returned (.pointer (some ⟨db, 0, none⟩)) ∧ w = w') := by
  obtain ⟨A, c, h3, _⟩ := h2
  have a1 : w.cell? ⟨rb, 0, none⟩ = some (.pointer (some ⟨db, 0, none⟩)) := by rw [cell_of_row w _ 0 _ _ _ h1]; rfl
  have a2 : w.cell? ⟨db, 0, none⟩ = some (.pointer (some ⟨rb, 0, none⟩)) := by rw [cell_of_row w _ 0 _ _ _ h3]; rfl
  clear h1 h3
  have hne := fun W => run_neq_same ⟨rb, 0, none⟩ W
  go_enter Try.func50, Try.ntmps50
  go_wp2
  go_ret
  exact ⟨rfl, rfl⟩

set_option maxHeartbeats 800000 in
theorem cd_limit (m : Nat) (w : World) (hm : m < 9223372036854775808) :
    Calls Try.prog 49 #[.int .i64 (m : Int)] w (fun e w' => e = .returned (.int .u64 (m : Int)) ∧ w = w') := by
  have e1 : IntKind.u64.wrap (m : Int) = (m : Int) := by rw [IntKind.wrap_u64]; omega
  have d1 : (if (m : Int) < 0 then (0 : Int) else (m : Int)) = (m : Int) := if_neg (by omega)
  go_enter Try.func49, Try.ntmps49
  go_wp2
  all_goals go_ret
  all_goals first | exact ⟨rfl, rfl⟩ | skip

set_option maxHeartbeats 1600000 in
theorem cd_fail (rb db lo hi n : Nat) (l : List Nat) (w : World) (h2 : Dc lo hi db rb w l) :
    Calls Try.prog 54 #[.pointer (some ⟨db, 0, none⟩), .int .i64 (n : Int)] w (fun e w' => e = .returned (.agg #[.pointer (some ⟨db, 0, none⟩)]) ∧ Only (fun k => k = db) w w' ∧ Fl db rb w' n) := by
  obtain ⟨A, c, h3, _⟩ := h2
  have hlt : db < w.heap.size := (Array.getElem?_eq_some_iff.1 h3).1
  obtain ⟨S, hS⟩ : ∃ S, Value.slice A l.length c = S := ⟨_, rfl⟩
  rw [hS] at h3
  clear hS
  have c1 : w.cell? ⟨db, 1, none⟩ = some S := by rw [cell_of_row w _ 1 _ _ _ h3]; rfl
  have c2 : w.cell? ⟨db, 2, none⟩ = some (.int .i64 0) := by rw [cell_of_row w _ 2 _ _ _ h3]; rfl
  have z1 : w.frozen? ⟨db, 1, none⟩ = false := frozen_of_row w _ 1 _ _ h3
  have z2 : w.frozen? ⟨db, 2, none⟩ = false := frozen_of_row w _ 2 _ _ h3
  go_enter Try.func54, Try.ntmps54
  go_wp2
  have h5 := heap_setCell_same _ db 1 _ _ (.slice none 0 0) (heap_setCell_same w db 2 _ _ (.int .i64 (n : Int)) h3)
  have hsz : ((w.setCell ⟨db, 2, none⟩ (.int .i64 (n : Int))).setCell ⟨db, 1, none⟩ (.slice none 0 0)).heap.size = w.heap.size := by simp [World.setCell]
  have h6 := heap_alloc_new ((w.setCell ⟨db, 2, none⟩ (.int .i64 (n : Int))).setCell ⟨db, 1, none⟩ (.slice none 0 0)) (.cells #[.pointer (some ⟨db, 0, none⟩)] 95)
  rw [hsz] at h6
  refine bodyPost_ret (results_cell_row Try.results54 _ _ w.heap.size _ _ _ _ rfl h6 Try.underlying95 rfl (by kernel_rfl)) rfl ⟨rfl, ?_, ?_⟩
  · exact ((Only.of_grown (grown_set' w db 2 _) (fun k e => by injection e with e; exact e.symm)).trans (Only.of_grown (grown_set' _ db 1 _) (fun k e => by injection e with e; exact e.symm))).trans (Only.of_ext ((Ext.refl _).alloc _))
  · exact (heap_alloc_old _ _ (by rw [hsz]; exact hlt)).trans h5
end Go.Proofs.Ytnfgokbopndmgaa

/-
  What take of layer 8 does. Conditions: no more than 2^16 bytes are left.
-/
namespace Go.Proofs.Ytnfgokbopndmgaa
open Go.RowKit
open Pol (co Sm)

/-- Bytes of the decoding's own. -/
def InB (v : Value) (w : World) (t : List Nat) : Prop := ∃ A c, v = .slice A t.length c ∧ Rd w A t ∧ t.length ≤ c
theorem tab_drop (l : List Nat) (k : Nat) (h : k ≤ l.length) : tab (l.length - k) (fun j => co l (k + j)) = l.drop k := by
  apply List.ext_getElem?
  intro i
  unfold tab
  rw [List.getElem?_map, List.getElem?_drop]
  by_cases hi : i < l.length - k
  · rw [List.getElem?_range hi]
    have : k + i < l.length := by omega
    simp [co, List.getElem?_eq_getElem this]
  · rw [List.getElem?_eq_none (by simp; omega), List.getElem?_eq_none (by omega)]
    rfl

/-- s[:h], s[l:] of bytes, the bound of any kind. -/
theorem run_to_k (k : IntKind) (A : Option Addr) (len cap h : Nat) (hh : h ≤ cap) (W : World) :
    (Instr.slice 23 (.slice A len cap) none (some (.int k (h : Int))) none).run Try.prog W = .ok (.slice A h cap) W := by
  obtain ⟨i0, hi, hz0, hz1, hz2⟩ := info_parts u8_info
  have he : Try.prog.elem 23 = 5 := by kernel_rfl
  rw [run_slice_h W 23 _ len cap (by rw [he]; exact Try.underlying23) k (h : Int) (by omega) (by omega), he]
  cases A <;> simp [sizeOf, typeInfo, hi, hz1, Result.andThen, sliced, Addr.add]
theorem run_rest_k (k : IntKind) (A : Option Addr) (len cap l : Nat) (hl : l ≤ len) (hc : len ≤ cap) : ∃ X : Option Addr, (∀ W, (Instr.slice 23 (.slice A len cap) (some (.int k (l : Int))) none none).run Try.prog W = .ok (.slice X (len - l) (cap - l)) W) ∧
    (∀ w L, Rd w A L → L.length = len → Rd w X (L.drop l)) ∧ (∀ w L b o, Rd w A L → L.length = len → 0 < len - l → X = some ⟨b, o, none⟩ → ∃ o', A = some ⟨b, o', none⟩) := by
  obtain ⟨i0, hi, hz0, hz1, hz2⟩ := info_parts u8_info
  have he : Try.prog.elem 23 = 5 := by kernel_rfl
  refine ⟨if cap = l then A else A.map (·.add l), fun W => ?_, fun w L h hL => ?_, fun w L b o h hL h0 e => ?_⟩
  · rw [run_slice_l W 23 _ len cap (by rw [he]; exact Try.underlying23) k (l : Int) (by omega) (by omega), he]
    cases A <;> simp [sizeOf, typeInfo, hi, hz1, Result.andThen, sliced]
  · subst hL
    rw [← tab_drop L l hl]
    refine ⟨tab_sm _ _ fun _ _ => h.1 _, fun i hi => ?_⟩
    rw [tab_len] at hi
    obtain ⟨b', o', e, hc⟩ := h.2 (l + i) (by omega)
    subst e
    refine ⟨b', o' + l, by rw [if_neg (by omega)]; simp [addr_add], ?_⟩
    rw [co_tab, if_pos hi, Nat.add_assoc]
    exact hc
  · obtain ⟨b', o', e', _⟩ := h.2 0 (by omega)
    subst e'
    rw [if_neg (by omega)] at e
    simp [addr_add] at e
    exact ⟨o', by rw [e.1]⟩
theorem Only.put (w : World) (db o : Nat) (v : Value) : Only (fun k => k = db) w (w.setCell ⟨db, o, none⟩ v) := Only.of_grown (grown_set' w db o _) (fun k e => by injection e with e; exact e.symm)
/-- What is left now lies at X. -/
theorem Dc.cut {lo hi db rb : Nat} {w : World} {l : List Nat} {A X : Option Addr} {c c' n : Nat} (h3 : w.heap[db]? = some (.cells #[.pointer (some ⟨rb, 0, none⟩), .slice A l.length c, .int .i64 0] 89 (0, 0))) (hr : Rd w A l)
    (hb : ∀ b o, A = some ⟨b, o, none⟩ → 0 < l.length → Btw lo hi b ∧ b ≠ db) (hX : ∀ w L, Rd w A L → L.length = l.length → Rd w X (L.drop n))
    (hXA : ∀ w L b o, Rd w A L → L.length = l.length → 0 < l.length - n → X = some ⟨b, o, none⟩ → ∃ o', A = some ⟨b, o', none⟩) (hc : l.length - n ≤ c') :
    Dc lo hi db rb (w.setCell ⟨db, 1, none⟩ (.slice X (l.length - n) c')) (l.drop n) := by
  refine ⟨X, c', ?_, ?_, by rw [List.length_drop]; exact hc, fun b o e h => ?_⟩
  · rw [heap_setCell_same w db 1 _ _ _ h3, List.length_drop]; rfl
  · have h := hX w l hr rfl
    refine ⟨h.1, fun i hi => ?_⟩
    obtain ⟨b, o, e, hc⟩ := h.2 i hi
    rw [List.length_drop] at hi
    obtain ⟨o', e'⟩ := hXA w l b o hr rfl (by omega) e
    have := (hb b o' e' (by omega)).2
    exact ⟨b, o, e, (World.cell?_of_block (a := ⟨b, o + i, none⟩) (heap_setCell_other w ⟨db, 1, none⟩ b _ this)).trans hc⟩
  · rw [List.length_drop] at h
    obtain ⟨o', e'⟩ := hXA w l b o hr rfl h e
    exact hb b o' e' (by omega)

set_option maxHeartbeats 1600000 in
theorem cd_take (rb db lo hi n : Nat) (l : List Nat) (w : World) (hd : Dc lo hi db rb w l) (hl : l.length ≤ 65536) :
    Calls Try.prog 52 #[.pointer (some ⟨db, 0, none⟩), .int .u64 (n : Int)] w (DReads lo hi db rb InB (rdB n l) w) := by
  have HF := Lib.hid (cd_fail rb db lo hi 2 l w hd)
  obtain ⟨A, c, h3, hr, hlc, hAb⟩ := hd
  have hlt : db < w.heap.size := (Array.getElem?_eq_some_iff.1 h3).1
  obtain ⟨L, hL⟩ : ∃ L, l.length = L := ⟨_, rfl⟩
  rw [hL] at h3 hlc hl hAb
  have HL := Lib.hid hL
  have HAB := Lib.hid hAb
  clear hAb
  have c1 : w.cell? ⟨db, 1, none⟩ = some (.slice A L c) := by rw [cell_of_row w _ 1 _ _ _ h3]; rfl
  have z1 : w.frozen? ⟨db, 1, none⟩ = false := frozen_of_row w _ 1 _ _ h3
  have H3 := Lib.hid h3
  have HR := Lib.hid hr
  have e1 : IntKind.u64.wrap (L : Int) = (L : Int) := by rw [IntKind.wrap_u64]; omega
  clear hL h3 hr
  by_cases hc : L < n
  · have d1 : decide ((L : Int) < (n : Int)) = true := decide_eq_true (by omega)
    have hrd : rdB n l = .er 2 := by unfold rdB; rw [if_pos (by rw [HL.out]; exact hc)]
    rw [hrd]
    go_enter Try.func52, Try.ntmps52
    go_wp2_with fail
    refine HF.out.mono ?_
    rintro e w1 ⟨rfl, ho, hfl⟩
    have HO := Lib.hid ho
    have HFL := Lib.hid hfl
    clear ho hfl
    go_wp2
    exact ⟨rfl, HO.out, rfl, HFL.out⟩
  · have d1 : decide ((L : Int) < (n : Int)) = false := decide_eq_false (by omega)
    have hrd : rdB n l = .ok (l.take n) (l.drop n) := by unfold rdB; rw [if_neg (by rw [HL.out]; exact hc)]
    rw [hrd]
    have s1 := fun W => run_to_k .u64 A L c n (by omega) W
    obtain ⟨X, s2, hX, hXa⟩ := run_rest_k .u64 A L c n (by omega) hlc
    have hdc : Dc lo hi db rb (w.setCell ⟨db, 1, none⟩ (.slice X (L - n) (c - n))) (l.drop n) := by
      have hlL := HL.out
      subst hlL
      exact Dc.cut H3.out HR.out HAB.out hX hXa (by omega)
    have hrt : Rd (w.setCell ⟨db, 1, none⟩ (.slice X (L - n) (c - n))) A (l.take n) := by
      have h := HR.out.take n
      refine ⟨h.1, fun i hi => ?_⟩
      obtain ⟨b, o, e, hc⟩ := h.2 i hi
      rw [List.length_take] at hi
      have := (HAB.out b o e (by have := HL.out; omega)).2
      exact ⟨b, o, e, (World.cell?_of_block (a := ⟨b, o + i, none⟩) (heap_setCell_other w ⟨db, 1, none⟩ b _ this)).trans hc⟩
    have HDC := Lib.hid hdc
    have HRT := Lib.hid hrt
    have HN := Lib.hid (show (l.take n).length = n by rw [List.length_take, HL.out]; omega)
    clear hX hXa HF hdc hrt
    go_enter Try.func52, Try.ntmps52
    go_wp2
    go_ret
    exact ⟨Only.put _ _ _ _, _, rfl, ⟨A, c, by rw [HN.out]; rfl, HRT.out, by rw [HN.out]; omega⟩, HDC.out⟩
end Go.Proofs.Ytnfgokbopndmgaa

/-
  What number of layer 8's decoding does. Conditions: no more than 2^16 bytes are left.
-/
namespace Go.Proofs.Ytnfgokbopndmgaa
open Go.RowKit
open Pol (co Sm)

set_option maxRecDepth 100000 in
theorem andNot_128 : ∀ b : Nat, b < 256 → bits .andNot .u8 (b : Int) 128 = ((b % 128 : Nat) : Int) := by decide
theorem or_128 (a c k : Nat) (h : a < 128 ^ k) : a ||| c * 2 ^ (7 * k) = a + c * 128 ^ k := by
  rw [show (128 : Nat) ^ k = 2 ^ (7 * k) from by rw [Nat.pow_mul]] at *
  rw [Nat.or_comm, Nat.mul_comm, ← Nat.two_pow_add_eq_or_of_lt h, Nat.add_comm, Nat.mul_comm]
/-- One byte more. -/
theorem num_step {i acc b : Nat} (ha : acc < 128 ^ i) (hi : i ≤ 9) (hb : i = 9 → b ≤ 1) : acc + b % 128 * 128 ^ i < 128 ^ (i + 1) ∧ acc + b % 128 * 128 ^ i < 18446744073709551616 ∧ b % 128 * 128 ^ i < 18446744073709551616 := by
  have h1 : b % 128 ≤ 127 := by omega
  have h2 : b % 128 * 128 ^ i ≤ 127 * 128 ^ i := Nat.mul_le_mul_right _ h1
  have h3 : 128 ^ (i + 1) = 128 * 128 ^ i := by rw [Nat.pow_succ, Nat.mul_comm]
  refine ⟨by omega, ?_, ?_⟩
  all_goals
    rcases Nat.lt_or_ge i 9 with h9 | h9
    · have h4 : 128 ^ (i + 1) ≤ 128 ^ 9 := Nat.pow_le_pow_right (by omega) h9
      have h5 : (128 : Nat) ^ 9 = 9223372036854775808 := by decide
      omega
    · obtain rfl : i = 9 := by omega
      have h5 : (128 : Nat) ^ 9 = 9223372036854775808 := by decide
      rw [h5] at *
      have := hb rfl
      omega
theorem rv_drop (m i acc : Nat) (l : List Nat) (h : i < l.length) : rv m i acc (l.drop i) =
    if i = 9 ∧ 1 < co l i ∨ 0 < i ∧ co l i = 0 then .er 14 else if co l i < 128 then (if m < acc + co l i % 128 * 128 ^ i then .er 10 else .ok (acc + co l i % 128 * 128 ^ i) (l.drop (i + 1))) else rv m (i + 1) (acc + co l i % 128 * 128 ^ i) (l.drop (i + 1)) := by
  rw [List.drop_eq_getElem_cons h, rv, show co l i = l[i] from by simp [co, List.getElem?_eq_getElem h]]

set_option maxHeartbeats 3200000 in
set_option maxRecDepth 100000 in
theorem cd_number (rb db lo hi m : Nat) (l : List Nat) (w : World) (hd : Dc lo hi db rb w l) (hl : l.length ≤ 65536) :
    Calls Try.prog 51 #[.pointer (some ⟨db, 0, none⟩), .int .u64 (m : Int)] w (DReads lo hi db rb (fun v _ (n : Nat) => v = .int .u64 (n : Int)) (rdN m l) w) := by
  have HF := Lib.hid (fun n => cd_fail rb db lo hi n l w hd)
  obtain ⟨A, c, h3, hr, hlc, hAb⟩ := hd
  obtain ⟨L, hL⟩ : ∃ L, l.length = L := ⟨_, rfl⟩
  have HDC := Lib.hid (fun (X : Option Addr) (c' n : Nat) (hX : ∀ w M, Rd w A M → M.length = L → Rd w X (M.drop n)) (hXA : ∀ w M b o, Rd w A M → M.length = L → 0 < L - n → X = some ⟨b, o, none⟩ → ∃ o', A = some ⟨b, o', none⟩) (hc : L - n ≤ c') =>
    show Dc lo hi db rb (w.setCell ⟨db, 1, none⟩ (.slice X (L - n) c')) (l.drop n) from by subst hL; exact Dc.cut h3 hr hAb hX hXA hc)
  rw [hL] at h3 hlc hl
  have HL := Lib.hid hL
  have c1 : w.cell? ⟨db, 1, none⟩ = some (.slice A L c) := by rw [cell_of_row w _ 1 _ _ _ h3]; rfl
  have z1 : w.frozen? ⟨db, 1, none⟩ = false := frozen_of_row w _ 1 _ _ h3
  have HR := Lib.hid hr
  obtain ⟨T, hT⟩ : ∃ T, rdN m l = T := ⟨_, rfl⟩
  have HT0 := Lib.hid (show rv m 0 0 (l.drop 0) = T from hT)
  rw [hT]
  clear hL h3 hr hAb hT
  go_enter Try.func51, Try.ntmps51
  go_wp2
  go_loopg [5, 13] L (fun g v s wx => ∃ i acc : Nat, i + g = L ∧ i ≤ 9 + 0 * g ∧ s = .int .i64 (i : Int) ∧ v = .int .u64 (acc : Int) ∧ acc < 128 ^ i ∧ rv m i acc (l.drop i) = T ∧ w = wx)
  case atStart => exact ⟨0, 0, by omega, by omega, rfl, rfl, by decide, HT0.out, rfl⟩
  case round =>
    obtain ⟨i, acc, hig, hi9, rfl, rfl, hac, hrv, rfl⟩ := hrel
    cases gk with
    | zero =>
      obtain rfl : i = L := by omega
      have hrt : Rs.er 2 = T := by
        rw [← hrv, List.drop_eq_nil_of_le (by rw [HL.out]; omega), rv]
      subst hrt
      clear hrv hig
      go_wp2_with fail
      refine (HF.out 2).mono ?_
      rintro e w1 ⟨rfl, ho, hfl⟩
      have HO := Lib.hid ho
      have HFL := Lib.hid hfl
      clear ho hfl
      go_wp2
      exact ⟨rfl, HO.out, rfl, HFL.out⟩
    | succ g =>
      have hi : i < L := by omega
      have hil : i < l.length := by rw [HL.out]; exact hi
      have hiI : (i : Int) < (L : Int) := by omega
      obtain ⟨bk, o, rfl, hcb⟩ := HR.out.2 i hil
      have hb256 : co l i < 256 := HR.out.1 i
      rw [rv_drop m i acc l hil] at hrv
      obtain ⟨b, hb⟩ : ∃ b, co l i = b := ⟨_, rfl⟩
      rw [hb] at hrv hb256 hcb
      have HIG := Lib.hid hig
      clear hil hb hig
      by_cases hk1 : i = 9 ∧ 1 < b
      · have d1 : ((i : Int) == 9) = true := by simp; omega
        have d2 : decide (1 < (b : Int)) = true := decide_eq_true (by omega)
        rw [if_pos (.inl hk1)] at hrv
        subst hrv
        clear hk1 hac
        go_wp2_with fail
        refine (HF.out 14).mono ?_
        rintro e w1 ⟨rfl, ho, hfl⟩
        have HO := Lib.hid ho
        have HFL := Lib.hid hfl
        clear ho hfl
        go_wp2
        exact ⟨rfl, HO.out, rfl, HFL.out⟩
      · have hst := num_step hac (b := b) (by omega) (by omega)
        obtain ⟨q, hq⟩ : ∃ q, b % 128 = q := ⟨_, rfl⟩
        have ean : bits .andNot .u8 (b : Int) 128 = (q : Int) := by rw [andNot_128 b hb256, hq]
        have hq128 : q < 128 := by omega
        have hor := or_128 acc q i hac
        rw [hq] at hst hrv
        obtain ⟨t, ht⟩ : ∃ t, q * 128 ^ i = t := ⟨_, rfl⟩
        obtain ⟨X, hX⟩ : ∃ X, acc + t = X := ⟨_, rfl⟩
        rw [ht] at hst hrv hor
        rw [hX] at hst hrv hor
        have hac64 : acc < 18446744073709551616 := by omega
        have esh : IntKind.u64.wrap ((q : Int) * 2 ^ (7 * i)) = (t : Int) := by
          rw [show (2 : Int) ^ (7 * i) = ((128 ^ i : Nat) : Int) from by rw [Int.natCast_pow, Int.pow_mul]; rfl, ← Int.natCast_mul, ht]
          exact IntWalk.u64_in _ (by omega)
        have eor : bits .or .u64 (acc : Int) (t : Int) = (X : Int) := by
          rw [u64_or_nat _ _ hac64 hst.2.2]
          rw [show q * 2 ^ (7 * i) = t from by rw [← ht, Nat.pow_mul]] at hor
          rw [hor]
        have hX64 : X < 18446744073709551616 := hst.2.1
        have HXB := Lib.hid hst.1
        clear hor hst ht hX hac hq
        have hcase : (((i : Int) == 9) = false) ∨ (((i : Int) == 9) = true ∧ decide (1 < (b : Int)) = false) := by
          by_cases h9 : i = 9
          · exact .inr ⟨by simp; omega, decide_eq_false (by omega)⟩
          · exact .inl (by simp; omega)
        have hi9' : b < 128 ∨ i + 1 ≤ 9 + 0 * g := by omega
        by_cases h128 : b < 128
        · have d3 : decide (128 ≤ (b : Int)) = false := decide_eq_false (by omega)
          clear hi9'
          by_cases hz : 0 < i ∧ b = 0
          · rw [if_pos (.inr hz)] at hrv
            subst hrv
            obtain ⟨hz1, rfl⟩ := hz
            have d4 : decide (0 < i) = true := decide_eq_true hz1
            rcases hcase with d1 | ⟨d1, d2⟩
            all_goals
              clear hk1
              go_wp2_with fail
              refine (HF.out 14).mono ?_
              rintro e w1 ⟨rfl, ho, hfl⟩
              have HO := Lib.hid ho
              have HFL := Lib.hid hfl
              clear ho hfl
              go_wp2
              exact ⟨rfl, HO.out, rfl, HFL.out⟩
          · rw [if_neg (by omega), if_pos h128] at hrv
            have hcz : (((b : Int) == 0) = false) ∨ (((b : Int) == 0) = true ∧ decide (0 < i) = false) := by
              by_cases h9 : b = 0
              · exact .inr ⟨by simp; omega, decide_eq_false (by omega)⟩
              · exact .inl (by simp; omega)
            clear hz
            by_cases hmX : m < X
            · rw [if_pos hmX] at hrv
              subst hrv
              have d5 : decide ((m : Int) < (X : Int)) = true := decide_eq_true (by omega)
              rcases hcase with d1 | ⟨d1, d2⟩
              all_goals
                rcases hcz with d4 | ⟨d4, d6⟩
              all_goals
                clear hk1
                go_wp2_with fail
                refine (HF.out 10).mono ?_
                rintro e w1 ⟨rfl, ho, hfl⟩
                have HO := Lib.hid ho
                have HFL := Lib.hid hfl
                clear ho hfl
                go_wp2
                exact ⟨rfl, HO.out, rfl, HFL.out⟩
            · obtain ⟨k, hk⟩ : ∃ k, i + 1 = k := ⟨_, rfl⟩
              rw [if_neg hmX, hk] at hrv
              subst hrv
              have d5 : decide ((m : Int) < (X : Int)) = false := decide_eq_false (by omega)
              obtain ⟨Z, s2, hZ, hZA⟩ := run_rest_k .i64 (some ⟨bk, o, none⟩) L c k (by omega) hlc
              have HD := Lib.hid (HDC.out Z (c - k) k hZ hZA (by omega))
              have ek' : (i : Int) + 1 = (k : Int) := by omega
              clear hZ hZA hk HDC
              rcases hcase with d1 | ⟨d1, d2⟩
              all_goals
                rcases hcz with d4 | ⟨d4, d6⟩
              all_goals
                clear hk1
                go_wp2
                go_ret
                exact ⟨Only.put _ _ _ _, _, rfl, rfl, HD.out⟩
        · have d3 : decide (128 ≤ (b : Int)) = true := decide_eq_true (by omega)
          rw [if_neg (by omega), if_neg h128] at hrv
          have hi2 : i + 1 ≤ 9 + 0 * g := by omega
          rcases hcase with d1 | ⟨d1, d2⟩
          all_goals
            clear hk1
            go_wp2
            go_roundg g
            case measure => omega
            case rel => exact ⟨i + 1, X, by have := HIG.out; omega, hi2, by go_num, rfl, HXB.out, hrv, rfl⟩
end Go.Proofs.Ytnfgokbopndmgaa

/-
  What the reader's Number of layer 8 does. Conditions: none beyond what a reader is.
-/
namespace Go.Proofs.Ytnfgokbopndmgaa
open Go.RowKit
open Pol (co Sm)

/-- A call at the decoding is a call at the reader. -/
theorem DReads.reads {α : Type} {lo hi db rb : Nat} {B : Option Addr} {V : Value → World → α → Prop} {r : Rs α} {w w' : World} {e : Ending} (h : DReads lo hi db rb V r w e w')
    (h2 : Btw lo hi rb) (h3 : Btw lo hi db) (h4 : rb ≠ db) (h5 : hi ≤ w.heap.size) (h6 : Rp rb db w ∧ Fr lo hi rb db w) (hok : ∀ a rest, r = .ok a rest → rest.length ≤ 65536) (her : ∀ n, r = .er n → 0 < n) :
    Reads rdr lo hi B ⟨rb, 0, none⟩ V r w e w' := by
  obtain ⟨ho, h⟩ := h
  refine ⟨ho.mono fun k _ hk => by subst hk; exact h3, ?_⟩
  have h5' : hi ≤ w'.heap.size := Nat.le_trans h5 ho.size
  have h6' : Rp rb db w' := (ho.block rb (Nat.lt_of_lt_of_le h2.2 h5) (fun e => h4 e)).trans h6.1
  have h6f : Fr lo hi rb db w' := h6.2.keep fun k hk hne => ho.block k (Nat.lt_of_lt_of_le hk.2 h5) hne
  cases r with
  | ok a rest =>
    obtain ⟨v, he, hv, hd⟩ := h
    exact ⟨v, he, hv, rb, db, rfl, h2, h3, h4, h5', ⟨h6', h6f⟩, hd, hok a rest rfl⟩
  | er n => exact ⟨_, h.1, rb, db, rfl, h2, h3, h4, h5', h6f, h.2, rfl, her n rfl⟩
theorem Dc.sm {lo hi db rb : Nat} {w : World} {l : List Nat} (h : Dc lo hi db rb w l) : Sm l := by
  obtain ⟨_, _, _, h, _⟩ := h
  exact h.1
theorem rdN_len {m n : Nat} {l rest : List Nat} (hs : Sm l) (h : rdN m l = .ok n rest) : rest.length ≤ l.length := by
  rw [(vn_rdN hs h).1, List.length_append]
  omega

set_option maxHeartbeats 1600000 in
theorem cd_Number (lo hi : Nat) (B : Option Addr) (ρ : Addr) (w : World) (l : List Nat) (m : Nat) (h : rdr.RI lo hi B ρ w l) :
    Calls Try.prog 36 #[.pointer (some ρ), .int .u64 (m : Int)] w (Reads rdr lo hi B ρ (fun v _ (n : Nat) => v = .int .u64 (n : Int)) (rdN m l) w) := by
  obtain ⟨rb, db, rfl, h2, h3, h4, h5, h6, h7, h8⟩ := h
  have HR := Lib.hid (cd_running rb db lo hi l w h6.1 h7)
  have HN := Lib.hid ((cd_number rb db lo hi m l w h7 h8).mono fun e w' h => h.reads (B := B) h2 h3 h4 h5 h6 (fun a rest e => Nat.le_trans (rdN_len h7.sm e) h8) (fun n e => (rdN_er e).1))
  clear h2 h3 h4 h5 h6 h7 h8
  generalize rdN m l = r at *
  go_enter Try.func36, Try.ntmps36
  go_wp2_with fail
  refine HR.out.mono ?_
  rintro e w1 ⟨rfl, rfl⟩
  go_wp2_with fail
  refine HN.out.mono ?_
  rintro e w1 ⟨ho, h⟩
  cases r with
  | ok a rest =>
    obtain ⟨v, rfl, rfl, hi1⟩ := h
    have HO := Lib.hid ho
    have HI := Lib.hid hi1
    clear ho hi1
    go_wp2
    go_ret
    exact ⟨HO.out, _, rfl, rfl, HI.out⟩
  | er n =>
    obtain ⟨ch, rfl, hst⟩ := h
    exact ⟨rfl, ho, ch, rfl, hst⟩

end Go.Proofs.Ytnfgokbopndmgaa

/-
  What Text of layer 8's reader does. Conditions: none beyond what a reader is.
-/
namespace Go.Proofs.Ytnfgokbopndmgaa
open Go.RowKit
open Pol (co Sm)

theorem rdT_ok {m n : Nat} {l r1 : List Nat} (h : rdN m l = .ok n r1) : rdT m l = rdB n r1 := by unfold rdT; rw [h]; rfl
theorem rdT_er' {m n : Nat} {l : List Nat} (h : rdN m l = .er n) : rdT m l = .er n := by unfold rdT; rw [h]; rfl
theorem Dc.ext {lo hi db rb : Nat} {w w' : World} {l : List Nat} (h : Dc lo hi db rb w l) (h3 : Btw lo hi db) (h5 : hi ≤ w.heap.size) (hx : Ext w w') : Dc lo hi db rb w' l :=
  h.keep (hx.below.block _ (Nat.lt_of_lt_of_le h3.2 h5)) (fun _ hk => hx.below.block _ (Nat.lt_of_lt_of_le hk.2 h5))
theorem rdB_len {n : Nat} {l t rest : List Nat} (h : rdB n l = .ok t rest) : rest.length ≤ l.length := by
  rw [(rdB_ok h).1, List.length_append]
  omega
theorem OwnB.of_mine {w : World} {base : Nat} {v : Value} {t : List Nat} (h : Mine w base v t) (hs : Sm t) : OwnB base v w t := by
  obtain ⟨B, c, rfl, hc, hr⟩ := h.slice hs
  exact ⟨B, c, rfl, hc, hr, fun b o e _ => (h.block b (by rw [e]; rfl)).1⟩

set_option maxHeartbeats 1600000 in
theorem cd_Text (lo hi : Nat) (B : Option Addr) (ρ : Addr) (w : World) (l : List Nat) (m : Nat) (h : rdr.RI lo hi B ρ w l) (hm : m < 9223372036854775808) :
    Calls Try.prog 37 #[.pointer (some ρ), .int .i64 (m : Int)] w (Reads rdr lo hi B ρ (OwnB w.heap.size) (rdT m l) w) := by
  obtain ⟨rb, db, rfl, h2, h3, h4, h5, h6, h7, h8⟩ := h
  have HR := Lib.hid (cd_running rb db lo hi l w h6.1 h7)
  have HL := Lib.hid (cd_limit m w hm)
  have HN := Lib.hid (cd_number rb db lo hi m l w h7 h8)
  have HRD := Lib.hid (fun (w' : World) (e : Ending) (h : DReads lo hi db rb (OwnB w.heap.size) (rdT m l) w e w') => h.reads (B := B) h2 h3 h4 h5 h6
    (fun a rest e => Nat.le_trans (by have := (vt_rdT h7.sm e).1; rw [this, List.length_append]; omega) h8) (fun n e => (rdT_er e).1))
  have HS := Lib.hid h7.sm
  have H3 := Lib.hid h3
  have H5 := Lib.hid h5
  have H8 := Lib.hid h8
  clear h2 h4 h6 h7 h3 h5 h8
  go_enter Try.func37, Try.ntmps37
  go_wp2_with fail
  refine HR.out.mono ?_
  rintro e w1 ⟨rfl, rfl⟩
  go_wp2_with fail
  refine HL.out.mono ?_
  rintro e w1 ⟨rfl, rfl⟩
  go_wp2_with fail
  refine HN.out.mono ?_
  rintro e w1 ⟨ho, h⟩
  cases hr : rdN m l with
  | er n =>
    rw [hr] at h
    obtain ⟨rfl, hf⟩ := h
    exact ⟨rfl, HRD.out _ _ (by rw [rdT_er' hr]; exact ⟨ho, rfl, hf⟩)⟩
  | ok n r1 =>
    rw [hr] at h
    obtain ⟨v, rfl, rfl, hd1⟩ := h
    have e1 := rdT_ok hr
    have hl1 := Nat.le_trans (rdN_len HS.out hr) H8.out
    have h51 := Nat.le_trans H5.out ho.size
    have E1 := Lib.hid e1
    have HT := Lib.hid (cd_take rb db lo hi n r1 w1 hd1 hl1)
    have HO := Lib.hid ho
    have HD := Lib.hid hd1
    have HL1 := Lib.hid hl1
    have H51 := Lib.hid h51
    clear ho hd1 hl1 h51 e1 HN HL HR hr
    go_wp2_with fail
    refine HT.out.mono ?_
    rintro e w2 ⟨ho2, h⟩
    cases hr2 : rdB n r1 with
    | er k =>
      rw [hr2] at h
      obtain ⟨rfl, hf⟩ := h
      exact ⟨rfl, HRD.out _ _ (by rw [E1.out, hr2]; exact ⟨HO.out.trans ho2, rfl, hf⟩)⟩
    | ok t rest =>
      rw [hr2] at h
      have E2 := Lib.hid (E1.out.trans hr2)
      obtain ⟨v, rfl, ⟨A, c, rfl, hrt, htc⟩, hd2⟩ := h
      have htl : t.length ≤ 65536 := by
        have := (rdB_ok hr2).1
        have h := HL1.out
        rw [this, List.length_append] at h
        omega
      have h52 := Nat.le_trans H51.out ho2.size
      have hsz := Nat.le_trans HO.out.size ho2.size
      have HRT := Lib.hid hrt
      have HD2 := Lib.hid hd2
      have HO2 := Lib.hid (HO.out.trans ho2)
      have H52 := Lib.hid h52
      have HSZ := Lib.hid hsz
      clear hrt hd2 ho2 h52 hr2 HT HD HO hsz
      obtain ⟨T, hT⟩ : ∃ T, t.length = T := ⟨_, rfl⟩
      have HTE := Lib.hid hT
      rw [hT] at htc htl ⊢
      clear hT
      go_wp2_with (at_builtin; refine wpList_append_rd rfl (.const (.slice none 0 0)) (.tmp 17) rfl w.heap.size (.slice none 0 0) [] t rfl (Mine.nil _ _) A T c rfl HTE.out HRT.out (by have := HTE.out; simp; omega) HSZ.out ?_; intro v' w3 hown' hg' hat'; have hx3 := (Ext.refl w2).more hg' (fun r e => by simp [Value.ownBlock] at e); have HM := Lib.hid (OwnB.of_mine hown' HRT.out.1); have HX3 := Lib.hid hx3; clear hown' hg' hat' hx3)
      go_ret
      exact HRD.out _ _ (by rw [E2.out]; exact ⟨HO2.out.trans (Only.of_ext HX3.out), _, rfl, HM.out, HD2.out.ext H3.out H52.out HX3.out⟩)
end Go.Proofs.Ytnfgokbopndmgaa

/-
  What the reader's Count of layer 8 does. Conditions: none beyond what a reader is.
-/
namespace Go.Proofs.Ytnfgokbopndmgaa
open Go.RowKit
open Pol (co Sm)

set_option maxHeartbeats 1600000 in
theorem cd_Count (lo hi : Nat) (B : Option Addr) (ρ : Addr) (w : World) (l : List Nat) (m : Nat) (h : rdr.RI lo hi B ρ w l) (hm : m < 9223372036854775808) :
    Calls Try.prog 35 #[.pointer (some ρ), .int .i64 (m : Int)] w (Reads rdr lo hi B ρ (fun v _ (n : Nat) => v = .int .i64 (n : Int)) (rdN m l) w) := by
  have hle : ∀ n rest, rdN m l = .ok n rest → n ≤ m := fun n rest e => by
    obtain ⟨rb, db, _, _, _, _, _, _, h7, _⟩ := h
    exact (vn_rdN h7.sm e).2.2
  have HL := Lib.hid (cd_limit m w hm)
  have HN := Lib.hid (cd_Number lo hi B ρ w l m h)
  clear h
  generalize rdN m l = r at *
  go_enter Try.func35, Try.ntmps35
  go_wp2_with fail
  refine HL.out.mono ?_
  rintro e w1 ⟨rfl, rfl⟩
  go_wp2_with fail
  refine HN.out.mono ?_
  rintro e w1 ⟨ho, h⟩
  cases r with
  | ok a rest =>
    obtain ⟨v, rfl, rfl, hi1⟩ := h
    have HO := Lib.hid ho
    have HI := Lib.hid hi1
    have ha := hle a rest rfl
    have e1 : IntKind.i64.wrap (a : Int) = (a : Int) := by rw [IntKind.wrap_i64]; omega
    clear ho hi1
    go_wp2
    go_ret
    exact ⟨HO.out, _, rfl, rfl, HI.out⟩
  | er n =>
    obtain ⟨ch, rfl, hst⟩ := h
    exact ⟨rfl, ho, ch, rfl, hst⟩

end Go.Proofs.Ytnfgokbopndmgaa

/-
  What the deferred function of layer 8's Read does: where the decoding has ended by an error it recovers and tells it; else it lets everything be. Conditions: none.
-/
namespace Go.Proofs.Ytnfgokbopndmgaa
open Go.RowKit
open Pol (co Sm)

set_option maxHeartbeats 800000 in
theorem cd_ends (db : Nat) (w : World) :
    Calls Try.prog 48 #[.pointer (some ⟨db, 0, none⟩), .iface 95 (.agg #[.pointer (some ⟨db, 0, none⟩)])] w (Tells (.bool true) w) := by
  have hta : ∀ (v : Value) (W : World), (Instr.typeAssert (.iface 95 v) 20 95 true).run Try.prog W = .ok (.tuple #[v, .bool true]) W := fun v W => by kernel_rfl
  have heq := fun W => run_eql_same ⟨db, 0, none⟩ W
  have HX := Lib.hid ((Ext.refl w).alloc (.cells #[.pointer (some ⟨db, 0, none⟩)] 95))
  go_enter Try.func48, Try.ntmps48
  go_wp2
  go_ret
  exact ⟨rfl, HX.out⟩


set_option maxHeartbeats 1600000 in
theorem cd_end_quiet (db rb g dv : Nat) (S : Value) (u : FrameMode) (w : World) (hd : w.heap[db]? = some (.cells #[.pointer (some ⟨rb, 0, none⟩), S, .int .i64 0] 89 (0, 0)))
    (hv : w.cell? ⟨dv, 0, none⟩ = some (.pointer (some ⟨db, 0, none⟩))) :
    CallsD Try.prog 47 #[.pointer (some ⟨dv, 0, none⟩), .pointer (some ⟨g, 0, none⟩)] u w fun e u' w' => u' = u ∧ (e = .returned (.tuple #[]) ∧ Only (fun k => k = db) w w') := by
  have c0 : w.cell? ⟨db, 0, none⟩ = some (.pointer (some ⟨rb, 0, none⟩)) := by rw [cell_of_row w _ 0 _ _ _ hd]; rfl
  have c1 : w.cell? ⟨db, 1, none⟩ = some S := by rw [cell_of_row w _ 1 _ _ _ hd]; rfl
  have c2 : w.cell? ⟨db, 2, none⟩ = some (.int .i64 0) := by rw [cell_of_row w _ 2 _ _ _ hd]; rfl
  have z0 : w.frozen? ⟨db, 0, none⟩ = false := frozen_of_row w _ 0 _ _ hd
  have z1 : w.frozen? ⟨db, 1, none⟩ = false := frozen_of_row w _ 1 _ _ hd
  have z2 : w.frozen? ⟨db, 2, none⟩ = false := frozen_of_row w _ 2 _ _ hd
  have HO := Lib.hid (((Only.put w db 0 (.pointer none)).trans (Only.put _ db 1 (.slice none 0 0))).trans (Only.put _ db 2 (.int .i64 0)))
  clear hd
  refine callsD_of_wp Try.func47 rfl ?_
  simp only [Try.ntmps47, List.size_toArray, List.length_cons, List.length_nil, Nat.reduceAdd, Nat.reduceSub, Array.replicate_succ, Array.replicate_zero, List.push_toArray, List.append_toArray, List.nil_append, List.cons_append]
  go_wp2
  exact ⟨rfl, .tuple #[], by simp [results, Try.results47], rfl, HO.out⟩

set_option maxHeartbeats 3200000 in
theorem cd_end_tells (db rb g dv n : Nat) (S : Value) (w : World) (hd : w.heap[db]? = some (.cells #[.pointer (some ⟨rb, 0, none⟩), S, .int .i64 (n : Int)] 89 (0, 0)))
    (hv : w.cell? ⟨dv, 0, none⟩ = some (.pointer (some ⟨db, 0, none⟩))) (hg : w.heap[g]? = some (.cells #[.int .i64 0] 27 (0, 0))) (hgd : g ≠ db) (hvd : dv ≠ db) (hn : 0 < n) :
    CallsD Try.prog 47 #[.pointer (some ⟨dv, 0, none⟩), .pointer (some ⟨g, 0, none⟩)] (.panicking (En db)) w fun e u' w' =>
      e = .returned (.tuple #[]) ∧ u' = .panicking [{ v := .iface 95 (.agg #[.pointer (some ⟨db, 0, none⟩)]), recovered := true }] ∧ Only (fun k => k = db ∨ k = g) w w' ∧ w'.cell? ⟨g, 0, none⟩ = some (.int .i64 (n : Int)) := by
  have c0 : w.cell? ⟨db, 0, none⟩ = some (.pointer (some ⟨rb, 0, none⟩)) := by rw [cell_of_row w _ 0 _ _ _ hd]; rfl
  have c1 : w.cell? ⟨db, 1, none⟩ = some S := by rw [cell_of_row w _ 1 _ _ _ hd]; rfl
  have c2 : w.cell? ⟨db, 2, none⟩ = some (.int .i64 (n : Int)) := by rw [cell_of_row w _ 2 _ _ _ hd]; rfl
  have z0 : w.frozen? ⟨db, 0, none⟩ = false := frozen_of_row w _ 0 _ _ hd
  have z1 : w.frozen? ⟨db, 1, none⟩ = false := frozen_of_row w _ 1 _ _ hd
  have z2 : w.frozen? ⟨db, 2, none⟩ = false := frozen_of_row w _ 2 _ _ hd
  obtain ⟨W, hW⟩ : ∃ W, ((w.setCell ⟨db, 0, none⟩ (.pointer none)).setCell ⟨db, 1, none⟩ (.slice none 0 0)).setCell ⟨db, 2, none⟩ (.int .i64 0) = W := ⟨_, rfl⟩
  have ho : Only (fun k => k = db) w W := by rw [← hW]; exact ((Only.put w db 0 _).trans (Only.put _ db 1 _)).trans (Only.put _ db 2 _)
  have d1 : decide (n = 0) = false := decide_eq_false (by omega)
  have d2 : ((n : Int) == 0) = false := by simp; omega
  refine callsD_of_wpS Try.func47 rfl fun c₀ cs hu => ?_
  simp only [Try.ntmps47, List.size_toArray, List.length_cons, List.length_nil, Nat.reduceAdd, Nat.reduceSub, Array.replicate_succ, Array.replicate_zero, List.push_toArray, List.append_toArray, List.nil_append, List.cons_append]
  refine wpS_seq (wpS_of_wp ?_)
  go_wp2
  simp only [Exit.thenS]
  refine wpS_seq (wpS_of_wp ?_)
  go_wp2
  simp only [Exit.thenS]
  have hvW := ho.cell hv hvd
  have hgW : W.heap[g]? = some (.cells #[.int .i64 0] 27 (0, 0)) := (ho.block g (Array.getElem?_eq_some_iff.1 hg).1 hgd).trans hg
  have HGW := Lib.hid hgW
  have HO := Lib.hid ho
  clear c0 c1 c2 z0 z1 z2 hd hg hgW ho hW
  refine wpS_seq (wpS_of_wp ?_)
  go_wp2
  simp only [Exit.thenS]
  refine wpS_seq (wpS_seq ?_)
  apply wpS_region
  simp [wpOpsS, go_sem, recoverD, hu, Exit.thenS, En]
  refine wpS_of_wp ?_
  have HE := Lib.hid (cd_ends db W)
  go_wp2_with fail
  refine HE.out.mono ?_
  rintro e w1 ⟨rfl, hx⟩
  have hg1 : w1.heap[g]? = some (.cells #[.int .i64 0] 27 (0, 0)) := (hx.below.block g (Array.getElem?_eq_some_iff.1 HGW.out).1).trans HGW.out
  have c1 : w1.cell? ⟨g, 0, none⟩ = some (.int .i64 0) := by rw [cell_of_row w1 _ 0 _ _ _ hg1]; rfl
  have z1 : w1.frozen? ⟨g, 0, none⟩ = false := frozen_of_row w1 _ 0 _ _ hg1
  have HO1 := Lib.hid (((HO.out.trans (Only.of_ext hx)).mono (Y := fun k => k = db ∨ k = g) (fun _ _ h => .inl h)).trans ((Only.put w1 g 0 (.int .i64 (n : Int))).mono fun _ _ h => .inr h))
  have HC1 := Lib.hid (World.cell?_setCell_same' w1 ⟨g, 0, none⟩ (.int .i64 (n : Int)) (by rw [c1]; rfl))
  clear hx hg1 hv hvW
  go_wp2
  simp only [Exit.thenS]
  refine wpS_of_wp ?_
  go_wp2
  exact ⟨rfl, _, rfl, .tuple #[], by simp [results, Try.results47], rfl, rfl, HO1.out, HC1.out⟩
end Go.Proofs.Ytnfgokbopndmgaa

/-
  What Read of layer 8 does. Conditions: no more than 2^16 bytes.
-/
namespace Go.Proofs.Ytnfgokbopndmgaa
open Go.RowKit
open Pol (co Sm)

theorem old3 (w : World) (A B C : Obj) : (((w.alloc A).alloc B).alloc C).heap[w.heap.size]? = some A :=
  (heap_alloc_old _ _ (by simp; omega)).trans (heap_alloc2_old _ _ _)
theorem mid3 (w : World) (A B C : Obj) : (((w.alloc A).alloc B).alloc C).heap[w.heap.size + 1]? = some B :=
  (heap_alloc_old _ _ (by simp)).trans (heap_alloc2_new _ _ _)
theorem run_func_not_nil (fn : FuncId) (caps : Array Value) (w : World) : (binOp .neq 68 (.func (.func fn) #[] caps) .nilFunc).run Try.prog w = .ok (.bool true) w := by
  have h : ∀ d, (Op.equalIn (d + 1) 68 (.func (.func fn) #[] caps) .nilFunc).run Try.prog w = .ok false w := fun d => by
    simp [Op.equalIn, run_underlying Try.underlying68]
  have h' : (Op.equal 68 (.func (.func fn) #[] caps) .nilFunc).run Try.prog w = .ok false w := h 9999
  simp only [binOp]
  simp [h']

theorem read_results (tmps : Array Value) (w : World) (g : Nat) (n : Int) (ht : tmps.getD 4 undef = .pointer (some ⟨g, 0, none⟩)) (hc : w.cell? ⟨g, 0, none⟩ = some (.int .i64 n)) :
    (results Try.f33 tmps).run Try.prog w = .ok (.int .i64 n) w := by
  have ht' : tmps[4]?.getD undef = .pointer (some ⟨g, 0, none⟩) := by simpa using ht
  simp [results, Try.results33, go_sem, ht', hc]
theorem only_done {lo db : Nat} {w w' : World} (h : Only (fun k => k = db ∨ k = lo) w w') (h1 : lo < db) : Only (Btw lo (db + 3)) w w' := h.mono fun k _ hk => by
  rcases hk with rfl | rfl
  · exact ⟨by omega, by omega⟩
  · exact ⟨by omega, by omega⟩
/-- What comes behind the function that reads: the deferred one, which lets be; which recovers. -/
theorem leaves_quiet (tmps : Array Value) (R : Ending → World → Prop) (lo db rb : Nat) (S : Value) (r : Int) (w : World) (ht : tmps.getD 4 undef = .pointer (some ⟨lo, 0, none⟩)) (h1 : lo < db)
    (hd : w.heap[db]? = some (.cells #[.pointer (some ⟨rb, 0, none⟩), S, .int .i64 0] 89 (0, 0))) (hv : w.cell? ⟨db + 1, 0, none⟩ = some (.pointer (some ⟨db, 0, none⟩))) (hg : w.cell? ⟨lo, 0, none⟩ = some (.int .i64 0))
    (hR : ∀ w', Only (Btw lo (db + 3)) w w' → R (.returned (.int .i64 r)) w') :
    Leaves Try.prog Try.f33 tmps R [{ target := .fn (.func 47) #[.pointer (some ⟨db + 1, 0, none⟩), .pointer (some ⟨lo, 0, none⟩)], args := #[] }] .returning (w.setCell ⟨lo, 0, none⟩ (.int .i64 r)) := by
  refine leaves_cons (f := 47) (args := #[.pointer (some ⟨db + 1, 0, none⟩), .pointer (some ⟨lo, 0, none⟩)]) (by simp) (by simp [go_sem]) ?_
  refine (cd_end_quiet db rb lo (db + 1) S _ _ ((heap_setCell_other w ⟨lo, 0, none⟩ db _ (by show db ≠ lo; omega)).trans hd) ((Only.put w lo 0 _).cell hv (by omega))).mono ?_
  rintro e u' w' ⟨rfl, rfl, ho⟩
  have hs : settle .returning = .returning := rfl
  simp only [hs, Leaves]
  have hc := ho.cell (World.cell?_setCell_same' w ⟨lo, 0, none⟩ (.int .i64 r) (by rw [hg]; rfl)) (by omega)
  exact ⟨_, read_results tmps w' lo r ht hc, hR w' (only_done (((Only.put w lo 0 _).mono fun _ _ h => .inr h).trans (ho.mono fun _ _ h => .inl h)) h1)⟩
theorem leaves_dies (tmps : Array Value) (R : Ending → World → Prop) (lo db rb : Nat) (S : Value) (x : Int) (w : World) (h1 : lo < db)
    (hd : w.heap[db]? = some (.cells #[.pointer (some ⟨rb, 0, none⟩), S, .int .i64 0] 89 (0, 0))) (hv : w.cell? ⟨db + 1, 0, none⟩ = some (.pointer (some ⟨db, 0, none⟩)))
    (hR : ∀ w', Only (Btw lo (db + 3)) w w' → R (.panicked [{ v := .iface 3 (.int .i64 x), recovered := false }]) w') :
    Leaves Try.prog Try.f33 tmps R [{ target := .fn (.func 47) #[.pointer (some ⟨db + 1, 0, none⟩), .pointer (some ⟨lo, 0, none⟩)], args := #[] }] (.panicking [{ v := .iface 3 (.int .i64 x), recovered := false }]) w := by
  refine leaves_cons (f := 47) (args := #[.pointer (some ⟨db + 1, 0, none⟩), .pointer (some ⟨lo, 0, none⟩)]) (by simp) (by simp [go_sem]) ?_
  refine (cd_end_quiet db rb lo (db + 1) S _ _ hd hv).mono ?_
  rintro e u' w' ⟨rfl, rfl, ho⟩
  have hs : settle (.panicking [{ v := .iface 3 (.int .i64 x), recovered := false }]) = .panicking [{ v := .iface 3 (.int .i64 x), recovered := false }] := rfl
  simp only [hs, Leaves]
  exact hR w' (only_done (ho.mono fun _ _ h => .inl h) h1)
theorem leaves_tells (tmps : Array Value) (R : Ending → World → Prop) (lo db rb n : Nat) (S : Value) (w : World) (ht : tmps.getD 4 undef = .pointer (some ⟨lo, 0, none⟩)) (h1 : lo < db) (hn : 0 < n)
    (hd : w.heap[db]? = some (.cells #[.pointer (some ⟨rb, 0, none⟩), S, .int .i64 (n : Int)] 89 (0, 0))) (hv : w.cell? ⟨db + 1, 0, none⟩ = some (.pointer (some ⟨db, 0, none⟩))) (hg : w.heap[lo]? = some (.cells #[.int .i64 0] 27 (0, 0)))
    (hR : ∀ w', Only (Btw lo (db + 3)) w w' → R (.returned (.int .i64 (n : Int))) w') :
    Leaves Try.prog Try.f33 tmps R [{ target := .fn (.func 47) #[.pointer (some ⟨db + 1, 0, none⟩), .pointer (some ⟨lo, 0, none⟩)], args := #[] }] (.panicking (En db)) w := by
  refine leaves_cons (f := 47) (args := #[.pointer (some ⟨db + 1, 0, none⟩), .pointer (some ⟨lo, 0, none⟩)]) (by simp) (by simp [go_sem]) ?_
  refine (cd_end_tells db rb lo (db + 1) n S _ hd hv hg (by omega) (by omega) hn).mono ?_
  rintro e u' w' ⟨rfl, rfl, ho, hc⟩
  have hs : settle (.panicking [{ v := .iface 95 (.agg #[.pointer (some ⟨db, 0, none⟩)]), recovered := true }]) = .returning := rfl
  simp only [hs, Leaves]
  exact ⟨_, read_results tmps w' lo n ht hc, hR w' (only_done ho h1)⟩

set_option maxHeartbeats 3200000 in
theorem cd_Read (b : List Nat) (B : Option Addr) (cb : Nat) (fn : FuncId) (caps : Array Value) (w : World) (J : Nat → World → By → Prop) (hfn : HasBody fn) (hr : Rd w B b) (hl : b.length ≤ 65536)
    (hby : ∀ hi ρ w1, Ext w w1 → w.heap.size ≤ hi → hi ≤ w1.heap.size → rdr.RI w.heap.size hi (nz b B) ρ w1 b → Calls Try.prog fn (#[.pointer (some ρ)] ++ caps) w1 (ByE rdr w.heap.size hi (nz b B) ρ J)) :
    Calls Try.prog 33 #[.slice B b.length cb, .func (.func fn) #[] caps] w (ReadE J w) := by
  have hmf : ∀ (fn : Fn) (first cap : Array Value) (w : World), (Instr.makeFunc fn first cap).run Try.prog w = .ok (.func fn first cap) w := fun _ _ _ _ => rfl
  obtain ⟨F, cF, hF1, hF2, hF3⟩ := hfn
  have hcf : ∀ (args : Array Value) (W : World), (callFunc fn args).run Try.prog W = .ok (.enter fn args) W := fun args W => by
    have h1 : F.name ≠ "runtime.NumGoroutine" := by simpa using hF3
    simp [callFunc, hF1, h1, hF2]
  have HR := Lib.hid hr
  have HBY := Lib.hid hby
  obtain ⟨L, hL⟩ : ∃ L, b.length = L := ⟨_, rfl⟩
  have HL := Lib.hid hL
  rw [hL] at hl ⊢
  clear hr hby hL
  have hx0 : Ext w (w.alloc (.cells #[.int .i64 0] 27)) := (Ext.refl w).alloc _
  have hg0 := heap_alloc_new w (.cells #[.int .i64 0] 27)
  have hs0 : (w.alloc (.cells #[.int .i64 0] 27)).heap.size = w.heap.size + 1 := by simp
  go_enter_defers Try.func33, Try.ntmps33
  go_wp2_with (at_builtin; refine wpList_append_rd rfl (.const (.slice none 0 0)) (.tmp 6) rfl (w.heap.size + 1) (.slice none 0 0) [] b rfl (Mine.nil _ _) B L cb rfl HL.out (HR.out.ext hx0) (by have := HL.out; simp; omega) (by rw [hs0]; omega) ?_; intro v' w2 hown hg hat; obtain ⟨A, c, ev, hlc, hra⟩ := hown.slice HR.out.1; have HOB := Lib.hid (fun k (h : v'.ownBlock = some k) => hown.block k h); have HX2 := Lib.hid ((Ext.refl _).more hg (fun r e => by simp [Value.ownBlock] at e)); have hev : v' = .slice A L c := (by rw [ev, List.nil_append, HL.out]); subst hev; have HRA := Lib.hid hra; have hnf := fun W => run_func_not_nil fn caps W; clear hown hg hat ev hra)
  have hs2 := HX2.out.size
  rw [hs0] at hs2
  obtain ⟨db, hdb⟩ : ∃ db, w2.heap.size = db := ⟨_, rfl⟩
  obtain ⟨W, hW⟩ : ∃ W, (((w2.alloc (.cells #[.pointer (some ⟨w2.heap.size + 1 + 1, 0, none⟩), .slice A L c, .int .i64 0] 89)).alloc (.cells #[.pointer (some ⟨w2.heap.size, 0, none⟩)] 87)).alloc (.cells #[.pointer (some ⟨w2.heap.size, 0, none⟩)] 91)) = W := ⟨_, rfl⟩
  have hxW : Ext w2 W := by rw [← hW]; exact ((((Ext.refl w2).alloc _).alloc _).alloc _)
  have hsW : W.heap.size = db + 3 := by rw [← hW, ← hdb]; simp
  have hrow : W.heap[db]? = some (.cells #[.pointer (some ⟨db + 1 + 1, 0, none⟩), .slice A L c, .int .i64 0] 89 (0, 0)) ∧ W.heap[db + 1]? = some (.cells #[.pointer (some ⟨db, 0, none⟩)] 87 (0, 0)) ∧ W.heap[db + 2]? = some (.cells #[.pointer (some ⟨db, 0, none⟩)] 91 (0, 0)) := by
    rw [← hW, ← hdb]
    refine ⟨old3 w2 _ _ _, mid3 w2 _ _ _, ?_⟩
    have h := heap_alloc_new ((w2.alloc (.cells #[.pointer (some ⟨w2.heap.size + 1 + 1, 0, none⟩), .slice A L c, .int .i64 0] 89)).alloc (.cells #[.pointer (some ⟨w2.heap.size, 0, none⟩)] 87)) (.cells #[.pointer (some ⟨w2.heap.size, 0, none⟩)] 91)
    simpa using h
  have hi0 : W.heap[w.heap.size]? = some (.cells #[.int .i64 0] 27 (0, 0)) := (hxW.below.block _ (by omega)).trans ((HX2.out.below.block _ (by rw [hs0]; omega)).trans hg0)
  have hext : Ext w W := (hx0.trans HX2.out).trans hxW
  have hRI : rdr.RI w.heap.size (db + 3) (nz b B) ⟨db + 2, 0, none⟩ W b := by
    refine ⟨db + 2, db, rfl, ⟨by omega, by omega⟩, ⟨by omega, by omega⟩, by omega, by omega, ⟨hrow.2.2, by omega, by omega, by omega, hrow.2.1, hi0⟩, ⟨A, c, ?_, HRA.out.ext hxW, by rw [← List.nil_append b]; exact hlc, fun k o e h => ?_⟩, by rw [HL.out]; exact hl⟩
    · rw [HL.out]; exact hrow.1
    · have := HOB.out k (by rw [e]; rfl)
      exact ⟨⟨by omega, by omega⟩, by omega⟩
  have HC := Lib.hid (HBY.out (db + 3) ⟨db + 2, 0, none⟩ W hext (by omega) (by omega) hRI)
  have HLT := Lib.hid (show w.heap.size < db by omega)
  rw [hW, hdb]
  clear hRI hext hi0 hrow hsW hxW hW hdb HBY HR HRA HOB HX2 hg0 hs0 hx0 hs2 hF1 hF2 hF3 hlc
  refine HC.out.mono ?_
  have HLTv := HLT.out
  have hne1 : w.heap.size ≠ db := by omega
  rintro e w3 (⟨l, v, rfl, ⟨rb, db', hρ, _, _, _, h5, ⟨_, f1, f2, _, f4, f5⟩, ⟨A', c', h7, hrd, hlc', _⟩, h8⟩, hJ⟩ | ⟨n, ch, rfl, ⟨rb, db', hρ, _, _, _, h5, ⟨f1, f2, _, f4, f5⟩, h7, rfl, hn0⟩, hJ⟩ | ⟨x, rfl, ⟨l, rb, db', hρ, _, _, _, h5, ⟨_, f1, f2, _, f4, f5⟩, ⟨A', c', h7, _⟩, _⟩, hJ⟩)
  · obtain rfl : db' = db := by omega
    obtain ⟨M, hM⟩ : ∃ M, l.length = M := ⟨_, rfl⟩
    rw [hM] at h7 hlc' h8
    have hz : (l = [] ↔ M = 0) := by rw [← hM]; exact List.length_eq_zero_iff.symm
    have c1 : w3.cell? ⟨db' + 1, 0, none⟩ = some (.pointer (some ⟨db', 0, none⟩)) := by rw [cell_of_row w3 _ 0 _ _ _ f4]; rfl
    have c2 : w3.cell? ⟨db', 1, none⟩ = some (.slice A' M c') := by rw [cell_of_row w3 _ 1 _ _ _ h7]; rfl
    have c3 : w3.cell? ⟨w.heap.size, 0, none⟩ = some (.int .i64 0) := by rw [cell_of_row w3 _ 0 _ _ _ f5]; rfl
    have z3 : w3.frozen? ⟨w.heap.size, 0, none⟩ = false := frozen_of_row w3 _ 0 _ _ f5
    have H7 := Lib.hid h7
    have HJ := Lib.hid hJ
    have H5 := Lib.hid h5
    have HQ := Lib.hid (fun tmps (r : Int) ht hR => leaves_quiet tmps (ReadE J w) w.heap.size db' rb (.slice A' M c') r w3 ht HLT.out h7 c1 c3 hR)
    clear h7 hJ h5 f4 f5 hrd hlc'
    by_cases hM0 : M = 0
    · have d1 : decide (0 < M) = false := decide_eq_false (by omega)
      have d2 : decide ((0 : Int) < (M : Int)) = false := decide_eq_false (by omega)
      have hl0 : l = [] := hz.2 hM0
      go_wp2
      exact HQ.out _ 0 rfl (fun w' ho => ⟨_, w3, .done l, by omega, HJ.out, ho, by rw [hl0]; rfl⟩)
    · have d1 : decide (0 < M) = true := decide_eq_true (by omega)
      have d2 : decide ((0 : Int) < (M : Int)) = true := decide_eq_true (by omega)
      have hl0 : l ≠ [] := fun h => hM0 (hz.1 h)
      go_wp2
      exact HQ.out _ 3 rfl (fun w' ho => ⟨_, w3, .done l, by omega, HJ.out, ho, by show _ = _; rw [if_neg hl0]⟩)
  · obtain rfl : db' = db := by omega
    have c1 : w3.cell? ⟨db' + 1, 0, none⟩ = some (.pointer (some ⟨db', 0, none⟩)) := by rw [cell_of_row w3 _ 0 _ _ _ f4]; rfl
    exact leaves_tells _ (ReadE J w) w.heap.size db' rb n _ w3 rfl HLT.out hn0 h7 c1 f5 (fun w' ho => ⟨_, w3, .fails n, by omega, hJ, ho, rfl⟩)
  · obtain rfl : db' = db := by omega
    have c1 : w3.cell? ⟨db' + 1, 0, none⟩ = some (.pointer (some ⟨db', 0, none⟩)) := by rw [cell_of_row w3 _ 0 _ _ _ f4]; rfl
    exact leaves_dies _ (ReadE J w) w.heap.size db' rb _ x w3 HLT.out h7 c1 (fun w' ho => ⟨_, w3, .dies x, by omega, hJ, ho, [], rfl, by simp⟩)

end Go.Proofs.Ytnfgokbopndmgaa
