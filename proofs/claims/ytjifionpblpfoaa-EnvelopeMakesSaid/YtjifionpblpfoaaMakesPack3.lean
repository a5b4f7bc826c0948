/-
  Part 3 of the texts that the seat's proofs stand on; each part of it begins with its own sentence and conditions. Conditions: those that each theorem names.
-/
import Derived.Test.YtjifionpblpfoaaMakesPack2
import Derived.Laws.CopyOwn
import Derived.Test.YtjifionpblpfoaaProg
import Derived.StillTail
import Derived.Deep.Quiet
import Derived.Deep.QuietTactic
import Derived.BigQuiet
import Derived.KernelRfl
import Derived.StillTailTactics
import Derived.Lib.Hide

/-
  What the document's own Decode of layer 14 does. Conditions: no more than 2^16 bytes.
-/
namespace Go.Proofs.Ytjifionpblpfoaa
open Go.RowKit
open Pol (co Sm)

/-- An order that was read, and the error's number. -/
def DecR (b : List Nat) (w : World) (e : Ending) (w' : World) : Prop :=
  Ext w w' ∧ ∃ B n c, e = .returned (.tuple #[.agg #[.int .i64 (dec14 b).2.k, .int .i64 (dec14 b).2.t, .int .u64 (((dec14 b).2.a : Nat) : Int), .slice B n c], .int .i64 (((dec14 b).1 : Nat) : Int)]) ∧ (dec14 b).2.m.length = n ∧ n ≤ c ∧ Rd w' B (dec14 b).2.m
/-- The reader's steps, and what they come to. -/
theorem dec14_steps (b : List Nat) : ∃ (r1 : Rs Nat) (r2 : Rs Nat) (r3 : Rs Nat) (r4 : Rs (List Nat)), r1 = (Rs.ok () b).bind (fun _ rest => rdN 2 rest) ∧ r2 = r1.unit.bind (fun _ rest => rdN 5 rest) ∧ r3 = r2.unit.bind (fun _ rest => rdN 18446744073709551615 rest) ∧ r4 = r3.unit.bind (fun _ rest => rdT 16 rest) ∧
    dec14 b = (if endc r4.unit ≠ 0 then (endc r4.unit, Od.zero) else if Od.right ⟨((r1.val 0 : Nat) : Int), ((r2.val 0 : Nat) : Int), r3.val 0, r4.val []⟩ then (0, ⟨((r1.val 0 : Nat) : Int), ((r2.val 0 : Nat) : Int), r3.val 0, r4.val []⟩) else (14, Od.zero)) := by
  refine ⟨_, _, _, _, rfl, rfl, rfl, rfl, ?_⟩
  unfold dec14 rdO
  show _ = _
  cases h1 : rdN 2 b with
  | er n =>
    have hn := (rdN_er h1).1
    simp only [Rs.bind, h1, Rs.unit, Rs.val, endc]
    rw [if_pos (by omega)]
  | ok k b1 =>
    cases h2 : rdN 5 b1 with
    | er n =>
      have hn := (rdN_er h2).1
      simp only [Rs.bind, h1, h2, Rs.unit, Rs.val, endc]
      rw [if_pos (by omega)]
    | ok t b2 =>
      cases h3 : rdN 18446744073709551615 b2 with
      | er n =>
        have hn := (rdN_er h3).1
        simp only [Rs.bind, h1, h2, h3, Rs.unit, Rs.val, endc]
        rw [if_pos (by omega)]
      | ok a b3 =>
        cases h4 : rdT 16 b3 with
        | er n =>
          have hn := (rdT_er h4).1
          simp only [Rs.bind, h1, h2, h3, h4, Rs.unit, Rs.val, endc]
          rw [if_pos (by omega)]
        | ok m b4 =>
          simp only [Rs.bind, h1, h2, h3, h4, Rs.unit, Rs.val, endc]
          by_cases hb : b4 = []
          · rw [if_pos hb, if_neg (by simpa using hb), if_neg (show ¬ (0 ≠ 0) from fun h => h rfl)]
          · rw [if_neg hb, if_pos hb, if_pos (by simp)]
theorem rdN_val_le {m : Nat} {l : List Nat} (hs : Sm l) : (rdN m l).val 0 ≤ m := by
  cases h : rdN m l with
  | er n => exact Nat.zero_le _
  | ok n rest => exact (vn_rdN hs h).2.2
theorem stn_val {l : List Nat} {g cb m : Nat} {B : Option Addr} {w : World} {r : Rs Unit} (h : Stn l g B cb w r) (hs : Sm l) : (r.bind fun _ rest => rdN m rest).val 0 ≤ m := by
  cases r with
  | er n => exact Nat.zero_le _
  | ok u rest =>
    obtain ⟨⟨pre, hp⟩, _⟩ := h
    rw [hp] at hs
    exact rdN_val_le (sm_split hs).2
theorem results_tx14 {fn : Func} {p u : Tmp} (h : fn.results = #[.cell p 27, .tmp u]) (tmps : Array Value) (w : World) (g : Nat) (t : TypeId) (cs : Array Value) (fr : Nat × Nat)
    (hp : tmps.getD p undef = .pointer (some ⟨g, 0, none⟩)) (hg : w.heap[g]? = some (.cells cs t fr)) (hi : (Try.prog.info? 27).map (·.size) = some cs.size) :
    (results fn tmps).run Try.prog w = .ok (.tuple #[.agg cs, tmps.getD u undef]) w := by
  have hl := run_loadVar_row w g t 27 cs fr _ hg Try.underlying27 rfl hi
  rw [results_cell_tmp h, hp]
  simp [asAddr, Result.andThen, hl]
theorem tx_size14 : (#[.int .i64 0, .int .i64 0, .int .u64 0, .slice none 0 0] : Array Value).size = (#[.int .i64 0, .int .i64 0, .int .u64 0, .slice none 0 0] : Array Value).size := rfl
set_option maxHeartbeats 6400000 in
set_option maxRecDepth 100000 in
theorem ref14_decode (b : List Nat) (A : Option Addr) (n c : Nat) (w : World) (hn : b.length = n) (hr : Rd w A b) (hc : n ≤ c) (hl : n ≤ 65536) :
    Calls Try.prog 24 #[.slice A n c] w (DecR b w) := by
  unfold DecR
  obtain ⟨r1, r2, r3, r4, e1, e2, e3, e4, hdec⟩ := dec14_steps b
  have HDEC := Lib.hid hdec
  have HSB := Lib.hid hr.1
  have HFAR := Lib.hid (show ∀ q o, A = some ⟨q, o, none⟩ → 0 < b.length → q ≠ w.heap.size + 1 from fun q o e h0 => by have := hr.block' q o e h0; omega)
  have HRD := Lib.hid (fun u (h : Ext w u) => hr.ext h)
  have HCB := Lib.hid (show b.length ≤ c by omega)
  have HLB := Lib.hid (show b.length ≤ 65536 by omega)
  have hx0 : Ext w ((w.alloc (.cells #[.int .i64 0, .int .i64 0, .int .u64 0, .slice none 0 0] 27)).alloc (.cells #[.slice A n c, .int .i64 0, .int .i64 0] 72)) := ((Ext.refl w).alloc _).alloc _
  have hR0 : ((w.alloc (.cells #[.int .i64 0, .int .i64 0, .int .u64 0, .slice none 0 0] 27)).alloc (.cells #[.slice A n c, .int .i64 0, .int .i64 0] 72)).heap[w.heap.size]? = some (.cells #[.int .i64 0, .int .i64 0, .int .u64 0, .slice none 0 0] 27) := by
    rw [heap_alloc_old _ _ (by simp)]
    exact heap_alloc_new w _
  have hg0 : ((w.alloc (.cells #[.int .i64 0, .int .i64 0, .int .u64 0, .slice none 0 0] 27)).alloc (.cells #[.slice A n c, .int .i64 0, .int .i64 0] 72)).heap[w.heap.size + 1]? = some (.cells #[.slice A n c, .int .i64 0, .int .i64 0] 72) := by
    have h := heap_alloc_new (w.alloc (.cells #[.int .i64 0, .int .i64 0, .int .u64 0, .slice none 0 0] 27)) (.cells #[.slice A n c, .int .i64 0, .int .i64 0] 72)
    rwa [show (w.alloc (.cells #[.int .i64 0, .int .i64 0, .int .u64 0, .slice none 0 0] 27)).heap.size = w.heap.size + 1 from by simp] at h
  have HX0 := Lib.hid hx0
  have HR0 := Lib.hid hR0
  have HS0 := Lib.hid (show Stn b (w.heap.size + 1) A c _ (.ok () b) from ⟨⟨[], rfl⟩, by rw [cell_of_row _ _ 0 _ _ _ hg0, hn]; rfl, by rw [cell_of_row _ _ 1 _ _ _ hg0, Nat.sub_self]; rfl, by rw [cell_of_row _ _ 2 _ _ _ hg0]; rfl, frozen_of_row _ _ 1 _ _ hg0, frozen_of_row _ _ 2 _ _ hg0⟩)
  clear hr hx0 hR0 hg0 hdec
  obtain ⟨g, hgd⟩ : ∃ g, w.heap.size + 1 = g := ⟨_, rfl⟩
  have HGD := Lib.hid hgd
  rw [hgd] at HS0 HFAR
  clear hgd
  go_enter Try.func24, Try.ntmps24
  go_wp2_with fail
  rw [HGD.out]
  refine (rd14_number b g A c 2 _ _ (HRD.out _ HX0.out) HFAR.out HLB.out (by decide) HS0.out).mono ?_
  rintro e w1 ⟨ho, rfl, hs⟩
  have hv := stn_val (m := 2) HS0.out HSB.out
  rw [← e1] at hs hv ⊢
  obtain ⟨v1, hv1⟩ : ∃ v, r1.val 0 = v := ⟨_, rfl⟩
  rw [hv1] at hv ⊢
  have HV1 := Lib.hid hv1
  have HX1 := Lib.hid (ho.ext HX0.out (fun q e => by have := HGD.out; omega))
  have HS1 := Lib.hid hs
  have HR1 := Lib.hid (ho.row HR0.out (by have := HGD.out; omega))
  have x1 : IntKind.i64.wrap (v1 : Int) = (v1 : Int) := by rw [IntKind.wrap_i64]; omega
  clear ho hs hv hv1
  go_wp2_with fail
  refine (rd14_number b g A c 5 _ _ (HRD.out _ HX1.out) HFAR.out HLB.out (by decide) HS1.out).mono ?_
  rintro e w2 ⟨ho, rfl, hs⟩
  have hv := stn_val (m := 5) HS1.out HSB.out
  rw [← e2] at hs hv ⊢
  obtain ⟨v2, hv2⟩ : ∃ v, r2.val 0 = v := ⟨_, rfl⟩
  rw [hv2] at hv ⊢
  have HV2 := Lib.hid hv2
  have HX2 := Lib.hid (ho.ext HX1.out (fun q e => by have := HGD.out; omega))
  have HS2 := Lib.hid hs
  have HR2 := Lib.hid (ho.row HR1.out (by have := HGD.out; omega))
  have x2 : IntKind.i64.wrap (v2 : Int) = (v2 : Int) := by rw [IntKind.wrap_i64]; omega
  clear ho hs hv hv2
  -- the order under way lies in block w2.heap.size
  have HXa := Lib.hid (HX2.out.alloc (.cells #[.int .i64 (v1 : Int), .int .i64 (v2 : Int), .int .u64 0, .slice none 0 0] 27))
  have HSa := Lib.hid (HS2.out.ext ((Ext.refl w2).alloc (.cells #[.int .i64 (v1 : Int), .int .i64 (v2 : Int), .int .u64 0, .slice none 0 0] 27)))
  have HRa := Lib.hid (((Ext.refl w2).alloc (.cells #[.int .i64 (v1 : Int), .int .i64 (v2 : Int), .int .u64 0, .slice none 0 0] 27)).row HR2.out)
  have HTa := Lib.hid (heap_alloc_new w2 (.cells #[.int .i64 (v1 : Int), .int .i64 (v2 : Int), .int .u64 0, .slice none 0 0] 27))
  have HTg := Lib.hid (show g < w2.heap.size ∧ w.heap.size < w2.heap.size from ⟨HS2.out.lt, by have h1 := HS2.out.lt; have h2 := HGD.out; omega⟩)
  obtain ⟨T, hT⟩ : ∃ T, w2.heap.size = T := ⟨_, rfl⟩
  go_wp2_with fail
  rw [hT] at HTa HTg
  clear hT HX2 HS2 HR2 HX1 HS1 HR1 HX0 HS0 HR0
  generalize w2.alloc (.cells #[.int .i64 (v1 : Int), .int .i64 (v2 : Int), .int .u64 0, .slice none 0 0] 27) = wa at HXa HSa HRa HTa ⊢
  refine (rd14_number b g A c 18446744073709551615 _ _ (HRD.out _ HXa.out) HFAR.out HLB.out (by decide) HSa.out).mono ?_
  rintro e w3 ⟨ho, rfl, hs⟩
  rw [← e3] at hs ⊢
  obtain ⟨v3, hv3⟩ : ∃ v, r3.val 0 = v := ⟨_, rfl⟩
  rw [hv3]
  have HV3 := Lib.hid hv3
  have ht3 := ho.row HTa.out (fun e => by have := HTg.out; omega)
  have hx3 := ho.ext HXa.out (fun q e => by have := HGD.out; omega)
  have t2 := cell_of_row _ T 2 _ _ _ ht3
  simp only [List.getElem?_toArray, List.getElem?_cons_zero, List.getElem?_cons_succ] at t2
  have z2 : w3.frozen? ⟨T, 2, none⟩ = false := frozen_of_row _ T 2 _ _ ht3
  have HT3 := Lib.hid (heap_setCell_same w3 T 2 _ _ (.int .u64 (v3 : Int)) ht3)
  have HX3 := Lib.hid (hx3.setCell (p := ⟨T, 2, none⟩) (by have := HTg.out; dsimp only; omega) (.int .u64 (v3 : Int)))
  have HR3 := Lib.hid ((heap_setCell_other w3 ⟨T, 2, none⟩ w.heap.size (.int .u64 (v3 : Int)) (by have := HTg.out; dsimp only; omega)).trans (ho.row HRa.out (by have := HGD.out; omega)))
  have HS3 := Lib.hid (hs.only (X := fun k => k = T) (Only.of_grown (grown_set' w3 T 2 (.int .u64 (v3 : Int))) (fun k e => by injection e with e; exact e.symm)) (by have := HTg.out; omega))
  clear ho hs hv3 ht3 hx3 HXa HSa HRa HTa
  go_wp2_with fail
  generalize w3.setCell ⟨T, 2, none⟩ (.int .u64 (v3 : Int)) = wb at HT3 HX3 HR3 HS3 ⊢
  clear t2 z2
  refine (rd14_text b g A c 16 _ _ (HRD.out _ HX3.out) HCB.out HFAR.out HLB.out (by decide) HS3.out).mono ?_
  rintro e w4 ⟨ho, ⟨D, n4, c4, rfl, hn4, hc4, hD, hDb⟩, hs⟩
  rw [← e4] at hs hn4 hD
  obtain ⟨V4, hV4⟩ : ∃ v, r4.val [] = v := ⟨_, rfl⟩
  rw [hV4] at hn4 hD
  have HV4 := Lib.hid hV4
  have ht4 := ho.row HT3.out (fun e => by have := HTg.out; omega)
  have hx4 := ho.ext HX3.out (fun q e => by have := HGD.out; omega)
  have t3 := cell_of_row _ T 3 _ _ _ ht4
  simp only [List.getElem?_toArray, Array.setIfInBounds, List.size_toArray, List.length_cons, List.length_nil, Nat.zero_add, Nat.reduceAdd, Nat.reduceLT, dite_true, List.set_toArray, List.set_cons_zero, List.set_cons_succ, List.getElem?_cons_zero, List.getElem?_cons_succ] at t3
  have z3 : w4.frozen? ⟨T, 3, none⟩ = false := frozen_of_row _ T 3 _ _ ht4
  have HT4 := Lib.hid (heap_setCell_same w4 T 3 _ _ (.slice D n4 c4) ht4)
  have HX4 := Lib.hid (hx4.setCell (p := ⟨T, 3, none⟩) (by have := HTg.out; dsimp only; omega) (.slice D n4 c4))
  have HR4 := Lib.hid ((heap_setCell_other w4 ⟨T, 3, none⟩ w.heap.size (.slice D n4 c4) (by have := HTg.out; dsimp only; omega)).trans (ho.row HR3.out (by have := HGD.out; omega)))
  have HS4 := Lib.hid (hs.only (X := fun k => k = T) (Only.of_grown (grown_set' w4 T 3 (.slice D n4 c4)) (fun k e => by injection e with e; exact e.symm)) (by have := HTg.out; omega))
  have HDB := Lib.hid (show ∀ q o, D = some ⟨q, o, none⟩ → 0 < V4.length → q ≠ g ∧ q ≠ T ∧ q ≠ w.heap.size from fun q o e h0 => by
    have h1 := hDb q o e (by omega)
    have h2 := row_lt HT3.out
    have h3 := HTg.out
    omega)
  have HD4 := Lib.hid (show Rd (w4.setCell ⟨T, 3, none⟩ (.slice D n4 c4)) D V4 from hD.keep (grown_set' w4 T 3 (.slice D n4 c4)) (fun q o e h0 e2 => by injection e2 with e2; exact (HDB.out q o e h0).2.1 e2))
  have HN4 := Lib.hid (And.intro hn4 hc4)
  clear ho hs hn4 hc4 hD hDb hV4 ht4 hx4 HX3 HS3 HR3 HT3
  go_wp2_with fail
  generalize w4.setCell ⟨T, 3, none⟩ (.slice D n4 c4) = wc at HT4 HX4 HR4 HS4 HD4 ⊢
  clear t3 z3
  refine (rd14_end b g A c _ _ HS4.out).mono ?_
  rintro e w5 ⟨rfl, ho⟩
  have HT5 := Lib.hid (ho.row HT4.out (fun e => by have := HTg.out; omega))
  have HX5 := Lib.hid (ho.ext HX4.out (fun q e => by have := HGD.out; omega))
  have HR5 := Lib.hid (ho.row HR4.out (by have := HGD.out; omega))
  have HD5 := Lib.hid (rd_keep HD4.out ho (fun q o e h0 => (HDB.out q o e h0).1))
  rw [HV1.out, HV2.out, HV3.out, HV4.out] at HDEC
  clear ho HX4 HS4 HR4 HT4 HD4 e1 e2 e3 e4
  obtain ⟨ec, hec⟩ : ∃ ec, endc r4.unit = ec := ⟨_, rfl⟩
  rw [hec] at HDEC ⊢
  by_cases hec0 : ec = 0
  · rw [if_neg (by simpa using hec0)] at HDEC
    subst hec0
    have q0 := cell_of_row _ T 0 _ _ _ HT5.out
    have q1 := cell_of_row _ T 1 _ _ _ HT5.out
    have q2 := cell_of_row _ T 2 _ _ _ HT5.out
    have q3 := cell_of_row _ T 3 _ _ _ HT5.out
    simp only [List.getElem?_toArray, Array.setIfInBounds, List.size_toArray, List.length_cons, List.length_nil, Nat.zero_add, Nat.reduceAdd, Nat.reduceLT, dite_true, List.set_toArray, List.set_cons_zero, List.set_cons_succ, List.getElem?_cons_zero, List.getElem?_cons_succ] at q0 q1 q2 q3
    have HRI := Lib.hid (fun u => ref14_right (v1 : Int) (v2 : Int) v3 n4 c4 D u)
    rw [right_is HN4.out.1] at HRI
    go_wp2_with fail
    refine (HRI.out w5).mono ?_
    rintro e w6 ⟨rfl, hx6⟩
    have HX6 := Lib.hid (HX5.out.trans hx6)
    have HR6 := Lib.hid (hx6.row HR5.out)
    have HD6 := Lib.hid (HD5.out.ext hx6)
    have p0 := hx6.at q0
    have p1 := hx6.at q1
    have p2 := hx6.at q2
    have p3 := hx6.at q3
    clear hx6 q0 q1 q2 q3
    by_cases ho : Od.right ⟨(v1 : Int), (v2 : Int), v3, V4⟩
    · rw [if_pos ho] at HDEC
      rw [decide_eq_true ho]
      have hin : (Try.prog.info? 27).map (·.size) = some (#[.int .i64 (v1 : Int), .int .i64 (v2 : Int), .int .u64 (v3 : Int), .slice D n4 c4] : Array Value).size := by kernel_rfl
      have HSZ := Lib.hid (show (#[.int .i64 0, .int .i64 0, .int .u64 0, .slice none 0 0] : Array Value).size = (#[.int .i64 (v1 : Int), .int .i64 (v2 : Int), .int .u64 (v3 : Int), .slice D n4 c4] : Array Value).size from rfl)
      have hone : (#[.int .i64 (v1 : Int), .int .i64 (v2 : Int), .int .u64 (v3 : Int), .slice D n4 c4] : Array Value).all (·.oneCell') = true := by simp [Value.oneCell']
      have HXF := Lib.hid (HX6.out.setRow (Nat.le_refl _) #[.int .i64 (v1 : Int), .int .i64 (v2 : Int), .int .u64 (v3 : Int), .slice D n4 c4])
      have HGF := Lib.hid (setRow_heap w6 w.heap.size _ #[.int .i64 (v1 : Int), .int .i64 (v2 : Int), .int .u64 (v3 : Int), .slice D n4 c4] _ _ HR6.out)
      go_wp2_with (with_reducible refine wpList_store_all rfl 27 (.tmp 2) (.tmp 33) rfl w.heap.size _ #[.int .i64 (v1 : Int), .int .i64 (v2 : Int), .int .u64 (v3 : Int), .slice D n4 c4] rfl rfl HR6.out hin HSZ.out hone ?_)
      refine bodyPost_ret (results_tx14 Try.results24 _ _ w.heap.size 27 _ (0, 0) rfl HGF.out hin) rfl ?_
      rw [HDEC.out]
      exact ⟨HXF.out, D, n4, c4, rfl, HN4.out.1, HN4.out.2, HD6.out.keep (grown_block w6 w.heap.size #[.int .i64 (v1 : Int), .int .i64 (v2 : Int), .int .u64 (v3 : Int), .slice D n4 c4]) (fun q o e h0 e2 => by injection e2 with e2; exact (HDB.out q o e h0).2.2 e2)⟩
    · rw [if_neg ho] at HDEC
      rw [decide_eq_false ho]
      have hin : (Try.prog.info? 27).map (·.size) = some (#[.int .i64 0, .int .i64 0, .int .u64 0, .slice none 0 0] : Array Value).size := by kernel_rfl
      have hone : (#[.int .i64 0, .int .i64 0, .int .u64 0, .slice none 0 0] : Array Value).all (·.oneCell') = true := by simp [Value.oneCell']
      have HXF := Lib.hid (HX6.out.setRow (Nat.le_refl _) #[.int .i64 0, .int .i64 0, .int .u64 0, .slice none 0 0])
      have HGF := Lib.hid (setRow_heap w6 w.heap.size _ #[.int .i64 0, .int .i64 0, .int .u64 0, .slice none 0 0] _ _ HR6.out)
      go_wp2_with (with_reducible refine wpList_store_all rfl 27 (.tmp 2) (.tmp 32) rfl w.heap.size _ #[.int .i64 0, .int .i64 0, .int .u64 0, .slice none 0 0] rfl rfl HR6.out hin tx_size14 hone ?_)
      refine bodyPost_ret (results_tx14 Try.results24 _ _ w.heap.size 27 _ (0, 0) rfl HGF.out hin) rfl ?_
      rw [HDEC.out]
      exact ⟨HXF.out, none, 0, 0, rfl, rfl, Nat.le_refl _, Rd.nil _ _⟩
  · rw [if_pos hec0] at HDEC
    have d1 : ((ec : Int) == 0) = false := by simp; omega
    have d1' : ((ec : Int) != 0) = true := by simp; omega
    have d1'' : decide ((ec : Int) = 0) = false := decide_eq_false (by omega)
    have d1''' : decide (ec = 0) = false := decide_eq_false hec0
    have hin : (Try.prog.info? 27).map (·.size) = some (#[.int .i64 0, .int .i64 0, .int .u64 0, .slice none 0 0] : Array Value).size := by kernel_rfl
    have hone : (#[.int .i64 0, .int .i64 0, .int .u64 0, .slice none 0 0] : Array Value).all (·.oneCell') = true := by simp [Value.oneCell']
    have HXF := Lib.hid (HX5.out.setRow (Nat.le_refl _) #[.int .i64 0, .int .i64 0, .int .u64 0, .slice none 0 0])
    have HGF := Lib.hid (setRow_heap w5 w.heap.size _ #[.int .i64 0, .int .i64 0, .int .u64 0, .slice none 0 0] _ _ HR5.out)
    go_wp2_with (with_reducible refine wpList_store_all rfl 27 (.tmp 2) (.tmp 27) rfl w.heap.size _ #[.int .i64 0, .int .i64 0, .int .u64 0, .slice none 0 0] rfl rfl HR5.out hin tx_size14 hone ?_)
    refine bodyPost_ret (results_tx14 Try.results24 _ _ w.heap.size 27 _ (0, 0) rfl HGF.out hin) rfl ?_
    rw [HDEC.out]
    exact ⟨HXF.out, none, 0, 0, rfl, rfl, Nat.le_refl _, Rd.nil _ _⟩
end Go.Proofs.Ytjifionpblpfoaa

/-
  The document's Open of layer 16. Conditions: no more than 2^16 bytes.
-/
namespace Go.Proofs.Ytjifionpblpfoaa
open Go.RowKit
open Pol (co Sm)

/-- An order that is handed back, and the error's number. -/
def OdR (r : Nat × Od) (w : World) (e : Ending) (w' : World) : Prop :=
  Ext w w' ∧ ∃ B k c, e = .returned (.tuple #[.agg #[.int .i64 r.2.k, .int .i64 r.2.t, .int .u64 ((r.2.a : Nat) : Int), .slice B k c], .int .i64 ((r.1 : Nat) : Int)]) ∧ r.2.m.length = k ∧ k ≤ c ∧ Rd w' B r.2.m
theorem odR_no {r : Nat × Od} {w w' : World} {m : Nat} (h : r = (m, Od.zero)) (hx : Ext w w') : OdR r w (.returned (.tuple #[.agg #[.int .i64 0, .int .i64 0, .int .u64 0, .slice none 0 0], .int .i64 (m : Int)])) w' := by
  subst h
  exact ⟨hx, none, 0, 0, rfl, rfl, Nat.le_refl _, Rd.nil _ _⟩
theorem open16_chk {e : Ev} {p : List Nat} (h : e.chk ≠ 0) : open16 e p = (e.chk, Od.zero) := by unfold open16; rw [if_pos h]
theorem open16_len {e : Ev} {p : List Nat} (h : e.chk = 0) (hl : p.length ≠ e.b.length) : open16 e p = (1, Od.zero) := by unfold open16; rw [if_neg (by simpa using h), if_pos hl]
theorem open16_tail {e : Ev} {p : List Nat} (h : e.chk = 0) (hl : p.length = e.b.length) (ht : ¬ Tail0 (lx e.b p)) : open16 e p = (15, Od.zero) := by unfold open16; rw [if_neg (by simpa using h), if_neg (by simpa using hl), if_pos ht]
theorem open16_dec {e : Ev} {p : List Nat} (h : e.chk = 0) (hl : p.length = e.b.length) (ht : Tail0 (lx e.b p)) : open16 e p = if (dec14 (strp (lx e.b p))).1 ≠ 0 then (15, Od.zero) else dec14 (strp (lx e.b p)) := by
  unfold open16
  rw [if_neg (by simpa using h), if_neg (by simpa using hl), if_neg (by simpa using ht)]
theorem far_of_row {w : World} {g : Nat} {B : Option Addr} {l : List Nat} (h : Rd w B l) (hg : w.heap[g]? = some (.cells #[.int .i64 0, .int .i64 0, .int .u64 0, .slice none 0 0] 27)) : ∀ q o, B = some ⟨q, o, none⟩ → 0 < l.length → q ≠ g := fun q o e h0 e2 => by
  obtain ⟨b, o', e3, hc⟩ := h.2 0 h0
  rw [e] at e3
  injection e3 with e3
  injection e3 with e4 e5
  subst e4 e5 e2
  rw [cell_of_row _ _ _ _ _ _ hg] at hc
  match o, hc with
  | 0, hc => simp at hc
  | 1, hc => simp at hc
  | 2, hc => simp at hc
  | 3, hc => simp at hc
  | n + 4, hc => simp at hc
theorem slice_eta {v : Value} {w : World} {l : List Nat} (h : Sl w v l) : ∃ B n c, v = .slice B n c ∧ l.length = n ∧ n ≤ c ∧ Rd w B l := by
  obtain ⟨B, c, rfl, h1, h2⟩ := h
  exact ⟨B, _, c, rfl, rfl, h1, h2⟩
set_option maxHeartbeats 6400000 in
set_option maxRecDepth 100000 in
theorem ref16_open (s : Int) (nn f x kb c : Nat) (b p : List Nat) (A B : Option Addr) (np cp : Nat) (w : World) (hk : b.length = kb) (hc : kb ≤ c) (hr : Rd w A b) (hl : kb ≤ 65536) (hp : p.length = np) (hq : Rd w B p) (hlp : np ≤ 65536) :
    Calls Try.prog 9 #[evv s nn f x A kb c, .slice B np cp] w (OdR (open16 ⟨s, nn, f, x, b⟩ p) w) := by
  have hx2 := ((Ext.refl w).alloc (.cells #[.int .i64 s, .int .u64 (nn : Int), .int .u64 (f : Int), .int .u64 (x : Int), .slice A kb c] 25)).alloc (.cells #[.int .i64 0, .int .i64 0, .int .u64 0, .slice none 0 0] 27)
  have hg0 : ((w.alloc (.cells #[.int .i64 s, .int .u64 (nn : Int), .int .u64 (f : Int), .int .u64 (x : Int), .slice A kb c] 25)).alloc (.cells #[.int .i64 0, .int .i64 0, .int .u64 0, .slice none 0 0] 27)).heap[w.heap.size]? = some (.cells #[.int .i64 s, .int .u64 (nn : Int), .int .u64 (f : Int), .int .u64 (x : Int), .slice A kb c] 25) := by
    rw [heap_alloc_old _ _ (by simp)]
    exact heap_alloc_new w _
  have hr0 : ((w.alloc (.cells #[.int .i64 s, .int .u64 (nn : Int), .int .u64 (f : Int), .int .u64 (x : Int), .slice A kb c] 25)).alloc (.cells #[.int .i64 0, .int .i64 0, .int .u64 0, .slice none 0 0] 27)).heap[w.heap.size + 1]? = some (.cells #[.int .i64 0, .int .i64 0, .int .u64 0, .slice none 0 0] 27) := by
    have h := heap_alloc_new (w.alloc (.cells #[.int .i64 s, .int .u64 (nn : Int), .int .u64 (f : Int), .int .u64 (x : Int), .slice A kb c] 25)) (.cells #[.int .i64 0, .int .i64 0, .int .u64 0, .slice none 0 0] 27)
    rwa [show (w.alloc (.cells #[.int .i64 s, .int .u64 (nn : Int), .int .u64 (f : Int), .int .u64 (x : Int), .slice A kb c] 25)).heap.size = w.heap.size + 1 from by simp] at h
  have HX2 := Lib.hid hx2
  have HG0 := Lib.hid hg0
  have HR0 := Lib.hid hr0
  have HK := Lib.hid hk
  have HP := Lib.hid hp
  have HB := Lib.hid hr
  have HQ := Lib.hid hq
  have HCK := Lib.hid (fun u => ref16_check s nn f x kb c b A u hk)
  obtain ⟨ck, hck⟩ : ∃ q, (Ev.mk s nn f x b).chk = q := ⟨_, rfl⟩
  rw [hck] at HCK
  have HC := Lib.hid hck
  clear hx2 hg0 hr0 hr hp hq hck hk
  go_enter Try.func9, Try.ntmps9
  go_wp2_with (with_reducible refine wpList_load_row rfl 25 (.tmp 2) rfl w.heap.size rfl 25 #[.int .i64 s, .int .u64 (nn : Int), .int .u64 (f : Int), .int .u64 (x : Int), .slice A kb c] (0, 0) _ HG0.out Try.underlying25 rfl ev_in16 ?_)
  refine (HCK.out _).mono ?_
  rintro e w1 ⟨rfl, hx1⟩
  have HX1 := Lib.hid (HX2.out.trans hx1)
  have HR1 := Lib.hid (hx1.row HR0.out)
  have HG1 := Lib.hid (hx1.row HG0.out)
  clear hx1 HX2 HR0 HG0 HCK
  by_cases hc0 : ck = 0
  rotate_left
  · have HDN := Lib.hid (fun w' (hx : Ext w w') => odR_no (r := open16 ⟨s, nn, f, x, b⟩ p) (m := ck) (by rw [open16_chk (by rw [HC.out]; exact hc0), HC.out]) hx)
    have d1 : ((ck : Int) == 0) = false := by simp; omega
    have d2 : ((ck : Int) != 0) = true := by simp; omega
    have d3 : decide ((ck : Int) = 0) = false := decide_eq_false (by omega)
    have d4 : decide (ck = 0) = false := decide_eq_false hc0
    clear hc0
    have hone : (#[.int .i64 0, .int .i64 0, .int .u64 0, .slice none 0 0] : Array Value).all (·.oneCell') = true := by simp [Value.oneCell']
    have HXF := Lib.hid (HX1.out.setRow (g := w.heap.size + 1) (by omega) #[.int .i64 0, .int .i64 0, .int .u64 0, .slice none 0 0])
    have HGF := Lib.hid (setRow_heap w1 (w.heap.size + 1) _ #[.int .i64 0, .int .i64 0, .int .u64 0, .slice none 0 0] _ _ HR1.out)
    go_wp2_with (with_reducible refine wpList_store_all rfl 27 (.tmp 4) (.tmp 15) rfl (w.heap.size + 1) _ #[.int .i64 0, .int .i64 0, .int .u64 0, .slice none 0 0] rfl rfl HR1.out tx_in16 tx_size14 hone ?_)
    refine bodyPost_ret (results_tx14 Try.results9 _ _ (w.heap.size + 1) 27 _ (0, 0) rfl HGF.out tx_in16) rfl ?_
    exact HDN.out _ HXF.out
  subst hc0
  have hok := Ev.chk_ok.1 HC.out
  have hb1 : 1 ≤ kb := by have h := hok.2.2.2.1; dsimp only at h; rw [HK.out] at h; exact h
  have hb2 : kb ≤ 32 := by have h := hok.2.2.2.2; dsimp only at h; rw [HK.out] at h; exact h
  have q4 := cell_of_row _ w.heap.size 4 _ _ _ HG1.out
  clear hok
  by_cases hnp : np = kb
  rotate_left
  · have HDN := Lib.hid (fun w' (hx : Ext w w') => odR_no (r := open16 ⟨s, nn, f, x, b⟩ p) (m := 1) (open16_len (e := ⟨s, nn, f, x, b⟩) (p := p) HC.out (by dsimp only; rw [HP.out, HK.out]; exact hnp)) hx)
    have d1 : ((np : Int) != (kb : Int)) = true := by simp; omega
    have d2 : decide ((np : Int) = (kb : Int)) = false := decide_eq_false (by omega)
    have d3 : decide (np = kb) = false := decide_eq_false hnp
    clear hnp
    have hone : (#[.int .i64 0, .int .i64 0, .int .u64 0, .slice none 0 0] : Array Value).all (·.oneCell') = true := by simp [Value.oneCell']
    have HXF := Lib.hid (HX1.out.setRow (g := w.heap.size + 1) (by omega) #[.int .i64 0, .int .i64 0, .int .u64 0, .slice none 0 0])
    have HGF := Lib.hid (setRow_heap w1 (w.heap.size + 1) _ #[.int .i64 0, .int .i64 0, .int .u64 0, .slice none 0 0] _ _ HR1.out)
    go_wp2_with (with_reducible refine wpList_store_all rfl 27 (.tmp 4) (.tmp 23) rfl (w.heap.size + 1) _ #[.int .i64 0, .int .i64 0, .int .u64 0, .slice none 0 0] rfl rfl HR1.out tx_in16 tx_size14 hone ?_)
    refine bodyPost_ret (results_tx14 Try.results9 _ _ (w.heap.size + 1) 27 _ (0, 0) rfl HGF.out tx_in16) rfl ?_
    exact HDN.out _ HXF.out
  subst hnp
  have HPL := Lib.hid (show p.length = (Ev.mk s nn f x b).b.length from HP.out.trans HK.out.symm)
  have HXO := Lib.hid (ref16_xor b p A B np np c cp w1 HK.out HP.out (HB.out.ext HX1.out) (HQ.out.ext HX1.out) (Nat.le_refl _) hl)
  go_wp2_with fail
  refine HXO.out.mono ?_
  rintro e w2 ⟨v2, rfl, hm2, hs2, hx2⟩
  obtain ⟨B2, c2, rfl, hc2, hr2⟩ := hm2.slice hs2
  have HST := Lib.hid (ref_strip (lx b p) B2 c2 w2 hr2 hc2 (by rw [lx_len, HK.out]; exact ⟨hb1, by omega⟩))
  have hll : (lx b p).length = np := by rw [lx_len, HK.out]
  rw [hll] at HST ⊢
  have HX3 := Lib.hid (HX1.out.trans hx2)
  have HR3 := Lib.hid (hx2.row HR1.out)
  have HSM := Lib.hid hs2
  clear hm2 hs2 hx2 hc2 hr2 q4 HXO hll HG1
  go_wp2_with fail
  refine HST.out.mono ?_
  rintro e w3 (⟨ht, v3, rfl, hsl, hx3⟩ | ⟨ht, v3, rfl, hsl, hx3⟩)
  · obtain ⟨B3, n3, c3, rfl, hn3, hc3, hr3⟩ := slice_eta hsl
    have HX4 := Lib.hid (HX3.out.trans hx3)
    have HR4 := Lib.hid (hx3.row HR3.out)
    have HDE := Lib.hid (ref14_decode (strp (lx b p)) B3 n3 c3 w3 hn3 hr3 hc3 (by rw [← hn3]; rw [strp_len]; have h1 := ht.1; rw [lx_len, HK.out] at h1; omega))
    clear hsl hx3 hn3 hc3 hr3 HST
    go_wp2_with fail
    refine HDE.out.mono ?_
    rintro e w4 ⟨hx4, B4, k4, c4, rfl, hk4, hc4, hr4⟩
    have HX5 := Lib.hid (HX4.out.trans hx4)
    have HR5 := Lib.hid (hx4.row HR4.out)
    obtain ⟨dc, hdc⟩ : ∃ q, dec14 (strp (lx b p)) = q := ⟨_, rfl⟩
    rw [hdc] at hk4 hr4 ⊢
    obtain ⟨z, ok, ot, oa, om⟩ := dc
    dsimp only at hk4 hr4 ⊢
    have HZ5 := Lib.hid (heap_alloc_new w4 (.cells #[.int .i64 0, .int .i64 0, .int .u64 0, .slice none 0 0] 27))
    have HSV := Lib.hid (show (#[.int .i64 0, .int .i64 0, .int .u64 0, .slice none 0 0] : Array Value).size = (#[.int .i64 ok, .int .i64 ot, .int .u64 (oa : Int), .slice B4 k4 c4] : Array Value).size from rfl)
    have hone5 : (#[.int .i64 ok, .int .i64 ot, .int .u64 (oa : Int), .slice B4 k4 c4] : Array Value).all (·.oneCell') = true := by simp [Value.oneCell']
    have HFF := Lib.hid (far_of_row hr4 HR5.out)
    have HXa := Lib.hid (HX5.out.alloc (.cells #[.int .i64 ok, .int .i64 ot, .int .u64 (oa : Int), .slice B4 k4 c4] 27))
    have HRa := Lib.hid (((Ext.refl w4).alloc (.cells #[.int .i64 ok, .int .i64 ot, .int .u64 (oa : Int), .slice B4 k4 c4] 27)).row HR5.out)
    have HVa := Lib.hid (heap_alloc_new w4 (.cells #[.int .i64 ok, .int .i64 ot, .int .u64 (oa : Int), .slice B4 k4 c4] 27))
    have HBa := Lib.hid (hr4.ext ((Ext.refl w4).alloc (.cells #[.int .i64 ok, .int .i64 ot, .int .u64 (oa : Int), .slice B4 k4 c4] 27)))
    have HK4 := Lib.hid (And.intro hk4 hc4)
    have HOD := Lib.hid (open16_dec (e := ⟨s, nn, f, x, b⟩) (p := p) HC.out HPL.out ht)
    have HDC := Lib.hid hdc
    clear hx4 hk4 hc4 hr4 hdc ht HDE
    by_cases hz : z = 0
    · subst hz
      have HXF := Lib.hid (HXa.out.setRow (g := w.heap.size + 1) (by omega) #[.int .i64 ok, .int .i64 ot, .int .u64 (oa : Int), .slice B4 k4 c4])
      have HGF := Lib.hid (setRow_heap _ (w.heap.size + 1) _ #[.int .i64 ok, .int .i64 ot, .int .u64 (oa : Int), .slice B4 k4 c4] _ _ HRa.out)
      go_wp2_with (first | (with_reducible refine wpList_store_all rfl 27 (.tmp 9) (.tmp 35) rfl w4.heap.size _ #[.int .i64 ok, .int .i64 ot, .int .u64 (oa : Int), .slice B4 k4 c4] rfl rfl HZ5.out tx_in16 HSV.out hone5 ?_; rw [World.setRow_alloc_new]) | (with_reducible refine wpList_load_row rfl 27 (.tmp 9) rfl w4.heap.size rfl 27 #[.int .i64 ok, .int .i64 ot, .int .u64 (oa : Int), .slice B4 k4 c4] (0, 0) _ HVa.out Try.underlying27 rfl tx_in16 ?_) | (with_reducible refine wpList_store_all rfl 27 (.tmp 4) (.tmp 44) rfl (w.heap.size + 1) _ #[.int .i64 ok, .int .i64 ot, .int .u64 (oa : Int), .slice B4 k4 c4] rfl rfl HRa.out tx_in16 HSV.out hone5 ?_))
      refine bodyPost_ret (results_tx14 Try.results9 _ _ (w.heap.size + 1) 27 _ (0, 0) rfl HGF.out tx_in16) rfl ?_
      have hod := HOD.out
      try dsimp only at hod
      rw [HDC.out, if_neg (by simp)] at hod
      rw [hod]
      exact ⟨HXF.out, B4, k4, c4, rfl, HK4.out.1, HK4.out.2, HBa.out.keep (grown_block _ (w.heap.size + 1) #[.int .i64 ok, .int .i64 ot, .int .u64 (oa : Int), .slice B4 k4 c4]) (fun q o e h0 e2 => by injection e2 with e2; exact HFF.out q o e h0 e2)⟩
    · have HDN := Lib.hid (fun w' (hx : Ext w w') => odR_no (r := open16 ⟨s, nn, f, x, b⟩ p) (m := 15) (by have hod := HOD.out; try dsimp only at hod; rw [HDC.out, if_pos hz] at hod; exact hod) hx)
      have d1 : ((z : Int) == 0) = false := by simp; omega
      have d2 : ((z : Int) != 0) = true := by simp; omega
      have d3 : decide ((z : Int) = 0) = false := decide_eq_false (by omega)
      have d4 : decide (z = 0) = false := decide_eq_false hz
      clear hz
      have hone : (#[.int .i64 0, .int .i64 0, .int .u64 0, .slice none 0 0] : Array Value).all (·.oneCell') = true := by simp [Value.oneCell']
      have HXF := Lib.hid (HXa.out.setRow (g := w.heap.size + 1) (by omega) #[.int .i64 0, .int .i64 0, .int .u64 0, .slice none 0 0])
      have HGF := Lib.hid (setRow_heap _ (w.heap.size + 1) _ #[.int .i64 0, .int .i64 0, .int .u64 0, .slice none 0 0] _ _ HRa.out)
      go_wp2_with (first | (with_reducible refine wpList_store_all rfl 27 (.tmp 9) (.tmp 35) rfl w4.heap.size _ #[.int .i64 ok, .int .i64 ot, .int .u64 (oa : Int), .slice B4 k4 c4] rfl rfl HZ5.out tx_in16 HSV.out hone5 ?_; rw [World.setRow_alloc_new]) | (with_reducible refine wpList_store_all rfl 27 (.tmp 4) (.tmp 43) rfl (w.heap.size + 1) _ #[.int .i64 0, .int .i64 0, .int .u64 0, .slice none 0 0] rfl rfl HRa.out tx_in16 tx_size14 hone ?_))
      refine bodyPost_ret (results_tx14 Try.results9 _ _ (w.heap.size + 1) 27 _ (0, 0) rfl HGF.out tx_in16) rfl ?_
      exact HDN.out _ HXF.out
  · obtain ⟨B3, n3, c3, rfl, hn3, hc3, hr3⟩ := slice_eta hsl
    have HX4 := Lib.hid (HX3.out.trans hx3)
    have HR4 := Lib.hid (hx3.row HR3.out)
    have HDE := Lib.hid (ref14_decode ([]) B3 n3 c3 w3 hn3 hr3 hc3 (by rw [← hn3]; simp))
    clear hsl hx3 hn3 hc3 hr3 HST
    go_wp2_with fail
    refine HDE.out.mono ?_
    rintro e w4 ⟨hx4, B4, k4, c4, rfl, hk4, hc4, hr4⟩
    have HX5 := Lib.hid (HX4.out.trans hx4)
    have HR5 := Lib.hid (hx4.row HR4.out)
    obtain ⟨dc, hdc⟩ : ∃ q, dec14 ([]) = q := ⟨_, rfl⟩
    rw [hdc] at hk4 hr4 ⊢
    obtain ⟨z, ok, ot, oa, om⟩ := dc
    dsimp only at hk4 hr4 ⊢
    have HZ5 := Lib.hid (heap_alloc_new w4 (.cells #[.int .i64 0, .int .i64 0, .int .u64 0, .slice none 0 0] 27))
    have HSV := Lib.hid (show (#[.int .i64 0, .int .i64 0, .int .u64 0, .slice none 0 0] : Array Value).size = (#[.int .i64 ok, .int .i64 ot, .int .u64 (oa : Int), .slice B4 k4 c4] : Array Value).size from rfl)
    have hone5 : (#[.int .i64 ok, .int .i64 ot, .int .u64 (oa : Int), .slice B4 k4 c4] : Array Value).all (·.oneCell') = true := by simp [Value.oneCell']
    have HXa := Lib.hid (HX5.out.alloc (.cells #[.int .i64 ok, .int .i64 ot, .int .u64 (oa : Int), .slice B4 k4 c4] 27))
    have HRa := Lib.hid (((Ext.refl w4).alloc (.cells #[.int .i64 ok, .int .i64 ot, .int .u64 (oa : Int), .slice B4 k4 c4] 27)).row HR5.out)
    have HVa := Lib.hid (heap_alloc_new w4 (.cells #[.int .i64 ok, .int .i64 ot, .int .u64 (oa : Int), .slice B4 k4 c4] 27))
    have HBa := Lib.hid (hr4.ext ((Ext.refl w4).alloc (.cells #[.int .i64 ok, .int .i64 ot, .int .u64 (oa : Int), .slice B4 k4 c4] 27)))
    have HK4 := Lib.hid (And.intro hk4 hc4)
    have HDN := Lib.hid (fun w' (hx : Ext w w') => odR_no (r := open16 ⟨s, nn, f, x, b⟩ p) (m := 15) (open16_tail HC.out HPL.out ht) hx)
    clear hx4 hk4 hc4 hr4 hdc ht HDE
    have hone : (#[.int .i64 0, .int .i64 0, .int .u64 0, .slice none 0 0] : Array Value).all (·.oneCell') = true := by simp [Value.oneCell']
    have HXF := Lib.hid (HXa.out.setRow (g := w.heap.size + 1) (by omega) #[.int .i64 0, .int .i64 0, .int .u64 0, .slice none 0 0])
    have HGF := Lib.hid (setRow_heap _ (w.heap.size + 1) _ #[.int .i64 0, .int .i64 0, .int .u64 0, .slice none 0 0] _ _ HRa.out)
    go_wp2_with (first | (with_reducible refine wpList_store_all rfl 27 (.tmp 9) (.tmp 35) rfl w4.heap.size _ #[.int .i64 ok, .int .i64 ot, .int .u64 (oa : Int), .slice B4 k4 c4] rfl rfl HZ5.out tx_in16 HSV.out hone5 ?_; rw [World.setRow_alloc_new]) | (with_reducible refine wpList_store_all rfl 27 (.tmp 4) (.tmp 43) rfl (w.heap.size + 1) _ #[.int .i64 0, .int .i64 0, .int .u64 0, .slice none 0 0] rfl rfl HRa.out tx_in16 tx_size14 hone ?_))
    refine bodyPost_ret (results_tx14 Try.results9 _ _ (w.heap.size + 1) 27 _ (0, 0) rfl HGF.out tx_in16) rfl ?_
    exact HDN.out _ HXF.out
end Go.Proofs.Ytjifionpblpfoaa

/-
  What the laws of layer 16 that make and open envelopes stand on, over any code; and that the law's own awake holds. Conditions: those of EnvMk.
-/
namespace Go.Proofs.Ytjifionpblpfoaa
open Go.RowKit
open Pol (co Sm)

structure EnvMk : Prop where
  check : ∀ (s : Int) (n f x k c : Nat) (b : List Nat) (A : Option Addr) (w : World), b.length = k → k ≤ c → Rd w A b → k ≤ 65536 → n < 18446744073709551616 → f < 18446744073709551616 → x < 18446744073709551616 →
    Calls Try.prog 13 #[evv s n f x A k c] w (Tells (.int .i64 ((Ev.chk ⟨s, n, f, x, b⟩ : Nat) : Int)) w)
  make : ∀ (s : Int) (nn f x : Nat) (k t : Int) (a n c : Nat) (m p : List Nat) (A B : Option Addr) (np cp : Nat) (w : World), m.length = n → n ≤ c → Rd w A m → n ≤ 65536 → a < 18446744073709551616 → p.length = np → np ≤ cp → Rd w B p → np ≤ 65536 →
    nn < 18446744073709551616 → f < 18446744073709551616 → x < 18446744073709551616 →
    Calls Try.prog 6 #[.int .i64 s, .int .u64 (nn : Int), .int .u64 (f : Int), .int .u64 (x : Int), .agg #[.int .i64 k, .int .i64 t, .int .u64 (a : Int), .slice A n c], .slice B np cp] w (EvR (make16 s nn f x ⟨k, t, a, m⟩ p) w)
  opens : ∀ (s : Int) (nn f x kb c : Nat) (b p : List Nat) (A B : Option Addr) (np cp : Nat) (w : World), b.length = kb → kb ≤ c → Rd w A b → kb ≤ 65536 → p.length = np → np ≤ cp → Rd w B p → np ≤ 65536 →
    nn < 18446744073709551616 → f < 18446744073709551616 → x < 18446744073709551616 →
    Calls Try.prog 8 #[evv s nn f x A kb c, .slice B np cp] w (OdR (open16 ⟨s, nn, f, x, b⟩ p) w)

theorem tx_in16x {a b c d : Value} : (Try.prog.info? 32).map (·.size) = some (#[a, b, c, d] : Array Value).size := by kernel_rfl
theorem ex16_right : Od.right ⟨2, 0, 0, []⟩ := by decide
theorem ex16_make : make16 1 2 3 4 ⟨2, 0, 0, []⟩ [9, 9, 9, 9, 9, 9] = (0, ⟨1, 2, 3, 4, [13, 11, 9, 9, 9, 9]⟩) := by
  have e : Od.bytes ⟨2, 0, 0, []⟩ = [2, 0, 0, 0] := by
    unfold Od.bytes Od.enc vt
    rw [if_pos ex16_right]
    dsimp only
    rw [show vn (Int.toNat 2) = [2] from vn_lt (by decide), show vn (Int.toNat 0) = [0] from vn_lt (by decide), show vn 0 = [0] from vn_lt (by decide), show vn ([] : List Nat).length = [0] from vn_lt (by decide)]
    rfl
  unfold make16
  rw [if_neg (by simpa using ex16_right), e, if_neg (by simpa using (show FillOk [2, 0, 0, 0].length ((([9, 9, 9, 9, 9, 9] : List Nat).length : Nat) : Int) by decide)),
    show lx (fil [2, 0, 0, 0] ([9, 9, 9, 9, 9, 9] : List Nat).length) [9, 9, 9, 9, 9, 9] = [13, 11, 9, 9, 9, 9] by decide +kernel, if_neg (by decide)]
theorem ex16_sm : Sm [9, 9, 9, 9, 9, 9] := Sm.cons (by decide) (Sm.cons (by decide) (Sm.cons (by decide) (Sm.cons (by decide) (Sm.cons (by decide) (Sm.cons (by decide) Sm.nil)))))
theorem ex16_open : open16 ⟨1, 2, 3, 4, [13, 11, 9, 9, 9, 9]⟩ [9, 9, 9, 9, 9, 9] = (0, ⟨2, 0, 0, []⟩) := by
  have h := open_make (s := 1) (n := 2) (f := 3) (x := 4) (o := ⟨2, 0, 0, []⟩) (p := [9, 9, 9, 9, 9, 9]) (by decide) (by rw [ex16_make])
  rwa [ex16_make] at h
theorem ex16_check : Ev.chk ⟨0, 0, 0, 0, []⟩ = 5 := by decide
set_option maxHeartbeats 1600000 in
theorem awake16 (C : EnvMk) (w : World) : Calls Try.prog 5 #[] w (Holds w) := by
  have HM := Lib.hid (C.make 1 2 3 4 2 0 0 0 0 [] [9, 9, 9, 9, 9, 9] none (some ⟨w.heap.size, 0, none⟩) 6 6 (w.alloc (.cells #[.int .u8 9, .int .u8 9, .int .u8 9, .int .u8 9, .int .u8 9, .int .u8 9] 5)) rfl (Nat.le_refl _) (Rd.nil _ _) (by decide) (by decide) rfl (Nat.le_refl _) (rd_lit w [9, 9, 9, 9, 9, 9] ex16_sm) (by decide) (by decide) (by decide) (by decide))
  have HC := Lib.hid (fun u => C.check 0 0 0 0 0 0 [] none u rfl (Nat.le_refl _) (Rd.nil _ _) (by decide) (by decide) (by decide) (by decide))
  rw [ex16_check] at HC
  have HO := Lib.hid C.opens
  clear C
  go_enter Try.func5, Try.ntmps5
  go_wp2_with fail
  refine HM.out.mono ?_
  rintro e w1 ⟨hx1, B1, n1, c1, rfl, hn1, hc1, hr1⟩
  rw [ex16_make] at hn1 hr1 ⊢
  dsimp only at hn1 hr1 ⊢
  obtain rfl : n1 = 6 := hn1.symm
  have HX1 := Lib.hid (((Ext.refl w).alloc _).trans hx1)
  have HR1 := Lib.hid hr1
  have hxa := (Ext.refl w1).alloc (.cells #[.int .i64 1, .int .u64 2, .int .u64 3, .int .u64 4, .slice B1 6 c1] 25)
  have hrow := heap_alloc_new w1 (.cells #[.int .i64 1, .int .u64 2, .int .u64 3, .int .u64 4, .slice B1 6 c1] 25)
  have HZ := Lib.hid (heap_alloc_new w1 (.cells #[.int .i64 0, .int .u64 0, .int .u64 0, .int .u64 0, .slice none 0 0] 25))
  have HSV := Lib.hid (show (#[.int .i64 0, .int .u64 0, .int .u64 0, .int .u64 0, .slice none 0 0] : Array Value).size = (#[.int .i64 1, .int .u64 2, .int .u64 3, .int .u64 4, .slice B1 6 c1] : Array Value).size from rfl)
  have hone : (#[.int .i64 1, .int .u64 2, .int .u64 3, .int .u64 4, .slice B1 6 c1] : Array Value).all (·.oneCell') = true := by simp [Value.oneCell']
  have HXa := Lib.hid (HX1.out.trans hxa)
  have HRW := Lib.hid hrow
  have HRa := Lib.hid (HR1.out.ext hxa)
  have HC1 := Lib.hid hc1
  have HSM6 := Lib.hid (show Sm [13, 11, 9, 9, 9, 9] from HR1.out.1)
  clear hx1 hr1 hxa hrow hc1
  go_wp2_with (first | (with_reducible refine wpList_store_all rfl 25 (.tmp 1) (.tmp 9) rfl w1.heap.size _ #[.int .i64 1, .int .u64 2, .int .u64 3, .int .u64 4, .slice B1 6 c1] rfl rfl HZ.out ev_in16 HSV.out hone ?_; rw [World.setRow_alloc_new]; generalize w1.alloc (.cells #[.int .i64 1, .int .u64 2, .int .u64 3, .int .u64 4, .slice B1 6 c1] 25) = wa at *) | (with_reducible refine wpList_load_row rfl 25 (.tmp 1) rfl w1.heap.size rfl 25 #[.int .i64 1, .int .u64 2, .int .u64 3, .int .u64 4, .slice B1 6 c1] (0, 0) _ HRW.out Try.underlying25 rfl ev_in16 ?_))
  have hxb := (Ext.refl wa).alloc (.cells #[.int .u8 9, .int .u8 9, .int .u8 9, .int .u8 9, .int .u8 9, .int .u8 9] 5)
  refine (HO.out 1 2 3 4 6 c1 [13, 11, 9, 9, 9, 9] [9, 9, 9, 9, 9, 9] B1 (some ⟨wa.heap.size, 0, none⟩) 6 6 (wa.alloc (.cells #[.int .u8 9, .int .u8 9, .int .u8 9, .int .u8 9, .int .u8 9, .int .u8 9] 5)) rfl HC1.out (HRa.out.ext hxb) (by decide) rfl (Nat.le_refl _) (rd_lit wa [9, 9, 9, 9, 9, 9] ex16_sm) (by decide) (by decide) (by decide) (by decide)).mono ?_
  rintro e w2 ⟨hx2, B2, n2, c2, rfl, hn2, hc2, hr2⟩
  rw [ex16_open] at hn2 hr2 ⊢
  dsimp only at hn2 hr2 ⊢
  obtain rfl : n2 = 0 := hn2.symm
  have HX2 := Lib.hid (HXa.out.trans (hxb.trans hx2))
  have HW2 := Lib.hid ((hxb.trans hx2).row HRW.out)
  have HZ2 := Lib.hid (heap_alloc_new w2 (.cells #[.int .i64 0, .int .i64 0, .int .u64 0, .slice none 0 0] 32))
  have HSV2 := Lib.hid (show (#[.int .i64 0, .int .i64 0, .int .u64 0, .slice none 0 0] : Array Value).size = (#[.int .i64 2, .int .i64 0, .int .u64 0, .slice B2 0 c2] : Array Value).size from rfl)
  have hone2 : (#[.int .i64 2, .int .i64 0, .int .u64 0, .slice B2 0 c2] : Array Value).all (·.oneCell') = true := by simp [Value.oneCell']
  have hxc := (Ext.refl w2).alloc (.cells #[.int .i64 2, .int .i64 0, .int .u64 0, .slice B2 0 c2] 32)
  have HX3 := Lib.hid (HX2.out.trans hxc)
  have q1 := cell_of_row _ w1.heap.size 4 _ _ _ (hxc.row HW2.out)
  have q2 := cell_of_row _ w2.heap.size 0 _ _ _ (heap_alloc_new w2 (.cells #[.int .i64 2, .int .i64 0, .int .u64 0, .slice B2 0 c2] 32))
  have HQ := Lib.hid (And.intro q1 q2)
  clear hx2 hr2 hc2 hxb hxc q1 q2
  go_wp2_with (first | (with_reducible refine wpList_store_all rfl 32 (.tmp 3) (.tmp 15) rfl w2.heap.size _ #[.int .i64 2, .int .i64 0, .int .u64 0, .slice B2 0 c2] rfl rfl HZ2.out tx_in16x HSV2.out hone2 ?_; rw [World.setRow_alloc_new]; generalize w2.alloc (.cells #[.int .i64 2, .int .i64 0, .int .u64 0, .slice B2 0 c2] 32) = w3 at *; obtain ⟨q1, q2⟩ := HQ.out))
  refine (HC.out _).mono ?_
  rintro e w4 ⟨rfl, hx4⟩
  have HX4 := Lib.hid (HX3.out.trans hx4)
  clear hx4
  go_wp2
  go_ret
  exact ⟨rfl, HX4.out⟩
end Go.Proofs.Ytjifionpblpfoaa

/-
  Two orders: are they one? Two slices of bytes: are they alike? Conditions: no more than 2^20 bytes.
-/
namespace Go.Proofs.Ytjifionpblpfoaa
open Go.RowKit
open Pol (co Sm)

theorem same14 (l m : List Nat) (A B : Option Addr) (n n' ca cb : Nat) (w : World) (hn : l.length = n) (hn' : m.length = n') (ha : Rd w A l) (hb : Rd w B m) (hl : n ≤ 1048576) :
    Calls Try.prog 25 #[.slice A n ca, .slice B n' cb] w (Tells (.bool (decide (l = m))) w) := by
  subst hn hn'
  by_cases h : l = m
  · rw [decide_eq_true h]
    subst h
    exact same_tells l A B ca cb w ha hb hl
  · rw [decide_eq_false h]
    exact (same_no l m A B ca cb w ha hb hl h).mono fun _ _ h => h.tells
theorem Od.eq_iff {o p : Od} : o = p ↔ o.k = p.k ∧ o.t = p.t ∧ o.a = p.a ∧ o.m = p.m := by
  constructor
  · rintro rfl; exact ⟨rfl, rfl, rfl, rfl⟩
  · obtain ⟨k, t, a, m⟩ := o
    obtain ⟨k', t', a', m'⟩ := p
    rintro ⟨h1, h2, h3, h4⟩
    dsimp only at h1 h2 h3 h4
    subst h1 h2 h3 h4
    rfl
instance : DecidableEq Od := fun _ _ => decidable_of_iff _ Od.eq_iff.symm
end Go.Proofs.Ytjifionpblpfoaa

/-
  The law's own same of layer 16: are two orders alike? Conditions: no more than 2^20 bytes.
-/
namespace Go.Proofs.Ytjifionpblpfoaa
open Go.RowKit
open Pol (co Sm)

set_option maxHeartbeats 1600000 in
theorem law16_same (k t k' t' : Int) (a n c a' n' c' : Nat) (m m' : List Nat) (A A' : Option Addr) (w : World) (hn : m.length = n) (hn' : m'.length = n') (hr : Rd w A m) (hr' : Rd w A' m') (hl : n ≤ 1048576) :
    Calls Try.prog 11 #[.agg #[.int .i64 k, .int .i64 t, .int .u64 (a : Int), .slice A n c], .agg #[.int .i64 k', .int .i64 t', .int .u64 (a' : Int), .slice A' n' c']] w (Tells (.bool (decide ((⟨k, t, a, m⟩ : Od) = ⟨k', t', a', m'⟩))) w) := by
  by_cases h1 : k = k'
  · subst h1
    by_cases h2 : t = t'
    · subst h2
      by_cases h3 : a = a'
      · subst h3
        have HX := Lib.hid (((Ext.refl w).alloc (.cells #[.int .i64 k, .int .i64 t, .int .u64 (a : Int), .slice A n c] 32)).alloc (.cells #[.int .i64 k, .int .i64 t, .int .u64 (a : Int), .slice A' n' c'] 27))
        have HS := Lib.hid (same14 m m' A A' n n' c c' _ hn hn' (hr.ext HX.out) (hr'.ext HX.out) hl)
        rw [show decide ((⟨k, t, a, m⟩ : Od) = ⟨k, t, a, m'⟩) = decide (m = m') from decide_eq_decide.2 ⟨fun h => by injection h, fun h => by rw [h]⟩]
        clear hr hr' hl
        generalize decide (m = m') = q at *
        go_enter Try.func11, Try.ntmps11
        go_wp2_with fail
        refine HS.out.mono ?_
        rintro e w1 ⟨rfl, hx⟩
        have HX1 := Lib.hid (HX.out.trans hx)
        clear hx
        go_wp2
        go_ret
        exact ⟨rfl, HX1.out⟩
      · rw [decide_eq_false (show ¬ ((⟨k, t, a, m⟩ : Od) = ⟨k, t, a', m'⟩) from fun h => h3 (by injection h))]
        have t3 : ((a : Int) == (a' : Int)) = false := by simp; omega
        clear hr hr' hl
        go_enter Try.func11, Try.ntmps11
        go_wp2
        go_ret
        exact ⟨rfl, ((Ext.refl w).alloc _).alloc _⟩
    · rw [decide_eq_false (show ¬ ((⟨k, t, a, m⟩ : Od) = ⟨k, t', a', m'⟩) from fun h => h2 (by injection h))]
      have t3 : (t == t') = false := by simp; omega
      clear hr hr' hl
      go_enter Try.func11, Try.ntmps11
      go_wp2
      go_ret
      exact ⟨rfl, ((Ext.refl w).alloc _).alloc _⟩
  · rw [decide_eq_false (show ¬ ((⟨k, t, a, m⟩ : Od) = ⟨k', t', a', m'⟩) from fun h => h1 (by injection h))]
    have t3 : (k == k') = false := by simp; omega
    clear hr hr' hl
    go_enter Try.func11, Try.ntmps11
    go_wp2
    go_ret
    exact ⟨rfl, ((Ext.refl w).alloc _).alloc _⟩
end Go.Proofs.Ytjifionpblpfoaa

/-
  A load of a whole array, under a guard. Conditions: none; no function is named here.
-/
namespace Go.Proofs.Ytjifionpblpfoaa
open Go.RowKit

theorem wpList_load_row_g {P : Program} {ops : Array Oper} {rest : List Oper} {o : Oper} {a : Act} {w : World} {Q : Exit → Act → World → Prop} (hgd : Region.wanted o (yielded ops a.tmps) = true) (ty : TypeId) (x : Operand) (ho : o.op = .load ty x)
    (g : Nat) (hx : a.eval x = .pointer (some ⟨g, 0, none⟩)) (t : TypeId) (cs : Array Value) (fr : Nat × Nat) (d : TypeDesc) (hg : w.heap[g]? = some (.cells cs t fr))
    (hu : P.underlying ty = some d) (hd : (match d with | .struct _ | .array _ _ => true | _ => false) = true) (hi : (P.info? ty).map (·.size) = some cs.size)
    (h : wpList P ops Q rest (a.put o.dst (.agg cs)) w) : wpList P ops Q (o :: rest) a w := by
  unfold wpList
  rw [if_pos hgd]
  exact .inl (wp_load_row ty x ho g hx t cs fr d hg hu hd hi h)
theorem wpIf_load_row {P : Program} {ops : Array Oper} {o : Oper} {a : Act} {w : World} {K : Act → World → Prop} {Q : Exit → Act → World → Prop} {E : Prop} (hgd : Region.wanted o (yielded ops a.tmps) = true) (ty : TypeId) (x : Operand) (ho : o.op = .load ty x)
    (g : Nat) (hx : a.eval x = .pointer (some ⟨g, 0, none⟩)) (t : TypeId) (cs : Array Value) (fr : Nat × Nat) (d : TypeDesc) (hg : w.heap[g]? = some (.cells cs t fr))
    (hu : P.underlying ty = some d) (hd : (match d with | .struct _ | .array _ _ => true | _ => false) = true) (hi : (P.info? ty).map (·.size) = some cs.size)
    (h : K (a.put o.dst (.agg cs)) w) : if Region.wanted o (yielded ops a.tmps) = true then Oper.wp P o a w K Q else E := by
  rw [if_pos hgd]
  exact wp_load_row ty x ho g hx t cs fr d hg hu hd hi h
end Go.Proofs.Ytjifionpblpfoaa

/-
  EnvelopeMakes, walked. Conditions: those of EnvMk.
-/
namespace Go.Proofs.Ytjifionpblpfoaa
open Go.RowKit
open Pol (co Sm)

theorem make16_len (s : Int) (n f x : Nat) (o : Od) (p : List Nat) : (make16 s n f x o p).2.b.length ≤ p.length := by
  unfold make16
  by_cases h1 : ¬ o.right
  · rw [if_pos h1]; exact Nat.zero_le _
  · rw [if_neg h1]
    by_cases h2 : ¬ FillOk o.bytes.length (p.length : Int)
    · rw [if_pos h2]; exact Nat.zero_le _
    · rw [if_neg h2]
      generalize hc : (Ev.mk s n f x (lx (fil o.bytes p.length) p)).chk = q
      by_cases h3 : q ≠ 0
      · rw [if_pos h3]; exact Nat.zero_le _
      · rw [if_neg h3]
        dsimp only
        rw [lx_len, fil_len]
        exact Nat.le_refl _
theorem open16_len_m {e : Ev} {p : List Nat} (hb : Sm e.b) (hp : Sm p) : (open16 e p).2.m.length ≤ 16 := by
  by_cases h1 : e.chk = 0
  · by_cases h2 : p.length = e.b.length
    · by_cases h3 : Tail0 (lx e.b p)
      · rw [open16_dec h1 h2 h3]
        split
        · exact Nat.zero_le _
        · exact (dec_bounds (strp_sm (lx_sm hb hp))).2.1
      · rw [open16_tail h1 h2 h3]; exact Nat.zero_le _
    · rw [open16_len h1 h2]; exact Nat.zero_le _
  · rw [open16_chk h1]; exact Nat.zero_le _
set_option maxHeartbeats 6400000 in
set_option maxRecDepth 100000 in
theorem makes16_walk (C : EnvMk) (s k t : Int) (nn f x a kb c nm cm np cp : Nat) (b m p : List Nat) (A B D : Option Addr) (w : World)
    (hb : b.length = kb) (hbc : kb ≤ c) (hr : Rd w A b) (hm : m.length = nm) (hmc : nm ≤ cm) (hq : Rd w B m) (hp : p.length = np) (hpc : np ≤ cp) (hd : Rd w D p) (h1 : nn < 18446744073709551616) (h2 : f < 18446744073709551616) (h3 : x < 18446744073709551616) (h4 : a < 18446744073709551616) :
    Calls Try.prog 3 #[.agg #[.int .i64 s, .int .u64 (nn : Int), .int .u64 (f : Int), .int .u64 (x : Int), .slice A kb c], .agg #[.int .i64 k, .int .i64 t, .int .u64 (a : Int), .slice B nm cm], .slice D np cp] w (Holds w) := by
  have hx0 := ((Ext.refl w).alloc (.cells #[.int .i64 s, .int .u64 (nn : Int), .int .u64 (f : Int), .int .u64 (x : Int), .slice A kb c] 25)).alloc (.cells #[.int .i64 k, .int .i64 t, .int .u64 (a : Int), .slice B nm cm] 27)
  have hg0 : ((w.alloc (.cells #[.int .i64 s, .int .u64 (nn : Int), .int .u64 (f : Int), .int .u64 (x : Int), .slice A kb c] 25)).alloc (.cells #[.int .i64 k, .int .i64 t, .int .u64 (a : Int), .slice B nm cm] 27)).heap[w.heap.size]? = some (.cells #[.int .i64 s, .int .u64 (nn : Int), .int .u64 (f : Int), .int .u64 (x : Int), .slice A kb c] 25) := by
    rw [heap_alloc_old _ _ (by simp)]
    exact heap_alloc_new w _
  have ht0 : ((w.alloc (.cells #[.int .i64 s, .int .u64 (nn : Int), .int .u64 (f : Int), .int .u64 (x : Int), .slice A kb c] 25)).alloc (.cells #[.int .i64 k, .int .i64 t, .int .u64 (a : Int), .slice B nm cm] 27)).heap[w.heap.size + 1]? = some (.cells #[.int .i64 k, .int .i64 t, .int .u64 (a : Int), .slice B nm cm] 27) := by
    have h := heap_alloc_new (w.alloc (.cells #[.int .i64 s, .int .u64 (nn : Int), .int .u64 (f : Int), .int .u64 (x : Int), .slice A kb c] 25)) (.cells #[.int .i64 k, .int .i64 t, .int .u64 (a : Int), .slice B nm cm] 27)
    rwa [show (w.alloc (.cells #[.int .i64 s, .int .u64 (nn : Int), .int .u64 (f : Int), .int .u64 (x : Int), .slice A kb c] 25)).heap.size = w.heap.size + 1 from by simp] at h
  have HX0 := Lib.hid hx0
  have HG0 := Lib.hid hg0
  have HT0 := Lib.hid ht0
  have HQ4 := Lib.hid (cell_of_row _ _ 4 _ _ _ hg0)
  have HT3 := Lib.hid (cell_of_row _ _ 3 _ _ _ ht0)
  have HR := Lib.hid hr
  have HQ := Lib.hid hq
  have HD := Lib.hid hd
  clear hx0 hg0 ht0
  by_cases u : 100 < kb
  · have u1 : decide ((kb : Int) > 100) = true := decide_eq_true (by omega)
    have u2 : decide (100 < (kb : Int)) = true := decide_eq_true (by omega)
    clear HR HQ HD hr hq hd
    go_enter Try.func3, Try.ntmps3
    go_wp2_with fail
    refine (awake16 C _).mono ?_
    rintro e w1 ⟨rfl, hx1⟩
    have HX1 := Lib.hid (HX0.out.trans hx1)
    have g4 := hx1.at HQ4.out
    have t3 := hx1.at HT3.out
    clear hx1
    go_wp2_with fail
    refine (awake16 C _).mono ?_
    rintro e w2 ⟨rfl, hx2⟩
    have HX2 := Lib.hid (HX1.out.trans hx2)
    clear hx2 g4 t3
    go_wp2
    go_ret
    exact ⟨rfl, HX2.out⟩
  have u1 : decide ((kb : Int) > 100) = false := decide_eq_false (by omega)
  have u2 : decide (100 < (kb : Int)) = false := decide_eq_false (by omega)
  by_cases v : 100 < nm
  · have v1 : decide ((nm : Int) > 100) = true := decide_eq_true (by omega)
    have v2 : decide (100 < (nm : Int)) = true := decide_eq_true (by omega)
    clear HR HQ HD hr hq hd
    go_enter Try.func3, Try.ntmps3
    go_wp2_with fail
    refine (awake16 C _).mono ?_
    rintro e w1 ⟨rfl, hx1⟩
    have HX1 := Lib.hid (HX0.out.trans hx1)
    have g4 := hx1.at HQ4.out
    have t3 := hx1.at HT3.out
    clear hx1
    go_wp2_with fail
    refine (awake16 C _).mono ?_
    rintro e w2 ⟨rfl, hx2⟩
    have HX2 := Lib.hid (HX1.out.trans hx2)
    clear hx2 g4 t3
    go_wp2
    go_ret
    exact ⟨rfl, HX2.out⟩
  have v1 : decide ((nm : Int) > 100) = false := decide_eq_false (by omega)
  have v2 : decide (100 < (nm : Int)) = false := decide_eq_false (by omega)
  by_cases y : 100 < np
  · have y1 : decide ((np : Int) > 100) = true := decide_eq_true (by omega)
    have y2 : decide (100 < (np : Int)) = true := decide_eq_true (by omega)
    clear HR HQ HD hr hq hd
    go_enter Try.func3, Try.ntmps3
    go_wp2_with fail
    refine (awake16 C _).mono ?_
    rintro e w1 ⟨rfl, hx1⟩
    have HX1 := Lib.hid (HX0.out.trans hx1)
    have g4 := hx1.at HQ4.out
    have t3 := hx1.at HT3.out
    clear hx1
    go_wp2_with fail
    refine (awake16 C _).mono ?_
    rintro e w2 ⟨rfl, hx2⟩
    have HX2 := Lib.hid (HX1.out.trans hx2)
    clear hx2 g4 t3
    go_wp2
    go_ret
    exact ⟨rfl, HX2.out⟩
  have y1 : decide ((np : Int) > 100) = false := decide_eq_false (by omega)
  have y2 : decide (100 < (np : Int)) = false := decide_eq_false (by omega)
  have hlen1 : (make16 s nn f x ⟨k, t, a, m⟩ p).2.b.length ≤ 100 := by
    have h := make16_len s nn f x ⟨k, t, a, m⟩ p
    omega
  have hlen2 : (open16 ⟨s, nn, f, x, b⟩ p).2.m.length ≤ 16 := open16_len_m (e := ⟨s, nn, f, x, b⟩) hr.1 hd.1
  have HMK := Lib.hid (fun u (hu : Ext w u) => C.make s nn f x k t a nm cm m p B D np cp u hm hmc (HQ.out.ext hu) (by omega) h4 hp hpc (HD.out.ext hu) (by omega) h1 h2 h3)
  have HOP := Lib.hid (fun u (hu : Ext w u) => C.opens s nn f x kb c b p A D np cp u hb hbc (HR.out.ext hu) (by omega) hp hpc (HD.out.ext hu) (by omega) h1 h2 h3)
  have HRM := Lib.hid (fun u (hu : Ext w u) => ref16_make s nn f x k t a nm cm m p B D np cp u hm (HQ.out.ext hu) (by omega) h4 hp (HD.out.ext hu) (by omega))
  have HRO := Lib.hid (fun u (hu : Ext w u) => ref16_open s nn f x kb c b p A D np cp u hb hbc (HR.out.ext hu) (by omega) hp (HD.out.ext hu) (by omega))
  have HAW := Lib.hid (fun u => awake16 C u)
  obtain ⟨r, ⟨s', n', f', x', b'⟩, hmk⟩ : ∃ r q, make16 s nn f x ⟨k, t, a, m⟩ p = (r, q) := ⟨_, _, rfl⟩
  obtain ⟨r2, ⟨k', t', a', m'⟩, hop⟩ : ∃ r q, open16 ⟨s, nn, f, x, b⟩ p = (r, q) := ⟨_, _, rfl⟩
  rw [hmk] at HMK HRM hlen1
  rw [hop] at HOP HRO hlen2
  unfold EvR at HMK HRM
  unfold OdR at HOP HRO
  dsimp only at HMK HRM HOP HRO hlen1 hlen2
  have HS1 := Lib.hid (fun u B1 B2 n1 n2 c1 c2 (g1 : b'.length = n1) (g2 : b'.length = n2) (q1 : Rd u B1 b') (q2 : Rd u B2 b') => ref16_same s' s' n' f' x' n1 c1 n' f' x' n2 c2 b' b' B1 B2 u g1 g2 q1 q2 (by omega))
  rw [show decide (Ev.Same ⟨s', n', f', x', b'⟩ ⟨s', n', f', x', b'⟩) = true from decide_eq_true ⟨rfl, rfl, rfl, rfl, rfl⟩] at HS1
  have HS2 := Lib.hid (fun u B1 B2 n1 n2 c1 c2 (g1 : m'.length = n1) (g2 : m'.length = n2) (q1 : Rd u B1 m') (q2 : Rd u B2 m') => law16_same k' t' k' t' a' n1 c1 a' n2 c2 m' m' B1 B2 u g1 g2 q1 q2 (by omega))
  rw [show decide ((⟨k', t', a', m'⟩ : Od) = ⟨k', t', a', m'⟩) = true from decide_eq_true rfl] at HS2
  clear C HR HQ HD hmk hop hlen1 hlen2 hr hd hb hm hp
  go_enter Try.func3, Try.ntmps3
  go_wp2_with fail
  refine (HAW.out _).mono ?_
  rintro e w1 ⟨rfl, hx1⟩
  have HX1 := Lib.hid (HX0.out.trans hx1)
  have HG1 := Lib.hid (hx1.row HG0.out)
  have HT1 := Lib.hid (hx1.row HT0.out)
  have g0 := cell_of_row _ _ 0 _ _ _ HG1.out
  have g1 := cell_of_row _ _ 1 _ _ _ HG1.out
  have g2 := cell_of_row _ _ 2 _ _ _ HG1.out
  have g3 := cell_of_row _ _ 3 _ _ _ HG1.out
  have g4 := cell_of_row _ _ 4 _ _ _ HG1.out
  have t3 := cell_of_row _ _ 3 _ _ _ HT1.out
  clear hx1
  go_wp2_with (with_reducible refine wpList_load_row rfl 27 (.tmp 4) rfl (w.heap.size + 1) rfl 27 #[.int .i64 k, .int .i64 t, .int .u64 (a : Int), .slice B nm cm] (0, 0) _ HT1.out Try.underlying27 rfl tx_in16 ?_)
  refine (HMK.out w1 HX1.out).mono ?_
  rintro e w2 ⟨hx2, B2, n2, c2, rfl, hn2, hc2, hr2⟩
  have hxa := (Ext.refl w2).alloc (.cells #[.int .i64 s', .int .u64 (n' : Int), .int .u64 (f' : Int), .int .u64 (x' : Int), .slice B2 n2 c2] 25)
  have HX2 := Lib.hid ((HX1.out.trans hx2).trans hxa)
  have HN2 := Lib.hid (heap_alloc_new w2 (.cells #[.int .i64 s', .int .u64 (n' : Int), .int .u64 (f' : Int), .int .u64 (x' : Int), .slice B2 n2 c2] 25))
  have HR2 := Lib.hid (hr2.ext hxa)
  have HG2 := Lib.hid ((hx2.trans hxa).row HG1.out)
  have HT2 := Lib.hid ((hx2.trans hxa).row HT1.out)
  clear g0 g1 g2 g3 g4 t3
  clear hr2 hx2 hxa
  have g0 := cell_of_row _ _ 0 _ _ _ HG2.out
  have g1 := cell_of_row _ _ 1 _ _ _ HG2.out
  have g2 := cell_of_row _ _ 2 _ _ _ HG2.out
  have g3 := cell_of_row _ _ 3 _ _ _ HG2.out
  have g4 := cell_of_row _ _ 4 _ _ _ HG2.out
  have t3 := cell_of_row _ _ 3 _ _ _ HT2.out
  go_wp2_with (with_reducible refine wpList_load_row rfl 27 (.tmp 4) rfl (w.heap.size + 1) rfl 27 #[.int .i64 k, .int .i64 t, .int .u64 (a : Int), .slice B nm cm] (0, 0) _ HT2.out Try.underlying27 rfl tx_in16 ?_)
  refine (HRM.out _ HX2.out).mono ?_
  rintro e w3 ⟨hx3, B3, n3, c3, rfl, hn3, hc3, hr3⟩
  have hxa := (Ext.refl w3).alloc (.cells #[.int .i64 s', .int .u64 (n' : Int), .int .u64 (f' : Int), .int .u64 (x' : Int), .slice B3 n3 c3] 25)
  have HX3 := Lib.hid ((HX2.out.trans hx3).trans hxa)
  have HN3 := Lib.hid (heap_alloc_new w3 (.cells #[.int .i64 s', .int .u64 (n' : Int), .int .u64 (f' : Int), .int .u64 (x' : Int), .slice B3 n3 c3] 25))
  have HR3 := Lib.hid (hr3.ext hxa)
  have HG3 := Lib.hid ((hx3.trans hxa).row HG2.out)
  have HRa3 := Lib.hid (HR2.out.ext (hx3.trans hxa))
  have HNa3 := Lib.hid ((hx3.trans hxa).row HN2.out)
  clear g0 g1 g2 g3 g4 t3
  clear hr3 hx3 hxa
  go_wp2_with (with_reducible refine wpList_load_row rfl 25 (.tmp 3) rfl (w.heap.size) rfl 25 #[.int .i64 s, .int .u64 (nn : Int), .int .u64 (f : Int), .int .u64 (x : Int), .slice A kb c] (0, 0) _ HG3.out Try.underlying25 rfl ev_in16 ?_)
  refine (HOP.out _ HX3.out).mono ?_
  rintro e w4 ⟨hx4, B4, n4, c4, rfl, hn4, hc4, hr4⟩
  have hxa := (Ext.refl w4).alloc (.cells #[.int .i64 k', .int .i64 t', .int .u64 (a' : Int), .slice B4 n4 c4] 32)
  have HX4 := Lib.hid ((HX3.out.trans hx4).trans hxa)
  have HN4 := Lib.hid (heap_alloc_new w4 (.cells #[.int .i64 k', .int .i64 t', .int .u64 (a' : Int), .slice B4 n4 c4] 32))
  have HR4 := Lib.hid (hr4.ext hxa)
  have HG4 := Lib.hid ((hx4.trans hxa).row HG3.out)
  have HRa4 := Lib.hid (HRa3.out.ext (hx4.trans hxa))
  have HNa4 := Lib.hid ((hx4.trans hxa).row HNa3.out)
  have HRb4 := Lib.hid (HR3.out.ext (hx4.trans hxa))
  have HNb4 := Lib.hid ((hx4.trans hxa).row HN3.out)
  clear hr4 hx4 hxa
  go_wp2_with (with_reducible refine wpList_load_row rfl 25 (.tmp 3) rfl (w.heap.size) rfl 25 #[.int .i64 s, .int .u64 (nn : Int), .int .u64 (f : Int), .int .u64 (x : Int), .slice A kb c] (0, 0) _ HG4.out Try.underlying25 rfl ev_in16 ?_)
  refine (HRO.out _ HX4.out).mono ?_
  rintro e w5 ⟨hx5, B5, n5, c5, rfl, hn5, hc5, hr5⟩
  have hxa := (Ext.refl w5).alloc (.cells #[.int .i64 k', .int .i64 t', .int .u64 (a' : Int), .slice B5 n5 c5] 27)
  have HX5 := Lib.hid ((HX4.out.trans hx5).trans hxa)
  have HN5 := Lib.hid (heap_alloc_new w5 (.cells #[.int .i64 k', .int .i64 t', .int .u64 (a' : Int), .slice B5 n5 c5] 27))
  have HR5 := Lib.hid (hr5.ext hxa)
  have HRa5 := Lib.hid (HRa4.out.ext (hx5.trans hxa))
  have HNa5 := Lib.hid ((hx5.trans hxa).row HNa4.out)
  have HRb5 := Lib.hid (HRb4.out.ext (hx5.trans hxa))
  have HNb5 := Lib.hid ((hx5.trans hxa).row HNb4.out)
  have HRc5 := Lib.hid (HR4.out.ext (hx5.trans hxa))
  have HNc5 := Lib.hid ((hx5.trans hxa).row HN4.out)
  clear hr5 hx5 hxa
  go_wp2_with (first | (with_reducible refine wpList_load_row rfl 25 (.tmp 7) rfl (w2.heap.size) rfl 25 #[.int .i64 s', .int .u64 (n' : Int), .int .u64 (f' : Int), .int .u64 (x' : Int), .slice B2 n2 c2] (0, 0) _ HNa5.out Try.underlying25 rfl ev_in16 ?_) | (with_reducible refine wpList_load_row rfl 25 (.tmp 9) rfl (w3.heap.size) rfl 25 #[.int .i64 s', .int .u64 (n' : Int), .int .u64 (f' : Int), .int .u64 (x' : Int), .slice B3 n3 c3] (0, 0) _ HNb5.out Try.underlying25 rfl ev_in16 ?_))
  refine (HS1.out _ B2 B3 n2 n3 c2 c3 hn2 hn3 HRa5.out HRb5.out).mono ?_
  rintro e w6 ⟨rfl, hx6⟩
  have HX6 := Lib.hid (HX5.out.trans hx6)
  have HRc6 := Lib.hid (HRc5.out.ext hx6)
  have HRd6 := Lib.hid (HR5.out.ext hx6)
  have HNc6 := Lib.hid (hx6.row HNc5.out)
  have HNd6 := Lib.hid (hx6.row HN5.out)
  clear hx6
  have e1 : ((r : Int) == (r : Int)) = true := by simp
  have e2 : ((r2 : Int) == (r2 : Int)) = true := by simp
  go_wp2_with (first | (refine wpList_load_row_g (by first | rfl | go_simp) 32 (.tmp 11) rfl (w4.heap.size) rfl 32 #[.int .i64 k', .int .i64 t', .int .u64 (a' : Int), .slice B4 n4 c4] (0, 0) _ HNc6.out Try.underlying32 rfl tx_in16x ?_) | (refine wpList_load_row_g (by first | rfl | go_simp) 27 (.tmp 13) rfl (w5.heap.size) rfl 27 #[.int .i64 k', .int .i64 t', .int .u64 (a' : Int), .slice B5 n5 c5] (0, 0) _ HNd6.out Try.underlying27 rfl tx_in16 ?_))
  refine (HS2.out w6 B4 B5 n4 n5 c4 c5 hn4 hn5 HRc6.out HRd6.out).mono ?_
  rintro e w7 ⟨rfl, hx7⟩
  have HX7 := Lib.hid (HX6.out.trans hx7)
  clear hx7
  go_wp2
  go_ret
  exact ⟨rfl, HX7.out⟩
end Go.Proofs.Ytjifionpblpfoaa

/-
  The code's own Check of layer 16. Conditions: none.
-/
namespace Go.Proofs.Ytjifionpblpfoaa
open Go.RowKit
open Pol (co Sm)

set_option maxHeartbeats 1600000 in
theorem ev_check (s : Int) (n f x k c : Nat) (b : List Nat) (A : Option Addr) (w : World) (hk : b.length = k) :
    Calls Try.prog 13 #[evv s n f x A k c] w (Tells (.int .i64 ((Ev.chk ⟨s, n, f, x, b⟩ : Nat) : Int)) w) := by
  unfold Ev.chk
  dsimp only
  rw [hk]
  clear hk
  by_cases h1 : s < 0
  · have d1 : decide (s < 0) = true := decide_eq_true h1
    rw [if_pos (.inl h1)]
    go_enter Try.func13, Try.ntmps13
    go_wp2
    go_ret
    exact ⟨rfl, (Ext.refl _).alloc _⟩
  have d1 : decide (s < 0) = false := decide_eq_false h1
  by_cases h2 : 6 ≤ s
  · have d2 : decide (s ≥ 6) = true := decide_eq_true h2
    have d2' : decide (6 ≤ s) = true := decide_eq_true h2
    rw [if_pos (.inr h2)]
    go_enter Try.func13, Try.ntmps13
    go_wp2
    go_ret
    exact ⟨rfl, (Ext.refl _).alloc _⟩
  have d2 : decide (s ≥ 6) = false := decide_eq_false h2
  have d2' : decide (6 ≤ s) = false := decide_eq_false h2
  rw [if_neg (by omega)]
  by_cases h3 : 1152921504606846976 < f
  · have d3 : decide ((f : Int) > 1152921504606846976) = true := decide_eq_true (by omega)
    have d3' : decide ((1152921504606846976 : Int) < (f : Int)) = true := decide_eq_true (by omega)
    rw [if_pos h3]
    go_enter Try.func13, Try.ntmps13
    go_wp2
    go_ret
    exact ⟨rfl, (Ext.refl _).alloc _⟩
  have d3 : decide ((f : Int) > 1152921504606846976) = false := decide_eq_false (by omega)
  have d3' : decide ((1152921504606846976 : Int) < (f : Int)) = false := decide_eq_false (by omega)
  rw [if_neg h3]
  by_cases h4 : k < 1
  · have d4 : decide ((k : Int) < 1) = true := decide_eq_true (by omega)
    rw [if_pos (.inl h4)]
    go_enter Try.func13, Try.ntmps13
    go_wp2
    go_ret
    exact ⟨rfl, (Ext.refl _).alloc _⟩
  have d4 : decide ((k : Int) < 1) = false := decide_eq_false (by omega)
  by_cases h5 : 32 < k
  · have d5 : decide ((k : Int) > 32) = true := decide_eq_true (by omega)
    have d5' : decide ((32 : Int) < (k : Int)) = true := decide_eq_true (by omega)
    rw [if_pos (.inr h5)]
    go_enter Try.func13, Try.ntmps13
    go_wp2
    go_ret
    exact ⟨rfl, (Ext.refl _).alloc _⟩
  have d5 : decide ((k : Int) > 32) = false := decide_eq_false (by omega)
  have d5' : decide ((32 : Int) < (k : Int)) = false := decide_eq_false (by omega)
  rw [if_neg (by omega)]
  go_enter Try.func13, Try.ntmps13
  go_wp2
  go_ret
  exact ⟨rfl, (Ext.refl _).alloc _⟩
end Go.Proofs.Ytjifionpblpfoaa

/-
  The builtin copy of bytes to the front of a block of the call's own. Conditions: the block is at least as long.
-/
namespace Go.Proofs.Ytjifionpblpfoaa
open Go.RowKit
open Pol (co Sm)

/-- A copy of bytes to the front of a block of the call's own. -/
theorem splice_bt (n : Nat) (f : Nat → Nat) (a : List Nat) (h : a.length ≤ n) : (splice (bt n f).toList 0 (bv a)).toArray = bt n (fun i => if i < a.length then co a i else f i) := by
  apply Array.ext
  · simp [splice, bv_len, bt_size]; omega
  · intro i h1 h2
    have hi : i < n := by rwa [bt_size] at h2
    rw [← Option.some_inj, ← Array.getElem?_eq_getElem, ← Array.getElem?_eq_getElem, bt_at _ _ _ hi]
    simp only [splice, List.take_zero, List.nil_append, Nat.zero_add, List.getElem?_toArray, bv_len]
    by_cases hia : i < a.length
    · rw [List.getElem?_append_left (by rw [bv_len]; exact hia), bv_at a i hia, if_pos hia]
    · rw [List.getElem?_append_right (by rw [bv_len]; omega), List.getElem?_drop, bv_len, if_neg hia, show a.length + (i - a.length) = i from by omega]
      have := bt_at n f i hi
      simpa using this
theorem wpList_copy_blk {ops : Array Oper} {rest : List Oper} {o : Oper} {act : Act} {w : World} {Q : Exit → Act → World → Prop} (hgd : o.guard = none) (d s : Operand)
    (ho : o.op = .call { callee := .builtin .copy, args := #[d, s], argTypes := #[23, 23] }) (g n dc : Nat) (f : Nat → Nat) (hd : act.eval d = .slice (some ⟨g, 0, none⟩) n dc) (hb : Blk w g n f)
    (A : Option Addr) (a : List Nat) (k c : Nat) (hs : act.eval s = .slice A k c) (hk : a.length = k) (hr : Rd w A a) (hn : k ≤ n) (w0 : World) (hx : Ext w0 w) (hg : w0.heap.size ≤ g)
    (h : ∀ w', Hid (Blk w' g n (fun i => if i < a.length then co a i else f i)) → Ext w0 w' → wpList Try.prog ops Q rest (act.put o.dst (goInt k)) w') :
    wpList Try.prog ops Q (o :: rest) act w := by
  subst hk
  refine wpList_copy_splice hgd d s 23 23 ho 5 Try.underlying23 (by kernel_rfl) _ A n dc a.length c hd hs g 0 (bt n f).toList 5 (by unfold Blk at hb; simpa using hb) (bv a) (by rw [bv_len]; exact (Nat.min_eq_left hn).symm)
    (fun hp => ⟨rfl, ?_⟩) (by simp [bv_len, bt_size]; omega) (bv_one a) w0.heap.size w0 hx.below hg ?_
  · rw [bv_len] at hp
    obtain ⟨b, o', e, hc⟩ := hr.addr hp
    refine ⟨_, e, fun j v hj => ?_⟩
    have hj' : j < a.length := by
      have := (List.getElem?_eq_some_iff.1 hj).1
      rwa [bv_len] at this
    rw [addr_add, hc j hj', ← bv_at a j hj', hj]
  · intro w' HG hB
    rw [bv_len]
    refine h w' (Lib.hid ?_) ⟨hB⟩
    unfold Blk
    rw [HG.out, splice_bt n f a hn]
end Go.Proofs.Ytjifionpblpfoaa

/-
  What Fill of layer 6 does. Conditions: no more than 2^12 bytes.
-/
namespace Go.Proofs.Ytjifionpblpfoaa
open Go.RowKit
open Pol (co Sm)

/-- A copy of bytes somewhere into a block of the call's own. -/
theorem splice_at (n off : Nat) (f : Nat → Nat) (a : List Nat) (h : off + a.length ≤ n) : (splice (bt n f).toList off (bv a)).toArray = bt n (fun i => if off ≤ i ∧ i < off + a.length then co a (i - off) else f i) := by
  apply Array.ext
  · simp [splice, bv_len, bt_size]; omega
  · intro i h1 h2
    have hi : i < n := by rwa [bt_size] at h2
    have hl : (bt n f).toList.length = n := by simp [bt_size]
    have hb : ∀ j, j < n → (bt n f).toList[j]? = some (.int .u8 ((f j : Nat) : Int)) := fun j hj => by simpa using bt_at n f j hj
    rw [← Option.some_inj, ← Array.getElem?_eq_getElem, ← Array.getElem?_eq_getElem, bt_at _ _ _ hi]
    simp only [splice, List.getElem?_toArray, bv_len]
    by_cases h1 : i < off
    · rw [List.getElem?_append_left (by rw [List.length_take, hl]; omega), List.getElem?_take, if_pos h1, if_neg (by omega), hb i hi]
    · rw [List.getElem?_append_right (by rw [List.length_take, hl]; omega), List.length_take, hl, Nat.min_eq_left (by omega)]
      by_cases hia : i - off < a.length
      · rw [List.getElem?_append_left (by rw [bv_len]; exact hia), bv_at a _ hia, if_pos (by omega)]
      · rw [List.getElem?_append_right (by rw [bv_len]; omega), List.getElem?_drop, bv_len, if_neg (by omega), show off + a.length + (i - off - a.length) = i from by omega, hb i hi]
theorem wpList_copy_at {ops : Array Oper} {rest : List Oper} {o : Oper} {act : Act} {w : World} {Q : Exit → Act → World → Prop} (hgd : o.guard = none) (d s : Operand)
    (ho : o.op = .call { callee := .builtin .copy, args := #[d, s], argTypes := #[23, 23] }) (g n off dl dc : Nat) (X : Option Addr) (f : Nat → Nat) (hd : act.eval d = .slice X dl dc) (hb : Blk w g n f)
    (A : Option Addr) (a : List Nat) (k c : Nat) (hs : act.eval s = .slice A k c) (hk : a.length = k) (hr : Rd w A a) (hX : 0 < k → X = some ⟨g, off, none⟩) (hdl : k ≤ dl) (hn : off + k ≤ n) (w0 : World) (hx : Ext w0 w) (hg : w0.heap.size ≤ g)
    (h : ∀ w', Hid (Blk w' g n (fun i => if off ≤ i ∧ i < off + k then co a (i - off) else f i)) → Ext w0 w' → wpList Try.prog ops Q rest (act.put o.dst (goInt k)) w') :
    wpList Try.prog ops Q (o :: rest) act w := by
  subst hk
  refine wpList_copy_splice hgd d s 23 23 ho 5 Try.underlying23 (by kernel_rfl) X A dl dc a.length c hd hs g off (bt n f).toList 5 (by unfold Blk at hb; simpa using hb) (bv a) (by rw [bv_len]; exact (Nat.min_eq_left hdl).symm)
    (fun hp => ⟨hX (by rwa [bv_len] at hp), ?_⟩) (by simp [bv_len, bt_size]; omega) (bv_one a) w0.heap.size w0 hx.below hg ?_
  · rw [bv_len] at hp
    obtain ⟨b, o', e, hc⟩ := hr.addr hp
    refine ⟨_, e, fun j v hj => ?_⟩
    have hj' : j < a.length := by
      have := (List.getElem?_eq_some_iff.1 hj).1
      rwa [bv_len] at this
    rw [addr_add, hc j hj', ← bv_at a j hj', hj]
  · intro w' HG hB
    rw [bv_len]
    refine h w' (Lib.hid ?_) ⟨hB⟩
    unfold Blk
    rw [HG.out, splice_at n off f a hn]
set_option maxHeartbeats 800000 in
theorem j_fill_no (n : Nat) (m : Int) (A : Option Addr) (ca : Nat) (w : World) (h : ¬ FillOk n m) :
    Calls Try.prog 15 #[.slice A n ca, .int .i64 m] w (GivesE [] 6 w) := by
  unfold FillOk at h
  by_cases h1 : m < 1
  · have d1 : decide (m < 1) = true := decide_eq_true h1
    clear h
    go_enter Try.func15, Try.ntmps15
    go_wp2
    go_ret2
    exact ⟨_, rfl, sl_none _, Ext.refl w⟩
  have d1 : decide (m < 1) = false := decide_eq_false h1
  by_cases h2 : 256 < m
  · have d2 : decide (256 < m) = true := decide_eq_true h2
    clear h
    go_enter Try.func15, Try.ntmps15
    go_wp2
    go_ret2
    exact ⟨_, rfl, sl_none _, Ext.refl w⟩
  have d2 : decide (256 < m) = false := decide_eq_false h2
  have d3 : decide (m ≤ (n : Int)) = true := decide_eq_true (by omega)
  clear h
  go_enter Try.func15, Try.ntmps15
  go_wp2
  go_ret2
  exact ⟨_, rfl, sl_none _, Ext.refl w⟩

set_option maxHeartbeats 1600000 in
set_option maxRecDepth 100000 in
theorem j_fill (t : List Nat) (m : Nat) (A : Option Addr) (ca : Nat) (w : World) (hr : Rd w A t) (h : FillOk t.length (m : Int)) :
    Calls Try.prog 15 #[.slice A t.length ca, .int .i64 (m : Int)] w (GivesE (fil t m) 0 w) := by
  obtain ⟨h1, h2, h3⟩ := h
  have HFS := Lib.hid (fil_sm (m := m) hr.1 (by omega))
  have HFL := Lib.hid (fil_len t m)
  have HCO := Lib.hid (fun i (hi : t.length ≤ i) => Pol.co_out t i hi)
  have HFE := Lib.hid (show fil t m = tab m (fun i => if i = 0 then t.length else co t (i - 1)) from rfl)
  have HR := Lib.hid hr
  clear hr
  generalize hn : t.length = n at *
  have HN := Lib.hid hn
  clear hn
  have d1 : decide ((m : Int) < 1) = false := decide_eq_false (by omega)
  have d2 : decide (256 < (m : Int)) = false := decide_eq_false (by omega)
  have d3 : decide (m ≤ n) = false := decide_eq_false (by omega)
  have ew : IntKind.u8.wrap (n : Int) = (n : Int) := IntWalk.u8_in _ (by omega)
  have hmk := run_make_u8 m (by omega) w
  have hm0 : (0 : Int) < (m : Int) := by omega
  obtain ⟨X, hX, _, hXa⟩ := run_rest_u8 (some ⟨w.heap.size, 0, none⟩) m m 1 (by omega) (Nat.le_refl _)
  have hX' : ∀ W, (Instr.slice 23 (.slice (some ⟨w.heap.size, 0, none⟩) m m) (some (.int .i64 1)) none none).run Try.prog W = .ok (.slice X (m - 1) (m - 1)) W := hX
  obtain ⟨m1, hm1⟩ : ∃ m1, m - 1 = m1 := ⟨_, rfl⟩
  rw [hm1] at hX'
  have HM1 := Lib.hid hm1
  have HXA := Lib.hid (show 0 < n → X = some ⟨w.heap.size, 1, none⟩ from fun h => hXa _ _ (by omega) rfl)
  obtain ⟨wa, hwa⟩ : ∃ wa, w.alloc (.cells (bt m fun _ => 0) 5) = wa := ⟨_, rfl⟩
  have hb0 : Blk wa w.heap.size m (fun _ => 0) := hwa ▸ Blk.new w m _
  have hxa : Ext w wa := hwa ▸ (Ext.refl w).alloc _
  have hc0 := hb0.cell 0 (by omega)
  have hf0 := hb0.frozen 0
  have HB1 := Lib.hid (hb0.store 0 n)
  have HX1 := Lib.hid (hxa.setCell (p := ⟨w.heap.size, 0, none⟩) (Nat.le_refl _) (.int .u8 (n : Int)))
  rw [hwa] at hmk
  clear hX hXa hm1 hb0 hxa hwa
  go_enter Try.func15, Try.ntmps15
  go_wp2_with (with_reducible refine wpList_copy_at rfl (.tmp 27) (.tmp 28) rfl w.heap.size m 1 m1 m1 X _ rfl HB1.out A t n ca rfl HN.out (HR.out.ext HX1.out) HXA.out (by have := HM1.out; omega) (by have := HM1.out; omega) w HX1.out (Nat.le_refl _) ?_; intro w2 HB2 hx2)
  have HX2 := Lib.hid hx2
  clear hx2
  go_wp2
  go_ret2
  refine ⟨_, rfl, ⟨_, _, by rw [HFL.out]; rfl, by rw [HFL.out]; exact Nat.le_refl _, ?_⟩, HX2.out⟩
  have hb := HB2.out.congr (f' := fun i => if i = 0 then n else co t (i - 1)) (fun i _ => by
    unfold upd
    by_cases e : i = 0
    · subst e; rw [if_neg (by omega), if_pos rfl, if_pos rfl]
    · rw [if_neg e, if_neg e]
      by_cases h : i < 1 + n
      · rw [if_pos (by omega)]
      · rw [if_neg (by omega), HCO.out _ (by omega)])
  rw [HFE.out]
  refine hb.reads fun i _ => ?_
  have h := HFS.out i
  rw [HFE.out, co_tab] at h
  split at h
  · exact h
  · omega
end Go.Proofs.Ytjifionpblpfoaa

/-
  A byte; what the field's own sum does. Conditions: none beyond the kinds of the arguments.
-/
namespace Go.Proofs.Ytjifionpblpfoaa
open Go.RowKit

/-- A byte. -/
def U (n : Nat) : Value := .int .u8 (n : Int)

theorem add_any (x y : Int) (w : World) :
    Calls Try.prog 41 #[.int .u8 x, .int .u8 y] w fun e w' => e = .returned (.int .u8 (bits .xor .u8 x y)) ∧ w = w' := by
  go_enter Try.func41, Try.ntmps41
  go_wp2
  go_ret
  exact ⟨rfl, rfl⟩
theorem add_is (a b v : Nat) (ha : a < 256) (hb : b < 256) (h : a ^^^ b = v) (w : World) :
    Calls Try.prog 41 #[.int .u8 (a : Int), .int .u8 (b : Int)] w fun e w' => e = .returned (.int .u8 (v : Int)) ∧ w = w' := by
  have := add_any a b w
  rw [u8_xor_nat a b ha hb, h] at this
  exact this
end Go.Proofs.Ytjifionpblpfoaa

/-
  A region that draws its order, whose first operations leave every world of a class in that class and yield the same values in all of them, and whose last operations follow in a forced order: one walk of the text's order serves every order. Conditions: none; of no program in particular.
-/
namespace Go.Proofs.Ytjifionpblpfoaa
open Go

section
variable {P : Program} {ops : Array Oper} {md : Region.Mode} {C : World → Prop}

/-- f operations below n come up in whatever order, each quiet in the class; then L. -/
def ahead (P : Program) (md : Region.Mode) (ops : Array Oper) (C : World → Prop) (n : Nat) (L : Array Bool → Act → Prop) : Nat → Array Bool → Act → Prop
  | 0, listed, a => L listed a
  | f + 1, listed, a => Region.ready md ops listed ≠ [] ∧ ∀ i, i ∈ Region.ready md ops listed → i < n ∧ qOp P ops C i (ahead P md ops C n L f (listed.setIfInBounds i true)) a

theorem wpAny_of_ahead {n g : Nat} {L : Array Bool → Act → Prop} {Q' : Exit → Act → World → Prop} (hL : ∀ listed a w, C w → L listed a → wpAny P md ops Q' g listed a w) (f : Nat) :
    ∀ (listed : Array Bool) (a : Act) (w : World), C w → ahead P md ops C n L f listed a → wpAny P md ops Q' (f + g) listed a w := by
  induction f with
  | zero => intro listed a w hw h; rw [Nat.zero_add]; exact hL _ _ _ hw h
  | succ f ih =>
    intro listed a w hw h
    rw [Nat.succ_add]
    exact ⟨fun h0 => absurd h0 h.1, fun i hi => wpOp_of_qOp hw (fun a' w' hw' h' => ih _ a' w' hw' h') (h.2 i hi).2⟩

/-- What may come up now may be taken first. -/
theorem ahead_first {n i : Nat} {oi : Oper} {v : Value} {L : Array Bool → Act → Prop} (hi : ops[i]? = some oi) (hsel : ∀ (j : Nat) (o : Oper) cs b, ops[j]? = some o → o.op ≠ .select cs b)
    (hs : Region.sinkB md ops n = true) (hc : Region.chainB md ops n = true) (hn : n < ops.size) (hin : i < n)
    (hdone : ∀ listed a, L listed a → ∀ j ∈ Region.ready md ops listed, n ≤ j) (f : Nat) :
    ∀ (listed : Array Bool) (a : Act), HeadInv md ops n listed →
      (∀ j oj, ops[j]? = some oj → j ≠ i → listed.getD j true = false → (∀ e ∈ oj.after, Region.binds md e = true → e.on ≠ i) → oi.apart ops oj = true) →
      i ∈ Region.ready md ops listed → YieldsIn P ops C oi v a →
      ahead P md ops C n L f (listed.setIfInBounds i true) (a.put oi.dst v) → ahead P md ops C n L (f + 1) listed a := by
  induction f with
  | zero =>
    intro listed a inv _ hr hy H
    refine ⟨List.ne_nil_of_mem hr, fun j hj => ?_⟩
    have hjn : j < n := Nat.lt_of_not_le fun h => tail_waits hs hc hn inv _ i rfl hin (mem_ready.1 hr).1 j h hj
    by_cases hji : j = i
    · subst hji; exact ⟨hjn, hy.qOp hi H⟩
    · exact absurd (hdone _ _ H j (ready_mono hj hji)) (by omega)
  | succ f ih =>
    intro listed a inv hfree hr hy H
    have hun := (mem_ready.1 hr).1
    refine ⟨List.ne_nil_of_mem hr, fun j hj => ?_⟩
    have hjn : j < n := Nat.lt_of_not_le fun h => tail_waits hs hc hn inv _ i rfl hin hun j h hj
    by_cases hji : j = i
    · subst hji; exact ⟨hjn, hy.qOp hi H⟩
    obtain ⟨hjun, oj, hoj, hall⟩ := mem_ready.1 hj
    have hap := hfree j oj hoj hji hjun fun e he hb heq => by
      have h1 := hall e he hb
      rw [heq, getD_both hun] at h1
      cases h1
    refine ⟨hjn, qOp_mono (fun a' h3 => ih (listed.setIfInBounds j true) a' (inv.set hj hjn) ?_ (ready_mono hr (Ne.symm hji)) h3.1 ?_)
      (qOp_put hoj hap (fun cs b => hsel i oi cs b hi) (fun cs b => hsel j oj cs b hoj) hy (H.2 j (ready_mono hj hji)).2)⟩
    · intro k ok hk hki hu hno
      refine hfree k ok hk hki ?_ hno
      by_cases hjk : j = k
      · subst hjk; exact hjun
      · rwa [getD_set_ne true hjk] at hu
    · rw [Array.setIfInBounds_comm _ _ hji]; exact h3.2

theorem ahead_lex {n g : Nat} {Lq : Act → Prop} (hsel : Region.noSelect ops = true) (hs : Region.sinkB md ops n = true) (hc : Region.chainB md ops n = true) (hn : n < ops.size) (l : List Oper) :
    ∀ (k : Nat) (listed : Array Bool) (a : Act), (∀ j, j < l.length → l[j]? = ops[k + j]?) → k + l.length = n → HeadInv md ops n listed →
    Region.lexHead md ops g l.length k listed = true → wpQuiet P ops C Lq l a →
    ahead P md ops C n (fun listed' a' => Region.seqB md ops g n listed' = true ∧ Lq a') l.length listed a := by
  induction l with
  | nil =>
    intro k listed a _ hk _ hB h
    obtain rfl : k = n := by simpa using hk
    exact ⟨by simpa [Region.lexHead] using hB, h⟩
  | cons o l ih =>
    intro k listed a hl hk inv hB h
    have h0 : ops[k]? = some o := by simpa using (hl 0 (by simp)).symm
    simp only [List.length_cons, Region.lexHead, Bool.and_eq_true] at hB hk
    have hr : k ∈ Region.ready md ops listed := by simpa using hB.1.1
    obtain ⟨v, hy, hK⟩ := yieldsIn_of_qOp (C := C) (K := wpQuiet P ops C Lq l) h0 (by unfold qOp; simp only [h0]; exact h)
    refine ahead_first h0 (Region.noSelect_spec hsel) hs hc hn (by omega) (fun _ _ hL => seqB_ready hL.1) l.length listed a inv (Region.free_spec h0 hB.1.2) hr hy ?_
    exact ih (k + 1) _ _ (fun j hj => by have := hl (j + 1) (by simp; omega); simpa [Nat.add_assoc, Nat.add_comm 1 j] using this) (by omega) (inv.set hr (by omega)) hB.2 hK

theorem any_quiet_tail {Q : Exit → Act → World → Prop} {a : Act} {w : World} {l : List Oper} (n : Nat) (C : World → Prop) (hB : Region.lexTailB .any l.toArray n = true) (hC : C w.drew)
    (h : wpQuiet P l.toArray C (fun a' => ∀ w', C w' → wpList P l.toArray Q (l.drop n) a' w') (l.take n) a) : wpAny P .any l.toArray Q l.toArray.size (Array.replicate l.toArray.size false) a w.drew := by
  simp only [Region.lexTailB, Bool.and_eq_true, decide_eq_true_eq] at hB
  obtain ⟨⟨⟨⟨hsel, hn⟩, hs⟩, hc⟩, hlex⟩ := hB
  have hn' : n < l.length := by simpa using hn
  have htl : (l.take n).length = n := by rw [List.length_take]; omega
  have hdl : (l.drop n).length = l.toArray.size - n := by simp
  have inv0 : HeadInv .any l.toArray n (Array.replicate l.toArray.size false) :=
    ⟨by simp, fun j oj _ hl => (by rw [getD_replicate_false] at hl; cases hl), fun t _ ht => getD_in (by simpa using ht) (getD_replicate_false _ _)⟩
  have H := ahead_lex (md := .any) (g := l.toArray.size - n) (C := C) hsel hs hc hn (l.take n) 0 _ a (fun j hj => by
    have hj' : j < n := by rwa [htl] at hj
    simp [hj']) (by rw [htl]; exact Nat.zero_add n) inv0 (by rw [htl]; exact hlex) h
  have key := wpAny_of_ahead (C := C) (Q' := Q) (g := l.toArray.size - n) (fun listed a' w' hw' hL => by
    have := wpAny_of_seq (md := .any) (Q' := Q) (l.drop n) n listed a' w' (fun j => by simp [List.getElem?_drop]) (by rw [hdl]; exact hL.1) (hL.2 w' hw')
    rwa [hdl] at this) _ _ _ _ hC H
  rw [htl, show n + (l.toArray.size - n) = l.toArray.size by omega] at key
  exact key
theorem wp_region_quiet_tail {id : Nat} {Q : Exit → Act → World → Prop} {a : Act} {w : World} {l : List Oper} (n : Nat) (C : World → Prop) (hm : P.follows .mixedOrders = true) (hB : Region.lexTailB .any l.toArray n = true) (hC : C w.drew)
    (h : wpQuiet P l.toArray C (fun a' => ∀ w', C w' → wpList P l.toArray Q (l.drop n) a' w') (l.take n) a) : (Code.region id l.toArray true).wp P Q a w :=
  wp_region_any hm (any_quiet_tail n C hB hC h)
end
end Go.Proofs.Ytjifionpblpfoaa

/-
  What sum, Seal and Pad of layer 6 do. Conditions: no more than 2^12 bytes.
-/
namespace Go.Proofs.Ytjifionpblpfoaa
open Go.RowKit
open Pol (co Sm)

/-- The first k sums, and 0 behind them. -/
def sk (t p : List Nat) (k i : Nat) : Nat := if i < k then co t i ^^^ co p i else 0
theorem sk_lt {t p : List Nat} (ht : Sm t) (hp : Sm p) (k i : Nat) : sk t p k i < 256 := by
  unfold sk
  split
  · exact Gf.xor_lt _ _ (ht i) (hp i)
  · omega
theorem sk_step (t p : List Nat) (k i : Nat) : upd (sk t p k) k (co t k ^^^ co p k) i = sk t p (k + 1) i := by
  unfold upd sk
  by_cases e : i = k
  · subst e; rw [if_pos rfl, if_pos (by omega)]
  · rw [if_neg e]
    by_cases h : i < k
    · rw [if_pos h, if_pos (by omega)]
    · rw [if_neg h, if_neg (by omega)]
theorem sk_all (t p : List Nat) (n : Nat) (hn : t.length = n) : tab n (sk t p n) = lx t p := by
  subst hn
  unfold lx tab
  refine List.map_congr_left fun i hi => ?_
  unfold sk
  rw [if_pos (List.mem_range.1 hi)]

set_option maxHeartbeats 800000 in
set_option maxRecDepth 100000 in
theorem j_sum (t p : List Nat) (A B : Option Addr) (ca cb : Nat) (w : World) (ha : Rd w A t) (hb : Rd w B p) (hl : t.length ≤ 4096) (he : t.length = p.length) :
    Calls Try.prog 29 #[.slice A t.length ca, .slice B p.length cb] w (GivesE (lx t p) 0 w) := by
  have HLL := Lib.hid (lx_len t p)
  rw [← he]
  generalize hna : t.length = n at *
  have HALL := Lib.hid (sk_all t p n hna)
  have HA := Lib.hid ha
  have HB := Lib.hid hb
  have HNA := Lib.hid hna
  have HNB := Lib.hid he.symm
  have hmk := fun W => run_make_u8 n (by omega) W
  have t0 : ((n : Int) != (n : Int)) = false := by simp
  clear ha hb hna he
  go_enter Try.func29, Try.ntmps29
  go_wp2
  clear hmk t0
  go_loopg [18] n (fun g s wx => ∃ j : Nat, j + g = n ∧ s = .int .i64 (j : Int) ∧ Blk wx w.heap.size n (sk t p j) ∧ Ext w wx)
  case atStart => exact ⟨0, by omega, rfl, (Blk.new w n _).congr (fun i _ => by unfold sk; rw [if_neg (by omega)]), (Ext.refl _).alloc _⟩
  case round =>
    obtain ⟨j, hjg, rfl, hblk, hx⟩ := hrel
    have HY := Lib.hid hx
    have HL := Lib.hid hblk
    clear hx hblk
    cases gk with
    | zero =>
      obtain rfl : j = n := by omega
      clear hjg
      have HR := Lib.hid (HALL.out ▸ HL.out.reads (fun i _ => sk_lt HA.out.1 HB.out.1 j i))
      go_wp2
      go_ret2
      exact ⟨_, rfl, ⟨_, _, by rw [HLL.out]; rfl, by rw [HLL.out]; exact Nat.le_refl _, HR.out⟩, HY.out⟩
    | succ g =>
      have hj : j < n := by omega
      have hjI : (j : Int) < (n : Int) := by omega
      obtain ⟨b1, o1, e1, hc1⟩ := (HA.out.ext HY.out).2 j (by rw [HNA.out]; exact hj)
      obtain ⟨b2, o2, e2, hc2⟩ := (HB.out.ext HY.out).2 j (by rw [HNB.out]; exact hj)
      subst e1; subst e2
      have hc3 := HL.out.cell j hj
      have hfz := HL.out.frozen j
      have HU := Lib.hid (((HL.out.drewN 1).store j (co t j ^^^ co p j)).congr (f' := sk t p (j + 1)) (fun i _ => sk_step t p j i))
      have HE := Lib.hid ((HY.out.drewN 1).setCell (p := ⟨w.heap.size, j, none⟩) (Nat.le_refl _) (.int .u8 ((co t j ^^^ co p j : Nat) : Int)))
      have HM := Lib.hid (fun W => (add_is (co t j) (co p j) _ (HA.out.1 j) (HB.out.1 j) rfl W).mono fun _ _ h => (⟨h.1, h.2.symm⟩ : _ ∧ _ = W))
      go_wp2
      go_still_tail 12, (by kernel_rfl)
      still_call (HM.out _)
      repeat still_step
      refine wpStill_nil ?_
      change wpList _ _ _ _ _ wr.drew
      go_wp2
      go_roundg g
      case measure => omega
      case rel => exact ⟨j + 1, by omega, by go_num, HU.out, HE.out⟩

theorem j_sum_no (t p : Nat) (A B : Option Addr) (ca cb : Nat) (w : World) (he : t ≠ p) :
    Calls Try.prog 29 #[.slice A t ca, .slice B p cb] w (GivesE [] 1 w) := by
  have t0 : ((t : Int) != (p : Int)) = true := by simp; omega
  clear he
  go_enter Try.func29, Try.ntmps29
  go_wp2
  go_ret2
  exact ⟨_, rfl, sl_none _, Ext.refl w⟩
theorem j_seal (l : List Nat) (n : Int) (x y : Value) (w : World) (h : Calls Try.prog 29 #[x, y] w (GivesE l n w)) :
    Calls Try.prog 16 #[x, y] w (GivesE l n w) := by
  have H := Lib.hid h
  clear h
  go_enter Try.func16, Try.ntmps16
  go_wp2_with fail
  refine H.out.mono ?_
  rintro e w1 ⟨v, rfl, hs, hx⟩
  have HS := Lib.hid hs
  have HX := Lib.hid hx
  clear hs hx
  go_wp2
  go_ret2
  exact ⟨_, rfl, HS.out, HX.out⟩
end Go.Proofs.Ytjifionpblpfoaa

/-
  The code's own valid: which orders can be. Conditions: none.
-/
namespace Go.Proofs.Ytjifionpblpfoaa
open Go.RowKit
open Pol (co Sm)

set_option maxHeartbeats 1600000 in
theorem tx_valid (k t : Int) (a n c : Nat) (A : Option Addr) (w : World) : Calls Try.prog 26 #[.agg #[.int .i64 k, .int .i64 t, .int .u64 (a : Int), .slice A n c]] w (Tells (.bool (decide (RightN k t a n))) w) := by
  by_cases h0 : 16 < n
  · have d0 : decide ((n : Int) > 16) = true := decide_eq_true (by omega)
    have d0' : decide (16 < (n : Int)) = true := decide_eq_true (by omega)
    rw [show decide (RightN k t a n) = false from decide_eq_false (by unfold RightN; omega)]
    go_enter Try.func26, Try.ntmps26
    go_wp2
    go_ret
    exact ⟨rfl, (Ext.refl _).alloc _⟩
  have d0 : decide ((n : Int) > 16) = false := decide_eq_false (by omega)
  have d0' : decide (16 < (n : Int)) = false := decide_eq_false (by omega)
  by_cases h1 : k = 1
  · by_cases h2 : 0 ≤ t
    · have d2 : decide (t ≥ 0) = true := decide_eq_true (by omega)
      have d2' : decide (0 ≤ t) = true := decide_eq_true (by omega)
      by_cases h3 : t < 6
      · have d3 : decide (t < 6) = true := decide_eq_true h3
        rw [show decide (RightN k t a n) = true from decide_eq_true (by unfold RightN; omega)]
        subst h1
        go_enter Try.func26, Try.ntmps26
        go_wp2
        go_ret
        exact ⟨rfl, (Ext.refl _).alloc _⟩
      · have d3 : decide (t < 6) = false := decide_eq_false h3
        rw [show decide (RightN k t a n) = false from decide_eq_false (by unfold RightN; omega)]
        subst h1
        go_enter Try.func26, Try.ntmps26
        go_wp2
        go_ret
        exact ⟨rfl, (Ext.refl _).alloc _⟩
    · have d2 : decide (t ≥ 0) = false := decide_eq_false (by omega)
      have d2' : decide (0 ≤ t) = false := decide_eq_false (by omega)
      rw [show decide (RightN k t a n) = false from decide_eq_false (by unfold RightN; omega)]
      subst h1
      go_enter Try.func26, Try.ntmps26
      go_wp2
      go_ret
      exact ⟨rfl, (Ext.refl _).alloc _⟩
  have d1 : (k == 1) = false := by simp; omega
  have d1' : decide (k = 1) = false := decide_eq_false h1
  by_cases h4 : k = 2
  · by_cases h5 : t = 0
    · by_cases h6 : a = 0
      · have HD := Lib.hid (show decide (RightN k t a n) = true from decide_eq_true (by unfold RightN; omega))
        rw [HD.out]
        subst h4 h5 h6
        go_enter Try.func26, Try.ntmps26
        go_wp2
        go_ret
        exact ⟨rfl, (Ext.refl _).alloc _⟩
      · have d6 : ((a : Int) == 0) = false := by simp; omega
        have d6' : decide ((a : Int) = 0) = false := decide_eq_false (by omega)
        have d6'' : decide (a = 0) = false := decide_eq_false h6
        have HD := Lib.hid (show decide (RightN k t a n) = false from decide_eq_false (by unfold RightN; omega))
        rw [HD.out]
        subst h4 h5
        go_enter Try.func26, Try.ntmps26
        go_wp2
        go_ret
        exact ⟨rfl, (Ext.refl _).alloc _⟩
    · have d5 : (t == 0) = false := by simp; omega
      have d5' : decide (t = 0) = false := decide_eq_false h5
      have HD := Lib.hid (show decide (RightN k t a n) = false from decide_eq_false (by unfold RightN; omega))
      rw [HD.out]
      subst h4
      go_enter Try.func26, Try.ntmps26
      go_wp2
      go_ret
      exact ⟨rfl, (Ext.refl _).alloc _⟩
  · have d4 : (k == 2) = false := by simp; omega
    have d4' : decide (k = 2) = false := decide_eq_false h4
    rw [show decide (RightN k t a n) = false from decide_eq_false (by unfold RightN; omega)]
    go_enter Try.func26, Try.ntmps26
    go_wp2
    go_ret
    exact ⟨rfl, (Ext.refl _).alloc _⟩
end Go.Proofs.Ytjifionpblpfoaa

/-
  What Number and Text of layer 8 lay behind bytes. Conditions: no more than 2^20 bytes each.
-/
namespace Go.Proofs.Ytjifionpblpfoaa
open Go.RowKit
open Pol (co Sm)

set_option maxHeartbeats 1600000 in
set_option maxRecDepth 100000 in
theorem cd_layN (base : Nat) (v : Value) (l : List Nat) (n : Nat) (w : World) (hm : Mine w base v l) (hs : Sm l) (hl : l.length ≤ 1048576) (hn : n < 18446744073709551616) (hb : base ≤ w.heap.size) :
    Calls Try.prog 27 #[v, .int .u64 (n : Int)] w (Lays base v (l ++ vn n) w) := by
  have HSM := Lib.hid (sm_app hs (vn_sm n))
  have HTEN := Lib.hid (vn_ten hn)
  have hn10 : n < 128 ^ (9 + 1) := by omega
  obtain ⟨V, hV⟩ : ∃ V, l ++ vn n = V := ⟨_, rfl⟩
  have HVL := Lib.hid (show V.length ≤ 1048586 by rw [← hV, List.length_append]; have := HTEN.out; omega)
  rw [hV] at HSM
  rw [hV]
  have HV := Lib.hid hV
  clear hV
  obtain ⟨B0, c0, rfl, hc0, _⟩ := hm.slice hs
  have HM0 := Lib.hid hm
  have HB := Lib.hid hb
  obtain ⟨l0, hl0⟩ : ∃ l0, l.length = l0 := ⟨_, rfl⟩
  have HL0 := Lib.hid hl0
  obtain ⟨v0, hv0⟩ : ∃ v0, Value.slice B0 l.length c0 = v0 := ⟨_, rfl⟩
  rw [hv0] at HM0 ⊢
  rw [hl0] at hv0 hc0 hl
  have HV0 := Lib.hid hv0
  rw [← hv0]
  clear hm hb hl0 hv0
  go_enter Try.func27, Try.ntmps27
  go_wp2
  go_loopg [0, 1] 9 (fun g s0 s1 wx => ∃ (m : Nat) (acc : List Nat) (B : Option Addr) (c : Nat), m < 128 ^ (g + 1) ∧ s1 = .int .u64 (m : Int) ∧ m < 18446744073709551616 ∧ acc ++ vn m = V ∧ s0 = .slice B acc.length c ∧ Mine wx base (.slice B acc.length c) acc ∧ LayS w wx v0 (.slice B acc.length c))
  case atStart => exact ⟨n, l, B0, c0, hn10, rfl, hn, HV.out, by rw [HL0.out], by rw [HL0.out, HV0.out]; exact HM0.out, by rw [HL0.out, HV0.out]; exact LayS.refl _ _⟩
  case round =>
    obtain ⟨m, acc, B, c, hmg, rfl, hm64, hac, rfl, hmi, hx⟩ := hrel
    have HM := Lib.hid hmi
    have HX := Lib.hid hx
    have hlen : acc.length ≤ 1048586 := by have := HVL.out; rw [← hac, List.length_append] at this; omega
    have hsz : w.heap.size ≤ wr.heap.size := hx.1.size
    have HSZ := Lib.hid (Nat.le_trans HB.out hsz)
    obtain ⟨la, hla⟩ : ∃ la, acc.length = la := ⟨_, rfl⟩
    have HLA := Lib.hid hla
    rw [hla] at HM HX hlen ⊢
    clear hmi hx hla hsz
    by_cases h128 : m < 128
    · have d1 : decide (128 ≤ (m : Int)) = false := decide_eq_false (by omega)
      have e1 : IntKind.u8.wrap (m : Int) = (m : Int) := IntWalk.u8_in _ (by omega)
      have HAV := Lib.hid (show acc ++ [m] = V from by rw [← hac, vn_lt h128])
      have hm256 : m < 256 := by omega
      clear hac hmg
      go_wp2_with (at_builtin; refine wpList_append_rd rfl (.tmp 15) (.tmp 18) rfl base _ acc [m] rfl (mine_ext HM.out ((Ext.refl _).alloc _)) (some ⟨wr.heap.size, 0, none⟩) 1 1 rfl rfl (rd_one wr m hm256) (by rw [HLA.out]; simp; omega) (by simp; have := HSZ.out; omega) ?_; intro v' w3 hown' hg' hat'; rw [HAV.out] at hown'; have hx3 := (HX.out.alloc (.cells #[.int .u8 (m : Int)] 5)).step hg' hat'; have HO := Lib.hid (hx3.lays hown'); clear hown' hg' hat' hx3)
      go_ret
      rw [HV0.out]
      exact HO.out
    · cases gk with
      | zero => omega
      | succ g =>
        have d1 : decide (128 ≤ (m : Int)) = true := decide_eq_true (by omega)
        obtain ⟨q, hq⟩ : ∃ q, m % 256 = q := ⟨_, rfl⟩
        obtain ⟨y, hy⟩ : ∃ y, q % 128 + 128 = y := ⟨_, rfl⟩
        obtain ⟨m2, hm2⟩ : ∃ m2, m / 128 = m2 := ⟨_, rfl⟩
        have e1 : IntKind.u8.wrap (m : Int) = (q : Int) := by rw [IntKind.wrap_u8]; omega
        have e2 : bits .or .u8 (q : Int) 128 = (y : Int) := by rw [or8_128 q (by omega), hy]
        have e5 : (m : Int) / 128 = (m2 : Int) := by omega
        have hy256 : y < 256 := by omega
        have HAV := Lib.hid (show (acc ++ [y]) ++ vn m2 = V from by
          rw [← hac, vn_ge h128, List.append_assoc, hm2, show m % 128 + 128 = y from by omega]; rfl)
        have HS9 := Lib.hid (show Sm (acc ++ [y]) from (sm_split (b := vn m2) (by rw [HAV.out]; exact HSM.out)).1)
        have HL9 := Lib.hid (show (acc ++ [y]).length = la + 1 by rw [List.length_append, HLA.out]; rfl)
        have hm2b : m2 < 128 ^ (g + 1) := by rw [← hm2]; rw [Nat.pow_succ] at hmg; omega
        have hm2c : m2 < 18446744073709551616 := by omega
        clear hac hq hy hm2 hmg
        go_wp2_with (at_builtin; refine wpList_append_rd rfl (.tmp 7) (.tmp 11) rfl base _ acc [y] rfl (mine_ext HM.out ((Ext.refl _).alloc _)) (some ⟨wr.heap.size, 0, none⟩) 1 1 rfl rfl (rd_one wr y hy256) (by rw [HLA.out]; simp; omega) (by simp; have := HSZ.out; omega) ?_; intro v' w3 hown' hg' hat'; have hx3 := (HX.out.alloc (.cells #[.int .u8 (y : Int)] 5)).step hg' hat'; obtain ⟨Bv, cv, ev', hcv, _⟩ := hown'.slice HS9.out; rw [HL9.out] at ev'; subst ev'; have HO := Lib.hid hown'; have HX3 := Lib.hid hx3; clear hown' hg' hat' hx3)
        go_roundg g
        case measure => omega
        case rel => exact ⟨m2, acc ++ [y], Bv, cv, hm2b, rfl, hm2c, HAV.out, by rw [HL9.out], by rw [HL9.out]; exact HO.out, by rw [HL9.out]; exact HX3.out⟩
set_option maxHeartbeats 1600000 in
theorem cd_layT (base : Nat) (v : Value) (l t : List Nat) (A : Option Addr) (ca : Nat) (w : World) (hm : Mine w base v l) (hs : Sm l) (hr : Rd w A t) (hl : l.length ≤ 1048576) (ht : t.length ≤ 1048576) (hb : base ≤ w.heap.size) :
    Calls Try.prog 28 #[v, .slice A t.length ca] w (Lays base v (l ++ vt t) w) := by
  have HN := Lib.hid (cd_layN w.heap.size (.slice none 0 0) [] t.length w (Mine.nil _ _) Sm.nil (by decide) (by omega) (Nat.le_refl _))
  have HR := Lib.hid hr
  have HM := Lib.hid hm
  have HB := Lib.hid hb
  have HS := Lib.hid (vt_sm hr.1)
  have HSN := Lib.hid (vn_sm t.length)
  have HTEN := Lib.hid (vn_ten (n := t.length) (by omega))
  have HVT := Lib.hid (show vn t.length ++ t = vt t from rfl)
  have HVL := Lib.hid (show (vt t).length ≤ 1048586 by rw [← HVT.out, List.length_append]; have := HTEN.out; omega)
  rw [List.nil_append] at HN
  obtain ⟨B0, c0, ev0, hc0, _⟩ := hm.slice hs
  have HV0 := Lib.hid ev0
  rw [ev0]
  clear hr hm hb
  generalize hn : t.length = n at *
  have HL := Lib.hid hn
  clear hn
  have e1 : IntKind.u64.wrap (n : Int) = (n : Int) := by rw [IntKind.wrap_u64]; omega
  generalize vn n = V at *
  obtain ⟨V2, hV2⟩ : ∃ V2, vt t = V2 := ⟨_, rfl⟩
  rw [hV2] at HS HVT HVL ⊢
  clear hV2 ev0
  go_enter Try.func28, Try.ntmps28
  go_wp2_with fail
  refine HN.out.mono ?_
  rintro e w1 ⟨v1, rfl, hm1, hg1, _⟩
  have HX1 := Lib.hid ((Ext.refl w).more hg1 (fun r e => by simp [Value.ownBlock] at e))
  obtain ⟨B, c, ev, hc, _⟩ := hm1.slice HSN.out
  subst ev
  have HM1 := Lib.hid hm1
  clear hm1 hg1
  obtain ⟨lv, hlv⟩ : ∃ lv, V.length = lv := ⟨_, rfl⟩
  have HLV := Lib.hid hlv
  rw [hlv] at HM1 hc HTEN ⊢
  clear hlv
  go_wp2_with (at_builtin; first | (refine wpList_append_rd rfl (.tmp 9) (.tmp 10) rfl w.heap.size _ V t rfl HM1.out A n ca rfl HL.out (HR.out.ext HX1.out) (by rw [HLV.out, HL.out]; have := HTEN.out; omega) (by have := HX1.out.size; omega) ?_; intro v2 w3 hown' hg' hat'; rw [HVT.out] at hown'; have hx3 := HX1.out.more hg' (fun r e => (HM1.out.block r e).1); obtain ⟨Bv, cv, ev', hcv, hrv⟩ := hown'.slice HS.out; subst ev'; have HR3 := Lib.hid hrv; have HX3 := Lib.hid hx3; clear hown' hg' hat' hx3 hrv) | (refine wpList_append_rd rfl (.tmp 12) (.tmp 13) rfl base _ l V2 rfl (HV0.out ▸ mine_ext HM.out HX3.out) Bv V2.length cv rfl rfl HR3.out (by have := HVL.out; omega) (by have := HX3.out.size; have := HB.out; omega) ?_; intro v4 w5 hown5 hg5 hat5; have HO := Lib.hid ((((LayS.refl w (.slice B0 l.length c0)).ext HX3.out).step hg5 hat5).lays hown5); clear hown5 hg5 hat5))
  go_ret
  exact HO.out

end Go.Proofs.Ytjifionpblpfoaa

/-
  The code's own Encode of layer 14. Conditions: no more than 2^16 bytes.
-/
namespace Go.Proofs.Ytjifionpblpfoaa
open Go.RowKit
open Pol (co Sm)

set_option maxHeartbeats 3200000 in
set_option maxRecDepth 100000 in
theorem tx_encode (k t : Int) (a n c : Nat) (m : List Nat) (A : Option Addr) (w : World) (hn : m.length = n) (hr : Rd w A m) (hl : n ≤ 65536) (ha : a < 18446744073709551616) :
    Calls Try.prog 14 #[.agg #[.int .i64 k, .int .i64 t, .int .u64 (a : Int), .slice A n c]] w (EncR ⟨k, t, a, m⟩ w) := by
  have HV := Lib.hid (fun u => tx_valid k t a n c A u)
  rw [right_is hn] at HV
  have HX0 := Lib.hid ((Ext.refl w).alloc (.cells #[.int .i64 k, .int .i64 t, .int .u64 (a : Int), .slice A n c] 32))
  have HG := Lib.hid (heap_alloc_new w (.cells #[.int .i64 k, .int .i64 t, .int .u64 (a : Int), .slice A n c] 32))
  by_cases ho : Od.right ⟨k, t, a, m⟩
  · rw [decide_eq_true ho] at HV
    obtain ⟨b1, b2, b3, b4, _⟩ := Od.right_bounds ho
    dsimp only at b1 b2 b3 b4
    have HE := Lib.hid (show Od.bytes ⟨k, t, a, m⟩ = [] ++ vn k.toNat ++ vn t.toNat ++ vn a ++ vt m ∧ Od.code ⟨k, t, a, m⟩ = 0 from by
      unfold Od.bytes Od.code Od.enc
      rw [if_pos ho, if_pos ho]
      exact ⟨rfl, rfl⟩)
    have HSM := Lib.hid (Od.bytes_sm (o := ⟨k, t, a, m⟩) hr.1)
    obtain ⟨kk, rfl⟩ : ∃ q : Nat, (q : Int) = k := ⟨k.toNat, by omega⟩
    obtain ⟨tt, rfl⟩ : ∃ q : Nat, (q : Int) = t := ⟨t.toNat, by omega⟩
    rw [Int.toNat_natCast, Int.toNat_natCast] at HE
    have w8 : IntKind.u64.wrap (kk : Int) = (kk : Int) := by rw [IntKind.wrap_u64]; omega
    have w8' : IntKind.u64.wrap (tt : Int) = (tt : Int) := by rw [IntKind.wrap_u64]; omega
    obtain ⟨base, hbase⟩ : ∃ base, (w.alloc (.cells #[.int .i64 (kk : Int), .int .i64 (tt : Int), .int .u64 (a : Int), .slice A n c] 32)).heap.size = base := ⟨_, rfl⟩
    have HBS := Lib.hid hbase
    have S1 : Sm ([] ++ vn kk) := sm_app Sm.nil (vn_sm _)
    have S2 : Sm ([] ++ vn kk ++ vn tt) := sm_app S1 (vn_sm _)
    have S3 : Sm ([] ++ vn kk ++ vn tt ++ vn a) := sm_app S2 (vn_sm _)
    have T1 := vn_ten (show kk < 18446744073709551616 by omega)
    have T2 := vn_ten (show tt < 18446744073709551616 by omega)
    have T3 := vn_ten ha
    have L1 := Lib.hid (fun u (hb : base ≤ u.heap.size) => cd_layN base (.slice none 0 0) [] kk u (Mine.nil _ _) Sm.nil (by decide) (by omega) hb)
    have L2 := Lib.hid (fun u v (hb : base ≤ u.heap.size) (hm : Mine u base v ([] ++ vn kk)) => cd_layN base v _ tt u hm S1 (by simp; omega) (by omega) hb)
    have L3 := Lib.hid (fun u v (hb : base ≤ u.heap.size) (hm : Mine u base v ([] ++ vn kk ++ vn tt)) => cd_layN base v _ a u hm S2 (by simp; omega) ha hb)
    have L4 := Lib.hid (fun u v (hb : base ≤ u.heap.size) (hu : Ext w u) (hm : Mine u base v ([] ++ vn kk ++ vn tt ++ vn a)) => show Calls Try.prog 28 #[v, .slice A n c] u (Lays base v ([] ++ vn kk ++ vn tt ++ vn a ++ vt m) u) from by
      have h := cd_layT base v _ m A c u hm S3 (hr.ext hu) (by simp; omega) (by omega) hb
      rwa [hn] at h)
    unfold EncR
    rw [HE.out.1] at HSM ⊢
    rw [HE.out.2]
    clear hr ho S1 S2 S3 T1 T2 T3 b1 b2 b3 b4 HE hbase
    generalize vn kk = V1 at *
    generalize vn tt = V2 at *
    generalize vn a = V3 at *
    generalize vt m = V4 at *
    go_enter Try.func14, Try.ntmps14
    go_wp2_with fail
    refine (HV.out _).mono ?_
    rintro e w1 ⟨rfl, hx1⟩
    have g1 := hx1.row HG.out
    have q0 : w1.cell? ⟨w.heap.size, 0, none⟩ = some (.int .i64 (kk : Int)) := cell_of_row _ _ 0 _ _ _ g1
    have HX1 := Lib.hid hx1
    clear hx1 g1
    go_wp2_with fail
    refine (L1.out w1 (by rw [← HBS.out]; exact HX1.out.size)).mono ?_
    rintro e w2 ⟨v2, rfl, hm2, hg2, _⟩
    have hx2 := HX1.out.more hg2 (fun r e => by cases e)
    have g2 := hx2.row HG.out
    have q1 : w2.cell? ⟨w.heap.size, 1, none⟩ = some (.int .i64 (tt : Int)) := cell_of_row _ _ 1 _ _ _ g2
    have HX2 := Lib.hid hx2
    have HM2 := Lib.hid hm2
    clear hx2 g2 hm2 hg2 q0
    go_wp2_with fail
    refine (L2.out w2 v2 (by rw [← HBS.out]; exact HX2.out.size) HM2.out).mono ?_
    rintro e w3 ⟨v3, rfl, hm3, hg3, _⟩
    have hx3 := HX2.out.more hg3 (fun r e => by rw [HBS.out]; exact (HM2.out.block r e).1)
    have g3 := hx3.row HG.out
    have q2 : w3.cell? ⟨w.heap.size, 2, none⟩ = some (.int .u64 (a : Int)) := cell_of_row _ _ 2 _ _ _ g3
    have HX3 := Lib.hid hx3
    have HM3 := Lib.hid hm3
    clear hx3 g3 hm3 hg3 q1
    go_wp2_with fail
    refine (L3.out w3 v3 (by rw [← HBS.out]; exact HX3.out.size) HM3.out).mono ?_
    rintro e w4 ⟨v4, rfl, hm4, hg4, _⟩
    have hx4 := HX3.out.more hg4 (fun r e => by rw [HBS.out]; exact (HM3.out.block r e).1)
    have g4 := hx4.row HG.out
    have q3 : w4.cell? ⟨w.heap.size, 3, none⟩ = some (.slice A n c) := cell_of_row _ _ 3 _ _ _ g4
    have HX4 := Lib.hid hx4
    have HM4 := Lib.hid hm4
    clear hx4 g4 hm4 hg4 q2
    go_wp2_with fail
    refine (L4.out w4 v4 (by rw [← HBS.out]; exact HX4.out.size) (HX0.out.trans HX4.out) HM4.out).mono ?_
    rintro e w5 ⟨v5, rfl, hm5, hg5, _⟩
    have HX5 := Lib.hid (HX4.out.more hg5 (fun r e => by rw [HBS.out]; exact (HM4.out.block r e).1))
    obtain ⟨B5, c5, rfl, hc5, hr5⟩ := hm5.slice HSM.out
    obtain ⟨n5, hn5⟩ : ∃ q, ([] ++ V1 ++ V2 ++ V3 ++ V4).length = q := ⟨_, rfl⟩
    rw [hn5] at hc5 ⊢
    have HN5 := Lib.hid hn5
    have HR5 := Lib.hid hr5
    have HC5 := Lib.hid hc5
    clear hm5 hg5 hr5 hc5 q3 hn5
    go_wp2
    go_ret2
    exact ⟨HX0.out.trans HX5.out, _, _, _, rfl, HN5.out, HC5.out, HR5.out⟩
  · rw [decide_eq_false ho] at HV
    have HO := Lib.hid ho
    clear hr ho
    go_enter Try.func14, Try.ntmps14
    go_wp2_with fail
    refine (HV.out _).mono ?_
    rintro e w1 ⟨rfl, hx1⟩
    have HX1 := Lib.hid (HX0.out.trans hx1)
    clear hx1
    go_wp2
    go_ret2
    exact EncR.no HO.out HX1.out
end Go.Proofs.Ytjifionpblpfoaa

/-
  The code's own Make of layer 16. Conditions: no more than 2^16 bytes.
-/
namespace Go.Proofs.Ytjifionpblpfoaa
open Go.RowKit
open Pol (co Sm)

theorem far_of_ev {w : World} {g : Nat} {B : Option Addr} {l : List Nat} (h : Rd w B l) (hg : w.heap[g]? = some (.cells #[.int .i64 0, .int .u64 0, .int .u64 0, .int .u64 0, .slice none 0 0] 25)) : ∀ q o, B = some ⟨q, o, none⟩ → 0 < l.length → q ≠ g := fun q o e h0 e2 => by
  obtain ⟨b, o', e3, hc⟩ := h.2 0 h0
  rw [e] at e3
  injection e3 with e3
  injection e3 with e4 e5
  subst e4 e5 e2
  rw [cell_of_row _ _ _ _ _ _ hg] at hc
  match o, hc with
  | 0, hc => simp at hc
  | 1, hc => simp at hc
  | 2, hc => simp at hc
  | 3, hc => simp at hc
  | 4, hc => simp at hc
  | n + 5, hc => simp at hc
theorem tx_in16y {a b c d : Value} : (Try.prog.info? 32).map (·.size) = some (#[a, b, c, d] : Array Value).size := by kernel_rfl
set_option maxHeartbeats 6400000 in
set_option maxRecDepth 100000 in
theorem ev_make (s : Int) (nn f x : Nat) (k t : Int) (a n c : Nat) (m p : List Nat) (A B : Option Addr) (np cp : Nat) (w : World) (hn : m.length = n) (hr : Rd w A m) (hl : n ≤ 65536) (ha : a < 18446744073709551616) (hp : p.length = np) (hq : Rd w B p) (hlp : np ≤ 65536) :
    Calls Try.prog 6 #[.int .i64 s, .int .u64 (nn : Int), .int .u64 (f : Int), .int .u64 (x : Int), .agg #[.int .i64 k, .int .i64 t, .int .u64 (a : Int), .slice A n c], .slice B np cp] w (EvR (make16 s nn f x ⟨k, t, a, m⟩ p) w) := by
  have hx2 := ((Ext.refl w).alloc (.cells #[.int .i64 k, .int .i64 t, .int .u64 (a : Int), .slice A n c] 32)).alloc (.cells #[.int .i64 0, .int .u64 0, .int .u64 0, .int .u64 0, .slice none 0 0] 25)
  have hg0 : ((w.alloc (.cells #[.int .i64 k, .int .i64 t, .int .u64 (a : Int), .slice A n c] 32)).alloc (.cells #[.int .i64 0, .int .u64 0, .int .u64 0, .int .u64 0, .slice none 0 0] 25)).heap[w.heap.size]? = some (.cells #[.int .i64 k, .int .i64 t, .int .u64 (a : Int), .slice A n c] 32) := by
    rw [heap_alloc_old _ _ (by simp)]
    exact heap_alloc_new w _
  have hr0 : ((w.alloc (.cells #[.int .i64 k, .int .i64 t, .int .u64 (a : Int), .slice A n c] 32)).alloc (.cells #[.int .i64 0, .int .u64 0, .int .u64 0, .int .u64 0, .slice none 0 0] 25)).heap[w.heap.size + 1]? = some (.cells #[.int .i64 0, .int .u64 0, .int .u64 0, .int .u64 0, .slice none 0 0] 25) := by
    have h := heap_alloc_new (w.alloc (.cells #[.int .i64 k, .int .i64 t, .int .u64 (a : Int), .slice A n c] 32)) (.cells #[.int .i64 0, .int .u64 0, .int .u64 0, .int .u64 0, .slice none 0 0] 25)
    rwa [show (w.alloc (.cells #[.int .i64 k, .int .i64 t, .int .u64 (a : Int), .slice A n c] 32)).heap.size = w.heap.size + 1 from by simp] at h
  have HENC := Lib.hid (tx_encode k t a n c m A ((w.alloc (.cells #[.int .i64 k, .int .i64 t, .int .u64 (a : Int), .slice A n c] 32)).alloc (.cells #[.int .i64 0, .int .u64 0, .int .u64 0, .int .u64 0, .slice none 0 0] 25)) hn (hr.ext hx2) hl ha)
  unfold EncR at HENC
  have HX := Lib.hid hx2
  have HG0 := Lib.hid hg0
  have HR := Lib.hid hr0
  have HP := Lib.hid hp
  have HQ := Lib.hid hq
  have HSB := Lib.hid (Od.bytes_sm (o := ⟨k, t, a, m⟩) hr.1)
  have hbl := Od.bytes_len (o := ⟨k, t, a, m⟩) ha
  clear hx2 hg0 hr0 hr hq hn
  go_enter Try.func6, Try.ntmps6
  go_wp2_with (with_reducible refine wpList_load_row rfl 32 (.tmp 10) rfl (w.heap.size) rfl 32 #[.int .i64 k, .int .i64 t, .int .u64 (a : Int), .slice A n c] (0, 0) _ HG0.out Try.underlying32 rfl tx_in16y ?_)
  refine HENC.out.mono ?_
  rintro e w1 ⟨hx1, A1, n1, c1, rfl, hn1, hc1, hr1⟩
  replace HX := Lib.hid (HX.out.trans hx1)
  replace HR := Lib.hid (hx1.row HR.out)
  have HB1 := Lib.hid hr1
  have HN1 := Lib.hid hn1
  clear hx1 hr1 hn1 hc1 HG0 HENC
  by_cases ho : Od.right ⟨k, t, a, m⟩
  rotate_left
  · have hcode : Od.code ⟨k, t, a, m⟩ = 1 := by unfold Od.code; rw [if_neg ho]
    rw [hcode]
    clear hcode hbl
    have HDN := Lib.hid (fun w' (hx : Ext w w') => evR_no (show make16 s nn f x ⟨k, t, a, m⟩ p = (1, Ev.zero) from by unfold make16; rw [if_pos ho]) hx)
    have hone : (#[.int .i64 0, .int .u64 0, .int .u64 0, .int .u64 0, .slice none 0 0] : Array Value).all (·.oneCell') = true := by simp [Value.oneCell']
    have HXF := Lib.hid (HX.out.setRow (g := w.heap.size + 1) (by omega) #[.int .i64 0, .int .u64 0, .int .u64 0, .int .u64 0, .slice none 0 0])
    have HGF := Lib.hid (setRow_heap w1 (w.heap.size + 1) _ #[.int .i64 0, .int .u64 0, .int .u64 0, .int .u64 0, .slice none 0 0] _ _ HR.out)
    go_wp2_with (with_reducible refine wpList_store_all rfl 25 (.tmp 12) (.tmp 28) rfl (w.heap.size + 1) _ #[.int .i64 0, .int .u64 0, .int .u64 0, .int .u64 0, .slice none 0 0] rfl rfl HR.out ev_in16 ev_size16 hone ?_)
    refine bodyPost_ret (results_ev16 Try.results6 _ _ (w.heap.size + 1) 25 _ (0, 0) rfl HGF.out ev_in16) rfl ?_
    exact HDN.out _ HXF.out
  have hcode : Od.code ⟨k, t, a, m⟩ = 0 := by unfold Od.code; rw [if_pos ho]
  rw [hcode]
  obtain ⟨bs, hbs⟩ : ∃ bs, Od.bytes ⟨k, t, a, m⟩ = bs := ⟨_, rfl⟩
  rw [hbs] at HB1 HN1 HSB hbl
  have HBS := Lib.hid hbs
  clear hcode hbs
  by_cases hf : FillOk bs.length (np : Int)
  rotate_left
  · have HFL := Lib.hid (j_fill_no bs.length (np : Int) A1 c1 w1 hf)
    unfold GivesE at HFL
    rw [HN1.out] at HFL
    go_wp2_with fail
    refine HFL.out.mono ?_
    rintro e w2 ⟨v2, rfl, hs2, hx2⟩
    replace HX := Lib.hid (HX.out.trans hx2)
    replace HR := Lib.hid (hx2.row HR.out)
    obtain ⟨B2, c2, rfl, _, _⟩ := hs2
    clear hx2 hbl
    have HDN := Lib.hid (fun w' (hx : Ext w w') => evR_no (show make16 s nn f x ⟨k, t, a, m⟩ p = (6, Ev.zero) from by unfold make16; rw [if_neg (by simpa using ho), HBS.out, HP.out, if_pos hf]) hx)
    have hone : (#[.int .i64 0, .int .u64 0, .int .u64 0, .int .u64 0, .slice none 0 0] : Array Value).all (·.oneCell') = true := by simp [Value.oneCell']
    have HXF := Lib.hid (HX.out.setRow (g := w.heap.size + 1) (by omega) #[.int .i64 0, .int .u64 0, .int .u64 0, .int .u64 0, .slice none 0 0])
    have HGF := Lib.hid (setRow_heap w2 (w.heap.size + 1) _ #[.int .i64 0, .int .u64 0, .int .u64 0, .int .u64 0, .slice none 0 0] _ _ HR.out)
    go_wp2_with (with_reducible refine wpList_store_all rfl 25 (.tmp 12) (.tmp 39) rfl (w.heap.size + 1) _ #[.int .i64 0, .int .u64 0, .int .u64 0, .int .u64 0, .slice none 0 0] rfl rfl HR.out ev_in16 ev_size16 hone ?_)
    refine bodyPost_ret (results_ev16 Try.results6 _ _ (w.heap.size + 1) 25 _ (0, 0) rfl HGF.out ev_in16) rfl ?_
    exact HDN.out _ HXF.out
  have HFL := Lib.hid (j_fill bs np A1 c1 w1 HB1.out hf)
  unfold GivesE at HFL
  rw [HN1.out] at HFL
  have HFS := fil_sm (m := np) HSB.out (by have := hf.2.2; have := hf.2.1; omega)
  have HLN := Lib.hid (fil_len bs np)
  have HMK := Lib.hid (show make16 s nn f x ⟨k, t, a, m⟩ p = if (Ev.mk s nn f x (lx (fil bs np) p)).chk ≠ 0 then ((Ev.mk s nn f x (lx (fil bs np) p)).chk, Ev.zero) else (0, Ev.mk s nn f x (lx (fil bs np) p)) from by
    unfold make16
    rw [if_neg (by simpa using ho), HBS.out, HP.out, if_neg (by simpa using hf)])
  obtain ⟨FF, hFF⟩ : ∃ q, fil bs np = q := ⟨_, rfl⟩
  rw [hFF] at HFL HFS HLN HMK
  have hnp : np ≤ 256 := by have := hf.2.1; omega
  clear hFF hbl ho hf
  go_wp2_with fail
  refine HFL.out.mono ?_
  rintro e w2 ⟨v2, rfl, hs2, hx2⟩
  replace HX := Lib.hid (HX.out.trans hx2)
  replace HR := Lib.hid (hx2.row HR.out)
  obtain ⟨B2, c2, rfl, _, hr2⟩ := hs2
  rw [HLN.out]
  have HSE := Lib.hid (show Calls Try.prog 16 #[.slice B2 np c2, .slice B np cp] w2 (GivesE (lx FF p) 0 w2) from by
    have h := j_seal _ _ _ _ w2 (j_sum FF p B2 B c2 cp w2 hr2 (HQ.out.ext HX.out) (by rw [HLN.out]; omega) (by rw [HLN.out, HP.out]))
    rwa [HLN.out, HP.out] at h)
  unfold GivesE at HSE
  clear hx2 hr2 HFL
  go_wp2_with fail
  refine HSE.out.mono ?_
  rintro e w3 ⟨v3, rfl, hs3, hx3⟩
  replace HX := Lib.hid (HX.out.trans hx3)
  replace HR := Lib.hid (hx3.row HR.out)
  obtain ⟨B3, c3, rfl, hc3, hr3⟩ := hs3
  have HFR := Lib.hid (fun q o (e : B3 = some ⟨q, o, none⟩) (h0 : 0 < (lx FF p).length) => far_of_ev hr3 HR.out q o e h0)
  have HLX := Lib.hid ((lx_len FF p).trans HLN.out)
  obtain ⟨XX, hXX⟩ : ∃ q, lx FF p = q := ⟨_, rfl⟩
  rw [hXX] at HLX HMK HFR hr3 hc3 ⊢
  rw [HLX.out] at hc3 ⊢
  have HC3 := Lib.hid hc3
  have HCK := Lib.hid (fun u => ev_check s nn f x np c3 XX B3 u HLX.out)
  obtain ⟨ck, hck⟩ : ∃ q, (Ev.mk s nn f x XX).chk = q := ⟨_, rfl⟩
  rw [hck] at HMK HCK
  have hxa := (Ext.refl w3).alloc (.cells #[.int .i64 s, .int .u64 (nn : Int), .int .u64 (f : Int), .int .u64 (x : Int), .slice B3 np c3] 25)
  replace HX := Lib.hid (HX.out.trans hxa)
  replace HR := Lib.hid (hxa.row HR.out)
  have HV := Lib.hid (heap_alloc_new w3 (.cells #[.int .i64 s, .int .u64 (nn : Int), .int .u64 (f : Int), .int .u64 (x : Int), .slice B3 np c3] 25))
  have HR3 := Lib.hid (hr3.ext hxa)
  clear hx3 hr3 hxa hXX hck hc3 HSE
  go_wp2_with (with_reducible refine wpList_load_row rfl 25 (.tmp 19) rfl (w3.heap.size) rfl 25 #[.int .i64 s, .int .u64 (nn : Int), .int .u64 (f : Int), .int .u64 (x : Int), .slice B3 np c3] (0, 0) _ HV.out Try.underlying25 rfl ev_in16 ?_)
  refine (HCK.out _).mono ?_
  rintro e w4 ⟨rfl, hx4⟩
  replace HX := Lib.hid (HX.out.trans hx4)
  replace HR := Lib.hid (hx4.row HR.out)
  replace HV := Lib.hid (hx4.row HV.out)
  replace HR3 := Lib.hid (HR3.out.ext hx4)
  clear hx4
  by_cases hk0 : ck = 0
  · subst hk0
    have hmk := HMK.out
    rw [if_neg (by simp)] at hmk
    have HDN := Lib.hid hmk
    clear hmk
    have HSV := Lib.hid (show (#[.int .i64 0, .int .u64 0, .int .u64 0, .int .u64 0, .slice none 0 0] : Array Value).size = (#[.int .i64 s, .int .u64 (nn : Int), .int .u64 (f : Int), .int .u64 (x : Int), .slice B3 np c3] : Array Value).size from rfl)
    have hone : (#[.int .i64 s, .int .u64 (nn : Int), .int .u64 (f : Int), .int .u64 (x : Int), .slice B3 np c3] : Array Value).all (·.oneCell') = true := by simp [Value.oneCell']
    have HXF := Lib.hid (HX.out.setRow (g := w.heap.size + 1) (by omega) #[.int .i64 s, .int .u64 (nn : Int), .int .u64 (f : Int), .int .u64 (x : Int), .slice B3 np c3])
    have HGF := Lib.hid (setRow_heap w4 (w.heap.size + 1) _ #[.int .i64 s, .int .u64 (nn : Int), .int .u64 (f : Int), .int .u64 (x : Int), .slice B3 np c3] _ _ HR.out)
    have HRF := Lib.hid (show Rd (w4.setRow (w.heap.size + 1) #[.int .i64 s, .int .u64 (nn : Int), .int .u64 (f : Int), .int .u64 (x : Int), .slice B3 np c3]) B3 XX from HR3.out.keep (grown_block w4 (w.heap.size + 1) #[.int .i64 s, .int .u64 (nn : Int), .int .u64 (f : Int), .int .u64 (x : Int), .slice B3 np c3]) (fun q o e h0 e2 => by injection e2 with e2; exact HFR.out q o e h0 e2))
    go_wp2_with (first | (with_reducible refine wpList_load_row rfl 25 (.tmp 19) rfl (w3.heap.size) rfl 25 #[.int .i64 s, .int .u64 (nn : Int), .int .u64 (f : Int), .int .u64 (x : Int), .slice B3 np c3] (0, 0) _ HV.out Try.underlying25 rfl ev_in16 ?_) | (with_reducible refine wpList_store_all rfl 25 (.tmp 12) (.tmp 59) rfl (w.heap.size + 1) _ #[.int .i64 s, .int .u64 (nn : Int), .int .u64 (f : Int), .int .u64 (x : Int), .slice B3 np c3] rfl rfl HR.out ev_in16 HSV.out hone ?_))
    refine bodyPost_ret (results_ev16 Try.results6 _ _ (w.heap.size + 1) 25 _ (0, 0) rfl HGF.out ev_in16) rfl ?_
    unfold EvR
    rw [HDN.out]
    exact ⟨HXF.out, B3, np, c3, rfl, HLX.out, HC3.out, HRF.out⟩
  · have hmk := HMK.out
    rw [if_pos hk0] at hmk
    have HMN := Lib.hid hmk
    have d1 : ((ck : Int) == 0) = false := by simp; omega
    have d2 : ((ck : Int) != 0) = true := by simp; omega
    have d3 : decide ((ck : Int) = 0) = false := decide_eq_false (by omega)
    have d4 : decide (ck = 0) = false := decide_eq_false (by omega)
    clear hmk hk0
    have HDN := Lib.hid (fun w' (hx : Ext w w') => evR_no (show make16 s nn f x ⟨k, t, a, m⟩ p = (ck, Ev.zero) from by exact HMN.out) hx)
    have hone : (#[.int .i64 0, .int .u64 0, .int .u64 0, .int .u64 0, .slice none 0 0] : Array Value).all (·.oneCell') = true := by simp [Value.oneCell']
    have HXF := Lib.hid (HX.out.setRow (g := w.heap.size + 1) (by omega) #[.int .i64 0, .int .u64 0, .int .u64 0, .int .u64 0, .slice none 0 0])
    have HGF := Lib.hid (setRow_heap w4 (w.heap.size + 1) _ #[.int .i64 0, .int .u64 0, .int .u64 0, .int .u64 0, .slice none 0 0] _ _ HR.out)
    go_wp2_with (with_reducible refine wpList_store_all rfl 25 (.tmp 12) (.tmp 57) rfl (w.heap.size + 1) _ #[.int .i64 0, .int .u64 0, .int .u64 0, .int .u64 0, .slice none 0 0] rfl rfl HR.out ev_in16 ev_size16 hone ?_)
    refine bodyPost_ret (results_ev16 Try.results6 _ _ (w.heap.size + 1) 25 _ (0, 0) rfl HGF.out ev_in16) rfl ?_
    exact HDN.out _ HXF.out
end Go.Proofs.Ytjifionpblpfoaa

/-
  What zeros and Strip of layer 6 do. Conditions: no more than 2^12 bytes.
-/
namespace Go.Proofs.Ytjifionpblpfoaa
open Go.RowKit
open Pol (co Sm)

/-- Whether all bytes are 0. -/
def Zer (l : List Nat) : Prop := ∀ i, co l i = 0
def ZerE (l : List Nat) (w : World) (e : Ending) (w' : World) : Prop := (Zer l ∧ e = .returned (.bool true) ∧ w = w') ∨ (¬ Zer l ∧ e = .returned (.bool false) ∧ w = w')

set_option maxHeartbeats 800000 in
theorem j_zeros (l : List Nat) (A : Option Addr) (ca : Nat) (w : World) (ha : Rd w A l) (hl : l.length ≤ 4096) :
    Calls Try.prog 32 #[.slice A l.length ca] w (ZerE l w) := by
  unfold ZerE
  have HOUT := Lib.hid (fun i (hi : l.length ≤ i) => Pol.co_out l i hi)
  generalize hnn : l.length = n at *
  have HA := Lib.hid ha
  have HN := Lib.hid hnn
  clear ha hnn
  go_enter Try.func32, Try.ntmps32
  go_wp2
  go_loopg [7] n (fun g s wx => ∃ k : Nat, k + g = n ∧ s = .int .i64 (k : Int) ∧ (∀ j, j < k → co l j = 0) ∧ w = wx)
  case atStart => exact ⟨0, by omega, rfl, fun j h => by omega, rfl⟩
  case round =>
    obtain ⟨k, hkg, rfl, hall, rfl⟩ := hrel
    have HALL := Lib.hid hall
    clear hall
    cases gk with
    | zero =>
      obtain rfl : k = n := by omega
      clear hkg
      go_wp2
      go_ret
      exact .inl ⟨fun j => by
        by_cases h : j < k
        · exact HALL.out j h
        · exact HOUT.out j (by omega), rfl, rfl⟩
    | succ g =>
      have hk : k < n := by omega
      have hkI : (k : Int) < (n : Int) := by omega
      obtain ⟨b1, o1, e1, hc1⟩ := HA.out.2 k (by rw [HN.out]; exact hk)
      subst e1
      have hub := HA.out.1 k
      obtain ⟨u, hu⟩ : ∃ u, co l k = u := ⟨_, rfl⟩
      rw [hu] at hc1 hub
      by_cases hu0 : u = 0
      · subst hu0
        have HU := Lib.hid hu
        clear hu
        go_wp2
        go_roundg g
        case measure => omega
        case rel => exact ⟨k + 1, by omega, by go_num, fun j h => by
          by_cases e : j = k
          · subst e; exact HU.out
          · exact HALL.out j (by omega), rfl⟩
      · have t : ((u : Int) != 0) = true := by simp; omega
        have HNO := Lib.hid (show ¬ Zer l from fun h => hu0 (by rw [← hu]; exact h k))
        clear hu0 hu
        go_wp2
        go_ret
        exact .inr ⟨HNO.out, rfl, rfl⟩

set_option maxHeartbeats 800000 in
theorem j_strip_no (n : Nat) (A : Option Addr) (ca : Nat) (w : World) (h : ¬ StripNum n) :
    Calls Try.prog 21 #[.slice A n ca] w (GivesE [] 1 w) := by
  unfold StripNum at h
  by_cases h1 : n < 1
  · have d1 : decide ((n : Int) < 1) = true := decide_eq_true (by omega)
    clear h
    go_enter Try.func21, Try.ntmps21
    go_wp2
    go_ret2
    exact ⟨_, rfl, sl_none _, Ext.refl w⟩
  have d1 : decide ((n : Int) < 1) = false := decide_eq_false (by omega)
  have d2 : decide (256 < (n : Int)) = true := decide_eq_true (by omega)
  clear h
  go_enter Try.func21, Try.ntmps21
  go_wp2
  go_ret2
  exact ⟨_, rfl, sl_none _, Ext.refl w⟩

set_option maxHeartbeats 1600000 in
set_option maxRecDepth 100000 in
theorem j_strip (b : List Nat) (A : Option Addr) (ca : Nat) (w : World) (hr : Rd w A b) (hca : b.length ≤ ca) (h : StripNum b.length) :
    Calls Try.prog 21 #[.slice A b.length ca] w (StripE b w) := by
  obtain ⟨h1, h2⟩ := h
  obtain ⟨b0, o0, e0, hc0⟩ := hr.2 0 (by omega)
  subst e0
  rw [Nat.add_zero] at hc0
  have hb0 := hr.1 0
  have hsm := hr.1
  obtain ⟨z, hz⟩ : ∃ z, co b 0 = z := ⟨_, rfl⟩
  rw [hz] at hc0 hb0
  have HYES := Lib.hid (fun B c w' => StripE.yes (w := w) (B := B) (c := c) (w' := w') hz)
  have HTL := Lib.hid (show Tail0 b ↔ z < b.length ∧ ∀ i, z < i → co b i = 0 from by unfold Tail0; rw [hz])
  have HR := Lib.hid hr
  have HSM := Lib.hid hsm
  have HOUT := Lib.hid (fun i (hi : b.length ≤ i) => Pol.co_out b i hi)
  generalize hn : b.length = n at *
  have HN := Lib.hid hn
  have hz256 : (z : Int) < 256 := by omega
  have d1 : decide ((n : Int) < 1) = false := decide_eq_false (by omega)
  have d2 : decide (256 < (n : Int)) = false := decide_eq_false (by omega)
  have hn0 : (0 : Int) < (n : Int) := by omega
  clear hr hsm hz hn
  obtain ⟨y, hy⟩ : ∃ y, 1 + z = y := ⟨_, rfl⟩
  have ey : IntKind.i64.wrap (1 + (z : Int)) = (y : Int) := by rw [IntWalk.i64_in _ (by omega)]; omega
  have ez : IntKind.i64.wrap (z : Int) = (z : Int) := IntWalk.i64_in _ (by omega)
  by_cases hzn : z < n
  · have d3 : decide (n < y) = false := decide_eq_false (by omega)
    obtain ⟨X, hX, hXr⟩ := run_cut_u8 (some ⟨b0, o0, none⟩) n ca 1 y (by omega) (by omega)
    rw [show y - 1 = z from by omega] at hX hXr
    have hX' : ∀ W, (Instr.slice 23 (.slice (some ⟨b0, o0, none⟩) n ca) (some (.int .i64 1)) (some (.int .i64 (y : Int))) none).run Try.prog W = .ok (.slice X z (ca - 1)) W := hX
    have HXR := Lib.hid (fun W (hW : Ext w W) => show Rd W X (tab z fun i => co b (i + 1)) from by
      have h := hXr W b (HR.out.ext hW) (by rw [HN.out]; omega)
      rwa [show (fun j => co b (1 + j)) = fun j => co b (j + 1) from by funext j; rw [Nat.add_comm]] at h)
    obtain ⟨cc, hcc⟩ : ∃ cc, ca - 1 = cc := ⟨_, rfl⟩
    rw [hcc] at hX'
    obtain ⟨Y, hY, hYr, _⟩ := run_rest_u8 (some ⟨b0, o0, none⟩) n ca y (by omega) (by omega)
    obtain ⟨ly, hly⟩ : ∃ ly, n - y = ly := ⟨_, rfl⟩
    obtain ⟨cy, hcy⟩ : ∃ cy, ca - y = cy := ⟨_, rfl⟩
    have hYr' := hYr w b HR.out HN.out
    rw [hly] at hY hYr'
    rw [hcy] at hY
    have hzr := j_zeros (tab ly fun j => co b (y + j)) Y cy w hYr' (by rw [tab_len]; omega)
    rw [tab_len] at hzr
    have HZR := Lib.hid hzr
    have HZE := Lib.hid (show Zer (tab ly fun j => co b (y + j)) ↔ ∀ i, z < i → co b i = 0 from ⟨fun h i hi => by
      by_cases hin : i < n
      · have h' := h (i - y)
        rw [co_tab, if_pos (by omega), show y + (i - y) = i from by omega] at h'
        exact h'
      · exact HOUT.out i (by omega), fun h i => by
      rw [co_tab]
      split
      · exact h _ (by omega)
      · rfl⟩)
    have HSX := Lib.hid (tab_sm z (fun i => co b (i + 1)) fun i _ => HSM.out _)
    clear hX hXr hcc hy hYr hYr' hly hcy hzr
    go_enter Try.func21, Try.ntmps21
    go_wp2_with fail
    refine HZR.out.mono ?_
    rintro e w1 (⟨hyes, rfl, rfl⟩ | ⟨hno, rfl, rfl⟩)
    · have HT := Lib.hid (HZE.out.1 hyes)
      clear hyes
      go_wp2_with (at_builtin; refine wpList_append_rd rfl (.const (.slice none 0 0)) (.tmp 31) rfl w.heap.size (.slice none 0 0) [] (tab z fun i => co b (i + 1)) rfl (Mine.nil _ _) X z cc rfl (tab_len _ _) (HXR.out _ (Ext.refl _)) (by rw [tab_len]; simp; omega) (by simp) ?_; intro v' w3 hown' hg' hat'; rw [List.nil_append] at hown'; have hx3 := (Ext.refl w).more hg' (fun r e => by simp [Value.ownBlock] at e); obtain ⟨Bv, cv, ev', hcv, hrv⟩ := hown'.slice HSX.out; rw [tab_len] at ev' hcv; subst ev'; have HX3 := Lib.hid hx3; have HRV := Lib.hid hrv; have HCV := Lib.hid hcv; clear hown' hg' hat' hx3 hrv hcv)
      go_ret2
      exact HYES.out _ _ _ hzn HT.out HCV.out HRV.out HX3.out
    · have HT := Lib.hid (show ¬ Tail0 b from fun h => hno (HZE.out.2 (HTL.out.1 h).2))
      clear hno
      go_wp2
      go_ret2
      exact StripE.no HT.out (Ext.refl _)
  · have d3 : decide (n < y) = true := decide_eq_true (by omega)
    have HNO := Lib.hid (show ¬ Tail0 b from fun h => hzn (HTL.out.1 h).1)
    clear hzn hy
    go_enter Try.func21, Try.ntmps21
    go_wp2
    go_ret2
    exact StripE.no HNO.out (Ext.refl _)
end Go.Proofs.Ytjifionpblpfoaa

/-
  What a reader of layer 8 is in memory, and what its small functions do: running, fail, limit. Conditions: none.
-/
namespace Go.Proofs.Ytjifionpblpfoaa
open Go.RowKit
open Pol (co Sm)

/-- A decoding that goes on: l is left. -/
def Dc (lo hi db rb : Nat) (w : World) (l : List Nat) : Prop :=
  ∃ A c, w.heap[db]? = some (.cells #[.pointer (some ⟨rb, 0, none⟩), .slice A l.length c, .int .i64 0] 78 (0, 0)) ∧ Rd w A l ∧ l.length ≤ c ∧ (∀ b o, A = some ⟨b, o, none⟩ → 0 < l.length → Btw lo hi b ∧ b ≠ db)
/-- One that has ended with error n. -/
def Fl (db rb : Nat) (w : World) (n : Nat) : Prop :=
  w.heap[db]? = some (.cells #[.pointer (some ⟨rb, 0, none⟩), .slice none 0 0, .int .i64 (n : Int)] 78 (0, 0))
/-- The panic that ends it. -/
def En (db : Nat) : List PanicEntry := [{ v := .iface 85 (.agg #[.pointer (some ⟨db, 0, none⟩)]), recovered := false }]
/-- A reader. -/
def Rp (rb db : Nat) (w : World) : Prop := w.heap[rb]? = some (.cells #[.pointer (some ⟨db, 0, none⟩)] 80 (0, 0))
/-- Where the reading's own variables lie: behind the decoding its variable, behind that the reader; first of all the error that is told. -/
def Fr (lo hi rb db : Nat) (w : World) : Prop :=
  rb + 1 = hi ∧ db + 2 = rb ∧ lo < db ∧ w.heap[db + 1]? = some (.cells #[.pointer (some ⟨db, 0, none⟩)] 76 (0, 0)) ∧ w.heap[lo]? = some (.cells #[.int .i64 0] 29 (0, 0))
/-- What a call at a decoding does. -/
def DReads {α : Type} (lo hi db rb : Nat) (V : Value → World → α → Prop) (r : Rs α) (w : World) (e : Ending) (w' : World) : Prop :=
  Only (fun k => k = db) w w' ∧ match r with
    | .ok a rest => ∃ v, e = .returned v ∧ V v w' a ∧ Dc lo hi db rb w' rest
    | .er n => e = .panicked (En db) ∧ Fl db rb w' n
def rdr : Rdr where
  RI := fun lo hi _ ρ w l => ∃ rb db, ρ = ⟨rb, 0, none⟩ ∧ Btw lo hi rb ∧ Btw lo hi db ∧ rb ≠ db ∧ hi ≤ w.heap.size ∧ (Rp rb db w ∧ Fr lo hi rb db w) ∧ Dc lo hi db rb w l ∧ l.length ≤ 65536
  St := fun lo hi _ ρ w n ch => ∃ rb db, ρ = ⟨rb, 0, none⟩ ∧ Btw lo hi rb ∧ Btw lo hi db ∧ rb ≠ db ∧ hi ≤ w.heap.size ∧ Fr lo hi rb db w ∧ Fl db rb w n ∧ ch = En db ∧ 0 < n

theorem Dc.keep {lo hi db rb : Nat} {w w' : World} {l : List Nat} (h : Dc lo hi db rb w l) (hd : w'.heap[db]? = w.heap[db]?) (hk : ∀ k, Btw lo hi k → w'.heap[k]? = w.heap[k]?) : Dc lo hi db rb w' l := by
  obtain ⟨A, c, h1, h2, h3, h4⟩ := h
  refine ⟨A, c, hd.trans h1, ⟨h2.1, fun i hi => ?_⟩, h3, h4⟩
  obtain ⟨b, o, e, hc⟩ := h2.2 i hi
  exact ⟨b, o, e, (World.cell?_of_block (a := ⟨b, o + i, none⟩) (hk b (h4 b o e (by omega)).1)).trans hc⟩
theorem Fr.keep {lo hi rb db : Nat} {w w' : World} (h : Fr lo hi rb db w) (hk : ∀ k, Btw lo hi k → k ≠ db → w'.heap[k]? = w.heap[k]?) : Fr lo hi rb db w' := by
  obtain ⟨h1, h2, h3, h4, h5⟩ := h
  exact ⟨h1, h2, h3, (hk (db + 1) ⟨by omega, by omega⟩ (by omega)).trans h4, (hk lo ⟨by omega, by omega⟩ (by omega)).trans h5⟩
theorem cd_keep (lo hi : Nat) (B : Option Addr) (ρ : Addr) (w w' : World) (l : List Nat) (h : rdr.RI lo hi B ρ w l) (hk : ∀ k, Btw lo hi k → w'.heap[k]? = w.heap[k]?) : rdr.RI lo hi B ρ w' l := by
  obtain ⟨rb, db, h1, h2, h3, h4, h5, h6, h7, h8⟩ := h
  refine ⟨rb, db, h1, h2, h3, h4, ?_, ⟨(hk _ h2).trans h6.1, h6.2.keep fun k h _ => hk k h⟩, h7.keep (hk _ h3) hk, h8⟩
  have hp : ∀ k, Btw lo hi k → k < w'.heap.size := fun k hb => by
    have e := hk k hb
    rcases Nat.lt_or_ge k w'.heap.size with h | h
    · exact h
    · rw [Array.getElem?_eq_none h] at e
      have := Array.getElem?_eq_none_iff.1 e.symm
      have := hb.2
      omega
  have := hp (hi - 1) ⟨by have := h2.1; have := h2.2; omega, by have := h2.2; omega⟩
  omega

theorem run_equalIn_same (d : Nat) (t e : TypeId) (p : Addr) (w : World) (h : Try.prog.underlying t = some (.pointer e)) (hi : (Try.prog.info? e).isSome = true) : (Op.equalIn (d + 1) t (.pointer (some p)) (.pointer (some p))).run Try.prog w = .ok true w := by
  obtain ⟨i, hi⟩ := Option.isSome_iff_exists.1 hi
  simp [Op.equalIn, run_underlying h, sizeOf, typeInfo, hi, sameAddr]
theorem run_neq_same (p : Addr) (w : World) : (binOp .neq 65 (.pointer (some p)) (.pointer (some p))).run Try.prog w = .ok (.bool false) w := by
  have h := run_equalIn_same 9999 65 80 p w Try.underlying65 (by kernel_rfl)
  have h' : (Op.equal 65 (.pointer (some p)) (.pointer (some p))).run Try.prog w = .ok true w := h
  simp only [binOp]
  simp [h']
theorem run_eql_same (p : Addr) (w : World) : (binOp .eql 76 (.pointer (some p)) (.pointer (some p))).run Try.prog w = .ok (.bool true) w := by
  have h := run_equalIn_same 9999 76 78 p w Try.underlying76 (by kernel_rfl)
  have h' : (Op.equal 76 (.pointer (some p)) (.pointer (some p))).run Try.prog w = .ok true w := h
  simp only [binOp]
  simp [h']

set_option maxHeartbeats 800000 in
theorem cd_running (rb db lo hi : Nat) (l : List Nat) (w : World) (h1 : Rp rb db w) (h2 : Dc lo hi db rb w l) :
    Calls Try.prog 45 #[.pointer (some ⟨rb, 0, none⟩)] w (fun e w' => e = .returned (.pointer (some ⟨db, 0, none⟩)) ∧ w = w') := by
  obtain ⟨A, c, h3, _⟩ := h2
  have a1 : w.cell? ⟨rb, 0, none⟩ = some (.pointer (some ⟨db, 0, none⟩)) := by rw [cell_of_row w _ 0 _ _ _ h1]; rfl
  have a2 : w.cell? ⟨db, 0, none⟩ = some (.pointer (some ⟨rb, 0, none⟩)) := by rw [cell_of_row w _ 0 _ _ _ h3]; rfl
  clear h1 h3
  have hne := fun W => run_neq_same ⟨rb, 0, none⟩ W
  go_enter Try.func45, Try.ntmps45
  go_wp2
  go_ret
  exact ⟨rfl, rfl⟩

set_option maxHeartbeats 800000 in
theorem cd_limit (m : Nat) (w : World) (hm : m < 9223372036854775808) :
    Calls Try.prog 44 #[.int .i64 (m : Int)] w (fun e w' => e = .returned (.int .u64 (m : Int)) ∧ w = w') := by
  have e1 : IntKind.u64.wrap (m : Int) = (m : Int) := by rw [IntKind.wrap_u64]; omega
  have d1 : (if (m : Int) < 0 then (0 : Int) else (m : Int)) = (m : Int) := if_neg (by omega)
  go_enter Try.func44, Try.ntmps44
  go_wp2
  all_goals go_ret
  all_goals first | exact ⟨rfl, rfl⟩ | skip

set_option maxHeartbeats 1600000 in
theorem cd_fail (rb db lo hi n : Nat) (l : List Nat) (w : World) (h2 : Dc lo hi db rb w l) :
    Calls Try.prog 49 #[.pointer (some ⟨db, 0, none⟩), .int .i64 (n : Int)] w (fun e w' => e = .returned (.agg #[.pointer (some ⟨db, 0, none⟩)]) ∧ Only (fun k => k = db) w w' ∧ Fl db rb w' n) := by
  obtain ⟨A, c, h3, _⟩ := h2
  have hlt : db < w.heap.size := (Array.getElem?_eq_some_iff.1 h3).1
  obtain ⟨S, hS⟩ : ∃ S, Value.slice A l.length c = S := ⟨_, rfl⟩
  rw [hS] at h3
  clear hS
  have c1 : w.cell? ⟨db, 1, none⟩ = some S := by rw [cell_of_row w _ 1 _ _ _ h3]; rfl
  have c2 : w.cell? ⟨db, 2, none⟩ = some (.int .i64 0) := by rw [cell_of_row w _ 2 _ _ _ h3]; rfl
  have z1 : w.frozen? ⟨db, 1, none⟩ = false := frozen_of_row w _ 1 _ _ h3
  have z2 : w.frozen? ⟨db, 2, none⟩ = false := frozen_of_row w _ 2 _ _ h3
  go_enter Try.func49, Try.ntmps49
  go_wp2
  have h5 := heap_setCell_same _ db 1 _ _ (.slice none 0 0) (heap_setCell_same w db 2 _ _ (.int .i64 (n : Int)) h3)
  have hsz : ((w.setCell ⟨db, 2, none⟩ (.int .i64 (n : Int))).setCell ⟨db, 1, none⟩ (.slice none 0 0)).heap.size = w.heap.size := by simp [World.setCell]
  have h6 := heap_alloc_new ((w.setCell ⟨db, 2, none⟩ (.int .i64 (n : Int))).setCell ⟨db, 1, none⟩ (.slice none 0 0)) (.cells #[.pointer (some ⟨db, 0, none⟩)] 85)
  rw [hsz] at h6
  refine bodyPost_ret (results_cell_row Try.results49 _ _ w.heap.size _ _ _ _ rfl h6 Try.underlying85 rfl (by kernel_rfl)) rfl ⟨rfl, ?_, ?_⟩
  · exact ((Only.of_grown (grown_set' w db 2 _) (fun k e => by injection e with e; exact e.symm)).trans (Only.of_grown (grown_set' _ db 1 _) (fun k e => by injection e with e; exact e.symm))).trans (Only.of_ext ((Ext.refl _).alloc _))
  · exact (heap_alloc_old _ _ (by rw [hsz]; exact hlt)).trans h5
end Go.Proofs.Ytjifionpblpfoaa

/-
  What take of layer 8 does. Conditions: no more than 2^16 bytes are left.
-/
namespace Go.Proofs.Ytjifionpblpfoaa
open Go.RowKit
open Pol (co Sm)

/-- Bytes of the decoding's own. -/
def InB (v : Value) (w : World) (t : List Nat) : Prop := ∃ A c, v = .slice A t.length c ∧ Rd w A t ∧ t.length ≤ c
theorem tab_drop (l : List Nat) (k : Nat) (h : k ≤ l.length) : tab (l.length - k) (fun j => co l (k + j)) = l.drop k := by
  apply List.ext_getElem?
  intro i
  unfold tab
  rw [List.getElem?_map, List.getElem?_drop]
  by_cases hi : i < l.length - k
  · rw [List.getElem?_range hi]
    have : k + i < l.length := by omega
    simp [co, List.getElem?_eq_getElem this]
  · rw [List.getElem?_eq_none (by simp; omega), List.getElem?_eq_none (by omega)]
    rfl

/-- s[:h], s[l:] of bytes, the bound of any kind. -/
theorem run_to_k (k : IntKind) (A : Option Addr) (len cap h : Nat) (hh : h ≤ cap) (W : World) :
    (Instr.slice 23 (.slice A len cap) none (some (.int k (h : Int))) none).run Try.prog W = .ok (.slice A h cap) W := by
  obtain ⟨i0, hi, hz0, hz1, hz2⟩ := info_parts u8_info
  have he : Try.prog.elem 23 = 5 := by kernel_rfl
  rw [run_slice_h W 23 _ len cap (by rw [he]; exact Try.underlying23) k (h : Int) (by omega) (by omega), he]
  cases A <;> simp [sizeOf, typeInfo, hi, hz1, Result.andThen, sliced, Addr.add]
theorem run_rest_k (k : IntKind) (A : Option Addr) (len cap l : Nat) (hl : l ≤ len) (hc : len ≤ cap) : ∃ X : Option Addr, (∀ W, (Instr.slice 23 (.slice A len cap) (some (.int k (l : Int))) none none).run Try.prog W = .ok (.slice X (len - l) (cap - l)) W) ∧
    (∀ w L, Rd w A L → L.length = len → Rd w X (L.drop l)) ∧ (∀ w L b o, Rd w A L → L.length = len → 0 < len - l → X = some ⟨b, o, none⟩ → ∃ o', A = some ⟨b, o', none⟩) := by
  obtain ⟨i0, hi, hz0, hz1, hz2⟩ := info_parts u8_info
  have he : Try.prog.elem 23 = 5 := by kernel_rfl
  refine ⟨if cap = l then A else A.map (·.add l), fun W => ?_, fun w L h hL => ?_, fun w L b o h hL h0 e => ?_⟩
  · rw [run_slice_l W 23 _ len cap (by rw [he]; exact Try.underlying23) k (l : Int) (by omega) (by omega), he]
    cases A <;> simp [sizeOf, typeInfo, hi, hz1, Result.andThen, sliced]
  · subst hL
    rw [← tab_drop L l hl]
    refine ⟨tab_sm _ _ fun _ _ => h.1 _, fun i hi => ?_⟩
    rw [tab_len] at hi
    obtain ⟨b', o', e, hc⟩ := h.2 (l + i) (by omega)
    subst e
    refine ⟨b', o' + l, by rw [if_neg (by omega)]; simp [addr_add], ?_⟩
    rw [co_tab, if_pos hi, Nat.add_assoc]
    exact hc
  · obtain ⟨b', o', e', _⟩ := h.2 0 (by omega)
    subst e'
    rw [if_neg (by omega)] at e
    simp [addr_add] at e
    exact ⟨o', by rw [e.1]⟩
theorem Only.put (w : World) (db o : Nat) (v : Value) : Only (fun k => k = db) w (w.setCell ⟨db, o, none⟩ v) := Only.of_grown (grown_set' w db o _) (fun k e => by injection e with e; exact e.symm)
/-- What is left now lies at X. -/
theorem Dc.cut {lo hi db rb : Nat} {w : World} {l : List Nat} {A X : Option Addr} {c c' n : Nat} (h3 : w.heap[db]? = some (.cells #[.pointer (some ⟨rb, 0, none⟩), .slice A l.length c, .int .i64 0] 78 (0, 0))) (hr : Rd w A l)
    (hb : ∀ b o, A = some ⟨b, o, none⟩ → 0 < l.length → Btw lo hi b ∧ b ≠ db) (hX : ∀ w L, Rd w A L → L.length = l.length → Rd w X (L.drop n))
    (hXA : ∀ w L b o, Rd w A L → L.length = l.length → 0 < l.length - n → X = some ⟨b, o, none⟩ → ∃ o', A = some ⟨b, o', none⟩) (hc : l.length - n ≤ c') :
    Dc lo hi db rb (w.setCell ⟨db, 1, none⟩ (.slice X (l.length - n) c')) (l.drop n) := by
  refine ⟨X, c', ?_, ?_, by rw [List.length_drop]; exact hc, fun b o e h => ?_⟩
  · rw [heap_setCell_same w db 1 _ _ _ h3, List.length_drop]; rfl
  · have h := hX w l hr rfl
    refine ⟨h.1, fun i hi => ?_⟩
    obtain ⟨b, o, e, hc⟩ := h.2 i hi
    rw [List.length_drop] at hi
    obtain ⟨o', e'⟩ := hXA w l b o hr rfl (by omega) e
    have := (hb b o' e' (by omega)).2
    exact ⟨b, o, e, (World.cell?_of_block (a := ⟨b, o + i, none⟩) (heap_setCell_other w ⟨db, 1, none⟩ b _ this)).trans hc⟩
  · rw [List.length_drop] at h
    obtain ⟨o', e'⟩ := hXA w l b o hr rfl h e
    exact hb b o' e' (by omega)

set_option maxHeartbeats 1600000 in
theorem cd_take (rb db lo hi n : Nat) (l : List Nat) (w : World) (hd : Dc lo hi db rb w l) (hl : l.length ≤ 65536) :
    Calls Try.prog 47 #[.pointer (some ⟨db, 0, none⟩), .int .u64 (n : Int)] w (DReads lo hi db rb InB (rdB n l) w) := by
  have HF := Lib.hid (cd_fail rb db lo hi 2 l w hd)
  obtain ⟨A, c, h3, hr, hlc, hAb⟩ := hd
  have hlt : db < w.heap.size := (Array.getElem?_eq_some_iff.1 h3).1
  obtain ⟨L, hL⟩ : ∃ L, l.length = L := ⟨_, rfl⟩
  rw [hL] at h3 hlc hl hAb
  have HL := Lib.hid hL
  have HAB := Lib.hid hAb
  clear hAb
  have c1 : w.cell? ⟨db, 1, none⟩ = some (.slice A L c) := by rw [cell_of_row w _ 1 _ _ _ h3]; rfl
  have z1 : w.frozen? ⟨db, 1, none⟩ = false := frozen_of_row w _ 1 _ _ h3
  have H3 := Lib.hid h3
  have HR := Lib.hid hr
  have e1 : IntKind.u64.wrap (L : Int) = (L : Int) := by rw [IntKind.wrap_u64]; omega
  clear hL h3 hr
  by_cases hc : L < n
  · have d1 : decide ((L : Int) < (n : Int)) = true := decide_eq_true (by omega)
    have hrd : rdB n l = .er 2 := by unfold rdB; rw [if_pos (by rw [HL.out]; exact hc)]
    rw [hrd]
    go_enter Try.func47, Try.ntmps47
    go_wp2_with fail
    refine HF.out.mono ?_
    rintro e w1 ⟨rfl, ho, hfl⟩
    have HO := Lib.hid ho
    have HFL := Lib.hid hfl
    clear ho hfl
    go_wp2
    exact ⟨rfl, HO.out, rfl, HFL.out⟩
  · have d1 : decide ((L : Int) < (n : Int)) = false := decide_eq_false (by omega)
    have hrd : rdB n l = .ok (l.take n) (l.drop n) := by unfold rdB; rw [if_neg (by rw [HL.out]; exact hc)]
    rw [hrd]
    have s1 := fun W => run_to_k .u64 A L c n (by omega) W
    obtain ⟨X, s2, hX, hXa⟩ := run_rest_k .u64 A L c n (by omega) hlc
    have hdc : Dc lo hi db rb (w.setCell ⟨db, 1, none⟩ (.slice X (L - n) (c - n))) (l.drop n) := by
      have hlL := HL.out
      subst hlL
      exact Dc.cut H3.out HR.out HAB.out hX hXa (by omega)
    have hrt : Rd (w.setCell ⟨db, 1, none⟩ (.slice X (L - n) (c - n))) A (l.take n) := by
      have h := HR.out.take n
      refine ⟨h.1, fun i hi => ?_⟩
      obtain ⟨b, o, e, hc⟩ := h.2 i hi
      rw [List.length_take] at hi
      have := (HAB.out b o e (by have := HL.out; omega)).2
      exact ⟨b, o, e, (World.cell?_of_block (a := ⟨b, o + i, none⟩) (heap_setCell_other w ⟨db, 1, none⟩ b _ this)).trans hc⟩
    have HDC := Lib.hid hdc
    have HRT := Lib.hid hrt
    have HN := Lib.hid (show (l.take n).length = n by rw [List.length_take, HL.out]; omega)
    clear hX hXa HF hdc hrt
    go_enter Try.func47, Try.ntmps47
    go_wp2
    go_ret
    exact ⟨Only.put _ _ _ _, _, rfl, ⟨A, c, by rw [HN.out]; rfl, HRT.out, by rw [HN.out]; omega⟩, HDC.out⟩
end Go.Proofs.Ytjifionpblpfoaa
