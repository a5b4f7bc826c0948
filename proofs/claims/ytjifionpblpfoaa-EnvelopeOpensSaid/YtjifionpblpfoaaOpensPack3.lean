/-
  Part 3 of the texts that the seat's proofs stand on; each part of it begins with its own sentence and conditions. Conditions: those that each theorem names.
-/
import Derived.Test.YtjifionpblpfoaaOpensPack2
import Derived.ArgAppend

/-
  What the document's own Decode of layer 14 does. Conditions: no more than 2^16 bytes.
-/
namespace Go.Proofs.Ytjifionpblpfoaa
open Go.RowKit
open Pol (co Sm)

/-- An order that was read, and the error's number. -/
def DecR (b : List Nat) (w : World) (e : Ending) (w' : World) : Prop :=
  Ext w w' ∧ ∃ B n c, e = .returned (.tuple #[.agg #[.int .i64 (dec14 b).2.k, .int .i64 (dec14 b).2.t, .int .u64 (((dec14 b).2.a : Nat) : Int), .slice B n c], .int .i64 (((dec14 b).1 : Nat) : Int)]) ∧ (dec14 b).2.m.length = n ∧ n ≤ c ∧ Rd w' B (dec14 b).2.m
/-- The reader's steps, and what they come to. -/
theorem dec14_steps (b : List Nat) : ∃ (r1 : Rs Nat) (r2 : Rs Nat) (r3 : Rs Nat) (r4 : Rs (List Nat)), r1 = (Rs.ok () b).bind (fun _ rest => rdN 2 rest) ∧ r2 = r1.unit.bind (fun _ rest => rdN 5 rest) ∧ r3 = r2.unit.bind (fun _ rest => rdN 18446744073709551615 rest) ∧ r4 = r3.unit.bind (fun _ rest => rdT 16 rest) ∧
    dec14 b = (if endc r4.unit ≠ 0 then (endc r4.unit, Od.zero) else if Od.right ⟨((r1.val 0 : Nat) : Int), ((r2.val 0 : Nat) : Int), r3.val 0, r4.val []⟩ then (0, ⟨((r1.val 0 : Nat) : Int), ((r2.val 0 : Nat) : Int), r3.val 0, r4.val []⟩) else (14, Od.zero)) := by
  refine ⟨_, _, _, _, rfl, rfl, rfl, rfl, ?_⟩
  unfold dec14 rdO
  show _ = _
  cases h1 : rdN 2 b with
  | er n =>
    have hn := (rdN_er h1).1
    simp only [Rs.bind, h1, Rs.unit, Rs.val, endc]
    rw [if_pos (by omega)]
  | ok k b1 =>
    cases h2 : rdN 5 b1 with
    | er n =>
      have hn := (rdN_er h2).1
      simp only [Rs.bind, h1, h2, Rs.unit, Rs.val, endc]
      rw [if_pos (by omega)]
    | ok t b2 =>
      cases h3 : rdN 18446744073709551615 b2 with
      | er n =>
        have hn := (rdN_er h3).1
        simp only [Rs.bind, h1, h2, h3, Rs.unit, Rs.val, endc]
        rw [if_pos (by omega)]
      | ok a b3 =>
        cases h4 : rdT 16 b3 with
        | er n =>
          have hn := (rdT_er h4).1
          simp only [Rs.bind, h1, h2, h3, h4, Rs.unit, Rs.val, endc]
          rw [if_pos (by omega)]
        | ok m b4 =>
          simp only [Rs.bind, h1, h2, h3, h4, Rs.unit, Rs.val, endc]
          by_cases hb : b4 = []
          · rw [if_pos hb, if_neg (by simpa using hb), if_neg (show ¬ (0 ≠ 0) from fun h => h rfl)]
          · rw [if_neg hb, if_pos hb, if_pos (by simp)]
theorem rdN_val_le {m : Nat} {l : List Nat} (hs : Sm l) : (rdN m l).val 0 ≤ m := by
  cases h : rdN m l with
  | er n => exact Nat.zero_le _
  | ok n rest => exact (vn_rdN hs h).2.2
theorem stn_val {l : List Nat} {g cb m : Nat} {B : Option Addr} {w : World} {r : Rs Unit} (h : Stn l g B cb w r) (hs : Sm l) : (r.bind fun _ rest => rdN m rest).val 0 ≤ m := by
  cases r with
  | er n => exact Nat.zero_le _
  | ok u rest =>
    obtain ⟨⟨pre, hp⟩, _⟩ := h
    rw [hp] at hs
    exact rdN_val_le (sm_split hs).2
theorem results_tx14 {fn : Func} {p u : Tmp} (h : fn.results = #[.cell p 27, .tmp u]) (tmps : Array Value) (w : World) (g : Nat) (t : TypeId) (cs : Array Value) (fr : Nat × Nat)
    (hp : tmps.getD p undef = .pointer (some ⟨g, 0, none⟩)) (hg : w.heap[g]? = some (.cells cs t fr)) (hi : (Try.prog.info? 27).map (·.size) = some cs.size) :
    (results fn tmps).run Try.prog w = .ok (.tuple #[.agg cs, tmps.getD u undef]) w := by
  have hl := run_loadVar_row w g t 27 cs fr _ hg Try.underlying27 rfl hi
  rw [results_cell_tmp h, hp]
  simp [asAddr, Result.andThen, hl]
theorem tx_size14 : (#[.int .i64 0, .int .i64 0, .int .u64 0, .slice none 0 0] : Array Value).size = (#[.int .i64 0, .int .i64 0, .int .u64 0, .slice none 0 0] : Array Value).size := rfl
set_option maxHeartbeats 6400000 in
set_option maxRecDepth 100000 in
theorem ref14_decode (b : List Nat) (A : Option Addr) (n c : Nat) (w : World) (hn : b.length = n) (hr : Rd w A b) (hc : n ≤ c) (hl : n ≤ 65536) :
    Calls Try.prog 24 #[.slice A n c] w (DecR b w) := by
  unfold DecR
  obtain ⟨r1, r2, r3, r4, e1, e2, e3, e4, hdec⟩ := dec14_steps b
  have HDEC := Lib.hid hdec
  have HSB := Lib.hid hr.1
  have HFAR := Lib.hid (show ∀ q o, A = some ⟨q, o, none⟩ → 0 < b.length → q ≠ w.heap.size + 1 from fun q o e h0 => by have := hr.block' q o e h0; omega)
  have HRD := Lib.hid (fun u (h : Ext w u) => hr.ext h)
  have HCB := Lib.hid (show b.length ≤ c by omega)
  have HLB := Lib.hid (show b.length ≤ 65536 by omega)
  have hx0 : Ext w ((w.alloc (.cells #[.int .i64 0, .int .i64 0, .int .u64 0, .slice none 0 0] 27)).alloc (.cells #[.slice A n c, .int .i64 0, .int .i64 0] 72)) := ((Ext.refl w).alloc _).alloc _
  have hR0 : ((w.alloc (.cells #[.int .i64 0, .int .i64 0, .int .u64 0, .slice none 0 0] 27)).alloc (.cells #[.slice A n c, .int .i64 0, .int .i64 0] 72)).heap[w.heap.size]? = some (.cells #[.int .i64 0, .int .i64 0, .int .u64 0, .slice none 0 0] 27) := by
    rw [heap_alloc_old _ _ (by simp)]
    exact heap_alloc_new w _
  have hg0 : ((w.alloc (.cells #[.int .i64 0, .int .i64 0, .int .u64 0, .slice none 0 0] 27)).alloc (.cells #[.slice A n c, .int .i64 0, .int .i64 0] 72)).heap[w.heap.size + 1]? = some (.cells #[.slice A n c, .int .i64 0, .int .i64 0] 72) := by
    have h := heap_alloc_new (w.alloc (.cells #[.int .i64 0, .int .i64 0, .int .u64 0, .slice none 0 0] 27)) (.cells #[.slice A n c, .int .i64 0, .int .i64 0] 72)
    rwa [show (w.alloc (.cells #[.int .i64 0, .int .i64 0, .int .u64 0, .slice none 0 0] 27)).heap.size = w.heap.size + 1 from by simp] at h
  have HX0 := Lib.hid hx0
  have HR0 := Lib.hid hR0
  have HS0 := Lib.hid (show Stn b (w.heap.size + 1) A c _ (.ok () b) from ⟨⟨[], rfl⟩, by rw [cell_of_row _ _ 0 _ _ _ hg0, hn]; rfl, by rw [cell_of_row _ _ 1 _ _ _ hg0, Nat.sub_self]; rfl, by rw [cell_of_row _ _ 2 _ _ _ hg0]; rfl, frozen_of_row _ _ 1 _ _ hg0, frozen_of_row _ _ 2 _ _ hg0⟩)
  clear hr hx0 hR0 hg0 hdec
  obtain ⟨g, hgd⟩ : ∃ g, w.heap.size + 1 = g := ⟨_, rfl⟩
  have HGD := Lib.hid hgd
  rw [hgd] at HS0 HFAR
  clear hgd
  go_enter Try.func24, Try.ntmps24
  go_wp2_with fail
  rw [HGD.out]
  refine (rd14_number b g A c 2 _ _ (HRD.out _ HX0.out) HFAR.out HLB.out (by decide) HS0.out).mono ?_
  rintro e w1 ⟨ho, rfl, hs⟩
  have hv := stn_val (m := 2) HS0.out HSB.out
  rw [← e1] at hs hv ⊢
  obtain ⟨v1, hv1⟩ : ∃ v, r1.val 0 = v := ⟨_, rfl⟩
  rw [hv1] at hv ⊢
  have HV1 := Lib.hid hv1
  have HX1 := Lib.hid (ho.ext HX0.out (fun q e => by have := HGD.out; omega))
  have HS1 := Lib.hid hs
  have HR1 := Lib.hid (ho.row HR0.out (by have := HGD.out; omega))
  have x1 : IntKind.i64.wrap (v1 : Int) = (v1 : Int) := by rw [IntKind.wrap_i64]; omega
  clear ho hs hv hv1
  go_wp2_with fail
  refine (rd14_number b g A c 5 _ _ (HRD.out _ HX1.out) HFAR.out HLB.out (by decide) HS1.out).mono ?_
  rintro e w2 ⟨ho, rfl, hs⟩
  have hv := stn_val (m := 5) HS1.out HSB.out
  rw [← e2] at hs hv ⊢
  obtain ⟨v2, hv2⟩ : ∃ v, r2.val 0 = v := ⟨_, rfl⟩
  rw [hv2] at hv ⊢
  have HV2 := Lib.hid hv2
  have HX2 := Lib.hid (ho.ext HX1.out (fun q e => by have := HGD.out; omega))
  have HS2 := Lib.hid hs
  have HR2 := Lib.hid (ho.row HR1.out (by have := HGD.out; omega))
  have x2 : IntKind.i64.wrap (v2 : Int) = (v2 : Int) := by rw [IntKind.wrap_i64]; omega
  clear ho hs hv hv2
  -- the order under way lies in block w2.heap.size
  have HXa := Lib.hid (HX2.out.alloc (.cells #[.int .i64 (v1 : Int), .int .i64 (v2 : Int), .int .u64 0, .slice none 0 0] 27))
  have HSa := Lib.hid (HS2.out.ext ((Ext.refl w2).alloc (.cells #[.int .i64 (v1 : Int), .int .i64 (v2 : Int), .int .u64 0, .slice none 0 0] 27)))
  have HRa := Lib.hid (((Ext.refl w2).alloc (.cells #[.int .i64 (v1 : Int), .int .i64 (v2 : Int), .int .u64 0, .slice none 0 0] 27)).row HR2.out)
  have HTa := Lib.hid (heap_alloc_new w2 (.cells #[.int .i64 (v1 : Int), .int .i64 (v2 : Int), .int .u64 0, .slice none 0 0] 27))
  have HTg := Lib.hid (show g < w2.heap.size ∧ w.heap.size < w2.heap.size from ⟨HS2.out.lt, by have h1 := HS2.out.lt; have h2 := HGD.out; omega⟩)
  obtain ⟨T, hT⟩ : ∃ T, w2.heap.size = T := ⟨_, rfl⟩
  go_wp2_with fail
  rw [hT] at HTa HTg
  clear hT HX2 HS2 HR2 HX1 HS1 HR1 HX0 HS0 HR0
  generalize w2.alloc (.cells #[.int .i64 (v1 : Int), .int .i64 (v2 : Int), .int .u64 0, .slice none 0 0] 27) = wa at HXa HSa HRa HTa ⊢
  refine (rd14_number b g A c 18446744073709551615 _ _ (HRD.out _ HXa.out) HFAR.out HLB.out (by decide) HSa.out).mono ?_
  rintro e w3 ⟨ho, rfl, hs⟩
  rw [← e3] at hs ⊢
  obtain ⟨v3, hv3⟩ : ∃ v, r3.val 0 = v := ⟨_, rfl⟩
  rw [hv3]
  have HV3 := Lib.hid hv3
  have ht3 := ho.row HTa.out (fun e => by have := HTg.out; omega)
  have hx3 := ho.ext HXa.out (fun q e => by have := HGD.out; omega)
  have t2 := cell_of_row _ T 2 _ _ _ ht3
  simp only [List.getElem?_toArray, List.getElem?_cons_zero, List.getElem?_cons_succ] at t2
  have z2 : w3.frozen? ⟨T, 2, none⟩ = false := frozen_of_row _ T 2 _ _ ht3
  have HT3 := Lib.hid (heap_setCell_same w3 T 2 _ _ (.int .u64 (v3 : Int)) ht3)
  have HX3 := Lib.hid (hx3.setCell (p := ⟨T, 2, none⟩) (by have := HTg.out; dsimp only; omega) (.int .u64 (v3 : Int)))
  have HR3 := Lib.hid ((heap_setCell_other w3 ⟨T, 2, none⟩ w.heap.size (.int .u64 (v3 : Int)) (by have := HTg.out; dsimp only; omega)).trans (ho.row HRa.out (by have := HGD.out; omega)))
  have HS3 := Lib.hid (hs.only (X := fun k => k = T) (Only.of_grown (grown_set' w3 T 2 (.int .u64 (v3 : Int))) (fun k e => by injection e with e; exact e.symm)) (by have := HTg.out; omega))
  clear ho hs hv3 ht3 hx3 HXa HSa HRa HTa
  go_wp2_with fail
  generalize w3.setCell ⟨T, 2, none⟩ (.int .u64 (v3 : Int)) = wb at HT3 HX3 HR3 HS3 ⊢
  clear t2 z2
  refine (rd14_text b g A c 16 _ _ (HRD.out _ HX3.out) HCB.out HFAR.out HLB.out (by decide) HS3.out).mono ?_
  rintro e w4 ⟨ho, ⟨D, n4, c4, rfl, hn4, hc4, hD, hDb⟩, hs⟩
  rw [← e4] at hs hn4 hD
  obtain ⟨V4, hV4⟩ : ∃ v, r4.val [] = v := ⟨_, rfl⟩
  rw [hV4] at hn4 hD
  have HV4 := Lib.hid hV4
  have ht4 := ho.row HT3.out (fun e => by have := HTg.out; omega)
  have hx4 := ho.ext HX3.out (fun q e => by have := HGD.out; omega)
  have t3 := cell_of_row _ T 3 _ _ _ ht4
  simp only [List.getElem?_toArray, Array.setIfInBounds, List.size_toArray, List.length_cons, List.length_nil, Nat.zero_add, Nat.reduceAdd, Nat.reduceLT, dite_true, List.set_toArray, List.set_cons_zero, List.set_cons_succ, List.getElem?_cons_zero, List.getElem?_cons_succ] at t3
  have z3 : w4.frozen? ⟨T, 3, none⟩ = false := frozen_of_row _ T 3 _ _ ht4
  have HT4 := Lib.hid (heap_setCell_same w4 T 3 _ _ (.slice D n4 c4) ht4)
  have HX4 := Lib.hid (hx4.setCell (p := ⟨T, 3, none⟩) (by have := HTg.out; dsimp only; omega) (.slice D n4 c4))
  have HR4 := Lib.hid ((heap_setCell_other w4 ⟨T, 3, none⟩ w.heap.size (.slice D n4 c4) (by have := HTg.out; dsimp only; omega)).trans (ho.row HR3.out (by have := HGD.out; omega)))
  have HS4 := Lib.hid (hs.only (X := fun k => k = T) (Only.of_grown (grown_set' w4 T 3 (.slice D n4 c4)) (fun k e => by injection e with e; exact e.symm)) (by have := HTg.out; omega))
  have HDB := Lib.hid (show ∀ q o, D = some ⟨q, o, none⟩ → 0 < V4.length → q ≠ g ∧ q ≠ T ∧ q ≠ w.heap.size from fun q o e h0 => by
    have h1 := hDb q o e (by omega)
    have h2 := row_lt HT3.out
    have h3 := HTg.out
    omega)
  have HD4 := Lib.hid (show Rd (w4.setCell ⟨T, 3, none⟩ (.slice D n4 c4)) D V4 from hD.keep (grown_set' w4 T 3 (.slice D n4 c4)) (fun q o e h0 e2 => by injection e2 with e2; exact (HDB.out q o e h0).2.1 e2))
  have HN4 := Lib.hid (And.intro hn4 hc4)
  clear ho hs hn4 hc4 hD hDb hV4 ht4 hx4 HX3 HS3 HR3 HT3
  go_wp2_with fail
  generalize w4.setCell ⟨T, 3, none⟩ (.slice D n4 c4) = wc at HT4 HX4 HR4 HS4 HD4 ⊢
  clear t3 z3
  refine (rd14_end b g A c _ _ HS4.out).mono ?_
  rintro e w5 ⟨rfl, ho⟩
  have HT5 := Lib.hid (ho.row HT4.out (fun e => by have := HTg.out; omega))
  have HX5 := Lib.hid (ho.ext HX4.out (fun q e => by have := HGD.out; omega))
  have HR5 := Lib.hid (ho.row HR4.out (by have := HGD.out; omega))
  have HD5 := Lib.hid (rd_keep HD4.out ho (fun q o e h0 => (HDB.out q o e h0).1))
  rw [HV1.out, HV2.out, HV3.out, HV4.out] at HDEC
  clear ho HX4 HS4 HR4 HT4 HD4 e1 e2 e3 e4
  obtain ⟨ec, hec⟩ : ∃ ec, endc r4.unit = ec := ⟨_, rfl⟩
  rw [hec] at HDEC ⊢
  by_cases hec0 : ec = 0
  · rw [if_neg (by simpa using hec0)] at HDEC
    subst hec0
    have q0 := cell_of_row _ T 0 _ _ _ HT5.out
    have q1 := cell_of_row _ T 1 _ _ _ HT5.out
    have q2 := cell_of_row _ T 2 _ _ _ HT5.out
    have q3 := cell_of_row _ T 3 _ _ _ HT5.out
    simp only [List.getElem?_toArray, Array.setIfInBounds, List.size_toArray, List.length_cons, List.length_nil, Nat.zero_add, Nat.reduceAdd, Nat.reduceLT, dite_true, List.set_toArray, List.set_cons_zero, List.set_cons_succ, List.getElem?_cons_zero, List.getElem?_cons_succ] at q0 q1 q2 q3
    have HRI := Lib.hid (fun u => ref14_right (v1 : Int) (v2 : Int) v3 n4 c4 D u)
    rw [right_is HN4.out.1] at HRI
    go_wp2_with fail
    refine (HRI.out w5).mono ?_
    rintro e w6 ⟨rfl, hx6⟩
    have HX6 := Lib.hid (HX5.out.trans hx6)
    have HR6 := Lib.hid (hx6.row HR5.out)
    have HD6 := Lib.hid (HD5.out.ext hx6)
    have p0 := hx6.at q0
    have p1 := hx6.at q1
    have p2 := hx6.at q2
    have p3 := hx6.at q3
    clear hx6 q0 q1 q2 q3
    by_cases ho : Od.right ⟨(v1 : Int), (v2 : Int), v3, V4⟩
    · rw [if_pos ho] at HDEC
      rw [decide_eq_true ho]
      have hin : (Try.prog.info? 27).map (·.size) = some (#[.int .i64 (v1 : Int), .int .i64 (v2 : Int), .int .u64 (v3 : Int), .slice D n4 c4] : Array Value).size := by kernel_rfl
      have HSZ := Lib.hid (show (#[.int .i64 0, .int .i64 0, .int .u64 0, .slice none 0 0] : Array Value).size = (#[.int .i64 (v1 : Int), .int .i64 (v2 : Int), .int .u64 (v3 : Int), .slice D n4 c4] : Array Value).size from rfl)
      have hone : (#[.int .i64 (v1 : Int), .int .i64 (v2 : Int), .int .u64 (v3 : Int), .slice D n4 c4] : Array Value).all (·.oneCell') = true := by simp [Value.oneCell']
      have HXF := Lib.hid (HX6.out.setRow (Nat.le_refl _) #[.int .i64 (v1 : Int), .int .i64 (v2 : Int), .int .u64 (v3 : Int), .slice D n4 c4])
      have HGF := Lib.hid (setRow_heap w6 w.heap.size _ #[.int .i64 (v1 : Int), .int .i64 (v2 : Int), .int .u64 (v3 : Int), .slice D n4 c4] _ _ HR6.out)
      go_wp2_with (with_reducible refine wpList_store_all rfl 27 (.tmp 2) (.tmp 33) rfl w.heap.size _ #[.int .i64 (v1 : Int), .int .i64 (v2 : Int), .int .u64 (v3 : Int), .slice D n4 c4] rfl rfl HR6.out hin HSZ.out hone ?_)
      refine bodyPost_ret (results_tx14 Try.results24 _ _ w.heap.size 27 _ (0, 0) rfl HGF.out hin) rfl ?_
      rw [HDEC.out]
      exact ⟨HXF.out, D, n4, c4, rfl, HN4.out.1, HN4.out.2, HD6.out.keep (grown_block w6 w.heap.size #[.int .i64 (v1 : Int), .int .i64 (v2 : Int), .int .u64 (v3 : Int), .slice D n4 c4]) (fun q o e h0 e2 => by injection e2 with e2; exact (HDB.out q o e h0).2.2 e2)⟩
    · rw [if_neg ho] at HDEC
      rw [decide_eq_false ho]
      have hin : (Try.prog.info? 27).map (·.size) = some (#[.int .i64 0, .int .i64 0, .int .u64 0, .slice none 0 0] : Array Value).size := by kernel_rfl
      have hone : (#[.int .i64 0, .int .i64 0, .int .u64 0, .slice none 0 0] : Array Value).all (·.oneCell') = true := by simp [Value.oneCell']
      have HXF := Lib.hid (HX6.out.setRow (Nat.le_refl _) #[.int .i64 0, .int .i64 0, .int .u64 0, .slice none 0 0])
      have HGF := Lib.hid (setRow_heap w6 w.heap.size _ #[.int .i64 0, .int .i64 0, .int .u64 0, .slice none 0 0] _ _ HR6.out)
      go_wp2_with (with_reducible refine wpList_store_all rfl 27 (.tmp 2) (.tmp 32) rfl w.heap.size _ #[.int .i64 0, .int .i64 0, .int .u64 0, .slice none 0 0] rfl rfl HR6.out hin tx_size14 hone ?_)
      refine bodyPost_ret (results_tx14 Try.results24 _ _ w.heap.size 27 _ (0, 0) rfl HGF.out hin) rfl ?_
      rw [HDEC.out]
      exact ⟨HXF.out, none, 0, 0, rfl, rfl, Nat.le_refl _, Rd.nil _ _⟩
  · rw [if_pos hec0] at HDEC
    have d1 : ((ec : Int) == 0) = false := by simp; omega
    have d1' : ((ec : Int) != 0) = true := by simp; omega
    have d1'' : decide ((ec : Int) = 0) = false := decide_eq_false (by omega)
    have d1''' : decide (ec = 0) = false := decide_eq_false hec0
    have hin : (Try.prog.info? 27).map (·.size) = some (#[.int .i64 0, .int .i64 0, .int .u64 0, .slice none 0 0] : Array Value).size := by kernel_rfl
    have hone : (#[.int .i64 0, .int .i64 0, .int .u64 0, .slice none 0 0] : Array Value).all (·.oneCell') = true := by simp [Value.oneCell']
    have HXF := Lib.hid (HX5.out.setRow (Nat.le_refl _) #[.int .i64 0, .int .i64 0, .int .u64 0, .slice none 0 0])
    have HGF := Lib.hid (setRow_heap w5 w.heap.size _ #[.int .i64 0, .int .i64 0, .int .u64 0, .slice none 0 0] _ _ HR5.out)
    go_wp2_with (with_reducible refine wpList_store_all rfl 27 (.tmp 2) (.tmp 27) rfl w.heap.size _ #[.int .i64 0, .int .i64 0, .int .u64 0, .slice none 0 0] rfl rfl HR5.out hin tx_size14 hone ?_)
    refine bodyPost_ret (results_tx14 Try.results24 _ _ w.heap.size 27 _ (0, 0) rfl HGF.out hin) rfl ?_
    rw [HDEC.out]
    exact ⟨HXF.out, none, 0, 0, rfl, rfl, Nat.le_refl _, Rd.nil _ _⟩
end Go.Proofs.Ytjifionpblpfoaa

/-
  The document's Open of layer 16. Conditions: no more than 2^16 bytes.
-/
namespace Go.Proofs.Ytjifionpblpfoaa
open Go.RowKit
open Pol (co Sm)

/-- An order that is handed back, and the error's number. -/
def OdR (r : Nat × Od) (w : World) (e : Ending) (w' : World) : Prop :=
  Ext w w' ∧ ∃ B k c, e = .returned (.tuple #[.agg #[.int .i64 r.2.k, .int .i64 r.2.t, .int .u64 ((r.2.a : Nat) : Int), .slice B k c], .int .i64 ((r.1 : Nat) : Int)]) ∧ r.2.m.length = k ∧ k ≤ c ∧ Rd w' B r.2.m
theorem odR_no {r : Nat × Od} {w w' : World} {m : Nat} (h : r = (m, Od.zero)) (hx : Ext w w') : OdR r w (.returned (.tuple #[.agg #[.int .i64 0, .int .i64 0, .int .u64 0, .slice none 0 0], .int .i64 (m : Int)])) w' := by
  subst h
  exact ⟨hx, none, 0, 0, rfl, rfl, Nat.le_refl _, Rd.nil _ _⟩
theorem open16_chk {e : Ev} {p : List Nat} (h : e.chk ≠ 0) : open16 e p = (e.chk, Od.zero) := by unfold open16; rw [if_pos h]
theorem open16_len {e : Ev} {p : List Nat} (h : e.chk = 0) (hl : p.length ≠ e.b.length) : open16 e p = (1, Od.zero) := by unfold open16; rw [if_neg (by simpa using h), if_pos hl]
theorem open16_tail {e : Ev} {p : List Nat} (h : e.chk = 0) (hl : p.length = e.b.length) (ht : ¬ Tail0 (lx e.b p)) : open16 e p = (15, Od.zero) := by unfold open16; rw [if_neg (by simpa using h), if_neg (by simpa using hl), if_pos ht]
theorem open16_dec {e : Ev} {p : List Nat} (h : e.chk = 0) (hl : p.length = e.b.length) (ht : Tail0 (lx e.b p)) : open16 e p = if (dec14 (strp (lx e.b p))).1 ≠ 0 then (15, Od.zero) else dec14 (strp (lx e.b p)) := by
  unfold open16
  rw [if_neg (by simpa using h), if_neg (by simpa using hl), if_neg (by simpa using ht)]
theorem far_of_row {w : World} {g : Nat} {B : Option Addr} {l : List Nat} (h : Rd w B l) (hg : w.heap[g]? = some (.cells #[.int .i64 0, .int .i64 0, .int .u64 0, .slice none 0 0] 27)) : ∀ q o, B = some ⟨q, o, none⟩ → 0 < l.length → q ≠ g := fun q o e h0 e2 => by
  obtain ⟨b, o', e3, hc⟩ := h.2 0 h0
  rw [e] at e3
  injection e3 with e3
  injection e3 with e4 e5
  subst e4 e5 e2
  rw [cell_of_row _ _ _ _ _ _ hg] at hc
  match o, hc with
  | 0, hc => simp at hc
  | 1, hc => simp at hc
  | 2, hc => simp at hc
  | 3, hc => simp at hc
  | n + 4, hc => simp at hc
theorem slice_eta {v : Value} {w : World} {l : List Nat} (h : Sl w v l) : ∃ B n c, v = .slice B n c ∧ l.length = n ∧ n ≤ c ∧ Rd w B l := by
  obtain ⟨B, c, rfl, h1, h2⟩ := h
  exact ⟨B, _, c, rfl, rfl, h1, h2⟩
set_option maxHeartbeats 6400000 in
set_option maxRecDepth 100000 in
theorem ref16_open (s : Int) (nn f x kb c : Nat) (b p : List Nat) (A B : Option Addr) (np cp : Nat) (w : World) (hk : b.length = kb) (hc : kb ≤ c) (hr : Rd w A b) (hl : kb ≤ 65536) (hp : p.length = np) (hq : Rd w B p) (hlp : np ≤ 65536) :
    Calls Try.prog 9 #[evv s nn f x A kb c, .slice B np cp] w (OdR (open16 ⟨s, nn, f, x, b⟩ p) w) := by
  have hx2 := ((Ext.refl w).alloc (.cells #[.int .i64 s, .int .u64 (nn : Int), .int .u64 (f : Int), .int .u64 (x : Int), .slice A kb c] 25)).alloc (.cells #[.int .i64 0, .int .i64 0, .int .u64 0, .slice none 0 0] 27)
  have hg0 : ((w.alloc (.cells #[.int .i64 s, .int .u64 (nn : Int), .int .u64 (f : Int), .int .u64 (x : Int), .slice A kb c] 25)).alloc (.cells #[.int .i64 0, .int .i64 0, .int .u64 0, .slice none 0 0] 27)).heap[w.heap.size]? = some (.cells #[.int .i64 s, .int .u64 (nn : Int), .int .u64 (f : Int), .int .u64 (x : Int), .slice A kb c] 25) := by
    rw [heap_alloc_old _ _ (by simp)]
    exact heap_alloc_new w _
  have hr0 : ((w.alloc (.cells #[.int .i64 s, .int .u64 (nn : Int), .int .u64 (f : Int), .int .u64 (x : Int), .slice A kb c] 25)).alloc (.cells #[.int .i64 0, .int .i64 0, .int .u64 0, .slice none 0 0] 27)).heap[w.heap.size + 1]? = some (.cells #[.int .i64 0, .int .i64 0, .int .u64 0, .slice none 0 0] 27) := by
    have h := heap_alloc_new (w.alloc (.cells #[.int .i64 s, .int .u64 (nn : Int), .int .u64 (f : Int), .int .u64 (x : Int), .slice A kb c] 25)) (.cells #[.int .i64 0, .int .i64 0, .int .u64 0, .slice none 0 0] 27)
    rwa [show (w.alloc (.cells #[.int .i64 s, .int .u64 (nn : Int), .int .u64 (f : Int), .int .u64 (x : Int), .slice A kb c] 25)).heap.size = w.heap.size + 1 from by simp] at h
  have HX2 := Lib.hid hx2
  have HG0 := Lib.hid hg0
  have HR0 := Lib.hid hr0
  have HK := Lib.hid hk
  have HP := Lib.hid hp
  have HB := Lib.hid hr
  have HQ := Lib.hid hq
  have HCK := Lib.hid (fun u => ref16_check s nn f x kb c b A u hk)
  obtain ⟨ck, hck⟩ : ∃ q, (Ev.mk s nn f x b).chk = q := ⟨_, rfl⟩
  rw [hck] at HCK
  have HC := Lib.hid hck
  clear hx2 hg0 hr0 hr hp hq hck hk
  go_enter Try.func9, Try.ntmps9
  go_wp2_with (with_reducible refine wpList_load_row rfl 25 (.tmp 2) rfl w.heap.size rfl 25 #[.int .i64 s, .int .u64 (nn : Int), .int .u64 (f : Int), .int .u64 (x : Int), .slice A kb c] (0, 0) _ HG0.out Try.underlying25 rfl ev_in16 ?_)
  refine (HCK.out _).mono ?_
  rintro e w1 ⟨rfl, hx1⟩
  have HX1 := Lib.hid (HX2.out.trans hx1)
  have HR1 := Lib.hid (hx1.row HR0.out)
  have HG1 := Lib.hid (hx1.row HG0.out)
  clear hx1 HX2 HR0 HG0 HCK
  by_cases hc0 : ck = 0
  rotate_left
  · have HDN := Lib.hid (fun w' (hx : Ext w w') => odR_no (r := open16 ⟨s, nn, f, x, b⟩ p) (m := ck) (by rw [open16_chk (by rw [HC.out]; exact hc0), HC.out]) hx)
    have d1 : ((ck : Int) == 0) = false := by simp; omega
    have d2 : ((ck : Int) != 0) = true := by simp; omega
    have d3 : decide ((ck : Int) = 0) = false := decide_eq_false (by omega)
    have d4 : decide (ck = 0) = false := decide_eq_false hc0
    clear hc0
    have hone : (#[.int .i64 0, .int .i64 0, .int .u64 0, .slice none 0 0] : Array Value).all (·.oneCell') = true := by simp [Value.oneCell']
    have HXF := Lib.hid (HX1.out.setRow (g := w.heap.size + 1) (by omega) #[.int .i64 0, .int .i64 0, .int .u64 0, .slice none 0 0])
    have HGF := Lib.hid (setRow_heap w1 (w.heap.size + 1) _ #[.int .i64 0, .int .i64 0, .int .u64 0, .slice none 0 0] _ _ HR1.out)
    go_wp2_with (with_reducible refine wpList_store_all rfl 27 (.tmp 4) (.tmp 15) rfl (w.heap.size + 1) _ #[.int .i64 0, .int .i64 0, .int .u64 0, .slice none 0 0] rfl rfl HR1.out tx_in16 tx_size14 hone ?_)
    refine bodyPost_ret (results_tx14 Try.results9 _ _ (w.heap.size + 1) 27 _ (0, 0) rfl HGF.out tx_in16) rfl ?_
    exact HDN.out _ HXF.out
  subst hc0
  have hok := Ev.chk_ok.1 HC.out
  have hb1 : 1 ≤ kb := by have h := hok.2.2.2.1; dsimp only at h; rw [HK.out] at h; exact h
  have hb2 : kb ≤ 32 := by have h := hok.2.2.2.2; dsimp only at h; rw [HK.out] at h; exact h
  have q4 := cell_of_row _ w.heap.size 4 _ _ _ HG1.out
  clear hok
  by_cases hnp : np = kb
  rotate_left
  · have HDN := Lib.hid (fun w' (hx : Ext w w') => odR_no (r := open16 ⟨s, nn, f, x, b⟩ p) (m := 1) (open16_len (e := ⟨s, nn, f, x, b⟩) (p := p) HC.out (by dsimp only; rw [HP.out, HK.out]; exact hnp)) hx)
    have d1 : ((np : Int) != (kb : Int)) = true := by simp; omega
    have d2 : decide ((np : Int) = (kb : Int)) = false := decide_eq_false (by omega)
    have d3 : decide (np = kb) = false := decide_eq_false hnp
    clear hnp
    have hone : (#[.int .i64 0, .int .i64 0, .int .u64 0, .slice none 0 0] : Array Value).all (·.oneCell') = true := by simp [Value.oneCell']
    have HXF := Lib.hid (HX1.out.setRow (g := w.heap.size + 1) (by omega) #[.int .i64 0, .int .i64 0, .int .u64 0, .slice none 0 0])
    have HGF := Lib.hid (setRow_heap w1 (w.heap.size + 1) _ #[.int .i64 0, .int .i64 0, .int .u64 0, .slice none 0 0] _ _ HR1.out)
    go_wp2_with (with_reducible refine wpList_store_all rfl 27 (.tmp 4) (.tmp 23) rfl (w.heap.size + 1) _ #[.int .i64 0, .int .i64 0, .int .u64 0, .slice none 0 0] rfl rfl HR1.out tx_in16 tx_size14 hone ?_)
    refine bodyPost_ret (results_tx14 Try.results9 _ _ (w.heap.size + 1) 27 _ (0, 0) rfl HGF.out tx_in16) rfl ?_
    exact HDN.out _ HXF.out
  subst hnp
  have HPL := Lib.hid (show p.length = (Ev.mk s nn f x b).b.length from HP.out.trans HK.out.symm)
  have HXO := Lib.hid (ref16_xor b p A B np np c cp w1 HK.out HP.out (HB.out.ext HX1.out) (HQ.out.ext HX1.out) (Nat.le_refl _) hl)
  go_wp2_with fail
  refine HXO.out.mono ?_
  rintro e w2 ⟨v2, rfl, hm2, hs2, hx2⟩
  obtain ⟨B2, c2, rfl, hc2, hr2⟩ := hm2.slice hs2
  have HST := Lib.hid (ref_strip (lx b p) B2 c2 w2 hr2 hc2 (by rw [lx_len, HK.out]; exact ⟨hb1, by omega⟩))
  have hll : (lx b p).length = np := by rw [lx_len, HK.out]
  rw [hll] at HST ⊢
  have HX3 := Lib.hid (HX1.out.trans hx2)
  have HR3 := Lib.hid (hx2.row HR1.out)
  have HSM := Lib.hid hs2
  clear hm2 hs2 hx2 hc2 hr2 q4 HXO hll HG1
  go_wp2_with fail
  refine HST.out.mono ?_
  rintro e w3 (⟨ht, v3, rfl, hsl, hx3⟩ | ⟨ht, v3, rfl, hsl, hx3⟩)
  · obtain ⟨B3, n3, c3, rfl, hn3, hc3, hr3⟩ := slice_eta hsl
    have HX4 := Lib.hid (HX3.out.trans hx3)
    have HR4 := Lib.hid (hx3.row HR3.out)
    have HDE := Lib.hid (ref14_decode (strp (lx b p)) B3 n3 c3 w3 hn3 hr3 hc3 (by rw [← hn3]; rw [strp_len]; have h1 := ht.1; rw [lx_len, HK.out] at h1; omega))
    clear hsl hx3 hn3 hc3 hr3 HST
    go_wp2_with fail
    refine HDE.out.mono ?_
    rintro e w4 ⟨hx4, B4, k4, c4, rfl, hk4, hc4, hr4⟩
    have HX5 := Lib.hid (HX4.out.trans hx4)
    have HR5 := Lib.hid (hx4.row HR4.out)
    obtain ⟨dc, hdc⟩ : ∃ q, dec14 (strp (lx b p)) = q := ⟨_, rfl⟩
    rw [hdc] at hk4 hr4 ⊢
    obtain ⟨z, ok, ot, oa, om⟩ := dc
    dsimp only at hk4 hr4 ⊢
    have HZ5 := Lib.hid (heap_alloc_new w4 (.cells #[.int .i64 0, .int .i64 0, .int .u64 0, .slice none 0 0] 27))
    have HSV := Lib.hid (show (#[.int .i64 0, .int .i64 0, .int .u64 0, .slice none 0 0] : Array Value).size = (#[.int .i64 ok, .int .i64 ot, .int .u64 (oa : Int), .slice B4 k4 c4] : Array Value).size from rfl)
    have hone5 : (#[.int .i64 ok, .int .i64 ot, .int .u64 (oa : Int), .slice B4 k4 c4] : Array Value).all (·.oneCell') = true := by simp [Value.oneCell']
    have HFF := Lib.hid (far_of_row hr4 HR5.out)
    have HXa := Lib.hid (HX5.out.alloc (.cells #[.int .i64 ok, .int .i64 ot, .int .u64 (oa : Int), .slice B4 k4 c4] 27))
    have HRa := Lib.hid (((Ext.refl w4).alloc (.cells #[.int .i64 ok, .int .i64 ot, .int .u64 (oa : Int), .slice B4 k4 c4] 27)).row HR5.out)
    have HVa := Lib.hid (heap_alloc_new w4 (.cells #[.int .i64 ok, .int .i64 ot, .int .u64 (oa : Int), .slice B4 k4 c4] 27))
    have HBa := Lib.hid (hr4.ext ((Ext.refl w4).alloc (.cells #[.int .i64 ok, .int .i64 ot, .int .u64 (oa : Int), .slice B4 k4 c4] 27)))
    have HK4 := Lib.hid (And.intro hk4 hc4)
    have HOD := Lib.hid (open16_dec (e := ⟨s, nn, f, x, b⟩) (p := p) HC.out HPL.out ht)
    have HDC := Lib.hid hdc
    clear hx4 hk4 hc4 hr4 hdc ht HDE
    by_cases hz : z = 0
    · subst hz
      have HXF := Lib.hid (HXa.out.setRow (g := w.heap.size + 1) (by omega) #[.int .i64 ok, .int .i64 ot, .int .u64 (oa : Int), .slice B4 k4 c4])
      have HGF := Lib.hid (setRow_heap _ (w.heap.size + 1) _ #[.int .i64 ok, .int .i64 ot, .int .u64 (oa : Int), .slice B4 k4 c4] _ _ HRa.out)
      go_wp2_with (first | (with_reducible refine wpList_store_all rfl 27 (.tmp 9) (.tmp 35) rfl w4.heap.size _ #[.int .i64 ok, .int .i64 ot, .int .u64 (oa : Int), .slice B4 k4 c4] rfl rfl HZ5.out tx_in16 HSV.out hone5 ?_; rw [World.setRow_alloc_new]) | (with_reducible refine wpList_load_row rfl 27 (.tmp 9) rfl w4.heap.size rfl 27 #[.int .i64 ok, .int .i64 ot, .int .u64 (oa : Int), .slice B4 k4 c4] (0, 0) _ HVa.out Try.underlying27 rfl tx_in16 ?_) | (with_reducible refine wpList_store_all rfl 27 (.tmp 4) (.tmp 44) rfl (w.heap.size + 1) _ #[.int .i64 ok, .int .i64 ot, .int .u64 (oa : Int), .slice B4 k4 c4] rfl rfl HRa.out tx_in16 HSV.out hone5 ?_))
      refine bodyPost_ret (results_tx14 Try.results9 _ _ (w.heap.size + 1) 27 _ (0, 0) rfl HGF.out tx_in16) rfl ?_
      have hod := HOD.out
      try dsimp only at hod
      rw [HDC.out, if_neg (by simp)] at hod
      rw [hod]
      exact ⟨HXF.out, B4, k4, c4, rfl, HK4.out.1, HK4.out.2, HBa.out.keep (grown_block _ (w.heap.size + 1) #[.int .i64 ok, .int .i64 ot, .int .u64 (oa : Int), .slice B4 k4 c4]) (fun q o e h0 e2 => by injection e2 with e2; exact HFF.out q o e h0 e2)⟩
    · have HDN := Lib.hid (fun w' (hx : Ext w w') => odR_no (r := open16 ⟨s, nn, f, x, b⟩ p) (m := 15) (by have hod := HOD.out; try dsimp only at hod; rw [HDC.out, if_pos hz] at hod; exact hod) hx)
      have d1 : ((z : Int) == 0) = false := by simp; omega
      have d2 : ((z : Int) != 0) = true := by simp; omega
      have d3 : decide ((z : Int) = 0) = false := decide_eq_false (by omega)
      have d4 : decide (z = 0) = false := decide_eq_false hz
      clear hz
      have hone : (#[.int .i64 0, .int .i64 0, .int .u64 0, .slice none 0 0] : Array Value).all (·.oneCell') = true := by simp [Value.oneCell']
      have HXF := Lib.hid (HXa.out.setRow (g := w.heap.size + 1) (by omega) #[.int .i64 0, .int .i64 0, .int .u64 0, .slice none 0 0])
      have HGF := Lib.hid (setRow_heap _ (w.heap.size + 1) _ #[.int .i64 0, .int .i64 0, .int .u64 0, .slice none 0 0] _ _ HRa.out)
      go_wp2_with (first | (with_reducible refine wpList_store_all rfl 27 (.tmp 9) (.tmp 35) rfl w4.heap.size _ #[.int .i64 ok, .int .i64 ot, .int .u64 (oa : Int), .slice B4 k4 c4] rfl rfl HZ5.out tx_in16 HSV.out hone5 ?_; rw [World.setRow_alloc_new]) | (with_reducible refine wpList_store_all rfl 27 (.tmp 4) (.tmp 43) rfl (w.heap.size + 1) _ #[.int .i64 0, .int .i64 0, .int .u64 0, .slice none 0 0] rfl rfl HRa.out tx_in16 tx_size14 hone ?_))
      refine bodyPost_ret (results_tx14 Try.results9 _ _ (w.heap.size + 1) 27 _ (0, 0) rfl HGF.out tx_in16) rfl ?_
      exact HDN.out _ HXF.out
  · obtain ⟨B3, n3, c3, rfl, hn3, hc3, hr3⟩ := slice_eta hsl
    have HX4 := Lib.hid (HX3.out.trans hx3)
    have HR4 := Lib.hid (hx3.row HR3.out)
    have HDE := Lib.hid (ref14_decode ([]) B3 n3 c3 w3 hn3 hr3 hc3 (by rw [← hn3]; simp))
    clear hsl hx3 hn3 hc3 hr3 HST
    go_wp2_with fail
    refine HDE.out.mono ?_
    rintro e w4 ⟨hx4, B4, k4, c4, rfl, hk4, hc4, hr4⟩
    have HX5 := Lib.hid (HX4.out.trans hx4)
    have HR5 := Lib.hid (hx4.row HR4.out)
    obtain ⟨dc, hdc⟩ : ∃ q, dec14 ([]) = q := ⟨_, rfl⟩
    rw [hdc] at hk4 hr4 ⊢
    obtain ⟨z, ok, ot, oa, om⟩ := dc
    dsimp only at hk4 hr4 ⊢
    have HZ5 := Lib.hid (heap_alloc_new w4 (.cells #[.int .i64 0, .int .i64 0, .int .u64 0, .slice none 0 0] 27))
    have HSV := Lib.hid (show (#[.int .i64 0, .int .i64 0, .int .u64 0, .slice none 0 0] : Array Value).size = (#[.int .i64 ok, .int .i64 ot, .int .u64 (oa : Int), .slice B4 k4 c4] : Array Value).size from rfl)
    have hone5 : (#[.int .i64 ok, .int .i64 ot, .int .u64 (oa : Int), .slice B4 k4 c4] : Array Value).all (·.oneCell') = true := by simp [Value.oneCell']
    have HXa := Lib.hid (HX5.out.alloc (.cells #[.int .i64 ok, .int .i64 ot, .int .u64 (oa : Int), .slice B4 k4 c4] 27))
    have HRa := Lib.hid (((Ext.refl w4).alloc (.cells #[.int .i64 ok, .int .i64 ot, .int .u64 (oa : Int), .slice B4 k4 c4] 27)).row HR5.out)
    have HVa := Lib.hid (heap_alloc_new w4 (.cells #[.int .i64 ok, .int .i64 ot, .int .u64 (oa : Int), .slice B4 k4 c4] 27))
    have HBa := Lib.hid (hr4.ext ((Ext.refl w4).alloc (.cells #[.int .i64 ok, .int .i64 ot, .int .u64 (oa : Int), .slice B4 k4 c4] 27)))
    have HK4 := Lib.hid (And.intro hk4 hc4)
    have HDN := Lib.hid (fun w' (hx : Ext w w') => odR_no (r := open16 ⟨s, nn, f, x, b⟩ p) (m := 15) (open16_tail HC.out HPL.out ht) hx)
    clear hx4 hk4 hc4 hr4 hdc ht HDE
    have hone : (#[.int .i64 0, .int .i64 0, .int .u64 0, .slice none 0 0] : Array Value).all (·.oneCell') = true := by simp [Value.oneCell']
    have HXF := Lib.hid (HXa.out.setRow (g := w.heap.size + 1) (by omega) #[.int .i64 0, .int .i64 0, .int .u64 0, .slice none 0 0])
    have HGF := Lib.hid (setRow_heap _ (w.heap.size + 1) _ #[.int .i64 0, .int .i64 0, .int .u64 0, .slice none 0 0] _ _ HRa.out)
    go_wp2_with (first | (with_reducible refine wpList_store_all rfl 27 (.tmp 9) (.tmp 35) rfl w4.heap.size _ #[.int .i64 ok, .int .i64 ot, .int .u64 (oa : Int), .slice B4 k4 c4] rfl rfl HZ5.out tx_in16 HSV.out hone5 ?_; rw [World.setRow_alloc_new]) | (with_reducible refine wpList_store_all rfl 27 (.tmp 4) (.tmp 43) rfl (w.heap.size + 1) _ #[.int .i64 0, .int .i64 0, .int .u64 0, .slice none 0 0] rfl rfl HRa.out tx_in16 tx_size14 hone ?_))
    refine bodyPost_ret (results_tx14 Try.results9 _ _ (w.heap.size + 1) 27 _ (0, 0) rfl HGF.out tx_in16) rfl ?_
    exact HDN.out _ HXF.out
end Go.Proofs.Ytjifionpblpfoaa

/-
  What the laws of layer 16 that make and open envelopes stand on, over any code; and that the law's own awake holds. Conditions: those of EnvMk.
-/
namespace Go.Proofs.Ytjifionpblpfoaa
open Go.RowKit
open Pol (co Sm)

structure EnvMk : Prop where
  check : ∀ (s : Int) (n f x k c : Nat) (b : List Nat) (A : Option Addr) (w : World), b.length = k → k ≤ c → Rd w A b → k ≤ 65536 → n < 18446744073709551616 → f < 18446744073709551616 → x < 18446744073709551616 →
    Calls Try.prog 13 #[evv s n f x A k c] w (Tells (.int .i64 ((Ev.chk ⟨s, n, f, x, b⟩ : Nat) : Int)) w)
  make : ∀ (s : Int) (nn f x : Nat) (k t : Int) (a n c : Nat) (m p : List Nat) (A B : Option Addr) (np cp : Nat) (w : World), m.length = n → n ≤ c → Rd w A m → n ≤ 65536 → a < 18446744073709551616 → p.length = np → np ≤ cp → Rd w B p → np ≤ 65536 →
    nn < 18446744073709551616 → f < 18446744073709551616 → x < 18446744073709551616 →
    Calls Try.prog 6 #[.int .i64 s, .int .u64 (nn : Int), .int .u64 (f : Int), .int .u64 (x : Int), .agg #[.int .i64 k, .int .i64 t, .int .u64 (a : Int), .slice A n c], .slice B np cp] w (EvR (make16 s nn f x ⟨k, t, a, m⟩ p) w)
  opens : ∀ (s : Int) (nn f x kb c : Nat) (b p : List Nat) (A B : Option Addr) (np cp : Nat) (w : World), b.length = kb → kb ≤ c → Rd w A b → kb ≤ 65536 → p.length = np → np ≤ cp → Rd w B p → np ≤ 65536 →
    nn < 18446744073709551616 → f < 18446744073709551616 → x < 18446744073709551616 →
    Calls Try.prog 8 #[evv s nn f x A kb c, .slice B np cp] w (OdR (open16 ⟨s, nn, f, x, b⟩ p) w)

theorem tx_in16x {a b c d : Value} : (Try.prog.info? 32).map (·.size) = some (#[a, b, c, d] : Array Value).size := by kernel_rfl
theorem ex16_right : Od.right ⟨2, 0, 0, []⟩ := by decide
theorem ex16_make : make16 1 2 3 4 ⟨2, 0, 0, []⟩ [9, 9, 9, 9, 9, 9] = (0, ⟨1, 2, 3, 4, [13, 11, 9, 9, 9, 9]⟩) := by
  have e : Od.bytes ⟨2, 0, 0, []⟩ = [2, 0, 0, 0] := by
    unfold Od.bytes Od.enc vt
    rw [if_pos ex16_right]
    dsimp only
    rw [show vn (Int.toNat 2) = [2] from vn_lt (by decide), show vn (Int.toNat 0) = [0] from vn_lt (by decide), show vn 0 = [0] from vn_lt (by decide), show vn ([] : List Nat).length = [0] from vn_lt (by decide)]
    rfl
  unfold make16
  rw [if_neg (by simpa using ex16_right), e, if_neg (by simpa using (show FillOk [2, 0, 0, 0].length ((([9, 9, 9, 9, 9, 9] : List Nat).length : Nat) : Int) by decide)),
    show lx (fil [2, 0, 0, 0] ([9, 9, 9, 9, 9, 9] : List Nat).length) [9, 9, 9, 9, 9, 9] = [13, 11, 9, 9, 9, 9] by decide +kernel, if_neg (by decide)]
theorem ex16_sm : Sm [9, 9, 9, 9, 9, 9] := Sm.cons (by decide) (Sm.cons (by decide) (Sm.cons (by decide) (Sm.cons (by decide) (Sm.cons (by decide) (Sm.cons (by decide) Sm.nil)))))
theorem ex16_open : open16 ⟨1, 2, 3, 4, [13, 11, 9, 9, 9, 9]⟩ [9, 9, 9, 9, 9, 9] = (0, ⟨2, 0, 0, []⟩) := by
  have h := open_make (s := 1) (n := 2) (f := 3) (x := 4) (o := ⟨2, 0, 0, []⟩) (p := [9, 9, 9, 9, 9, 9]) (by decide) (by rw [ex16_make])
  rwa [ex16_make] at h
theorem ex16_check : Ev.chk ⟨0, 0, 0, 0, []⟩ = 5 := by decide
set_option maxHeartbeats 1600000 in
theorem awake16 (C : EnvMk) (w : World) : Calls Try.prog 5 #[] w (Holds w) := by
  have HM := Lib.hid (C.make 1 2 3 4 2 0 0 0 0 [] [9, 9, 9, 9, 9, 9] none (some ⟨w.heap.size, 0, none⟩) 6 6 (w.alloc (.cells #[.int .u8 9, .int .u8 9, .int .u8 9, .int .u8 9, .int .u8 9, .int .u8 9] 5)) rfl (Nat.le_refl _) (Rd.nil _ _) (by decide) (by decide) rfl (Nat.le_refl _) (rd_lit w [9, 9, 9, 9, 9, 9] ex16_sm) (by decide) (by decide) (by decide) (by decide))
  have HC := Lib.hid (fun u => C.check 0 0 0 0 0 0 [] none u rfl (Nat.le_refl _) (Rd.nil _ _) (by decide) (by decide) (by decide) (by decide))
  rw [ex16_check] at HC
  have HO := Lib.hid C.opens
  clear C
  go_enter Try.func5, Try.ntmps5
  go_wp2_with fail
  refine HM.out.mono ?_
  rintro e w1 ⟨hx1, B1, n1, c1, rfl, hn1, hc1, hr1⟩
  rw [ex16_make] at hn1 hr1 ⊢
  dsimp only at hn1 hr1 ⊢
  obtain rfl : n1 = 6 := hn1.symm
  have HX1 := Lib.hid (((Ext.refl w).alloc _).trans hx1)
  have HR1 := Lib.hid hr1
  have hxa := (Ext.refl w1).alloc (.cells #[.int .i64 1, .int .u64 2, .int .u64 3, .int .u64 4, .slice B1 6 c1] 25)
  have hrow := heap_alloc_new w1 (.cells #[.int .i64 1, .int .u64 2, .int .u64 3, .int .u64 4, .slice B1 6 c1] 25)
  have HZ := Lib.hid (heap_alloc_new w1 (.cells #[.int .i64 0, .int .u64 0, .int .u64 0, .int .u64 0, .slice none 0 0] 25))
  have HSV := Lib.hid (show (#[.int .i64 0, .int .u64 0, .int .u64 0, .int .u64 0, .slice none 0 0] : Array Value).size = (#[.int .i64 1, .int .u64 2, .int .u64 3, .int .u64 4, .slice B1 6 c1] : Array Value).size from rfl)
  have hone : (#[.int .i64 1, .int .u64 2, .int .u64 3, .int .u64 4, .slice B1 6 c1] : Array Value).all (·.oneCell') = true := by simp [Value.oneCell']
  have HXa := Lib.hid (HX1.out.trans hxa)
  have HRW := Lib.hid hrow
  have HRa := Lib.hid (HR1.out.ext hxa)
  have HC1 := Lib.hid hc1
  have HSM6 := Lib.hid (show Sm [13, 11, 9, 9, 9, 9] from HR1.out.1)
  clear hx1 hr1 hxa hrow hc1
  go_wp2_with (first | (with_reducible refine wpList_store_all rfl 25 (.tmp 1) (.tmp 9) rfl w1.heap.size _ #[.int .i64 1, .int .u64 2, .int .u64 3, .int .u64 4, .slice B1 6 c1] rfl rfl HZ.out ev_in16 HSV.out hone ?_; rw [World.setRow_alloc_new]; generalize w1.alloc (.cells #[.int .i64 1, .int .u64 2, .int .u64 3, .int .u64 4, .slice B1 6 c1] 25) = wa at *) | (with_reducible refine wpList_load_row rfl 25 (.tmp 1) rfl w1.heap.size rfl 25 #[.int .i64 1, .int .u64 2, .int .u64 3, .int .u64 4, .slice B1 6 c1] (0, 0) _ HRW.out Try.underlying25 rfl ev_in16 ?_))
  have hxb := (Ext.refl wa).alloc (.cells #[.int .u8 9, .int .u8 9, .int .u8 9, .int .u8 9, .int .u8 9, .int .u8 9] 5)
  refine (HO.out 1 2 3 4 6 c1 [13, 11, 9, 9, 9, 9] [9, 9, 9, 9, 9, 9] B1 (some ⟨wa.heap.size, 0, none⟩) 6 6 (wa.alloc (.cells #[.int .u8 9, .int .u8 9, .int .u8 9, .int .u8 9, .int .u8 9, .int .u8 9] 5)) rfl HC1.out (HRa.out.ext hxb) (by decide) rfl (Nat.le_refl _) (rd_lit wa [9, 9, 9, 9, 9, 9] ex16_sm) (by decide) (by decide) (by decide) (by decide)).mono ?_
  rintro e w2 ⟨hx2, B2, n2, c2, rfl, hn2, hc2, hr2⟩
  rw [ex16_open] at hn2 hr2 ⊢
  dsimp only at hn2 hr2 ⊢
  obtain rfl : n2 = 0 := hn2.symm
  have HX2 := Lib.hid (HXa.out.trans (hxb.trans hx2))
  have HW2 := Lib.hid ((hxb.trans hx2).row HRW.out)
  have HZ2 := Lib.hid (heap_alloc_new w2 (.cells #[.int .i64 0, .int .i64 0, .int .u64 0, .slice none 0 0] 32))
  have HSV2 := Lib.hid (show (#[.int .i64 0, .int .i64 0, .int .u64 0, .slice none 0 0] : Array Value).size = (#[.int .i64 2, .int .i64 0, .int .u64 0, .slice B2 0 c2] : Array Value).size from rfl)
  have hone2 : (#[.int .i64 2, .int .i64 0, .int .u64 0, .slice B2 0 c2] : Array Value).all (·.oneCell') = true := by simp [Value.oneCell']
  have hxc := (Ext.refl w2).alloc (.cells #[.int .i64 2, .int .i64 0, .int .u64 0, .slice B2 0 c2] 32)
  have HX3 := Lib.hid (HX2.out.trans hxc)
  have q1 := cell_of_row _ w1.heap.size 4 _ _ _ (hxc.row HW2.out)
  have q2 := cell_of_row _ w2.heap.size 0 _ _ _ (heap_alloc_new w2 (.cells #[.int .i64 2, .int .i64 0, .int .u64 0, .slice B2 0 c2] 32))
  have HQ := Lib.hid (And.intro q1 q2)
  clear hx2 hr2 hc2 hxb hxc q1 q2
  go_wp2_with (first | (with_reducible refine wpList_store_all rfl 32 (.tmp 3) (.tmp 15) rfl w2.heap.size _ #[.int .i64 2, .int .i64 0, .int .u64 0, .slice B2 0 c2] rfl rfl HZ2.out tx_in16x HSV2.out hone2 ?_; rw [World.setRow_alloc_new]; generalize w2.alloc (.cells #[.int .i64 2, .int .i64 0, .int .u64 0, .slice B2 0 c2] 32) = w3 at *; obtain ⟨q1, q2⟩ := HQ.out))
  refine (HC.out _).mono ?_
  rintro e w4 ⟨rfl, hx4⟩
  have HX4 := Lib.hid (HX3.out.trans hx4)
  clear hx4
  go_wp2
  go_ret
  exact ⟨rfl, HX4.out⟩
end Go.Proofs.Ytjifionpblpfoaa

/-
  Two orders: are they one? Two slices of bytes: are they alike? Conditions: no more than 2^20 bytes.
-/
namespace Go.Proofs.Ytjifionpblpfoaa
open Go.RowKit
open Pol (co Sm)

theorem same14 (l m : List Nat) (A B : Option Addr) (n n' ca cb : Nat) (w : World) (hn : l.length = n) (hn' : m.length = n') (ha : Rd w A l) (hb : Rd w B m) (hl : n ≤ 1048576) :
    Calls Try.prog 25 #[.slice A n ca, .slice B n' cb] w (Tells (.bool (decide (l = m))) w) := by
  subst hn hn'
  by_cases h : l = m
  · rw [decide_eq_true h]
    subst h
    exact same_tells l A B ca cb w ha hb hl
  · rw [decide_eq_false h]
    exact (same_no l m A B ca cb w ha hb hl h).mono fun _ _ h => h.tells
theorem Od.eq_iff {o p : Od} : o = p ↔ o.k = p.k ∧ o.t = p.t ∧ o.a = p.a ∧ o.m = p.m := by
  constructor
  · rintro rfl; exact ⟨rfl, rfl, rfl, rfl⟩
  · obtain ⟨k, t, a, m⟩ := o
    obtain ⟨k', t', a', m'⟩ := p
    rintro ⟨h1, h2, h3, h4⟩
    dsimp only at h1 h2 h3 h4
    subst h1 h2 h3 h4
    rfl
instance : DecidableEq Od := fun _ _ => decidable_of_iff _ Od.eq_iff.symm
end Go.Proofs.Ytjifionpblpfoaa

/-
  The law's own same of layer 16: are two orders alike? Conditions: no more than 2^20 bytes.
-/
namespace Go.Proofs.Ytjifionpblpfoaa
open Go.RowKit
open Pol (co Sm)

set_option maxHeartbeats 1600000 in
theorem law16_same (k t k' t' : Int) (a n c a' n' c' : Nat) (m m' : List Nat) (A A' : Option Addr) (w : World) (hn : m.length = n) (hn' : m'.length = n') (hr : Rd w A m) (hr' : Rd w A' m') (hl : n ≤ 1048576) :
    Calls Try.prog 11 #[.agg #[.int .i64 k, .int .i64 t, .int .u64 (a : Int), .slice A n c], .agg #[.int .i64 k', .int .i64 t', .int .u64 (a' : Int), .slice A' n' c']] w (Tells (.bool (decide ((⟨k, t, a, m⟩ : Od) = ⟨k', t', a', m'⟩))) w) := by
  by_cases h1 : k = k'
  · subst h1
    by_cases h2 : t = t'
    · subst h2
      by_cases h3 : a = a'
      · subst h3
        have HX := Lib.hid (((Ext.refl w).alloc (.cells #[.int .i64 k, .int .i64 t, .int .u64 (a : Int), .slice A n c] 32)).alloc (.cells #[.int .i64 k, .int .i64 t, .int .u64 (a : Int), .slice A' n' c'] 27))
        have HS := Lib.hid (same14 m m' A A' n n' c c' _ hn hn' (hr.ext HX.out) (hr'.ext HX.out) hl)
        rw [show decide ((⟨k, t, a, m⟩ : Od) = ⟨k, t, a, m'⟩) = decide (m = m') from decide_eq_decide.2 ⟨fun h => by injection h, fun h => by rw [h]⟩]
        clear hr hr' hl
        generalize decide (m = m') = q at *
        go_enter Try.func11, Try.ntmps11
        go_wp2_with fail
        refine HS.out.mono ?_
        rintro e w1 ⟨rfl, hx⟩
        have HX1 := Lib.hid (HX.out.trans hx)
        clear hx
        go_wp2
        go_ret
        exact ⟨rfl, HX1.out⟩
      · rw [decide_eq_false (show ¬ ((⟨k, t, a, m⟩ : Od) = ⟨k, t, a', m'⟩) from fun h => h3 (by injection h))]
        have t3 : ((a : Int) == (a' : Int)) = false := by simp; omega
        clear hr hr' hl
        go_enter Try.func11, Try.ntmps11
        go_wp2
        go_ret
        exact ⟨rfl, ((Ext.refl w).alloc _).alloc _⟩
    · rw [decide_eq_false (show ¬ ((⟨k, t, a, m⟩ : Od) = ⟨k, t', a', m'⟩) from fun h => h2 (by injection h))]
      have t3 : (t == t') = false := by simp; omega
      clear hr hr' hl
      go_enter Try.func11, Try.ntmps11
      go_wp2
      go_ret
      exact ⟨rfl, ((Ext.refl w).alloc _).alloc _⟩
  · rw [decide_eq_false (show ¬ ((⟨k, t, a, m⟩ : Od) = ⟨k', t', a', m'⟩) from fun h => h1 (by injection h))]
    have t3 : (k == k') = false := by simp; omega
    clear hr hr' hl
    go_enter Try.func11, Try.ntmps11
    go_wp2
    go_ret
    exact ⟨rfl, ((Ext.refl w).alloc _).alloc _⟩
end Go.Proofs.Ytjifionpblpfoaa

/-
  A load of a whole array, under a guard. Conditions: none; no function is named here.
-/
namespace Go.Proofs.Ytjifionpblpfoaa
open Go.RowKit

theorem wpList_load_row_g {P : Program} {ops : Array Oper} {rest : List Oper} {o : Oper} {a : Act} {w : World} {Q : Exit → Act → World → Prop} (hgd : Region.wanted o (yielded ops a.tmps) = true) (ty : TypeId) (x : Operand) (ho : o.op = .load ty x)
    (g : Nat) (hx : a.eval x = .pointer (some ⟨g, 0, none⟩)) (t : TypeId) (cs : Array Value) (fr : Nat × Nat) (d : TypeDesc) (hg : w.heap[g]? = some (.cells cs t fr))
    (hu : P.underlying ty = some d) (hd : (match d with | .struct _ | .array _ _ => true | _ => false) = true) (hi : (P.info? ty).map (·.size) = some cs.size)
    (h : wpList P ops Q rest (a.put o.dst (.agg cs)) w) : wpList P ops Q (o :: rest) a w := by
  unfold wpList
  rw [if_pos hgd]
  exact .inl (wp_load_row ty x ho g hx t cs fr d hg hu hd hi h)
theorem wpIf_load_row {P : Program} {ops : Array Oper} {o : Oper} {a : Act} {w : World} {K : Act → World → Prop} {Q : Exit → Act → World → Prop} {E : Prop} (hgd : Region.wanted o (yielded ops a.tmps) = true) (ty : TypeId) (x : Operand) (ho : o.op = .load ty x)
    (g : Nat) (hx : a.eval x = .pointer (some ⟨g, 0, none⟩)) (t : TypeId) (cs : Array Value) (fr : Nat × Nat) (d : TypeDesc) (hg : w.heap[g]? = some (.cells cs t fr))
    (hu : P.underlying ty = some d) (hd : (match d with | .struct _ | .array _ _ => true | _ => false) = true) (hi : (P.info? ty).map (·.size) = some cs.size)
    (h : K (a.put o.dst (.agg cs)) w) : if Region.wanted o (yielded ops a.tmps) = true then Oper.wp P o a w K Q else E := by
  rw [if_pos hgd]
  exact wp_load_row ty x ho g hx t cs fr d hg hu hd hi h
end Go.Proofs.Ytjifionpblpfoaa

/-
  Appends of bytes to slices without room. Conditions: lengths up to 2^40.
-/
namespace Go.Proofs.Ytjifionpblpfoaa
open Go.RowKit
open Pol (co Sm)

set_option maxRecDepth 100000 in
/-- An append to a slice without room. -/
theorem run_append_full9 (w : World) (ty : TypeId) (b o n c : Nat) (l m : List Nat) (hn : l.length = n) (hr : Rd w (some ⟨b, o, none⟩) l) (a : Addr) (hm : Rd w (some a) m) (h0 : 0 < m.length) (hlen : l.length + m.length ≤ 1099511627776) :
    ∃ v' w', (Builtin.append_ #[23, 23] ty #[.slice (some ⟨b, o, none⟩) n n, .slice (some a) m.length c]).run Try.prog w = .ok v' w' ∧ Mine w' w.heap.size v' (l ++ m) ∧ Ext w w' := by
  subst hn
  obtain ⟨i0, hi, hz0, hz1, hz2⟩ := info_parts u8_info
  have hcells : ∀ (L : List Nat) (A : Addr), Rd w (some A) L → ∀ j u, (bv L)[j]? = some u → w.cell? (A.add j) = some u := fun L A h j u hu => by
    have hj : j < L.length := by
      have := (List.getElem?_eq_some_iff.1 hu).1
      rwa [bv_len] at this
    obtain ⟨b, o, e, hc⟩ := h.2 j hj
    injection e with e
    subst e
    rw [addr_add, hc, ← bv_at L j hj, hu]
  obtain ⟨v', w', h1, h2, h3⟩ := run_append_arg_grows (P := Try.prog) w 23 ty 5 i0 (.int .u8 0) 1 1 Try.underlying23 hi hz0 hz1 hz2 rfl (by omega) ⟨b, o, none⟩ l.length l.length (bv l) (by rw [bv_len, Nat.mul_one]) (hcells l _ hr)
    a m.length c (bv m) (by rw [bv_len, Nat.mul_one]) (hcells m _ hm) (by omega) (by unfold maxLen; omega) (by omega)
  exact ⟨v', w', h1, by unfold Mine; rw [List.length_append, bv_append]; exact h2, (Ext.refl w).more h3 (fun k e => by cases e)⟩
theorem wpList_append_full9 {ops : Array Oper} {rest : List Oper} {op : Oper} {a : Act} {w : World} {Q : Exit → Act → World → Prop} (hgd : op.guard = none) (s x : Operand)
    (ho : op.op = .call { callee := .builtin .append, args := #[s, x], argTypes := #[23, 23] })
    (b o n : Nat) (l m : List Nat) (hs : a.eval s = .slice (some ⟨b, o, none⟩) n n) (hn : l.length = n) (hr : Rd w (some ⟨b, o, none⟩) l) (A : Addr) (c k : Nat) (hx : a.eval x = .slice (some A) k c) (hk : m.length = k) (hm : Rd w (some A) m) (h0 : 0 < m.length)
    (hlen : l.length + m.length ≤ 1099511627776)
    (h : ∀ v' w', Mine w' w.heap.size v' (l ++ m) → Ext w w' → wpList Try.prog ops Q rest (a.put op.dst v') w') : wpList Try.prog ops Q (op :: rest) a w := by
  subst hk
  refine wpList_plain hgd fun K hK => ?_
  obtain ⟨v', w', hrun, h2, h3⟩ := run_append_full9 w op.type b o n c l m hn hr A hm h0 hlen
  unfold Oper.wp execOp
  simp only [ho, resolve, invoke, builtin, Sem.run_bind, Sem.run_pure, Result.andThen_ok, List.map_toArray, List.map_cons, List.map_nil, hs, hx, hrun]
  exact hK _ _ (h v' w' h2 h3)
set_option maxRecDepth 100000 in
/-- An append to a literal of no bytes: what was there stays. -/
theorem run_append_new (w : World) (base : Nat) (ty : TypeId) (g : Nat) (m : List Nat) (hown : Mine w base (.slice (some ⟨g, 0, none⟩) 0 0) []) (A : Option Addr) (c : Nat) (hr : Rd w A m) (hlen : m.length ≤ 1099511627776) (hbase : base ≤ w.heap.size) :
    ∃ v' w', (Builtin.append_ #[23, 23] ty #[.slice (some ⟨g, 0, none⟩) 0 0, .slice A m.length c]).run Try.prog w = .ok v' w' ∧ Mine w' base v' m ∧ Ext w w' ∧ ∀ q, v'.ownBlock = some q → q = g ∨ w.heap.size ≤ q := by
  rcases Nat.eq_zero_or_pos m.length with h0 | h0
  · have : m = [] := List.eq_nil_of_length_eq_zero h0
    subst this
    obtain ⟨i0, hi, hz0, hz1, hz2⟩ := info_parts u8_info
    refine ⟨_, w, ?_, hown, Ext.refl _, fun q hq => .inl (by injection hq with hq; exact hq.symm)⟩
    cases A <;> simp [Builtin.append_, run_underlying Try.underlying23, sizeOf, typeInfo, hi, Builtin.lenOf, Builtin.firstCells, storeCells, loadCells, loadCellsFrom]
  · obtain ⟨b, o, rfl, _⟩ := hr.addr h0
    obtain ⟨v', w', h1, h2, h3⟩ := run_append_full9 w ty g 0 0 c [] m rfl (Rd.nil _ _) ⟨b, o, none⟩ hr h0 (by simpa using hlen)
    exact ⟨v', w', h1, (by simpa using h2.down hbase), h3, fun q hq => .inr (h2.block q hq).1⟩
theorem wpList_append_new {ops : Array Oper} {rest : List Oper} {op : Oper} {a : Act} {w : World} {Q : Exit → Act → World → Prop} (hgd : op.guard = none) (s x : Operand)
    (ho : op.op = .call { callee := .builtin .append, args := #[s, x], argTypes := #[23, 23] })
    (base g : Nat) (m : List Nat) (hs : a.eval s = .slice (some ⟨g, 0, none⟩) 0 0) (hown : Mine w base (.slice (some ⟨g, 0, none⟩) 0 0) []) (A : Option Addr) (n c : Nat) (hx : a.eval x = .slice A n c) (hn : m.length = n) (hr : Rd w A m)
    (hlen : m.length ≤ 1099511627776) (hbase : base ≤ w.heap.size)
    (h : ∀ v' w', Mine w' base v' m → Ext w w' → (∀ q, v'.ownBlock = some q → q = g ∨ w.heap.size ≤ q) → wpList Try.prog ops Q rest (a.put op.dst v') w') : wpList Try.prog ops Q (op :: rest) a w := by
  subst hn
  refine wpList_plain hgd fun K hK => ?_
  obtain ⟨v', w', hrun, h2, h3, h4⟩ := run_append_new w base op.type g m hown A c hr hlen hbase
  unfold Oper.wp execOp
  simp only [ho, resolve, invoke, builtin, Sem.run_bind, Sem.run_pure, Result.andThen_ok, List.map_toArray, List.map_cons, List.map_nil, hs, hx, hrun]
  exact hK _ _ (h v' w' h2 h3 h4)
end Go.Proofs.Ytjifionpblpfoaa

/-
  A plan's step where three operations may come up next. Conditions: none; no function is named here.
-/
namespace Go.Proofs.Ytjifionpblpfoaa
open Go
section
variable {P : Program} {Q : Exit → Act → World → Prop} {C : World → Prop}
theorem plan_three {F : Nat → Bool} {l : List Oper} {i j k : Nat} {o u v : Oper} {p q r : Plan} {a : Act} {w : World} (ho : l[i]? = some o) (hu : l[j]? = some u) (hv : l[k]? = some v)
    (h1 : ∀ K : Act → World → Prop, (∀ a' w', (F i = true → C w') ∧ wpPlan P l C F Q p a' w' → K a' w') → wpList P l.toArray (Exit.then K Q) [o] a w)
    (h2 : ∀ K : Act → World → Prop, (∀ a' w', (F j = true → C w') ∧ wpPlan P l C F Q q a' w' → K a' w') → wpList P l.toArray (Exit.then K Q) [u] a w)
    (h3 : ∀ K : Act → World → Prop, (∀ a' w', (F k = true → C w') ∧ wpPlan P l C F Q r a' w' → K a' w') → wpList P l.toArray (Exit.then K Q) [v] a w) : wpPlan P l C F Q (.three i p j q k r) a w := ⟨stepP_of ho h1, stepP_of hu h2, stepP_of hv h3⟩
end
end Go.Proofs.Ytjifionpblpfoaa

/-
  A whole envelope loaded. Conditions: none.
-/
namespace Go.Proofs.Ytjifionpblpfoaa
open Go.RowKit
open Pol (co Sm)

theorem load_ev16 {w : World} {g : Nat} {a b c d e : Value} {t : TypeId} {fr : Nat × Nat} (hg : w.heap[g]? = some (.cells #[a, b, c, d, e] t fr)) : (Instr.loadAt 25 (.pointer (some ⟨g, 0, none⟩))).run Try.prog w = .ok (.agg #[a, b, c, d, e]) w := by
  simp only [Instr.loadAt, Instr.sureAddr, Sem.run_bind, Sem.run_pure, Result.andThen]
  exact run_loadVar_row w g t _ _ fr _ hg Try.underlying25 rfl ev_in16
end Go.Proofs.Ytjifionpblpfoaa
