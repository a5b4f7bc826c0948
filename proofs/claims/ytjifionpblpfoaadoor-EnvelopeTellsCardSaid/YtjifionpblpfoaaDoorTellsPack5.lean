/-
  Part 5 of the texts that the seat's proofs stand on; each part of it begins with its own sentence and conditions. Conditions: those that each theorem names.
-/
import Derived.Test.YtjifionpblpfoaaDoorTellsPack4
import Derived.Laws.CopyOwn
import Derived.Test.YtjifionpblpfoaaDoorProg
import Derived.StillTail
import Derived.Deep.Quiet
import Derived.Deep.QuietTactic
import Derived.BigQuiet
import Derived.KernelRfl
import Derived.StillTailTactics
import Derived.Lib.Hide

/-
  What the laws of layer 16 that encode, decode and name envelopes stand on, over any code. Conditions: those of EnvCd.
-/
namespace Go.Proofs.YtjifionpblpfoaaDoor
open Go.RowKit
open Pol (co Sm)

/-- An envelope's bytes, in bytes of the call's own, and the error's number. -/
def EncO (o : Ev) (w : World) (e : Ending) (w' : World) : Prop := ∃ v, e = .returned (.tuple #[v, .int .i64 ((o.chk : Nat) : Int)]) ∧ Mine w' w.heap.size v o.bytes ∧ Ext w w'
/-- The envelope of bytes, whose body is in bytes of the call's own, and the error's number. -/
def DecO (b : List Nat) (w : World) (e : Ending) (w' : World) : Prop :=
  ∃ v, e = .returned (.tuple #[.agg #[.int .i64 (dec16 b).2.s, .int .u64 (((dec16 b).2.n : Nat) : Int), .int .u64 (((dec16 b).2.f : Nat) : Int), .int .u64 (((dec16 b).2.x : Nat) : Int), v], .int .i64 (((dec16 b).1 : Nat) : Int)]) ∧ Mine w' w.heap.size v (dec16 b).2.b ∧ Ext w w'
structure EnvCd : Prop where
  enc : ∀ (s : Int) (n f x k c : Nat) (b : List Nat) (A : Option Addr) (w : World), b.length = k → k ≤ c → Rd w A b → k ≤ 65536 → n < 18446744073709551616 → f < 18446744073709551616 → x < 18446744073709551616 →
    Calls Tryd.prog 9 #[evv s n f x A k c] w (EncO ⟨s, n, f, x, b⟩ w)
  dec : ∀ (b : List Nat) (A : Option Addr) (n c : Nat) (w : World), b.length = n → n ≤ c → Rd w A b → n ≤ 65536 → Calls Tryd.prog 10 #[.slice A n c] w (DecO b w)
  id : ∀ (s : Int) (n f x k c : Nat) (b : List Nat) (A : Option Addr) (w : World), GL w → b.length = k → k ≤ c → Rd w A b → k ≤ 65536 → n < 18446744073709551616 → f < 18446744073709551616 → x < 18446744073709551616 →
    Calls Tryd.prog 16 #[evv s n f x A k c] w (DgS (idv sha ⟨s, n, f, x, b⟩) w)
theorem Ev.bytes_sm {o : Ev} (h : Sm o.b) : Sm o.bytes := by
  unfold Ev.bytes
  split
  · exact Ev.enc_sm h
  · exact Sm.nil
theorem Ev.bytes_ok {o : Ev} (h : o.ok) : o.bytes = o.enc := if_pos h
theorem Ev.bytes_no {o : Ev} (h : ¬ o.ok) : o.bytes = [] := if_neg h
theorem Ev.bytes_len {o : Ev} (h : o.Fit) : o.bytes.length ≤ 64 := by
  by_cases ho : o.ok
  · rw [Ev.bytes_ok ho]
    exact (Ev.enc_len ho h).2
  · rw [Ev.bytes_no ho]
    exact Nat.zero_le _
theorem dec16_fit {b : List Nat} (hs : Sm b) : (dec16 b).2.Fit ∧ (dec16 b).2.b.length ≤ 32 := by
  by_cases h : (dec16 b).1 = 0
  · obtain ⟨h1, _, h3⟩ := dec16_ok hs h
    exact ⟨h3, h1.2.2.2.2⟩
  · have hz : (dec16 b).2 = Ev.zero := by
      unfold dec16 at h ⊢
      cases h1 : rdE b with
      | er n => rfl
      | ok e rest =>
        rw [h1] at h
        dsimp only at h ⊢
        split
        · rfl
        · split
          · rfl
          · rename_i h2 h3
            rw [if_neg h2, if_neg h3] at h
            exact absurd rfl h
    rw [hz]
    exact ⟨⟨by decide, by decide, by decide, Sm.nil⟩, Nat.zero_le _⟩
theorem idv_32 (e : Ev) : (idv sha e).length = 32 := by
  unfold idv
  split
  · exact sha_len _
  · exact List.length_replicate
theorem idv_sm (e : Ev) : Sm (idv sha e) := by
  unfold idv
  split
  · exact sha_sm _
  · intro i
    unfold co
    rw [List.getElem?_replicate]
    split <;> decide
end Go.Proofs.YtjifionpblpfoaaDoor

/-
  What the document's own Decode of layer 16 does. Conditions: no more than 2^16 bytes.
-/
namespace Go.Proofs.YtjifionpblpfoaaDoor
open Go.RowKit
open Pol (co Sm)

/-- The reader's steps, and what they come to. -/
theorem dec16_steps (b : List Nat) : ∃ (r1 r2 r3 r4 : Rs Nat) (r5 : Rs (List Nat)), r1 = (Rs.ok () b).bind (fun _ rest => rdN 5 rest) ∧ r2 = r1.unit.bind (fun _ rest => rdN 18446744073709551615 rest) ∧ r3 = r2.unit.bind (fun _ rest => rdN 1152921504606846976 rest) ∧ r4 = r3.unit.bind (fun _ rest => rdN 18446744073709551615 rest) ∧ r5 = r4.unit.bind (fun _ rest => rdT 32 rest) ∧
    dec16 b = (if endc r5.unit ≠ 0 then (endc r5.unit, Ev.zero) else if r5.val [] = [] then (5, Ev.zero) else (0, ⟨((r1.val 0 : Nat) : Int), r2.val 0, r3.val 0, r4.val 0, r5.val []⟩)) := by
  refine ⟨_, _, _, _, _, rfl, rfl, rfl, rfl, rfl, ?_⟩
  unfold dec16 rdE
  show _ = _
  cases h1 : rdN 5 b with
  | er n =>
    have hn := (rdN_er h1).1
    simp only [Rs.bind, h1, Rs.unit, Rs.val, endc]
    rw [if_pos (by omega)]
  | ok s b1 =>
    cases h2 : rdN 18446744073709551615 b1 with
    | er n =>
      have hn := (rdN_er h2).1
      simp only [Rs.bind, h1, h2, Rs.unit, Rs.val, endc]
      rw [if_pos (by omega)]
    | ok t b2 =>
      cases h3 : rdN 1152921504606846976 b2 with
      | er n =>
        have hn := (rdN_er h3).1
        simp only [Rs.bind, h1, h2, h3, Rs.unit, Rs.val, endc]
        rw [if_pos (by omega)]
      | ok a b3 =>
        cases h4 : rdN 18446744073709551615 b3 with
        | er n =>
          have hn := (rdN_er h4).1
          simp only [Rs.bind, h1, h2, h3, h4, Rs.unit, Rs.val, endc]
          rw [if_pos (by omega)]
        | ok x b4 =>
          cases h5 : rdT 32 b4 with
          | er n =>
            have hn := (rdT_er h5).1
            simp only [Rs.bind, h1, h2, h3, h4, h5, Rs.unit, Rs.val, endc]
            rw [if_pos (by omega)]
          | ok m b5 =>
            simp only [Rs.bind, h1, h2, h3, h4, h5, Rs.unit, Rs.val, endc]
            by_cases hb : b5 = []
            · rw [if_pos hb, if_neg (by simpa using hb), if_neg (show ¬ (0 ≠ 0) from fun h => h rfl)]
            · rw [if_neg hb, if_pos hb, if_pos (by simp)]
set_option maxHeartbeats 6400000 in
set_option maxRecDepth 100000 in
theorem ref16_decode (b : List Nat) (A : Option Addr) (n c : Nat) (w : World) (hn : b.length = n) (hr : Rd w A b) (hc : n ≤ c) (hl : n ≤ 65536) :
    Calls Tryd.prog 11 #[.slice A n c] w (EvR (dec16 b) w) := by
  unfold EvR
  obtain ⟨r1, r2, r3, r4, r5, e1, e2, e3, e4, e5, hdec⟩ := dec16_steps b
  have HDEC := Lib.hid hdec
  have HSB := Lib.hid hr.1
  have HFAR := Lib.hid (show ∀ q o, A = some ⟨q, o, none⟩ → 0 < b.length → q ≠ w.heap.size + 1 from fun q o e h0 => by have := hr.block' q o e h0; omega)
  have HRD := Lib.hid (fun u (h : Ext w u) => hr.ext h)
  have HCB := Lib.hid (show b.length ≤ c by omega)
  have HLB := Lib.hid (show b.length ≤ 65536 by omega)
  have hx0 : Ext w ((w.alloc (.cells #[.int .i64 0, .int .u64 0, .int .u64 0, .int .u64 0, .slice none 0 0] 25)).alloc (.cells #[.slice A n c, .int .i64 0, .int .i64 0] 68)) := ((Ext.refl w).alloc _).alloc _
  have hR0 : ((w.alloc (.cells #[.int .i64 0, .int .u64 0, .int .u64 0, .int .u64 0, .slice none 0 0] 25)).alloc (.cells #[.slice A n c, .int .i64 0, .int .i64 0] 68)).heap[w.heap.size]? = some (.cells #[.int .i64 0, .int .u64 0, .int .u64 0, .int .u64 0, .slice none 0 0] 25) := by
    rw [heap_alloc_old _ _ (by simp)]
    exact heap_alloc_new w _
  have hg0 : ((w.alloc (.cells #[.int .i64 0, .int .u64 0, .int .u64 0, .int .u64 0, .slice none 0 0] 25)).alloc (.cells #[.slice A n c, .int .i64 0, .int .i64 0] 68)).heap[w.heap.size + 1]? = some (.cells #[.slice A n c, .int .i64 0, .int .i64 0] 68) := by
    have h := heap_alloc_new (w.alloc (.cells #[.int .i64 0, .int .u64 0, .int .u64 0, .int .u64 0, .slice none 0 0] 25)) (.cells #[.slice A n c, .int .i64 0, .int .i64 0] 68)
    rwa [show (w.alloc (.cells #[.int .i64 0, .int .u64 0, .int .u64 0, .int .u64 0, .slice none 0 0] 25)).heap.size = w.heap.size + 1 from by simp] at h
  have HX0 := Lib.hid hx0
  have HR0 := Lib.hid hR0
  have HS0 := Lib.hid (show Stn b (w.heap.size + 1) A c _ (.ok () b) from ⟨⟨[], rfl⟩, by rw [cell_of_row _ _ 0 _ _ _ hg0, hn]; rfl, by rw [cell_of_row _ _ 1 _ _ _ hg0, Nat.sub_self]; rfl, by rw [cell_of_row _ _ 2 _ _ _ hg0]; rfl, frozen_of_row _ _ 1 _ _ hg0, frozen_of_row _ _ 2 _ _ hg0⟩)
  clear hr hx0 hR0 hg0 hdec
  obtain ⟨g, hgd⟩ : ∃ g, w.heap.size + 1 = g := ⟨_, rfl⟩
  have HGD := Lib.hid hgd
  rw [hgd] at HS0 HFAR
  clear hgd
  go_enter Tryd.func11, Tryd.ntmps11
  go_wp2_with fail
  rw [HGD.out]
  refine (rd14_number b g A c 5 _ _ (HRD.out _ HX0.out) HFAR.out HLB.out (by decide) HS0.out).mono ?_
  rintro e w1 ⟨ho, rfl, hs⟩
  have hv := stn_val (m := 5) HS0.out HSB.out
  rw [← e1] at hs hv ⊢
  obtain ⟨v1, hv1⟩ : ∃ v, r1.val 0 = v := ⟨_, rfl⟩
  rw [hv1] at hv ⊢
  have HV1 := Lib.hid hv1
  have HX1 := Lib.hid (ho.ext HX0.out (fun q e => by have := HGD.out; omega))
  have HS1 := Lib.hid hs
  have HR1 := Lib.hid (ho.row HR0.out (by have := HGD.out; omega))
  have x1 : IntKind.i64.wrap (v1 : Int) = (v1 : Int) := by rw [IntKind.wrap_i64]; omega
  clear ho hs hv hv1
  -- the envelope under way lies in block T
  have HXa := Lib.hid (HX1.out.alloc (.cells #[.int .i64 (v1 : Int), .int .u64 0, .int .u64 0, .int .u64 0, .slice none 0 0] 25))
  have HSa := Lib.hid (HS1.out.ext ((Ext.refl w1).alloc (.cells #[.int .i64 (v1 : Int), .int .u64 0, .int .u64 0, .int .u64 0, .slice none 0 0] 25)))
  have HRa := Lib.hid (((Ext.refl w1).alloc (.cells #[.int .i64 (v1 : Int), .int .u64 0, .int .u64 0, .int .u64 0, .slice none 0 0] 25)).row HR1.out)
  have HTa := Lib.hid (heap_alloc_new w1 (.cells #[.int .i64 (v1 : Int), .int .u64 0, .int .u64 0, .int .u64 0, .slice none 0 0] 25))
  have HTg := Lib.hid (show g < w1.heap.size ∧ w.heap.size < w1.heap.size from ⟨HS1.out.lt, by have h1 := HS1.out.lt; have h2 := HGD.out; omega⟩)
  obtain ⟨T, hT⟩ : ∃ T, w1.heap.size = T := ⟨_, rfl⟩
  go_wp2_with fail
  rw [hT] at HTa HTg
  clear hT HS1 HR1 HX1 HX0 HS0 HR0
  generalize w1.alloc (.cells #[.int .i64 (v1 : Int), .int .u64 0, .int .u64 0, .int .u64 0, .slice none 0 0] 25) = wa at HXa HSa HRa HTa ⊢
  refine (rd14_number b g A c 18446744073709551615 _ _ (HRD.out _ HXa.out) HFAR.out HLB.out (by decide) HSa.out).mono ?_
  rintro e w2 ⟨ho, rfl, hs⟩
  rw [← e2] at hs ⊢
  obtain ⟨v2, hv2⟩ : ∃ v, r2.val 0 = v := ⟨_, rfl⟩
  rw [hv2]
  have HV2 := Lib.hid hv2
  have ht2 := ho.row HTa.out (fun e => by have := HTg.out; omega)
  have hx2 := ho.ext HXa.out (fun q e => by have := HGD.out; omega)
  have t2 := cell_of_row _ T 1 _ _ _ ht2
  simp only [List.getElem?_toArray, List.getElem?_cons_zero, List.getElem?_cons_succ] at t2
  have z2 : w2.frozen? ⟨T, 1, none⟩ = false := frozen_of_row _ T 1 _ _ ht2
  have HTb := Lib.hid (heap_setCell_same w2 T 1 _ _ (.int .u64 (v2 : Int)) ht2)
  have HXb := Lib.hid (hx2.setCell (p := ⟨T, 1, none⟩) (by have := HTg.out; dsimp only; omega) (.int .u64 (v2 : Int)))
  have HRb := Lib.hid ((heap_setCell_other w2 ⟨T, 1, none⟩ w.heap.size (.int .u64 (v2 : Int)) (by have := HTg.out; dsimp only; omega)).trans (ho.row HRa.out (by have := HGD.out; omega)))
  have HSb := Lib.hid (hs.only (X := fun k => k = T) (Only.of_grown (grown_set' w2 T 1 (.int .u64 (v2 : Int))) (fun k e => by injection e with e; exact e.symm)) (by have := HTg.out; omega))
  clear ho hs hv2 ht2 hx2 HXa HSa HRa HTa
  go_wp2_with fail
  generalize w2.setCell ⟨T, 1, none⟩ (.int .u64 (v2 : Int)) = wb at HTb HXb HRb HSb ⊢
  clear t2 z2
  refine (rd14_number b g A c 1152921504606846976 _ _ (HRD.out _ HXb.out) HFAR.out HLB.out (by decide) HSb.out).mono ?_
  rintro e w3 ⟨ho, rfl, hs⟩
  rw [← e3] at hs ⊢
  obtain ⟨v3, hv3⟩ : ∃ v, r3.val 0 = v := ⟨_, rfl⟩
  rw [hv3]
  have HV3 := Lib.hid hv3
  have ht3 := ho.row HTb.out (fun e => by have := HTg.out; omega)
  have hx3 := ho.ext HXb.out (fun q e => by have := HGD.out; omega)
  have t2 := cell_of_row _ T 2 _ _ _ ht3
  simp only [List.getElem?_toArray, Array.setIfInBounds, List.size_toArray, List.length_cons, List.length_nil, Nat.zero_add, Nat.reduceAdd, Nat.reduceLT, dite_true, List.set_toArray, List.set_cons_zero, List.set_cons_succ, List.getElem?_cons_zero, List.getElem?_cons_succ] at t2
  have z2 : w3.frozen? ⟨T, 2, none⟩ = false := frozen_of_row _ T 2 _ _ ht3
  have HTc := Lib.hid (heap_setCell_same w3 T 2 _ _ (.int .u64 (v3 : Int)) ht3)
  have HXc := Lib.hid (hx3.setCell (p := ⟨T, 2, none⟩) (by have := HTg.out; dsimp only; omega) (.int .u64 (v3 : Int)))
  have HRc := Lib.hid ((heap_setCell_other w3 ⟨T, 2, none⟩ w.heap.size (.int .u64 (v3 : Int)) (by have := HTg.out; dsimp only; omega)).trans (ho.row HRb.out (by have := HGD.out; omega)))
  have HSc := Lib.hid (hs.only (X := fun k => k = T) (Only.of_grown (grown_set' w3 T 2 (.int .u64 (v3 : Int))) (fun k e => by injection e with e; exact e.symm)) (by have := HTg.out; omega))
  clear ho hs hv3 ht3 hx3 HXb HSb HRb HTb
  go_wp2_with fail
  generalize w3.setCell ⟨T, 2, none⟩ (.int .u64 (v3 : Int)) = wc at HTc HXc HRc HSc ⊢
  clear t2 z2
  refine (rd14_number b g A c 18446744073709551615 _ _ (HRD.out _ HXc.out) HFAR.out HLB.out (by decide) HSc.out).mono ?_
  rintro e w4 ⟨ho, rfl, hs⟩
  rw [← e4] at hs ⊢
  obtain ⟨v4, hv4⟩ : ∃ v, r4.val 0 = v := ⟨_, rfl⟩
  rw [hv4]
  have HV4 := Lib.hid hv4
  have ht4 := ho.row HTc.out (fun e => by have := HTg.out; omega)
  have hx4 := ho.ext HXc.out (fun q e => by have := HGD.out; omega)
  have t2 := cell_of_row _ T 3 _ _ _ ht4
  simp only [List.getElem?_toArray, Array.setIfInBounds, List.size_toArray, List.length_cons, List.length_nil, Nat.zero_add, Nat.reduceAdd, Nat.reduceLT, dite_true, List.set_toArray, List.set_cons_zero, List.set_cons_succ, List.getElem?_cons_zero, List.getElem?_cons_succ] at t2
  have z2 : w4.frozen? ⟨T, 3, none⟩ = false := frozen_of_row _ T 3 _ _ ht4
  have HTd := Lib.hid (heap_setCell_same w4 T 3 _ _ (.int .u64 (v4 : Int)) ht4)
  have HXd := Lib.hid (hx4.setCell (p := ⟨T, 3, none⟩) (by have := HTg.out; dsimp only; omega) (.int .u64 (v4 : Int)))
  have HRd := Lib.hid ((heap_setCell_other w4 ⟨T, 3, none⟩ w.heap.size (.int .u64 (v4 : Int)) (by have := HTg.out; dsimp only; omega)).trans (ho.row HRc.out (by have := HGD.out; omega)))
  have HSd := Lib.hid (hs.only (X := fun k => k = T) (Only.of_grown (grown_set' w4 T 3 (.int .u64 (v4 : Int))) (fun k e => by injection e with e; exact e.symm)) (by have := HTg.out; omega))
  clear ho hs hv4 ht4 hx4 HXc HSc HRc HTc
  go_wp2_with fail
  generalize w4.setCell ⟨T, 3, none⟩ (.int .u64 (v4 : Int)) = wd at HTd HXd HRd HSd ⊢
  clear t2 z2
  refine (rd14_text b g A c 32 _ _ (HRD.out _ HXd.out) HCB.out HFAR.out HLB.out (by decide) HSd.out).mono ?_
  rintro e w5 ⟨ho, ⟨D, n5, c5, rfl, hn5, hc5, hD, hDb⟩, hs⟩
  rw [← e5] at hs hn5 hD
  obtain ⟨V5, hV5⟩ : ∃ v, r5.val [] = v := ⟨_, rfl⟩
  rw [hV5] at hn5 hD
  have HV5 := Lib.hid hV5
  have ht5 := ho.row HTd.out (fun e => by have := HTg.out; omega)
  have hx5 := ho.ext HXd.out (fun q e => by have := HGD.out; omega)
  have t3 := cell_of_row _ T 4 _ _ _ ht5
  simp only [List.getElem?_toArray, Array.setIfInBounds, List.size_toArray, List.length_cons, List.length_nil, Nat.zero_add, Nat.reduceAdd, Nat.reduceLT, dite_true, List.set_toArray, List.set_cons_zero, List.set_cons_succ, List.getElem?_cons_zero, List.getElem?_cons_succ] at t3
  have z3 : w5.frozen? ⟨T, 4, none⟩ = false := frozen_of_row _ T 4 _ _ ht5
  have HT5 := Lib.hid (heap_setCell_same w5 T 4 _ _ (.slice D n5 c5) ht5)
  have HX5 := Lib.hid (hx5.setCell (p := ⟨T, 4, none⟩) (by have := HTg.out; dsimp only; omega) (.slice D n5 c5))
  have HR5 := Lib.hid ((heap_setCell_other w5 ⟨T, 4, none⟩ w.heap.size (.slice D n5 c5) (by have := HTg.out; dsimp only; omega)).trans (ho.row HRd.out (by have := HGD.out; omega)))
  have HS5 := Lib.hid (hs.only (X := fun k => k = T) (Only.of_grown (grown_set' w5 T 4 (.slice D n5 c5)) (fun k e => by injection e with e; exact e.symm)) (by have := HTg.out; omega))
  have HDB := Lib.hid (show ∀ q o, D = some ⟨q, o, none⟩ → 0 < V5.length → q ≠ g ∧ q ≠ T ∧ q ≠ w.heap.size from fun q o e h0 => by
    have h1 := hDb q o e (by omega)
    have h2 := row_lt HTd.out
    have h3 := HTg.out
    omega)
  have HD5 := Lib.hid (show Rd (w5.setCell ⟨T, 4, none⟩ (.slice D n5 c5)) D V5 from hD.keep (grown_set' w5 T 4 (.slice D n5 c5)) (fun q o e h0 e2 => by injection e2 with e2; exact (HDB.out q o e h0).2.1 e2))
  have HN5 := Lib.hid (And.intro hn5 hc5)
  clear ho hs hn5 hc5 hD hDb hV5 ht5 hx5 HXd HSd HRd HTd
  go_wp2_with fail
  generalize w5.setCell ⟨T, 4, none⟩ (.slice D n5 c5) = we at HT5 HX5 HR5 HS5 HD5 ⊢
  clear t3 z3
  refine (rd14_end b g A c _ _ HS5.out).mono ?_
  rintro e w6 ⟨rfl, ho⟩
  have HT6 := Lib.hid (ho.row HT5.out (fun e => by have := HTg.out; omega))
  have HX6 := Lib.hid (ho.ext HX5.out (fun q e => by have := HGD.out; omega))
  have HR6 := Lib.hid (ho.row HR5.out (by have := HGD.out; omega))
  have HD6 := Lib.hid (rd_keep HD5.out ho (fun q o e h0 => (HDB.out q o e h0).1))
  rw [HV1.out, HV2.out, HV3.out, HV4.out, HV5.out] at HDEC
  clear ho HX5 HS5 HR5 HT5 HD5 e1 e2 e3 e4 e5
  obtain ⟨ec, hec⟩ : ∃ ec, endc r5.unit = ec := ⟨_, rfl⟩
  rw [hec] at HDEC ⊢
  by_cases hec0 : ec = 0
  · rw [if_neg (by simpa using hec0)] at HDEC
    subst hec0
    have q3 : w6.cell? ⟨T, 4, none⟩ = some (.slice D n5 c5) := cell_of_row _ T 4 _ _ _ (show w6.heap[T]? = some (.cells #[.int .i64 (v1 : Int), .int .u64 (v2 : Int), .int .u64 (v3 : Int), .int .u64 (v4 : Int), .slice D n5 c5] 25) from HT6.out)
    by_cases hv5 : V5 = []
    · rw [if_pos hv5] at HDEC
      have hn0 : n5 = 0 := by rw [← HN5.out.1, hv5]; rfl
      have z0 : ((n5 : Int) == 0) = true := by simp; omega
      have z1 : decide ((n5 : Int) = 0) = true := decide_eq_true (by omega)
      have z2 : decide (n5 = 0) = true := decide_eq_true hn0
      clear hn0 hv5
      have h50 : ((5 : Int) != 0) = true := rfl
      have hone : (#[.int .i64 0, .int .u64 0, .int .u64 0, .int .u64 0, .slice none 0 0] : Array Value).all (·.oneCell') = true := by simp [Value.oneCell']
      have HXF := Lib.hid (HX6.out.setRow (Nat.le_refl _) #[.int .i64 0, .int .u64 0, .int .u64 0, .int .u64 0, .slice none 0 0])
      have HGF := Lib.hid (setRow_heap w6 w.heap.size _ #[.int .i64 0, .int .u64 0, .int .u64 0, .int .u64 0, .slice none 0 0] _ _ HR6.out)
      go_wp2_with (with_reducible refine wpList_store_all rfl 25 (.tmp 2) (.tmp 38) rfl w.heap.size _ #[.int .i64 0, .int .u64 0, .int .u64 0, .int .u64 0, .slice none 0 0] rfl rfl HR6.out ev_in16 ev_size16 hone ?_)
      refine bodyPost_ret (results_ev16 Tryd.results11 _ _ w.heap.size 25 _ (0, 0) rfl HGF.out ev_in16) rfl ?_
      rw [HDEC.out]
      exact ⟨HXF.out, none, 0, 0, rfl, rfl, Nat.le_refl _, Rd.nil _ _⟩
    · rw [if_neg hv5] at HDEC
      have hn0 : n5 ≠ 0 := by intro h; rw [← HN5.out.1] at h; exact hv5 (List.eq_nil_of_length_eq_zero h)
      have z0 : ((n5 : Int) == 0) = false := by simp; omega
      have z1 : decide ((n5 : Int) = 0) = false := decide_eq_false (by omega)
      have z2 : decide (n5 = 0) = false := decide_eq_false hn0
      clear hn0 hv5
      have HG6 := Lib.hid (show w6.heap[T]? = some (.cells #[.int .i64 (v1 : Int), .int .u64 (v2 : Int), .int .u64 (v3 : Int), .int .u64 (v4 : Int), .slice D n5 c5] 25) from HT6.out)
      have hone : (#[.int .i64 (v1 : Int), .int .u64 (v2 : Int), .int .u64 (v3 : Int), .int .u64 (v4 : Int), .slice D n5 c5] : Array Value).all (·.oneCell') = true := by simp [Value.oneCell']
      have HSZ := Lib.hid (show (#[.int .i64 0, .int .u64 0, .int .u64 0, .int .u64 0, .slice none 0 0] : Array Value).size = (#[.int .i64 (v1 : Int), .int .u64 (v2 : Int), .int .u64 (v3 : Int), .int .u64 (v4 : Int), .slice D n5 c5] : Array Value).size from rfl)
      have HXF := Lib.hid (HX6.out.setRow (Nat.le_refl _) #[.int .i64 (v1 : Int), .int .u64 (v2 : Int), .int .u64 (v3 : Int), .int .u64 (v4 : Int), .slice D n5 c5])
      have HGF := Lib.hid (setRow_heap w6 w.heap.size _ #[.int .i64 (v1 : Int), .int .u64 (v2 : Int), .int .u64 (v3 : Int), .int .u64 (v4 : Int), .slice D n5 c5] _ _ HR6.out)
      go_wp2_with (first | (with_reducible refine wpList_load_row rfl 25 (.tmp 5) rfl T rfl 25 #[.int .i64 (v1 : Int), .int .u64 (v2 : Int), .int .u64 (v3 : Int), .int .u64 (v4 : Int), .slice D n5 c5] (0, 0) _ HG6.out Tryd.underlying25 rfl ev_in16 ?_) | (with_reducible refine wpList_store_all rfl 25 (.tmp 2) (.tmp 40) rfl w.heap.size _ #[.int .i64 (v1 : Int), .int .u64 (v2 : Int), .int .u64 (v3 : Int), .int .u64 (v4 : Int), .slice D n5 c5] rfl rfl HR6.out ev_in16 HSZ.out hone ?_))
      refine bodyPost_ret (results_ev16 Tryd.results11 _ _ w.heap.size 25 _ (0, 0) rfl HGF.out ev_in16) rfl ?_
      rw [HDEC.out]
      exact ⟨HXF.out, D, n5, c5, rfl, HN5.out.1, HN5.out.2, HD6.out.keep (grown_block w6 w.heap.size #[.int .i64 (v1 : Int), .int .u64 (v2 : Int), .int .u64 (v3 : Int), .int .u64 (v4 : Int), .slice D n5 c5]) (fun q o e h0 e2 => by injection e2 with e2; exact (HDB.out q o e h0).2.2 e2)⟩
  · rw [if_pos hec0] at HDEC
    have d1 : ((ec : Int) == 0) = false := by simp; omega
    have d1z : ((ec : Int) != 0) = true := by simp; omega
    have d1y : decide ((ec : Int) = 0) = false := decide_eq_false (by omega)
    have d1x : decide (ec = 0) = false := decide_eq_false hec0
    have hone : (#[.int .i64 0, .int .u64 0, .int .u64 0, .int .u64 0, .slice none 0 0] : Array Value).all (·.oneCell') = true := by simp [Value.oneCell']
    have HXF := Lib.hid (HX6.out.setRow (Nat.le_refl _) #[.int .i64 0, .int .u64 0, .int .u64 0, .int .u64 0, .slice none 0 0])
    have HGF := Lib.hid (setRow_heap w6 w.heap.size _ #[.int .i64 0, .int .u64 0, .int .u64 0, .int .u64 0, .slice none 0 0] _ _ HR6.out)
    go_wp2_with (with_reducible refine wpList_store_all rfl 25 (.tmp 2) (.tmp 38) rfl w.heap.size _ #[.int .i64 0, .int .u64 0, .int .u64 0, .int .u64 0, .slice none 0 0] rfl rfl HR6.out ev_in16 ev_size16 hone ?_)
    refine bodyPost_ret (results_ev16 Tryd.results11 _ _ w.heap.size 25 _ (0, 0) rfl HGF.out ev_in16) rfl ?_
    rw [HDEC.out]
    exact ⟨HXF.out, none, 0, 0, rfl, rfl, Nat.le_refl _, Rd.nil _ _⟩
end Go.Proofs.YtjifionpblpfoaaDoor

/-
  Two orders: are they one? Two slices of bytes: are they alike? Conditions: no more than 2^20 bytes.
-/
namespace Go.Proofs.YtjifionpblpfoaaDoor
open Go.RowKit
open Pol (co Sm)

theorem same14 (l m : List Nat) (A B : Option Addr) (n n' ca cb : Nat) (w : World) (hn : l.length = n) (hn' : m.length = n') (ha : Rd w A l) (hb : Rd w B m) (hl : n ≤ 1048576) :
    Calls Tryd.prog 15 #[.slice A n ca, .slice B n' cb] w (Tells (.bool (decide (l = m))) w) := by
  subst hn hn'
  by_cases h : l = m
  · rw [decide_eq_true h]
    subst h
    exact same_tells l A B ca cb w ha hb hl
  · rw [decide_eq_false h]
    exact (same_no l m A B ca cb w ha hb hl h).mono fun _ _ h => h.tells
theorem Od.eq_iff {o p : Od} : o = p ↔ o.k = p.k ∧ o.t = p.t ∧ o.a = p.a ∧ o.m = p.m := by
  constructor
  · rintro rfl; exact ⟨rfl, rfl, rfl, rfl⟩
  · obtain ⟨k, t, a, m⟩ := o
    obtain ⟨k', t', a', m'⟩ := p
    rintro ⟨h1, h2, h3, h4⟩
    dsimp only at h1 h2 h3 h4
    subst h1 h2 h3 h4
    rfl
instance : DecidableEq Od := fun _ _ => decidable_of_iff _ Od.eq_iff.symm
end Go.Proofs.YtjifionpblpfoaaDoor

/-
  A load of a whole value that stays, in a walk by wp_region_stab. Conditions: those of stab_yes.
-/
namespace Go.Proofs.YtjifionpblpfoaaDoor
open Go

section
variable {P : Program} {C : World → Prop} {Q : Exit → Act → World → Prop}
theorem stab_load {F : Nat → Bool} {l : List Oper} {i : Nat} {o : Oper} {π : List (Nat × Bool)} {a : Act} {w : World} (ho : l[i]? = some o) (ty : TypeId) (x : Operand) (hop : o.op = .load ty x) (v : Value)
    (hw : Region.wanted o (yielded l.toArray a.tmps) = true) (hrun : ∀ W, C W → (Instr.loadAt ty (a.eval x)).run P W = .ok v W) (h : wpStab P l C F Q π (a.put o.dst v) w) : wpStab P l C F Q ((i, true) :: π) a w :=
  stab_yes ho (fun _ hK => ⟨hw, v, fun W hW => by simp only [execOp, hop, Sem.run_bind, hrun W hW, Result.andThen, Sem.run_pure], hK _ h⟩)
/-- An operation under a guard that is false. -/
theorem stab_no {F : Nat → Bool} {l : List Oper} {i : Nat} {o : Oper} {π : List (Nat × Bool)} {a : Act} {w : World} (ho : l[i]? = some o) (h : ∀ K : Act → Prop, (∀ a', wpStab P l C F Q π a' w → K a') → Region.wanted o (yielded l.toArray a.tmps) = false ∧ K (a.put o.dst undef)) : wpStab P l C F Q ((i, true) :: π) a w := by
  obtain ⟨h1, h2⟩ := h (fun a' => wpStab P l C F Q π a' w) (fun _ h => h)
  exact ⟨o, undef, ho, .inr (.inl ⟨h1, rfl⟩), h2⟩
end
end Go.Proofs.YtjifionpblpfoaaDoor

/-
  A whole envelope loaded. Conditions: none.
-/
namespace Go.Proofs.YtjifionpblpfoaaDoor
open Go.RowKit
open Pol (co Sm)

theorem load_ev16 {w : World} {g : Nat} {a b c d e : Value} {t : TypeId} {fr : Nat × Nat} (hg : w.heap[g]? = some (.cells #[a, b, c, d, e] t fr)) : (Instr.loadAt 25 (.pointer (some ⟨g, 0, none⟩))).run Tryd.prog w = .ok (.agg #[a, b, c, d, e]) w := by
  simp only [Instr.loadAt, Instr.sureAddr, Sem.run_bind, Sem.run_pure, Result.andThen]
  exact run_loadVar_row w g t _ _ fr _ hg Tryd.underlying25 rfl ev_in16
end Go.Proofs.YtjifionpblpfoaaDoor

/-
  EnvelopeTells, walked. Conditions: those of EnvMk, EnvCd, RefOf.
-/
namespace Go.Proofs.YtjifionpblpfoaaDoor
open Go.RowKit
open Pol (co Sm)

set_option maxHeartbeats 6400000 in
set_option maxRecDepth 100000 in
theorem tells16_walk (M : EnvMk) (C : EnvCd) (R : RefOf) (s : Int) (nn f x k c np cp : Nat) (b p : List Nat) (A B : Option Addr) (w : World) (hgl : GL w)
    (hb : b.length = k) (hbc : k ≤ c) (hr : Rd w A b) (hp : p.length = np) (hpc : np ≤ cp) (hq : Rd w B p) (h1 : nn < 18446744073709551616) (h2 : f < 18446744073709551616) (h3 : x < 18446744073709551616) :
    Calls Tryd.prog 3 #[evv s nn f x A k c, .slice B np cp] w (Holds w) := by
  have hx0 := (Ext.refl w).alloc (.cells #[.int .i64 s, .int .u64 (nn : Int), .int .u64 (f : Int), .int .u64 (x : Int), .slice A k c] 25)
  have HX := Lib.hid hx0
  have HG := Lib.hid (heap_alloc_new w (.cells #[.int .i64 s, .int .u64 (nn : Int), .int .u64 (f : Int), .int .u64 (x : Int), .slice A k c] 25))
  have HR := Lib.hid (hr.ext hx0)
  have HP := Lib.hid (hq.ext hx0)
  have HGL := Lib.hid (hgl.ext hx0)
  have HAW := Lib.hid (fun u (_ : Ext w u) => awake16 M u)
  have g4 := cell_of_row _ _ 4 _ _ _ HG.out
  clear hx0 g4
  by_cases u : 100 < k
  · have u1 : decide ((k : Int) > 100) = true := decide_eq_true (by omega)
    have u2 : decide (100 < (k : Int)) = true := decide_eq_true (by omega)
    clear HR HP HGL hr hq hgl M C R
    go_enter Tryd.func3, Tryd.ntmps3
    go_wp2_with fail
    refine (HAW.out _ HX.out).mono ?_
    rintro e w1 ⟨rfl, hx⟩
    replace HX := Lib.hid (HX.out.trans (hx))
    replace HG := Lib.hid ((hx).row HG.out)
    have g4 := cell_of_row _ _ 4 _ _ _ HG.out
    clear hx
    go_wp2_with fail
    refine (HAW.out _ HX.out).mono ?_
    rintro e w2 ⟨rfl, hx⟩
    replace HX := Lib.hid (HX.out.trans (hx))
    replace HG := Lib.hid ((hx).row HG.out)
    clear hx
    go_wp2
    go_ret
    exact ⟨rfl, HX.out⟩
  have u1 : decide ((k : Int) > 100) = false := decide_eq_false (by omega)
  have u2 : decide (100 < (k : Int)) = false := decide_eq_false (by omega)
  by_cases v : 200 < np
  · have v1 : decide ((np : Int) > 200) = true := decide_eq_true (by omega)
    have v2 : decide (200 < (np : Int)) = true := decide_eq_true (by omega)
    clear HR HP HGL hr hq hgl M C R
    go_enter Tryd.func3, Tryd.ntmps3
    go_wp2_with fail
    refine (HAW.out _ HX.out).mono ?_
    rintro e w1 ⟨rfl, hx⟩
    replace HX := Lib.hid (HX.out.trans (hx))
    replace HG := Lib.hid ((hx).row HG.out)
    have g4 := cell_of_row _ _ 4 _ _ _ HG.out
    clear hx
    go_wp2_with fail
    refine (HAW.out _ HX.out).mono ?_
    rintro e w2 ⟨rfl, hx⟩
    replace HX := Lib.hid (HX.out.trans (hx))
    replace HG := Lib.hid ((hx).row HG.out)
    clear hx
    go_wp2
    go_ret
    exact ⟨rfl, HX.out⟩
  have v1 : decide ((np : Int) > 200) = false := decide_eq_false (by omega)
  have v2 : decide (200 < (np : Int)) = false := decide_eq_false (by omega)
  have HEN := Lib.hid (fun u (hu : Ext w u) => C.enc s nn f x k c b A u hb hbc (hr.ext hu) (by omega) h1 h2 h3)
  have HDE := Lib.hid (fun u (hu : Ext w u) => C.dec p B np cp u hp hpc (hq.ext hu) (by omega))
  have HID := Lib.hid (fun u (hu : Ext w u) (hg : GL u) => C.id s nn f x k c b A u hg hb hbc (hr.ext hu) (by omega) h1 h2 h3)
  have HCK := Lib.hid (fun u (hu : Ext w u) => M.check s nn f x k c b A u hb hbc (hr.ext hu) (by omega) h1 h2 h3)
  have HRD := Lib.hid (fun u (hu : Ext w u) => ref16_decode p B np cp u hp (hq.ext hu) hpc (by omega))
  have HRC := Lib.hid (fun u => ref16_check s nn f x k c b A u hb)
  have HRI := Lib.hid (fun u (hu : Ext w u) => ref16_id R s nn f x k c b A u hb (hr.ext hu) (by omega) h1 h2 h3)
  have HSB := Lib.hid (Ev.bytes_sm (o := ⟨s, nn, f, x, b⟩) hr.1)
  have HFD := dec16_fit hq.1
  have hlen := Ev.bytes_len (o := ⟨s, nn, f, x, b⟩) ⟨h1, h2, h3, hr.1⟩
  have hOK := Ev.chk_ok (e := ⟨s, nn, f, x, b⟩)
  have hBO := Ev.bytes_ok (o := ⟨s, nn, f, x, b⟩)
  have hBN := Ev.bytes_no (o := ⟨s, nn, f, x, b⟩)
  have HRB := Lib.hid (fun (h : Ev.ok ⟨s, nn, f, x, b⟩) u (hu : Ext w u) => show Calls Tryd.prog 13 #[evv s nn f x A k c] u (OwnE (Ev.bytes ⟨s, nn, f, x, b⟩) u) from by
    rw [hBO h]
    have a1 : 0 ≤ s := h.1
    have a2 : s < 6 := h.2.1
    obtain ⟨ss, rfl⟩ : ∃ q : Nat, (q : Int) = s := ⟨s.toNat, by omega⟩
    exact ref16_bytes ss nn f x k c b A u hb (hr.ext hu) (by omega) (by omega) h1 h2 h3)
  obtain ⟨ck, hck⟩ : ∃ q, Ev.chk ⟨s, nn, f, x, b⟩ = q := ⟨_, rfl⟩
  obtain ⟨BY, hBY⟩ : ∃ q, Ev.bytes ⟨s, nn, f, x, b⟩ = q := ⟨_, rfl⟩
  obtain ⟨z, ⟨s', n', f', x', b'⟩, hdc⟩ : ∃ z q, dec16 p = (z, q) := ⟨_, _, rfl⟩
  unfold EncO at HEN
  unfold DecO at HDE
  unfold EvR at HRD
  rw [hck] at HEN HCK HRC hOK
  rw [hBY] at HEN HSB HRB hlen hBN
  rw [hdc] at HDE HRD HFD
  dsimp only at HDE HRD HFD
  have HSD := Lib.hid HFD.1.b
  have hl2 := HFD.2
  have HSA := Lib.hid (fun u B1 B2 n1 n2 c1 c2 (g1 : BY.length = n1) (g2 : BY.length = n2) (q1 : Rd u B1 BY) (q2 : Rd u B2 BY) => same14 BY BY B1 B2 n1 n2 c1 c2 u g1 g2 q1 q2 (by omega))
  rw [decide_eq_true (rfl : BY = BY)] at HSA
  have HSS := Lib.hid (fun u B1 B2 n1 n2 c1 c2 (g1 : b'.length = n1) (g2 : b'.length = n2) (q1 : Rd u B1 b') (q2 : Rd u B2 b') => ref16_same s' s' n' f' x' n1 c1 n' f' x' n2 c2 b' b' B1 B2 u g1 g2 q1 q2 (by omega))
  rw [show decide (Ev.Same ⟨s', n', f', x', b'⟩ ⟨s', n', f', x', b'⟩) = true from decide_eq_true ⟨rfl, rfl, rfl, rfl, rfl⟩] at HSS
  unfold DgS at HID HRI
  unfold OwnE at HRB
  by_cases ho : Ev.ok ⟨s, nn, f, x, b⟩
  · obtain rfl : ck = 0 := hOK.2 ho
    replace HRB := Lib.hid (HRB.out ho)
    clear hr hq hgl M C R HFD hlen hOK hBO hBN ho hck hBY hdc hl2 hb hp
    go_enter Tryd.func3, Tryd.ntmps3
    go_wp2_with fail
    refine (HAW.out _ HX.out).mono ?_
    rintro e w1 ⟨rfl, hx⟩
    replace HX := Lib.hid (HX.out.trans (hx))
    replace HG := Lib.hid ((hx).row HG.out)
    replace HR := Lib.hid (HR.out.ext (hx))
    replace HP := Lib.hid (HP.out.ext (hx))
    replace HGL := Lib.hid (HGL.out.ext (hx))
    have g4 := cell_of_row _ _ 4 _ _ _ HG.out
    clear hx
    go_wp2_with (with_reducible refine wpList_load_row rfl 25 (.tmp 2) rfl (w.heap.size) rfl 25 #[.int .i64 s, .int .u64 (nn : Int), .int .u64 (f : Int), .int .u64 (x : Int), .slice A k c] (0, 0) _ HG.out Tryd.underlying25 rfl ev_in16 ?_)
    refine (HEN.out w1 HX.out).mono ?_
    rintro e w2 ⟨v1, rfl, hm, hx⟩
    replace HX := Lib.hid (HX.out.trans (hx))
    replace HG := Lib.hid ((hx).row HG.out)
    replace HR := Lib.hid (HR.out.ext (hx))
    replace HP := Lib.hid (HP.out.ext (hx))
    replace HGL := Lib.hid (HGL.out.ext (hx))
    clear g4
    obtain ⟨B1, c1, rfl, hc1, hr1⟩ := hm.slice HSB.out
    obtain ⟨n1, hn1⟩ : ∃ q, BY.length = q := ⟨_, rfl⟩
    rw [hn1] at hc1 ⊢
    have HN1 := Lib.hid hn1
    have HR1 := Lib.hid hr1
    clear hm hr1 hn1 hx
    go_wp2_with fail
    refine (HDE.out w2 HX.out).mono ?_
    rintro e w3 ⟨v2, rfl, hm, hx⟩
    replace HX := Lib.hid (HX.out.trans (hx))
    replace HG := Lib.hid ((hx).row HG.out)
    replace HR := Lib.hid (HR.out.ext (hx))
    replace HP := Lib.hid (HP.out.ext (hx))
    replace HGL := Lib.hid (HGL.out.ext (hx))
    replace HR1 := Lib.hid (HR1.out.ext (hx))
    obtain ⟨B2, c2, rfl, hc2, hr2⟩ := hm.slice HSD.out
    obtain ⟨n2, hn2⟩ : ∃ q, b'.length = q := ⟨_, rfl⟩
    rw [hn2] at hc2 ⊢
    have HN2 := Lib.hid hn2
    have hxa := (Ext.refl w3).alloc (.cells #[.int .i64 s', .int .u64 (n' : Int), .int .u64 (f' : Int), .int .u64 (x' : Int), .slice B2 n2 c2] 25)
    replace HX := Lib.hid (HX.out.trans (hxa))
    replace HG := Lib.hid ((hxa).row HG.out)
    replace HR := Lib.hid (HR.out.ext (hxa))
    replace HP := Lib.hid (HP.out.ext (hxa))
    replace HGL := Lib.hid (HGL.out.ext (hxa))
    replace HR1 := Lib.hid (HR1.out.ext (hxa))
    have HD2 := Lib.hid (heap_alloc_new w3 (.cells #[.int .i64 s', .int .u64 (n' : Int), .int .u64 (f' : Int), .int .u64 (x' : Int), .slice B2 n2 c2] 25))
    have HR2 := Lib.hid (hr2.ext hxa)
    clear hm hr2 hn2 hx hxa
    go_wp2_with fail
    refine (HRD.out _ HX.out).mono ?_
    rintro e w4 ⟨hx, B3, n3, c3, rfl, hn3, hc3, hr3⟩
    replace HX := Lib.hid (HX.out.trans (hx))
    replace HG := Lib.hid ((hx).row HG.out)
    replace HR := Lib.hid (HR.out.ext (hx))
    replace HP := Lib.hid (HP.out.ext (hx))
    replace HGL := Lib.hid (HGL.out.ext (hx))
    replace HR1 := Lib.hid (HR1.out.ext (hx))
    replace HD2 := Lib.hid ((hx).row HD2.out)
    replace HR2 := Lib.hid (HR2.out.ext (hx))
    have hxa := (Ext.refl w4).alloc (.cells #[.int .i64 s', .int .u64 (n' : Int), .int .u64 (f' : Int), .int .u64 (x' : Int), .slice B3 n3 c3] 25)
    replace HX := Lib.hid (HX.out.trans (hxa))
    replace HG := Lib.hid ((hxa).row HG.out)
    replace HR := Lib.hid (HR.out.ext (hxa))
    replace HP := Lib.hid (HP.out.ext (hxa))
    replace HGL := Lib.hid (HGL.out.ext (hxa))
    replace HR1 := Lib.hid (HR1.out.ext (hxa))
    replace HD2 := Lib.hid ((hxa).row HD2.out)
    replace HR2 := Lib.hid (HR2.out.ext (hxa))
    have HD3 := Lib.hid (heap_alloc_new w4 (.cells #[.int .i64 s', .int .u64 (n' : Int), .int .u64 (f' : Int), .int .u64 (x' : Int), .slice B3 n3 c3] 25))
    have HR3 := Lib.hid (hr3.ext hxa)
    have HN3 := Lib.hid hn3
    clear hr3 hn3 hx hxa
    go_wp2_with (with_reducible refine wpList_load_row rfl 25 (.tmp 2) rfl (w.heap.size) rfl 25 #[.int .i64 s, .int .u64 (nn : Int), .int .u64 (f : Int), .int .u64 (x : Int), .slice A k c] (0, 0) _ HG.out Tryd.underlying25 rfl ev_in16 ?_)
    refine (HRC.out _).mono ?_
    rintro e w5 ⟨rfl, hx⟩
    replace HX := Lib.hid (HX.out.trans (hx))
    replace HG := Lib.hid ((hx).row HG.out)
    replace HR := Lib.hid (HR.out.ext (hx))
    replace HP := Lib.hid (HP.out.ext (hx))
    replace HGL := Lib.hid (HGL.out.ext (hx))
    replace HR1 := Lib.hid (HR1.out.ext (hx))
    replace HD2 := Lib.hid ((hx).row HD2.out)
    replace HR2 := Lib.hid (HR2.out.ext (hx))
    replace HD3 := Lib.hid ((hx).row HD3.out)
    replace HR3 := Lib.hid (HR3.out.ext (hx))
    clear hx
    go_wp2_with (with_reducible refine wpList_load_row rfl 25 (.tmp 2) rfl (w.heap.size) rfl 25 #[.int .i64 s, .int .u64 (nn : Int), .int .u64 (f : Int), .int .u64 (x : Int), .slice A k c] (0, 0) _ HG.out Tryd.underlying25 rfl ev_in16 ?_)
    refine (HRB.out _ HX.out).mono ?_
    rintro e w6 ⟨v6, rfl, hm, hx⟩
    replace HX := Lib.hid (HX.out.trans (hx))
    replace HG := Lib.hid ((hx).row HG.out)
    replace HR := Lib.hid (HR.out.ext (hx))
    replace HP := Lib.hid (HP.out.ext (hx))
    replace HGL := Lib.hid (HGL.out.ext (hx))
    replace HR1 := Lib.hid (HR1.out.ext (hx))
    replace HD2 := Lib.hid ((hx).row HD2.out)
    replace HR2 := Lib.hid (HR2.out.ext (hx))
    replace HD3 := Lib.hid ((hx).row HD3.out)
    replace HR3 := Lib.hid (HR3.out.ext (hx))
    obtain ⟨B6, c6, rfl, hc6, hr6⟩ := hm.slice HSB.out
    rw [HN1.out] at hc6 ⊢
    have HR6 := Lib.hid hr6
    clear hm hr6 hx
    go_wp2
    have HLE := Lib.hid (fun (W : World) (h : Ext w6 W) => show (Instr.loadAt 25 (.pointer (some ⟨w.heap.size, 0, none⟩))).run Tryd.prog W = .ok (.agg #[.int .i64 s, .int .u64 (nn : Int), .int .u64 (f : Int), .int .u64 (x : Int), .slice A k c]) W from load_ev16 (h.row HG.out))
    have HL2 := Lib.hid (fun (W : World) (h : Ext w6 W) => show (Instr.loadAt 25 (.pointer (some ⟨w3.heap.size, 0, none⟩))).run Tryd.prog W = .ok (.agg #[.int .i64 s', .int .u64 (n' : Int), .int .u64 (f' : Int), .int .u64 (x' : Int), .slice B2 n2 c2]) W from load_ev16 (h.row HD2.out))
    have HL3 := Lib.hid (fun (W : World) (h : Ext w6 W) => show (Instr.loadAt 25 (.pointer (some ⟨w4.heap.size, 0, none⟩))).run Tryd.prog W = .ok (.agg #[.int .i64 s', .int .u64 (n' : Int), .int .u64 (f' : Int), .int .u64 (x' : Int), .slice B3 n3 c3]) W from load_ev16 (h.row HD3.out))
    clear HG HD2 HD3
    refine wp_region_stab (Ext w6) [0, 1, 2, 3, 4, 5, 6, 7, 8, 9, 10, 11, 12, 13, 14, 15, 16, 17, 18, 19, 20, 21, 22, 23, 24, 25, 26, 27, 28, 29, 30, 31] [(0, true), (2, true), (1, false), (3, true), (4, true), (5, true), (6, true), (7, false), (8, true), (9, true), (10, true), (11, true), (12, true), (13, true), (14, true), (15, true), (17, true), (16, false), (18, false), (19, true), (20, true), (21, true), (22, true), (23, true), (24, false), (25, true), (26, true), (27, true), (28, true), (29, true), (30, true), (31, false)] (by kernel_rfl) (fun c a a' w e h => ⟨e ▸ h.1, h.2⟩) (by kernel_rfl) (Ext.refl w6).drew ?_
    have hdr := (Ext.refl w6).drew
    replace HX := Lib.hid (HX.out.trans (hdr))
    replace HR := Lib.hid (HR.out.ext (hdr))
    replace HP := Lib.hid (HP.out.ext (hdr))
    replace HGL := Lib.hid (HGL.out.ext (hdr))
    replace HR1 := Lib.hid (HR1.out.ext (hdr))
    replace HR2 := Lib.hid (HR2.out.ext (hdr))
    replace HR3 := Lib.hid (HR3.out.ext (hdr))
    replace HR6 := Lib.hid (HR6.out.ext (hdr))
    have HXC := Lib.hid hdr
    generalize w6.drew = W0 at *
    clear hdr
    refine stab_load rfl 25 (.tmp 2) rfl (.agg #[.int .i64 s, .int .u64 (nn : Int), .int .u64 (f : Int), .int .u64 (x : Int), .slice A k c]) (by first | rfl | go_simp) (fun W hW => HLE.out W hW) ?_
    refine stab_yes rfl (fun K hK => ?_); go_simp; refine ⟨_, fun _ _ => rfl, hK _ ?_⟩; clear hK K
    refine stab_one rfl (fun K hK => ?_)
    go_wp2_with fail
    refine (HCK.out _ HX.out).mono ?_
    rintro e w7 ⟨rfl, hx⟩
    replace HX := Lib.hid (HX.out.trans (hx))
    replace HR := Lib.hid (HR.out.ext (hx))
    replace HP := Lib.hid (HP.out.ext (hx))
    replace HGL := Lib.hid (HGL.out.ext (hx))
    replace HR1 := Lib.hid (HR1.out.ext (hx))
    replace HR2 := Lib.hid (HR2.out.ext (hx))
    replace HR3 := Lib.hid (HR3.out.ext (hx))
    replace HR6 := Lib.hid (HR6.out.ext (hx))
    replace HXC := Lib.hid (HXC.out.trans (hx))
    clear hx
    go_wp2_with fail
    refine ⟨fun _ => HXC.out, ?_⟩
    refine stab_yes rfl (fun K hK => ?_); go_simp; refine ⟨_, fun _ _ => rfl, hK _ ?_⟩; clear hK K
    refine stab_yes rfl (fun K hK => ?_); go_simp; refine ⟨_, fun _ _ => rfl, hK _ ?_⟩; clear hK K
    refine stab_yes rfl (fun K hK => ?_); go_simp; refine ⟨_, fun _ _ => rfl, hK _ ?_⟩; clear hK K
    refine stab_yes rfl (fun K hK => ?_); go_simp; refine ⟨_, fun _ _ => rfl, hK _ ?_⟩; clear hK K
    refine stab_one rfl (fun K hK => ?_)
    go_wp2_with fail
    refine (HSA.out _ B1 B6 n1 n1 c1 c6 HN1.out HN1.out HR1.out HR6.out).mono ?_
    rintro e w8 ⟨rfl, hx⟩
    replace HX := Lib.hid (HX.out.trans (hx))
    replace HR := Lib.hid (HR.out.ext (hx))
    replace HP := Lib.hid (HP.out.ext (hx))
    replace HGL := Lib.hid (HGL.out.ext (hx))
    replace HR1 := Lib.hid (HR1.out.ext (hx))
    replace HR2 := Lib.hid (HR2.out.ext (hx))
    replace HR3 := Lib.hid (HR3.out.ext (hx))
    replace HR6 := Lib.hid (HR6.out.ext (hx))
    replace HXC := Lib.hid (HXC.out.trans (hx))
    clear hx
    go_wp2_with fail
    refine ⟨fun _ => HXC.out, ?_⟩
    refine stab_yes rfl (fun K hK => ?_); go_simp; refine ⟨_, fun _ _ => rfl, hK _ ?_⟩; clear hK K
    refine stab_yes rfl (fun K hK => ?_); go_simp; refine ⟨_, fun _ _ => rfl, hK _ ?_⟩; clear hK K
    refine stab_yes rfl (fun K hK => ?_); go_simp; refine ⟨_, fun _ _ => rfl, hK _ ?_⟩; clear hK K
    refine stab_yes rfl (fun K hK => ?_); go_simp; refine ⟨_, fun _ _ => rfl, hK _ ?_⟩; clear hK K
    refine stab_yes rfl (fun K hK => ?_); go_simp; refine ⟨_, fun _ _ => rfl, hK _ ?_⟩; clear hK K
    refine stab_yes rfl (fun K hK => ?_); go_simp; refine ⟨_, fun _ _ => rfl, hK _ ?_⟩; clear hK K
    refine stab_yes rfl (fun K hK => ?_); go_simp; refine ⟨_, fun _ _ => rfl, hK _ ?_⟩; clear hK K
    refine stab_load rfl 25 (.tmp 2) rfl (.agg #[.int .i64 s, .int .u64 (nn : Int), .int .u64 (f : Int), .int .u64 (x : Int), .slice A k c]) (by first | rfl | go_simp) (fun W hW => HLE.out W hW) ?_
    refine stab_load rfl 25 (.tmp 2) rfl (.agg #[.int .i64 s, .int .u64 (nn : Int), .int .u64 (f : Int), .int .u64 (x : Int), .slice A k c]) (by first | rfl | go_simp) (fun W hW => HLE.out W hW) ?_
    refine stab_one rfl (fun K hK => ?_)
    go_wp2_with fail
    refine (HID.out _ HX.out HGL.out).mono ?_
    rintro e w9 ⟨V, rfl, hV, hx⟩
    replace HX := Lib.hid (HX.out.trans (hx))
    replace HR := Lib.hid (HR.out.ext (hx))
    replace HP := Lib.hid (HP.out.ext (hx))
    replace HGL := Lib.hid (HGL.out.ext (hx))
    replace HR1 := Lib.hid (HR1.out.ext (hx))
    replace HR2 := Lib.hid (HR2.out.ext (hx))
    replace HR3 := Lib.hid (HR3.out.ext (hx))
    replace HR6 := Lib.hid (HR6.out.ext (hx))
    replace HXC := Lib.hid (HXC.out.trans (hx))
    clear hx
    go_wp2_with fail
    refine ⟨fun _ => HXC.out, ?_⟩
    refine stab_one rfl (fun K hK => ?_)
    go_wp2_with fail
    refine (HRI.out _ HX.out).mono ?_
    rintro e w10 ⟨V2, rfl, hV2, hx⟩
    replace HX := Lib.hid (HX.out.trans (hx))
    replace HR := Lib.hid (HR.out.ext (hx))
    replace HP := Lib.hid (HP.out.ext (hx))
    replace HGL := Lib.hid (HGL.out.ext (hx))
    replace HR1 := Lib.hid (HR1.out.ext (hx))
    replace HR2 := Lib.hid (HR2.out.ext (hx))
    replace HR3 := Lib.hid (HR3.out.ext (hx))
    replace HR6 := Lib.hid (HR6.out.ext (hx))
    replace HXC := Lib.hid (HXC.out.trans (hx))
    have hq := run_eq_dgc hV hV2 (idv_32 _) (idv_32 _) (idv_sm _) (idv_sm _)
    rw [decide_eq_true rfl] at hq
    clear hx
    go_wp2_with fail
    refine ⟨fun _ => HXC.out, ?_⟩
    refine stab_yes rfl (fun K hK => ?_); go_simp; refine ⟨_, fun _ _ => rfl, hK _ ?_⟩; clear hK K
    refine stab_yes rfl (fun K hK => ?_); go_simp; refine ⟨_, fun _ _ => rfl, hK _ ?_⟩; clear hK K
    refine stab_yes rfl (fun K hK => ?_); go_simp; refine ⟨_, fun _ _ => rfl, hK _ ?_⟩; clear hK K
    refine stab_load rfl 25 (.tmp 7) rfl (.agg #[.int .i64 s', .int .u64 (n' : Int), .int .u64 (f' : Int), .int .u64 (x' : Int), .slice B2 n2 c2]) (by first | rfl | go_simp) (fun W hW => HL2.out W hW) ?_
    refine stab_load rfl 25 (.tmp 9) rfl (.agg #[.int .i64 s', .int .u64 (n' : Int), .int .u64 (f' : Int), .int .u64 (x' : Int), .slice B3 n3 c3]) (by first | rfl | go_simp) (fun W hW => HL3.out W hW) ?_
    refine stab_one rfl (fun K hK => ?_)
    go_wp2_with fail
    refine (HSS.out _ B2 B3 n2 n3 c2 c3 HN2.out HN3.out HR2.out HR3.out).mono ?_
    rintro e w11 ⟨rfl, hx⟩
    replace HX := Lib.hid (HX.out.trans (hx))
    replace HR := Lib.hid (HR.out.ext (hx))
    replace HP := Lib.hid (HP.out.ext (hx))
    replace HGL := Lib.hid (HGL.out.ext (hx))
    replace HR1 := Lib.hid (HR1.out.ext (hx))
    replace HR2 := Lib.hid (HR2.out.ext (hx))
    replace HR3 := Lib.hid (HR3.out.ext (hx))
    replace HR6 := Lib.hid (HR6.out.ext (hx))
    replace HXC := Lib.hid (HXC.out.trans (hx))
    clear hx
    go_wp2_with fail
    refine ⟨fun _ => HXC.out, ?_⟩
    refine stab_yes rfl (fun K hK => ?_); go_simp; refine ⟨_, fun _ _ => rfl, hK _ ?_⟩; clear hK K
    refine stab_yes rfl (fun K hK => ?_); go_simp; refine ⟨_, fun _ _ => rfl, hK _ ?_⟩; clear hK K
    refine stab_yes rfl (fun K hK => ?_); go_simp; refine ⟨_, fun _ _ => rfl, hK _ ?_⟩; clear hK K
    refine stab_yes rfl (fun K hK => ?_); go_simp; refine ⟨_, fun _ _ => rfl, hK _ ?_⟩; clear hK K
    refine stab_yes rfl (fun K hK => ?_); go_simp; refine ⟨_, fun _ _ => rfl, hK _ ?_⟩; clear hK K
    refine stab_yes rfl (fun K hK => ?_); go_simp; refine ⟨_, fun _ _ => rfl, hK _ ?_⟩; clear hK K
    refine stab_one rfl (fun K hK => ?_)
    go_wp2_with fail
    refine ⟨fun _ => HXC.out, ?_⟩
    clear HXC
    unfold wpStab
    go_wp2
    go_ret
    exact ⟨rfl, HX.out⟩
  · have hc0 : ck ≠ 0 := fun h => ho (hOK.1 h)
    have HSN := Lib.hid (fun u B1 n1 c1 (g1 : BY.length = n1) (q1 : Rd u B1 BY) => same14 BY [] B1 none n1 0 c1 0 u g1 rfl q1 (Rd.nil _ _) (by omega))
    rw [decide_eq_true (hBN ho)] at HSN
    have d1 : ((ck : Int) == 0) = false := by simp; omega
    have d2 : ((ck : Int) != 0) = true := by simp; omega
    have d3 : decide ((ck : Int) = 0) = false := decide_eq_false (by omega)
    have d4 : decide (ck = 0) = false := decide_eq_false hc0
    have d5 : ((ck : Int) == (ck : Int)) = true := by simp
    clear hr hq hgl M C R HFD hlen hOK hBO hBN ho hck hBY hdc hl2 hb hp HRB hc0
    go_enter Tryd.func3, Tryd.ntmps3
    go_wp2_with fail
    refine (HAW.out _ HX.out).mono ?_
    rintro e w1 ⟨rfl, hx⟩
    replace HX := Lib.hid (HX.out.trans (hx))
    replace HG := Lib.hid ((hx).row HG.out)
    replace HR := Lib.hid (HR.out.ext (hx))
    replace HP := Lib.hid (HP.out.ext (hx))
    replace HGL := Lib.hid (HGL.out.ext (hx))
    have g4 := cell_of_row _ _ 4 _ _ _ HG.out
    clear hx
    go_wp2_with (with_reducible refine wpList_load_row rfl 25 (.tmp 2) rfl (w.heap.size) rfl 25 #[.int .i64 s, .int .u64 (nn : Int), .int .u64 (f : Int), .int .u64 (x : Int), .slice A k c] (0, 0) _ HG.out Tryd.underlying25 rfl ev_in16 ?_)
    refine (HEN.out w1 HX.out).mono ?_
    rintro e w2 ⟨v1, rfl, hm, hx⟩
    replace HX := Lib.hid (HX.out.trans (hx))
    replace HG := Lib.hid ((hx).row HG.out)
    replace HR := Lib.hid (HR.out.ext (hx))
    replace HP := Lib.hid (HP.out.ext (hx))
    replace HGL := Lib.hid (HGL.out.ext (hx))
    clear g4
    obtain ⟨B1, c1, rfl, hc1, hr1⟩ := hm.slice HSB.out
    obtain ⟨n1, hn1⟩ : ∃ q, BY.length = q := ⟨_, rfl⟩
    rw [hn1] at hc1 ⊢
    have HN1 := Lib.hid hn1
    have HR1 := Lib.hid hr1
    clear hm hr1 hn1 hx
    go_wp2_with fail
    refine (HDE.out w2 HX.out).mono ?_
    rintro e w3 ⟨v2, rfl, hm, hx⟩
    replace HX := Lib.hid (HX.out.trans (hx))
    replace HG := Lib.hid ((hx).row HG.out)
    replace HR := Lib.hid (HR.out.ext (hx))
    replace HP := Lib.hid (HP.out.ext (hx))
    replace HGL := Lib.hid (HGL.out.ext (hx))
    replace HR1 := Lib.hid (HR1.out.ext (hx))
    obtain ⟨B2, c2, rfl, hc2, hr2⟩ := hm.slice HSD.out
    obtain ⟨n2, hn2⟩ : ∃ q, b'.length = q := ⟨_, rfl⟩
    rw [hn2] at hc2 ⊢
    have HN2 := Lib.hid hn2
    have hxa := (Ext.refl w3).alloc (.cells #[.int .i64 s', .int .u64 (n' : Int), .int .u64 (f' : Int), .int .u64 (x' : Int), .slice B2 n2 c2] 25)
    replace HX := Lib.hid (HX.out.trans (hxa))
    replace HG := Lib.hid ((hxa).row HG.out)
    replace HR := Lib.hid (HR.out.ext (hxa))
    replace HP := Lib.hid (HP.out.ext (hxa))
    replace HGL := Lib.hid (HGL.out.ext (hxa))
    replace HR1 := Lib.hid (HR1.out.ext (hxa))
    have HD2 := Lib.hid (heap_alloc_new w3 (.cells #[.int .i64 s', .int .u64 (n' : Int), .int .u64 (f' : Int), .int .u64 (x' : Int), .slice B2 n2 c2] 25))
    have HR2 := Lib.hid (hr2.ext hxa)
    clear hm hr2 hn2 hx hxa
    go_wp2_with fail
    refine (HRD.out _ HX.out).mono ?_
    rintro e w4 ⟨hx, B3, n3, c3, rfl, hn3, hc3, hr3⟩
    replace HX := Lib.hid (HX.out.trans (hx))
    replace HG := Lib.hid ((hx).row HG.out)
    replace HR := Lib.hid (HR.out.ext (hx))
    replace HP := Lib.hid (HP.out.ext (hx))
    replace HGL := Lib.hid (HGL.out.ext (hx))
    replace HR1 := Lib.hid (HR1.out.ext (hx))
    replace HD2 := Lib.hid ((hx).row HD2.out)
    replace HR2 := Lib.hid (HR2.out.ext (hx))
    have hxa := (Ext.refl w4).alloc (.cells #[.int .i64 s', .int .u64 (n' : Int), .int .u64 (f' : Int), .int .u64 (x' : Int), .slice B3 n3 c3] 25)
    replace HX := Lib.hid (HX.out.trans (hxa))
    replace HG := Lib.hid ((hxa).row HG.out)
    replace HR := Lib.hid (HR.out.ext (hxa))
    replace HP := Lib.hid (HP.out.ext (hxa))
    replace HGL := Lib.hid (HGL.out.ext (hxa))
    replace HR1 := Lib.hid (HR1.out.ext (hxa))
    replace HD2 := Lib.hid ((hxa).row HD2.out)
    replace HR2 := Lib.hid (HR2.out.ext (hxa))
    have HD3 := Lib.hid (heap_alloc_new w4 (.cells #[.int .i64 s', .int .u64 (n' : Int), .int .u64 (f' : Int), .int .u64 (x' : Int), .slice B3 n3 c3] 25))
    have HR3 := Lib.hid (hr3.ext hxa)
    have HN3 := Lib.hid hn3
    clear hr3 hn3 hx hxa
    go_wp2_with (with_reducible refine wpList_load_row rfl 25 (.tmp 2) rfl (w.heap.size) rfl 25 #[.int .i64 s, .int .u64 (nn : Int), .int .u64 (f : Int), .int .u64 (x : Int), .slice A k c] (0, 0) _ HG.out Tryd.underlying25 rfl ev_in16 ?_)
    refine (HRC.out _).mono ?_
    rintro e w5 ⟨rfl, hx⟩
    replace HX := Lib.hid (HX.out.trans (hx))
    replace HG := Lib.hid ((hx).row HG.out)
    replace HR := Lib.hid (HR.out.ext (hx))
    replace HP := Lib.hid (HP.out.ext (hx))
    replace HGL := Lib.hid (HGL.out.ext (hx))
    replace HR1 := Lib.hid (HR1.out.ext (hx))
    replace HD2 := Lib.hid ((hx).row HD2.out)
    replace HR2 := Lib.hid (HR2.out.ext (hx))
    replace HD3 := Lib.hid ((hx).row HD3.out)
    replace HR3 := Lib.hid (HR3.out.ext (hx))
    clear hx
    go_wp2
    have HLE := Lib.hid (fun (W : World) (h : Ext w5 W) => show (Instr.loadAt 25 (.pointer (some ⟨w.heap.size, 0, none⟩))).run Tryd.prog W = .ok (.agg #[.int .i64 s, .int .u64 (nn : Int), .int .u64 (f : Int), .int .u64 (x : Int), .slice A k c]) W from load_ev16 (h.row HG.out))
    have HL2 := Lib.hid (fun (W : World) (h : Ext w5 W) => show (Instr.loadAt 25 (.pointer (some ⟨w3.heap.size, 0, none⟩))).run Tryd.prog W = .ok (.agg #[.int .i64 s', .int .u64 (n' : Int), .int .u64 (f' : Int), .int .u64 (x' : Int), .slice B2 n2 c2]) W from load_ev16 (h.row HD2.out))
    have HL3 := Lib.hid (fun (W : World) (h : Ext w5 W) => show (Instr.loadAt 25 (.pointer (some ⟨w4.heap.size, 0, none⟩))).run Tryd.prog W = .ok (.agg #[.int .i64 s', .int .u64 (n' : Int), .int .u64 (f' : Int), .int .u64 (x' : Int), .slice B3 n3 c3]) W from load_ev16 (h.row HD3.out))
    clear HG HD2 HD3
    refine wp_region_stab (Ext w5) [0, 1, 2, 3, 4, 5, 6, 7, 8, 9, 10, 11, 12, 13, 14, 15, 16, 17, 18, 19, 20, 21, 22, 23, 24, 25, 26, 27, 28, 29, 30, 31] [(0, true), (2, true), (1, false), (3, true), (4, true), (5, true), (6, true), (7, false), (8, true), (9, true), (10, true), (11, true), (12, true), (13, true), (14, true), (15, true), (17, true), (16, false), (18, false), (19, true), (20, true), (21, true), (22, true), (23, true), (24, false), (25, true), (26, true), (27, true), (28, true), (29, true), (30, true), (31, false)] (by kernel_rfl) (fun c a a' w e h => ⟨e ▸ h.1, h.2⟩) (by kernel_rfl) (Ext.refl w5).drew ?_
    have hdr := (Ext.refl w5).drew
    replace HX := Lib.hid (HX.out.trans (hdr))
    replace HR := Lib.hid (HR.out.ext (hdr))
    replace HP := Lib.hid (HP.out.ext (hdr))
    replace HGL := Lib.hid (HGL.out.ext (hdr))
    replace HR1 := Lib.hid (HR1.out.ext (hdr))
    replace HR2 := Lib.hid (HR2.out.ext (hdr))
    replace HR3 := Lib.hid (HR3.out.ext (hdr))
    have HXC := Lib.hid hdr
    generalize w5.drew = W0 at *
    clear hdr
    refine stab_load rfl 25 (.tmp 2) rfl (.agg #[.int .i64 s, .int .u64 (nn : Int), .int .u64 (f : Int), .int .u64 (x : Int), .slice A k c]) (by first | rfl | go_simp) (fun W hW => HLE.out W hW) ?_
    refine stab_yes rfl (fun K hK => ?_); go_simp; refine ⟨_, fun _ _ => rfl, hK _ ?_⟩; clear hK K
    refine stab_one rfl (fun K hK => ?_)
    go_wp2_with fail
    refine (HCK.out _ HX.out).mono ?_
    rintro e w7 ⟨rfl, hx⟩
    replace HX := Lib.hid (HX.out.trans (hx))
    replace HR := Lib.hid (HR.out.ext (hx))
    replace HP := Lib.hid (HP.out.ext (hx))
    replace HGL := Lib.hid (HGL.out.ext (hx))
    replace HR1 := Lib.hid (HR1.out.ext (hx))
    replace HR2 := Lib.hid (HR2.out.ext (hx))
    replace HR3 := Lib.hid (HR3.out.ext (hx))
    replace HXC := Lib.hid (HXC.out.trans (hx))
    clear hx
    go_wp2_with fail
    refine ⟨fun _ => HXC.out, ?_⟩
    refine stab_yes rfl (fun K hK => ?_); go_simp; refine ⟨_, fun _ _ => rfl, hK _ ?_⟩; clear hK K
    refine stab_yes rfl (fun K hK => ?_); go_simp; refine ⟨_, fun _ _ => rfl, hK _ ?_⟩; clear hK K
    refine stab_yes rfl (fun K hK => ?_); go_simp; refine ⟨_, fun _ _ => rfl, hK _ ?_⟩; clear hK K
    refine stab_yes rfl (fun K hK => ?_); go_simp; refine ⟨_, fun _ _ => rfl, hK _ ?_⟩; clear hK K
    refine stab_one rfl (fun K hK => ?_)
    go_wp2_with fail
    refine (HSN.out _ B1 n1 c1 HN1.out HR1.out).mono ?_
    rintro e w8 ⟨rfl, hx⟩
    replace HX := Lib.hid (HX.out.trans (hx))
    replace HR := Lib.hid (HR.out.ext (hx))
    replace HP := Lib.hid (HP.out.ext (hx))
    replace HGL := Lib.hid (HGL.out.ext (hx))
    replace HR1 := Lib.hid (HR1.out.ext (hx))
    replace HR2 := Lib.hid (HR2.out.ext (hx))
    replace HR3 := Lib.hid (HR3.out.ext (hx))
    replace HXC := Lib.hid (HXC.out.trans (hx))
    clear hx
    go_wp2_with fail
    refine ⟨fun _ => HXC.out, ?_⟩
    refine stab_yes rfl (fun K hK => ?_); go_simp; refine ⟨_, fun _ _ => rfl, hK _ ?_⟩; clear hK K
    refine stab_yes rfl (fun K hK => ?_); go_simp; refine ⟨_, fun _ _ => rfl, hK _ ?_⟩; clear hK K
    refine stab_yes rfl (fun K hK => ?_); go_simp; refine ⟨_, fun _ _ => rfl, hK _ ?_⟩; clear hK K
    refine stab_yes rfl (fun K hK => ?_); go_simp; refine ⟨_, fun _ _ => rfl, hK _ ?_⟩; clear hK K
    refine stab_yes rfl (fun K hK => ?_); go_simp; refine ⟨_, fun _ _ => rfl, hK _ ?_⟩; clear hK K
    refine stab_yes rfl (fun K hK => ?_); go_simp; refine ⟨_, fun _ _ => rfl, hK _ ?_⟩; clear hK K
    refine stab_yes rfl (fun K hK => ?_); go_simp; refine ⟨_, fun _ _ => rfl, hK _ ?_⟩; clear hK K
    refine stab_load rfl 25 (.tmp 2) rfl (.agg #[.int .i64 s, .int .u64 (nn : Int), .int .u64 (f : Int), .int .u64 (x : Int), .slice A k c]) (by first | rfl | go_simp) (fun W hW => HLE.out W hW) ?_
    refine stab_load rfl 25 (.tmp 2) rfl (.agg #[.int .i64 s, .int .u64 (nn : Int), .int .u64 (f : Int), .int .u64 (x : Int), .slice A k c]) (by first | rfl | go_simp) (fun W hW => HLE.out W hW) ?_
    refine stab_one rfl (fun K hK => ?_)
    go_wp2_with fail
    refine (HID.out _ HX.out HGL.out).mono ?_
    rintro e w9 ⟨V, rfl, hV, hx⟩
    replace HX := Lib.hid (HX.out.trans (hx))
    replace HR := Lib.hid (HR.out.ext (hx))
    replace HP := Lib.hid (HP.out.ext (hx))
    replace HGL := Lib.hid (HGL.out.ext (hx))
    replace HR1 := Lib.hid (HR1.out.ext (hx))
    replace HR2 := Lib.hid (HR2.out.ext (hx))
    replace HR3 := Lib.hid (HR3.out.ext (hx))
    replace HXC := Lib.hid (HXC.out.trans (hx))
    clear hx
    go_wp2_with fail
    refine ⟨fun _ => HXC.out, ?_⟩
    refine stab_one rfl (fun K hK => ?_)
    go_wp2_with fail
    refine (HRI.out _ HX.out).mono ?_
    rintro e w10 ⟨V2, rfl, hV2, hx⟩
    replace HX := Lib.hid (HX.out.trans (hx))
    replace HR := Lib.hid (HR.out.ext (hx))
    replace HP := Lib.hid (HP.out.ext (hx))
    replace HGL := Lib.hid (HGL.out.ext (hx))
    replace HR1 := Lib.hid (HR1.out.ext (hx))
    replace HR2 := Lib.hid (HR2.out.ext (hx))
    replace HR3 := Lib.hid (HR3.out.ext (hx))
    replace HXC := Lib.hid (HXC.out.trans (hx))
    have hq := run_eq_dgc hV hV2 (idv_32 _) (idv_32 _) (idv_sm _) (idv_sm _)
    rw [decide_eq_true rfl] at hq
    clear hx
    go_wp2_with fail
    refine ⟨fun _ => HXC.out, ?_⟩
    refine stab_yes rfl (fun K hK => ?_); go_simp; refine ⟨_, fun _ _ => rfl, hK _ ?_⟩; clear hK K
    refine stab_yes rfl (fun K hK => ?_); go_simp; refine ⟨_, fun _ _ => rfl, hK _ ?_⟩; clear hK K
    refine stab_yes rfl (fun K hK => ?_); go_simp; refine ⟨_, fun _ _ => rfl, hK _ ?_⟩; clear hK K
    refine stab_load rfl 25 (.tmp 7) rfl (.agg #[.int .i64 s', .int .u64 (n' : Int), .int .u64 (f' : Int), .int .u64 (x' : Int), .slice B2 n2 c2]) (by first | rfl | go_simp) (fun W hW => HL2.out W hW) ?_
    refine stab_load rfl 25 (.tmp 9) rfl (.agg #[.int .i64 s', .int .u64 (n' : Int), .int .u64 (f' : Int), .int .u64 (x' : Int), .slice B3 n3 c3]) (by first | rfl | go_simp) (fun W hW => HL3.out W hW) ?_
    refine stab_one rfl (fun K hK => ?_)
    go_wp2_with fail
    refine (HSS.out _ B2 B3 n2 n3 c2 c3 HN2.out HN3.out HR2.out HR3.out).mono ?_
    rintro e w11 ⟨rfl, hx⟩
    replace HX := Lib.hid (HX.out.trans (hx))
    replace HR := Lib.hid (HR.out.ext (hx))
    replace HP := Lib.hid (HP.out.ext (hx))
    replace HGL := Lib.hid (HGL.out.ext (hx))
    replace HR1 := Lib.hid (HR1.out.ext (hx))
    replace HR2 := Lib.hid (HR2.out.ext (hx))
    replace HR3 := Lib.hid (HR3.out.ext (hx))
    replace HXC := Lib.hid (HXC.out.trans (hx))
    clear hx
    go_wp2_with fail
    refine ⟨fun _ => HXC.out, ?_⟩
    refine stab_yes rfl (fun K hK => ?_); go_simp; refine ⟨_, fun _ _ => rfl, hK _ ?_⟩; clear hK K
    refine stab_yes rfl (fun K hK => ?_); go_simp; refine ⟨_, fun _ _ => rfl, hK _ ?_⟩; clear hK K
    refine stab_yes rfl (fun K hK => ?_); go_simp; refine ⟨_, fun _ _ => rfl, hK _ ?_⟩; clear hK K
    refine stab_yes rfl (fun K hK => ?_); go_simp; refine ⟨_, fun _ _ => rfl, hK _ ?_⟩; clear hK K
    refine stab_yes rfl (fun K hK => ?_); go_simp; refine ⟨_, fun _ _ => rfl, hK _ ?_⟩; clear hK K
    refine stab_yes rfl (fun K hK => ?_); go_simp; refine ⟨_, fun _ _ => rfl, hK _ ?_⟩; clear hK K
    refine stab_one rfl (fun K hK => ?_)
    go_wp2_with fail
    refine ⟨fun _ => HXC.out, ?_⟩
    clear HXC
    unfold wpStab
    go_wp2
    go_ret
    exact ⟨rfl, HX.out⟩
end Go.Proofs.YtjifionpblpfoaaDoor

/-
  The code's own Check of layer 16. Conditions: none.
-/
namespace Go.Proofs.YtjifionpblpfoaaDoor
open Go.RowKit
open Pol (co Sm)

set_option maxHeartbeats 1600000 in
theorem ev_check (s : Int) (n f x k c : Nat) (b : List Nat) (A : Option Addr) (w : World) (hk : b.length = k) :
    Calls Tryd.prog 14 #[evv s n f x A k c] w (Tells (.int .i64 ((Ev.chk ⟨s, n, f, x, b⟩ : Nat) : Int)) w) := by
  unfold Ev.chk
  dsimp only
  rw [hk]
  clear hk
  by_cases h1 : s < 0
  · have d1 : decide (s < 0) = true := decide_eq_true h1
    rw [if_pos (.inl h1)]
    go_enter Tryd.func14, Tryd.ntmps14
    go_wp2
    go_ret
    exact ⟨rfl, (Ext.refl _).alloc _⟩
  have d1 : decide (s < 0) = false := decide_eq_false h1
  by_cases h2 : 6 ≤ s
  · have d2 : decide (s ≥ 6) = true := decide_eq_true h2
    have d2' : decide (6 ≤ s) = true := decide_eq_true h2
    rw [if_pos (.inr h2)]
    go_enter Tryd.func14, Tryd.ntmps14
    go_wp2
    go_ret
    exact ⟨rfl, (Ext.refl _).alloc _⟩
  have d2 : decide (s ≥ 6) = false := decide_eq_false h2
  have d2' : decide (6 ≤ s) = false := decide_eq_false h2
  rw [if_neg (by omega)]
  by_cases h3 : 1152921504606846976 < f
  · have d3 : decide ((f : Int) > 1152921504606846976) = true := decide_eq_true (by omega)
    have d3' : decide ((1152921504606846976 : Int) < (f : Int)) = true := decide_eq_true (by omega)
    rw [if_pos h3]
    go_enter Tryd.func14, Tryd.ntmps14
    go_wp2
    go_ret
    exact ⟨rfl, (Ext.refl _).alloc _⟩
  have d3 : decide ((f : Int) > 1152921504606846976) = false := decide_eq_false (by omega)
  have d3' : decide ((1152921504606846976 : Int) < (f : Int)) = false := decide_eq_false (by omega)
  rw [if_neg h3]
  by_cases h4 : k < 1
  · have d4 : decide ((k : Int) < 1) = true := decide_eq_true (by omega)
    rw [if_pos (.inl h4)]
    go_enter Tryd.func14, Tryd.ntmps14
    go_wp2
    go_ret
    exact ⟨rfl, (Ext.refl _).alloc _⟩
  have d4 : decide ((k : Int) < 1) = false := decide_eq_false (by omega)
  by_cases h5 : 32 < k
  · have d5 : decide ((k : Int) > 32) = true := decide_eq_true (by omega)
    have d5' : decide ((32 : Int) < (k : Int)) = true := decide_eq_true (by omega)
    rw [if_pos (.inr h5)]
    go_enter Tryd.func14, Tryd.ntmps14
    go_wp2
    go_ret
    exact ⟨rfl, (Ext.refl _).alloc _⟩
  have d5 : decide ((k : Int) > 32) = false := decide_eq_false (by omega)
  have d5' : decide ((32 : Int) < (k : Int)) = false := decide_eq_false (by omega)
  rw [if_neg (by omega)]
  go_enter Tryd.func14, Tryd.ntmps14
  go_wp2
  go_ret
  exact ⟨rfl, (Ext.refl _).alloc _⟩
end Go.Proofs.YtjifionpblpfoaaDoor

/-
  The builtin copy of bytes to the front of a block of the call's own. Conditions: the block is at least as long.
-/
namespace Go.Proofs.YtjifionpblpfoaaDoor
open Go.RowKit
open Pol (co Sm)

/-- A copy of bytes to the front of a block of the call's own. -/
theorem splice_bt (n : Nat) (f : Nat → Nat) (a : List Nat) (h : a.length ≤ n) : (splice (bt n f).toList 0 (bv a)).toArray = bt n (fun i => if i < a.length then co a i else f i) := by
  apply Array.ext
  · simp [splice, bv_len, bt_size]; omega
  · intro i h1 h2
    have hi : i < n := by rwa [bt_size] at h2
    rw [← Option.some_inj, ← Array.getElem?_eq_getElem, ← Array.getElem?_eq_getElem, bt_at _ _ _ hi]
    simp only [splice, List.take_zero, List.nil_append, Nat.zero_add, List.getElem?_toArray, bv_len]
    by_cases hia : i < a.length
    · rw [List.getElem?_append_left (by rw [bv_len]; exact hia), bv_at a i hia, if_pos hia]
    · rw [List.getElem?_append_right (by rw [bv_len]; omega), List.getElem?_drop, bv_len, if_neg hia, show a.length + (i - a.length) = i from by omega]
      have := bt_at n f i hi
      simpa using this
theorem wpList_copy_blk {ops : Array Oper} {rest : List Oper} {o : Oper} {act : Act} {w : World} {Q : Exit → Act → World → Prop} (hgd : o.guard = none) (d s : Operand)
    (ho : o.op = .call { callee := .builtin .copy, args := #[d, s], argTypes := #[23, 23] }) (g n dc : Nat) (f : Nat → Nat) (hd : act.eval d = .slice (some ⟨g, 0, none⟩) n dc) (hb : Blk w g n f)
    (A : Option Addr) (a : List Nat) (k c : Nat) (hs : act.eval s = .slice A k c) (hk : a.length = k) (hr : Rd w A a) (hn : k ≤ n) (w0 : World) (hx : Ext w0 w) (hg : w0.heap.size ≤ g)
    (h : ∀ w', Hid (Blk w' g n (fun i => if i < a.length then co a i else f i)) → Ext w0 w' → wpList Tryd.prog ops Q rest (act.put o.dst (goInt k)) w') :
    wpList Tryd.prog ops Q (o :: rest) act w := by
  subst hk
  refine wpList_copy_splice hgd d s 23 23 ho 5 Tryd.underlying23 (by kernel_rfl) _ A n dc a.length c hd hs g 0 (bt n f).toList 5 (by unfold Blk at hb; simpa using hb) (bv a) (by rw [bv_len]; exact (Nat.min_eq_left hn).symm)
    (fun hp => ⟨rfl, ?_⟩) (by simp [bv_len, bt_size]; omega) (bv_one a) w0.heap.size w0 hx.below hg ?_
  · rw [bv_len] at hp
    obtain ⟨b, o', e, hc⟩ := hr.addr hp
    refine ⟨_, e, fun j v hj => ?_⟩
    have hj' : j < a.length := by
      have := (List.getElem?_eq_some_iff.1 hj).1
      rwa [bv_len] at this
    rw [addr_add, hc j hj', ← bv_at a j hj', hj]
  · intro w' HG hB
    rw [bv_len]
    refine h w' (Lib.hid ?_) ⟨hB⟩
    unfold Blk
    rw [HG.out, splice_bt n f a hn]
end Go.Proofs.YtjifionpblpfoaaDoor

/-
  What Fill of layer 6 does. Conditions: no more than 2^12 bytes.
-/
namespace Go.Proofs.YtjifionpblpfoaaDoor
open Go.RowKit
open Pol (co Sm)

/-- A copy of bytes somewhere into a block of the call's own. -/
theorem splice_at (n off : Nat) (f : Nat → Nat) (a : List Nat) (h : off + a.length ≤ n) : (splice (bt n f).toList off (bv a)).toArray = bt n (fun i => if off ≤ i ∧ i < off + a.length then co a (i - off) else f i) := by
  apply Array.ext
  · simp [splice, bv_len, bt_size]; omega
  · intro i h1 h2
    have hi : i < n := by rwa [bt_size] at h2
    have hl : (bt n f).toList.length = n := by simp [bt_size]
    have hb : ∀ j, j < n → (bt n f).toList[j]? = some (.int .u8 ((f j : Nat) : Int)) := fun j hj => by simpa using bt_at n f j hj
    rw [← Option.some_inj, ← Array.getElem?_eq_getElem, ← Array.getElem?_eq_getElem, bt_at _ _ _ hi]
    simp only [splice, List.getElem?_toArray, bv_len]
    by_cases h1 : i < off
    · rw [List.getElem?_append_left (by rw [List.length_take, hl]; omega), List.getElem?_take, if_pos h1, if_neg (by omega), hb i hi]
    · rw [List.getElem?_append_right (by rw [List.length_take, hl]; omega), List.length_take, hl, Nat.min_eq_left (by omega)]
      by_cases hia : i - off < a.length
      · rw [List.getElem?_append_left (by rw [bv_len]; exact hia), bv_at a _ hia, if_pos (by omega)]
      · rw [List.getElem?_append_right (by rw [bv_len]; omega), List.getElem?_drop, bv_len, if_neg (by omega), show off + a.length + (i - off - a.length) = i from by omega, hb i hi]
theorem wpList_copy_at {ops : Array Oper} {rest : List Oper} {o : Oper} {act : Act} {w : World} {Q : Exit → Act → World → Prop} (hgd : o.guard = none) (d s : Operand)
    (ho : o.op = .call { callee := .builtin .copy, args := #[d, s], argTypes := #[23, 23] }) (g n off dl dc : Nat) (X : Option Addr) (f : Nat → Nat) (hd : act.eval d = .slice X dl dc) (hb : Blk w g n f)
    (A : Option Addr) (a : List Nat) (k c : Nat) (hs : act.eval s = .slice A k c) (hk : a.length = k) (hr : Rd w A a) (hX : 0 < k → X = some ⟨g, off, none⟩) (hdl : k ≤ dl) (hn : off + k ≤ n) (w0 : World) (hx : Ext w0 w) (hg : w0.heap.size ≤ g)
    (h : ∀ w', Hid (Blk w' g n (fun i => if off ≤ i ∧ i < off + k then co a (i - off) else f i)) → Ext w0 w' → wpList Tryd.prog ops Q rest (act.put o.dst (goInt k)) w') :
    wpList Tryd.prog ops Q (o :: rest) act w := by
  subst hk
  refine wpList_copy_splice hgd d s 23 23 ho 5 Tryd.underlying23 (by kernel_rfl) X A dl dc a.length c hd hs g off (bt n f).toList 5 (by unfold Blk at hb; simpa using hb) (bv a) (by rw [bv_len]; exact (Nat.min_eq_left hdl).symm)
    (fun hp => ⟨hX (by rwa [bv_len] at hp), ?_⟩) (by simp [bv_len, bt_size]; omega) (bv_one a) w0.heap.size w0 hx.below hg ?_
  · rw [bv_len] at hp
    obtain ⟨b, o', e, hc⟩ := hr.addr hp
    refine ⟨_, e, fun j v hj => ?_⟩
    have hj' : j < a.length := by
      have := (List.getElem?_eq_some_iff.1 hj).1
      rwa [bv_len] at this
    rw [addr_add, hc j hj', ← bv_at a j hj', hj]
  · intro w' HG hB
    rw [bv_len]
    refine h w' (Lib.hid ?_) ⟨hB⟩
    unfold Blk
    rw [HG.out, splice_at n off f a hn]
set_option maxHeartbeats 800000 in
theorem j_fill_no (n : Nat) (m : Int) (A : Option Addr) (ca : Nat) (w : World) (h : ¬ FillOk n m) :
    Calls Tryd.prog 45 #[.slice A n ca, .int .i64 m] w (GivesE [] 6 w) := by
  unfold FillOk at h
  by_cases h1 : m < 1
  · have d1 : decide (m < 1) = true := decide_eq_true h1
    clear h
    go_enter Tryd.func45, Tryd.ntmps45
    go_wp2
    go_ret2
    exact ⟨_, rfl, sl_none _, Ext.refl w⟩
  have d1 : decide (m < 1) = false := decide_eq_false h1
  by_cases h2 : 256 < m
  · have d2 : decide (256 < m) = true := decide_eq_true h2
    clear h
    go_enter Tryd.func45, Tryd.ntmps45
    go_wp2
    go_ret2
    exact ⟨_, rfl, sl_none _, Ext.refl w⟩
  have d2 : decide (256 < m) = false := decide_eq_false h2
  have d3 : decide (m ≤ (n : Int)) = true := decide_eq_true (by omega)
  clear h
  go_enter Tryd.func45, Tryd.ntmps45
  go_wp2
  go_ret2
  exact ⟨_, rfl, sl_none _, Ext.refl w⟩

set_option maxHeartbeats 1600000 in
set_option maxRecDepth 100000 in
theorem j_fill (t : List Nat) (m : Nat) (A : Option Addr) (ca : Nat) (w : World) (hr : Rd w A t) (h : FillOk t.length (m : Int)) :
    Calls Tryd.prog 45 #[.slice A t.length ca, .int .i64 (m : Int)] w (GivesE (fil t m) 0 w) := by
  obtain ⟨h1, h2, h3⟩ := h
  have HFS := Lib.hid (fil_sm (m := m) hr.1 (by omega))
  have HFL := Lib.hid (fil_len t m)
  have HCO := Lib.hid (fun i (hi : t.length ≤ i) => Pol.co_out t i hi)
  have HFE := Lib.hid (show fil t m = tab m (fun i => if i = 0 then t.length else co t (i - 1)) from rfl)
  have HR := Lib.hid hr
  clear hr
  generalize hn : t.length = n at *
  have HN := Lib.hid hn
  clear hn
  have d1 : decide ((m : Int) < 1) = false := decide_eq_false (by omega)
  have d2 : decide (256 < (m : Int)) = false := decide_eq_false (by omega)
  have d3 : decide (m ≤ n) = false := decide_eq_false (by omega)
  have ew : IntKind.u8.wrap (n : Int) = (n : Int) := IntWalk.u8_in _ (by omega)
  have hmk := run_make_u8 m (by omega) w
  have hm0 : (0 : Int) < (m : Int) := by omega
  obtain ⟨X, hX, _, hXa⟩ := run_rest_u8 (some ⟨w.heap.size, 0, none⟩) m m 1 (by omega) (Nat.le_refl _)
  have hX' : ∀ W, (Instr.slice 23 (.slice (some ⟨w.heap.size, 0, none⟩) m m) (some (.int .i64 1)) none none).run Tryd.prog W = .ok (.slice X (m - 1) (m - 1)) W := hX
  obtain ⟨m1, hm1⟩ : ∃ m1, m - 1 = m1 := ⟨_, rfl⟩
  rw [hm1] at hX'
  have HM1 := Lib.hid hm1
  have HXA := Lib.hid (show 0 < n → X = some ⟨w.heap.size, 1, none⟩ from fun h => hXa _ _ (by omega) rfl)
  obtain ⟨wa, hwa⟩ : ∃ wa, w.alloc (.cells (bt m fun _ => 0) 5) = wa := ⟨_, rfl⟩
  have hb0 : Blk wa w.heap.size m (fun _ => 0) := hwa ▸ Blk.new w m _
  have hxa : Ext w wa := hwa ▸ (Ext.refl w).alloc _
  have hc0 := hb0.cell 0 (by omega)
  have hf0 := hb0.frozen 0
  have HB1 := Lib.hid (hb0.store 0 n)
  have HX1 := Lib.hid (hxa.setCell (p := ⟨w.heap.size, 0, none⟩) (Nat.le_refl _) (.int .u8 (n : Int)))
  rw [hwa] at hmk
  clear hX hXa hm1 hb0 hxa hwa
  go_enter Tryd.func45, Tryd.ntmps45
  go_wp2_with (with_reducible refine wpList_copy_at rfl (.tmp 27) (.tmp 28) rfl w.heap.size m 1 m1 m1 X _ rfl HB1.out A t n ca rfl HN.out (HR.out.ext HX1.out) HXA.out (by have := HM1.out; omega) (by have := HM1.out; omega) w HX1.out (Nat.le_refl _) ?_; intro w2 HB2 hx2)
  have HX2 := Lib.hid hx2
  clear hx2
  go_wp2
  go_ret2
  refine ⟨_, rfl, ⟨_, _, by rw [HFL.out]; rfl, by rw [HFL.out]; exact Nat.le_refl _, ?_⟩, HX2.out⟩
  have hb := HB2.out.congr (f' := fun i => if i = 0 then n else co t (i - 1)) (fun i _ => by
    unfold upd
    by_cases e : i = 0
    · subst e; rw [if_neg (by omega), if_pos rfl, if_pos rfl]
    · rw [if_neg e, if_neg e]
      by_cases h : i < 1 + n
      · rw [if_pos (by omega)]
      · rw [if_neg (by omega), HCO.out _ (by omega)])
  rw [HFE.out]
  refine hb.reads fun i _ => ?_
  have h := HFS.out i
  rw [HFE.out, co_tab] at h
  split at h
  · exact h
  · omega
end Go.Proofs.YtjifionpblpfoaaDoor

/-
  A byte; what the field's own sum does. Conditions: none beyond the kinds of the arguments.
-/
namespace Go.Proofs.YtjifionpblpfoaaDoor
open Go.RowKit

/-- A byte. -/
def U (n : Nat) : Value := .int .u8 (n : Int)

theorem add_any (x y : Int) (w : World) :
    Calls Tryd.prog 67 #[.int .u8 x, .int .u8 y] w fun e w' => e = .returned (.int .u8 (bits .xor .u8 x y)) ∧ w = w' := by
  go_enter Tryd.func67, Tryd.ntmps67
  go_wp2
  go_ret
  exact ⟨rfl, rfl⟩
theorem add_is (a b v : Nat) (ha : a < 256) (hb : b < 256) (h : a ^^^ b = v) (w : World) :
    Calls Tryd.prog 67 #[.int .u8 (a : Int), .int .u8 (b : Int)] w fun e w' => e = .returned (.int .u8 (v : Int)) ∧ w = w' := by
  have := add_any a b w
  rw [u8_xor_nat a b ha hb, h] at this
  exact this
end Go.Proofs.YtjifionpblpfoaaDoor

/-
  A region that draws its order, whose first operations leave every world of a class in that class and yield the same values in all of them, and whose last operations follow in a forced order: one walk of the text's order serves every order. Conditions: none; of no program in particular.
-/
namespace Go.Proofs.YtjifionpblpfoaaDoor
open Go

section
variable {P : Program} {ops : Array Oper} {md : Region.Mode} {C : World → Prop}

/-- f operations below n come up in whatever order, each quiet in the class; then L. -/
def ahead (P : Program) (md : Region.Mode) (ops : Array Oper) (C : World → Prop) (n : Nat) (L : Array Bool → Act → Prop) : Nat → Array Bool → Act → Prop
  | 0, listed, a => L listed a
  | f + 1, listed, a => Region.ready md ops listed ≠ [] ∧ ∀ i, i ∈ Region.ready md ops listed → i < n ∧ qOp P ops C i (ahead P md ops C n L f (listed.setIfInBounds i true)) a

theorem wpAny_of_ahead {n g : Nat} {L : Array Bool → Act → Prop} {Q' : Exit → Act → World → Prop} (hL : ∀ listed a w, C w → L listed a → wpAny P md ops Q' g listed a w) (f : Nat) :
    ∀ (listed : Array Bool) (a : Act) (w : World), C w → ahead P md ops C n L f listed a → wpAny P md ops Q' (f + g) listed a w := by
  induction f with
  | zero => intro listed a w hw h; rw [Nat.zero_add]; exact hL _ _ _ hw h
  | succ f ih =>
    intro listed a w hw h
    rw [Nat.succ_add]
    exact ⟨fun h0 => absurd h0 h.1, fun i hi => wpOp_of_qOp hw (fun a' w' hw' h' => ih _ a' w' hw' h') (h.2 i hi).2⟩

/-- What may come up now may be taken first. -/
theorem ahead_first {n i : Nat} {oi : Oper} {v : Value} {L : Array Bool → Act → Prop} (hi : ops[i]? = some oi) (hsel : ∀ (j : Nat) (o : Oper) cs b, ops[j]? = some o → o.op ≠ .select cs b)
    (hs : Region.sinkB md ops n = true) (hc : Region.chainB md ops n = true) (hn : n < ops.size) (hin : i < n)
    (hdone : ∀ listed a, L listed a → ∀ j ∈ Region.ready md ops listed, n ≤ j) (f : Nat) :
    ∀ (listed : Array Bool) (a : Act), HeadInv md ops n listed →
      (∀ j oj, ops[j]? = some oj → j ≠ i → listed.getD j true = false → (∀ e ∈ oj.after, Region.binds md e = true → e.on ≠ i) → oi.apart ops oj = true) →
      i ∈ Region.ready md ops listed → YieldsIn P ops C oi v a →
      ahead P md ops C n L f (listed.setIfInBounds i true) (a.put oi.dst v) → ahead P md ops C n L (f + 1) listed a := by
  induction f with
  | zero =>
    intro listed a inv _ hr hy H
    refine ⟨List.ne_nil_of_mem hr, fun j hj => ?_⟩
    have hjn : j < n := Nat.lt_of_not_le fun h => tail_waits hs hc hn inv _ i rfl hin (mem_ready.1 hr).1 j h hj
    by_cases hji : j = i
    · subst hji; exact ⟨hjn, hy.qOp hi H⟩
    · exact absurd (hdone _ _ H j (ready_mono hj hji)) (by omega)
  | succ f ih =>
    intro listed a inv hfree hr hy H
    have hun := (mem_ready.1 hr).1
    refine ⟨List.ne_nil_of_mem hr, fun j hj => ?_⟩
    have hjn : j < n := Nat.lt_of_not_le fun h => tail_waits hs hc hn inv _ i rfl hin hun j h hj
    by_cases hji : j = i
    · subst hji; exact ⟨hjn, hy.qOp hi H⟩
    obtain ⟨hjun, oj, hoj, hall⟩ := mem_ready.1 hj
    have hap := hfree j oj hoj hji hjun fun e he hb heq => by
      have h1 := hall e he hb
      rw [heq, getD_both hun] at h1
      cases h1
    refine ⟨hjn, qOp_mono (fun a' h3 => ih (listed.setIfInBounds j true) a' (inv.set hj hjn) ?_ (ready_mono hr (Ne.symm hji)) h3.1 ?_)
      (qOp_put hoj hap (fun cs b => hsel i oi cs b hi) (fun cs b => hsel j oj cs b hoj) hy (H.2 j (ready_mono hj hji)).2)⟩
    · intro k ok hk hki hu hno
      refine hfree k ok hk hki ?_ hno
      by_cases hjk : j = k
      · subst hjk; exact hjun
      · rwa [getD_set_ne true hjk] at hu
    · rw [Array.setIfInBounds_comm _ _ hji]; exact h3.2

theorem ahead_lex {n g : Nat} {Lq : Act → Prop} (hsel : Region.noSelect ops = true) (hs : Region.sinkB md ops n = true) (hc : Region.chainB md ops n = true) (hn : n < ops.size) (l : List Oper) :
    ∀ (k : Nat) (listed : Array Bool) (a : Act), (∀ j, j < l.length → l[j]? = ops[k + j]?) → k + l.length = n → HeadInv md ops n listed →
    Region.lexHead md ops g l.length k listed = true → wpQuiet P ops C Lq l a →
    ahead P md ops C n (fun listed' a' => Region.seqB md ops g n listed' = true ∧ Lq a') l.length listed a := by
  induction l with
  | nil =>
    intro k listed a _ hk _ hB h
    obtain rfl : k = n := by simpa using hk
    exact ⟨by simpa [Region.lexHead] using hB, h⟩
  | cons o l ih =>
    intro k listed a hl hk inv hB h
    have h0 : ops[k]? = some o := by simpa using (hl 0 (by simp)).symm
    simp only [List.length_cons, Region.lexHead, Bool.and_eq_true] at hB hk
    have hr : k ∈ Region.ready md ops listed := by simpa using hB.1.1
    obtain ⟨v, hy, hK⟩ := yieldsIn_of_qOp (C := C) (K := wpQuiet P ops C Lq l) h0 (by unfold qOp; simp only [h0]; exact h)
    refine ahead_first h0 (Region.noSelect_spec hsel) hs hc hn (by omega) (fun _ _ hL => seqB_ready hL.1) l.length listed a inv (Region.free_spec h0 hB.1.2) hr hy ?_
    exact ih (k + 1) _ _ (fun j hj => by have := hl (j + 1) (by simp; omega); simpa [Nat.add_assoc, Nat.add_comm 1 j] using this) (by omega) (inv.set hr (by omega)) hB.2 hK

theorem any_quiet_tail {Q : Exit → Act → World → Prop} {a : Act} {w : World} {l : List Oper} (n : Nat) (C : World → Prop) (hB : Region.lexTailB .any l.toArray n = true) (hC : C w.drew)
    (h : wpQuiet P l.toArray C (fun a' => ∀ w', C w' → wpList P l.toArray Q (l.drop n) a' w') (l.take n) a) : wpAny P .any l.toArray Q l.toArray.size (Array.replicate l.toArray.size false) a w.drew := by
  simp only [Region.lexTailB, Bool.and_eq_true, decide_eq_true_eq] at hB
  obtain ⟨⟨⟨⟨hsel, hn⟩, hs⟩, hc⟩, hlex⟩ := hB
  have hn' : n < l.length := by simpa using hn
  have htl : (l.take n).length = n := by rw [List.length_take]; omega
  have hdl : (l.drop n).length = l.toArray.size - n := by simp
  have inv0 : HeadInv .any l.toArray n (Array.replicate l.toArray.size false) :=
    ⟨by simp, fun j oj _ hl => (by rw [getD_replicate_false] at hl; cases hl), fun t _ ht => getD_in (by simpa using ht) (getD_replicate_false _ _)⟩
  have H := ahead_lex (md := .any) (g := l.toArray.size - n) (C := C) hsel hs hc hn (l.take n) 0 _ a (fun j hj => by
    have hj' : j < n := by rwa [htl] at hj
    simp [hj']) (by rw [htl]; exact Nat.zero_add n) inv0 (by rw [htl]; exact hlex) h
  have key := wpAny_of_ahead (C := C) (Q' := Q) (g := l.toArray.size - n) (fun listed a' w' hw' hL => by
    have := wpAny_of_seq (md := .any) (Q' := Q) (l.drop n) n listed a' w' (fun j => by simp [List.getElem?_drop]) (by rw [hdl]; exact hL.1) (hL.2 w' hw')
    rwa [hdl] at this) _ _ _ _ hC H
  rw [htl, show n + (l.toArray.size - n) = l.toArray.size by omega] at key
  exact key
theorem wp_region_quiet_tail {id : Nat} {Q : Exit → Act → World → Prop} {a : Act} {w : World} {l : List Oper} (n : Nat) (C : World → Prop) (hm : P.follows .mixedOrders = true) (hB : Region.lexTailB .any l.toArray n = true) (hC : C w.drew)
    (h : wpQuiet P l.toArray C (fun a' => ∀ w', C w' → wpList P l.toArray Q (l.drop n) a' w') (l.take n) a) : (Code.region id l.toArray true).wp P Q a w :=
  wp_region_any hm (any_quiet_tail n C hB hC h)
end
end Go.Proofs.YtjifionpblpfoaaDoor

/-
  What sum, Seal and Pad of layer 6 do. Conditions: no more than 2^12 bytes.
-/
namespace Go.Proofs.YtjifionpblpfoaaDoor
open Go.RowKit
open Pol (co Sm)

/-- The first k sums, and 0 behind them. -/
def sk (t p : List Nat) (k i : Nat) : Nat := if i < k then co t i ^^^ co p i else 0
theorem sk_lt {t p : List Nat} (ht : Sm t) (hp : Sm p) (k i : Nat) : sk t p k i < 256 := by
  unfold sk
  split
  · exact Gf.xor_lt _ _ (ht i) (hp i)
  · omega
theorem sk_step (t p : List Nat) (k i : Nat) : upd (sk t p k) k (co t k ^^^ co p k) i = sk t p (k + 1) i := by
  unfold upd sk
  by_cases e : i = k
  · subst e; rw [if_pos rfl, if_pos (by omega)]
  · rw [if_neg e]
    by_cases h : i < k
    · rw [if_pos h, if_pos (by omega)]
    · rw [if_neg h, if_neg (by omega)]
theorem sk_all (t p : List Nat) (n : Nat) (hn : t.length = n) : tab n (sk t p n) = lx t p := by
  subst hn
  unfold lx tab
  refine List.map_congr_left fun i hi => ?_
  unfold sk
  rw [if_pos (List.mem_range.1 hi)]

set_option maxHeartbeats 800000 in
set_option maxRecDepth 100000 in
theorem j_sum (t p : List Nat) (A B : Option Addr) (ca cb : Nat) (w : World) (ha : Rd w A t) (hb : Rd w B p) (hl : t.length ≤ 4096) (he : t.length = p.length) :
    Calls Tryd.prog 60 #[.slice A t.length ca, .slice B p.length cb] w (GivesE (lx t p) 0 w) := by
  have HLL := Lib.hid (lx_len t p)
  rw [← he]
  generalize hna : t.length = n at *
  have HALL := Lib.hid (sk_all t p n hna)
  have HA := Lib.hid ha
  have HB := Lib.hid hb
  have HNA := Lib.hid hna
  have HNB := Lib.hid he.symm
  have hmk := fun W => run_make_u8 n (by omega) W
  have t0 : ((n : Int) != (n : Int)) = false := by simp
  clear ha hb hna he
  go_enter Tryd.func60, Tryd.ntmps60
  go_wp2
  clear hmk t0
  go_loopg [18] n (fun g s wx => ∃ j : Nat, j + g = n ∧ s = .int .i64 (j : Int) ∧ Blk wx w.heap.size n (sk t p j) ∧ Ext w wx)
  case atStart => exact ⟨0, by omega, rfl, (Blk.new w n _).congr (fun i _ => by unfold sk; rw [if_neg (by omega)]), (Ext.refl _).alloc _⟩
  case round =>
    obtain ⟨j, hjg, rfl, hblk, hx⟩ := hrel
    have HY := Lib.hid hx
    have HL := Lib.hid hblk
    clear hx hblk
    cases gk with
    | zero =>
      obtain rfl : j = n := by omega
      clear hjg
      have HR := Lib.hid (HALL.out ▸ HL.out.reads (fun i _ => sk_lt HA.out.1 HB.out.1 j i))
      go_wp2
      go_ret2
      exact ⟨_, rfl, ⟨_, _, by rw [HLL.out]; rfl, by rw [HLL.out]; exact Nat.le_refl _, HR.out⟩, HY.out⟩
    | succ g =>
      have hj : j < n := by omega
      have hjI : (j : Int) < (n : Int) := by omega
      obtain ⟨b1, o1, e1, hc1⟩ := (HA.out.ext HY.out).2 j (by rw [HNA.out]; exact hj)
      obtain ⟨b2, o2, e2, hc2⟩ := (HB.out.ext HY.out).2 j (by rw [HNB.out]; exact hj)
      subst e1; subst e2
      have hc3 := HL.out.cell j hj
      have hfz := HL.out.frozen j
      have HU := Lib.hid (((HL.out.drewN 1).store j (co t j ^^^ co p j)).congr (f' := sk t p (j + 1)) (fun i _ => sk_step t p j i))
      have HE := Lib.hid ((HY.out.drewN 1).setCell (p := ⟨w.heap.size, j, none⟩) (Nat.le_refl _) (.int .u8 ((co t j ^^^ co p j : Nat) : Int)))
      have HM := Lib.hid (fun W => (add_is (co t j) (co p j) _ (HA.out.1 j) (HB.out.1 j) rfl W).mono fun _ _ h => (⟨h.1, h.2.symm⟩ : _ ∧ _ = W))
      go_wp2
      go_still_tail 12, (by kernel_rfl)
      still_call (HM.out _)
      repeat still_step
      refine wpStill_nil ?_
      change wpList _ _ _ _ _ wr.drew
      go_wp2
      go_roundg g
      case measure => omega
      case rel => exact ⟨j + 1, by omega, by go_num, HU.out, HE.out⟩

theorem j_sum_no (t p : Nat) (A B : Option Addr) (ca cb : Nat) (w : World) (he : t ≠ p) :
    Calls Tryd.prog 60 #[.slice A t ca, .slice B p cb] w (GivesE [] 1 w) := by
  have t0 : ((t : Int) != (p : Int)) = true := by simp; omega
  clear he
  go_enter Tryd.func60, Tryd.ntmps60
  go_wp2
  go_ret2
  exact ⟨_, rfl, sl_none _, Ext.refl w⟩
theorem j_seal (l : List Nat) (n : Int) (x y : Value) (w : World) (h : Calls Tryd.prog 60 #[x, y] w (GivesE l n w)) :
    Calls Tryd.prog 41 #[x, y] w (GivesE l n w) := by
  have H := Lib.hid h
  clear h
  go_enter Tryd.func41, Tryd.ntmps41
  go_wp2_with fail
  refine H.out.mono ?_
  rintro e w1 ⟨v, rfl, hs, hx⟩
  have HS := Lib.hid hs
  have HX := Lib.hid hx
  clear hs hx
  go_wp2
  go_ret2
  exact ⟨_, rfl, HS.out, HX.out⟩
end Go.Proofs.YtjifionpblpfoaaDoor

/-
  The code's own valid: which orders can be. Conditions: none.
-/
namespace Go.Proofs.YtjifionpblpfoaaDoor
open Go.RowKit
open Pol (co Sm)

set_option maxHeartbeats 1600000 in
theorem tx_valid (k t : Int) (a n c : Nat) (A : Option Addr) (w : World) : Calls Tryd.prog 63 #[.agg #[.int .i64 k, .int .i64 t, .int .u64 (a : Int), .slice A n c]] w (Tells (.bool (decide (RightN k t a n))) w) := by
  by_cases h0 : 16 < n
  · have d0 : decide ((n : Int) > 16) = true := decide_eq_true (by omega)
    have d0' : decide (16 < (n : Int)) = true := decide_eq_true (by omega)
    rw [show decide (RightN k t a n) = false from decide_eq_false (by unfold RightN; omega)]
    go_enter Tryd.func63, Tryd.ntmps63
    go_wp2
    go_ret
    exact ⟨rfl, (Ext.refl _).alloc _⟩
  have d0 : decide ((n : Int) > 16) = false := decide_eq_false (by omega)
  have d0' : decide (16 < (n : Int)) = false := decide_eq_false (by omega)
  by_cases h1 : k = 1
  · by_cases h2 : 0 ≤ t
    · have d2 : decide (t ≥ 0) = true := decide_eq_true (by omega)
      have d2' : decide (0 ≤ t) = true := decide_eq_true (by omega)
      by_cases h3 : t < 6
      · have d3 : decide (t < 6) = true := decide_eq_true h3
        rw [show decide (RightN k t a n) = true from decide_eq_true (by unfold RightN; omega)]
        subst h1
        go_enter Tryd.func63, Tryd.ntmps63
        go_wp2
        go_ret
        exact ⟨rfl, (Ext.refl _).alloc _⟩
      · have d3 : decide (t < 6) = false := decide_eq_false h3
        rw [show decide (RightN k t a n) = false from decide_eq_false (by unfold RightN; omega)]
        subst h1
        go_enter Tryd.func63, Tryd.ntmps63
        go_wp2
        go_ret
        exact ⟨rfl, (Ext.refl _).alloc _⟩
    · have d2 : decide (t ≥ 0) = false := decide_eq_false (by omega)
      have d2' : decide (0 ≤ t) = false := decide_eq_false (by omega)
      rw [show decide (RightN k t a n) = false from decide_eq_false (by unfold RightN; omega)]
      subst h1
      go_enter Tryd.func63, Tryd.ntmps63
      go_wp2
      go_ret
      exact ⟨rfl, (Ext.refl _).alloc _⟩
  have d1 : (k == 1) = false := by simp; omega
  have d1' : decide (k = 1) = false := decide_eq_false h1
  by_cases h4 : k = 2
  · by_cases h5 : t = 0
    · by_cases h6 : a = 0
      · have HD := Lib.hid (show decide (RightN k t a n) = true from decide_eq_true (by unfold RightN; omega))
        rw [HD.out]
        subst h4 h5 h6
        go_enter Tryd.func63, Tryd.ntmps63
        go_wp2
        go_ret
        exact ⟨rfl, (Ext.refl _).alloc _⟩
      · have d6 : ((a : Int) == 0) = false := by simp; omega
        have d6' : decide ((a : Int) = 0) = false := decide_eq_false (by omega)
        have d6'' : decide (a = 0) = false := decide_eq_false h6
        have HD := Lib.hid (show decide (RightN k t a n) = false from decide_eq_false (by unfold RightN; omega))
        rw [HD.out]
        subst h4 h5
        go_enter Tryd.func63, Tryd.ntmps63
        go_wp2
        go_ret
        exact ⟨rfl, (Ext.refl _).alloc _⟩
    · have d5 : (t == 0) = false := by simp; omega
      have d5' : decide (t = 0) = false := decide_eq_false h5
      have HD := Lib.hid (show decide (RightN k t a n) = false from decide_eq_false (by unfold RightN; omega))
      rw [HD.out]
      subst h4
      go_enter Tryd.func63, Tryd.ntmps63
      go_wp2
      go_ret
      exact ⟨rfl, (Ext.refl _).alloc _⟩
  · have d4 : (k == 2) = false := by simp; omega
    have d4' : decide (k = 2) = false := decide_eq_false h4
    rw [show decide (RightN k t a n) = false from decide_eq_false (by unfold RightN; omega)]
    go_enter Tryd.func63, Tryd.ntmps63
    go_wp2
    go_ret
    exact ⟨rfl, (Ext.refl _).alloc _⟩
end Go.Proofs.YtjifionpblpfoaaDoor

/-
  What Number and Text of layer 8 lay behind bytes. Conditions: no more than 2^20 bytes each.
-/
namespace Go.Proofs.YtjifionpblpfoaaDoor
open Go.RowKit
open Pol (co Sm)

set_option maxHeartbeats 1600000 in
set_option maxRecDepth 100000 in
theorem cd_layN (base : Nat) (v : Value) (l : List Nat) (n : Nat) (w : World) (hm : Mine w base v l) (hs : Sm l) (hl : l.length ≤ 1048576) (hn : n < 18446744073709551616) (hb : base ≤ w.heap.size) :
    Calls Tryd.prog 25 #[v, .int .u64 (n : Int)] w (Lays base v (l ++ vn n) w) := by
  have HSM := Lib.hid (sm_app hs (vn_sm n))
  have HTEN := Lib.hid (vn_ten hn)
  have hn10 : n < 128 ^ (9 + 1) := by omega
  obtain ⟨V, hV⟩ : ∃ V, l ++ vn n = V := ⟨_, rfl⟩
  have HVL := Lib.hid (show V.length ≤ 1048586 by rw [← hV, List.length_append]; have := HTEN.out; omega)
  rw [hV] at HSM
  rw [hV]
  have HV := Lib.hid hV
  clear hV
  obtain ⟨B0, c0, rfl, hc0, _⟩ := hm.slice hs
  have HM0 := Lib.hid hm
  have HB := Lib.hid hb
  obtain ⟨l0, hl0⟩ : ∃ l0, l.length = l0 := ⟨_, rfl⟩
  have HL0 := Lib.hid hl0
  obtain ⟨v0, hv0⟩ : ∃ v0, Value.slice B0 l.length c0 = v0 := ⟨_, rfl⟩
  rw [hv0] at HM0 ⊢
  rw [hl0] at hv0 hc0 hl
  have HV0 := Lib.hid hv0
  rw [← hv0]
  clear hm hb hl0 hv0
  go_enter Tryd.func25, Tryd.ntmps25
  go_wp2
  go_loopg [0, 1] 9 (fun g s0 s1 wx => ∃ (m : Nat) (acc : List Nat) (B : Option Addr) (c : Nat), m < 128 ^ (g + 1) ∧ s1 = .int .u64 (m : Int) ∧ m < 18446744073709551616 ∧ acc ++ vn m = V ∧ s0 = .slice B acc.length c ∧ Mine wx base (.slice B acc.length c) acc ∧ LayS w wx v0 (.slice B acc.length c))
  case atStart => exact ⟨n, l, B0, c0, hn10, rfl, hn, HV.out, by rw [HL0.out], by rw [HL0.out, HV0.out]; exact HM0.out, by rw [HL0.out, HV0.out]; exact LayS.refl _ _⟩
  case round =>
    obtain ⟨m, acc, B, c, hmg, rfl, hm64, hac, rfl, hmi, hx⟩ := hrel
    have HM := Lib.hid hmi
    have HX := Lib.hid hx
    have hlen : acc.length ≤ 1048586 := by have := HVL.out; rw [← hac, List.length_append] at this; omega
    have hsz : w.heap.size ≤ wr.heap.size := hx.1.size
    have HSZ := Lib.hid (Nat.le_trans HB.out hsz)
    obtain ⟨la, hla⟩ : ∃ la, acc.length = la := ⟨_, rfl⟩
    have HLA := Lib.hid hla
    rw [hla] at HM HX hlen ⊢
    clear hmi hx hla hsz
    by_cases h128 : m < 128
    · have d1 : decide (128 ≤ (m : Int)) = false := decide_eq_false (by omega)
      have e1 : IntKind.u8.wrap (m : Int) = (m : Int) := IntWalk.u8_in _ (by omega)
      have HAV := Lib.hid (show acc ++ [m] = V from by rw [← hac, vn_lt h128])
      have hm256 : m < 256 := by omega
      clear hac hmg
      go_wp2_with (at_builtin; refine wpList_append_rd rfl (.tmp 15) (.tmp 18) rfl base _ acc [m] rfl (mine_ext HM.out ((Ext.refl _).alloc _)) (some ⟨wr.heap.size, 0, none⟩) 1 1 rfl rfl (rd_one wr m hm256) (by rw [HLA.out]; simp; omega) (by simp; have := HSZ.out; omega) ?_; intro v' w3 hown' hg' hat'; rw [HAV.out] at hown'; have hx3 := (HX.out.alloc (.cells #[.int .u8 (m : Int)] 5)).step hg' hat'; have HO := Lib.hid (hx3.lays hown'); clear hown' hg' hat' hx3)
      go_ret
      rw [HV0.out]
      exact HO.out
    · cases gk with
      | zero => omega
      | succ g =>
        have d1 : decide (128 ≤ (m : Int)) = true := decide_eq_true (by omega)
        obtain ⟨q, hq⟩ : ∃ q, m % 256 = q := ⟨_, rfl⟩
        obtain ⟨y, hy⟩ : ∃ y, q % 128 + 128 = y := ⟨_, rfl⟩
        obtain ⟨m2, hm2⟩ : ∃ m2, m / 128 = m2 := ⟨_, rfl⟩
        have e1 : IntKind.u8.wrap (m : Int) = (q : Int) := by rw [IntKind.wrap_u8]; omega
        have e2 : bits .or .u8 (q : Int) 128 = (y : Int) := by rw [or8_128 q (by omega), hy]
        have e5 : (m : Int) / 128 = (m2 : Int) := by omega
        have hy256 : y < 256 := by omega
        have HAV := Lib.hid (show (acc ++ [y]) ++ vn m2 = V from by
          rw [← hac, vn_ge h128, List.append_assoc, hm2, show m % 128 + 128 = y from by omega]; rfl)
        have HS9 := Lib.hid (show Sm (acc ++ [y]) from (sm_split (b := vn m2) (by rw [HAV.out]; exact HSM.out)).1)
        have HL9 := Lib.hid (show (acc ++ [y]).length = la + 1 by rw [List.length_append, HLA.out]; rfl)
        have hm2b : m2 < 128 ^ (g + 1) := by rw [← hm2]; rw [Nat.pow_succ] at hmg; omega
        have hm2c : m2 < 18446744073709551616 := by omega
        clear hac hq hy hm2 hmg
        go_wp2_with (at_builtin; refine wpList_append_rd rfl (.tmp 7) (.tmp 11) rfl base _ acc [y] rfl (mine_ext HM.out ((Ext.refl _).alloc _)) (some ⟨wr.heap.size, 0, none⟩) 1 1 rfl rfl (rd_one wr y hy256) (by rw [HLA.out]; simp; omega) (by simp; have := HSZ.out; omega) ?_; intro v' w3 hown' hg' hat'; have hx3 := (HX.out.alloc (.cells #[.int .u8 (y : Int)] 5)).step hg' hat'; obtain ⟨Bv, cv, ev', hcv, _⟩ := hown'.slice HS9.out; rw [HL9.out] at ev'; subst ev'; have HO := Lib.hid hown'; have HX3 := Lib.hid hx3; clear hown' hg' hat' hx3)
        go_roundg g
        case measure => omega
        case rel => exact ⟨m2, acc ++ [y], Bv, cv, hm2b, rfl, hm2c, HAV.out, by rw [HL9.out], by rw [HL9.out]; exact HO.out, by rw [HL9.out]; exact HX3.out⟩
set_option maxHeartbeats 1600000 in
theorem cd_layT (base : Nat) (v : Value) (l t : List Nat) (A : Option Addr) (ca : Nat) (w : World) (hm : Mine w base v l) (hs : Sm l) (hr : Rd w A t) (hl : l.length ≤ 1048576) (ht : t.length ≤ 1048576) (hb : base ≤ w.heap.size) :
    Calls Tryd.prog 26 #[v, .slice A t.length ca] w (Lays base v (l ++ vt t) w) := by
  have HN := Lib.hid (cd_layN w.heap.size (.slice none 0 0) [] t.length w (Mine.nil _ _) Sm.nil (by decide) (by omega) (Nat.le_refl _))
  have HR := Lib.hid hr
  have HM := Lib.hid hm
  have HB := Lib.hid hb
  have HS := Lib.hid (vt_sm hr.1)
  have HSN := Lib.hid (vn_sm t.length)
  have HTEN := Lib.hid (vn_ten (n := t.length) (by omega))
  have HVT := Lib.hid (show vn t.length ++ t = vt t from rfl)
  have HVL := Lib.hid (show (vt t).length ≤ 1048586 by rw [← HVT.out, List.length_append]; have := HTEN.out; omega)
  rw [List.nil_append] at HN
  obtain ⟨B0, c0, ev0, hc0, _⟩ := hm.slice hs
  have HV0 := Lib.hid ev0
  rw [ev0]
  clear hr hm hb
  generalize hn : t.length = n at *
  have HL := Lib.hid hn
  clear hn
  have e1 : IntKind.u64.wrap (n : Int) = (n : Int) := by rw [IntKind.wrap_u64]; omega
  generalize vn n = V at *
  obtain ⟨V2, hV2⟩ : ∃ V2, vt t = V2 := ⟨_, rfl⟩
  rw [hV2] at HS HVT HVL ⊢
  clear hV2 ev0
  go_enter Tryd.func26, Tryd.ntmps26
  go_wp2_with fail
  refine HN.out.mono ?_
  rintro e w1 ⟨v1, rfl, hm1, hg1, _⟩
  have HX1 := Lib.hid ((Ext.refl w).more hg1 (fun r e => by simp [Value.ownBlock] at e))
  obtain ⟨B, c, ev, hc, _⟩ := hm1.slice HSN.out
  subst ev
  have HM1 := Lib.hid hm1
  clear hm1 hg1
  obtain ⟨lv, hlv⟩ : ∃ lv, V.length = lv := ⟨_, rfl⟩
  have HLV := Lib.hid hlv
  rw [hlv] at HM1 hc HTEN ⊢
  clear hlv
  go_wp2_with (at_builtin; first | (refine wpList_append_rd rfl (.tmp 9) (.tmp 10) rfl w.heap.size _ V t rfl HM1.out A n ca rfl HL.out (HR.out.ext HX1.out) (by rw [HLV.out, HL.out]; have := HTEN.out; omega) (by have := HX1.out.size; omega) ?_; intro v2 w3 hown' hg' hat'; rw [HVT.out] at hown'; have hx3 := HX1.out.more hg' (fun r e => (HM1.out.block r e).1); obtain ⟨Bv, cv, ev', hcv, hrv⟩ := hown'.slice HS.out; subst ev'; have HR3 := Lib.hid hrv; have HX3 := Lib.hid hx3; clear hown' hg' hat' hx3 hrv) | (refine wpList_append_rd rfl (.tmp 12) (.tmp 13) rfl base _ l V2 rfl (HV0.out ▸ mine_ext HM.out HX3.out) Bv V2.length cv rfl rfl HR3.out (by have := HVL.out; omega) (by have := HX3.out.size; have := HB.out; omega) ?_; intro v4 w5 hown5 hg5 hat5; have HO := Lib.hid ((((LayS.refl w (.slice B0 l.length c0)).ext HX3.out).step hg5 hat5).lays hown5); clear hown5 hg5 hat5))
  go_ret
  exact HO.out

end Go.Proofs.YtjifionpblpfoaaDoor
