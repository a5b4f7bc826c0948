/-
  Part 14 of the texts that the seat's proofs stand on; each part of it begins with its own sentence and conditions. Conditions: those that each theorem names.
-/
import Derived.Test.YthbfodmpoheahaaDoorBindsPack13
import Derived.SizedLaws

/-
  An argument that is a slice of slices of bytes: no row takes more than the form's reach. Conditions: none.
-/
namespace Go.Proofs.YthbfodmpoheahaaDoor
open Go.RowKit
open Go.ChangeShapes Go.WideShapes Go.ChangeAt
open Pol (co Sm)

theorem weights_mem_all {H : Type} {P : Program} {e : TypeId} {n : Nat} : ∀ {ds : List (DataW H)} {d : DataW H}, d ∈ ds → n ∈ d.weights P e → n ∈ DataW.weightsAll P e ds
  | [], _, h, _ => by simp at h
  | x :: r, d, h, hn => by
    rcases List.mem_cons.1 h with rfl | h
    · simp only [DataW.weightsAll, List.mem_append]
      exact .inl hn
    · simp only [DataW.weightsAll, List.mem_append]
      exact .inr (weights_mem_all h hn)
/-- Rows as they come in, each within the form's reach. -/
def SRd (w : World) (A : Option Addr) (rows : List (List Nat)) : Prop := ARd w A rows ∧ ∀ i, i < rows.length → (ro rows i).length ≤ reachBytes
section
variable {H : Type} {enc : TypeId × Value → H} {w : World} {base : Nat} {spare : Nat → Bool} {held : Bool}
theorem open_srows {ts : List TypeId} {ds : List (DataW H)} {j fuel len cap : Nat} {a : Option Addr} {d : DataW H} {p : List MemPlace} (hsz : (DataW.weightsEach Tryd.prog ts ds).all (· ≤ reachBytes) = true) (ht : ts[j]? = some 22) (hd : ds[j]? = some d)
    (h : DataW.trod enc Tryd.prog w base spare held fuel 22 [.slice a len cap] = some (d, p)) : ∃ l : List (List Nat), l.length = len ∧ len ≤ cap ∧ SRd w a l := by
  rcases Go.Deep.open_slice1 Tryd.underlying22 (by kernel_rfl) h with ⟨hcs, _⟩ | ⟨a', len', cap', m, n, V, D, Pl, hcs, _, hl, hmax, hm, hx, hall⟩
  · simp at hcs
    obtain ⟨rfl, rfl, rfl⟩ := hcs
    exact ⟨[], rfl, Nat.le_refl _, ⟨RRd.nil _ _, Nat.zero_le _⟩, fun i hi => absurd hi (by simp)⟩
  · simp at hcs
    obtain ⟨rfl, rfl, rfl⟩ := hcs
    injection hx with hx _
    subst hx
    have hlm : len ≤ m := by rw [hm]; split <;> omega
    have each : ∀ i, i < len → ∃ q : List Nat, ∃ B c, w.cell? (a'.add i) = some (.slice B q.length c) ∧ q.length ≤ c ∧ Rd w B q ∧ q.length ≤ reachBytes := fun i hi => by
      obtain ⟨hc, ht'⟩ := hall i (by omega)
      have hw : ∀ x, x ∈ (D i).weights Tryd.prog 35 → x ≤ reachBytes := fun x hx => by
        have hmem : D i ∈ (List.range len).map D := List.mem_map.2 ⟨i, List.mem_range.2 hi, rfl⟩
        have h1 := weights_mem_all (P := Tryd.prog) (e := 35) hmem hx
        have h2 := DataW.weights_mem_each (P := Tryd.prog) ht hd x (by
          simp only [DataW.weights, Tryd.underlying22, List.mem_cons, List.mem_append]
          exact .inr (.inl h1))
        simpa using List.all_eq_true.1 hsz x h2
      obtain ⟨B, nb, cb, hv, hr⟩ : ∃ B nb cb, V i = .slice B nb cb ∧ nb ≤ reachBytes := by
        rcases Go.Deep.open_slice Tryd.underlying35 ht' with ⟨e, _⟩ | ⟨a2, l2, c2, m2, _, D2, _, e, _, _, _, hm2, hx2, _⟩
        · exact ⟨none, 0, 0, by simpa using e, Nat.zero_le _⟩
        · refine ⟨some a2, l2, c2, by simpa using e, ?_⟩
          injection hx2 with hx2 _
          have := hw ((l2 + (m2 - l2)) * Tryd.prog.bytesOf 5) (by rw [hx2]; simp [DataW.weights, Tryd.underlying35])
          rw [show Tryd.prog.bytesOf 5 = 1 from by kernel_rfl] at this
          omega
      rw [hv] at ht' hc
      obtain ⟨q, hq, hqc, hqr⟩ := open_bytes ht'
      exact ⟨q, B, cb, by rw [hq]; exact hc, by rw [hq]; exact hqc, hqr, by rw [hq]; exact hr⟩
    obtain ⟨q, hq⟩ := Go.Deep.choose_lt each
    have hat : ∀ i, i < len → ro ((List.range len).map q) i = q i := fun i hi => by unfold ro; rw [List.getElem?_map, List.getElem?_range hi]; rfl
    refine ⟨(List.range len).map q, by simp, hl, ⟨fun i hi => ?_, by rw [List.length_map, List.length_range]; omega⟩, fun i hi => ?_⟩
    · have hi' : i < len := by simpa using hi
      obtain ⟨B, c, h1, h2, h3, _⟩ := hq i hi'
      obtain ⟨b, o, spot⟩ := a'
      have hspot : spot = none := by
        obtain ⟨_, _, h0, _⟩ := hq 0 (by omega)
        simpa [Addr.add] using World.cell?_spot h0
      subst hspot
      rw [hat i hi']
      exact ⟨b, o, B, c, rfl, by rw [← Addr.add_mid]; exact h1, h2, h3⟩
    · have hi' : i < len := by simpa using hi
      obtain ⟨_, _, _, _, _, h4⟩ := hq i hi'
      rw [hat i hi']
      exact h4
end
end Go.Proofs.YthbfodmpoheahaaDoor
