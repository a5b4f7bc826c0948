/-
  Part 4 of the texts that the seat's proofs stand on; each part of it begins with its own sentence and conditions. Conditions: those that each theorem names.
-/
import Derived.Test.YtfhmafncpodlbaaDoorPack3
import Derived.Test.YtfhmafncpodlbaaDoorRows
import Derived.LaidMore
import Derived.MakeChecks
import Derived.OpenShut
import Derived.Stop.Joined
import Derived.ProofKit

/-
  What the listed variables of layer 10 are in memory. Conditions: none.
-/
namespace Go.Proofs.YtfhmafncpodlbaaDoor
open Go.RowKit Go.ChangeShapes Go.WideShapes Go.ChangeAt
open Pol (co Sm)

def laid10 : List (String × DataW Unit) := [("shroud/sha.start", Rows.laid_shroud_sha_start), ("shroud/sha.constants", Rows.laid_shroud_sha_constants)]
theorem dt_of_trod {H : Type} {enc : TypeId × Value → H} {W : World} {base : Nat} {sp : Nat → Bool} {held : Bool} {fuel : Nat} {t e : TypeId} {n : Nat} {cs : Array Value} {l : List Nat} {p : List MemPlace}
    (ht : Tryd.prog.underlying t = some (.array n e)) (he : Tryd.prog.underlying e = some (.int .u32)) (hc : Tryd.prog.cellsOf e = 1) (hn : Tryd.prog.cellsOf t = n) (hl : l.length = n)
    (h : DataW.trod enc Tryd.prog W base sp held fuel t cs.toList = some (.agg (l.map fun x : Nat => .lit (.int .u32 ((x : Nat) : Int))), p)) : cs = dt n (co l) := by
  obtain ⟨xs, m1, rfl, hx1, hlen, hlx, hel⟩ := DataW.trod_array ht h
  injection hx1 with hx1 _
  injection hx1 with hx1
  rw [hn] at hlen
  have hsz : cs.size = n := by simpa using hlen
  apply Array.ext
  · rw [dt_size, hsz]
  · intro i h1 h2
    have hi : i < n := by omega
    have he' := hel i hi
    rw [hc, Nat.mul_one] at he'
    have e1 : (cs.toList.drop i).take 1 = [cs[i]] := by
      rw [List.drop_eq_getElem_cons (by simpa using h1)]
      simp
    rw [e1, List.getElem?_eq_getElem (by omega)] at he'
    obtain ⟨k, ek, ex, _⟩ := DataW.trod_int he he'
    have hm : (l.map fun x : Nat => DataW.lit (H := H) (.int .u32 ((x : Nat) : Int)))[i]? = (xs.map (·.1))[i]? := by rw [hx1]
    rw [List.getElem?_map, List.getElem?_map, List.getElem?_eq_getElem (by omega), List.getElem?_eq_getElem (by omega)] at hm
    simp only [Option.map_some, ex] at hm
    injection hm with hm
    injection hm with hm
    injection hm with _ hm
    injection ek with ek
    have hd := dt_at n (co l) i hi
    rw [Array.getElem?_eq_getElem h2] at hd
    injection hd with hd
    rw [ek, hd, ← hm]
    unfold co
    rw [List.getElem?_eq_getElem (by omega)]
    rfl
theorem start_is : (Rows.laid_shroud_sha_start : DataW Unit) = .agg (HH.map fun x : Nat => .lit (.int .u32 ((x : Nat) : Int))) := by rw [HH_is]; rfl
set_option maxRecDepth 100000 in
theorem constants_is : (Rows.laid_shroud_sha_constants : DataW Unit) = .agg (KK.map fun x : Nat => .lit (.int .u32 ((x : Nat) : Int))) := by rw [KK_is]; rfl
theorem row_of_cell {P : Program} {W : World} {g : Nat} {n : String} {cs : Array Value} (hg : P.globalNamed n = some g) (h : W.var? P n = some cs) (hk : ∃ c t, W.heap[g]? = some (.cells c t (0, 0))) : ∃ t, W.heap[g]? = some (.cells cs t (0, 0)) := by
  obtain ⟨c, t, hc⟩ := hk
  simp only [World.var?, hg, Option.bind_some, hc] at h
  injection h with h
  subst h
  exact ⟨t, hc⟩
theorem gl_of_laid {W : World} (h : laidMetH Tryd.prog laid10 W) : GL W := by
  rw [MakeChecks.laidMetH_plain _ _ _ (by kernel_rfl)] at h
  obtain ⟨ps, ⟨g0, t0, cs0, f0, p0, q0, hg0, ht0, hv0, hd0, ⟨g1, t1, cs1, f1, p1, q1, hg1, ht1, hv1, hd1, _, hq0⟩, hps⟩, _, hall⟩ := h
  obtain rfl := Option.some.inj ((show Tryd.prog.globalNamed "shroud/sha.start" = some 0 by kernel_rfl).symm.trans hg0)
  obtain rfl := Option.some.inj ((show Tryd.prog.globalNamed "shroud/sha.constants" = some 1 by kernel_rfl).symm.trans hg1)
  obtain rfl := Option.some.inj ((show (Tryd.prog.globals[0]?).map (·.type) = some 39 by kernel_rfl).symm.trans ht0)
  obtain rfl := Option.some.inj ((show (Tryd.prog.globals[1]?).map (·.type) = some 53 by kernel_rfl).symm.trans ht1)
  rw [start_is] at hd0
  rw [constants_is] at hd1
  have e0 := dt_of_trod Tryd.underlying39 Tryd.underlying38 (by kernel_rfl) (by kernel_rfl) (by rw [HH_is]; rfl) hd0
  have e1 := dt_of_trod Tryd.underlying53 Tryd.underlying38 (by kernel_rfl) (by kernel_rfl) (by rw [KK_is]; rfl) hd1
  have m0 : MemPlace.cell 0 0 ∈ ps := by
    rw [hps, e0, dt_size]
    simp [MemPlace.row]
  have m1 : MemPlace.cell 1 0 ∈ ps := by
    rw [hps, hq0, e1, dt_size]
    simp [MemPlace.row]
  have r0 := row_of_cell hg0 hv0 (hall _ _ m0).1
  have r1 := row_of_cell hg1 hv1 (hall _ _ m1).1
  rw [e0] at r0
  rw [e1] at r1
  exact ⟨r0, r1⟩
/-- The door's own heap meets the condition. -/
theorem door_met10 (os : Os) (args : Array Value) : laidMetH Tryd.prog laid10 ((World.doorLaid Tryd.prog 1000 os).forCall (fun _ _ => 0) ⟨#[], args, []⟩).memory :=
  laidMetH_of_parts3 (fuel := 8) (laidMet_of_run' 8 (by kernel_rfl) (by kernel_rfl)) (by kernel_rfl) (by kernel_rfl)
end Go.Proofs.YtfhmafncpodlbaaDoor
