/-
  What trimmed and Trim of layer 2 do. Conditions: no more than 2^16 coefficients.
-/
import Derived.Test.YtagdialceelggaaPDeg
import Derived.Test.YtagdialceelggaaTab
namespace Go.Proofs.Ytagdialceelggaa
open Go.RowKit
open Pol (co Sm trim)

theorem trim_take (l : List Nat) : trim l = l.take (trim l).length :=
  Pol.trim_of l _ (Pol.trim_len l) (fun i hi => by rw [← Pol.co_trim]; exact Pol.co_out _ i hi) (by
    by_cases h : trim l = []
    · exact .inl (by rw [h]; rfl)
    · exact .inr (Pol.trim_last l h))
theorem Rd.trim {w : World} {A : Option Addr} {l : List Nat} (h : Rd w A l) : Rd w A (Pol.trim l) := by
  have := h.take (Pol.trim l).length
  rwa [← trim_take] at this

/-- The same slice, without the zeros at its end. -/
def Cuts (A : Option Addr) (l : List Nat) (c : Nat) (w : World) (e : Ending) (w' : World) : Prop := e = .returned (.slice A (trim l).length c) ∧ Ext w w'

set_option maxHeartbeats 400000 in
theorem ptrimmed (l : List Nat) (A : Option Addr) (c : Nat) (w : World) (hr : Rd w A l) (hc : l.length ≤ c) (hl : l.length ≤ 65536) :
    Calls Try.prog 31 #[.slice A l.length c] w (Cuts A l c w) := by
  have hd := pdegree l A c w hr hl
  have ht := Pol.trim_len l
  unfold Cuts
  generalize (trim l).length = t at *
  generalize l.length = n at *
  have HD := Lib.hid hd
  have htc : t ≤ c := by omega
  have htI : (t : Int) ≤ (c : Int) := by omega
  clear hd hr
  cases A with
  | none =>
    go_enter Try.func31, Try.ntmps31
    go_wp2_with fail
    refine HD.out.mono ?_
    rintro e w1 ⟨rfl, hx⟩
    have HX := Lib.hid hx
    clear hx
    go_wp2
    go_ret
    exact ⟨rfl, HX.out⟩
  | some a =>
    go_enter Try.func31, Try.ntmps31
    go_wp2_with fail
    refine HD.out.mono ?_
    rintro e w1 ⟨rfl, hx⟩
    have HX := Lib.hid hx
    clear hx
    go_wp2
    go_ret
    exact ⟨rfl, HX.out⟩

theorem mine_nil (w : World) (base : Nat) : Mine w base (.slice none 0 0) [] := World.ownsRow_nil w base 5 1
theorem ptrim (l : List Nat) (A : Option Addr) (c : Nat) (w : World) (hr : Rd w A l) (hc : l.length ≤ c) (hl : l.length ≤ 65536) :
    Calls Try.prog 15 #[.slice A l.length c] w (Gives (trim l) w) := by
  have hd := ptrimmed l A c w hr hc hl
  have hrt := hr.trim
  have ht := Pol.trim_len l
  have hsm := hr.1.trim
  have HR := Lib.hid hrt
  have HD := Lib.hid hd
  have HS := Lib.hid hsm
  clear hd hrt hr hsm
  go_enter Try.func15, Try.ntmps15
  go_wp2_with fail
  refine HD.out.mono ?_
  rintro e w1 ⟨rfl, hx⟩
  have HX := Lib.hid hx
  clear hx
  go_wp2_with (at_builtin; refine wpList_append_rd rfl (.const (.slice none 0 0)) (.tmp 4) rfl w1.heap.size (.slice none 0 0) [] (trim l) rfl (mine_nil _ _) _ _ c rfl rfl (HR.out.ext HX.out) (by rw [List.length_nil]; omega) (by simp) ?_; intro v' w' hown' hg' hat')
  go_ret
  exact gives_of hown' rfl HS.out (HX.out.more hg' (by intro k hk; simp [Value.ownBlock] at hk))
end Go.Proofs.Ytagdialceelggaa
