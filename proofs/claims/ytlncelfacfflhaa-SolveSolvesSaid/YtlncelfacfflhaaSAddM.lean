/-
  What addMultiple of layer 3 does: a row, times an element, added to another one that lies somewhere in a block. Conditions: a field that New made, no more than 2^20 elements; the sum lies apart from the field and the row.
-/
import Derived.Test.YtlncelfacfflhaaCells
import Derived.Test.YtlncelfacfflhaaAddm
import Derived.Test.YtlncelfacfflhaaFMul
import Derived.Test.YtlncelfacfflhaaQTail
namespace Go.Proofs.Ytlncelfacfflhaa
open Go.RowKit
open Pol (co Sm)

set_option maxHeartbeats 800000 in
set_option maxRecDepth 100000 in
theorem s_addm (f : Nat) (a : List Nat) (A : Option Addr) (g o n cs ca t : Nat) (F : Nat → Nat) (w : World) (hf : IsField w f) (ha : Rd w A a) (ht : t < 256) (hc : Cells w g n F) (hF : ∀ i, i < n → F i < 256)
    (hfg : f ≠ g) (hag : ∀ b o, A = some ⟨b, o, none⟩ → 0 < a.length → b ≠ g) (hon : o + a.length ≤ n) (hlb : a.length ≤ 1048576) :
    Calls Try.prog 33 #[.pointer (some ⟨f, 0, none⟩), .slice (some ⟨g, o, none⟩) a.length cs, .slice A a.length ca, .int .u8 (t : Int)] w (Turns g n (addm o t a F a.length) w) := by
  generalize hm : a.length = m at *
  have HF := Lib.hid hf
  have HA := Lib.hid ha
  have HC := Lib.hid hc
  have HFF := Lib.hid hF
  have HM := Lib.hid hm
  have HAG := Lib.hid hag
  have HFG := Lib.hid hfg
  clear hf ha hc hF hm hag hfg
  by_cases h0 : t = 0
  · have t0 : ((t : Int) == 0) = true := by simp [h0]
    have H0 := Lib.hid h0
    clear h0
    go_enter Try.func33, Try.ntmps33
    go_wp2
    go_end0
    exact ⟨⟨_, rfl⟩, HC.out.congr (fun i _ => by unfold addm; rw [H0.out, Gf.zero_mul, Nat.xor_zero]; split <;> rfl), World.grownBy.refl _ _⟩
  · have t0 : ((t : Int) == 0) = false := by simp; omega
    go_enter Try.func33, Try.ntmps33
    go_wp2
    go_loopg [13] m (fun gk s wx => ∃ k : Nat, k + gk = m ∧ s = .int .i64 (k : Int) ∧ Cells wx g n (addm o t a F k) ∧ w.grownBy wx (some g))
    case atStart => exact ⟨0, by omega, rfl, HC.out.congr (fun i _ => addm_zero o t a F i), World.grownBy.refl _ _⟩
    case round =>
      obtain ⟨k, hkg, rfl, hcl, hg⟩ := hrel
      have HL := Lib.hid hcl
      have HG := Lib.hid hg
      clear hcl hg
      cases gk with
      | zero =>
        obtain rfl : m = k := by omega
        clear hkg
        go_wp2
        go_end0
        exact ⟨⟨_, rfl⟩, HL.out, HG.out⟩
      | succ gk =>
        have hk : k < m := by omega
        have hkI : (k : Int) < (m : Int) := by omega
        have hr := HA.out.keep HG.out (fun b o' e h => fun h' => HAG.out b o' e (by have := HM.out; omega) (by cases h'; rfl))
        obtain ⟨b1, o1, e1, hc1⟩ := hr.2 k (by rw [HM.out]; exact hk)
        subst e1
        have hc2 := (HL.out (o + k) (by omega)).1
        have hfz := (HL.out (o + k) (by omega)).2
        have hfield := HF.out.keep HG.out (fun h => HFG.out (by cases h; rfl))
        have hmul := fun q => mul_any f t (co a k) (wr.drewN q) (hfield.drewN q) ht (HA.out.1 k)
        have hadd := fun q => add_is (addm o t a F k (o + k)) (Gf.mul t (co a k)) _ (addm_lt HFF.out k (o + k) (by omega)) (Gf.mul_lt _ _) rfl (wr.drewN q)
        have hst := fun q => ((HL.out.drewN q).store (o + k) (addm o t a F k (o + k) ^^^ Gf.mul t (co a k))).congr (F' := addm o t a F (k + 1)) (fun i _ => addm_step o t a F k i)
        have hgg := fun q => (HG.out.trans (grown_drewN wr q _)).trans (grown_set (wr.drewN q) g (o + k) (.int .u8 ((addm o t a F k (o + k) ^^^ Gf.mul t (co a k) : Nat) : Int)))
        have HMU := Lib.hid hmul
        have HAD := Lib.hid hadd
        have HST := Lib.hid hst
        have HGG := Lib.hid hgg
        clear hmul hadd hst hgg hfield hr
        go_wp2
        refine wp_region_quiet_tail 15 (fun w' => ∃ q, w' = wr.drewN q) (by kernel_rfl) (by kernel_rfl) ⟨1, rfl⟩ ?_
        simp only [List.take_succ_cons, List.take_zero, List.drop_succ_cons, List.drop_zero]
        repeat (quiet_step (first | (go_at_call 21; exact quiet_hands (HMU.out _)) | (go_at_call 22; exact quiet_same (HAD.out _))))
        refine wpQuiet_nil ?_
        rintro _ ⟨q, rfl⟩
        go_wp2
        go_roundg gk
        case measure => omega
        case rel => exact ⟨k + 1, by omega, by go_num, HST.out q, HGG.out q⟩
end Go.Proofs.Ytlncelfacfflhaa
