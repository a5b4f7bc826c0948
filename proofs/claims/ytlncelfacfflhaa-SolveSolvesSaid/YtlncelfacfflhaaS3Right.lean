/-
  What the document's own Right and Solves of layer 3 do. Conditions: no more than 2^16 elements and rows.
-/
import Derived.Test.YtlncelfacfflhaaS3Ref
namespace Go.Proofs.Ytlncelfacfflhaa
open Go.RowKit
open Pol (co Sm)

/-- There are rows, of one length that is at least 1. -/
def Rt (rows : List (List Nat)) : Prop := 0 < rows.length ∧ ∀ i, i < rows.length → 1 ≤ (ro rows i).length ∧ (ro rows i).length = (ro rows 0).length
/-- True where P holds; nothing but draws. -/
def Says (P : Prop) (w : World) (e : Ending) (w' : World) : Prop := (P ∧ Hands (.bool true) w e w') ∨ (¬ P ∧ Hands (.bool false) w e w')
theorem RRd.drewN {w : World} {A : Option Addr} {rows : List (List Nat)} (h : RRd w A rows) (n : Nat) : RRd (w.drewN n) A rows := h

set_option maxHeartbeats 800000 in
set_option maxRecDepth 100000 in
theorem ref_right (rows : List (List Nat)) (A : Option Addr) (c : Nat) (w : World) (ha : RRd w A rows) (hl : rows.length ≤ 65536) (hll : ∀ i, i < rows.length → (ro rows i).length ≤ 65536) :
    Calls Try.prog 16 #[.slice A rows.length c] w (Says (Rt rows) w) := by
  generalize hn : rows.length = n at *
  have HA := Lib.hid ha
  have HN := Lib.hid hn
  have HLL := Lib.hid hll
  clear ha hn hll
  go_enter Try.func16, Try.ntmps16
  go_wp2
  go_loopg [6] n (fun g s wx => ∃ k q : Nat, k + g = n ∧ s = .int .i64 (k : Int) ∧ wx = w.drewN q ∧ ∀ i, i < k → 1 ≤ (ro rows i).length ∧ (ro rows i).length = (ro rows 0).length)
  case atStart => exact ⟨0, 0, by omega, rfl, rfl, fun i hi => by omega⟩
  case round =>
    obtain ⟨k, q, hkg, rfl, rfl, hok⟩ := hrel
    have HOK := Lib.hid hok
    clear hok
    cases gk with
    | zero =>
      obtain rfl : k = n := by omega
      clear hkg
      by_cases h0 : 0 < k
      · have h0I : (0 : Int) < (k : Int) := by omega
        go_wp2
        go_ret
        exact .inl ⟨⟨by rw [HN.out]; exact h0, by rw [HN.out]; exact HOK.out⟩, rfl, q, rfl⟩
      · have h0I : ¬ (0 : Int) < (k : Int) := by omega
        have h0D : decide ((0 : Int) < (k : Int)) = false := by simp; omega
        have h0N : decide (0 < k) = false := by simp; omega
        go_wp2
        go_ret
        exact .inr ⟨fun h => h0 (by have := h.1; rwa [HN.out] at this), rfl, q, rfl⟩
    | succ g =>
      have hk : k < n := by omega
      have hkI : (k : Int) < (n : Int) := by omega
      have h0I : (0 : Int) < (n : Int) := by omega
      obtain ⟨b, o, Bk, ck, rfl, hck, hlk, _⟩ := HA.out k (by rw [HN.out]; exact hk)
      obtain ⟨b', o', B0, c0, e0, hc0, hl0, _⟩ := HA.out 0 (by rw [HN.out]; omega)
      injection e0 with e0
      injection e0 with e1 e2
      subst e1; subst e2
      rw [Nat.add_zero] at hc0
      have hb1 := HLL.out k hk
      have hb2 := HLL.out 0 (by omega)
      obtain ⟨nk, hnk⟩ : ∃ nk, (ro rows k).length = nk := ⟨_, rfl⟩
      obtain ⟨n0, hn0⟩ : ∃ n0, (ro rows 0).length = n0 := ⟨_, rfl⟩
      rw [hnk] at hck hlk hb1
      rw [hn0] at hc0 hl0 hb2
      have HNK := Lib.hid hnk
      have HN0 := Lib.hid hn0
      clear hnk hn0
      by_cases h1 : nk < 1
      · have t1 : (nk : Int) < 1 := by omega
        go_wp2
        go_quiet (fail)
        go_wp2
        go_ret
        exact .inr ⟨fun h => by have := (h.2 k (by rw [HN.out]; exact hk)).1; have := HNK.out; omega, rfl, q + nq, by rw [World.drewN_drewN]⟩
      · have t1 : ¬ (nk : Int) < 1 := by omega
        have t1d : decide ((nk : Int) < 1) = false := by simp; omega
        by_cases h2 : nk = n0
        · have t2 : ((nk : Int) != (n0 : Int)) = false := by subst h2; simp
          have H2 := Lib.hid h2
          clear h2
          go_wp2
          go_quiet (fail)
          go_wp2
          go_roundg g
          case measure => omega
          case rel => exact ⟨k + 1, q + nq, by omega, by go_num, rfl, fun i hi => by
            by_cases e : i = k
            · subst e
              have := HNK.out
              have := HN0.out
              have := H2.out
              omega
            · exact HOK.out i (by omega)⟩
        · have t2 : ((nk : Int) != (n0 : Int)) = true := by simp; omega
          go_wp2
          go_quiet (fail)
          go_wp2
          go_ret
          exact .inr ⟨fun h => by have := (h.2 k (by rw [HN.out]; exact hk)).2; have := HNK.out; have := HN0.out; omega, rfl, q + nq, by rw [World.drewN_drewN]⟩

/-- They solve all equations: each row's last element is the sum. -/
def Slv (rows : List (List Nat)) (x : List Nat) : Prop := ∀ i, i < rows.length → Lin.dot x.length (co (ro rows i)) (co x) = co (ro rows i) ((ro rows i).length - 1)
theorem slv_of {rows : List (List Nat)} {x : List Nat} {n : Nat} (h : rows.length = n) (k : ∀ i, i < n → Lin.dot x.length (co (ro rows i)) (co x) = co (ro rows i) ((ro rows i).length - 1)) : Slv rows x := by subst h; exact k

set_option maxHeartbeats 1000000 in
set_option maxRecDepth 100000 in
theorem ref_solves (rows : List (List Nat)) (x : List Nat) (A B : Option Addr) (c d : Nat) (w : World) (ha : RRd w A rows) (hb : Rd w B x) (hl : rows.length ≤ 65536) (hlx : x.length ≤ 65536) (hll : ∀ i, i < rows.length → x.length < (ro rows i).length ∧ (ro rows i).length ≤ 65536) :
    Calls Try.prog 19 #[.slice A rows.length c, .slice B x.length d] w (Says (Slv rows x) w) := by
  generalize hn : rows.length = n at *
  have hdx : ∀ i, Lin.dot x.length (co (ro rows i)) (co x) = Pol.xs x.length (fun k => Gf.mul (co (ro rows i) k) (co x k)) := fun i => rfl
  generalize hm : x.length = m at *
  have HA := Lib.hid ha
  have HB := Lib.hid hb
  have HN := Lib.hid hn
  have HMX := Lib.hid hm
  have HLL := Lib.hid hll
  have HDX := Lib.hid hdx
  clear ha hb hn hm hll hdx
  go_enter Try.func19, Try.ntmps19
  go_wp2
  go_loopg [10] n (fun g s wx => ∃ i q : Nat, i + g = n ∧ s = .int .i64 (i : Int) ∧ wx = w.drewN q ∧ ∀ j, j < i → Lin.dot x.length (co (ro rows j)) (co x) = co (ro rows j) ((ro rows j).length - 1))
  case atStart => exact ⟨0, 0, by omega, rfl, rfl, fun j hj => by omega⟩
  case round =>
    obtain ⟨i, q, hig, rfl, rfl, hok⟩ := hrel
    have HOK := Lib.hid hok
    clear hok
    cases gk with
    | zero =>
      obtain rfl : i = n := by omega
      clear hig
      go_wp2
      go_ret
      exact .inl ⟨slv_of HN.out HOK.out, rfl, q, rfl⟩
    | succ g =>
      have hi : i < n := by omega
      have hiI : (i : Int) < (n : Int) := by omega
      obtain ⟨b, o, Bk, ck, rfl, hck, hlk, hrk⟩ := HA.out i (by rw [HN.out]; exact hi)
      obtain ⟨hx1, hx2⟩ := HLL.out i hi
      obtain ⟨nk, hnk⟩ : ∃ nk, (ro rows i).length = nk := ⟨_, rfl⟩
      rw [hnk] at hck hlk hx1 hx2
      have HNK := Lib.hid hnk
      have HRK := Lib.hid hrk
      have HCK := Lib.hid hck
      clear hnk hrk hck
      go_wp2
      go_loopg [6, 15] m (fun g s6 s15 wx => ∃ k q' : Nat, k + g = m ∧ s15 = .int .i64 (k : Int) ∧ s6 = .int .u8 ((Pol.xs k (fun k => Gf.mul (co (ro rows i) k) (co x k)) : Nat) : Int) ∧ wx = w.drewN q')
      case atStart => exact ⟨0, q, by omega, rfl, rfl, rfl⟩
      case round =>
        obtain ⟨k, q', hkg, rfl, rfl, rfl⟩ := hrel
        cases gk with
        | zero =>
          obtain rfl : k = m := by omega
          clear hkg
          obtain ⟨b2, o2, rfl, hcl⟩ := HRK.out.2 (nk - 1) (by rw [HNK.out]; omega)
          have hck := HCK.out
          have hnI : ((nk - 1 : Nat) : Int) < (nk : Int) := by omega
          have hsub : (nk : Int) - 1 = ((nk - 1 : Nat) : Int) := by omega
          have hw : IntKind.i64.wrap ((nk : Int) - 1) = ((nk - 1 : Nat) : Int) := by rw [IntWalk.i64_in _ (by omega)]; omega
          have hcov := HRK.out.1 (nk - 1)
          have hxl : Pol.xs k (fun k => Gf.mul (co (ro rows i) k) (co x k)) < 256 := Pol.xs_lt k (fun _ _ => Gf.mul_lt _ _)
          have hdi := HDX.out i
          obtain ⟨s, hs⟩ : ∃ s, Pol.xs k (fun k => Gf.mul (co (ro rows i) k) (co x k)) = s := ⟨_, rfl⟩
          obtain ⟨v, hv⟩ : ∃ v, co (ro rows i) (nk - 1) = v := ⟨_, rfl⟩
          rw [hs] at hdi hxl ⊢
          rw [hv] at hcl hcov
          have HDI := Lib.hid hdi
          have HV := Lib.hid hv
          have HSUB := Lib.hid hsub
          clear hdi hv hs hsub
          generalize hr1 : nk - 1 = r1 at *
          have HR1 := Lib.hid hr1
          by_cases e : s = v
          · have t : ((s : Int) != (v : Int)) = false := by subst e; simp
            have HE := Lib.hid e
            clear e hr1
            go_wp2
            go_quiet (fail)
            go_wp2
            go_roundg g
            case measure => omega
            case rel => exact ⟨i + 1, q' + nq, by omega, by go_num, rfl, fun j hj => by
              by_cases ej : j = i
              · subst ej
                rw [HMX.out, HDI.out, HNK.out, HR1.out, HV.out]
                exact HE.out
              · exact HOK.out j (by omega)⟩
          · have t : ((s : Int) != (v : Int)) = true := by simp; omega
            have HE := Lib.hid e
            clear e hr1
            go_wp2
            go_quiet (fail)
            go_wp2
            go_ret
            exact .inr ⟨fun h => HE.out (by
              have := h i (by rw [HN.out]; exact hi)
              rw [HMX.out, HDI.out, HNK.out, HR1.out, HV.out] at this
              exact this), rfl, q' + nq, by rw [World.drewN_drewN]⟩
        | succ h =>
          have hk : k < m := by omega
          have hkI : (k : Int) < (m : Int) := by omega
          have hkN : (k : Int) < (nk : Int) := by omega
          obtain ⟨b2, o2, rfl, hc1⟩ := HRK.out.2 k (by rw [HNK.out]; omega)
          obtain ⟨b3, o3, rfl, hc2⟩ := HB.out.2 k (by rw [HMX.out]; exact hk)
          have hck := HCK.out
          have hxl : Pol.xs k (fun k => Gf.mul (co (ro rows i) k) (co x k)) < 256 := Pol.xs_lt k (fun _ _ => Gf.mul_lt _ _)
          have hxor := u8_xor_nat _ _ hxl (Gf.mul_lt (co (ro rows i) k) (co x k))
          have HX := Lib.hid hxor
          have HM := Lib.hid (fun W => ref_mul (co (ro rows i) k) (co x k) (HRK.out.1 k) (HB.out.1 k) W)
          clear hxor hxl
          have d1 : (w.drewN q').cell? ⟨b2, o2 + k, none⟩ = some (.int .u8 ((co (ro rows i) k : Nat) : Int)) := hc1
          have d2 : (w.drewN q').cell? ⟨b3, o3 + k, none⟩ = some (.int .u8 ((co x k : Nat) : Int)) := hc2
          have d3 : (w.drewN q').cell? ⟨b, o + i, none⟩ = some (.slice (some ⟨b2, o2, none⟩) nk ck) := hck
          generalize hW : w.drewN q' = W at d1 d2 d3 ⊢
          have HW := Lib.hid hW
          clear hW hc1 hc2 hck
          go_wp2
          go_quiet (first | (go_at_call 20; exact quiet_same (HM.out _)))
          go_wp2
          go_roundg h
          case measure => omega
          case rel => exact ⟨k + 1, q' + nq, by omega, by go_num, congrArg (Value.int IntKind.u8) HX.out, by rw [← HW.out, World.drewN_drewN]⟩
end Go.Proofs.Ytlncelfacfflhaa
