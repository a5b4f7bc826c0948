/-
  What Through and At of layer 2 do: the polynomial through points of which no place is there twice, and its values; else an error. Conditions: a field that New made, no more than 2^12 points.
-/
import Derived.Test.YtagdialceelggaaPolySaid
import Derived.Test.YtagdialceelggaaNewt
import Derived.Test.YtagdialceelggaaPEval
import Derived.Test.YtagdialceelggaaPAdd
import Derived.Test.YtagdialceelggaaPMul
import Derived.Test.YtagdialceelggaaFDiv
namespace Go.Proofs.Ytagdialceelggaa
open Go.RowKit
open Pol (co Sm px py Apart thr trim nw ev)

/-- What Through answers. -/
def ThrPost (l : List (Nat × Nat)) (w : World) (e : Ending) (w' : World) : Prop :=
  (Apart l l.length ∧ GivesTo (thr l l.length) 0 w e w') ∨ (¬ Apart l l.length ∧ GivesTo [] 1 w e w')
/-- New blocks alone. -/
def NewW (u w : World) : Prop := Ext u w
theorem sl_nil (w : World) : Sl w (.slice none 0 0) [] := ⟨none, 0, rfl, Nat.le_refl _, Rd.nil _ _⟩

set_option maxHeartbeats 1000000 in
set_option maxRecDepth 100000 in
theorem pthrough (f : Nat) (l : List (Nat × Nat)) (A : Option Addr) (ca : Nat) (w : World) (hf : IsField w f) (ha : PRd w A l) (hl : l.length ≤ 4096) :
    Calls Try.prog 23 #[.pointer (some ⟨f, 0, none⟩), .slice A l.length ca] w (ThrPost l w) := by
  have HE := Lib.hid (fun h => Pol.nw_thr l ha.1 h)
  unfold ThrPost
  generalize hnn : l.length = n at *
  have HF := Lib.hid hf
  have HA := Lib.hid ha
  have HN := Lib.hid hnn
  have h00 : Sl ((w.alloc (.cells #[] 5)).alloc (.cells #[.int .u8 1] 5)) (.slice (some ⟨w.heap.size, 0, none⟩) 0 0) (nw l 0).1 := ⟨_, 0, rfl, Nat.le_refl _, Rd.nil _ _⟩
  have h01 : Sl ((w.alloc (.cells #[] 5)).alloc (.cells #[.int .u8 1] 5)) (.slice (some ⟨w.heap.size + 1, 0, none⟩) 1 1) (nw l 0).2 := ⟨_, 1, rfl, Nat.le_refl _, by
    have := rd_one (w.alloc (.cells #[] 5)) 1 (by omega)
    rwa [show (w.alloc (.cells #[] 5)).heap.size = w.heap.size + 1 from by simp] at this⟩
  have H00 := Lib.hid h00
  have H01 := Lib.hid h01
  clear hf ha hnn h00 h01
  go_enter Try.func23, Try.ntmps23
  go_wp2
  go_loopg [6, 7, 17] n (fun g s6 s7 s17 wx => ∃ i : Nat, i + g = n ∧ s17 = .int .i64 (i : Int) ∧ Sl wx s6 (nw l i).1 ∧ Sl wx s7 (nw l i).2 ∧ Apart l i ∧ Ext w wx)
  case atStart => exact ⟨0, by omega, rfl, H00.out, H01.out, fun i k _ h => by omega, ((Ext.refl _).alloc _).alloc _⟩
  case round =>
    obtain ⟨i, hig, rfl, ⟨P, cp, rfl, hcp, hrp⟩, ⟨Z, cz, rfl, hcz, hrz⟩, hap, hx⟩ := hrel
    have HX := Lib.hid hx
    have HP := Lib.hid hrp
    have HZ := Lib.hid hrz
    have HCP := Lib.hid hcp
    have HCZ := Lib.hid hcz
    have HAP := Lib.hid hap
    clear hx hrp hrz hcp hcz hap
    cases gk with
    | zero =>
      obtain rfl : n = i := by omega
      clear hig
      go_wp2
      go_ret2
      exact .inl ⟨HAP.out, _, rfl, by rw [← HE.out HAP.out]; exact ⟨P, cp, rfl, HCP.out, HP.out⟩, HX.out⟩
    | succ g =>
      have hi : i < n := by omega
      have hiI : (i : Int) < (n : Int) := by omega
      obtain ⟨b1, o1, e1, hcx, hcy⟩ := (HA.out.ext HX.out).2 i (by rw [HN.out]; exact hi)
      subst e1
      go_wp2
      have hsm := HA.out.1
      have hpx := (hsm i).1
      have hpy := (hsm i).2
      have hnl := Pol.nw_len l i
      have hns := Pol.nw_sm l i
      have HNL := Lib.hid hnl
      have HNS := Lib.hid hns
      have HSM := Lib.hid hsm
      obtain ⟨u1, hu1⟩ : ∃ u, wr.alloc (.cells #[.int .u8 ((px l i : Nat) : Int), .int .u8 ((py l i : Nat) : Int)] 46) = u := ⟨_, rfl⟩
      have q0 : u1.cell? ⟨wr.heap.size, 0, none⟩ = some (.int .u8 ((px l i : Nat) : Int)) := by rw [← hu1, cell_of_row _ _ _ _ _ _ (heap_alloc_new wr _)]; rfl
      have q1 : u1.cell? ⟨wr.heap.size, 1, none⟩ = some (.int .u8 ((py l i : Nat) : Int)) := by rw [← hu1, cell_of_row _ _ _ _ _ _ (heap_alloc_new wr _)]; rfl
      have hxu : Ext wr u1 := by rw [← hu1]; exact (Ext.refl _).alloc _
      rw [hu1]
      have hlt : wr.heap.size < u1.heap.size := block_lt_of_cell q0
      obtain ⟨m, hm⟩ : ∃ m, py l i ^^^ ev (nw l i).1 (px l i) = m := ⟨_, rfl⟩
      have hml : m < 256 := by rw [← hm]; exact Gf.xor_lt _ _ hpy (Pol.ev_lt _ _ hns.1)
      have hevl := Pol.ev_lt _ (px l i) hns.1
      have FX := Lib.hid (show ∀ W, NewW u1 W → W.cell? ⟨wr.heap.size, 0, none⟩ = some (.int .u8 ((px l i : Nat) : Int)) from fun W hW => (hW.below.cell (p := ⟨wr.heap.size, 0, none⟩) hlt).trans q0)
      have FY := Lib.hid (show ∀ W, NewW u1 W → W.cell? ⟨wr.heap.size, 1, none⟩ = some (.int .u8 ((py l i : Nat) : Int)) from fun W hW => (hW.below.cell (p := ⟨wr.heap.size, 1, none⟩) hlt).trans q1)
      have HXU := Lib.hid (HX.out.trans hxu)
      have HWU := Lib.hid hxu
      have FC := Lib.hid (show ∀ W, NewW u1 W → Calls Try.prog 16 #[.pointer (some ⟨f, 0, none⟩), .slice P (nw l i).1.length cp, .int .u8 ((px l i : Nat) : Int)] W (fun e w' => e = .returned (.int .u8 ((ev (nw l i).1 (px l i) : Nat) : Int)) ∧ NewW u1 w') from fun W hW =>
        (peval f (nw l i).1 (px l i) P cp W (HF.out.ext (HXU.out.trans hW)) (HP.out.ext (HWU.out.trans hW)) hpx (by omega)).mono fun _ _ h => ⟨h.1, Ext.trans hW h.2⟩)
      have FA := Lib.hid (show ∀ W, NewW u1 W → Calls Try.prog 27 #[.int .u8 ((py l i : Nat) : Int), .int .u8 ((ev (nw l i).1 (px l i) : Nat) : Int)] W (fun e w' => e = .returned (.int .u8 ((m : Nat) : Int)) ∧ NewW u1 w') from fun W hW =>
        (add_is (py l i) (ev (nw l i).1 (px l i)) m hpy hevl hm W).mono fun _ _ h => ⟨h.1, by rw [← h.2]; exact hW⟩)
      have HMM := Lib.hid hm
      clear hu1 q0 q1 hxu hm hcx hcy hnl hns hsm
      refine wp_region_quiet (C := NewW u1) (by kernel_rfl) (by kernel_rfl) (show NewW u1 u1.drew from (Ext.refl u1).drew) ?_
      repeat (first
        | (refine wpQuiet_step (fun K hK => ?_); go_simp; refine ⟨_, fun _ _ => rfl, hK _ ?_⟩; clear hK K)
        | (refine wpQuiet_step (fun K hK => ?_); go_simp; refine ⟨.int .u8 ((px l i : Nat) : Int), fun W hW => ?_, hK _ ?_⟩; (focus (have h1 := FX.out W hW; go_simp; done)); clear hK K)
        | (refine wpQuiet_step (fun K hK => ?_); go_simp; refine ⟨.int .u8 ((py l i : Nat) : Int), fun W hW => ?_, hK _ ?_⟩; (focus (have h1 := FY.out W hW; go_simp; done)); clear hK K)
        | (refine wpQuiet_step (fun K hK => ?_); go_simp; refine ⟨_, fun W hW => FC.out W hW, hK _ ?_⟩; clear hK K)
        | (refine wpQuiet_step (fun K hK => ?_); go_simp; refine ⟨_, fun W hW => FA.out W hW, hK _ ?_⟩; clear hK K))
      refine wpQuiet_nil ?_
      intro u2 hu2
      have hc2 := FX.out u2 hu2
      have hz := peval f (nw l i).2 (px l i) Z cz u2 (HF.out.ext (HXU.out.trans hu2)) (HZ.out.ext (HWU.out.trans hu2)) hpx (by have := HNL.out; omega)
      have HU2 := Lib.hid hu2
      clear hu2
      by_cases h0 : ev (nw l i).2 (px l i) = 0
      · have hna : ¬ Apart l n := Pol.apart_not l HSM.out i n hi h0
        have hz' : Calls Try.prog 16 #[.pointer (some ⟨f, 0, none⟩), .slice Z (nw l i).2.length cz, .int .u8 ((px l i : Nat) : Int)] u2 (Tells (.int .u8 0) u2) := by
          rw [h0] at hz
          exact hz
        have HZE := Lib.hid hz'
        have HNA := Lib.hid hna
        clear hz hz' hna h0
        go_wp2_with fail
        refine HZE.out.mono ?_
        rintro e u3 ⟨rfl, hx3⟩
        have HX3 := Lib.hid (HXU.out.trans (HU2.out.trans hx3))
        clear hx3
        go_wp2_with fail
        refine (div_zero f (m : Int) u3).mono ?_
        rintro e u4 ⟨rfl, q, rfl⟩
        go_wp2
        go_ret2
        exact .inr ⟨HNA.out, _, rfl, sl_nil _, HX3.out.drewN q⟩
      · have hap' := Pol.apart_next l HSM.out i HAP.out h0
        have HA2 := Lib.hid hap'
        have HZE := Lib.hid hz
        have H0 := Lib.hid h0
        have hzl : ev (nw l i).2 (px l i) < 256 := Pol.ev_lt _ _ HNS.out.2
        obtain ⟨z, hzz⟩ : ∃ z, ev (nw l i).2 (px l i) = z := ⟨_, rfl⟩
        obtain ⟨t, htt⟩ : ∃ t, Gf.quo m z = t := ⟨_, rfl⟩
        have htl : t < 256 := by rw [← htt]; exact Gf.quo_lt _ _
        have hn1 : (nw l (i + 1)).1 = trim (Pol.addP (nw l i).1 (trim (Pol.mulP (nw l i).2 [t]))) := by
          rw [nw, HMM.out, hzz, htt]
        have hn2 : (nw l (i + 1)).2 = trim (Pol.mulP (nw l i).2 [px l i, 1]) := by rw [nw]
        have HN1 := Lib.hid hn1
        have HN2 := Lib.hid hn2
        have hz0 : z ≠ 0 := by rw [← hzz]; exact h0
        rw [hzz] at hzl
        have HZZ := Lib.hid hzz
        have HTT := Lib.hid htt
        have HZ0 := Lib.hid hz0
        clear hap' hz h0 hzz htt hn1 hn2 hz0
        go_wp2_with fail
        refine HZE.out.mono ?_
        rintro e u3 ⟨he, hx3⟩
        rw [HZZ.out] at he
        subst he
        have HX3 := Lib.hid (HU2.out.trans hx3)
        clear hx3 hc2
        go_wp2_with fail
        refine (div_is f m z t u3 (HF.out.ext (HXU.out.trans HX3.out)) hml hzl HZ0.out HTT.out).mono ?_
        rintro e u4 ⟨rfl, q, rfl⟩
        have HX4 := Lib.hid (HX3.out.drewN q)
        go_wp2_with fail
        have hmu := pmul f (nw l i).2 [t] Z (some ⟨u3.heap.size, 0, none⟩) cz 1 ((u3.drewN q).alloc (.cells #[.int .u8 (t : Int)] 5)) (HF.out.ext ((HXU.out.trans HX4.out).alloc _)) (HZ.out.ext ((HWU.out.trans HX4.out).alloc _)) (rd_one (u3.drewN q) t htl) HCZ.out (by simp) (by have := HNL.out; omega) (by simp)
        refine hmu.mono ?_
        rintro e u5 ⟨B, cB, rfl, hcB, hrB, hxB⟩
        have HRB := Lib.hid hrB
        have HCB := Lib.hid hcB
        have HX5 := Lib.hid ((HX4.out.alloc _).trans hxB)
        have hlB : (trim (Pol.mulP (nw l i).2 [t])).length ≤ 65536 := by
          have h1 := Pol.trim_le (Pol.mulP (nw l i).2 [t]) (i + 1) (fun j hj => Pol.mulP_len _ _ j (by have := HNL.out; simp; omega) (by simp))
          omega
        have HLB := Lib.hid hlB
        clear hrB hcB hxB hmu hlB
        go_wp2_with fail
        refine (padd (nw l i).1 (trim (Pol.mulP (nw l i).2 [t])) P B cp cB u5 (HP.out.ext (HWU.out.trans HX5.out)) HRB.out (by have := HNL.out; omega) HLB.out).mono ?_
        rintro e u6 ⟨D, cD, rfl, hcD, hrD, hxD⟩
        have HRD := Lib.hid hrD
        have HCD := Lib.hid hcD
        have HX6 := Lib.hid (HX5.out.trans hxD)
        clear hrD hcD hxD
        have hc6 := FX.out u6 HX6.out
        go_wp2_with fail
        have hmu := pmul f (nw l i).2 [px l i, 1] Z (some ⟨u6.heap.size, 0, none⟩) cz 2 (u6.alloc (.cells #[.int .u8 ((px l i : Nat) : Int), .int .u8 1] 5)) (HF.out.ext ((HXU.out.trans HX6.out).alloc _)) (HZ.out.ext ((HWU.out.trans HX6.out).alloc _)) (rd_two u6 (px l i) 1 hpx (by omega)) HCZ.out (by simp) (by have := HNL.out; omega) (by simp)
        refine hmu.mono ?_
        rintro e u7 ⟨E, cE, rfl, hcE, hrE, hxE⟩
        have HRE := Lib.hid hrE
        have HCE := Lib.hid hcE
        have HX7 := Lib.hid ((HX6.out.alloc _).trans hxE)
        have HX67 := Lib.hid ((Ext.refl u6).alloc (.cells #[.int .u8 ((px l i : Nat) : Int), .int .u8 1] 5) |>.trans hxE)
        clear hrE hcE hxE hmu hc6
        go_wp2
        go_roundg g
        case measure => omega
        case rel => exact ⟨i + 1, by omega, by go_num, by rw [HN1.out]; exact ⟨D, cD, rfl, HCD.out, HRD.out.ext HX67.out⟩, by rw [HN2.out]; exact ⟨E, cE, rfl, HCE.out, HRE.out⟩, HA2.out, HXU.out.trans HX7.out⟩

set_option maxHeartbeats 400000 in
theorem pat_of (f : Nat) (l : List (Nat × Nat)) (x : Nat) (A : Option Addr) (ca : Nat) (w : World) (hf : IsField w f) (ha : PRd w A l) (hl : l.length ≤ 4096) (hx : x < 256) (hd : Apart l l.length) :
    Calls Try.prog 24 #[.pointer (some ⟨f, 0, none⟩), .slice A l.length ca, .int .u8 (x : Int)] w (Tells (.tuple #[.int .u8 ((ev (thr l l.length) x : Nat) : Int), .int .i64 0]) w) := by
  have ht := pthrough f l A ca w hf ha hl
  have hln : (thr l l.length).length ≤ 65536 := by
    rw [← Pol.nw_thr l ha.1 hd]
    have := (Pol.nw_len l l.length).1
    omega
  have HT := Lib.hid ht
  have HF := Lib.hid hf
  have HD := Lib.hid hd
  have HL := Lib.hid hln
  clear ht hf hd ha hln
  go_enter Try.func24, Try.ntmps24
  go_wp2_with fail
  refine HT.out.mono ?_
  rintro e w1 (⟨_, v, rfl, ⟨B, c, rfl, hc, hr⟩, hx1⟩ | ⟨hn, _⟩)
  · have HR := Lib.hid hr
    have HX := Lib.hid hx1
    clear hr hx1
    go_wp2_with fail
    refine (peval f (thr l l.length) x B c w1 (HF.out.ext HX.out) HR.out hx HL.out).mono ?_
    rintro e w2 ⟨rfl, hx2⟩
    have HX2 := Lib.hid (HX.out.trans hx2)
    clear hx2
    go_wp2
    go_ret2
    exact ⟨rfl, HX2.out⟩
  · exact absurd HD.out hn

set_option maxHeartbeats 400000 in
theorem pat_twice (f : Nat) (l : List (Nat × Nat)) (x : Nat) (A : Option Addr) (ca : Nat) (w : World) (hf : IsField w f) (ha : PRd w A l) (hl : l.length ≤ 4096) (hd : ¬ Apart l l.length) :
    Calls Try.prog 24 #[.pointer (some ⟨f, 0, none⟩), .slice A l.length ca, .int .u8 (x : Int)] w (Tells (.tuple #[.int .u8 0, .int .i64 1]) w) := by
  have ht := pthrough f l A ca w hf ha hl
  have HT := Lib.hid ht
  have HD := Lib.hid hd
  clear ht hf hd ha
  go_enter Try.func24, Try.ntmps24
  go_wp2_with fail
  refine HT.out.mono ?_
  rintro e w1 (⟨hn, _⟩ | ⟨_, v, rfl, ⟨B, c, rfl, hc, hr⟩, hx1⟩)
  · exact absurd hn HD.out
  · have HX := Lib.hid hx1
    clear hr hx1
    go_wp2
    go_ret2
    exact ⟨rfl, HX.out⟩
end Go.Proofs.Ytagdialceelggaa
