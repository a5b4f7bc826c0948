/-
  What Divide of layer 2 does: a quotient, and what is left, of a lesser degree. Conditions: a field that New made, no more than 2^16 coefficients.
-/
import Derived.Test.YtagdialceelggaaPDivZ
import Derived.Test.YtagdialceelggaaPDeg
import Derived.Test.YtagdialceelggaaFDiv
import Derived.Test.YtagdialceelggaaDivM
import Derived.Test.YtagdialceelggaaPOwn
import Derived.Test.YtagdialceelggaaRound
import Derived.Deep.RegionHeld3
import Derived.Deep.DeepCutAuto
namespace Go.Proofs.Ytagdialceelggaa
open Go.RowKit Go.Shelf
open Pol (co Sm trim)
attribute [local go_sem] Oper.semAt_some

/-- The call's own variables, while it divides. -/
def Boxes (W : World) (s s9 s10 gq nq tr cr : Nat) (Ar : Option Addr) (f b0 o0 last d inv : Nat) : Prop :=
  Boxed W s 24 (.pointer (some ⟨f, 0, none⟩)) ∧ Boxed W (s + 1) 22 (.slice (some ⟨b0, o0, none⟩) (last + 1) d) ∧ Boxed W (s + 1 + 1) 22 (.slice (some ⟨gq, 0, none⟩) nq nq) ∧
    Boxed W (s + 1 + 1 + 1) 22 (.slice Ar tr cr) ∧ Boxed W s9 3 (.int .i64 (last : Int)) ∧ Boxed W s10 5 (.int .u8 (inv : Int))
theorem Boxes.keep {W W' : World} {s s9 s10 gq nq tr cr : Nat} {Ar : Option Addr} {f b0 o0 last d inv g : Nat} (h : Boxes W s s9 s10 gq nq tr cr Ar f b0 o0 last d inv) (hg : W.grownBy W' (some g)) (h1 : s + 1 + 1 + 1 < g) (h2 : s9 < g) (h3 : s10 < g) :
    Boxes W' s s9 s10 gq nq tr cr Ar f b0 o0 last d inv := by
  obtain ⟨k1, k2, k3, k4, k5, k6⟩ := h
  have ne : ∀ x, x < g → some x ≠ some g := fun x hx e => by cases e; omega
  exact ⟨Boxed.kept k1 hg (ne _ (by omega)), Boxed.kept k2 hg (ne _ (by omega)), Boxed.kept k3 hg (ne _ (by omega)), Boxed.kept k4 hg (ne _ (by omega)), Boxed.kept k5 hg (ne _ (by omega)), Boxed.kept k6 hg (ne _ (by omega))⟩
theorem box_own {W W' : World} {row : Option Nat} {B : Nat} {t : TypeId} {v : Value} (h : Boxed W B t v) (hg : W.grownBy W' row) (hr : ∀ r, row = some r → ∃ o : Obj, W.heap[r]? = some o ∧ o.isCells = false) : Boxed W' B t v :=
  Boxed.kept h hg (fun e => by
    obtain ⟨o, ho, hc⟩ := hr B e.symm
    rw [show W.heap[B]? = _ from h] at ho
    cases ho
    cases hc)
theorem cells_own {W W' : World} {row : Option Nat} {g n : Nat} {F : Nat → Nat} (h : Cells W g n F) (hg : W.grownBy W' row) (hr : ∀ r, row = some r → ∃ o : Obj, W.heap[r]? = some o ∧ o.isCells = false) : Cells W' g n F := fun i hi =>
  ⟨cell_kept (h i hi).1 hg hr, (frozen_kept (h i hi).1 hg hr).trans (h i hi).2⟩
theorem boxes_own {W W' : World} {row : Option Nat} {s s9 s10 gq nq tr cr : Nat} {Ar : Option Addr} {f b0 o0 last d inv : Nat} (h : Boxes W s s9 s10 gq nq tr cr Ar f b0 o0 last d inv) (hg : W.grownBy W' row) (hr : ∀ r, row = some r → ∃ o : Obj, W.heap[r]? = some o ∧ o.isCells = false) :
    Boxes W' s s9 s10 gq nq tr cr Ar f b0 o0 last d inv := by
  obtain ⟨k1, k2, k3, k4, k5, k6⟩ := h
  exact ⟨box_own k1 hg hr, box_own k2 hg hr, box_own k3 hg hr, box_own k4 hg hr, box_own k5 hg hr, box_own k6 hg hr⟩
/-- What holds between two rounds: the quotient's cells, and the rest's. -/
def DivSt (ra rb : List Nat) (gq nq gr tr last : Nat) (ps : List Nat) (W : World) : Prop :=
  ∃ fq fr, Cells W gq nq fq ∧ Cells W gr tr fr ∧ (∀ i, fq i < 256) ∧ (∀ j, fr j < 256) ∧ (ps = downs nq ps.length → DivInv ra rb nq last ps.length fq fr)
theorem divSt_own {W W' : World} {row : Option Nat} {ra rb : List Nat} {gq nq gr tr last : Nat} {ps : List Nat} (h : DivSt ra rb gq nq gr tr last ps W) (hg : W.grownBy W' row) (hr : ∀ r, row = some r → ∃ o : Obj, W.heap[r]? = some o ∧ o.isCells = false) : DivSt ra rb gq nq gr tr last ps W' := by
  obtain ⟨fq, fr, h1, h2, h3⟩ := h
  exact ⟨fq, fr, cells_own h1 hg hr, cells_own h2 hg hr, h3⟩
/-- A byte. -/
def Byte (_ v : Nat) : Prop := v < 256

set_option maxRecDepth 100000 in
set_option maxHeartbeats 4000000 in
theorem pdiv_some (f : Nat) (a b : List Nat) (A B : Option Addr) (c d : Nat) (w : World) (hf : IsField w f) (ha : Rd w A a) (hb : Rd w B b) (hca : a.length ≤ c) (hcb : b.length ≤ d) (hla : a.length ≤ 65536) (hlb : b.length ≤ 65536) (h0 : trim b ≠ []) :
    Calls Try.prog 22 #[.pointer (some ⟨f, 0, none⟩), .slice A a.length c, .slice B b.length d] w (Quots a b w) := by
  have htb := fun u (hx : Ext w u) => ptrimmed b B d u (hb.ext hx) hcb hlb
  have hta := fun u (hx : Ext w u) => ptrim_own a A c u (ha.ext hx) hca hla
  have hlb' := List.length_pos_iff.2 h0
  have hend := divInv_end a b
  have hstep := divInv_step (trim a) (trim b)
  have hstart := divInv_start (trim a) (trim b)
  have hrb := hb.trim
  have hra0 : trim a ≠ [] → co (trim a) ((trim a).length - 1) ≠ 0 := fun h => by rw [Pol.co_trim]; exact Pol.trim_last a h
  have hrb0 : co (trim b) ((trim b).length - 1) ≠ 0 := by rw [Pol.co_trim]; exact Pol.trim_last b h0
  have hla' := Pol.trim_len a
  have HSMA := Lib.hid ha.1.trim
  have hlb2 := Pol.trim_len b
  unfold Cuts at htb
  generalize hRA : trim a = ra at *
  generalize hRB : trim b = rb at *
  obtain ⟨last, hlast⟩ : ∃ last, rb.length = last + 1 := ⟨rb.length - 1, by omega⟩
  generalize hTR : ra.length = tr at *
  have hrs : Sm rb := hrb.1
  obtain ⟨p, hp⟩ : ∃ p, co rb last = p := ⟨_, rfl⟩
  have hp0 : p ≠ 0 := by rw [← hp]; rw [hlast] at hrb0; simpa using hrb0
  have hp256 : p < 256 := by rw [← hp]; exact hrs last
  obtain ⟨inv, hinv⟩ : ∃ v, Gf.quo 1 p = v := ⟨_, rfl⟩
  have hinv256 : inv < 256 := by rw [← hinv]; exact Gf.quo_lt _ _
  obtain ⟨b0, o0, hBA, hBC⟩ := hrb.addr hlb'
  subst hBA
  have hBl := hBC last (by omega)
  rw [hp] at hBl
  rw [hlast] at htb
  have HTB := Lib.hid htb
  have HTA := Lib.hid hta
  have HEND := Lib.hid hend
  have HSTEP := Lib.hid hstep
  have HSTART := Lib.hid hstart
  have HRB := Lib.hid hrb
  have HRA0 := Lib.hid hra0
  have HLAST := Lib.hid hlast
  have HTR := Lib.hid hTR
  have HRA := Lib.hid hRA
  have HRB' := Lib.hid hRB
  have HP := Lib.hid hp
  have HP0 := Lib.hid hp0
  have HINV := Lib.hid hinv
  have HF := Lib.hid hf
  have HBL := Lib.hid hBl
  have HRS := Lib.hid hrs
  clear htb hta hend hstep hstart hrb hra0 hlast hTR hRA hRB hp hp0 hinv hf hBl hrs hrb0 h0 hBC ha hb
  have hlasti : last ≤ 65536 := by have := HLAST.out; omega
  refine (callsIn_wide (n := 4)).1 ?_
  refine callsIn_of_wp_marks Try.func22 rfl trivial ?_ rfl
  refine wpIn_wide.2 ?_
  simp only [Try.ntmps22, List.size_toArray, List.length_cons, List.length_nil, Nat.reduceAdd, Nat.reduceSub, Array.replicate_succ, Array.replicate_zero, List.push_toArray, List.append_toArray, List.nil_append, List.cons_append]
  go_wp2_with fail
  refine (HTB.out _ ((((Ext.refl w).alloc _).alloc _).alloc _ |>.alloc _)).mono ?_
  rintro e w1 ⟨rfl, hx⟩
  obtain ⟨b1, b2, b3, b4⟩ := four_boxes w 24 22 22 22 (.pointer (some ⟨f, 0, none⟩)) (.slice (some ⟨b0, o0, none⟩) b.length d) (.slice none 0 0) (.slice none 0 0)
  have c2 := (box_ext b2 hx).cell
  have f2 := (box_ext b2 hx).frozen
  have k1 := box_far (box_ext b1 hx) (g := w.heap.size + 1) (o := 0) (u := .slice (some ⟨b0, o0, none⟩) (last + 1) d) (by omega)
  have k2 := (box_ext b2 hx).set (.slice (some ⟨b0, o0, none⟩) (last + 1) d)
  have k3 := box_far (box_ext b3 hx) (g := w.heap.size + 1) (o := 0) (u := .slice (some ⟨b0, o0, none⟩) (last + 1) d) (by omega)
  have k4 := box_far (box_ext b4 hx) (g := w.heap.size + 1) (o := 0) (u := .slice (some ⟨b0, o0, none⟩) (last + 1) d) (by omega)
  have HX := Lib.hid ((((((Ext.refl w).alloc _).alloc _).alloc _ |>.alloc _).trans hx).setCell (p := ⟨w.heap.size + 1, 0, none⟩) (by simp) (.slice (some ⟨b0, o0, none⟩) (last + 1) d))
  obtain ⟨w2, hw2⟩ : ∃ u, w1.setCell ⟨w.heap.size + 1, 0, none⟩ (.slice (some ⟨b0, o0, none⟩) (last + 1) d) = u := ⟨_, rfl⟩
  have HW2 := Lib.hid hw2
  have K1 := Lib.hid k1
  have K2 := Lib.hid k2
  have K3 := Lib.hid k3
  have K4 := Lib.hid k4
  clear hx b1 b2 b3 b4 k1 k2 k3 k4 hw2
  have t1 : (((last + 1 : Nat) : Int) == 0) = false := by simp; omega
  have t2 : ((last : Int) + 1 == 0) = false := by simp; omega
  go_wp2_with fail
  have e1 := box_alloc K1.out (.cells #[.int .i64 (last : Int)] 3)
  have e2 := box_alloc K2.out (.cells #[.int .i64 (last : Int)] 3)
  have e3 := box_alloc K3.out (.cells #[.int .i64 (last : Int)] 3)
  have e4 := box_alloc K4.out (.cells #[.int .i64 (last : Int)] 3)
  have e9 := Boxed.new (w1.setCell ⟨w.heap.size + 1, 0, none⟩ (.slice (some ⟨b0, o0, none⟩) (last + 1) d)) 3 (.int .i64 (last : Int))
  have hxu := HX.out.alloc (.cells #[.int .i64 (last : Int)] 3)
  have hss : (w1.setCell ⟨w.heap.size + 1, 0, none⟩ (.slice (some ⟨b0, o0, none⟩) (last + 1) d)).heap.size = w1.heap.size := by simp [World.setCell]
  have hs9 : w.heap.size + 1 + 1 + 1 < w1.heap.size := by have := K4.out.lt; rw [hss] at this; exact this
  rw [hss] at e9
  obtain ⟨u, hu⟩ : ∃ u, (w1.setCell ⟨w.heap.size + 1, 0, none⟩ (.slice (some ⟨b0, o0, none⟩) (last + 1) d)).alloc (.cells #[.int .i64 (last : Int)] 3) = u := ⟨_, rfl⟩
  rw [hu] at e1 e2 e3 e4 e9 hxu ⊢
  generalize w1.heap.size = s9 at e9 hs9 ⊢
  clear hu hss c2 f2 K1 K2 K3 K4 HX HW2 t1 t2
  have E1 := Lib.hid e1
  have E2 := Lib.hid e2
  have E3 := Lib.hid e3
  have E4 := Lib.hid e4
  have E9 := Lib.hid e9
  have HXU := Lib.hid hxu
  have q1 := e1.cell
  have q2 := e2.cell
  have q9 := e9.cell
  have qb : u.cell? ⟨b0, o0 + last, none⟩ = some (.int .u8 (p : Int)) := (hxu.below.cell (p := ⟨b0, o0 + last, none⟩) (block_lt_of_cell HBL.out)).trans HBL.out
  have n1 : ¬ (u.heap.size = w.heap.size) := by have := e1.lt; omega
  have n2 : ¬ (u.heap.size = w.heap.size + 1) := by have := e2.lt; omega
  have n9 : ¬ (u.heap.size = s9) := by have := e9.lt; omega
  have nb : ¬ (u.heap.size = b0) := by have h : b0 < u.heap.size := block_lt_of_cell qb; omega
  have hiv := fun W (hW : Ext u W) => inv_is f p inv W (HF.out.ext (hxu.trans hW)) hp256 HP0.out HINV.out
  have HIV := Lib.hid hiv
  clear hiv e1 e2 e3 e4 e9 hxu
  have hli : (last : Int) < (last : Int) + 1 := by omega
  go_region_held3 (fun w' => w'.cell? ⟨w.heap.size, 0, none⟩ = some (.pointer (some ⟨f, 0, none⟩)) ∧ w'.cell? ⟨w.heap.size + 1, 0, none⟩ = some (.slice (some ⟨b0, o0, none⟩) (last + 1) d) ∧
      w'.cell? ⟨s9, 0, none⟩ = some (.int .i64 (last : Int)) ∧ w'.cell? ⟨b0, o0 + last, none⟩ = some (.int .u8 (p : Int)))
    (first | go_keep)
    (first
      | (go_at_call 35; refine (HIV.out u.drew (Ext.refl u).drew).mono ?_; rintro e w4 ⟨rfl, q, hq⟩
         have z1 : w4.cell? ⟨w.heap.size, 0, none⟩ = some (.pointer (some ⟨f, 0, none⟩)) := by rw [hq]; exact q1
         have z2 : w4.cell? ⟨w.heap.size + 1, 0, none⟩ = some (.slice (some ⟨b0, o0, none⟩) (last + 1) d) := by rw [hq]; exact q2
         have z9 : w4.cell? ⟨s9, 0, none⟩ = some (.int .i64 (last : Int)) := by rw [hq]; exact q9
         have zb : w4.cell? ⟨b0, o0 + last, none⟩ = some (.int .u8 (p : Int)) := by rw [hq]; exact qb
         have m1 : ¬ (w4.heap.size = w.heap.size) := by rw [hq]; exact n1
         have m2 : ¬ (w4.heap.size = w.heap.size + 1) := by rw [hq]; exact n2
         have m9 : ¬ (w4.heap.size = s9) := by rw [hq]; exact n9
         have mb : ¬ (w4.heap.size = b0) := by rw [hq]; exact nb
         have HW4 := Lib.hid (show Ext u w4 from by rw [hq]; exact (Ext.refl u).drew.drewN q)
         have HS4 := Lib.hid (show w4.heap.size = u.heap.size from by rw [hq]; rfl)
         clear hq)
      | (go_at_call 35; refine (HIV.out (u.drew.alloc (.cells #[.int .u8 0] 5)) ((Ext.refl u).drew.alloc _)).mono ?_; rintro e w4 ⟨rfl, q, hq⟩
         have z1 : w4.cell? ⟨w.heap.size, 0, none⟩ = some (.pointer (some ⟨f, 0, none⟩)) := by rw [hq]; exact ((Ext.refl u).drew.alloc _).below.cell (p := ⟨w.heap.size, 0, none⟩) (block_lt_of_cell q1) |>.trans q1
         have z2 : w4.cell? ⟨w.heap.size + 1, 0, none⟩ = some (.slice (some ⟨b0, o0, none⟩) (last + 1) d) := by rw [hq]; exact ((Ext.refl u).drew.alloc _).below.cell (p := ⟨w.heap.size + 1, 0, none⟩) (block_lt_of_cell q2) |>.trans q2
         have z9 : w4.cell? ⟨s9, 0, none⟩ = some (.int .i64 (last : Int)) := by rw [hq]; exact ((Ext.refl u).drew.alloc _).below.cell (p := ⟨s9, 0, none⟩) (block_lt_of_cell q9) |>.trans q9
         have zb : w4.cell? ⟨b0, o0 + last, none⟩ = some (.int .u8 (p : Int)) := by rw [hq]; exact ((Ext.refl u).drew.alloc _).below.cell (p := ⟨b0, o0 + last, none⟩) (block_lt_of_cell qb) |>.trans qb
         have zz := (Boxed.new u.drew 5 (.int .u8 0))
         have zc : w4.cell? ⟨u.heap.size, 0, none⟩ = some (.int .u8 0) := by rw [hq]; exact zz.cell
         have zf : w4.frozen? ⟨u.heap.size, 0, none⟩ = false := by rw [hq]; exact zz.frozen
         have HZB := Lib.hid (show Boxed w4 u.heap.size 5 (.int .u8 0) from by rw [hq]; exact zz)
         have HW4 := Lib.hid (show Ext u w4 from by rw [hq]; exact ((Ext.refl u).drew.alloc _).drewN q)
         clear hq zz))
  clear m1 m2 m9 mb z1 z2 z9 zb n1 n2 n9 nb q1 q2 q9 qb
  obtain ⟨v, hv⟩ : ∃ v, w4.alloc (.cells #[.int .u8 (inv : Int)] 5) = v := ⟨_, rfl⟩
  have hxv : Ext u v := by rw [← hv]; exact HW4.out.alloc _
  have e10 : Boxed v w4.heap.size 5 (.int .u8 (inv : Int)) := by rw [← hv]; exact Boxed.new _ _ _
  have g10 : s9 < w4.heap.size := by rw [HS4.out]; exact E9.out.lt
  rw [hv]
  generalize w4.heap.size = s10 at e10 g10 ⊢
  clear hv HS4 HW4
  rotate_left
  clear z1 z2 z9 zb n1 n2 n9 nb q1 q2 q9 qb zc zf
  obtain ⟨v, hv⟩ : ∃ v, w4.setCell ⟨u.heap.size, 0, none⟩ (.int .u8 (inv : Int)) = v := ⟨_, rfl⟩
  have hxv : Ext u v := by rw [← hv]; exact HW4.out.setCell (p := ⟨u.heap.size, 0, none⟩) (Nat.le_refl _) _
  have e10 : Boxed v u.heap.size 5 (.int .u8 (inv : Int)) := by rw [← hv]; exact HZB.out.set _
  have g10 : s9 < u.heap.size := E9.out.lt
  rw [hv]
  generalize u.heap.size = s10 at e10 g10 ⊢
  clear hv HZB HW4
  all_goals
    have E1' := Lib.hid (box_ext E1.out hxv)
    have E2' := Lib.hid (box_ext E2.out hxv)
    have E3' := Lib.hid (box_ext E3.out hxv)
    have E4' := Lib.hid (box_ext E4.out hxv)
    have E9' := Lib.hid (box_ext E9.out hxv)
    have E10 := Lib.hid e10
    have HXV := Lib.hid (HXU.out.trans hxv)
    clear E1 E2 E3 E4 E9 e10 hxv HXU HIV hli
    go_wp2_with fail
    refine (HTA.out v HXV.out).mono ?_
    rintro e w5 ⟨Ar, cr, gr, he, hcr, hgr, hcl, hx5⟩
    rw [HTR.out] at he hcr hgr hcl
    subst he
    have F1 := Lib.hid (box_far (box_ext E1'.out hx5) (g := w.heap.size + 1 + 1 + 1) (o := 0) (u := .slice Ar tr cr) (by omega))
    have F2 := Lib.hid (box_far (box_ext E2'.out hx5) (g := w.heap.size + 1 + 1 + 1) (o := 0) (u := .slice Ar tr cr) (by omega))
    have F3 := Lib.hid (box_far (box_ext E3'.out hx5) (g := w.heap.size + 1 + 1 + 1) (o := 0) (u := .slice Ar tr cr) (by omega))
    have F4 := Lib.hid ((box_ext E4'.out hx5).set (.slice Ar tr cr))
    have F9 := Lib.hid (box_far (box_ext E9'.out hx5) (g := w.heap.size + 1 + 1 + 1) (o := 0) (u := .slice Ar tr cr) (by omega))
    have F10 := Lib.hid (box_far (box_ext E10.out hx5) (g := w.heap.size + 1 + 1 + 1) (o := 0) (u := .slice Ar tr cr) (by omega))
    have c4 := (box_ext E4'.out hx5).cell
    have f4 := (box_ext E4'.out hx5).frozen
    have hvs : s10 < v.heap.size := E10.out.lt
    have hgr' : 0 < tr → Ar = some ⟨gr, 0, none⟩ ∧ v.heap.size ≤ gr := hgr
    have HGR := Lib.hid hgr'
    have HX5 := Lib.hid hx5
    have HCL := Lib.hid hcl
    clear E1' E2' E3' E4' E9' E10 hgr hgr' hx5 hcl
    have HXX := Lib.hid ((HXV.out.trans HX5.out).setCell (p := ⟨w.heap.size + 1 + 1 + 1, 0, none⟩) (by simp; omega) (.slice Ar tr cr))
    go_upto_region 9 with (fail)
    obtain ⟨w6, hw6⟩ : ∃ u, w5.setCell ⟨w.heap.size + 1 + 1 + 1, 0, none⟩ (.slice Ar tr cr) = u := ⟨_, rfl⟩
    have hcl6 : Cells w6 gr tr (co ra) := by
      rw [← hw6]
      by_cases h0 : 0 < tr
      · exact HCL.out.keep (grown_set _ _ _ _) (fun e => by have := (HGR.out h0).2; cases e; omega)
      · exact fun i hi => absurd hi (by omega)
    have hs6 : v.heap.size ≤ w6.heap.size := by rw [← hw6]; simpa [World.setCell] using HX5.out.size
    have hgl : 0 < tr → gr < w6.heap.size := fun h => block_lt_of_cell (hcl6 0 h).1
    have HCL6 := Lib.hid hcl6
    have HGL := Lib.hid hgl
    rw [hw6] at F1 F2 F3 F4 F9 F10 HXX ⊢
    clear hw6 c4 f4 hcl6 hgl HCL HXV HX5
    obtain ⟨nq, hnq⟩ : ∃ nq, tr - last = nq := ⟨_, rfl⟩
    have k4 := F4.out.cell
    have k9 := F9.out.cell
    have G3 := Lib.hid (box_alloc F3.out (.cells (bt nq fun _ => 0) 5))
    have k3 := G3.out.cell
    have fr3 := G3.out.frozen
    have HNQ := Lib.hid hnq
    have hnq2 : nq ≤ tr := by omega
    have hnq3 : nq ≤ 65536 := by omega
    by_cases hge : last ≤ tr
    · have hmk := fun W => run_make_u8 nq (by omega) W
      have hcast : (nq : Int) = (tr : Int) - (last : Int) := by omega
      have hI : ¬ ((tr : Int) - (last : Int) < 0) := by omega
      have hI2 : (last : Int) ≤ (tr : Int) := by omega
      rw [hcast] at hmk
      clear hcast hnq
      go_wp2_with fail
      clear hmk hI hI2
      obtain ⟨w7, hw7⟩ : ∃ u, (w6.alloc (.cells (bt nq fun _ => 0) 5)).setCell ⟨w.heap.size + 1 + 1, 0, none⟩ (.slice (some ⟨w6.heap.size, 0, none⟩) nq nq) = u := ⟨_, rfl⟩
      have hbx : Boxes w7 w.heap.size s9 s10 w6.heap.size nq tr cr Ar f b0 o0 last d inv := by
        rw [← hw7]
        exact ⟨box_far (box_alloc F1.out _) (by omega), box_far (box_alloc F2.out _) (by omega), G3.out.set _, box_far (box_alloc F4.out _) (by omega), box_far (box_alloc F9.out _) (by omega), box_far (box_alloc F10.out _) (by omega)⟩
      have hcq : Cells w7 w6.heap.size nq (fun _ => 0) := by
        rw [← hw7]
        exact (Blk.new w6 nq (fun _ => 0)).cells.keep (grown_set _ _ _ _) (fun e => by injection e with e; omega)
      have hcr7 : Cells w7 gr tr (co ra) := by
        rw [← hw7]
        by_cases h0 : 0 < tr
        · exact (HCL6.out.keep (World.grownBy_alloc w6 _ none) (by simp)).keep (grown_set _ _ _ _) (fun e => by have := (HGR.out h0).2; cases e; omega)
        · exact fun i hi => absurd hi (by omega)
      have hx7 : Ext w w7 := by
        rw [← hw7]
        exact (HXX.out.alloc _).setCell (p := ⟨w.heap.size + 1 + 1, 0, none⟩) (by simp; omega) _
      have hs7 : w7.heap.size = w6.heap.size + 1 := by rw [← hw7]; simp [World.setCell]
      rw [hw7]
      have HS7 := Lib.hid hs7
      have HBX := Lib.hid hbx
      have HCQ := Lib.hid hcq
      have HCR := Lib.hid hcr7
      have HX7 := Lib.hid hx7
      clear hw7 hbx hcq hcr7 hx7 hs7 k3 k4 k9 fr3 G3 F1 F2 F3 F4 F9 F10 HXX HCL6
      have hs6' : s10 < w6.heap.size := by omega
      have hgl' : 0 < tr → gr < w6.heap.size := HGL.out
      have HGQ := Lib.hid hgl'
      clear hgl' HGL
      generalize w6.heap.size = gq at *
      refine (back_calls _ _ _ _).mono ?_
      rintro e w8 ⟨rfl, hw8⟩
      have hx8 : Ext w7 w8 := by rw [hw8]; exact (Ext.refl _).alloc _
      have hb8 : Boxed w8 w7.heap.size 22 (.slice (some ⟨gq, 0, none⟩) nq nq) := by rw [hw8]; exact Boxed.new _ _ _
      have hbs : gq < w7.heap.size := by rw [HS7.out]; omega
      have hb0 : b0 < w.heap.size := block_lt_of_cell HBL.out
      have hfl : f < w.heap.size := HF.out.lt
      obtain ⟨q1, q2, q3, q4, q5, q6⟩ := HBX.out
      have hbx8 : Boxes w8 w.heap.size s9 s10 gq nq tr cr Ar f b0 o0 last d inv := ⟨box_ext q1 hx8, box_ext q2 hx8, box_ext q3 hx8, box_ext q4 hx8, box_ext q5 hx8, box_ext q6 hx8⟩
      have hst8 : DivSt ra rb gq nq gr tr last [] w8 := ⟨fun _ => 0, co ra, HCQ.out.ext hx8, HCR.out.ext hx8, fun _ => (by decide : (0 : Nat) < 256), HSMA.out, fun _ => by have := HSTART.out last; rwa [HNQ.out] at this⟩
      have hxw8 : Ext w w8 := HX7.out.trans hx8
      have hlt8 : w7.heap.size < w8.heap.size := hb8.lt
      clear q1 q2 q3 q4 q5 q6 hw8 hx8
      generalize w7.heap.size = Bs at *
      have HB8 := Lib.hid hb8
      have HBX8 := Lib.hid hbx8
      have HST8 := Lib.hid hst8
      have HXW8 := Lib.hid hxw8
      clear hb8 hbx8 hst8 hxw8 HBX HCQ HCR HX7 HS7 HSTART
      go_wp2_with fail
      refine (wpIn_wide (n := 4)).1 ?_
      refine' wpIn_rangeFunc_ownG rfl (by omega) (gf := 39) (lb := #[.pointer (some ⟨Bs, 0, none⟩)]) rfl trivial (enters_of Try.func39 (by kernel_rfl) rfl)
        (back_stops _ (by omega) Bs nq nq (some ⟨gq, 0, none⟩) Byte (by omega) w8 hlt8 (fun b o e h => by cases e; omega) HB8.out.cell (fun i hi => by
          obtain ⟨fq, fr, h1, h2, h3, h4, h5⟩ := HST8.out
          exact ⟨gq, 0, fq i, rfl, h3 i, by rw [Nat.zero_add]; exact (h1 i hi).1⟩))
        KpB.trans (KpB.put hlt8 (fun b o e h => by cases e; omega)) (Below.refl _ _) (fun _ => rfl)
        (fun pre W => (DivSt ra rb gq nq gr tr last (pre.map fun x => x.1.1) W ∧ Boxes W w.heap.size s9 s10 gq nq tr cr Ar f b0 o0 last d inv) ∧ Below w.heap.size w W)
        (fun _ _ _ => False)
        (OwnFrom.and (Own.from (fun s A B row hs hg hr => ⟨divSt_own hs.1 hg hr, boxes_own hs.2 hg hr⟩) _) (ownFrom_below (Nat.le_refl _) (by omega)))
        (fun _ _ _ _ _ hs _ _ => hs)
        ⟨⟨HST8.out, HBX8.out⟩, HXW8.out.below⟩
        _ ?assign ?body ?done ?stop
      case assign =>
        intro l x W K hK
        dsimp only [plv]
        gi_wp2
        exact hK
      case body =>
        rintro lq pre ⟨⟨p', pv⟩, hp', hpv⟩ W ⟨⟨⟨fq, fr, hq, hr, hq256, hr256, hinvr⟩, hbx⟩, hB⟩ hlen
        have hpn : p' < nq := hp'
        have hpl : p' + last < tr := by have := HNQ.out; omega
        have htr : 0 < tr := by omega
        obtain ⟨hAr, hgrl⟩ := HGR.out htr
        have hgq := HGQ.out htr
        subst hAr
        obtain ⟨x1, x2, x3, x4, x5, x6⟩ := hbx
        have d1 := Boxed.cell x1
        have d3 := Boxed.cell x3
        have d4 := Boxed.cell x4
        have d5 := Boxed.cell x5
        have d6 := Boxed.cell x6
        have dr := (hr (p' + last) hpl).1
        have dq := (hq p' hpn).1
        have dqf := (hq p' hpn).2
        have hpI : (p' : Int) < (nq : Int) := by omega
        have hplI : ((p' + last : Nat) : Int) < (tr : Int) := by omega
        have hw := IntWalk.i64_in ((p' : Int) + (last : Int)) (by omega)
        obtain ⟨s, hs⟩ : ∃ s, p' + last = s := ⟨_, rfl⟩
        have hw2 : IntKind.i64.wrap ((p' : Int) + (last : Int)) = (s : Int) := by rw [hw]; omega
        rw [hs] at dr hplI
        obtain ⟨vv, hvv⟩ : ∃ vv, Gf.mul (fr s) inv = vv := ⟨_, rfl⟩
        have hvv256 : vv < 256 := by rw [← hvv]; exact Gf.mul_lt _ _
        have HM := Lib.hid (show ∀ q, Calls Try.prog 28 #[.pointer (some ⟨f, 0, none⟩), .int .u8 ((fr s : Nat) : Int), .int .u8 (inv : Int)] (W.drewN q) (Hands (.int .u8 (vv : Int)) (W.drewN q)) from fun q => mul_is f (fr s) inv vv (W.drewN q) ((HF.out.ext ⟨hB⟩).drewN q) (hr256 s) hinv256 hvv)
        have HVV := Lib.hid hvv
        have HSS := Lib.hid hs
        have HX1 := Lib.hid x1
        have HX2 := Lib.hid x2
        have HX3 := Lib.hid x3
        have HX4 := Lib.hid x4
        have HX5 := Lib.hid x5
        have HX6 := Lib.hid x6
        have HQ := Lib.hid hq
        have HR := Lib.hid hr
        have HQ256 := Lib.hid hq256
        have HR256 := Lib.hid hr256
        have HINVR := Lib.hid hinvr
        have HB := Lib.hid hB
        clear hvv hs hw x1 x2 x3 x4 x5 x6 hq hr hq256 hr256 hinvr hB
        gi_wp2
        refine wpIn_region_quiet_tail 12 (fun w' => ∃ q, w' = W.drewN q) (by kernel_rfl) (by kernel_rfl) (by kernel_rfl) (fun ⟨_, _, h⟩ => h) ⟨1, rfl⟩ ?_
        simp only [List.take_succ_cons, List.take_zero, List.drop_succ_cons, List.drop_zero]
        repeat (quiet_step (first | (go_at_call 28; exact quiet_hands (HM.out _))))
        refine wpQuiet_nil ?_
        rintro _ ⟨q, rfl⟩
        go_wp2
        obtain ⟨V, hV⟩ : ∃ V, (W.drewN q).setCell ⟨gq, p', none⟩ (.int .u8 (vv : Int)) = V := ⟨_, rfl⟩
        have hg1 : W.grownBy V (some gq) := by rw [← hV]; exact (grown_drewN W q _).trans (grown_set _ _ _ _)
        have hko1 : KeepsOthers W V := by rw [← hV]; exact (keeps_drewN W q).trans (KeepsOthers.setCell _ _ _)
        have hq1 : Cells V gq nq (upd fq p' vv) := by rw [← hV]; exact (HQ.out.drewN q).store p' vv
        have hr1 : Cells V gr tr fr := HR.out.keep hg1 (fun e => by injection e with e; omega)
        have hbx1 : Boxes V w.heap.size s9 s10 gq nq tr cr (some ⟨gr, 0, none⟩) f b0 o0 last d inv := Boxes.keep ⟨HX1.out, HX2.out, HX3.out, HX4.out, HX5.out, HX6.out⟩ hg1 (by omega) (by omega) (by omega)
        have hB1 : Below w.heap.size w V := HB.out.grown hg1 HB.out.size (fun k e => by injection e with e; omega)
        rw [hV]
        clear hV d1 d3 d4 d5 d6 dr dq dqf
        obtain ⟨x1, x2, x3, x4, x5, x6⟩ := hbx1
        have d1 := Boxed.cell x1
        have d2 := Boxed.cell x2
        have d3 := Boxed.cell x3
        have d4 := Boxed.cell x4
        have dq := (hq1 p' hpn).1
        rw [show upd fq p' vv p' = vv from by unfold upd; rw [if_pos rfl]] at dq
        have hsl := fun U => run_from_u8 gr 0 tr cr p' (by omega) (by omega) U
        rw [Nat.zero_add] at hsl
        have hrbV : Rd V (some ⟨b0, o0, none⟩) rb := HRB.out.ext ⟨hB1⟩
        have hct := fun k => paddm f rb (some ⟨b0, o0, none⟩) gr p' tr (tr - p') (cr - p') d vv fr (V.drewN k) ((HF.out.ext ⟨hB1⟩).drewN k) (hrbV.drewN k) hvv256 (hr1.drewN k) (fun j _ => HR256.out j)
          (by omega) (fun b o e h => by injection e with e; injection e with e1 e2; omega) (by have := HLAST.out; omega) (by have := HLAST.out; omega) (by omega)
        rw [HLAST.out] at hct
        have HCT := Lib.hid hct
        have HG1 := Lib.hid hg1
        have HKO := Lib.hid hko1
        have HQ1 := Lib.hid hq1
        have HR1 := Lib.hid hr1
        have HBX1 := Lib.hid (show Boxes V w.heap.size s9 s10 gq nq tr cr (some ⟨gr, 0, none⟩) f b0 o0 last d inv from ⟨x1, x2, x3, x4, x5, x6⟩)
        have HB1 := Lib.hid hB1
        clear hct hg1 hko1 hq1 hr1 hB1 hrbV x1 x2 x3 x4 x5 x6
        refine wpIn_region_quiet_tail 9 (fun w' => ∃ k, w' = V.drewN k) (by kernel_rfl) (by kernel_rfl) (by kernel_rfl) (fun ⟨_, _, h⟩ => h) ⟨1, rfl⟩ ?_
        simp only [List.take_succ_cons, List.take_zero, List.drop_succ_cons, List.drop_zero]
        repeat (quiet_step (fail))
        refine wpQuiet_nil ?_
        rintro _ ⟨k, rfl⟩
        go_wp2_with fail
        refine (HCT.out k).mono ?_
        rintro e U ⟨⟨v', rfl⟩, hcU, hgU⟩
        have hg2 : V.grownBy U (some gr) := (grown_drewN V k _).trans hgU
        have hqU : Cells U gq nq (upd fq p' vv) := HQ1.out.keep hg2 (fun e => by injection e with e; omega)
        have hbU := HBX1.out.keep hg2 (by omega) (by omega) (by omega)
        have hBU : Below w.heap.size w U := HB1.out.grown hg2 HB1.out.size (fun k e => by injection e with e; omega)
        have hkU : KeepsOthers V U := by
          refine ⟨hg2.size, fun i o hi ho => (hg2.block i (Array.getElem?_eq_some_iff.1 hi).1 (fun e => ?_)).trans hi⟩
          injection e with e
          subst e
          obtain ⟨o', ho', hc'⟩ := cells_of_cell (HR1.out 0 htr).1
          rw [show V.heap[i]? = some o' from ho'] at hi
          injection hi with hi
          subst hi
          rw [ho] at hc'
          cases hc'
        have HKU := Lib.hid hkU
        have HG2 := Lib.hid hg2
        have HQU := Lib.hid hqU
        have HBU := Lib.hid hbU
        have HBW := Lib.hid hBU
        have HCU := Lib.hid hcU
        clear hgU hkU hg2 hqU hbU hBU hcU
        go_wp2
        refine ⟨(HKO.out.trans HKU.out).from _, ⟨fun e => HG2.out.cell (HG1.out.cell e (fun h => by injection h with h; have h' : Bs = gq := h; omega)) (fun h => by injection h with h; have h' : Bs = gr := h; omega), fun _ i hi => ⟨gq, 0, upd fq p' vv i, rfl, upd_lt HQ256.out hvv256 i, by rw [Nat.zero_add]; exact (HQU.out i hi).1⟩⟩, ⟨?_, HBU.out⟩, HBW.out⟩
        refine ⟨upd fq p' vv, addm p' vv rb fr (last + 1), HQU.out, HCU.out, upd_lt HQ256.out hvv256, addm_lt' HR256.out _, ?_⟩
        rw [List.map_append]
        exact divInv_next ra rb nq last p' inv vv (pre.map fun x => x.1.1) fq fr (by rw [HTR.out]; exact HNQ.out) HLAST.out (by rw [HP.out]; exact HP0.out) HRS.out (by rw [HTR.out]; exact HRA0.out) HQ256.out HR256.out (by rw [HP.out]; exact HINV.out) (by rw [HSS.out]; exact HVV.out) (by rw [List.length_map]; exact hlen) HINVR.out
      case done =>
        rintro D ys W hD hys ⟨⟨⟨fq, fr, hq, hr, hq256, hr256, hinvr⟩, hbx⟩, hB⟩ hK
        have hyl : (ys.map fun x => x.1.1).length = nq := by rw [hys, downs_len]
        have hdi : DivInv ra rb nq last nq fq fr := by
          have := hinvr (by rw [hyl]; exact hys)
          rwa [hyl] at this
        have hend := HEND.out last fq fr HLAST.out (by rw [HNQ.out]; exact hdi)
        rw [HNQ.out] at hend
        obtain ⟨he1, he2, he3, he4⟩ := hend
        have hrd : Rd W Ar (tab tr fr) := by
          by_cases h0 : 0 < tr
          · rw [(HGR.out h0).1]
            exact hr.reads (fun i _ => hr256 i)
          · obtain rfl : tr = 0 := by omega
            exact Rd.nil _ _
        have hbk : 0 < tr → gr < w8.heap.size ∧ v.heap.size ≤ gr := fun h => ⟨by have := HGQ.out h; omega, (HGR.out h).2⟩
        have hqd : Rd W (some ⟨gq, 0, none⟩) (tab nq fq) := hq.reads (fun i _ => hq256 i)
        obtain ⟨x1, x2, x3, x4, x5, x6⟩ := hbx
        have hl3 := Boxed.lt x3
        have hl4 := Boxed.lt x4
        have hDW : D < W.heap.size := (Array.getElem?_eq_some_iff.1 hK).1
        have FQ := Lib.hid (show ∀ U, Ext W U → Boxed U (w.heap.size + 1 + 1) 22 (.slice (some ⟨gq, 0, none⟩) nq nq) from fun U hU => box_ext x3 hU)
        have FR := Lib.hid (show ∀ U, Ext W U → Boxed U (w.heap.size + 1 + 1 + 1) 22 (.slice Ar tr cr) from fun U hU => box_ext x4 hU)
        obtain ⟨tl, htl⟩ : ∃ tl, (trim (tab tr fr)).length = tl := ⟨_, rfl⟩
        have FC := Lib.hid (show ∀ U, Ext W U → Calls Try.prog 31 #[.slice Ar tr cr] U (fun e w' => e = .returned (.slice Ar tl cr) ∧ Ext W w') from fun U hU => by
          have h := ptrimmed (tab tr fr) Ar cr U (hrd.ext hU) (by rw [tab_len]; exact hcr) (by rw [tab_len]; omega)
          unfold Cuts at h
          rw [tab_len, htl] at h
          exact h.mono fun _ _ h => ⟨h.1, hU.trans h.2⟩)
        have HRD := Lib.hid hrd
        have HQD := Lib.hid hqd
        have HTL := Lib.hid htl
        have HE1 := Lib.hid he1
        have HE2 := Lib.hid he2
        have HE3 := Lib.hid he3
        have HE4 := Lib.hid he4
        have HBK := Lib.hid hbk
        have HBB := Lib.hid hB
        have HKK := Lib.hid hK
        have HDD := Lib.hid hD
        clear hyl hdi he1 he2 he3 he4 hrd hqd hbk x1 x2 x3 x4 x5 x6 htl hB hK hq hr hq256 hr256 hinvr hys hD
        go_wp2
        refine wp_region_quiet_tail 3 (fun w' => Ext W w') (by kernel_rfl) (by kernel_rfl) (Ext.refl W).drew ?_
        simp only [List.take_succ_cons, List.take_zero, List.drop_succ_cons, List.drop_zero]
        repeat (first
          | (refine wpQuiet_step (fun K hK => ?_); go_simp; refine ⟨.slice (some ⟨gq, 0, none⟩) nq nq, fun U hU => ?_, hK _ ?_⟩; (focus (have h1 := (FQ.out U hU).cell; go_simp; done)); clear hK K)
          | (refine wpQuiet_step (fun K hK => ?_); go_simp; refine ⟨.slice Ar tr cr, fun U hU => ?_, hK _ ?_⟩; (focus (have h1 := (FR.out U hU).cell; go_simp; done)); clear hK K)
          | (refine wpQuiet_step (fun K hK => ?_); go_simp; refine ⟨_, fun U hU => FC.out U hU, hK _ ?_⟩; clear hK K))
        refine wpQuiet_nil ?_
        intro U hU
        have g3 := (FQ.out U hU).cell
        have g4 := (FR.out U hU).cell
        have gf3 := (FQ.out U hU).frozen
        have gf4 := (FR.out U hU).frozen
        have HU := Lib.hid hU
        clear hU
        go_wp2
        obtain ⟨Z, hZ⟩ : ∃ Z, (U.setCell ⟨w.heap.size + 1 + 1, 0, none⟩ (.slice (some ⟨gq, 0, none⟩) nq nq)).setCell ⟨w.heap.size + 1 + 1 + 1, 0, none⟩ (.slice Ar tl cr) = Z := ⟨_, rfl⟩
        have hKU : U.heap[D]? = some (.deferred (some [])) := (HU.out.below.block D hDW).trans HKK.out
        have hKZ : Z.heap[D]? = some (.deferred (some [])) := by rw [← hZ]; exact ((KeepsOthers.setCell _ _ _).trans (KeepsOthers.setCell _ _ _)).same D _ hKU rfl
        have z3 : Boxed Z (w.heap.size + 1 + 1) 22 (.slice (some ⟨gq, 0, none⟩) nq nq) := by rw [← hZ]; exact box_far ((FQ.out U HU.out).set _) (by omega)
        have z4 : Boxed Z (w.heap.size + 1 + 1 + 1) 22 (.slice Ar tl cr) := by rw [← hZ]; exact (box_far (FR.out U HU.out) (by omega)).set _
        have zx : Ext w Z := by
          rw [← hZ]
          exact (((Ext.mk HBB.out).trans HU.out).setCell (p := ⟨w.heap.size + 1 + 1, 0, none⟩) (by simp; omega) _).setCell (p := ⟨w.heap.size + 1 + 1 + 1, 0, none⟩) (by simp; omega) _
        have hgZ := fun (B : Option Addr) (l : List Nat) (h : Rd U B l) (hne : ∀ b o, B = some ⟨b, o, none⟩ → 0 < l.length → w.heap.size + 1 + 1 + 1 < b ∧ b ≠ D) =>
          ((h.keep (grown_set U (w.heap.size + 1 + 1) 0 (.slice (some ⟨gq, 0, none⟩) nq nq)) (fun b o e hl h' => by have := hne b o e hl; injection h' with h'; omega)).keep
            (grown_set _ (w.heap.size + 1 + 1 + 1) 0 (.slice Ar tl cr)) (fun b o e hl h' => by have := hne b o e hl; injection h' with h'; omega)).keep
            (grownBy_putObj' _ D (.deferred none)) (fun b o e hl h' => by have := hne b o e hl; injection h' with h'; exact this.2 h')
        rw [hZ] at hgZ ⊢
        have y3 := cell_kept (Boxed.cell z3) (grownBy_putObj' _ D (.deferred none)) (fun r e => by cases e; exact ⟨_, hKZ, rfl⟩)
        have y4 := cell_kept (Boxed.cell z4) (grownBy_putObj' _ D (.deferred none)) (fun r e => by cases e; exact ⟨_, hKZ, rfl⟩)
        have hD8 := HDD.out
        have r3 := hgZ (some ⟨gq, 0, none⟩) (tab nq fq) (HQD.out.ext HU.out) (fun b o e hl => by injection e with e; injection e with e1 e2; omega)
        have r4 := (hgZ Ar (tab tr fr) (HRD.out.ext HU.out) (fun b o e hl => by
          rw [tab_len] at hl
          rw [(HGR.out hl).1] at e
          have := HBK.out hl
          injection e with e; injection e with e1 e2; omega)).trim
        have xz : Ext w (Z.putObj D (.deferred none)) := ⟨zx.below.trans (belowK_b (w := w) (Nat.le_refl _) Z D _ _ (by have := HXW8.out.size; omega) hKZ rfl rfl)⟩
        refine ⟨by simp, .inl ⟨_, _, rfl, run_takeDeferred hKZ, ?_⟩⟩
        refine ⟨.tuple #[.slice (some ⟨gq, 0, none⟩) nq nq, .slice Ar tl cr, .int .i64 0], ?_, _, _, tab nq fq, trim (tab tr fr), rfl, ⟨_, nq, by rw [tab_len], by rw [tab_len]; exact Nat.le_refl _, r3⟩, ⟨Ar, cr, by rw [HTL.out], ?_, r4⟩, HE1.out, Pol.trim_trim _, HE2.out, ?_, HE4.out, xz⟩
        · simp [results, Try.f22, go_sem, y3, y4]
        · have := Pol.trim_len (tab tr fr)
          rw [tab_len] at this
          omega
        · rw [HRB'.out]; exact HE3.out
      case stop =>
        rintro D c pre W _ _ h _
        exact h.elim
    · have hz : nq = 0 := by omega
      have hmk := fun W => run_make_u8 nq (by omega) W
      have hcast : (nq : Int) = 0 := by omega
      have hI : (tr : Int) - (last : Int) < 0 := by omega
      have hI2 : (tr : Int) < (last : Int) := by omega
      rw [hcast] at hmk
      clear hcast hnq hz
      go_wp2_with fail
      clear hmk hI hI2
      obtain ⟨w7, hw7⟩ : ∃ u, (w6.alloc (.cells (bt nq fun _ => 0) 5)).setCell ⟨w.heap.size + 1 + 1, 0, none⟩ (.slice (some ⟨w6.heap.size, 0, none⟩) nq nq) = u := ⟨_, rfl⟩
      have hbx : Boxes w7 w.heap.size s9 s10 w6.heap.size nq tr cr Ar f b0 o0 last d inv := by
        rw [← hw7]
        exact ⟨box_far (box_alloc F1.out _) (by omega), box_far (box_alloc F2.out _) (by omega), G3.out.set _, box_far (box_alloc F4.out _) (by omega), box_far (box_alloc F9.out _) (by omega), box_far (box_alloc F10.out _) (by omega)⟩
      have hcq : Cells w7 w6.heap.size nq (fun _ => 0) := by
        rw [← hw7]
        exact (Blk.new w6 nq (fun _ => 0)).cells.keep (grown_set _ _ _ _) (fun e => by injection e with e; omega)
      have hcr7 : Cells w7 gr tr (co ra) := by
        rw [← hw7]
        by_cases h0 : 0 < tr
        · exact (HCL6.out.keep (World.grownBy_alloc w6 _ none) (by simp)).keep (grown_set _ _ _ _) (fun e => by have := (HGR.out h0).2; cases e; omega)
        · exact fun i hi => absurd hi (by omega)
      have hx7 : Ext w w7 := by
        rw [← hw7]
        exact (HXX.out.alloc _).setCell (p := ⟨w.heap.size + 1 + 1, 0, none⟩) (by simp; omega) _
      have hs7 : w7.heap.size = w6.heap.size + 1 := by rw [← hw7]; simp [World.setCell]
      rw [hw7]
      have HS7 := Lib.hid hs7
      have HBX := Lib.hid hbx
      have HCQ := Lib.hid hcq
      have HCR := Lib.hid hcr7
      have HX7 := Lib.hid hx7
      clear hw7 hbx hcq hcr7 hx7 hs7 k3 k4 k9 fr3 G3 F1 F2 F3 F4 F9 F10 HXX HCL6
      have hs6' : s10 < w6.heap.size := by omega
      have hgl' : 0 < tr → gr < w6.heap.size := HGL.out
      have HGQ := Lib.hid hgl'
      clear hgl' HGL
      generalize w6.heap.size = gq at *
      refine (back_calls _ _ _ _).mono ?_
      rintro e w8 ⟨rfl, hw8⟩
      have hx8 : Ext w7 w8 := by rw [hw8]; exact (Ext.refl _).alloc _
      have hb8 : Boxed w8 w7.heap.size 22 (.slice (some ⟨gq, 0, none⟩) nq nq) := by rw [hw8]; exact Boxed.new _ _ _
      have hbs : gq < w7.heap.size := by rw [HS7.out]; omega
      have hb0 : b0 < w.heap.size := block_lt_of_cell HBL.out
      have hfl : f < w.heap.size := HF.out.lt
      obtain ⟨q1, q2, q3, q4, q5, q6⟩ := HBX.out
      have hbx8 : Boxes w8 w.heap.size s9 s10 gq nq tr cr Ar f b0 o0 last d inv := ⟨box_ext q1 hx8, box_ext q2 hx8, box_ext q3 hx8, box_ext q4 hx8, box_ext q5 hx8, box_ext q6 hx8⟩
      have hst8 : DivSt ra rb gq nq gr tr last [] w8 := ⟨fun _ => 0, co ra, HCQ.out.ext hx8, HCR.out.ext hx8, fun _ => (by decide : (0 : Nat) < 256), HSMA.out, fun _ => by have := HSTART.out last; rwa [HNQ.out] at this⟩
      have hxw8 : Ext w w8 := HX7.out.trans hx8
      have hlt8 : w7.heap.size < w8.heap.size := hb8.lt
      clear q1 q2 q3 q4 q5 q6 hw8 hx8
      generalize w7.heap.size = Bs at *
      have HB8 := Lib.hid hb8
      have HBX8 := Lib.hid hbx8
      have HST8 := Lib.hid hst8
      have HXW8 := Lib.hid hxw8
      clear hb8 hbx8 hst8 hxw8 HBX HCQ HCR HX7 HS7 HSTART
      go_wp2_with fail
      refine (wpIn_wide (n := 4)).1 ?_
      refine' wpIn_rangeFunc_ownG rfl (by omega) (gf := 39) (lb := #[.pointer (some ⟨Bs, 0, none⟩)]) rfl trivial (enters_of Try.func39 (by kernel_rfl) rfl)
        (back_stops _ (by omega) Bs nq nq (some ⟨gq, 0, none⟩) Byte (by omega) w8 hlt8 (fun b o e h => by cases e; omega) HB8.out.cell (fun i hi => by
          obtain ⟨fq, fr, h1, h2, h3, h4, h5⟩ := HST8.out
          exact ⟨gq, 0, fq i, rfl, h3 i, by rw [Nat.zero_add]; exact (h1 i hi).1⟩))
        KpB.trans (KpB.put hlt8 (fun b o e h => by cases e; omega)) (Below.refl _ _) (fun _ => rfl)
        (fun pre W => (DivSt ra rb gq nq gr tr last (pre.map fun x => x.1.1) W ∧ Boxes W w.heap.size s9 s10 gq nq tr cr Ar f b0 o0 last d inv) ∧ Below w.heap.size w W)
        (fun _ _ _ => False)
        (OwnFrom.and (Own.from (fun s A B row hs hg hr => ⟨divSt_own hs.1 hg hr, boxes_own hs.2 hg hr⟩) _) (ownFrom_below (Nat.le_refl _) (by omega)))
        (fun _ _ _ _ _ hs _ _ => hs)
        ⟨⟨HST8.out, HBX8.out⟩, HXW8.out.below⟩
        _ ?assign ?body ?done ?stop
      case assign =>
        intro l x W K hK
        dsimp only [plv]
        gi_wp2
        exact hK
      case body =>
        rintro lq pre ⟨⟨p', pv⟩, hp', hpv⟩ W _ _
        have hpn : p' < nq := hp'
        exact absurd hpn (by have := HNQ.out; omega)
      case done =>
        rintro D ys W hD hys ⟨⟨⟨fq, fr, hq, hr, hq256, hr256, hinvr⟩, hbx⟩, hB⟩ hK
        have hyl : (ys.map fun x => x.1.1).length = nq := by rw [hys, downs_len]
        have hdi : DivInv ra rb nq last nq fq fr := by
          have := hinvr (by rw [hyl]; exact hys)
          rwa [hyl] at this
        have hend := HEND.out last fq fr HLAST.out (by rw [HNQ.out]; exact hdi)
        rw [HNQ.out] at hend
        obtain ⟨he1, he2, he3, he4⟩ := hend
        have hrd : Rd W Ar (tab tr fr) := by
          by_cases h0 : 0 < tr
          · rw [(HGR.out h0).1]
            exact hr.reads (fun i _ => hr256 i)
          · obtain rfl : tr = 0 := by omega
            exact Rd.nil _ _
        have hbk : 0 < tr → gr < w8.heap.size ∧ v.heap.size ≤ gr := fun h => ⟨by have := HGQ.out h; omega, (HGR.out h).2⟩
        have hqd : Rd W (some ⟨gq, 0, none⟩) (tab nq fq) := hq.reads (fun i _ => hq256 i)
        obtain ⟨x1, x2, x3, x4, x5, x6⟩ := hbx
        have hl3 := Boxed.lt x3
        have hl4 := Boxed.lt x4
        have hDW : D < W.heap.size := (Array.getElem?_eq_some_iff.1 hK).1
        have FQ := Lib.hid (show ∀ U, Ext W U → Boxed U (w.heap.size + 1 + 1) 22 (.slice (some ⟨gq, 0, none⟩) nq nq) from fun U hU => box_ext x3 hU)
        have FR := Lib.hid (show ∀ U, Ext W U → Boxed U (w.heap.size + 1 + 1 + 1) 22 (.slice Ar tr cr) from fun U hU => box_ext x4 hU)
        obtain ⟨tl, htl⟩ : ∃ tl, (trim (tab tr fr)).length = tl := ⟨_, rfl⟩
        have FC := Lib.hid (show ∀ U, Ext W U → Calls Try.prog 31 #[.slice Ar tr cr] U (fun e w' => e = .returned (.slice Ar tl cr) ∧ Ext W w') from fun U hU => by
          have h := ptrimmed (tab tr fr) Ar cr U (hrd.ext hU) (by rw [tab_len]; exact hcr) (by rw [tab_len]; omega)
          unfold Cuts at h
          rw [tab_len, htl] at h
          exact h.mono fun _ _ h => ⟨h.1, hU.trans h.2⟩)
        have HRD := Lib.hid hrd
        have HQD := Lib.hid hqd
        have HTL := Lib.hid htl
        have HE1 := Lib.hid he1
        have HE2 := Lib.hid he2
        have HE3 := Lib.hid he3
        have HE4 := Lib.hid he4
        have HBK := Lib.hid hbk
        have HBB := Lib.hid hB
        have HKK := Lib.hid hK
        have HDD := Lib.hid hD
        clear hyl hdi he1 he2 he3 he4 hrd hqd hbk x1 x2 x3 x4 x5 x6 htl hB hK hq hr hq256 hr256 hinvr hys hD
        go_wp2
        refine wp_region_quiet_tail 3 (fun w' => Ext W w') (by kernel_rfl) (by kernel_rfl) (Ext.refl W).drew ?_
        simp only [List.take_succ_cons, List.take_zero, List.drop_succ_cons, List.drop_zero]
        repeat (first
          | (refine wpQuiet_step (fun K hK => ?_); go_simp; refine ⟨.slice (some ⟨gq, 0, none⟩) nq nq, fun U hU => ?_, hK _ ?_⟩; (focus (have h1 := (FQ.out U hU).cell; go_simp; done)); clear hK K)
          | (refine wpQuiet_step (fun K hK => ?_); go_simp; refine ⟨.slice Ar tr cr, fun U hU => ?_, hK _ ?_⟩; (focus (have h1 := (FR.out U hU).cell; go_simp; done)); clear hK K)
          | (refine wpQuiet_step (fun K hK => ?_); go_simp; refine ⟨_, fun U hU => FC.out U hU, hK _ ?_⟩; clear hK K))
        refine wpQuiet_nil ?_
        intro U hU
        have g3 := (FQ.out U hU).cell
        have g4 := (FR.out U hU).cell
        have gf3 := (FQ.out U hU).frozen
        have gf4 := (FR.out U hU).frozen
        have HU := Lib.hid hU
        clear hU
        go_wp2
        obtain ⟨Z, hZ⟩ : ∃ Z, (U.setCell ⟨w.heap.size + 1 + 1, 0, none⟩ (.slice (some ⟨gq, 0, none⟩) nq nq)).setCell ⟨w.heap.size + 1 + 1 + 1, 0, none⟩ (.slice Ar tl cr) = Z := ⟨_, rfl⟩
        have hKU : U.heap[D]? = some (.deferred (some [])) := (HU.out.below.block D hDW).trans HKK.out
        have hKZ : Z.heap[D]? = some (.deferred (some [])) := by rw [← hZ]; exact ((KeepsOthers.setCell _ _ _).trans (KeepsOthers.setCell _ _ _)).same D _ hKU rfl
        have z3 : Boxed Z (w.heap.size + 1 + 1) 22 (.slice (some ⟨gq, 0, none⟩) nq nq) := by rw [← hZ]; exact box_far ((FQ.out U HU.out).set _) (by omega)
        have z4 : Boxed Z (w.heap.size + 1 + 1 + 1) 22 (.slice Ar tl cr) := by rw [← hZ]; exact (box_far (FR.out U HU.out) (by omega)).set _
        have zx : Ext w Z := by
          rw [← hZ]
          exact (((Ext.mk HBB.out).trans HU.out).setCell (p := ⟨w.heap.size + 1 + 1, 0, none⟩) (by simp; omega) _).setCell (p := ⟨w.heap.size + 1 + 1 + 1, 0, none⟩) (by simp; omega) _
        have hgZ := fun (B : Option Addr) (l : List Nat) (h : Rd U B l) (hne : ∀ b o, B = some ⟨b, o, none⟩ → 0 < l.length → w.heap.size + 1 + 1 + 1 < b ∧ b ≠ D) =>
          ((h.keep (grown_set U (w.heap.size + 1 + 1) 0 (.slice (some ⟨gq, 0, none⟩) nq nq)) (fun b o e hl h' => by have := hne b o e hl; injection h' with h'; omega)).keep
            (grown_set _ (w.heap.size + 1 + 1 + 1) 0 (.slice Ar tl cr)) (fun b o e hl h' => by have := hne b o e hl; injection h' with h'; omega)).keep
            (grownBy_putObj' _ D (.deferred none)) (fun b o e hl h' => by have := hne b o e hl; injection h' with h'; exact this.2 h')
        rw [hZ] at hgZ ⊢
        have y3 := cell_kept (Boxed.cell z3) (grownBy_putObj' _ D (.deferred none)) (fun r e => by cases e; exact ⟨_, hKZ, rfl⟩)
        have y4 := cell_kept (Boxed.cell z4) (grownBy_putObj' _ D (.deferred none)) (fun r e => by cases e; exact ⟨_, hKZ, rfl⟩)
        have hD8 := HDD.out
        have r3 := hgZ (some ⟨gq, 0, none⟩) (tab nq fq) (HQD.out.ext HU.out) (fun b o e hl => by injection e with e; injection e with e1 e2; omega)
        have r4 := (hgZ Ar (tab tr fr) (HRD.out.ext HU.out) (fun b o e hl => by
          rw [tab_len] at hl
          rw [(HGR.out hl).1] at e
          have := HBK.out hl
          injection e with e; injection e with e1 e2; omega)).trim
        have xz : Ext w (Z.putObj D (.deferred none)) := ⟨zx.below.trans (belowK_b (w := w) (Nat.le_refl _) Z D _ _ (by have := HXW8.out.size; omega) hKZ rfl rfl)⟩
        refine ⟨by simp, .inl ⟨_, _, rfl, run_takeDeferred hKZ, ?_⟩⟩
        refine ⟨.tuple #[.slice (some ⟨gq, 0, none⟩) nq nq, .slice Ar tl cr, .int .i64 0], ?_, _, _, tab nq fq, trim (tab tr fr), rfl, ⟨_, nq, by rw [tab_len], by rw [tab_len]; exact Nat.le_refl _, r3⟩, ⟨Ar, cr, by rw [HTL.out], ?_, r4⟩, HE1.out, Pol.trim_trim _, HE2.out, ?_, HE4.out, xz⟩
        · simp [results, Try.f22, go_sem, y3, y4]
        · have := Pol.trim_len (tab tr fr)
          rw [tab_len] at this
          omega
        · rw [HRB'.out]; exact HE3.out
      case stop =>
        rintro D c pre W _ _ h _
        exact h.elim
end Go.Proofs.Ytagdialceelggaa
