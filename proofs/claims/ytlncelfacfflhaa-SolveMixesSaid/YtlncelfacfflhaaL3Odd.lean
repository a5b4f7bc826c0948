/-
  The walk of SolveOdd, under what layer 3's functions are to do. Conditions: none beyond the kinds of the arguments.
-/
import Derived.Test.YtlncelfacfflhaaL3Own
namespace Go.Proofs.Ytlncelfacfflhaa
open Go.RowKit
open Pol (co Sm)

/-- Is there no element, or a row of another length, among the first k? -/
def od (rows : List (List Nat)) (cut : List Nat) : Nat → Bool
  | 0 => ((cut.length : Int) == 0)
  | k + 1 => od rows cut k || (((ro rows k).length : Int) != (cut.length : Int))
theorem od_false (rows : List (List Nat)) (cut : List Nat) : ∀ k, od rows cut k = false ↔ (1 ≤ cut.length ∧ ∀ i, i < k → (ro rows i).length = cut.length)
  | 0 => by
    unfold od
    constructor
    · intro h
      refine ⟨?_, fun i hi => by omega⟩
      apply Classical.byContradiction
      intro hn
      have h0 : cut.length = 0 := by omega
      rw [h0] at h
      cases h
    · rintro ⟨h, _⟩
      exact beq_eq_false_iff_ne.2 (by omega)
  | k + 1 => by
    rw [od, Bool.or_eq_false_iff, od_false rows cut k]
    constructor
    · rintro ⟨⟨h1, h2⟩, h3⟩
      refine ⟨h1, fun i hi => ?_⟩
      by_cases e : i = k
      · rw [e]; simp at h3; omega
      · exact h2 i (by omega)
    · rintro ⟨h1, h2⟩
      exact ⟨⟨h1, fun i hi => h2 i (by omega)⟩, by simp [h2 k (by omega)]⟩
theorem rt_snoc (rows : List (List Nat)) (cut : List Nat) : Rt (rows ++ [cut]) ↔ od rows cut rows.length = false := by
  have hl : (rows ++ [cut]).length = rows.length + 1 := by simp
  have hlast : ro (rows ++ [cut]) rows.length = cut := by rw [ro_append_right _ _ _ (Nat.le_refl _), Nat.sub_self]; rfl
  rw [od_false]
  constructor
  · rintro ⟨_, h⟩
    have hc := h rows.length (by omega)
    rw [hlast] at hc
    refine ⟨hc.1, fun i hi => ?_⟩
    have := (h i (by omega)).2
    rw [ro_append_left _ _ _ hi] at this
    rw [this, hc.2]
  · rintro ⟨h1, h2⟩
    have hz : (ro (rows ++ [cut]) 0).length = cut.length := by
      rcases Nat.eq_zero_or_pos rows.length with e | e
      · rw [show (0 : Nat) = rows.length from e.symm, hlast]
      · rw [ro_append_left _ _ _ e]; exact h2 0 e
    refine ⟨by omega, fun i hi => ?_⟩
    rw [hz]
    by_cases e : i < rows.length
    · rw [ro_append_left _ _ _ e, h2 i e]; exact ⟨h1, rfl⟩
    · rw [show i = rows.length by omega, hlast]; exact ⟨h1, rfl⟩
/-- An answer beside the error's number k, for which P. -/
def Code (P : Int → Prop) (w : World) (e : Ending) (w' : World) : Prop := ∃ (v : Value) (k : Int), P k ∧ e = .returned (.tuple #[v, .int .i64 k]) ∧ Ext w w'
theorem solve_code (C : SolveSaid) (f : Nat) (rows : List (List Nat)) (A : Option Addr) (c : Nat) (w : World) (hf : IsField w f) (hr : RRd w A rows) (hc : rows.length ≤ c) (hl : rows.length ≤ 4096) (hll : ∀ i, i < rows.length → (ro rows i).length ≤ 4096) (b : Bool) (hb : b = false ↔ Rt rows) :
    Calls Try.prog 13 #[.pointer (some ⟨f, 0, none⟩), .slice A rows.length c] w (Code (fun k => (k == 1) = b) w) := by
  by_cases ht : Rt rows
  · refine (C.solve f rows A c w hf hr hc hl hll ht).mono fun _ _ h => ?_
    rw [hb.2 ht]
    rcases h with ⟨_, _, v, he, _, hx⟩ | ⟨_, v, he, _, hx⟩
    · exact ⟨v, 0, rfl, he, hx⟩
    · exact ⟨v, 7, rfl, he, hx⟩
  · refine (C.odd f rows A c w hf hr hc hl hll ht).mono fun _ _ ⟨v, he, _, hx⟩ => ⟨v, 1, ?_, he, hx⟩
    cases hbb : b with
    | false => exact absurd (hb.1 hbb) ht
    | true => rfl
theorem not_rt_nil : ¬ Rt [] := fun h => absurd h.1 (by simp)
theorem not_rt_one : ¬ Rt [[]] := fun h => absurd (h.2 0 (by decide)).1 (by decide)

set_option maxHeartbeats 1000000 in
set_option maxRecDepth 100000 in
theorem odd3_big (C : SolveSaid) (D : RankSaid) (rows : List (List Nat)) (cut : List Nat) (A B : Option Addr) (c d : Nat) (w : World) (ha : RRd w A rows) (hmax : rows.length ≤ maxLen) (h : ¬ Few rows ∨ 12 < cut.length) :
    Calls Try.prog 8 #[.slice A rows.length c, .slice B cut.length d] w (Holds w) := by
  have HFW := Lib.hid (fun u (hu : Ext w u) => few_says rows A c u (ha.ext hu) hmax)
  have HH := Lib.hid h
  clear ha h
  obtain ⟨m, hm⟩ : ∃ m, cut.length = m := ⟨_, rfl⟩
  rw [hm] at HH ⊢
  clear hm
  generalize rows.length = n at *
  go_enter Try.func8, Try.ntmps8
  go_wp2_with fail
  refine (awake3 C D w).mono ?_
  rintro e w1 ⟨rfl, hx1⟩
  have HX1 := Lib.hid hx1
  clear hx1
  go_wp2_with fail
  refine (HFW.out w1 HX1.out).mono ?_
  rintro e w2 (⟨hp, rfl, q, rfl⟩ | ⟨_, rfl, q, rfl⟩)
  · have t : (12 : Int) < (m : Int) := by
      rcases HH.out with h | h
      · exact absurd hp h
      · omega
    go_wp2_with fail
    refine (awake3 C D (w1.drewN q)).mono ?_
    rintro e w3 ⟨rfl, hx3⟩
    have HX3 := Lib.hid (((HX1.out).drewN q).trans hx3)
    clear hx3
    go_wp2
    go_ret
    exact ⟨rfl, HX3.out⟩
  · go_wp2_with fail
    refine (awake3 C D (w1.drewN q)).mono ?_
    rintro e w3 ⟨rfl, hx3⟩
    have HX3 := Lib.hid (((HX1.out).drewN q).trans hx3)
    clear hx3
    go_wp2
    go_ret
    exact ⟨rfl, HX3.out⟩

/-- Rows that came in lie in no block that was laid since. -/
theorem RRd.old {w0 w : World} {A : Option Addr} {rows : List (List Nat)} (h : RRd w0 A rows) (hx : Ext w0 w) (row : Option Nat) (hrow : ∀ k, row = some k → w0.heap.size ≤ k) :
    ∀ i, i < rows.length → ∀ b o n c, (∃ b' o', A = some ⟨b', o', none⟩ ∧ w.cell? ⟨b', o' + i, none⟩ = some (.slice (some ⟨b, o, none⟩) n c)) → 0 < n → some b ≠ row := by
  rintro i hi b o n c ⟨b', o', e, hc⟩ hn e'
  obtain ⟨b2, o2, B, c', e2, hc', _, hr⟩ := h i hi
  rw [e] at e2
  injection e2 with e2
  injection e2 with e3 e4
  subst e3; subst e4
  rw [(hx.below.cell (p := ⟨b', o' + i, none⟩) (block_lt_of_cell hc')).trans hc'] at hc
  injection hc with hc
  injection hc with h1 h2 h3
  obtain ⟨b3, o3, e5, hcell⟩ := hr.2 0 (by omega)
  rw [e5] at h1
  injection h1 with h1
  injection h1 with h1 _
  have hlt := block_lt_of_cell hcell
  have := hrow b e'.symm
  have h4 : b3 = b := h1
  have h5 : b3 < w0.heap.size := hlt
  omega
theorem old_one {w : World} {B : Option Addr} {l : List Nat} {cB : Nat} {w0 : World} (hr : Rd w0 B l) (row : Option Nat) (hrow : ∀ k, row = some k → w0.heap.size ≤ k) :
    ∀ i, i < [l].length → ∀ b o n c, (∃ b' o', (some ⟨w.heap.size, 0, none⟩ : Option Addr) = some ⟨b', o', none⟩ ∧ (w.alloc (.cells #[.slice B l.length cB] 27)).cell? ⟨b', o' + i, none⟩ = some (.slice (some ⟨b, o, none⟩) n c)) → 0 < n → some b ≠ row := by
  rintro i hi b o n c ⟨b', o', e, hc⟩ hn e'
  injection e with e
  injection e with e1 e2
  subst e1; subst e2
  have hi0 : i = 0 := by simpa using hi
  subst hi0
  rw [cell_of_row _ _ _ _ _ _ (heap_alloc_new w _)] at hc
  have hv : Value.slice B l.length cB = .slice (some ⟨b, o, none⟩) n c := by simpa using hc
  injection hv with h1 h2 h3
  obtain ⟨b3, o3, e5, hcell⟩ := hr.2 0 (by omega)
  rw [e5] at h1
  injection h1 with h1
  injection h1 with h1 _
  have h5 : b3 < w0.heap.size := block_lt_of_cell hcell
  have := hrow b e'.symm
  omega

set_option maxHeartbeats 2000000 in
set_option maxRecDepth 100000 in
theorem odd3_few (C : SolveSaid) (D : RankSaid) (rows : List (List Nat)) (cut : List Nat) (A B : Option Addr) (c d : Nat) (w : World) (ha : RRd w A rows) (hb : Rd w B cut) (hcd : cut.length ≤ d) (h : Few rows) (hcut : cut.length ≤ 12) :
    Calls Try.prog 8 #[.slice A rows.length c, .slice B cut.length d] w (Holds w) := by
  have HFW := Lib.hid (fun u (hu : Ext w u) => few_says rows A c u (ha.ext hu) (by unfold maxLen; have := h.1; omega))
  have HN0 := Lib.hid (fun f u (hf : IsField u f) => C.odd f [] none 0 u hf (RRd.nil _ _) (Nat.le_refl _) (by decide) (fun i hi => absurd hi (by simp)) not_rt_nil)
  have HN1 := Lib.hid (fun f A u (hf : IsField u f) (hr : RRd u A [[]]) => D.odd f [[]] A 1 u hf hr (by decide) (by decide) (fun i hi => by
    have : i = 0 := by simpa using hi
    subst this
    decide) not_rt_one)
  have hlen : (rows ++ [cut]).length = rows.length + 1 := by simp
  have HSO := Lib.hid (fun f E cE u (hf : IsField u f) (hr : RRd u E (rows ++ [cut])) (hc : (rows ++ [cut]).length ≤ cE) => solve_code C f (rows ++ [cut]) E cE u hf hr hc (by rw [hlen]; have := h.1; omega) (fun i hi => by
    rw [hlen] at hi
    by_cases e : i < rows.length
    · rw [ro_append_left _ _ _ e]; have := h.2 i e; omega
    · rw [ro_append_right _ _ _ (by omega), show i - rows.length = 0 by omega]; show cut.length ≤ 4096; omega) (od rows cut rows.length) (rt_snoc rows cut).symm)
  have hod : ∀ k, od rows cut (k + 1) = (od rows cut k || (((ro rows k).length : Int) != (cut.length : Int))) := fun k => rfl
  have hod0 : od rows cut 0 = ((cut.length : Int) == 0) := rfl
  have hl12 := h.1
  rw [hlen] at HSO
  obtain ⟨n, hn⟩ : ∃ n, rows.length = n := ⟨_, rfl⟩
  obtain ⟨m, hm⟩ : ∃ m, cut.length = m := ⟨_, rfl⟩
  rw [hn] at hl12 HFW HSO ⊢
  rw [hm] at hcut hod hod0 hcd ⊢
  have HOD := Lib.hid hod
  have HOD0 := Lib.hid hod0
  have HN := Lib.hid hn
  have HMM := Lib.hid hm
  have HA := Lib.hid ha
  have HB := Lib.hid hb
  have HH := Lib.hid h
  clear ha hb h hn hm hlen hod hod0
  have tc : ¬ (12 : Int) < (m : Int) := by omega
  have tcd : decide ((12 : Int) < (m : Int)) = false := by simp; omega
  go_enter Try.func8, Try.ntmps8
  go_wp2_with fail
  refine (awake3 C D w).mono ?_
  rintro e w1 ⟨rfl, hx1⟩
  have HX1 := Lib.hid hx1
  clear hx1
  go_wp2_with fail
  refine (HFW.out w1 HX1.out).mono ?_
  rintro e w2 (⟨_, rfl, q, rfl⟩ | ⟨hp, _⟩)
  rotate_left
  · exact absurd HH.out hp
  go_wp2_with fail
  refine (new_any (w1.drewN q)).mono ?_
  rintro e w3 ⟨f, rfl, hf, hfs, hx3⟩
  have HF := Lib.hid hf
  have HX3 := Lib.hid ((HX1.out.drewN q).trans hx3)
  clear hf hx3 hfs
  go_wp2_with fail
  refine (HN0.out f w3 HF.out).mono ?_
  rintro e w4 ⟨v4, rfl, _, hx4⟩
  have HF4 := Lib.hid (HF.out.ext hx4)
  have HX4 := Lib.hid (HX3.out.trans hx4)
  clear hx4
  go_wp2_with fail
  refine (HN1.out f (some ⟨w4.heap.size + 1, 0, none⟩) ((w4.alloc (.cells #[] 5)).alloc (.cells #[.slice (some ⟨w4.heap.size, 0, none⟩) 0 0] 27)) (HF4.out.ext (((Ext.refl w4).alloc _).alloc _)) (by
    have h := rrd_lit (w4.alloc (.cells #[] 5)) [.slice (some ⟨w4.heap.size, 0, none⟩) 0 0] [[]] (rowsV_one ⟨_, 0, rfl, Nat.le_refl _, Rd.nil _ _⟩)
    simpa using h)).mono ?_
  rintro e w5 ⟨rfl, hx5⟩
  have HF5 := Lib.hid (HF4.out.ext ((((Ext.refl w4).alloc _).alloc _).trans hx5))
  have HX5 := Lib.hid (HX4.out.trans ((((Ext.refl w4).alloc _).alloc _).trans hx5))
  clear hx5
  have hs5 := HX5.out.size
  have HFAR1 := Lib.hid (HA.out.old (HX5.out.alloc (.cells #[] 27)) (Value.ownBlock (.slice (some ⟨w5.heap.size, 0, none⟩) 0 0)) (fun k hk => by
    have : w5.heap.size = k := by simpa [Value.ownBlock] using hk
    omega))
  go_wp2_with (first
    | (at_builtin; refine wpList_append_rows rfl (.tmp 42) (.tmp 43) rfl w5.heap.size (.slice (some ⟨w5.heap.size, 0, none⟩) 0 0) [] rows rfl (mineR_empty w5) A n c rfl HN.out (HA.out.ext (HX5.out.alloc _)) HFAR1.out (by rw [HN.out]; simp; omega) (by simp) ?_; intro v6 w6 hown6 hg6 hat6
       rw [List.nil_append] at hown6
       have hx6 : Ext w5 w6 := ((Ext.refl w5).alloc _).more hg6 (by intro k hk; simp [Value.ownBlock] at hk; omega)
       have HO6 := Lib.hid hown6
       have HX6 := Lib.hid hx6
       have HFAR2 := Lib.hid (old_one (w := w6) (cB := d) HB.out v6.ownBlock (fun k hk => by have := (hown6.block k hk).1; omega))
       have HRR2 := Lib.hid (rrd_lit w6 [.slice B cut.length d] [cut] (rowsV_one ⟨B, d, rfl, by rw [HMM.out]; exact hcd, HB.out.ext (HX5.out.trans hx6)⟩))
       have hs6 := hx6.size
       rw [HMM.out] at HFAR2 HRR2
       clear hown6 hg6 hat6 hx6)
    | (at_builtin; refine wpList_append_rows rfl (.tmp 44) (.tmp 46) rfl w5.heap.size v6 rows [cut] rfl (HO6.out.ext ((Ext.refl w6).alloc _)) (some ⟨w6.heap.size, 0, none⟩) 1 1 rfl rfl HRR2.out HFAR2.out (by rw [HN.out]; simp; omega) (by simp; omega) ?_; intro v7 w7 hown7 hg7 hat7
       obtain ⟨E, cE, hv7, hcE, hrE⟩ := hown7.slice
       have hx7 : Ext w5 w7 := (HX6.out.alloc _).more hg7 (fun k hk => (HO6.out.block k hk).1)
       rw [show (rows ++ [cut]).length = n + 1 from by rw [List.length_append, HN.out]; rfl] at hv7 hcE
       subst hv7
       have HRE := Lib.hid hrE
       have HX7 := Lib.hid hx7
       clear hown7 hg7 hat7 hx7 hrE)
    | fail)
  go_wp2_with fail
  refine (HSO.out f E cE w7 (HF5.out.ext HX7.out) HRE.out hcE).mono ?_
  rintro e w8 ⟨v8, k8, hk8, rfl, hx8⟩
  have HX8 := Lib.hid (HX5.out.trans (HX7.out.trans hx8))
  have HA8 := Lib.hid (HA.out.ext (HX5.out.trans (HX7.out.trans hx8)))
  have HK8 := Lib.hid hk8
  clear hx8 hk8
  go_wp2
  go_loopg [12, 56] n (fun g s12 s56 wx => ∃ k : Nat, k + g = n ∧ s56 = .int .i64 (k : Int) ∧ s12 = .bool (od rows cut k) ∧ w8 = wx)
  case atStart => exact ⟨0, by omega, rfl, by rw [HOD0.out], rfl⟩
  case round =>
    obtain ⟨k, hkg, rfl, rfl, rfl⟩ := hrel
    cases gk with
    | zero =>
      obtain rfl : k = n := by omega
      clear hkg
      have hk8 := HK8.out
      obtain ⟨bb, hbb⟩ : ∃ bb, od rows cut k = bb := ⟨_, rfl⟩
      rw [hbb] at hk8 ⊢
      clear hbb
      cases bb
      all_goals
        go_wp2
        go_ret
        exact ⟨rfl, HX8.out⟩
    | succ g =>
      have hk : k < n := by omega
      have hkI : (k : Int) < (n : Int) := by omega
      obtain ⟨b1, o1, B1, c1, rfl, hc1, _, _⟩ := HA8.out k (by rw [HN.out]; exact hk)
      have hod := HOD.out k
      obtain ⟨lk, hlk⟩ : ∃ lk, (ro rows k).length = lk := ⟨_, rfl⟩
      rw [hlk] at hc1 hod
      obtain ⟨bb, hbb⟩ : ∃ bb, od rows cut k = bb := ⟨_, rfl⟩
      rw [hbb] at hod ⊢
      have HD' := Lib.hid hod
      clear hlk hbb hod
      cases bb
      · by_cases e : lk = m
        · have t : ((lk : Int) != (m : Int)) = false := by subst e; simp
          have HE := Lib.hid t
          clear e
          go_wp2
          go_roundg g
          case measure => omega
          case rel => exact ⟨k + 1, by omega, by go_num, by rw [HD'.out, HE.out]; rfl, rfl⟩
        · have t : ((lk : Int) != (m : Int)) = true := by simp; omega
          have HE := Lib.hid t
          clear e
          go_wp2
          go_roundg g
          case measure => omega
          case rel => exact ⟨k + 1, by omega, by go_num, by rw [HD'.out, HE.out]; rfl, rfl⟩
      · go_wp2
        go_roundg g
        case measure => omega
        case rel => exact ⟨k + 1, by omega, by go_num, by rw [HD'.out]; rfl, rfl⟩

theorem odd3_walk (C : SolveSaid) (D : RankSaid) (rows : List (List Nat)) (cut : List Nat) (A B : Option Addr) (c d : Nat) (w : World) (ha : RRd w A rows) (hmax : rows.length ≤ maxLen) (hb : Rd w B cut) (hcd : cut.length ≤ d) :
    Calls Try.prog 8 #[.slice A rows.length c, .slice B cut.length d] w (Holds w) := by
  by_cases h : Few rows
  · by_cases hc : cut.length ≤ 12
    · exact odd3_few C D rows cut A B c d w ha hb hcd h hc
    · exact odd3_big C D rows cut A B c d w ha hmax (.inr (by omega))
  · exact odd3_big C D rows cut A B c d w ha hmax (.inl h)
end Go.Proofs.Ytlncelfacfflhaa
