/-
  The walk of SolveMixes, under what layer 3's functions are to do. Conditions: none beyond the kinds of the arguments.
-/
import Derived.Test.YtlncelfacfflhaaL3Order
import Derived.Test.YtlncelfacfflhaaCells
namespace Go.Proofs.Ytlncelfacfflhaa
open Go.RowKit
open Pol (co Sm)
open Lin (KL)

/-! ### Rows by their number -/
def lst (F : Nat → List Nat) : Nat → List (List Nat)
  | 0 => []
  | k + 1 => lst F k ++ [F k]
theorem lst_len (F : Nat → List Nat) : ∀ k, (lst F k).length = k
  | 0 => rfl
  | k + 1 => by rw [lst, List.length_append, lst_len F k]; rfl
theorem lst_ro (F : Nat → List Nat) (i : Nat) : ∀ k, i < k → ro (lst F k) i = F i
  | 0, h => by omega
  | k + 1, h => by
    rw [lst]
    by_cases e : i < k
    · rw [ro_append_left _ _ _ (by rw [lst_len]; exact e), lst_ro F i k e]
    · obtain rfl : i = k := by omega
      rw [ro_append_right _ _ _ (by rw [lst_len]; exact Nat.le_refl _), lst_len, Nat.sub_self]; rfl
/-- Row t while its first j elements are mixed with row k's, times y. -/
def mdF (rows : List (List Nat)) (y i k t j c : Nat) : Nat := if t = i ∧ c < j then co (ro rows t) c ^^^ Gf.mul y (co (ro rows k) c) else co (ro rows t) c
def mr (rows : List (List Nat)) (y i k N t : Nat) : List Nat := tab N (mdF rows y i k t N)
theorem mdF_zero (rows : List (List Nat)) (y i k t c : Nat) : co (ro rows t) c = mdF rows y i k t 0 c := by unfold mdF; rw [if_neg (by omega)]
theorem mdF_other (rows : List (List Nat)) (y i k t j c : Nat) (h : t ≠ i) : mdF rows y i k t j c = co (ro rows t) c := by unfold mdF; rw [if_neg (fun e => h e.1)]
theorem mdF_step (rows : List (List Nat)) (y i k j c : Nat) : upd (mdF rows y i k i j) j (co (ro rows i) j ^^^ Gf.mul y (co (ro rows k) j)) c = mdF rows y i k i (j + 1) c := by
  unfold upd mdF
  by_cases e : c = j
  · subst e
    rw [if_pos rfl, if_pos ⟨rfl, by omega⟩]
  · rw [if_neg e]
    by_cases e' : c < j
    · rw [if_pos ⟨rfl, e'⟩, if_pos ⟨rfl, by omega⟩]
    · rw [if_neg (by omega), if_neg (by omega)]
theorem mdF_lt (rows : List (List Nat)) (y i k t j c : Nat) (h : Sm (ro rows t)) : mdF rows y i k t j c < 256 := by
  unfold mdF
  split
  · exact Gf.xor_lt _ _ (h c) (Gf.mul_lt _ _)
  · exact h c
theorem mix_both (C : SolveSaid) (D : RankSaid) (rows : List (List Nat)) (y i k N : Nat) (hb : Lin.Bytes rows) (h : Few rows) (hi : i < rows.length) (hk : k < rows.length) (hik : i ≠ k) (hN : ∀ t, t < rows.length → (ro rows t).length = N) (hy : y < 256) :
    ∃ x kk d e, Ans rows x kk d e ∧ Ans (lst (mr rows y i k N) rows.length) x kk d e ∧ x.length ≤ 4096 := by
  have hlen := lst_len (mr rows y i k N) rows.length
  have hro : ∀ t, t < rows.length → ro (lst (mr rows y i k N) rows.length) t = mr rows y i k N t := fun t ht => lst_ro _ t _ ht
  have hml : ∀ t, t < rows.length → (ro (lst (mr rows y i k N) rows.length) t).length = N := fun t ht => by rw [hro t ht]; exact tab_len _ _
  have hN12 : N ≤ 12 := by rw [← hN i hi]; exact h.2 i hi
  have hdot : ∀ t x, Lin.dot N (co (mr rows y i k N t)) x = Lin.dot N (mdF rows y i k t N) x := fun t x => Lin.dot_congr (fun c hc => by unfold mr; rw [co_tab, if_pos hc]) (fun _ _ => rfl)
  have hdo : ∀ t x, t ≠ i → Lin.dot N (mdF rows y i k t N) x = Lin.dot N (co (ro rows t)) x := fun t x ht => Lin.dot_congr (fun c _ => mdF_other rows y i k t N c ht) (fun _ _ => rfl)
  have hs : ∀ t, t < rows.length → Sm (ro rows t) := fun t ht => hb _ (ro_in rows t ht)
  have hdi : ∀ x, Lin.By x → Lin.dot N (mdF rows y i k i N) x = Lin.dot N (co (ro rows i)) x ^^^ Gf.mul y (Lin.dot N (co (ro rows k)) x) := fun x hx => by
    rw [← Lin.dot_smul_left N y (co (ro rows k)) x hy (hs k hk) hx, ← Lin.dot_add_left N (co (ro rows i)) _ x (hs i hi) (fun c => Gf.mul_lt _ _) hx]
    exact Lin.dot_congr (fun c hc => by unfold mdF; rw [if_pos ⟨rfl, hc⟩]) (fun _ _ => rfl)
  have hwide : wide rows = N := hN 0 (by omega)
  have hwide' : wide (lst (mr rows y i k N) rows.length) = N := hml 0 (by omega)
  refine ans_both C D h.fit ⟨by rw [hlen]; have := h.1; omega, fun t ht => ?_⟩ hb ?_ (fun _ => by rw [hwide, hwide']) (fun _ x hx => ?_)
  · rw [hlen] at ht; rw [hml t ht]; omega
  · constructor
    · rintro ⟨h0, h1⟩
      have hN1 : 1 ≤ N := by rw [← hN 0 h0]; exact (h1 0 h0).1
      refine ⟨by omega, fun t ht => ?_⟩
      rw [hlen] at ht
      have e1 := hml t ht
      have e2 := hml 0 h0
      omega
    · rintro ⟨h0, h1⟩
      rw [hlen] at h0
      have hN1 : 1 ≤ N := by rw [← hml 0 h0]; exact (h1 0 (by omega)).1
      refine ⟨h0, fun t ht => ?_⟩
      have e1 := hN t ht
      have e2 := hN 0 h0
      omega
  · rw [hwide]
    constructor
    · intro hk0 r hr
      obtain ⟨t, ht, rfl⟩ := ro_mem hr
      rw [hlen] at ht
      rw [hro t ht, hdot]
      by_cases e : t = i
      · rw [e, hdi x hx, hk0 _ (ro_in rows i hi), hk0 _ (ro_in rows k hk), Gf.mul_zero]; rfl
      · rw [hdo t x e]; exact hk0 _ (ro_in rows t ht)
    · intro hk0
      have hm : ∀ t, t < rows.length → Lin.dot N (mdF rows y i k t N) x = 0 := fun t ht => by
        rw [← hdot, ← hro t ht]
        exact hk0 _ (ro_in _ t (by rw [hlen]; exact ht))
      have hkk : Lin.dot N (co (ro rows k)) x = 0 := by rw [← hdo k x (fun e => hik e.symm)]; exact hm k hk
      intro r hr
      obtain ⟨t, ht, rfl⟩ := ro_mem hr
      by_cases e : t = i
      · have := hm i hi
        rw [hdi x hx, hkk, Gf.mul_zero, Nat.xor_zero] at this
        rw [e]; exact this
      · rw [← hdo t x e]; exact hm t ht
theorem cells_rd {w : World} {A : Option Addr} {g N : Nat} {F : Nat → Nat} (hA : 0 < N → A = some ⟨g, 0, none⟩) (hc : Cells w g N F) (hs : ∀ i, i < N → F i < 256) : Rd w A (tab N F) := by
  by_cases h : 0 < N
  · rw [hA h]; exact hc.reads hs
  · have e : N = 0 := by omega
    subst e
    exact Rd.nil _ _
/-- A literal of one row whose block is newer than another one. -/
theorem new_far {w : World} {A : Option Addr} {l : List Nat} {g N cA base : Nat} (hA : 0 < N → A = some ⟨g, 0, none⟩ ∧ base ≤ g) (row : Option Nat) (hrow : ∀ k, row = some k → k < base) :
    ∀ i, i < [l].length → ∀ b o n c, (∃ b' o', (some ⟨w.heap.size, 0, none⟩ : Option Addr) = some ⟨b', o', none⟩ ∧ (w.alloc (.cells #[.slice A N cA] 27)).cell? ⟨b', o' + i, none⟩ = some (.slice (some ⟨b, o, none⟩) n c)) → 0 < n → some b ≠ row := by
  rintro i hi b o n c ⟨b', o', e, hc⟩ hn e'
  injection e with e
  injection e with e1 e2
  subst e1; subst e2
  have hi0 : i = 0 := by simpa using hi
  subst hi0
  rw [cell_of_row _ _ _ _ _ _ (heap_alloc_new w _)] at hc
  have hv : Value.slice A N cA = .slice (some ⟨b, o, none⟩) n c := by simpa using hc
  injection hv with h1 h2 h3
  subst h2
  obtain ⟨h4, h5⟩ := hA hn
  rw [h4] at h1
  injection h1 with h1
  injection h1 with h1 _
  have := hrow b e'.symm
  omega

set_option maxHeartbeats 1000000 in
set_option maxRecDepth 100000 in
theorem mixes3_big (C : SolveSaid) (D : RankSaid) (rows : List (List Nat)) (a b y : Nat) (A : Option Addr) (c : Nat) (w : World) (ha : RRd w A rows) (hmax : rows.length ≤ maxLen) (h : ¬ Few rows ∨ rows.length < 2) :
    Calls Try.prog 9 #[.slice A rows.length c, .int .u8 (a : Int), .int .u8 (b : Int), .int .u8 (y : Int)] w (Holds w) := by
  have HFW := Lib.hid (fun u (hu : Ext w u) => few_says rows A c u (ha.ext hu) hmax)
  have HH := Lib.hid h
  clear ha h
  generalize rows.length = n at *
  go_enter Try.func9, Try.ntmps9
  go_wp2_with fail
  refine (awake3 C D w).mono ?_
  rintro e w1 ⟨rfl, hx1⟩
  have HX1 := Lib.hid hx1
  clear hx1
  go_wp2_with fail
  refine (HFW.out w1 HX1.out).mono ?_
  rintro e w2 (⟨hp, rfl, q, rfl⟩ | ⟨_, rfl, q, rfl⟩)
  · have t : (n : Int) < 2 := by
      rcases HH.out with h | h
      · exact absurd hp h
      · omega
    go_wp2_with fail
    refine (awake3 C D (w1.drewN q)).mono ?_
    rintro e w3 ⟨rfl, hx3⟩
    have HX3 := Lib.hid (((HX1.out).drewN q).trans hx3)
    clear hx3
    go_wp2
    go_ret
    exact ⟨rfl, HX3.out⟩
  · go_wp2_with fail
    refine (awake3 C D (w1.drewN q)).mono ?_
    rintro e w3 ⟨rfl, hx3⟩
    have HX3 := Lib.hid (((HX1.out).drewN q).trans hx3)
    clear hx3
    go_wp2
    go_ret
    exact ⟨rfl, HX3.out⟩

set_option maxHeartbeats 4000000 in
set_option maxRecDepth 100000 in
theorem mixes3_few (C : SolveSaid) (D : RankSaid) (rows : List (List Nat)) (a b y : Nat) (A : Option Addr) (c : Nat) (w : World) (ha : RRd w A rows) (hc : rows.length ≤ c) (h : Few rows) (h2 : 2 ≤ rows.length) (hab : a < 256) (hbb : b < 256) (hy : y < 256) :
    Calls Try.prog 9 #[.slice A rows.length c, .int .u8 (a : Int), .int .u8 (b : Int), .int .u8 (y : Int)] w (Holds w) := by
  have HFW := Lib.hid (fun u (hu : Ext w u) => few_says rows A c u (ha.ext hu) (by unfold maxLen; have := h.1; omega))
  obtain ⟨N, hN⟩ : ∃ N, (ro rows 0).length = N := ⟨_, rfl⟩
  have hN12 : N ≤ 12 := by rw [← hN]; exact h.2 0 (by omega)
  have HBOTH := Lib.hid (fun i k (hi : i < rows.length) (hk : k < rows.length) (hik : i ≠ k) (hall : ∀ t, t < rows.length → (ro rows t).length = N) => mix_both C D rows y i k N ha.sm h hi hk hik hall hy)
  have HSM := Lib.hid (fun t (ht : t < rows.length) => ha.sm _ (ro_in rows t ht))
  have hl12 := h.1
  obtain ⟨n, hn⟩ : ∃ n, rows.length = n := ⟨_, rfl⟩
  rw [hn] at hl12 HFW HBOTH HSM h2 hc ⊢
  have HN := Lib.hid hn
  have HA := Lib.hid ha
  have HH := Lib.hid h
  obtain ⟨b0, o0, B0, c0, hA0, hc0, _, _⟩ := ha 0 (by omega)
  rw [hN, Nat.add_zero] at hc0
  have HC0 := Lib.hid hc0
  have HN0 := Lib.hid hN
  clear ha h hn hc0 hN
  subst hA0
  have tn : ¬ (n : Int) < 2 := by omega
  have tnd : decide ((n : Int) < 2) = false := by simp; omega
  have hnI : (0 : Int) < (n : Int) := by omega
  go_enter Try.func9, Try.ntmps9
  go_wp2_with fail
  refine (awake3 C D w).mono ?_
  rintro e w1 ⟨rfl, hx1⟩
  have HX1 := Lib.hid hx1
  clear hx1
  go_wp2_with fail
  refine (HFW.out w1 HX1.out).mono ?_
  rintro e w2 (⟨_, rfl, q, rfl⟩ | ⟨hp, _⟩)
  rotate_left
  · exact absurd HH.out hp
  have hc1 : w1.cell? ⟨b0, o0, none⟩ = some (.slice B0 N c0) := (HX1.out.below.cell (p := ⟨b0, o0, none⟩) (block_lt_of_cell HC0.out)).trans HC0.out
  have HC1 := Lib.hid hc1
  clear hc1
  go_wp2
  go_loopg [40] n (fun g s wx => ∃ k q' : Nat, k + g = n ∧ s = .int .i64 (k : Int) ∧ wx = w1.drewN q' ∧ ∀ t, t < k → (ro rows t).length = N)
  case atStart => exact ⟨0, q, by omega, rfl, rfl, fun t ht => by omega⟩
  case round =>
    obtain ⟨k, q', hkg, rfl, rfl, hall⟩ := hrel
    have HALL := Lib.hid hall
    clear hall
    cases gk with
    | zero =>
      obtain rfl : k = n := by omega
      clear hkg
      go_wp2_with fail
      refine (new_any (w1.drewN q')).mono ?_
      rintro e w3 ⟨f, rfl, hf, hfs, hx3⟩
      have HF := Lib.hid hf
      have HX3 := Lib.hid ((HX1.out.drewN q').trans hx3)
      clear hf hx3 hfs
      have hi0 : a % k < k := Nat.mod_lt _ (by omega)
      have hk0 : b % k < k := Nat.mod_lt _ (by omega)
      have ht1 : Int.tmod (a : Int) (k : Int) = ((a % k : Nat) : Int) := by rw [Int.tmod_eq_emod_of_nonneg (by omega)]; rfl
      have ht2 : Int.tmod (b : Int) (k : Int) = ((b % k : Nat) : Int) := by rw [Int.tmod_eq_emod_of_nonneg (by omega)]; rfl
      generalize a % k = i0 at *
      generalize b % k = k0 at *
      go_wp2
      go_quiet (fail)
      have HFL := Lib.hid (HF.out.drewN nq)
      have HXL := Lib.hid (HX3.out.drewN nq)
      generalize hW : w3.drewN nq = wl at HFL HXL ⊢
      clear hW ht1 ht2 HF HX3
      by_cases hik : i0 = k0
      · have t : ((i0 : Int) == (k0 : Int)) = true := by rw [hik]; simp
        clear hik
        go_wp2
        go_ret
        exact ⟨rfl, HXL.out⟩
      · have t : ((i0 : Int) == (k0 : Int)) = false := beq_eq_false_iff_ne.2 (by omega)
        obtain ⟨x, kk, dd, ee, hA1, hA2, hxl⟩ := HBOTH.out i0 k0 hi0 hk0 hik HALL.out
        have HS1 := Lib.hid (fun u (hu : Ext w u) (hf : IsField u f) => hA1.solve f (some ⟨b0, o0, none⟩) c u hf (HA.out.ext hu) (by rw [HN.out]; exact hc))
        have HR1 := Lib.hid (fun u (hu : Ext w u) (hf : IsField u f) => hA1.rank f (some ⟨b0, o0, none⟩) c u hf (HA.out.ext hu) (by rw [HN.out]; exact hc))
        have HS2 := Lib.hid (fun B cB u (hf : IsField u f) (hr : RRd u B (lst (mr rows y i0 k0 N) k)) (hcB : (lst (mr rows y i0 k0 N) k).length ≤ cB) => hA2.solve f B cB u hf hr hcB)
        have HR2 := Lib.hid (fun B cB u (hf : IsField u f) (hr : RRd u B (lst (mr rows y i0 k0 N) k)) (hcB : (lst (mr rows y i0 k0 N) k).length ≤ cB) => hA2.rank f B cB u hf hr hcB)
        rw [HN.out] at HS1 HR1
        rw [lst_len] at HS2 HR2
        clear hA1 hA2 hik HBOTH
        go_wp2
        go_loopg [13, 70] k (fun g s13 s70 wx => ∃ t : Nat, t + g = k ∧ s70 = .int .i64 (t : Int) ∧ MineR wx wl.heap.size s13 (lst (mr rows y i0 k0 N) t) ∧ Ext wl wx)
        case atStart => exact ⟨0, by omega, rfl, MineR.nil _ _, Ext.refl _⟩
        case round =>
          obtain ⟨r, hrg, rfl, hmr, hx⟩ := hrel
          have HM := Lib.hid hmr
          have HX := Lib.hid hx
          clear hmr hx
          cases gk with
          | zero =>
            obtain rfl : r = k := by omega
            clear hrg
            obtain ⟨E, cE, hv, hcE, hrE⟩ := HM.out.slice
            rw [lst_len] at hv hcE
            subst hv
            have HRE := Lib.hid hrE
            clear hrE
            go_wp2_with fail
            refine (HS1.out wr (HXL.out.trans HX.out) (HFL.out.ext HX.out)).mono ?_
            rintro e w8 ⟨v8, rfl, ⟨B8, c8, rfl, _, hr8⟩, hx8⟩
            have HR8 := Lib.hid hr8
            have HX8 := Lib.hid (HX.out.trans hx8)
            have HE8 := Lib.hid (HRE.out.ext hx8)
            clear hr8 hx8
            go_wp2_with fail
            refine (HS2.out E cE w8 (HFL.out.ext HX8.out) HE8.out hcE).mono ?_
            rintro e w9 ⟨v9, rfl, ⟨B9, c9, rfl, _, hr9⟩, hx9⟩
            have HR9 := Lib.hid hr9
            have HX89 := Lib.hid hx9
            have HX9 := Lib.hid (HX8.out.trans hx9)
            have HE9 := Lib.hid (HE8.out.ext hx9)
            clear hr9 hx9
            go_wp2_with fail
            refine (HR1.out w9 (HXL.out.trans HX9.out) (HFL.out.ext HX9.out)).mono ?_
            rintro e w10 ⟨rfl, hx10⟩
            have HX910 := Lib.hid hx10
            have HX10 := Lib.hid (HX9.out.trans hx10)
            have HE10 := Lib.hid (HE9.out.ext hx10)
            clear hx10
            go_wp2_with fail
            refine (HR2.out E cE w10 (HFL.out.ext HX10.out) HE10.out hcE).mono ?_
            rintro e w11 ⟨rfl, hx11⟩
            have HX11 := Lib.hid (HX10.out.trans hx11)
            have HX911 := Lib.hid (HX910.out.trans hx11)
            clear hx11
            go_wp2_with fail
            refine (same_tells x B8 B9 c8 c9 w11 (HR8.out.ext (HX89.out.trans HX911.out)) (HR9.out.ext HX911.out) (by omega)).mono ?_
            rintro e w12 ⟨rfl, hx12⟩
            have HX12 := Lib.hid (HXL.out.trans (HX11.out.trans hx12))
            clear hx12
            go_wp2
            go_ret
            exact ⟨rfl, HX12.out⟩
          | succ g =>
            have hr : r < k := by omega
            have hrI : (r : Int) < (k : Int) := by omega
            obtain ⟨b1, o1, B1, c1, e1, hc1, hl1, hr1⟩ := (HA.out.ext (HXL.out.trans HX.out)) r (by rw [HN.out]; exact hr)
            injection e1 with e1
            injection e1 with e1 e2
            subst e1
            subst e2
            have hlr := HALL.out r hr
            rw [hlr] at hc1 hl1
            have HLR := Lib.hid hlr
            have HR1' := Lib.hid hr1
            have HSR := Lib.hid (HSM.out r hr)
            clear hr1 hlr
            have hc1a : (wr.alloc (.cells #[] 5)).cell? ⟨b0, o0 + r, none⟩ = some (.slice B1 N c1) := (((Ext.refl wr).alloc _).below.cell (p := ⟨b0, o0 + r, none⟩) (block_lt_of_cell hc1)).trans hc1
            have hsx := HX.out.size
            go_wp2_with (first
              | (at_builtin; refine wpList_append_rd rfl (.tmp 73) (.tmp 77) rfl wr.heap.size (.slice (some ⟨wr.heap.size, 0, none⟩) 0 0) [] (ro rows r) rfl (mine_empty wr) B1 N c1 rfl HLR.out (HR1'.out.ext ((Ext.refl wr).alloc _)) (by rw [HLR.out, List.length_nil]; omega) (by simp) ?_; intro v5 w5 hown5 hg5 hat5
                 rw [List.nil_append] at hown5
                 obtain ⟨A5, c5, g5, hv5, hc5, hA5, hcl5⟩ := hown5.cells
                 rw [HLR.out] at hv5 hc5 hA5 hcl5
                 subst hv5
                 have hx5 : Ext wr w5 := ((Ext.refl wr).alloc _).more hg5 (by intro k hk; simp [Value.ownBlock] at hk; omega)
                 have HCL5 := Lib.hid hcl5
                 have HX5 := Lib.hid hx5
                 have HA5 := Lib.hid hA5
                 clear hown5 hg5 hat5 hx5 hcl5 hA5 hc1a)
              | fail)
            go_wp2
            obtain ⟨wq, hwq⟩ : ∃ wq, wq = wr := ⟨_, rfl⟩
            subst hwq
            go_loopg [81] N (fun g2 s wx => ∃ j : Nat, j + g2 = N ∧ s = .int .i64 (j : Int) ∧ Cells wx g5 N (mdF rows y i0 k0 r j) ∧ Ext wq wx)
            case atStart => exact ⟨0, by omega, rfl, HCL5.out.congr (fun c _ => mdF_zero rows y i0 k0 r c), HX5.out⟩
            case round =>
              obtain ⟨j, hjg, rfl, hcl, hxj⟩ := hrel
              have HCL := Lib.hid hcl
              have HXJ := Lib.hid hxj
              clear hcl hxj
              cases gk with
              | zero =>
                obtain rfl : j = N := by omega
                clear hjg
                have hrd : Rd wr A5 (mr rows y i0 k0 j r) := cells_rd (fun h => (HA5.out h).1) HCL.out (fun c _ => mdF_lt rows y i0 k0 r j c HSR.out)
                have hlm : (mr rows y i0 k0 j r).length = j := tab_len _ _
                have hsl : Sl wr (.slice A5 j c5) (mr rows y i0 k0 j r) := ⟨A5, c5, by rw [hlm], by rw [hlm]; exact hc5, hrd⟩
                have HRR := Lib.hid (rrd_lit wr [.slice A5 j c5] [mr rows y i0 k0 j r] (rowsV_one hsl))
                have HFAR := Lib.hid (new_far (w := wr) (l := mr rows y i0 k0 j r) (cA := c5) HA5.out u13.ownBlock (fun q hq => (HM.out.block q hq).2))
                have HLL := Lib.hid (lst_len (mr rows y i0 k0 j) r)
                have hsj := HXJ.out.size
                clear hrd hlm hsl
                go_wp2_with (first
                  | (at_builtin; refine wpList_append_rows rfl (.tmp 106) (.tmp 108) rfl wl.heap.size u13 (lst (mr rows y i0 k0 j) r) [mr rows y i0 k0 j r] rfl (HM.out.ext (HXJ.out.alloc _)) (some ⟨wr.heap.size, 0, none⟩) 1 1 rfl rfl HRR.out HFAR.out (by rw [HLL.out]; simp; omega) (by simp; omega) ?_; intro v9 w9 hown9 hg9 hat9
                     have hx9 : Ext wl w9 := ((HX.out.trans HXJ.out).alloc _).more hg9 (fun q hq => (HM.out.block q hq).1)
                     have HO9 := Lib.hid hown9
                     have HX9 := Lib.hid hx9
                     clear hown9 hg9 hat9 hx9)
                  | fail)
                go_wp2
                go_roundg g
                case measure => omega
                case rel => exact ⟨r + 1, by omega, by go_num, HO9.out, HX9.out⟩
              | succ g2 =>
                have hj : j < N := by omega
                have hjI : (j : Int) < (N : Int) := by omega
                by_cases hri : r = i0
                · subst hri
                  have tri : ((r : Int) == (r : Int)) = true := by simp
                  have hk0I : (k0 : Int) < (k : Int) := by omega
                  obtain ⟨hA5, hg5⟩ := HA5.out (by omega)
                  subst hA5
                  obtain ⟨b2, o2, B2, c2, e2, hc2, hl2, hr2⟩ := (HA.out.ext (HXL.out.trans (HX.out.trans HXJ.out))) k0 (by rw [HN.out]; exact hk0)
                  injection e2 with e2
                  injection e2 with e2 e3
                  subst e2
                  subst e3
                  rw [HALL.out k0 hk0] at hc2 hl2
                  obtain ⟨b3, o3, rfl, hc3⟩ := hr2.2 j (by rw [HALL.out k0 hk0]; exact hj)
                  have hmm : mdF rows y r k0 r j j = co (ro rows r) j := by unfold mdF; rw [if_neg (by omega)]
                  have hcb := (HCL.out j hj).1
                  rw [hmm] at hcb
                  have hfz := (HCL.out j hj).2
                  have HMU := Lib.hid (fun q => mul_any f y (co (ro rows k0) j) (wr.drewN q) ((HFL.out.ext (HX.out.trans HXJ.out)).drewN q) hy (hr2.1 j))
                  have HAD := Lib.hid (fun q => add_is (co (ro rows r) j) (Gf.mul y (co (ro rows k0) j)) _ (HSR.out j) (Gf.mul_lt _ _) rfl (wr.drewN q))
                  have HST := Lib.hid (fun q => ((HCL.out.drewN q).store j (co (ro rows r) j ^^^ Gf.mul y (co (ro rows k0) j))).congr (F' := mdF rows y r k0 r (j + 1)) (fun c _ => mdF_step rows y r k0 j c))
                  have HEX := Lib.hid (fun q => (HXJ.out.drewN q).setCell (p := ⟨g5, j, none⟩) hg5 (.int .u8 ((co (ro rows r) j ^^^ Gf.mul y (co (ro rows k0) j) : Nat) : Int)))
                  clear hr2 hmm
                  go_wp2
                  refine wp_region_quiet_tail 18 (fun w' => ∃ q, w' = wr.drewN q) (by kernel_rfl) (by kernel_rfl) ⟨1, rfl⟩ ?_
                  simp only [List.take_succ_cons, List.take_zero, List.drop_succ_cons, List.drop_zero]
                  repeat (quiet_step (first | (go_at_call 21; exact quiet_hands (HMU.out _)) | (go_at_call 22; exact quiet_same (HAD.out _))))
                  refine wpQuiet_nil ?_
                  rintro _ ⟨q2, rfl⟩
                  go_wp2
                  go_roundg g2
                  case measure => omega
                  case rel => exact ⟨j + 1, by omega, by go_num, HST.out q2, HEX.out q2⟩
                · have tri : ((r : Int) == (i0 : Int)) = false := beq_eq_false_iff_ne.2 (by omega)
                  have HRI := Lib.hid hri
                  clear hri
                  go_wp2
                  go_roundg g2
                  case measure => omega
                  case rel => exact ⟨j + 1, by omega, by go_num, HCL.out.congr (fun c _ => by rw [mdF_other _ _ _ _ _ _ _ HRI.out, mdF_other _ _ _ _ _ _ _ HRI.out]), HXJ.out⟩
    | succ g =>
      have hk : k < n := by omega
      have hkI : (k : Int) < (n : Int) := by omega
      obtain ⟨b1, o1, B1, c1, e1, hc1, hl1, hr1⟩ := (HA.out.ext HX1.out) k (by rw [HN.out]; exact hk)
      injection e1 with e1
      injection e1 with e1 e2
      subst e1
      subst e2
      clear hr1 hl1
      obtain ⟨li, hli⟩ : ∃ li, (ro rows k).length = li := ⟨_, rfl⟩
      rw [hli] at hc1
      have HLI := Lib.hid hli
      clear hli
      have d1 : (w1.drewN q').cell? ⟨b0, o0 + k, none⟩ = some (.slice B1 li c1) := hc1
      have d2 : (w1.drewN q').cell? ⟨b0, o0, none⟩ = some (.slice B0 N c0) := HC1.out
      generalize hW : w1.drewN q' = W at d1 d2 ⊢
      have HW := Lib.hid hW
      clear hW hc1
      by_cases e : li = N
      · have t : ((li : Int) != (N : Int)) = false := by subst e; simp
        have HE := Lib.hid e
        clear e
        go_wp2
        go_quiet (fail)
        go_wp2
        go_roundg g
        case measure => omega
        case rel => exact ⟨k + 1, q' + nq, by omega, by go_num, by rw [← HW.out, World.drewN_drewN], fun t ht => by
          by_cases e : t = k
          · rw [e, HLI.out]; exact HE.out
          · exact HALL.out t (by omega)⟩
      · have t : ((li : Int) != (N : Int)) = true := by simp; omega
        clear e
        go_wp2
        go_quiet (fail)
        go_wp2
        go_ret
        exact ⟨rfl, by rw [← HW.out]; exact (HX1.out.drewN q').drewN nq⟩

theorem mixes3_walk (C : SolveSaid) (D : RankSaid) (rows : List (List Nat)) (a b y : Nat) (A : Option Addr) (c : Nat) (w : World) (ha : RRd w A rows) (hmax : rows.length ≤ maxLen) (hc : rows.length ≤ c) (hab : a < 256) (hbb : b < 256) (hy : y < 256) :
    Calls Try.prog 9 #[.slice A rows.length c, .int .u8 (a : Int), .int .u8 (b : Int), .int .u8 (y : Int)] w (Holds w) := by
  by_cases h : Few rows
  · by_cases h2 : 2 ≤ rows.length
    · exact mixes3_few C D rows a b y A c w ha hc h h2 hab hbb hy
    · exact mixes3_big C D rows a b y A c w ha hmax (.inr (by omega))
  · exact mixes3_big C D rows a b y A c w ha hmax (.inl h)
end Go.Proofs.Ytlncelfacfflhaa
