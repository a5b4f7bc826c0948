/-
  The walk of SolveRanks, under what layer 3's functions are to do. Conditions: none beyond the kinds of the arguments.
-/
import Derived.Test.YtlncelfacfflhaaL3Order
import Derived.Test.YtlncelfacfflhaaCells
namespace Go.Proofs.Ytlncelfacfflhaa
open Go.RowKit
open Pol (co Sm)
open Lin (Cnt NotFree KL)

/-! ### The mix of some rows -/
def mx (rows : List (List Nat)) (by' : List Nat) : Nat → Nat → Nat
  | 0, _ => 0
  | i + 1, k => if i < by'.length then mx rows by' i k ^^^ Gf.mul (co (ro rows i) k) (co by' i) else mx rows by' i k
theorem mx_lt (rows : List (List Nat)) (by' : List Nat) : ∀ i k, mx rows by' i k < 256
  | 0, _ => by show 0 < 256; omega
  | i + 1, k => by
    unfold mx
    split
    · exact Gf.xor_lt _ _ (mx_lt rows by' i k) (Gf.mul_lt _ _)
    · exact mx_lt rows by' i k
/-- Row i is done up to place j. -/
def mxm (rows : List (List Nat)) (by' : List Nat) (i j k : Nat) : Nat := if k < j then mx rows by' (i + 1) k else mx rows by' i k
theorem mxm_step (rows : List (List Nat)) (by' : List Nat) (i j k : Nat) (h : i < by'.length) : upd (mxm rows by' i j) j (mx rows by' i j ^^^ Gf.mul (co (ro rows i) j) (co by' i)) k = mxm rows by' i (j + 1) k := by
  unfold upd mxm
  by_cases e : k = j
  · subst e
    rw [if_pos rfl, if_pos (by omega)]
    conv => rhs; unfold mx
    rw [if_pos h]
  · rw [if_neg e]
    by_cases e' : k < j
    · rw [if_pos e', if_pos (by omega)]
    · rw [if_neg e', if_neg (by omega)]
theorem mxm_same (rows : List (List Nat)) (by' : List Nat) (i j k : Nat) (h : ¬ i < by'.length) : mxm rows by' i j k = mx rows by' i k := by
  unfold mxm
  split
  · conv => lhs; unfold mx
    rw [if_neg h]
  · rfl
theorem mx_dot (rows : List (List Nat)) (by' : List Nat) (N : Nat) (hb : Lin.Bytes rows) (hy : Sm by') (x : Nat → Nat) (hx : Lin.By x) (hk : KL N rows x) : ∀ i, i ≤ rows.length → Lin.dot N (mx rows by' i) x = 0
  | 0, _ => Lin.dot_zero N _ x (fun k _ => .inl rfl)
  | i + 1, hi => by
    by_cases h : i < by'.length
    · have hs : Sm (ro rows i) := hb _ (ro_in rows i (by omega))
      have e : Lin.dot N (mx rows by' (i + 1)) x = Lin.dot N (fun k => mx rows by' i k ^^^ Gf.mul (co by' i) (co (ro rows i) k)) x := Lin.dot_congr (fun k _ => by
        show (if i < by'.length then _ else _) = _
        rw [if_pos h, Gf.mul_comm]) (fun _ _ => rfl)
      rw [e, Lin.dot_add_left N _ _ x (mx_lt rows by' i) (fun k => Gf.mul_lt _ _) hx, mx_dot rows by' N hb hy x hx hk i (by omega), Lin.dot_smul_left N _ (co (ro rows i)) x (hy i) hs hx, hk _ (ro_in rows i (by omega)), Gf.mul_zero]
      rfl
    · have e : Lin.dot N (mx rows by' (i + 1)) x = Lin.dot N (mx rows by' i) x := Lin.dot_congr (fun k _ => by
        show (if i < by'.length then _ else _) = _
        rw [if_neg h]) (fun _ _ => rfl)
      rw [e]
      exact mx_dot rows by' N hb hy x hx hk i (by omega)
theorem mix_alike (rows : List (List Nat)) (by' : List Nat) (N : Nat) (hb : Lin.Bytes rows) (hy : Sm by') : Lin.Alike (KL N rows) (KL N (rows ++ [tab N (mx rows by' rows.length)])) := fun x hx => by
  rw [Lin.kl_snoc]
  refine ⟨fun h => ⟨h, ?_⟩, fun h => h.1⟩
  rw [← mx_dot rows by' N hb hy x hx h rows.length (Nat.le_refl _)]
  exact Lin.dot_congr (fun k hk => by rw [co_tab, if_pos hk]) (fun _ _ => rfl)
theorem rt_snoc_of {rows : List (List Nat)} (h : Rt rows) (cut : List Nat) : Rt (rows ++ [cut]) ↔ cut.length = wide rows := by
  rw [rt_snoc, od_false]
  constructor
  · rintro ⟨_, h2⟩; exact (h2 0 h.1).symm
  · intro e
    have h0 : 1 ≤ wide rows := (h.2 0 h.1).1
    exact ⟨by omega, fun i hi => by rw [e]; exact (h.2 i hi).2⟩
theorem wide_snoc {rows : List (List Nat)} (h : 0 < rows.length) (cut : List Nat) : wide (rows ++ [cut]) = wide rows := by unfold wide; rw [ro_append_left _ _ _ h]
theorem fit_snoc {rows : List (List Nat)} (h : Few rows) {cut : List Nat} (hc : cut.length ≤ 12) : Fit (rows ++ [cut]) := by
  have hlen : (rows ++ [cut]).length = rows.length + 1 := by simp
  refine ⟨by rw [hlen]; have := h.1; omega, fun i hi => ?_⟩
  rw [hlen] at hi
  by_cases e : i < rows.length
  · rw [ro_append_left _ _ _ e]; have := h.2 i e; omega
  · rw [ro_append_right _ _ _ (by omega), show i - rows.length = 0 by omega]; show cut.length ≤ 4096; omega
/-- What Rank says of the rows, of the rows and a mix of them, and of the rows and one more. -/
structure Rks (rows : List (List Nat)) (more by' : List Nat) (d : Nat) : Prop where
  le : d ≤ rows.length ∧ d ≤ wide rows
  one : ∀ (f : Nat) (A : Option Addr) (c : Nat) (w : World), IsField w f → RRd w A rows → rows.length ≤ c →
    Calls Try.prog 15 #[.pointer (some ⟨f, 0, none⟩), .slice A rows.length c] w (Tells (.tuple #[.int .i64 (d : Int), .int .i64 0]) w)
  mix : ∀ (f : Nat) (A : Option Addr) (c : Nat) (w : World), IsField w f → RRd w A (rows ++ [tab (wide rows) (mx rows by' rows.length)]) → rows.length + 1 ≤ c →
    Calls Try.prog 15 #[.pointer (some ⟨f, 0, none⟩), .slice A (rows.length + 1) c] w (Tells (.tuple #[.int .i64 (d : Int), .int .i64 0]) w)
  more : ∃ (k h : Int), (∀ (f : Nat) (A : Option Addr) (c : Nat) (w : World), IsField w f → RRd w A (rows ++ [more]) → rows.length + 1 ≤ c →
    Calls Try.prog 15 #[.pointer (some ⟨f, 0, none⟩), .slice A (rows.length + 1) c] w (Tells (.tuple #[.int .i64 k, .int .i64 h]) w)) ∧
    ((more.length = wide rows ∧ h = 0 ∧ (k = (d : Int) ∨ k = (d : Int) + 1)) ∨ (more.length ≠ wide rows ∧ h = 1 ∧ k = 0))
theorem rks_is (D : RankSaid) (rows : List (List Nat)) (more by' : List Nat) (hb : Lin.Bytes rows) (hm : Sm more) (hy : Sm by') (h : Few rows) (hm12 : more.length ≤ 12) (ht : Rt rows) : ∃ d, Rks rows more by' d := by
  obtain ⟨d, hd⟩ := Lin.cnt_is (NotFree (KR (wide rows) rows)) (wide rows)
  have hdl : Cnt (NotFree (KL (wide rows) rows)) (wide rows) d := by
    obtain ⟨d', hd'⟩ := Lin.cnt_is (NotFree (KL (wide rows) rows)) (wide rows)
    have e : d = d' := Lin.rank_alike (kr_kl _ rows) hd hd'
    rw [e]; exact hd'
  have hw12 : wide rows ≤ 12 := h.2 0 ht.1
  have hlen : ∀ cut : List Nat, (rows ++ [cut]).length = rows.length + 1 := fun cut => by simp
  refine ⟨d, ⟨Lin.rank_le rows hb d hdl, Lin.cnt_le hdl⟩, fun f A c w hf hr hc => D.rank f rows A c w hf hr hc h.fit.1 h.fit.2 ht d hd, fun f A c w hf hr hc => ?_, ?_⟩
  · have hfit := fit_snoc h (cut := tab (wide rows) (mx rows by' rows.length)) (by rw [tab_len]; exact hw12)
    have hrt := (rt_snoc_of ht (tab (wide rows) (mx rows by' rows.length))).2 (tab_len _ _)
    have hd2 : Cnt (NotFree (KR (wide (rows ++ [tab (wide rows) (mx rows by' rows.length)])) (rows ++ [tab (wide rows) (mx rows by' rows.length)]))) (wide (rows ++ [tab (wide rows) (mx rows by' rows.length)])) d := by
      rw [wide_snoc ht.1]
      obtain ⟨d', hd'⟩ := Lin.cnt_is (NotFree (KR (wide rows) (rows ++ [tab (wide rows) (mx rows by' rows.length)]))) (wide rows)
      have e : d = d' := Lin.rank_alike ((mix_alike rows by' _ hb hy).trans (kr_kl _ _).symm) hdl hd'
      rw [e]; exact hd'
    have hc2 := D.rank f _ A c w hf hr (by rw [hlen]; exact hc) hfit.1 hfit.2 hrt d hd2
    rw [hlen] at hc2
    exact hc2
  · have hfit := fit_snoc h hm12
    by_cases e : more.length = wide rows
    · have hrt := (rt_snoc_of ht more).2 e
      obtain ⟨d2, hd2⟩ := Lin.cnt_is (NotFree (KL (wide rows) (rows ++ [more]))) (wide rows)
      have hle := Lin.snoc_rank hb hm hdl hd2
      have hd3 : Cnt (NotFree (KR (wide (rows ++ [more])) (rows ++ [more]))) (wide (rows ++ [more])) d2 := by
        rw [wide_snoc ht.1]
        obtain ⟨d', hd'⟩ := Lin.cnt_is (NotFree (KR (wide rows) (rows ++ [more]))) (wide rows)
        have e : d2 = d' := Lin.rank_alike (kr_kl _ _).symm hd2 hd'
        rw [e]; exact hd'
      refine ⟨d2, 0, fun f A c w hf hr hc => ?_, .inl ⟨e, rfl, by omega⟩⟩
      have hc2 := D.rank f _ A c w hf hr (by rw [hlen]; exact hc) hfit.1 hfit.2 hrt d2 hd3
      rw [hlen] at hc2
      exact hc2
    · have hrt : ¬ Rt (rows ++ [more]) := fun k => e ((rt_snoc_of ht more).1 k)
      refine ⟨0, 1, fun f A c w hf hr hc => ?_, .inr ⟨e, rfl, rfl⟩⟩
      have hc2 := D.odd f _ A c w hf hr (by rw [hlen]; exact hc) hfit.1 hfit.2 hrt
      rw [hlen] at hc2
      exact hc2

set_option maxHeartbeats 1000000 in
set_option maxRecDepth 100000 in
theorem ranks3_big (C : SolveSaid) (D : RankSaid) (rows : List (List Nat)) (more by' : List Nat) (A B B2 : Option Addr) (c d d2 : Nat) (w : World) (ha : RRd w A rows) (hmax : rows.length ≤ maxLen) (h : ¬ Few rows ∨ 12 < more.length ∨ 12 < by'.length) :
    Calls Try.prog 6 #[.slice A rows.length c, .slice B more.length d, .slice B2 by'.length d2] w (Holds w) := by
  have HFW := Lib.hid (fun u (hu : Ext w u) => few_says rows A c u (ha.ext hu) hmax)
  have HH := Lib.hid h
  clear ha h
  obtain ⟨m, hm⟩ : ∃ m, more.length = m := ⟨_, rfl⟩
  obtain ⟨m2, hm2⟩ : ∃ m2, by'.length = m2 := ⟨_, rfl⟩
  rw [hm, hm2] at HH ⊢
  clear hm hm2
  generalize rows.length = n at *
  go_enter Try.func6, Try.ntmps6
  go_wp2_with fail
  refine (awake3 C D w).mono ?_
  rintro e w1 ⟨rfl, hx1⟩
  have HX1 := Lib.hid hx1
  clear hx1
  go_wp2_with fail
  refine (HFW.out w1 HX1.out).mono ?_
  rintro e w2 (⟨hp, rfl, q, rfl⟩ | ⟨_, rfl, q, rfl⟩)
  · by_cases hm : 12 < m
    · have t : (12 : Int) < (m : Int) := by omega
      clear hm
      go_wp2_with fail
      refine (awake3 C D (w1.drewN q)).mono ?_
      rintro e w3 ⟨rfl, hx3⟩
      have HX3 := Lib.hid (((HX1.out).drewN q).trans hx3)
      clear hx3
      go_wp2
      go_ret
      exact ⟨rfl, HX3.out⟩
    · have t : ¬ (12 : Int) < (m : Int) := by omega
      have td : decide ((12 : Int) < (m : Int)) = false := by simp; omega
      have t2 : (12 : Int) < (m2 : Int) := by
        rcases HH.out with h | h | h
        · exact absurd hp h
        · omega
        · omega
      go_wp2_with fail
      refine (awake3 C D (w1.drewN q)).mono ?_
      rintro e w3 ⟨rfl, hx3⟩
      have HX3 := Lib.hid (((HX1.out).drewN q).trans hx3)
      clear hx3
      go_wp2
      go_ret
      exact ⟨rfl, HX3.out⟩
  · go_wp2_with fail
    refine (awake3 C D (w1.drewN q)).mono ?_
    rintro e w3 ⟨rfl, hx3⟩
    have HX3 := Lib.hid (((HX1.out).drewN q).trans hx3)
    clear hx3
    go_wp2
    go_ret
    exact ⟨rfl, HX3.out⟩

set_option maxHeartbeats 1000000 in
set_option maxRecDepth 100000 in
theorem ranks3_odd (C : SolveSaid) (D : RankSaid) (rows : List (List Nat)) (more by' : List Nat) (A B B2 : Option Addr) (c d d2 : Nat) (w : World) (ha : RRd w A rows) (hc : rows.length ≤ c) (h : Few rows) (hm12 : more.length ≤ 12) (hb12 : by'.length ≤ 12) (ht : ¬ Rt rows) :
    Calls Try.prog 6 #[.slice A rows.length c, .slice B more.length d, .slice B2 by'.length d2] w (Holds w) := by
  have HFW := Lib.hid (fun u (hu : Ext w u) => few_says rows A c u (ha.ext hu) (by unfold maxLen; have := h.1; omega))
  have HRO := Lib.hid (fun f u (hf : IsField u f) (hu : Ext w u) => D.odd f rows A c u hf (ha.ext hu) hc h.fit.1 h.fit.2 ht)
  have HH := Lib.hid h
  clear ha h ht
  obtain ⟨m, hm⟩ : ∃ m, more.length = m := ⟨_, rfl⟩
  obtain ⟨m2, hm2⟩ : ∃ m2, by'.length = m2 := ⟨_, rfl⟩
  rw [hm] at hm12
  rw [hm2] at hb12
  rw [hm, hm2]
  clear hm hm2
  generalize rows.length = n at *
  have t : ¬ (12 : Int) < (m : Int) := by omega
  have td : decide ((12 : Int) < (m : Int)) = false := by simp; omega
  have t2 : ¬ (12 : Int) < (m2 : Int) := by omega
  have td2 : decide ((12 : Int) < (m2 : Int)) = false := by simp; omega
  go_enter Try.func6, Try.ntmps6
  go_wp2_with fail
  refine (awake3 C D w).mono ?_
  rintro e w1 ⟨rfl, hx1⟩
  have HX1 := Lib.hid hx1
  clear hx1
  go_wp2_with fail
  refine (HFW.out w1 HX1.out).mono ?_
  rintro e w2 (⟨_, rfl, q, rfl⟩ | ⟨hp, _⟩)
  rotate_left
  · exact absurd HH.out hp
  go_wp2_with fail
  refine (new_any (w1.drewN q)).mono ?_
  rintro e w3 ⟨f, rfl, hf, hfs, hx3⟩
  have HF := Lib.hid hf
  have HX3 := Lib.hid ((HX1.out.drewN q).trans hx3)
  clear hf hx3 hfs
  go_wp2_with fail
  refine (HRO.out f w3 HF.out HX3.out).mono ?_
  rintro e w4 ⟨rfl, hx4⟩
  have HX4 := Lib.hid (HX3.out.trans hx4)
  clear hx4
  go_wp2
  go_ret
  exact ⟨rfl, HX4.out⟩

set_option maxHeartbeats 4000000 in
set_option maxRecDepth 100000 in
theorem ranks3_few (C : SolveSaid) (D : RankSaid) (rows : List (List Nat)) (more by' : List Nat) (A B B2 : Option Addr) (c d d2 : Nat) (w : World) (ha : RRd w A rows) (hc : rows.length ≤ c) (hb : Rd w B more) (hb2 : Rd w B2 by') (hcd : more.length ≤ d) (h : Few rows) (hm12 : more.length ≤ 12) (hb12 : by'.length ≤ 12) (ht : Rt rows) :
    Calls Try.prog 6 #[.slice A rows.length c, .slice B more.length d, .slice B2 by'.length d2] w (Holds w) := by
  have HFW := Lib.hid (fun u (hu : Ext w u) => few_says rows A c u (ha.ext hu) (by unfold maxLen; have := h.1; omega))
  obtain ⟨dd, hR⟩ := rks_is D rows more by' ha.sm hb.1 hb2.1 h hm12 ht
  have hle := hR.le
  have HR1 := Lib.hid (fun f u (hf : IsField u f) (hu : Ext w u) => hR.one f A c u hf (ha.ext hu) hc)
  have HR2 := Lib.hid hR.mix
  obtain ⟨k3, h3, hR3, hk3⟩ := hR.more
  have HR3 := Lib.hid hR3
  have hl12 := h.1
  have h0 := ht.1
  have hwl : ∀ i, i < rows.length → (ro rows i).length = wide rows := fun i hi => (ht.2 i hi).2
  have hw1 : 1 ≤ wide rows := (ht.2 0 ht.1).1
  have hw12 : wide rows ≤ 12 := h.2 0 ht.1
  have hMX := fun i j => mx_lt rows by' i j
  obtain ⟨N, hNw⟩ : ∃ N, wide rows = N := ⟨_, rfl⟩
  rw [hNw] at hle HR2 hk3 hwl hw1 hw12
  obtain ⟨n, hn⟩ : ∃ n, rows.length = n := ⟨_, rfl⟩
  obtain ⟨m, hm⟩ : ∃ m, more.length = m := ⟨_, rfl⟩
  obtain ⟨m2, hm2⟩ : ∃ m2, by'.length = m2 := ⟨_, rfl⟩
  rw [hn] at hl12 HFW HR1 HR2 hle h0 hc hwl ⊢
  simp only [hn] at HR3
  rw [hm] at hm12 hcd hk3 ⊢
  rw [hm2] at hb12 ⊢
  have HN := Lib.hid hn
  have HMM := Lib.hid hm
  have HM2 := Lib.hid hm2
  have HA := Lib.hid ha
  have HB := Lib.hid hb
  have HB2 := Lib.hid hb2
  have HH := Lib.hid h
  have HWL := Lib.hid hwl
  have HK3 := Lib.hid hk3
  have HMXL := Lib.hid hMX
  obtain ⟨b0, o0, B0, c0, hA0, hc0, hl0, _⟩ := ha 0 (by rw [hn]; exact h0)
  rw [hwl 0 h0, Nat.add_zero] at hc0
  have HC0 := Lib.hid hc0
  have HA0 := Lib.hid hA0
  clear ha hb hb2 h hn hm hm2 hwl hk3 hMX hc0 hA0 hl0 hR hR3 ht hNw
  have t : ¬ (12 : Int) < (m : Int) := by omega
  have td : decide ((12 : Int) < (m : Int)) = false := by simp; omega
  have t2 : ¬ (12 : Int) < (m2 : Int) := by omega
  have td2 : decide ((12 : Int) < (m2 : Int)) = false := by simp; omega
  go_enter Try.func6, Try.ntmps6
  go_wp2_with fail
  refine (awake3 C D w).mono ?_
  rintro e w1 ⟨rfl, hx1⟩
  have HX1 := Lib.hid hx1
  clear hx1
  go_wp2_with fail
  refine (HFW.out w1 HX1.out).mono ?_
  rintro e w2 (⟨_, rfl, q, rfl⟩ | ⟨hp, _⟩)
  rotate_left
  · exact absurd HH.out hp
  go_wp2_with fail
  refine (new_any (w1.drewN q)).mono ?_
  rintro e w3 ⟨f, rfl, hf, hfs, hx3⟩
  have HF := Lib.hid hf
  have HX3 := Lib.hid ((HX1.out.drewN q).trans hx3)
  clear hf hx3 hfs
  go_wp2_with fail
  refine (HR1.out f w3 HF.out HX3.out).mono ?_
  rintro e w4 ⟨rfl, hx4⟩
  have HF4 := Lib.hid (HF.out.ext hx4)
  have HX4 := Lib.hid (HX3.out.trans hx4)
  have hc4 : w4.cell? ⟨b0, o0, none⟩ = some (.slice B0 N c0) := ((HX3.out.trans hx4).below.cell (p := ⟨b0, o0, none⟩) (block_lt_of_cell HC0.out)).trans HC0.out
  have hmk := fun W => run_make_u8 N (by omega) W
  have hnI : (0 : Int) < (n : Int) := by omega
  clear hx4
  obtain rfl := HA0.out
  go_wp2
  clear hmk hc4
  go_loopg [53] n (fun g s wx => ∃ i : Nat, i + g = n ∧ s = .int .i64 (i : Int) ∧ Blk wx w4.heap.size N (mx rows by' i) ∧ Ext w4 wx)
  case atStart => exact ⟨0, by omega, rfl, (Blk.new w4 N (fun _ => 0)).congr (fun _ _ => rfl), (Ext.refl _).alloc _⟩
  case round =>
    obtain ⟨i, hig, rfl, hblk, hx⟩ := hrel
    have HK := Lib.hid hblk
    have HX := Lib.hid hx
    clear hblk hx
    cases gk with
    | zero =>
      obtain rfl : i = n := by omega
      clear hig
      have hsx := HX.out.size
      have hs4 := HX4.out.size
      have HXA := Lib.hid (HX4.out.trans HX.out)
      have HFARA := Lib.hid (HA.out.old (HXA.out.alloc (.cells #[] 27)) (Value.ownBlock (.slice (some ⟨wr.heap.size, 0, none⟩) 0 0)) (fun k hk => by
        have : wr.heap.size = k := by simpa [Value.ownBlock] using hk
        omega))
      have HRC := Lib.hid (HK.out.reads (fun j _ => HMXL.out i j))
      have HLC := Lib.hid (tab_len N (mx rows by' i))
      have hcb : N ≤ N := Nat.le_refl _
      go_wp2_with (first
              | (at_builtin; refine wpList_append_rows rfl (.tmp 90) (.tmp 91) rfl wr.heap.size (.slice (some ⟨wr.heap.size, 0, none⟩) 0 0) [] rows rfl (mineR_empty wr) (some ⟨b0, o0, none⟩) i c rfl HN.out (HA.out.ext (HXA.out.alloc _)) HFARA.out (by rw [HN.out]; simp; omega) (by simp) ?_; intro v6 w6 hown6 hg6 hat6
                 rw [List.nil_append] at hown6
                 have hx6 : Ext wr w6 := ((Ext.refl wr).alloc _).more hg6 (by intro k hk; simp [Value.ownBlock] at hk; omega)
                 have HO6 := Lib.hid hown6
                 have HX6 := Lib.hid hx6
                 have HFAR2 := Lib.hid (old_one (w := w6) (cB := N) HRC.out v6.ownBlock (fun k hk => by have := (hown6.block k hk).1; omega))
                 have HRR2 := Lib.hid (rrd_lit w6 [.slice (some ⟨w4.heap.size, 0, none⟩) (tab N (mx rows by' i)).length N] [tab N (mx rows by' i)] (rowsV_one ⟨(some ⟨w4.heap.size, 0, none⟩), N, rfl, by rw [HLC.out]; exact hcb, HRC.out.ext hx6⟩))
                 have hs6 := hx6.size
                 rw [HLC.out] at HFAR2 HRR2
                 clear hown6 hg6 hat6 hx6)
              | (at_builtin; refine wpList_append_rows rfl (.tmp 92) (.tmp 94) rfl wr.heap.size v6 rows [tab N (mx rows by' i)] rfl (HO6.out.ext ((Ext.refl w6).alloc _)) (some ⟨w6.heap.size, 0, none⟩) 1 1 rfl rfl HRR2.out HFAR2.out (by rw [HN.out]; simp; omega) (by simp; omega) ?_; intro v7 w7 hown7 hg7 hat7
                 obtain ⟨E, cE, hv7, hcE, hrE⟩ := hown7.slice
                 have hx7 : Ext wr w7 := (HX6.out.alloc _).more hg7 (fun k hk => (HO6.out.block k hk).1)
                 rw [show (rows ++ [tab N (mx rows by' i)]).length = i + 1 from by rw [List.length_append, HN.out]; rfl] at hv7 hcE
                 subst hv7
                 have HRE := Lib.hid hrE
                 have HX7 := Lib.hid hx7
                 clear hown7 hg7 hat7 hx7 hrE)
              | fail)
      go_wp2_with fail
      refine (HR2.out f E cE w7 (HF4.out.ext (HX.out.trans HX7.out)) HRE.out hcE).mono ?_
      rintro e w8 ⟨rfl, hx8⟩
      have HX48 := Lib.hid (HX.out.trans (HX7.out.trans hx8))
      clear hx8 HXA HFARA HRC HLC hcb HFAR2 HRR2 HO6 HX6 HRE HX7 hcE hs6
      have HXA := Lib.hid (HX4.out.trans HX48.out)
      have hs8 := HX48.out.size
      have HFARA := Lib.hid (HA.out.old (HXA.out.alloc (.cells #[] 27)) (Value.ownBlock (.slice (some ⟨w8.heap.size, 0, none⟩) 0 0)) (fun k hk => by
        have : w8.heap.size = k := by simpa [Value.ownBlock] using hk
        omega))
      have HRC := Lib.hid (HB.out.ext HXA.out)
      have HLC := Lib.hid HMM.out
      have hcb := hcd
      go_wp2_with (first
              | (at_builtin; refine wpList_append_rows rfl (.tmp 101) (.tmp 102) rfl w8.heap.size (.slice (some ⟨w8.heap.size, 0, none⟩) 0 0) [] rows rfl (mineR_empty w8) (some ⟨b0, o0, none⟩) i c rfl HN.out (HA.out.ext (HXA.out.alloc _)) HFARA.out (by rw [HN.out]; simp; omega) (by simp) ?_; intro v16 w16 hown6 hg6 hat6
                 rw [List.nil_append] at hown6
                 have hx6 : Ext w8 w16 := ((Ext.refl w8).alloc _).more hg6 (by intro k hk; simp [Value.ownBlock] at hk; omega)
                 have HO6 := Lib.hid hown6
                 have HX6 := Lib.hid hx6
                 have HFAR2 := Lib.hid (old_one (w := w16) (cB := d) HRC.out v16.ownBlock (fun k hk => by have := (hown6.block k hk).1; omega))
                 have HRR2 := Lib.hid (rrd_lit w16 [.slice B (more).length d] [more] (rowsV_one ⟨B, d, rfl, by rw [HLC.out]; exact hcb, HRC.out.ext hx6⟩))
                 have hs6 := hx6.size
                 rw [HLC.out] at HFAR2 HRR2
                 clear hown6 hg6 hat6 hx6)
              | (at_builtin; refine wpList_append_rows rfl (.tmp 103) (.tmp 105) rfl w8.heap.size v16 rows [more] rfl (HO6.out.ext ((Ext.refl w16).alloc _)) (some ⟨w16.heap.size, 0, none⟩) 1 1 rfl rfl HRR2.out HFAR2.out (by rw [HN.out]; simp; omega) (by simp; omega) ?_; intro v17 w17 hown7 hg7 hat7
                 obtain ⟨E2, cE2, hv17, hcE, hrE⟩ := hown7.slice
                 have hx7 : Ext w8 w17 := (HX6.out.alloc _).more hg7 (fun k hk => (HO6.out.block k hk).1)
                 rw [show (rows ++ [more]).length = i + 1 from by rw [List.length_append, HN.out]; rfl] at hv17 hcE
                 subst hv17
                 have HRE := Lib.hid hrE
                 have HX7 := Lib.hid hx7
                 clear hown7 hg7 hat7 hx7 hrE)
              | fail)
      go_wp2_with fail
      refine (HR3.out f E2 cE2 w17 (HF4.out.ext (HX48.out.trans HX7.out)) HRE.out hcE).mono ?_
      rintro e w9 ⟨rfl, hx9⟩
      have HX9 := Lib.hid (HXA.out.trans (HX7.out.trans hx9))
      have hc9 : w9.cell? ⟨b0, o0, none⟩ = some (.slice B0 N c0) := (HX9.out.below.cell (p := ⟨b0, o0, none⟩) (block_lt_of_cell HC0.out)).trans HC0.out
      clear hx9 HXA HFARA HRC HLC hcb HFAR2 HRR2 HO6 HX6 HRE HX7 hcE hs6
      have f1 : (0 : Int) ≤ (dd : Int) := by omega
      have f2 : (dd : Int) ≤ min (i : Int) (N : Int) := by omega
      have f3 : ((dd : Int) == (dd : Int)) = true := by simp
      rcases HK3.out with ⟨hmN, rfl, hk⟩ | ⟨hmN, rfl, rfl⟩
      · have t9 : ((m : Int) == (N : Int)) = true := by rw [hmN]; simp
        clear hmN
        rcases hk with rfl | rfl
        · clear HK3
          go_wp2
          all_goals
            go_ret
            exact ⟨rfl, HX9.out⟩
        · have f4 : (((dd : Int) + 1) == (dd : Int)) = false := beq_eq_false_iff_ne.2 (by omega)
          have f5 : (((dd : Int) + 1) == ((dd : Int) + 1)) = true := by simp
          clear HK3
          go_wp2
          all_goals
            go_ret
            exact ⟨rfl, HX9.out⟩
      · have t9 : ((m : Int) == (N : Int)) = false := by simp; omega
        clear hmN HK3
        go_wp2
        all_goals
          go_ret
          exact ⟨rfl, HX9.out⟩
    | succ g =>
      have hi : i < n := by omega
      have hiI : (i : Int) < (n : Int) := by omega
      go_wp2
      rename World => wo
      go_loopg [58] N (fun g2 s wx => ∃ j : Nat, j + g2 = N ∧ s = .int .i64 (j : Int) ∧ Blk wx w4.heap.size N (mxm rows by' i j) ∧ Ext w4 wx)
      case atStart => exact ⟨0, by omega, rfl, HK.out.congr (fun _ _ => rfl), HX.out⟩
      case round =>
        obtain ⟨j, hjg, rfl, hblk, hx⟩ := hrel
        have HKJ := Lib.hid hblk
        have HXJ := Lib.hid hx
        clear hblk hx
        cases gk with
        | zero =>
          obtain rfl : j = N := by omega
          clear hjg
          go_wp2
          go_roundg g
          case measure => omega
          case rel => exact ⟨i + 1, by omega, by go_num, HKJ.out.congr (fun k hk => by unfold mxm; rw [if_pos hk]), HXJ.out⟩
        | succ g2 =>
          have hj : j < N := by omega
          have hjI : (j : Int) < (N : Int) := by omega
          by_cases him : i < m2
          · have hiB : (i : Int) < (m2 : Int) := by omega
            obtain ⟨b1, o1, B1, c1, e1, hc1, hl1, hr1⟩ := (HA.out.ext (HX4.out.trans HXJ.out)) i (by rw [HN.out]; exact hi)
            injection e1 with e1
            injection e1 with e1 e2
            subst e1
            subst e2
            rw [HWL.out i hi] at hc1 hl1
            obtain ⟨b2, o2, rfl, hc2⟩ := hr1.2 j (by rw [HWL.out i hi]; exact hj)
            obtain ⟨b3, o3, rfl, hc3⟩ := (HB2.out.ext (HX4.out.trans HXJ.out)).2 i (by rw [HM2.out]; exact him)
            have hmm : mxm rows by' i j j = mx rows by' i j := by unfold mxm; rw [if_neg (by omega)]
            have hcb := HKJ.out.cell j hj
            rw [hmm] at hcb
            have hfz := HKJ.out.frozen j
            have HMU := Lib.hid (fun q => mul_any f (co (ro rows i) j) (co by' i) (wr.drewN q) ((HF4.out.ext HXJ.out).drewN q) (hr1.1 j) (HB2.out.1 i))
            have HAD := Lib.hid (fun q => add_is (mx rows by' i j) (Gf.mul (co (ro rows i) j) (co by' i)) _ (HMXL.out i j) (Gf.mul_lt _ _) rfl (wr.drewN q))
            have HST := Lib.hid (fun q => ((HKJ.out.drewN q).store j (mx rows by' i j ^^^ Gf.mul (co (ro rows i) j) (co by' i))).congr (f' := mxm rows by' i (j + 1)) (fun k _ => mxm_step rows by' i j k (by rw [HM2.out]; exact him)))
            have HEX := Lib.hid (fun q => (HXJ.out.drewN q).setCell (p := ⟨w4.heap.size, j, none⟩) (Nat.le_refl _) (.int .u8 ((mx rows by' i j ^^^ Gf.mul (co (ro rows i) j) (co by' i) : Nat) : Int)))
            clear hr1 hmm him
            go_wp2
            refine wp_region_quiet_tail 21 (fun w' => ∃ q, w' = wr.drewN q) (by kernel_rfl) (by kernel_rfl) ⟨1, rfl⟩ ?_
            simp only [List.take_succ_cons, List.take_zero, List.drop_succ_cons, List.drop_zero]
            repeat (quiet_step (first | (go_at_call 21; exact quiet_hands (HMU.out _)) | (go_at_call 22; exact quiet_same (HAD.out _))))
            refine wpQuiet_nil ?_
            rintro _ ⟨q2, rfl⟩
            go_wp2
            go_roundg g2
            case measure => omega
            case rel => exact ⟨j + 1, by omega, by go_num, HST.out q2, HEX.out q2⟩
          · have hiB : ¬ (i : Int) < (m2 : Int) := by omega
            have HIM := Lib.hid him
            clear him
            go_wp2
            go_roundg g2
            case measure => omega
            case rel => exact ⟨j + 1, by omega, by go_num, HKJ.out.congr (fun k _ => by rw [mxm_same _ _ _ _ _ (by rw [HM2.out]; exact HIM.out), mxm_same _ _ _ _ _ (by rw [HM2.out]; exact HIM.out)]), HXJ.out⟩

theorem ranks3_walk (C : SolveSaid) (D : RankSaid) (rows : List (List Nat)) (more by' : List Nat) (A B B2 : Option Addr) (c d d2 : Nat) (w : World) (ha : RRd w A rows) (hmax : rows.length ≤ maxLen) (hc : rows.length ≤ c) (hb : Rd w B more) (hb2 : Rd w B2 by') (hcd : more.length ≤ d) :
    Calls Try.prog 6 #[.slice A rows.length c, .slice B more.length d, .slice B2 by'.length d2] w (Holds w) := by
  by_cases h : Few rows ∧ more.length ≤ 12 ∧ by'.length ≤ 12
  · by_cases ht : Rt rows
    · exact ranks3_few C D rows more by' A B B2 c d d2 w ha hc hb hb2 hcd h.1 h.2.1 h.2.2 ht
    · exact ranks3_odd C D rows more by' A B B2 c d d2 w ha hc h.1 h.2.1 h.2.2 ht
  · exact ranks3_big C D rows more by' A B B2 c d d2 w ha hmax (by
      by_cases hf : Few rows
      · by_cases hm : more.length ≤ 12
        · exact .inr (.inr (Nat.lt_of_not_le fun e => h ⟨hf, hm, e⟩))
        · exact .inr (.inl (by omega))
      · exact .inl hf)
end Go.Proofs.Ytlncelfacfflhaa
