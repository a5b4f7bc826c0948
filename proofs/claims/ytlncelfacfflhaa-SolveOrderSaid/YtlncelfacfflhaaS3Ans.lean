/-
  Rows that say the same have the same answers, under what layer 3's functions are to do. Conditions: no more than 2^12 rows and elements.
-/
import Derived.Test.YtlncelfacfflhaaL3Odd
namespace Go.Proofs.Ytlncelfacfflhaa
open Go.RowKit
open Pol (co Sm)
open Lin (SolSome SolNone Cnt NotFree KL)

/-- What Solve and Rank answer of rows, wherever they lie. -/
structure Ans (rows : List (List Nat)) (x : List Nat) (k d e : Int) : Prop where
  solve : ∀ (f : Nat) (A : Option Addr) (c : Nat) (w : World), IsField w f → RRd w A rows → rows.length ≤ c →
    Calls Try.prog 13 #[.pointer (some ⟨f, 0, none⟩), .slice A rows.length c] w (GivesE x k w)
  rank : ∀ (f : Nat) (A : Option Addr) (c : Nat) (w : World), IsField w f → RRd w A rows → rows.length ≤ c →
    Calls Try.prog 15 #[.pointer (some ⟨f, 0, none⟩), .slice A rows.length c] w (Tells (.tuple #[.int .i64 d, .int .i64 e]) w)
def Fit (rows : List (List Nat)) : Prop := rows.length ≤ 4096 ∧ ∀ i, i < rows.length → (ro rows i).length ≤ 4096
theorem Few.fit {rows : List (List Nat)} (h : Few rows) : Fit rows := ⟨few_len h, few_rows h⟩
theorem ans_odd (C : SolveSaid) (D : RankSaid) {rows : List (List Nat)} (h : Fit rows) (ht : ¬ Rt rows) : Ans rows [] 1 0 1 :=
  ⟨fun f A c w hf hr hc => C.odd f rows A c w hf hr hc h.1 h.2 ht, fun f A c w hf hr hc => D.odd f rows A c w hf hr hc h.1 h.2 ht⟩
theorem ans_some (C : SolveSaid) (D : RankSaid) {rows : List (List Nat)} (h : Fit rows) (ht : Rt rows) {x : List Nat} {d : Nat} (hx : SolSome (KL (wide rows) rows) (wide rows - 1) x) (hd : Cnt (NotFree (KL (wide rows) rows)) (wide rows) d) : Ans rows x 0 (d : Int) 0 := by
  obtain ⟨d', hd'⟩ := Lin.cnt_is (NotFree (KR (wide rows) rows)) (wide rows)
  have e : d' = d := Lin.rank_alike (kr_kl _ rows) hd' hd
  subst e
  exact ⟨fun f A c w hf hr hc => solve_is C f rows A c w hf hr hc h.1 h.2 ht x (hx.alike (kr_kl _ rows).symm), fun f A c w hf hr hc => D.rank f rows A c w hf hr hc h.1 h.2 ht _ hd'⟩
theorem ans_none (C : SolveSaid) (D : RankSaid) {rows : List (List Nat)} (h : Fit rows) (ht : Rt rows) {d : Nat} (hx : SolNone (KL (wide rows) rows) (wide rows - 1)) (hd : Cnt (NotFree (KL (wide rows) rows)) (wide rows) d) : Ans rows [] 7 (d : Int) 0 := by
  obtain ⟨d', hd'⟩ := Lin.cnt_is (NotFree (KR (wide rows) rows)) (wide rows)
  have e : d' = d := Lin.rank_alike (kr_kl _ rows) hd' hd
  subst e
  exact ⟨fun f A c w hf hr hc => solve_no C f rows A c w hf hr hc h.1 h.2 ht (hx.alike (kr_kl _ rows).symm), fun f A c w hf hr hc => D.rank f rows A c w hf hr hc h.1 h.2 ht _ hd'⟩
theorem ans_both (C : SolveSaid) (D : RankSaid) {rows rows' : List (List Nat)} (h : Fit rows) (h' : Fit rows') (hb : Lin.Bytes rows) (ht : Rt rows ↔ Rt rows') (hw : Rt rows → wide rows' = wide rows) (ha : Rt rows → Lin.Alike (KL (wide rows) rows) (KL (wide rows) rows')) :
    ∃ x k d e, Ans rows x k d e ∧ Ans rows' x k d e ∧ x.length ≤ 4096 := by
  by_cases hr : Rt rows
  · have hr' := ht.1 hr
    have hwl : wide rows ≤ 4096 := h.2 0 hr.1
    obtain ⟨d, hd⟩ := Lin.cnt_is (NotFree (KL (wide rows) rows)) (wide rows)
    have hd' : Cnt (NotFree (KL (wide rows') rows')) (wide rows') d := by
      rw [hw hr]
      obtain ⟨d', hd'⟩ := Lin.cnt_is (NotFree (KL (wide rows) rows')) (wide rows)
      have e : d = d' := Lin.rank_alike (ha hr) hd hd'
      rw [e]; exact hd'
    rcases Lin.sol_or (Lin.kl_lin (wide rows) rows hb) (wide rows - 1) with ⟨x, hx⟩ | hx
    · exact ⟨x, 0, d, 0, ans_some C D h hr hx hd, ans_some C D h' hr' (by rw [hw hr]; exact hx.alike (ha hr)) hd', by rw [hx.len]; omega⟩
    · exact ⟨[], 7, d, 0, ans_none C D h hr hx hd, ans_none C D h' hr' (by rw [hw hr]; exact hx.alike (ha hr)) hd', by simp⟩
  · exact ⟨[], 1, 0, 1, ans_odd C D h hr, ans_odd C D h' (fun e => hr (ht.2 e)), by simp⟩

/-! ### Rows times an element, the last one first -/
def sc (rows : List (List Nat)) (y i : Nat) : List Nat := tab (ro rows i).length (fun k => Gf.mul (co (ro rows i) k) y)
def bk (rows : List (List Nat)) (y : Nat) : Nat → List (List Nat)
  | 0 => []
  | k + 1 => sc rows y k :: bk rows y k
theorem bk_len (rows : List (List Nat)) (y : Nat) : ∀ k, (bk rows y k).length = k
  | 0 => rfl
  | k + 1 => by rw [bk, List.length_cons, bk_len rows y k]
theorem bk_mem (rows : List (List Nat)) (y : Nat) (r : List Nat) : ∀ k, r ∈ bk rows y k ↔ ∃ i, i < k ∧ r = sc rows y i
  | 0 => by simp [bk]
  | k + 1 => by
    rw [bk, List.mem_cons, bk_mem rows y r k]
    constructor
    · rintro (e | ⟨i, hi, e⟩)
      · exact ⟨k, by omega, e⟩
      · exact ⟨i, by omega, e⟩
    · rintro ⟨i, hi, e⟩
      by_cases h : i = k
      · exact .inl (by rw [e, h])
      · exact .inr ⟨i, by omega, e⟩
theorem sc_len (rows : List (List Nat)) (y i : Nat) : (sc rows y i).length = (ro rows i).length := tab_len _ _
theorem sc_dot (rows : List (List Nat)) (y i N : Nat) (hN : (ro rows i).length = N) (hs : Sm (ro rows i)) (hy : y < 256) (y0 : y ≠ 0) (x : Nat → Nat) (hx : Lin.By x) : Lin.dot N (co (sc rows y i)) x = 0 ↔ Lin.dot N (co (ro rows i)) x = 0 := by
  have e : Lin.dot N (co (sc rows y i)) x = Gf.mul y (Lin.dot N (co (ro rows i)) x) := by
    rw [← Lin.dot_smul_left N y (co (ro rows i)) x hy hs hx]
    refine Lin.dot_congr (fun k hk => ?_) (fun _ _ => rfl)
    unfold sc
    rw [co_tab, hN, if_pos hk, Gf.mul_comm]
  rw [e]
  constructor
  · intro h
    apply Classical.byContradiction
    intro hn
    exact Gf.mul_ne _ _ y0 hn h
  · intro h; rw [h, Gf.mul_zero]
theorem rt_iff (rows : List (List Nat)) : Rt rows ↔ 0 < rows.length ∧ ∃ N, 1 ≤ N ∧ ∀ r ∈ rows, r.length = N := by
  constructor
  · rintro ⟨h0, h⟩
    refine ⟨h0, wide rows, (h 0 h0).1, fun r hr => ?_⟩
    obtain ⟨i, hi, rfl⟩ := ro_mem hr
    exact (h i hi).2
  · rintro ⟨h0, N, hN, h⟩
    refine ⟨h0, fun i hi => ?_⟩
    rw [h _ (ro_in rows i hi), h _ (ro_in rows 0 h0)]
    exact ⟨hN, rfl⟩
theorem rt_all {rows : List (List Nat)} (h : Rt rows) : ∀ r ∈ rows, r.length = wide rows := fun r hr => by
  obtain ⟨i, hi, rfl⟩ := ro_mem hr
  exact (h.2 i hi).2
theorem wide_of {rows : List (List Nat)} {N : Nat} (h0 : 0 < rows.length) (h : ∀ r ∈ rows, r.length = N) : wide rows = N := h _ (ro_in rows 0 h0)
theorem order_both (C : SolveSaid) (D : RankSaid) (rows : List (List Nat)) (y : Nat) (hb : Lin.Bytes rows) (h : Few rows) (h0 : 0 < rows.length) (hy : y < 256) (y0 : y ≠ 0) :
    ∃ x k d e, Ans rows x k d e ∧ Ans (bk rows y rows.length ++ [ro rows 0]) x k d e ∧ x.length ≤ 4096 := by
  have hlen : (bk rows y rows.length ++ [ro rows 0]).length = rows.length + 1 := by rw [List.length_append, bk_len]; rfl
  have hmem : ∀ r, r ∈ bk rows y rows.length ++ [ro rows 0] ↔ (∃ i, i < rows.length ∧ r = sc rows y i) ∨ r = ro rows 0 := fun r => by rw [List.mem_append, bk_mem, List.mem_singleton]
  have hall : ∀ N, (∀ r ∈ rows, r.length = N) ↔ ∀ r ∈ bk rows y rows.length ++ [ro rows 0], r.length = N := fun N => by
    constructor
    · intro hN r hr
      rcases (hmem r).1 hr with ⟨i, hi, rfl⟩ | rfl
      · rw [sc_len]; exact hN _ (ro_in rows i hi)
      · exact hN _ (ro_in rows 0 h0)
    · intro hN r hr
      obtain ⟨i, hi, rfl⟩ := ro_mem hr
      have := hN (sc rows y i) ((hmem _).2 (.inl ⟨i, hi, rfl⟩))
      rwa [sc_len] at this
  refine ans_both C D h.fit ⟨by rw [hlen]; have := h.1; omega, fun i hi => ?_⟩ hb ?_ (fun hr => ?_) (fun hr x hx => ?_)
  · have hr := ro_in _ i hi
    rcases (hmem _).1 hr with ⟨j, hj, e⟩ | e
    · rw [e, sc_len]; have := h.2 j hj; omega
    · rw [e]; have := h.2 0 h0; omega
  · rw [rt_iff, rt_iff]
    constructor
    · rintro ⟨_, N, hN, hh⟩; exact ⟨by omega, N, hN, (hall N).1 hh⟩
    · rintro ⟨_, N, hN, hh⟩; exact ⟨h0, N, hN, (hall N).2 hh⟩
  · exact wide_of (by omega) ((hall _).1 (rt_all hr))
  · have hw := rt_all hr
    constructor
    · intro hk r hrm
      rcases (hmem r).1 hrm with ⟨i, hi, rfl⟩ | rfl
      · exact (sc_dot rows y i _ (hw _ (ro_in rows i hi)) (hb _ (ro_in rows i hi)) hy y0 x hx).2 (hk _ (ro_in rows i hi))
      · exact hk _ (ro_in rows 0 h0)
    · intro hk r hrm
      obtain ⟨i, hi, rfl⟩ := ro_mem hrm
      exact (sc_dot rows y i _ (hw _ (ro_in rows i hi)) (hb _ (ro_in rows i hi)) hy y0 x hx).1 (hk _ ((hmem _).2 (.inl ⟨i, hi, rfl⟩)))
end Go.Proofs.Ytlncelfacfflhaa
