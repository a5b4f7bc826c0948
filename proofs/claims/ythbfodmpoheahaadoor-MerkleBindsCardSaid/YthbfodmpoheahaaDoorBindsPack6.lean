/-
  Part 6 of the texts that the seat's proofs stand on; each part of it begins with its own sentence and conditions. Conditions: those that each theorem names.
-/
import Derived.Test.YthbfodmpoheahaaDoorBindsPack5
import Derived.ChangeKeysEq

/-
  What inner of layer 11's laws does; how long what is digested can be. Conditions: under what the document's Of is to do; at most 4096 texts of 2^15 bytes.
-/
namespace Go.Proofs.YthbfodmpoheahaaDoor
open Go.RowKit
open Pol (co Sm)

theorem law11_inner (R : RefOf) (m : Nat) : ∀ (rows : List (List Nat)) (A : Option Addr) (c : Nat) (w : World), rows.length ≤ m → RRd w A rows → rows.length ≤ c → rows.length ≤ 4096 → (∀ i, i < rows.length → (ro rows i).length ≤ 32768) →
    Calls Tryd.prog 35 #[.slice A rows.length c] w (InnerS rows w) := by
  induction m with
  | zero =>
    intro rows A c w hm hr hc hl hls
    obtain rfl : rows = [] := List.eq_nil_of_length_eq_zero (by omega)
    exact law11_inner_nil A c w
  | succ m ih =>
    intro rows A c w hm hr hc hl hls
    by_cases h2 : 2 ≤ rows.length
    · have k1 := spl_lt h2
      have k0 := spl_pos rows.length
      refine law11_inner_more R rows (spl rows.length) A c w h2 hr hc hl hls rfl (fun W hx => ?_) (fun X W hx hX => ?_)
      · have htl : (rows.take (spl rows.length)).length = spl rows.length := by rw [List.length_take]; omega
        have h := ih (rows.take (spl rows.length)) A c W (by omega) ((hr.take _).ext hx) (by omega) (by omega) (fun i hi => by rw [ro_take rows _ i (by omega)]; exact hls i (by omega))
        rw [htl] at h
        exact h
      · have hdl : (rows.drop (spl rows.length)).length = rows.length - spl rows.length := by rw [List.length_drop]
        have h := ih (rows.drop (spl rows.length)) X (c - spl rows.length) W (by omega) hX (by omega) (by omega) (fun i hi => by
          rw [show ro (rows.drop (spl rows.length)) i = ro rows (spl rows.length + i) from by unfold ro; rw [List.getElem?_drop]]
          exact hls _ (by omega))
        rw [hdl] at h
        exact h
    · rcases Nat.lt_or_ge rows.length 1 with h0 | h0
      · obtain rfl : rows = [] := List.eq_nil_of_length_eq_zero (by omega)
        exact law11_inner_nil A c w
      · obtain ⟨t, rfl⟩ := List.length_eq_one_iff.1 (show rows.length = 1 from by omega)
        exact law11_inner_one t A c w hr (Nat.le_trans (hls 0 (by simp)) (by decide))
theorem minn_short : ∀ (m : Nat) (l : List (List Nat)), l.length ≤ m → (∀ x ∈ l, x.length ≤ 32768) → ∀ x ∈ minn sha l, x.length ≤ 65536
  | m, l, hm, h, x, hx => by
    by_cases h2 : 2 ≤ l.length
    · have k1 := spl_lt h2
      have k0 := spl_pos l.length
      cases m with
      | zero => omega
      | succ m =>
        rw [minn_more sha h2, List.mem_append, List.mem_append, List.mem_singleton] at hx
        rcases hx with (hx | hx) | hx
        · exact minn_short m _ (by rw [List.length_take]; omega) (fun y hy => h y (List.mem_of_mem_take hy)) x hx
        · exact minn_short m _ (by rw [List.length_drop]; omega) (fun y hy => h y (List.mem_of_mem_drop hy)) x hx
        · rw [hx, List.length_cons, List.length_append, mroot_32, mroot_32]
          omega
    · rcases Nat.lt_or_ge l.length 1 with h0 | h0
      · obtain rfl : l = [] := List.eq_nil_of_length_eq_zero (by omega)
        rw [minn_nil] at hx
        obtain rfl : x = [] := by simpa using hx
        simp
      · obtain ⟨t, rfl⟩ := List.length_eq_one_iff.1 (show l.length = 1 from by omega)
        rw [minn_one] at hx
        obtain rfl : x = 0 :: t := by simpa using hx
        have := h t (by simp)
        simp
        omega
theorem mpath_short (t : List Nat) (ht : t.length ≤ 32768) : ∀ (m n i : Nat) (ps : List (List Nat)), ps.length ≤ m → (∀ p ∈ ps, p.length = 32) → ∀ x ∈ (mpath sha t n i ps).2, x.length ≤ 65536
  | m, n, i, ps, hm, hp, x, hx => by
    by_cases h2 : 2 ≤ n
    · rcases List.eq_nil_or_concat ps with rfl | ⟨q, y, rfl⟩
      · rw [mpath_end sha t n i [] (.inr rfl)] at hx
        obtain rfl : x = 0 :: t := by simpa using hx
        simp
        omega
      · rw [List.concat_eq_append] at hm hp hx
        rw [List.length_append, List.length_singleton] at hm
        cases m with
        | zero => omega
        | succ m =>
          have hy : y.length = 32 := hp y (by simp)
          have hq : ∀ p ∈ q, p.length = 32 := fun p hpq => hp p (by simp [hpq])
          by_cases hi : i < spl n
          · rw [mpath_lo sha t i q y h2 hi, List.mem_append, List.mem_singleton] at hx
            rcases hx with hx | hx
            · exact mpath_short t ht m _ _ q (by omega) hq x hx
            · rw [hx, List.length_cons, List.length_append, (mpath_32 _ _ _ _).1, hy]
              omega
          · rw [mpath_hi sha t i q y h2 hi, List.mem_append, List.mem_singleton] at hx
            rcases hx with hx | hx
            · exact mpath_short t ht m _ _ q (by omega) hq x hx
            · rw [hx, List.length_cons, List.length_append, (mpath_32 _ _ _ _).1, hy]
              omega
    · rw [mpath_end sha t n i ps (.inl (by omega))] at hx
      obtain rfl : x = 0 :: t := by simpa using hx
      simp
      omega
/-- All that was digested. -/
def digd (l k : List (List Nat)) (t : List Nat) (i : Nat) (ps : List (List Nat)) : List (List Nat) := (mpath sha t l.length i ps).2 ++ minn sha l ++ minn sha k
theorem digd_short (l k : List (List Nat)) (t : List Nat) (i : Nat) (ps : List (List Nat)) (hl : ∀ i, i < l.length → (ro l i).length ≤ 32768) (hk : ∀ i, i < k.length → (ro k i).length ≤ 32768) (ht : t.length ≤ 32768) (hp : ∀ p ∈ ps, p.length = 32) :
    ∀ j, j < (digd l k t i ps).length → (ro (digd l k t i ps) j).length ≤ 65536 := fun j hj => by
  have hm := ro_in (digd l k t i ps) j hj
  generalize ro (digd l k t i ps) j = x at hm ⊢
  unfold digd at hm
  rw [List.mem_append, List.mem_append] at hm
  have hin : ∀ (z : List (List Nat)), (∀ i, i < z.length → (ro z i).length ≤ 32768) → ∀ x ∈ z, x.length ≤ 32768 := fun z hz x hx => by
    obtain ⟨i, hi, rfl⟩ := ro_mem hx
    exact hz i hi
  rcases hm with (hm | hm) | hm
  · exact mpath_short t ht ps.length _ _ ps (Nat.le_refl _) hp x hm
  · exact minn_short l.length l (Nat.le_refl _) (hin l hl) x hm
  · exact minn_short k.length k (Nat.le_refl _) (hin k hk) x hm
theorem minn_few' (l : List (List Nat)) : (minn sha l).length ≤ 2 * l.length + 1 := by
  rcases Nat.lt_or_ge l.length 1 with h0 | h0
  · obtain rfl : l = [] := List.eq_nil_of_length_eq_zero (by omega)
    rw [minn_nil]; simp
  · have := minn_few sha l.length l (Nat.le_refl _) h0
    omega
theorem digd_few (l k : List (List Nat)) (t : List Nat) (i : Nat) (ps : List (List Nat)) : (digd l k t i ps).length ≤ ps.length + 1 + (2 * l.length + 1) + (2 * k.length + 1) := by
  unfold digd
  rw [List.length_append, List.length_append]
  have := mpath_few sha t ps.length l.length i ps (Nat.le_refl _)
  have := minn_few' l
  have := minn_few' k
  omega
/-- Two places with unlike things of one digest. -/
def Bad (al : List (List Nat)) (a b : Nat) : Prop := sha (ro al a) = sha (ro al b) ∧ ro al a ≠ ro al b
theorem no_clash {al : List (List Nat)} (h : ∀ a, a < al.length → ∀ b, b < a → ¬ Bad al a b) : ¬ ∃ x ∈ al, ∃ y ∈ al, sha x = sha y ∧ x ≠ y := fun ⟨x, hx, y, hy, e, ne⟩ => by
  obtain ⟨a, ha, rfl⟩ := ro_mem hx
  obtain ⟨b, hb, rfl⟩ := ro_mem hy
  rcases Nat.lt_trichotomy a b with hab | hab | hab
  · exact h b hb a hab ⟨e.symm, Ne.symm ne⟩
  · rw [hab] at ne
    exact ne rfl
  · exact h a ha b hab ⟨e, ne⟩
end Go.Proofs.YthbfodmpoheahaaDoor

/-
  The statements' own comparison of lists of rows tells lists that are unlike from those that are alike. Conditions: no more than 2^20 rows of 2^20 bytes.
-/
namespace Go.Proofs.YthbfodmpoheahaaDoor
open Go.RowKit
open Pol (co Sm)

set_option maxHeartbeats 1600000 in
set_option maxRecDepth 100000 in
theorem lists9 (rows mows : List (List Nat)) (A B : Option Addr) (ca cb : Nat) (w : World) (ha : RRd w A rows) (hb : RRd w B mows) (hl : rows.length ≤ 1048576) (hls : ∀ i, i < rows.length → (ro rows i).length ≤ 1048576) :
    Calls Tryd.prog 18 #[.slice A rows.length ca, .slice B mows.length cb] w (Hands (.bool (decide (rows = mows))) w) := by
  by_cases hlm : rows.length = mows.length
  · obtain ⟨v, hv⟩ : ∃ v, decide (rows = mows) = v := ⟨_, rfl⟩
    have HT := Lib.hid (fun (h : ∀ j, j < rows.length → ro rows j = ro mows j) => show v = true from by rw [← hv]; exact decide_eq_true (ro_ext hlm h))
    have HF := Lib.hid (fun j (h : ro rows j ≠ ro mows j) => show v = false from by rw [← hv]; exact decide_eq_false (fun e => h (by rw [e])))
    rw [hv, ← hlm]
    have HA := Lib.hid ha
    have HB := Lib.hid hb
    obtain ⟨n, hn⟩ : ∃ n, rows.length = n := ⟨_, rfl⟩
    have HN := Lib.hid hn
    have HM := Lib.hid (show mows.length = n from by rw [← hlm, hn])
    rw [hn] at hl hls HT ⊢
    have HLS := Lib.hid hls
    clear ha hb hn hls hv hlm
    go_enter Tryd.func18, Tryd.ntmps18
    go_wp2
    go_loopg [14] n (fun g s wx => ∃ i m : Nat, i + g = n ∧ s = .int .i64 (i : Int) ∧ wx = w.drewN m ∧ ∀ j, j < i → ro rows j = ro mows j)
    case atStart => exact ⟨0, 0, by omega, rfl, rfl, fun j hj => by omega⟩
    case round =>
      obtain ⟨i, m, hig, rfl, rfl, hsame⟩ := hrel
      have HSAME := Lib.hid hsame
      clear hsame
      cases gk with
      | zero =>
        obtain rfl : i = n := by omega
        have hv := HT.out HSAME.out
        subst hv
        clear hig HF HT
        go_wp2
        go_ret
        exact ⟨rfl, m, rfl⟩
      | succ g =>
        have hi : i < n := by omega
        have hiI : (i : Int) < (n : Int) := by omega
        obtain ⟨b1, o1, R1, c1, rfl, hc1, hl1, hr1⟩ := HA.out i (by rw [HN.out]; exact hi)
        obtain ⟨b2, o2, R2, c2, rfl, hc2, hl2, hr2⟩ := HB.out i (by rw [HM.out]; exact hi)
        have HFI := Lib.hid (HF.out i)
        have HIG := Lib.hid hig
        have HTK := Lib.hid (HLS.out i hi)
        obtain ⟨t, ht⟩ : ∃ t, ro rows i = t := ⟨_, rfl⟩
        obtain ⟨u, hu⟩ : ∃ u, ro mows i = u := ⟨_, rfl⟩
        have HTE := Lib.hid (fun (_ : Unit) => ht)
        have HUE := Lib.hid (fun (_ : Unit) => hu)
        rw [ht] at hc1 hr1 hl1 HFI HTK
        rw [hu] at hc2 hr2 hl2 HFI
        obtain ⟨k, hk⟩ : ∃ k, t.length = k := ⟨_, rfl⟩
        obtain ⟨k', hk'⟩ : ∃ k, u.length = k := ⟨_, rfl⟩
        rw [hk] at hc1 hl1 HTK
        rw [hk'] at hc2 hl2
        have HR1 := Lib.hid hr1
        have HR2 := Lib.hid hr2
        have HK := Lib.hid hk
        have HK' := Lib.hid hk'
        have hkl : k ≤ 1048576 := HTK.out
        by_cases hkk : k = k'
        · subst hkk
          have hkb : ((k : Int) != (k : Int)) = false := by simp
          clear hr1 hr2 hk hk' ht hu hig
          go_wp2
          go_quiet (fail)
          go_wp2
          go_loopg [33] k (fun g s wx => ∃ j m : Nat, j + g = k ∧ s = .int .i64 (j : Int) ∧ wx = w.drewN m ∧ ∀ q, q < j → co t q = co u q)
          case atStart => exact ⟨0, _, by omega, rfl, rfl, fun q hq => by omega⟩
          case round =>
            obtain ⟨j, m2, hjg, rfl, rfl, hs2⟩ := hrel
            have HS2 := Lib.hid hs2
            clear hs2
            cases gk with
            | zero =>
              obtain rfl : j = k := by omega
              have HNX := Lib.hid (fun q (hq : q < i + 1) => show ro rows q = ro mows q from by
                by_cases e : q = i
                · subst e
                  rw [HTE.out (), HUE.out ()]
                  exact Lin.list_ext (by rw [HK.out, HK'.out]) (fun q hq => HS2.out q (by rw [HK.out] at hq; exact hq))
                · exact HSAME.out q (by omega))
              clear hjg
              go_wp2
              go_roundg g
              case measure => omega
              case rel => exact ⟨i + 1, m2, by have := HIG.out; omega, by go_num, rfl, HNX.out⟩
            | succ g2 =>
              have hj : j < k := by omega
              have hjI : (j : Int) < (k : Int) := by omega
              obtain ⟨b3, o3, rfl, hc3⟩ := HR1.out.2 j (by rw [HK.out]; exact hj)
              obtain ⟨b4, o4, rfl, hc4⟩ := HR2.out.2 j (by rw [HK'.out]; exact hj)
              have HJG := Lib.hid hjg
              obtain ⟨x, hx⟩ : ∃ x, co t j = x := ⟨_, rfl⟩
              obtain ⟨y, hy⟩ : ∃ y, co u j = y := ⟨_, rfl⟩
              rw [hx] at hc3
              rw [hy] at hc4
              by_cases hxy : x = y
              · have d6 : ((x : Int) != (y : Int)) = false := by subst hxy; simp
                have HNX := Lib.hid (fun q (hq : q < j + 1) => show co t q = co u q from by
                  by_cases e : q = j
                  · subst e; rw [hx, hy, hxy]
                  · exact HS2.out q (by omega))
                clear hx hy hxy hjg
                go_wp2
                go_quiet (fail)
                go_wp2
                go_roundg g2
                case measure => omega
                case rel => exact ⟨j + 1, _, by have := HJG.out; omega, by go_num, rfl, HNX.out⟩
              · have d6 : ((x : Int) != (y : Int)) = true := by simp; omega
                have hv := HFI.out (fun e => hxy (by rw [← hx, ← hy, e]))
                subst hv
                clear hx hy hxy hjg HF HT HFI
                go_wp2
                go_quiet (fail)
                go_wp2
                go_ret
                exact ⟨rfl, m2 + nq, by rw [World.drewN_drewN]⟩
        · have hkb : ((k : Int) != (k' : Int)) = true := by simp; omega
          have hv := HFI.out (fun e => hkk (by rw [← hk, ← hk', e]))
          subst hv
          clear hr1 hr2 hk hk' ht hu hig hkk HF HT HFI
          go_wp2
          go_quiet (fail)
          go_wp2
          go_ret
          exact ⟨rfl, m + nq, by rw [World.drewN_drewN]⟩
  · have t : ((rows.length : Int) != (mows.length : Int)) = true := by simp; omega
    rw [decide_eq_false (fun e => hlm (by rw [e]))]
    generalize rows.length = n at *
    generalize mows.length = n' at *
    clear ha hb hls
    go_enter Tryd.func18, Tryd.ntmps18
    go_wp2
    go_ret
    exact ⟨rfl, 0, rfl⟩
end Go.Proofs.YthbfodmpoheahaaDoor

/-
  A load of a whole array, under a guard. Conditions: none; no function is named here.
-/
namespace Go.Proofs.YthbfodmpoheahaaDoor
open Go.RowKit

theorem wpList_load_row_g {P : Program} {ops : Array Oper} {rest : List Oper} {o : Oper} {a : Act} {w : World} {Q : Exit → Act → World → Prop} (hgd : Region.wanted o (yielded ops a.tmps) = true) (ty : TypeId) (x : Operand) (ho : o.op = .load ty x)
    (g : Nat) (hx : a.eval x = .pointer (some ⟨g, 0, none⟩)) (t : TypeId) (cs : Array Value) (fr : Nat × Nat) (d : TypeDesc) (hg : w.heap[g]? = some (.cells cs t fr))
    (hu : P.underlying ty = some d) (hd : (match d with | .struct _ | .array _ _ => true | _ => false) = true) (hi : (P.info? ty).map (·.size) = some cs.size)
    (h : wpList P ops Q rest (a.put o.dst (.agg cs)) w) : wpList P ops Q (o :: rest) a w := by
  unfold wpList
  rw [if_pos hgd]
  exact .inl (wp_load_row ty x ho g hx t cs fr d hg hu hd hi h)
theorem wpIf_load_row {P : Program} {ops : Array Oper} {o : Oper} {a : Act} {w : World} {K : Act → World → Prop} {Q : Exit → Act → World → Prop} {E : Prop} (hgd : Region.wanted o (yielded ops a.tmps) = true) (ty : TypeId) (x : Operand) (ho : o.op = .load ty x)
    (g : Nat) (hx : a.eval x = .pointer (some ⟨g, 0, none⟩)) (t : TypeId) (cs : Array Value) (fr : Nat × Nat) (d : TypeDesc) (hg : w.heap[g]? = some (.cells cs t fr))
    (hu : P.underlying ty = some d) (hd : (match d with | .struct _ | .array _ _ => true | _ => false) = true) (hi : (P.info? ty).map (·.size) = some cs.size)
    (h : K (a.put o.dst (.agg cs)) w) : if Region.wanted o (yielded ops a.tmps) = true then Oper.wp P o a w K Q else E := by
  rw [if_pos hgd]
  exact wp_load_row ty x ho g hx t cs fr d hg hu hd hi h
end Go.Proofs.YthbfodmpoheahaaDoor

/-
  What Shows and Proof of layer 11 are to tell. Conditions: none; no function is named here.
-/
namespace Go.Proofs.YthbfodmpoheahaaDoor
open Go.RowKit
open Pol (co Sm)

/-- What Shows tells. -/
def shw (d t : List Nat) (i n : Int) (ps : List (List Nat)) : Bool := decide (0 ≤ i ∧ i < n ∧ n ≤ 1048576 ∧ mlift sha (lf sha t) n.toNat i.toNat ps = some d)
theorem shw_bad {d t : List Nat} {i n : Int} {ps : List (List Nat)} (h : i < 0 ∨ n ≤ i ∨ 1048576 < n) : shw d t i n ps = false := decide_eq_false (fun ⟨h1, h2, h3, _⟩ => by omega)
theorem shw_not {d t : List Nat} {i n : Nat} {ps : List (List Nat)} (h : mlift sha (lf sha t) n i ps = none) : shw d t (i : Int) (n : Int) ps = false := decide_eq_false (fun ⟨_, _, _, h4⟩ => by
  rw [Int.toNat_natCast, Int.toNat_natCast, h] at h4
  cases h4)
theorem shw_is {d t x : List Nat} {i n : Nat} {ps : List (List Nat)} (hi : i < n) (hn : n ≤ 1048576) (h : mlift sha (lf sha t) n i ps = some x) : shw d t (i : Int) (n : Int) ps = decide (x = d) := by
  unfold shw
  rw [Int.toNat_natCast, Int.toNat_natCast, h]
  by_cases e : x = d
  · rw [decide_eq_true e, decide_eq_true ⟨by omega, by omega, by omega, by rw [e]⟩]
  · rw [decide_eq_false e]
    exact decide_eq_false (fun ⟨_, _, _, h4⟩ => e (by injection h4))
/-- What Proof hands back. -/
def ProofS (rows : List (List Nat)) (i : Nat) (w : World) (e : Ending) (w' : World) : Prop := ∃ v, e = .returned (.tuple #[v, .int .i64 0]) ∧ DMine w' w.heap.size v (mprf sha rows i) ∧ Ext w w'
end Go.Proofs.YthbfodmpoheahaaDoor

/-
  What layer 11's own functions are to do, as one statement, but for Grow. Conditions: no more than 4096 texts of 2^15 bytes; at most 1024 digests.
-/
namespace Go.Proofs.YthbfodmpoheahaaDoor
open Go.RowKit
open Pol (co Sm)

structure MerkleSaid : Prop where
  root : ∀ (rows : List (List Nat)) (A : Option Addr) (c : Nat) (w : World), GL w → RRd w A rows → rows.length ≤ c → rows.length ≤ 4096 → (∀ i, i < rows.length → (ro rows i).length ≤ 32768) → Calls Tryd.prog 12 #[.slice A rows.length c] w (Tells (dgv (mroot sha rows)) w)
  prf : ∀ (rows : List (List Nat)) (i : Nat) (A : Option Addr) (c : Nat) (w : World), i < rows.length → GL w → RRd w A rows → rows.length ≤ c → rows.length ≤ 4096 → (∀ i, i < rows.length → (ro rows i).length ≤ 32768) → Calls Tryd.prog 11 #[.slice A rows.length c, .int .i64 (i : Int)] w (ProofS rows i w)
  prx : ∀ (n c : Nat) (i : Int) (A : Option Addr) (w : World), (i < 0 ∨ (n : Int) ≤ i) → Calls Tryd.prog 11 #[.slice A n c, .int .i64 i] w (fun e w' => e = .returned (.tuple #[.slice none 0 0, .int .i64 5]) ∧ Ext w w')
  shows : ∀ (d t : List Nat) (i n : Int) (ps : List (List Nat)) (A B : Option Addr) (c cb : Nat) (w : World), GL w → d.length = 32 → Sm d → Rd w A t → t.length ≤ c → t.length ≤ 32768 → DRd w B ps → ps.length ≤ cb → ps.length ≤ 1024 →
    Calls Tryd.prog 16 #[dgv d, .slice A t.length c, .int .i64 i, .int .i64 n, .slice B ps.length cb] w (Tells (.bool (shw d t i n ps)) w)
end Go.Proofs.YthbfodmpoheahaaDoor

/-
  SHA-256 in a form that the kernel reckons fast: each number is a literal before it is used. Conditions: none; no function is named here.
-/
namespace Go.Proofs.YthbfodmpoheahaaDoor
open Pol (co Sm)

/-- A number, made a literal. -/
def frc {α : Type} (n : Nat) (k : Nat → α) : α := match n with
  | 0 => k 0
  | m + 1 => k (m + 1)
theorem frc_eq {α : Type} (n : Nat) (k : Nat → α) : frc n k = k n := by cases n <;> rfl
def oneF (e f g h k w : Nat) : Nat := (h + (tw e 6 ^^^ tw e 11 ^^^ tw e 25) + ((e &&& f) ^^^ ((4294967295 - e) &&& g)) + k + w) % 4294967296
def twoF (a b c : Nat) : Nat := ((tw a 2 ^^^ tw a 13 ^^^ tw a 22) + ((a &&& b) ^^^ (a &&& c) ^^^ (b &&& c))) % 4294967296
def bF : List Nat → Nat → Nat → Nat → Nat → Nat → Nat → Nat → Nat → Nat → Nat → Nat → Nat → Nat → Nat → Nat → Nat → Nat → Nat → Nat → Nat → Nat → Nat → Nat → Nat → List Nat
  | [], _, _, _, _, _, _, _, _, _, _, _, _, _, _, _, _, a, b, c, d, e, f, g, h => [a, b, c, d, e, f, g, h]
  | k :: ks, w0, w1, w2, w3, w4, w5, w6, w7, w8, w9, w10, w11, w12, w13, w14, w15, a, b, c, d, e, f, g, h => frc (oneF e f g h k w0) fun o => frc ((o + twoF a b c) % 4294967296) fun a' => frc ((d + o) % 4294967296) fun e' => frc ((w0 + w9 + sg0 w1 + sg1 w14) % 4294967296) fun w16 => bF ks w1 w2 w3 w4 w5 w6 w7 w8 w9 w10 w11 w12 w13 w14 w15 w16 a' a b c e' e f g
/-- The words, without end. -/
def ww (f : Nat → Nat) (j : Nat) : Nat := co (wl f (j + 1)) j
theorem co_app_left (l m : List Nat) (j : Nat) (h : j < l.length) : co (l ++ m) j = co l j := by
  unfold co
  rw [List.getElem?_append_left h]
theorem wl_ww (f : Nat → Nat) : ∀ n j, j < n → co (wl f n) j = ww f j
  | 0, j, h => absurd h (by omega)
  | n + 1, j, h => by
    by_cases e : j = n
    · subst e; rfl
    · rw [wl, co_app_left _ _ j (by rw [wl_len]; omega)]
      exact wl_ww f n j (by omega)
theorem ww_new (f : Nat → Nat) (j : Nat) : ww f j = if j < 16 then f j else wnx (wl f j) j := by
  unfold ww
  rw [wl]
  unfold co
  rw [List.getElem?_append_right (by rw [wl_len]; omega), wl_len, Nat.sub_self]
  rfl
theorem ww_first (f : Nat → Nat) (j : Nat) (h : j < 16) : ww f j = f j := by rw [ww_new, if_pos h]
theorem ww_next (f : Nat → Nat) (j : Nat) : ww f (j + 16) = (ww f j + ww f (j + 9) + sg0 (ww f (j + 1)) + sg1 (ww f (j + 14))) % 4294967296 := by
  rw [ww_new, if_neg (by omega)]
  unfold wnx
  rw [show j + 16 - 16 = j from by omega, show j + 16 - 7 = j + 9 from by omega, show j + 16 - 15 = j + 1 from by omega, show j + 16 - 2 = j + 14 from by omega,
    wl_ww f _ _ (by omega), wl_ww f _ _ (by omega), wl_ww f _ _ (by omega), wl_ww f _ _ (by omega)]
theorem eight {s : List Nat} (h : s.length = 8) : [co s 0, co s 1, co s 2, co s 3, co s 4, co s 5, co s 6, co s 7] = s := by
  match s, h with
  | [_, _, _, _, _, _, _, _], _ => rfl
theorem bF_is (K : List Nat) (f : Nat → Nat) (h0 : List Nat) (hh : h0.length = 8) (hK : K.length = 64) : ∀ (m i : Nat), i + m = 64 → ∀ s, rds K (wl f 64) h0 i = s →
    bF (K.drop i) (ww f i) (ww f (i + 1)) (ww f (i + 2)) (ww f (i + 3)) (ww f (i + 4)) (ww f (i + 5)) (ww f (i + 6)) (ww f (i + 7)) (ww f (i + 8)) (ww f (i + 9)) (ww f (i + 10)) (ww f (i + 11)) (ww f (i + 12)) (ww f (i + 13)) (ww f (i + 14)) (ww f (i + 15)) (co s 0) (co s 1) (co s 2) (co s 3) (co s 4) (co s 5) (co s 6) (co s 7) = rds K (wl f 64) h0 64
  | 0, i, hi, s, hs => by
    have : i = 64 := by omega
    subst this
    have hl : s.length = 8 := by rw [← hs]; exact rds_len _ _ _ hh 64
    rw [List.drop_of_length_le (by omega), hs, bF]
    exact eight hl
  | m + 1, i, hi, s, hs => by
    have hd : K.drop i = co K i :: K.drop (i + 1) := by
      rw [List.drop_eq_getElem_cons (by omega)]
      unfold co
      rw [List.getElem?_eq_getElem (by omega)]
      rfl
    have ih := bF_is K f h0 hh hK m (i + 1) (by omega) (rnd (co K i) (co (wl f 64) i) s) (by rw [rds, hs])
    rw [wl_ww f 64 i (by omega)] at ih
    rw [hd, bF]
    simp only [frc_eq]
    rw [← ww_next f i]
    rw [← ih]
    simp only [Nat.add_assoc, Nat.reduceAdd]
    rfl
/-- A block. -/
def addF (s t : List Nat) : List Nat := match s, t with
  | x :: s, y :: t => frc ((x + y) % 4294967296) fun z => z :: addF s t
  | _, _ => []
def blkF (K : List Nat) (f : Nat → Nat) (s : List Nat) : List Nat := frc (f 0) fun w0 => frc (f 1) fun w1 => frc (f 2) fun w2 => frc (f 3) fun w3 => frc (f 4) fun w4 => frc (f 5) fun w5 => frc (f 6) fun w6 => frc (f 7) fun w7 => frc (f 8) fun w8 => frc (f 9) fun w9 => frc (f 10) fun w10 => frc (f 11) fun w11 => frc (f 12) fun w12 => frc (f 13) fun w13 => frc (f 14) fun w14 => frc (f 15) fun w15 => frc (co s 0) fun a => frc (co s 1) fun b => frc (co s 2) fun c => frc (co s 3) fun d => frc (co s 4) fun e => frc (co s 5) fun f => frc (co s 6) fun g => frc (co s 7) fun h => addF s (bF K w0 w1 w2 w3 w4 w5 w6 w7 w8 w9 w10 w11 w12 w13 w14 w15 a b c d e f g h)
theorem addF_is (s t : List Nat) (hs : s.length = 8) (ht : t.length = 8) : addF s t = (List.range 8).map (sumw s t) := by
  match s, hs, t, ht with
  | [_, _, _, _, _, _, _, _], _, [_, _, _, _, _, _, _, _], _ =>
    simp only [addF, frc_eq]
    rfl
theorem blkF_is (K : List Nat) (f : Nat → Nat) (s : List Nat) (hs : s.length = 8) (hK : K.length = 64) : blkF K f s = blk K f s := by
  have h := bF_is K f s hs hK 64 0 rfl s rfl
  simp only [Nat.zero_add, List.drop_zero] at h
  rw [ww_first f 0 (by omega), ww_first f 1 (by omega), ww_first f 2 (by omega), ww_first f 3 (by omega), ww_first f 4 (by omega), ww_first f 5 (by omega), ww_first f 6 (by omega), ww_first f 7 (by omega), ww_first f 8 (by omega), ww_first f 9 (by omega), ww_first f 10 (by omega), ww_first f 11 (by omega), ww_first f 12 (by omega), ww_first f 13 (by omega), ww_first f 14 (by omega), ww_first f 15 (by omega)] at h
  unfold blkF blk
  simp only [frc_eq]
  rw [h, addF_is _ _ hs (rds_len _ _ _ hs 64)]
/-- All blocks. -/
def hG (B : (Nat → Nat) → List Nat → List Nat) (t : List Nat) : Nat → Nat → List Nat → List Nat
  | 0, _, s => s
  | n + 1, j, s => hG B t n (j + 1) (B (fun i => word t (64 * j + 4 * i)) s)
theorem hG_is (B : (Nat → Nat) → List Nat → List Nat) (S : Nat → List Nat) (t : List Nat) (hS : ∀ j, B (fun i => word t (64 * j + 4 * i)) (S j) = S (j + 1)) : ∀ n j, hG B t n j (S j) = S (j + n)
  | 0, j => rfl
  | n + 1, j => by
    have ih := hG_is B S t hS n (j + 1)
    rw [hG, hS, show j + (n + 1) = j + 1 + n from by omega]
    exact ih
def hF (K t : List Nat) (n : Nat) (s : List Nat) : List Nat := hG (blkF K) t n 0 s
theorem hF_is (H K t : List Nat) (hH : H.length = 8) (hK : K.length = 64) (n : Nat) : hF K t n H = hsh H K t n := by
  have h := hG_is (blkF K) (hsh H K t) t (fun j => blkF_is K _ _ (hsh_len H K t hH j) hK) n 0
  rw [Nat.zero_add] at h
  exact h
def HHd : List Nat := [1779033703, 3144134277, 1013904242, 2773480762, 1359893119, 2600822924, 528734635, 1541459225]
def KKd : List Nat := [1116352408, 1899447441, 3049323471, 3921009573, 961987163, 1508970993, 2453635748, 2870763221, 3624381080, 310598401, 607225278, 1426881987, 1925078388, 2162078206, 2614888103, 3248222580, 3835390401, 4022224774, 264347078, 604807628, 770255983, 1249150122, 1555081692, 1996064986, 2554220882, 2821834349, 2952996808, 3210313671, 3336571891, 3584528711, 113926993, 338241895, 666307205, 773529912, 1294757372, 1396182291, 1695183700, 1986661051, 2177026350, 2456956037, 2730485921, 2820302411, 3259730800, 3345764771, 3516065817, 3600352804, 4094571909, 275423344, 430227734, 506948616, 659060556, 883997877, 958139571, 1322822218, 1537002063, 1747873779, 1955562222, 2024104815, 2227730452, 2361852424, 2428436474, 2756734187, 3204031479, 3329325298]
theorem hh8 : HH.length = 8 := by rw [HH_is]; rfl
theorem kk64 : KK.length = 64 := by rw [KK_is]; rfl
/-- A digest, in four steps of the kernel. -/
theorem sha_is {l p s d : List Nat} {n : Nat} (h1 : padded l = p) (h2 : p.length / 64 = n) (h3 : hF KKd p n HHd = s) (h4 : (List.range 32).map (digB s) = d) : sha l = d := by
  unfold sha shaK
  rw [h1, h2, show hsh HH KK p n = s from ?_]
  · exact h4
  · rw [← hF_is HH KK p hh8 kk64 n, HH_is, KK_is]
    exact h3
end Go.Proofs.YthbfodmpoheahaaDoor

/-
  The digests that stage 11's laws begin with, in digits. Conditions: none; no function is named here.
-/
namespace Go.Proofs.YthbfodmpoheahaaDoor
open Pol (co Sm)

theorem sha_nil : sha [] = [227, 176, 196, 66, 152, 252, 28, 20, 154, 251, 244, 200, 153, 111, 185, 36, 39, 174, 65, 228, 100, 155, 147, 76, 164, 149, 153, 27, 120, 82, 184, 85] := sha_is (p := [128, 0, 0, 0, 0, 0, 0, 0, 0, 0, 0, 0, 0, 0, 0, 0, 0, 0, 0, 0, 0, 0, 0, 0, 0, 0, 0, 0, 0, 0, 0, 0, 0, 0, 0, 0, 0, 0, 0, 0, 0, 0, 0, 0, 0, 0, 0, 0, 0, 0, 0, 0, 0, 0, 0, 0, 0, 0, 0, 0, 0, 0, 0, 0]) (n := 1) (s := [3820012610, 2566659092, 2600203464, 2574235940, 665731556, 1687917388, 2761267483, 2018687061]) (by decide +kernel) (by decide +kernel) (by decide +kernel) (by decide +kernel)
theorem sha_l1 : sha [0, 1] = [180, 19, 244, 125, 19, 238, 47, 230, 200, 69, 178, 238, 20, 26, 248, 29, 232, 88, 223, 78, 197, 73, 165, 139, 121, 112, 187, 150, 100, 91, 200, 210] := sha_is (p := [0, 1, 128, 0, 0, 0, 0, 0, 0, 0, 0, 0, 0, 0, 0, 0, 0, 0, 0, 0, 0, 0, 0, 0, 0, 0, 0, 0, 0, 0, 0, 0, 0, 0, 0, 0, 0, 0, 0, 0, 0, 0, 0, 0, 0, 0, 0, 0, 0, 0, 0, 0, 0, 0, 0, 0, 0, 0, 0, 0, 0, 0, 0, 16]) (n := 1) (s := [3021206653, 334376934, 3360010990, 337311773, 3898138446, 3309938059, 2037431190, 1683736786]) (by decide +kernel) (by decide +kernel) (by decide +kernel) (by decide +kernel)
theorem sha_l2 : sha [0, 2] = [252, 240, 166, 199, 0, 221, 19, 226, 116, 182, 251, 168, 222, 234, 141, 217, 178, 110, 78, 237, 222, 52, 149, 113, 124, 172, 132, 8, 201, 197, 23, 127] := sha_is (p := [0, 2, 128, 0, 0, 0, 0, 0, 0, 0, 0, 0, 0, 0, 0, 0, 0, 0, 0, 0, 0, 0, 0, 0, 0, 0, 0, 0, 0, 0, 0, 0, 0, 0, 0, 0, 0, 0, 0, 0, 0, 0, 0, 0, 0, 0, 0, 0, 0, 0, 0, 0, 0, 0, 0, 0, 0, 0, 0, 0, 0, 0, 0, 16]) (n := 1) (s := [4243629767, 14488546, 1958149032, 3739913689, 2993573613, 3727988081, 2091680776, 3385137023]) (by decide +kernel) (by decide +kernel) (by decide +kernel) (by decide +kernel)
theorem sha_l3 : sha [0, 3] = [88, 60, 125, 251, 123, 48, 85, 217, 148, 101, 84, 64, 50, 165, 113, 225, 10, 19, 75, 27, 111, 118, 148, 34, 187, 183, 31, 215, 250, 22, 122, 93] := sha_is (p := [0, 3, 128, 0, 0, 0, 0, 0, 0, 0, 0, 0, 0, 0, 0, 0, 0, 0, 0, 0, 0, 0, 0, 0, 0, 0, 0, 0, 0, 0, 0, 0, 0, 0, 0, 0, 0, 0, 0, 0, 0, 0, 0, 0, 0, 0, 0, 0, 0, 0, 0, 0, 0, 0, 0, 0, 0, 0, 0, 0, 0, 0, 0, 16]) (n := 1) (s := [1480359419, 2066765273, 2489668672, 849703393, 169036571, 1870042146, 3149340631, 4195777117]) (by decide +kernel) (by decide +kernel) (by decide +kernel) (by decide +kernel)
theorem sha_n12 : sha [1, 180, 19, 244, 125, 19, 238, 47, 230, 200, 69, 178, 238, 20, 26, 248, 29, 232, 88, 223, 78, 197, 73, 165, 139, 121, 112, 187, 150, 100, 91, 200, 210, 252, 240, 166, 199, 0, 221, 19, 226, 116, 182, 251, 168, 222, 234, 141, 217, 178, 110, 78, 237, 222, 52, 149, 113, 124, 172, 132, 8, 201, 197, 23, 127] = [107, 207, 14, 46, 147, 224, 161, 142, 34, 120, 154, 238, 150, 94, 101, 83, 244, 251, 233, 63, 10, 207, 196, 167, 5, 214, 145, 200, 49, 28, 73, 101] := sha_is (p := [1, 180, 19, 244, 125, 19, 238, 47, 230, 200, 69, 178, 238, 20, 26, 248, 29, 232, 88, 223, 78, 197, 73, 165, 139, 121, 112, 187, 150, 100, 91, 200, 210, 252, 240, 166, 199, 0, 221, 19, 226, 116, 182, 251, 168, 222, 234, 141, 217, 178, 110, 78, 237, 222, 52, 149, 113, 124, 172, 132, 8, 201, 197, 23, 127, 128, 0, 0, 0, 0, 0, 0, 0, 0, 0, 0, 0, 0, 0, 0, 0, 0, 0, 0, 0, 0, 0, 0, 0, 0, 0, 0, 0, 0, 0, 0, 0, 0, 0, 0, 0, 0, 0, 0, 0, 0, 0, 0, 0, 0, 0, 0, 0, 0, 0, 0, 0, 0, 0, 0, 0, 0, 0, 0, 0, 0, 2, 8]) (n := 2) (s := [1808731694, 2480972174, 578329326, 2522768723, 4110149951, 181388455, 97948104, 823937381]) (by decide +kernel) (by decide +kernel) (by decide +kernel) (by decide +kernel)
theorem sha_r : sha [1, 107, 207, 14, 46, 147, 224, 161, 142, 34, 120, 154, 238, 150, 94, 101, 83, 244, 251, 233, 63, 10, 207, 196, 167, 5, 214, 145, 200, 49, 28, 73, 101, 88, 60, 125, 251, 123, 48, 85, 217, 148, 101, 84, 64, 50, 165, 113, 225, 10, 19, 75, 27, 111, 118, 148, 34, 187, 183, 31, 215, 250, 22, 122, 93] = [226, 218, 2, 66, 147, 110, 179, 142, 201, 150, 165, 67, 96, 27, 58, 29, 164, 34, 99, 145, 255, 146, 1, 78, 209, 167, 162, 72, 172, 227, 99, 71] := sha_is (p := [1, 107, 207, 14, 46, 147, 224, 161, 142, 34, 120, 154, 238, 150, 94, 101, 83, 244, 251, 233, 63, 10, 207, 196, 167, 5, 214, 145, 200, 49, 28, 73, 101, 88, 60, 125, 251, 123, 48, 85, 217, 148, 101, 84, 64, 50, 165, 113, 225, 10, 19, 75, 27, 111, 118, 148, 34, 187, 183, 31, 215, 250, 22, 122, 93, 128, 0, 0, 0, 0, 0, 0, 0, 0, 0, 0, 0, 0, 0, 0, 0, 0, 0, 0, 0, 0, 0, 0, 0, 0, 0, 0, 0, 0, 0, 0, 0, 0, 0, 0, 0, 0, 0, 0, 0, 0, 0, 0, 0, 0, 0, 0, 0, 0, 0, 0, 0, 0, 0, 0, 0, 0, 0, 0, 0, 0, 2, 8]) (n := 2) (s := [3805938242, 2473505678, 3382093123, 1612397085, 2753717137, 4287758670, 3517424200, 2900583239]) (by decide +kernel) (by decide +kernel) (by decide +kernel) (by decide +kernel)
theorem sha_q : sha [1, 107, 207, 14, 46, 147, 224, 161, 142, 34, 120, 154, 238, 150, 94, 101, 83, 244, 251, 233, 63, 10, 207, 196, 167, 5, 214, 145, 200, 49, 28, 73, 101, 252, 240, 166, 199, 0, 221, 19, 226, 116, 182, 251, 168, 222, 234, 141, 217, 178, 110, 78, 237, 222, 52, 149, 113, 124, 172, 132, 8, 201, 197, 23, 127] = [226, 166, 35, 90, 153, 246, 240, 43, 167, 230, 243, 23, 211, 228, 197, 224, 26, 26, 157, 207, 167, 244, 205, 147, 98, 219, 233, 25, 62, 140, 138, 55] := sha_is (p := [1, 107, 207, 14, 46, 147, 224, 161, 142, 34, 120, 154, 238, 150, 94, 101, 83, 244, 251, 233, 63, 10, 207, 196, 167, 5, 214, 145, 200, 49, 28, 73, 101, 252, 240, 166, 199, 0, 221, 19, 226, 116, 182, 251, 168, 222, 234, 141, 217, 178, 110, 78, 237, 222, 52, 149, 113, 124, 172, 132, 8, 201, 197, 23, 127, 128, 0, 0, 0, 0, 0, 0, 0, 0, 0, 0, 0, 0, 0, 0, 0, 0, 0, 0, 0, 0, 0, 0, 0, 0, 0, 0, 0, 0, 0, 0, 0, 0, 0, 0, 0, 0, 0, 0, 0, 0, 0, 0, 0, 0, 0, 0, 0, 0, 0, 0, 0, 0, 0, 0, 0, 0, 0, 0, 0, 0, 2, 8]) (n := 2) (s := [3802538842, 2583097387, 2816930583, 3554985440, 437951951, 2817838483, 1658579225, 1049397815]) (by decide +kernel) (by decide +kernel) (by decide +kernel) (by decide +kernel)
end Go.Proofs.YthbfodmpoheahaaDoor

/-
  What the document's own Proof of layer 11 does. Conditions: under what its Of is to do; no more than 4096 texts of 2^15 bytes.
-/
namespace Go.Proofs.YthbfodmpoheahaaDoor
open Go.RowKit
open Pol (co Sm)

theorem mprf_one (D : List Nat → List Nat) {l : List (List Nat)} {i : Nat} (h : l.length < 2) : mprf D l i = [] := by rw [mprf, dif_pos h]
theorem mprf_lo (D : List Nat → List Nat) {l : List (List Nat)} {i : Nat} (h : 2 ≤ l.length) (hi : i < spl l.length) : mprf D l i = mprf D (l.take (spl l.length)) i ++ [mroot D (l.drop (spl l.length))] := by rw [mprf, dif_neg (by omega), if_pos hi]
theorem mprf_hi (D : List Nat → List Nat) {l : List (List Nat)} {i : Nat} (h : 2 ≤ l.length) (hi : ¬ i < spl l.length) : mprf D l i = mprf D (l.drop (spl l.length)) (i - spl l.length) ++ [mroot D (l.take (spl l.length))] := by rw [mprf, dif_neg (by omega), if_neg hi]
theorem dep_le : ∀ (m n i : Nat), n ≤ m → dep n i ≤ n
  | m, n, i, hm => by
    rw [dep]
    by_cases h : n < 2
    · rw [dif_pos h]; omega
    · rw [dif_neg h]
      have h1 := spl_lt (n := n) (by omega)
      have h2 := spl_pos n
      cases m with
      | zero => omega
      | succ m =>
        by_cases hi : i < spl n
        · rw [if_pos hi]; have := dep_le m (spl n) i (by omega); omega
        · rw [if_neg hi]; have := dep_le m (n - spl n) (i - spl n) (by omega); omega
theorem one_drd (w : World) (d : List Nat) (h : d.length = 32) (hs : Sm d) : DRd (w.alloc (.cells (bt 32 (co d)) 30)) (some ⟨w.heap.size, 0, none⟩) [d] := by
  refine ⟨fun x hx => by simp at hx; subst hx; exact h, ?_⟩
  rw [show [d].flatten = d from by simp]
  exact rd_of_blk (heap_alloc_new w _) h hs
set_option maxHeartbeats 3200000 in
set_option maxRecDepth 100000 in
theorem ref11_proof (R : RefOf) (m : Nat) : ∀ (rows : List (List Nat)) (i : Nat) (A : Option Addr) (c : Nat) (w : World), rows.length ≤ m → i < rows.length → RRd w A rows → rows.length ≤ c → rows.length ≤ 4096 → (∀ i, i < rows.length → (ro rows i).length ≤ 32768) →
    Calls Tryd.prog 15 #[.slice A rows.length c, .int .i64 (i : Int)] w (DOwn (mprf sha rows i) w) := by
  induction m with
  | zero => intro rows i A c w hm hil; omega
  | succ m ih =>
    intro rows i A c w hm hil hr hc hl hls
    have HR := Lib.hid hr
    by_cases h2 : 2 ≤ rows.length
    · have hk1 := spl_lt h2
      have hk0 := spl_pos rows.length
      have HSP := Lib.hid (fun W => ref11_split rows.length W (by omega))
      obtain ⟨n, hn⟩ : ∃ n, rows.length = n := ⟨_, rfl⟩
      rw [hn] at hm hil hc hl h2 hk1 hk0 HSP ⊢
      obtain ⟨k, hk⟩ : ∃ k, spl n = k := ⟨_, rfl⟩
      rw [hk] at hk1 hk0 HSP
      have HTL := Lib.hid (show (rows.take k).length = k from by rw [List.length_take]; omega)
      have HDL := Lib.hid (show (rows.drop k).length = n - k from by rw [List.length_drop]; omega)
      have htl := HTL.out
      have hdl := HDL.out
      have ht := run_to_rows A n c k (by omega)
      obtain ⟨X, hx, hxr⟩ := run_rest_rows A n c k (by omega) hc
      have d1 : decide ((n : Int) = 1) = false := decide_eq_false (by omega)
      have n1 : ¬ (n : Int) = 1 := by omega
      have n2 : ¬ n = 1 := by omega
      by_cases hik : i < k
      · skip
        have HP := Lib.hid (fun W (h : Ext w W) => show Calls Tryd.prog 15 #[.slice A k c, .int .i64 (i : Int)] W (DOwn (mprf sha (rows.take k) i) W) from by
          have h1 := ih (rows.take k) i A c W (by omega) (by omega) ((HR.out.ext h).take k) (by omega) (by omega) (fun j hj => by rw [ro_take rows k j (by omega)]; exact hls j (by omega))
          rw [HTL.out] at h1
          exact h1)
        have HRT := Lib.hid (fun W (h : Ext w W) => show Calls Tryd.prog 13 #[.slice X (n - k) (c - k)] W (Tells (dgv (mroot sha (rows.drop k))) W) from by
          have h1 := ref11_root R 4096 (rows.drop k) X (c - k) W (by omega) (hxr W rows (HR.out.ext h) hn) (by omega) (by omega) (fun j hj => by rw [ro_drop]; exact hls (k + j) (by omega))
          rw [HDL.out] at h1
          exact h1)
        have HMP := Lib.hid (show mprf sha rows i = mprf sha (rows.take k) i ++ [mroot sha (rows.drop k)] from by rw [mprf_lo sha (by omega) (by rw [hn, hk]; exact hik), hn, hk])
        have HPL := Lib.hid (show (mprf sha (rows.take k) i).length ≤ 4096 from by rw [mprf_len sha 4096 _ _ (by omega)]; have := dep_le 4096 (rows.take k).length i (by omega); omega)
        have HRL := Lib.hid (mroot_32 (rows.drop k))
        have HRS := Lib.hid (mroot_sm (rows.drop k))
        obtain ⟨P1, hP1⟩ : ∃ P, mprf sha (rows.take k) i = P := ⟨_, rfl⟩
        obtain ⟨D2, hD2⟩ : ∃ D, mroot sha (rows.drop k) = D := ⟨_, rfl⟩
        have d3 : decide ((i : Int) < (k : Int)) = true := decide_eq_true (by omega)
        have n5 : (i : Int) < (k : Int) := by omega
        rw [hP1] at HP HMP HPL
        rw [hD2] at HRT HMP HRL HRS
        rw [HMP.out]
        unfold dgv at HRT
        have HLD := Lib.hid (fun W => one_drd W D2 HRL.out HRS.out)
        have HVS := Lib.hid (bt_size 32 (co D2))
        obtain ⟨V2, hV2⟩ : ∃ V, bt 32 (co D2) = V := ⟨_, rfl⟩
        rw [hV2] at HRT HLD HVS
        obtain ⟨p, hp⟩ : ∃ p, P1.length = p := ⟨_, rfl⟩
        have HPN := Lib.hid hp
        have HLP := Lib.hid (show P1.length + [D2].length ≤ 1048576 from by have := HPL.out; simp; omega)
        unfold DOwn at HP
        clear hm hc hl hls hr hk hxr hik HMP HPL hP1 hD2 hV2 hp hil
        go_enter Tryd.func15, Tryd.ntmps15
        go_wp2_with fail
        refine (HSP.out _).mono ?_
        rintro e w2 ⟨rfl, q, rfl⟩
        have HX1 := Lib.hid ((Ext.refl w).drewN q)
        generalize w.drewN q = w1 at HX1 ⊢
        go_wp2
        refine wp_region_plan (AfterH w1) [0, 1, 2, 3, 4, 5, 6, 7, 8, 9] (.yes 0 (.yes 1 (.yes 2 (.yes 3 (.yes 5 (.yes 6 (.yes 7 (.one 4 (.one 8 (.one 9 (.one 10 (.one 11 .done)))))))))))) (by kernel_rfl) (fun c a a' w e h => ⟨e ▸ h.1, h.2⟩) (by kernel_rfl) ((Ext.refl w1).drew) ?_
        refine plan_yes rfl (fun K hK => ?_); go_simp; refine ⟨_, fun _ _ => rfl, hK _ ?_⟩; clear hK K
        refine plan_yes rfl (fun K hK => ?_); go_simp; refine ⟨_, fun _ _ => rfl, hK _ ?_⟩; clear hK K
        refine plan_yes rfl (fun K hK => ?_); go_simp; refine ⟨_, fun _ _ => rfl, hK _ ?_⟩; clear hK K
        refine plan_yes rfl (fun K hK => ?_); go_simp; refine ⟨_, fun _ _ => rfl, hK _ ?_⟩; clear hK K
        refine plan_yes rfl (fun K hK => ?_); go_simp; refine ⟨_, fun _ _ => rfl, hK _ ?_⟩; clear hK K
        refine plan_yes rfl (fun K hK => ?_); go_simp; refine ⟨_, fun _ _ => rfl, hK _ ?_⟩; clear hK K
        refine plan_yes rfl (fun K hK => ?_); go_simp; refine ⟨_, fun _ _ => rfl, hK _ ?_⟩; clear hK K
        refine plan_one rfl (fun K hK => ?_)
        go_wp2_with fail
        refine (HP.out _ (HX1.out.trans ((Ext.refl w1).drew))).mono ?_
        rintro e v4 ⟨p4, rfl, hm4, hx4⟩
        obtain ⟨B4, c4, rfl, hc4, hr4⟩ := hm4.slice
        rw [HPN.out]
        have HX4 := Lib.hid (show AfterH w1 v4 from Ext.trans ((Ext.refl w1).drew) hx4)
        have HM4 := Lib.hid (hm4.down (base' := w.heap.size) (Ext.size (HX1.out.trans ((Ext.refl w1).drew))))
        rw [HPN.out] at HM4
        clear hm4 hx4 hc4 hr4
        go_wp2
        refine ⟨fun _ => HX4.out, ?_⟩
        refine plan_one rfl (fun K hK => ?_)
        go_wp2_with fail
        refine (HRT.out _ (HX1.out.trans HX4.out)).mono ?_
        rintro e v5 ⟨rfl, hx5⟩
        have HX5 := Lib.hid (show AfterH w1 v5 from Ext.trans HX4.out hx5)
        have HM5 := Lib.hid (HM4.out.ext hx5)
        clear hx5
        go_wp2
        refine ⟨fun _ => HX5.out, ?_⟩
        refine plan_one rfl (fun K hK => ?_)
        have HB := Lib.hid (HLD.out v5)
        have HX6 := Lib.hid (show AfterH w1 (World.alloc v5 (.cells V2 30)) from Ext.alloc HX5.out _)
        have HM6 := Lib.hid (HM5.out.ext ((Ext.refl _).alloc (.cells V2 30)))
        go_wp2_with (with_reducible refine wpList_build_dig rfl (.tmp 23) rfl V2 rfl HVS.out ?_)
        refine ⟨fun _ => HX6.out, ?_⟩
        obtain ⟨gx, hgx⟩ : ∃ g, (v5).heap.size = g := ⟨_, rfl⟩
        rw [hgx] at HB ⊢
        generalize World.alloc v5 _ = v6 at HX6 HB HM6 ⊢
        clear hgx
        have HS7 := Lib.hid (show w.heap.size ≤ (v6).heap.size from Ext.size (HX1.out.trans HX6.out))
        have HOB := Lib.hid (fun k e => (HM6.out.block k e).1)
        refine plan_one rfl (fun K hK => ?_)
        go_wp2_with (at_builtin; refine wpList_append_drd rfl (.tmp 19) (.tmp 24) rfl w.heap.size _ P1 [D2] rfl HM6.out (some ⟨gx, 0, none⟩) 1 1 rfl rfl HB.out HLP.out HS7.out ?_; intro v' w7 hm7 hg7 hb7; have HM7 := Lib.hid hm7; have HX7 := Lib.hid ((HX1.out.trans HX6.out).more hg7 (fun k e => HOB.out k e)); clear hm7 hg7 hb7)
        refine ⟨fun h => absurd h (by decide), ?_⟩
        refine plan_one rfl (fun K hK => ?_)
        go_wp2
        refine ⟨fun h => absurd h (by decide), ?_⟩
        unfold wpPlan
        go_wp2
        go_ret
        exact ⟨_, rfl, HM7.out, HX7.out⟩
      · skip
        obtain ⟨j, hj⟩ : ∃ j, i - k = j := ⟨_, rfl⟩
        have e1 : (i : Int) - (k : Int) = (j : Int) := by omega
        have e2 : IntKind.i64.wrap (j : Int) = (j : Int) := by rw [IntKind.wrap_i64]; omega
        have HP := Lib.hid (fun W (h : Ext w W) => show Calls Tryd.prog 15 #[.slice X (n - k) (c - k), .int .i64 (j : Int)] W (DOwn (mprf sha (rows.drop k) j) W) from by
          have h1 := ih (rows.drop k) j X (c - k) W (by omega) (by omega) (hxr W rows (HR.out.ext h) hn) (by omega) (by omega) (fun j hj => by rw [ro_drop]; exact hls (k + j) (by omega))
          rw [HDL.out] at h1
          exact h1)
        have HRT := Lib.hid (fun W (h : Ext w W) => show Calls Tryd.prog 13 #[.slice A k c] W (Tells (dgv (mroot sha (rows.take k))) W) from by
          have h1 := ref11_root R 4096 (rows.take k) A c W (by omega) ((HR.out.ext h).take k) (by omega) (by omega) (fun j hj => by rw [ro_take rows k j (by omega)]; exact hls j (by omega))
          rw [HTL.out] at h1
          exact h1)
        have HMP := Lib.hid (show mprf sha rows i = mprf sha (rows.drop k) j ++ [mroot sha (rows.take k)] from by rw [mprf_hi sha (by omega) (by rw [hn, hk]; exact hik), hn, hk, hj])
        have HPL := Lib.hid (show (mprf sha (rows.drop k) j).length ≤ 4096 from by rw [mprf_len sha 4096 _ _ (by omega)]; have := dep_le 4096 (rows.drop k).length j (by omega); omega)
        have HRL := Lib.hid (mroot_32 (rows.take k))
        have HRS := Lib.hid (mroot_sm (rows.take k))
        obtain ⟨P1, hP1⟩ : ∃ P, mprf sha (rows.drop k) j = P := ⟨_, rfl⟩
        obtain ⟨D2, hD2⟩ : ∃ D, mroot sha (rows.take k) = D := ⟨_, rfl⟩
        have d3 : decide ((i : Int) < (k : Int)) = false := decide_eq_false (by omega)
        have n5 : ¬ (i : Int) < (k : Int) := by omega
        rw [hP1] at HP HMP HPL
        rw [hD2] at HRT HMP HRL HRS
        rw [HMP.out]
        unfold dgv at HRT
        have HLD := Lib.hid (fun W => one_drd W D2 HRL.out HRS.out)
        have HVS := Lib.hid (bt_size 32 (co D2))
        obtain ⟨V2, hV2⟩ : ∃ V, bt 32 (co D2) = V := ⟨_, rfl⟩
        rw [hV2] at HRT HLD HVS
        obtain ⟨p, hp⟩ : ∃ p, P1.length = p := ⟨_, rfl⟩
        have HPN := Lib.hid hp
        have HLP := Lib.hid (show P1.length + [D2].length ≤ 1048576 from by have := HPL.out; simp; omega)
        unfold DOwn at HP
        clear hm hc hl hls hr hk hxr hik HMP HPL hP1 hD2 hV2 hp hil hj
        go_enter Tryd.func15, Tryd.ntmps15
        go_wp2_with fail
        refine (HSP.out _).mono ?_
        rintro e w2 ⟨rfl, q, rfl⟩
        have HX1 := Lib.hid ((Ext.refl w).drewN q)
        generalize w.drewN q = w1 at HX1 ⊢
        go_wp2
        refine wp_region_plan (AfterH w1) [0, 1, 2, 3, 4, 5, 6, 7, 8, 9, 10, 11] (.yes 0 (.yes 1 (.yes 2 (.yes 3 (.yes 4 (.yes 5 (.yes 7 (.yes 8 (.yes 9 (.one 6 (.one 10 (.one 11 (.one 12 (.one 13 .done)))))))))))))) (by kernel_rfl) (fun c a a' w e h => ⟨e ▸ h.1, h.2⟩) (by kernel_rfl) ((Ext.refl w1).drew) ?_
        refine plan_yes rfl (fun K hK => ?_); go_simp; refine ⟨_, fun _ _ => rfl, hK _ ?_⟩; clear hK K
        refine plan_yes rfl (fun K hK => ?_); go_simp; refine ⟨_, fun _ _ => rfl, hK _ ?_⟩; clear hK K
        refine plan_yes rfl (fun K hK => ?_); go_simp; refine ⟨_, fun _ _ => rfl, hK _ ?_⟩; clear hK K
        refine plan_yes rfl (fun K hK => ?_); go_simp; refine ⟨_, fun _ _ => rfl, hK _ ?_⟩; clear hK K
        refine plan_yes rfl (fun K hK => ?_); go_simp; refine ⟨_, fun _ _ => rfl, hK _ ?_⟩; clear hK K
        refine plan_yes rfl (fun K hK => ?_); go_simp; refine ⟨_, fun _ _ => rfl, hK _ ?_⟩; clear hK K
        refine plan_yes rfl (fun K hK => ?_); go_simp; refine ⟨_, fun _ _ => rfl, hK _ ?_⟩; clear hK K
        refine plan_yes rfl (fun K hK => ?_); go_simp; refine ⟨_, fun _ _ => rfl, hK _ ?_⟩; clear hK K
        refine plan_yes rfl (fun K hK => ?_); go_simp; refine ⟨_, fun _ _ => rfl, hK _ ?_⟩; clear hK K
        refine plan_one rfl (fun K hK => ?_)
        go_wp2_with fail
        refine (HP.out _ (HX1.out.trans ((Ext.refl w1).drew))).mono ?_
        rintro e v4 ⟨p4, rfl, hm4, hx4⟩
        obtain ⟨B4, c4, rfl, hc4, hr4⟩ := hm4.slice
        rw [HPN.out]
        have HX4 := Lib.hid (show AfterH w1 v4 from Ext.trans ((Ext.refl w1).drew) hx4)
        have HM4 := Lib.hid (hm4.down (base' := w.heap.size) (Ext.size (HX1.out.trans ((Ext.refl w1).drew))))
        rw [HPN.out] at HM4
        clear hm4 hx4 hc4 hr4
        go_wp2
        refine ⟨fun _ => HX4.out, ?_⟩
        refine plan_one rfl (fun K hK => ?_)
        go_wp2_with fail
        refine (HRT.out _ (HX1.out.trans HX4.out)).mono ?_
        rintro e v5 ⟨rfl, hx5⟩
        have HX5 := Lib.hid (show AfterH w1 v5 from Ext.trans HX4.out hx5)
        have HM5 := Lib.hid (HM4.out.ext hx5)
        clear hx5
        go_wp2
        refine ⟨fun _ => HX5.out, ?_⟩
        refine plan_one rfl (fun K hK => ?_)
        have HB := Lib.hid (HLD.out v5)
        have HX6 := Lib.hid (show AfterH w1 (World.alloc v5 (.cells V2 30)) from Ext.alloc HX5.out _)
        have HM6 := Lib.hid (HM5.out.ext ((Ext.refl _).alloc (.cells V2 30)))
        go_wp2_with (with_reducible refine wpList_build_dig rfl (.tmp 36) rfl V2 rfl HVS.out ?_)
        refine ⟨fun _ => HX6.out, ?_⟩
        obtain ⟨gx, hgx⟩ : ∃ g, (v5).heap.size = g := ⟨_, rfl⟩
        rw [hgx] at HB ⊢
        generalize World.alloc v5 _ = v6 at HX6 HB HM6 ⊢
        clear hgx
        have HS7 := Lib.hid (show w.heap.size ≤ (v6).heap.size from Ext.size (HX1.out.trans HX6.out))
        have HOB := Lib.hid (fun k e => (HM6.out.block k e).1)
        refine plan_one rfl (fun K hK => ?_)
        go_wp2_with (at_builtin; refine wpList_append_drd rfl (.tmp 32) (.tmp 37) rfl w.heap.size _ P1 [D2] rfl HM6.out (some ⟨gx, 0, none⟩) 1 1 rfl rfl HB.out HLP.out HS7.out ?_; intro v' w7 hm7 hg7 hb7; have HM7 := Lib.hid hm7; have HX7 := Lib.hid ((HX1.out.trans HX6.out).more hg7 (fun k e => HOB.out k e)); clear hm7 hg7 hb7)
        refine ⟨fun h => absurd h (by decide), ?_⟩
        refine plan_one rfl (fun K hK => ?_)
        go_wp2
        refine ⟨fun h => absurd h (by decide), ?_⟩
        unfold wpPlan
        go_wp2
        go_ret
        exact ⟨_, rfl, HM7.out, HX7.out⟩
    · have hn1 : rows.length = 1 := by omega
      rw [mprf_one sha (by omega), hn1]
      clear hr HR
      go_enter Tryd.func15, Tryd.ntmps15
      go_wp2
      go_ret
      exact ⟨_, rfl, DMine.nil _ _, Ext.refl _⟩
end Go.Proofs.YthbfodmpoheahaaDoor

/-
  What stage 11's laws begin with, as plain facts. Conditions: none; no function is named here.
-/
namespace Go.Proofs.YthbfodmpoheahaaDoor
open Pol (co Sm)

def awl : List (List Nat) := [[1], [2], [3]]
theorem spl2 : spl 2 = 1 := spl_mid (e := 0) (by decide) (by decide)
theorem spl3 : spl 3 = 2 := spl_mid (e := 1) (by decide) (by decide)
def n12 : List Nat := nd sha (lf sha [1]) (lf sha [2])
theorem aw_12 : mroot sha [[1], [2]] = n12 := by
  rw [mroot_more sha (by decide), show ([[1], [2]] : List (List Nat)).length = 2 from rfl, spl2]
  show nd sha (mroot sha [[1]]) (mroot sha [[2]]) = _
  rw [mroot_one, mroot_one]
  rfl
theorem aw_root : mroot sha awl = nd sha n12 (lf sha [3]) := by
  rw [mroot_more sha (by decide), show awl.length = 3 from rfl, spl3]
  show nd sha (mroot sha [[1], [2]]) (mroot sha [[3]]) = _
  rw [aw_12, mroot_one]
theorem aw_prf : mprf sha awl 2 = [n12] := by
  rw [mprf_hi sha (by decide) (by rw [show awl.length = 3 from rfl, spl3]; decide), show awl.length = 3 from rfl, spl3]
  show mprf sha [[3]] 0 ++ [mroot sha [[1], [2]]] = _
  rw [mprf_one sha (by decide), aw_12]
  rfl
theorem aw_lift (t : List Nat) : mlift sha (lf sha t) 3 2 [n12] = some (nd sha n12 (lf sha t)) := by
  have h := mlift_hi sha (lf sha t) (n := 3) 2 [] n12 (by decide) (by rw [spl3]; decide)
  rw [spl3] at h
  rw [show ([] ++ [n12] : List (List Nat)) = [n12] from rfl] at h
  rw [h, mlift_one sha _ _ _ (by decide), if_pos rfl]
  rfl
theorem n12_is : n12 = [107, 207, 14, 46, 147, 224, 161, 142, 34, 120, 154, 238, 150, 94, 101, 83, 244, 251, 233, 63, 10, 207, 196, 167, 5, 214, 145, 200, 49, 28, 73, 101] := by
  unfold n12 nd
  show sha (1 :: (sha [0, 1] ++ sha [0, 2])) = _
  rw [sha_l1, sha_l2]
  exact sha_n12
theorem aw_ne : nd sha n12 (lf sha [2]) ≠ nd sha n12 (lf sha [3]) := by
  unfold nd
  show sha (1 :: (n12 ++ sha [0, 2])) ≠ sha (1 :: (n12 ++ sha [0, 3]))
  rw [n12_is, sha_l2, sha_l3]
  intro h
  have h2 := (sha_q.symm.trans h).trans sha_r
  exact absurd h2 (by decide)
theorem aw_t : shw (mroot sha awl) [3] 2 3 (mprf sha awl 2) = true := by
  have h := shw_is (d := mroot sha awl) (t := [3]) (i := 2) (n := 3) (by decide) (by decide) (aw_lift [3])
  rw [aw_root, decide_eq_true rfl] at h
  rw [aw_root, aw_prf]
  exact h
theorem aw_f : shw (mroot sha awl) [2] 2 3 (mprf sha awl 2) = false := by
  have h := shw_is (d := mroot sha awl) (t := [2]) (i := 2) (n := 3) (by decide) (by decide) (aw_lift [2])
  rw [aw_root, decide_eq_false aw_ne] at h
  rw [aw_root, aw_prf]
  exact h
end Go.Proofs.YthbfodmpoheahaaDoor

/-
  What right of layer 10 does: a word is turned. Conditions: by 1 to 31.
-/
namespace Go.Proofs.YthbfodmpoheahaaDoor
open Go.RowKit
open Pol (co Sm)

set_option maxHeartbeats 400000 in
theorem sh_rot (x r : Nat) (w : World) (hx : x < 4294967296) (h0 : 0 < r) (hr : r < 32) :
    Calls Tryd.prog 63 #[.int .u32 (x : Int), .int .i64 (-(r : Int))] w (fun e w' => e = .returned (.int .u32 ((tw x r : Nat) : Int)) ∧ w = w') := by
  obtain ⟨m, hm⟩ : ∃ m, 32 - r = m := ⟨_, rfl⟩
  obtain ⟨M, hM⟩ : ∃ M, 18446744073709551616 - r = M := ⟨_, rfl⟩
  obtain ⟨q, hq⟩ : ∃ q, x / 2 ^ r = q := ⟨_, rfl⟩
  obtain ⟨y, hy⟩ : ∃ y, x * 2 ^ m % 4294967296 = y := ⟨_, rfl⟩
  obtain ⟨z, hz⟩ : ∃ z, tw x r = z := ⟨_, rfl⟩
  have e0 : IntKind.u64.wrap (-(r : Int)) = (M : Int) := by rw [IntKind.wrap_u64]; omega
  have ea : bits .and .u64 (M : Int) 31 = (m : Int) := by
    have h := u64_and_nat M 31 (by omega) (by decide)
    rw [show ((31 : Nat) : Int) = 31 from rfl] at h
    rw [h, show (31 : Nat) = 2 ^ 5 - 1 from rfl, Nat.and_two_pow_sub_one_eq_mod]
    omega
  have e1 : IntKind.u64.wrap (32 - (m : Int)) = (r : Int) := by rw [IntKind.wrap_u64]; omega
  have e1' : 32 - (m : Int) = (r : Int) := by omega
  have e2 : (x : Int) / 2 ^ r = (q : Int) := by rw [← hq]; simp
  have e3 : IntKind.u32.wrap ((x : Int) * 2 ^ m) = (y : Int) := by
    rw [IntKind.wrap_u32, ← hy]
    simp
  have hqb : q < 4294967296 := by rw [← hq]; exact Nat.lt_of_le_of_lt (Nat.div_le_self _ _) hx
  have hyb : y < 4294967296 := by rw [← hy]; exact Nat.mod_lt _ (by decide)
  have e4 : bits .or .u32 (y : Int) (q : Int) = (z : Int) := by
    rw [u32_or_nat y q hyb hqb, ← hz, Nat.or_comm]
    unfold tw
    rw [hm, hq, hy]
  have hm32 : m < 32 := by omega
  rw [hz]
  clear hm hq hy hz hM
  go_enter Tryd.func63, Tryd.ntmps63
  go_wp2
  go_ret
  exact ⟨rfl, rfl⟩
set_option maxHeartbeats 400000 in
theorem sh_right (x r : Nat) (w : World) (hx : x < 4294967296) (h0 : 0 < r) (hr : r < 32) :
    Calls Tryd.prog 61 #[.int .u32 (x : Int), .int .i64 (r : Int)] w (fun e w' => e = .returned (.int .u32 ((tw x r : Nat) : Int)) ∧ w = w') := by
  have HR := Lib.hid (fun W => sh_rot x r W hx h0 hr)
  obtain ⟨z, hz⟩ : ∃ z, tw x r = z := ⟨_, rfl⟩
  rw [hz] at HR ⊢
  have e0 : wrap64 (-(r : Int)) = -(r : Int) := by unfold wrap64; omega
  clear hz
  go_enter Tryd.func61, Tryd.ntmps61
  go_wp2_with fail
  refine (HR.out _).mono ?_
  rintro e w1 ⟨rfl, rfl⟩
  go_wp2
  go_ret
  exact ⟨rfl, rfl⟩
end Go.Proofs.YthbfodmpoheahaaDoor

/-
  What mix of layer 10 does: sixty-four rounds. Conditions: the constants lie where they were laid.
-/
namespace Go.Proofs.YthbfodmpoheahaaDoor
open Go.RowKit
open Pol (co Sm)


/-- The complement of a word; what is chosen; what most have. -/
theorem not_sub {x : Nat} (h : x < 4294967296) : x ^^^ 4294967295 = 4294967295 - x := by
  apply Nat.eq_of_testBit_eq
  intro i
  have h1 := Nat.testBit_two_pow_sub_succ (n := 32) h i
  rw [show (2 : Nat) ^ 32 - (x + 1) = 4294967295 - x from by omega] at h1
  have h2 := Nat.testBit_two_pow_sub_one 32 i
  rw [show (2 : Nat) ^ 32 - 1 = 4294967295 from rfl] at h2
  rw [Nat.testBit_xor, h2, h1]
  by_cases hi : i < 32
  · simp [hi]
  · have : x.testBit i = false := Nat.testBit_lt_two_pow (Nat.lt_of_lt_of_le h (Nat.le_trans (by decide : 4294967296 ≤ 2 ^ 32) (Nat.pow_le_pow_right (by decide) (by omega))))
    simp [hi, this]
theorem ch_or {e f g : Nat} (h : e < 4294967296) : (e &&& f) ||| ((4294967295 - e) &&& g) = (e &&& f) ^^^ ((4294967295 - e) &&& g) := by
  rw [← not_sub h]
  apply Nat.eq_of_testBit_eq
  intro i
  have h2 := Nat.testBit_two_pow_sub_one 32 i
  rw [show (2 : Nat) ^ 32 - 1 = 4294967295 from rfl] at h2
  simp only [Nat.testBit_or, Nat.testBit_xor, Nat.testBit_and, h2]
  by_cases hi : i < 32
  · simp only [hi, decide_true]
    cases e.testBit i <;> cases f.testBit i <;> cases g.testBit i <;> rfl
  · have : e.testBit i = false := Nat.testBit_lt_two_pow (Nat.lt_of_lt_of_le h (Nat.le_trans (by decide : 4294967296 ≤ 2 ^ 32) (Nat.pow_le_pow_right (by decide) (by omega))))
    simp [hi, this]
theorem maj_or (a b c : Nat) : (a &&& b ||| a &&& c) ||| b &&& c = (a &&& b ^^^ a &&& c) ^^^ b &&& c := by
  apply Nat.eq_of_testBit_eq
  intro i
  simp only [Nat.testBit_or, Nat.testBit_xor, Nat.testBit_and]
  cases a.testBit i <;> cases b.testBit i <;> cases c.testBit i <;> rfl
theorem not_u32 {x : Nat} (h : x < 4294967296) : bits .xor .u32 IntKind.u32.max (x : Int) = ((4294967295 - x : Nat) : Int) := by
  have h1 := u32_xor_nat 4294967295 x (by decide) h
  rw [Nat.xor_comm, not_sub h] at h1
  exact h1
/-- 'a[i]' of an array by value, of elements of one cell. -/
theorem idx_arr {t e : TypeId} {n : Nat} (h : Tryd.prog.underlying t = some (.array n e)) (he : Tryd.prog.plainKey e = true) (hs : Tryd.prog.cellsOf e = 1) (hi' : ∃ q, Tryd.prog.info? e = some q)
    (V : Array Value) (i : Nat) (v : Value) (hi : i < n) (hv : V[i]? = some v) (W : World) : (Instr.index t (.agg V) (.int .i64 (i : Int))).run Tryd.prog W = .ok v W := by
  obtain ⟨q, hq⟩ := hi'
  have hn : (0 : Int) ≤ (i : Int) ∧ (i : Int) < (n : Int) := by omega
  simp only [Instr.index, asIntOf, Sem.run_bind, Sem.run_pure, Result.andThen_ok, run_underlying h, hn, and_self, if_true, run_sizeOf W hq, hs]
  rw [show (i : Int).toNat * 1 = i from by omega]
  exact run_part_plain W he hv

/-- Where mix's rounds stand. -/
structure MixW (WL : List Nat) (g : Nat) (w W : World) : Prop where
  x : Ext w W
  c : ∀ i, i < 64 → W.cell? ⟨g + 1, i, none⟩ = some (.int .u32 ((co WL i : Nat) : Int))
  r : W.heap[g + 1 + 1]? = some (.cells (dt 8 fun _ => 0) 60 (0, 0))
theorem MixW.start {V0 V1 : Array Value} {WL : List Nat} (w : World) (h1 : ∀ i, i < 64 → V1[i]? = some (.int .u32 ((co WL i : Nat) : Int))) (T U : TypeId) (q : Nat) :
    MixW WL w.heap.size w ((((w.alloc (.cells V0 T)).alloc (.cells V1 U)).alloc (.cells (dt 8 fun _ => 0) 60)).drewN q) := by
  refine ⟨((((Ext.refl w).alloc _).alloc _).alloc _).drewN q, fun i hi => ?_, ?_⟩
  · show (((w.alloc (.cells V0 T)).alloc (.cells V1 U)).alloc _).cell? _ = _
    have e : w.heap.size + 1 = (w.alloc (.cells V0 T)).heap.size := by simp
    rw [World.cell?_alloc_lt _ _ _ (by simp), e, cell_of_row _ _ _ _ _ _ (heap_alloc_new (w.alloc (.cells V0 T)) _)]
    exact h1 i hi
  · have e : w.heap.size + 1 + 1 = ((w.alloc (.cells V0 T)).alloc (.cells V1 U)).heap.size := by simp
    rw [e]
    exact heap_alloc_new _ _
theorem MixW.drewN {WL : List Nat} {g : Nat} {w W : World} (h : MixW WL g w W) (q : Nat) : MixW WL g w (W.drewN q) := ⟨h.x.drewN q, h.c, h.r⟩
theorem rnd_at (k w : Nat) (S : List Nat) : co (rnd k w S) 0 = (one k w S + two S) % 4294967296 ∧ co (rnd k w S) 1 = co S 0 ∧ co (rnd k w S) 2 = co S 1 ∧ co (rnd k w S) 3 = co S 2 ∧ co (rnd k w S) 4 = (co S 3 + one k w S) % 4294967296 ∧ co (rnd k w S) 5 = co S 4 ∧ co (rnd k w S) 6 = co S 5 ∧ co (rnd k w S) 7 = co S 6 := ⟨rfl, rfl, rfl, rfl, rfl, rfl, rfl, rfl⟩

set_option maxHeartbeats 3200000 in
set_option maxRecDepth 100000 in
theorem sh_mix (S WL : List Nat) (w : World) (hgl : GL w) (hS : W32 S) (hW : W32 WL) :
    Calls Tryd.prog 53 #[.agg (dt 8 (co S)), .agg (dt 64 (co WL))] w (Tells (.agg (dt 8 (co (rds KK WL S 64)))) w) := by
  obtain ⟨V0, hV0⟩ : ∃ V, dt 8 (co S) = V := ⟨_, rfl⟩
  obtain ⟨V1, hV1⟩ : ∃ V, dt 64 (co WL) = V := ⟨_, rfl⟩
  have hc := fun i (hi : i < 8) => dt_at 8 (co S) i hi
  have hc1 := fun i (hi : i < 64) => dt_at 64 (co WL) i hi
  rw [hV0] at hc ⊢
  rw [hV1] at hc1 ⊢
  have h0 := hc 0 (by decide)
  have h1 := hc 1 (by decide)
  have h2 := hc 2 (by decide)
  have h3 := hc 3 (by decide)
  have h4 := hc 4 (by decide)
  have h5 := hc 5 (by decide)
  have h6 := hc 6 (by decide)
  have h7 := hc 7 (by decide)
  have HS := Lib.hid (fun (T U : TypeId) (q : Nat) => MixW.start (V0 := V0) w hc1 T U q)
  have HK := Lib.hid (show ∀ W, Ext w W → ∃ T, W.heap[3]? = some (.cells (dt 64 (co KK)) T (0, 0)) from fun W hW => (hgl.ext hW).2)
  have HRD := Lib.hid (fun i => rds_w32 KK WL S hS i)
  have HW := Lib.hid hW
  have HWK := Lib.hid KK_w32
  have HST := Lib.hid (fun i => show rds KK WL S (i + 1) = rnd (co KK i) (co WL i) (rds KK WL S i) from rfl)
  have hz : dt 8 (fun _ => 0) = #[.int .u32 0, .int .u32 0, .int .u32 0, .int .u32 0, .int .u32 0, .int .u32 0, .int .u32 0, .int .u32 0] := rfl
  rw [hz] at HS
  have HRT := Lib.hid (fun x r W h1 h2 h3 => sh_right x r W h1 h2 h3)
  have HZ8 := Lib.hid (show rds KK WL S 0 = S from rfl)
  clear hc hc1 hgl hS hW hV0 hV1
  go_enter Tryd.func53, Tryd.ntmps53
  go_wp2
  go_quiet (fail)
  generalize nq = q0
  go_wp2
  go_quiet (fail)
  have hm := HS.out 60 76 (q0 + nq)
  rw [World.drewN_drewN]
  obtain ⟨g, hg⟩ : ∃ g, w.heap.size = g := ⟨_, rfl⟩
  rw [hg] at hm ⊢
  generalize (((w.alloc (Obj.cells V0 60)).alloc (Obj.cells V1 76)).alloc (Obj.cells #[.int .u32 0, .int .u32 0, .int .u32 0, .int .u32 0, .int .u32 0, .int .u32 0, .int .u32 0, .int .u32 0] 60)).drewN (q0 + nq) = W3 at hm ⊢
  have HM := Lib.hid hm
  obtain ⟨TK, hgk⟩ := HK.out _ hm.x
  have HGK := Lib.hid hgk
  have HIK := Lib.hid (show (Tryd.prog.info? 76).map (·.size) = some (dt 64 (co KK)).size from by rw [dt_size]; kernel_rfl)
  have HIX := Lib.hid (fun (i : Nat) (hi : i < 64) => show ∀ W, (Instr.index 76 (.agg (dt 64 (co KK))) (.int .i64 (i : Int))).run Tryd.prog W = .ok (.int .u32 ((co KK i : Nat) : Int)) W from fun W => idx_arr Tryd.underlying76 (by kernel_rfl) (by kernel_rfl) ⟨_, rfl⟩ _ i _ hi (dt_at 64 _ i hi) W)
  have HG := Lib.hid hg
  clear hm hgk h0 h1 h2 h3 h4 h5 h6 h7 hz hg
  generalize hVK : dt 64 (co KK) = VK at HGK HIK HIX
  clear hVK HS HK
  go_wp2_with (with_reducible refine wpList_load_row rfl 76 (.global 3) rfl 3 rfl TK VK (0, 0) _ HGK.out Tryd.underlying76 rfl HIK.out ?_)
  go_loopg [5, 6, 7, 8, 9, 10, 11, 12, 36] 64 (fun gk s5 s6 s7 s8 s9 s10 s11 s12 s36 wx => ∃ i q : Nat, i + gk = 64 ∧ s36 = .int .i64 (i : Int) ∧ s5 = .int .u32 ((co (rds KK WL S i) 0 : Nat) : Int) ∧ s6 = .int .u32 ((co (rds KK WL S i) 1 : Nat) : Int) ∧ s7 = .int .u32 ((co (rds KK WL S i) 2 : Nat) : Int) ∧ s8 = .int .u32 ((co (rds KK WL S i) 3 : Nat) : Int) ∧ s9 = .int .u32 ((co (rds KK WL S i) 4 : Nat) : Int) ∧ s10 = .int .u32 ((co (rds KK WL S i) 5 : Nat) : Int) ∧ s11 = .int .u32 ((co (rds KK WL S i) 6 : Nat) : Int) ∧ s12 = .int .u32 ((co (rds KK WL S i) 7 : Nat) : Int) ∧ wx = W3.drewN q)
  case atStart => exact ⟨0, 0, by omega, rfl, by rw [HZ8.out], by rw [HZ8.out], by rw [HZ8.out], by rw [HZ8.out], by rw [HZ8.out], by rw [HZ8.out], by rw [HZ8.out], by rw [HZ8.out], rfl⟩
  case round =>
    obtain ⟨i, q, hig, rfl, rfl, rfl, rfl, rfl, rfl, rfl, rfl, rfl, rfl⟩ := hrel
    cases gk with
    | zero =>
      obtain rfl : i = 64 := by omega
      clear hig HIX HIK HGK HRT HST HWK HW HRD
      have HMQ := Lib.hid (HM.out.drewN q)
      have HR0 := Lib.hid HMQ.out.r
      generalize W3.drewN q = W4 at HMQ HR0 ⊢
      obtain ⟨R, hR⟩ : ∃ R, rds KK WL S 64 = R := ⟨_, rfl⟩
      have HIN := Lib.hid (show (Tryd.prog.info? 60).map (·.size) = some (dt 8 (co R)).size from by rw [dt_size]; kernel_rfl)
      have HSZ := Lib.hid (show (dt 8 fun _ => 0).size = (dt 8 (co R)).size from by rw [dt_size, dt_size])
      have HON := Lib.hid (dt_one 8 (co R))
      have HG3 := Lib.hid (setRow_heap W4 (g + 1 + 1) _ (dt 8 (co R)) _ _ HR0.out)
      have HX3 := Lib.hid (HMQ.out.x.setRow (g := g + 1 + 1) (by rw [HG.out]; omega) (dt 8 (co R)))
      have HE := Lib.hid (show Value.agg (dt 8 (co R)) = .agg #[.int .u32 ((co R 0 : Nat) : Int), .int .u32 ((co R 1 : Nat) : Int), .int .u32 ((co R 2 : Nat) : Int), .int .u32 ((co R 3 : Nat) : Int), .int .u32 ((co R 4 : Nat) : Int), .int .u32 ((co R 5 : Nat) : Int), .int .u32 ((co R 6 : Nat) : Int), .int .u32 ((co R 7 : Nat) : Int)] from rfl)
      have HVE := Lib.hid (show Value.agg (dt 8 (co R)) = Value.agg (dt 8 (co (rds KK WL S 64))) from by rw [hR])
      rw [hR]
      generalize dt 8 (co R) = V at HIN HSZ HON HG3 HX3 HE HVE
      generalize hZ : dt 8 (fun _ => 0) = Z at HR0 HSZ
      clear hZ hR HM HZ8
      go_wp2_with (refine wpList_store_all rfl 60 (.tmp 4) (.tmp 108) rfl (g + 1 + 1) Z V rfl HE.out.symm HR0.out HIN.out HSZ.out HON.out ?_)
      exact ⟨rfl, .agg V, results_cell_row Tryd.results53 _ _ (g + 1 + 1) 60 V (0, 0) _ rfl HG3.out Tryd.underlying60 rfl HIN.out, by rw [HVE.out], HX3.out⟩
    | succ gk =>
      have hi : i < 64 := by omega
      have hiI : (i : Int) < 64 := by omega
      have HR := Lib.hid (HRD.out i)
      have HN := Lib.hid (HST.out i)
      have hix := HIX.out i hi
      have hcw := (HM.out.drewN q).c i hi
      obtain ⟨T, hT⟩ : ∃ T, rds KK WL S i = T := ⟨_, rfl⟩
      have hwb := HW.out.at i
      have hkb := HWK.out.at i
      rw [hT] at HR HN ⊢
      clear hT
      obtain ⟨kk, hkk⟩ : ∃ x, co KK i = x := ⟨_, rfl⟩
      obtain ⟨ww, hww⟩ : ∃ x, co WL i = x := ⟨_, rfl⟩
      rw [hkk] at hix hkb HN
      rw [hww] at hcw hwb HN
      obtain ⟨na, hna⟩ : ∃ x, (one kk ww T + two T) % 4294967296 = x := ⟨_, rfl⟩
      obtain ⟨ne, hne⟩ : ∃ x, (co T 3 + one kk ww T) % 4294967296 = x := ⟨_, rfl⟩
      have hrn := rnd_at kk ww T
      rw [hna, hne, ← HN.out] at hrn
      unfold one two at hna
      unfold one at hne
      have ba := HR.out.at 0
      have bb := HR.out.at 1
      have bc := HR.out.at 2
      have bd := HR.out.at 3
      have be := HR.out.at 4
      have bf := HR.out.at 5
      have bg := HR.out.at 6
      have bh := HR.out.at 7
      have HRN := Lib.hid hrn
      clear hrn
      generalize co T 0 = a at *
      generalize co T 1 = b at *
      generalize co T 2 = c at *
      generalize co T 3 = d at *
      generalize co T 4 = e at *
      generalize co T 5 = f at *
      generalize co T 6 = gg at *
      generalize co T 7 = h at *
      obtain ⟨n1, hn1⟩ : ∃ x, 4294967295 - e = x := ⟨_, rfl⟩
      have bn1 : n1 < 4294967296 := by omega
      have en : bits .xor .u32 IntKind.u32.max (e : Int) = (n1 : Int) := by rw [not_u32 be, hn1]
      obtain ⟨x1, hx1⟩ : ∃ x, e &&& f = x := ⟨_, rfl⟩
      obtain ⟨x2, hx2⟩ : ∃ x, n1 &&& gg = x := ⟨_, rfl⟩
      obtain ⟨ch, hch⟩ : ∃ x, x1 ||| x2 = x := ⟨_, rfl⟩
      have bx1 : x1 < 4294967296 := by rw [← hx1]; exact Nat.lt_of_le_of_lt Nat.and_le_left be
      have bx2 : x2 < 4294967296 := by rw [← hx2]; exact Nat.lt_of_le_of_lt Nat.and_le_left bn1
      have bch : ch < 4294967296 := by rw [← hch]; exact Nat.or_lt_two_pow (n := 32) bx1 bx2
      have e1 : bits .and .u32 (e : Int) (f : Int) = (x1 : Int) := by rw [u32_and_nat e f be bf, hx1]
      have e2 : bits .and .u32 (n1 : Int) (gg : Int) = (x2 : Int) := by rw [u32_and_nat n1 gg bn1 bg, hx2]
      have e3 : bits .or .u32 (x1 : Int) (x2 : Int) = (ch : Int) := by rw [u32_or_nat x1 x2 bx1 bx2, hch]
      have hcx : x1 ^^^ x2 = ch := by rw [← hch, ← hx1, ← hx2, ← hn1]; exact (ch_or be).symm
      obtain ⟨y1, hy1⟩ : ∃ x, a &&& b = x := ⟨_, rfl⟩
      obtain ⟨y2, hy2⟩ : ∃ x, a &&& c = x := ⟨_, rfl⟩
      obtain ⟨y3, hy3⟩ : ∃ x, y1 ||| y2 = x := ⟨_, rfl⟩
      obtain ⟨y4, hy4⟩ : ∃ x, b &&& c = x := ⟨_, rfl⟩
      obtain ⟨mj, hmj⟩ : ∃ x, y3 ||| y4 = x := ⟨_, rfl⟩
      have by1 : y1 < 4294967296 := by rw [← hy1]; exact Nat.lt_of_le_of_lt Nat.and_le_left ba
      have by2 : y2 < 4294967296 := by rw [← hy2]; exact Nat.lt_of_le_of_lt Nat.and_le_left ba
      have by3 : y3 < 4294967296 := by rw [← hy3]; exact Nat.or_lt_two_pow (n := 32) by1 by2
      have by4 : y4 < 4294967296 := by rw [← hy4]; exact Nat.lt_of_le_of_lt Nat.and_le_left bb
      have bmj : mj < 4294967296 := by rw [← hmj]; exact Nat.or_lt_two_pow (n := 32) by3 by4
      have f1 : bits .and .u32 (a : Int) (b : Int) = (y1 : Int) := by rw [u32_and_nat a b ba bb, hy1]
      have f2 : bits .and .u32 (a : Int) (c : Int) = (y2 : Int) := by rw [u32_and_nat a c ba bc, hy2]
      have f3 : bits .or .u32 (y1 : Int) (y2 : Int) = (y3 : Int) := by rw [u32_or_nat y1 y2 by1 by2, hy3]
      have f4 : bits .and .u32 (b : Int) (c : Int) = (y4 : Int) := by rw [u32_and_nat b c bb bc, hy4]
      have f5 : bits .or .u32 (y3 : Int) (y4 : Int) = (mj : Int) := by rw [u32_or_nat y3 y4 by3 by4, hmj]
      have hmx : y1 ^^^ y2 ^^^ y4 = mj := by rw [← hmj, ← hy3, ← hy1, ← hy2, ← hy4]; exact (maj_or a b c).symm
      rw [hn1, hx1, hx2, hcx] at hna hne
      rw [hy1, hy2, hy4, hmx] at hna
      clear hn1 hx1 hx2 hch hy1 hy2 hy3 hy4 hmj hcx hmx
      have b6 := tw_lt (n := 6) be
      have b11 := tw_lt (n := 11) be
      have b25 := tw_lt (n := 25) be
      have b2 := tw_lt (n := 2) ba
      have b13 := tw_lt (n := 13) ba
      have b22 := tw_lt (n := 22) ba
      have HT6 := Lib.hid (fun W => show Calls Tryd.prog 61 #[.int .u32 (e : Int), .int .i64 6] W (fun e' w' => e' = .returned (.int .u32 ((tw e 6 : Nat) : Int)) ∧ W = w') from HRT.out e 6 W be (by decide) (by decide))
      have HT11 := Lib.hid (fun W => show Calls Tryd.prog 61 #[.int .u32 (e : Int), .int .i64 11] W (fun e' w' => e' = .returned (.int .u32 ((tw e 11 : Nat) : Int)) ∧ W = w') from HRT.out e 11 W be (by decide) (by decide))
      have HT25 := Lib.hid (fun W => show Calls Tryd.prog 61 #[.int .u32 (e : Int), .int .i64 25] W (fun e' w' => e' = .returned (.int .u32 ((tw e 25 : Nat) : Int)) ∧ W = w') from HRT.out e 25 W be (by decide) (by decide))
      have HT2 := Lib.hid (fun W => show Calls Tryd.prog 61 #[.int .u32 (a : Int), .int .i64 2] W (fun e' w' => e' = .returned (.int .u32 ((tw a 2 : Nat) : Int)) ∧ W = w') from HRT.out a 2 W ba (by decide) (by decide))
      have HT13 := Lib.hid (fun W => show Calls Tryd.prog 61 #[.int .u32 (a : Int), .int .i64 13] W (fun e' w' => e' = .returned (.int .u32 ((tw a 13 : Nat) : Int)) ∧ W = w') from HRT.out a 13 W ba (by decide) (by decide))
      have HT22 := Lib.hid (fun W => show Calls Tryd.prog 61 #[.int .u32 (a : Int), .int .i64 22] W (fun e' w' => e' = .returned (.int .u32 ((tw a 22 : Nat) : Int)) ∧ W = w') from HRT.out a 22 W ba (by decide) (by decide))
      generalize tw e 6 = r6 at *
      generalize tw e 11 = r11 at *
      generalize tw e 25 = r25 at *
      generalize tw a 2 = r2 at *
      generalize tw a 13 = r13 at *
      generalize tw a 22 = r22 at *
      obtain ⟨t1, ht1⟩ : ∃ x, r6 ^^^ r11 = x := ⟨_, rfl⟩
      obtain ⟨t2, ht2⟩ : ∃ x, t1 ^^^ r25 = x := ⟨_, rfl⟩
      obtain ⟨v1, hv1⟩ : ∃ x, r2 ^^^ r13 = x := ⟨_, rfl⟩
      obtain ⟨v2, hv2⟩ : ∃ x, v1 ^^^ r22 = x := ⟨_, rfl⟩
      have bt1 : t1 < 4294967296 := by rw [← ht1]; exact Nat.xor_lt_two_pow (n := 32) b6 b11
      have bt2 : t2 < 4294967296 := by rw [← ht2]; exact Nat.xor_lt_two_pow (n := 32) bt1 b25
      have bv1 : v1 < 4294967296 := by rw [← hv1]; exact Nat.xor_lt_two_pow (n := 32) b2 b13
      have bv2 : v2 < 4294967296 := by rw [← hv2]; exact Nat.xor_lt_two_pow (n := 32) bv1 b22
      have g1 : bits .xor .u32 (r6 : Int) (r11 : Int) = (t1 : Int) := by rw [u32_xor_nat r6 r11 b6 b11, ht1]
      have g2 : bits .xor .u32 (t1 : Int) (r25 : Int) = (t2 : Int) := by rw [u32_xor_nat t1 r25 bt1 b25, ht2]
      have g3 : bits .xor .u32 (r2 : Int) (r13 : Int) = (v1 : Int) := by rw [u32_xor_nat r2 r13 b2 b13, hv1]
      have g4 : bits .xor .u32 (v1 : Int) (r22 : Int) = (v2 : Int) := by rw [u32_xor_nat v1 r22 bv1 b22, hv2]
      rw [ht1, ht2] at hna hne
      rw [hv1, hv2] at hna
      clear ht1 ht2 hv1 hv2
      obtain ⟨u1, hu1⟩ : ∃ x, (h + t2) % 4294967296 = x := ⟨_, rfl⟩
      obtain ⟨u2, hu2⟩ : ∃ x, (u1 + ch) % 4294967296 = x := ⟨_, rfl⟩
      obtain ⟨u3, hu3⟩ : ∃ x, (u2 + kk) % 4294967296 = x := ⟨_, rfl⟩
      obtain ⟨u4, hu4⟩ : ∃ x, (u3 + ww) % 4294967296 = x := ⟨_, rfl⟩
      obtain ⟨u5, hu5⟩ : ∃ x, (v2 + mj) % 4294967296 = x := ⟨_, rfl⟩
      have w1 : IntKind.u32.wrap ((h : Int) + (t2 : Int)) = (u1 : Int) := by rw [IntKind.wrap_u32]; omega
      have w2 : IntKind.u32.wrap ((u1 : Int) + (ch : Int)) = (u2 : Int) := by rw [IntKind.wrap_u32]; omega
      have w3 : IntKind.u32.wrap ((u2 : Int) + (kk : Int)) = (u3 : Int) := by rw [IntKind.wrap_u32]; omega
      have w4 : IntKind.u32.wrap ((u3 : Int) + (ww : Int)) = (u4 : Int) := by rw [IntKind.wrap_u32]; omega
      have w5 : IntKind.u32.wrap ((v2 : Int) + (mj : Int)) = (u5 : Int) := by rw [IntKind.wrap_u32]; omega
      have eo : (h + t2 + ch + kk + ww) % 4294967296 = u4 := by omega
      rw [eo, hu5] at hna
      rw [eo] at hne
      have w6 : IntKind.u32.wrap ((u4 : Int) + (u5 : Int)) = (na : Int) := by rw [IntKind.wrap_u32]; omega
      have w7 : IntKind.u32.wrap ((d : Int) + (u4 : Int)) = (ne : Int) := by rw [IntKind.wrap_u32]; omega
      have bu1 : u1 < 4294967296 := by omega
      have bu2 : u2 < 4294967296 := by omega
      have bu3 : u3 < 4294967296 := by omega
      have bu4 : u4 < 4294967296 := by omega
      have bu5 : u5 < 4294967296 := by omega
      have HIG := Lib.hid hig
      clear hna hne hu1 hu2 hu3 hu4 hu5 eo hig hkk hww
      generalize hWQ : W3.drewN q = Wq at hcw ⊢
      have HWQ := Lib.hid hWQ
      clear hWQ
      go_wp2
      go_quiet (first | (go_at_call 61; with_reducible exact quiet_same (HT6.out _)) | (go_at_call 61; with_reducible exact quiet_same (HT11.out _)) | (go_at_call 61; with_reducible exact quiet_same (HT25.out _)))
      go_wp2_with fail
      refine (HT2.out _).mono ?_
      rintro e' w' ⟨rfl, rfl⟩
      go_wp2_with fail
      refine (HT13.out _).mono ?_
      rintro e' w' ⟨rfl, rfl⟩
      go_wp2_with fail
      refine (HT22.out _).mono ?_
      rintro e' w' ⟨rfl, rfl⟩
      go_wp2
      go_roundg gk
      case measure => omega
      case rel => exact ⟨i + 1, q + nq, by have := HIG.out; omega, by go_num, by rw [HRN.out.1], by rw [HRN.out.2.1], by rw [HRN.out.2.2.1], by rw [HRN.out.2.2.2.1], by rw [HRN.out.2.2.2.2.1], by rw [HRN.out.2.2.2.2.2.1], by rw [HRN.out.2.2.2.2.2.2.1], by rw [HRN.out.2.2.2.2.2.2.2], by rw [← HWQ.out, World.drewN_drewN]⟩
end Go.Proofs.YthbfodmpoheahaaDoor

/-
  What schedule of layer 10 does: a block's sixty-four words. Conditions: none.
-/
namespace Go.Proofs.YthbfodmpoheahaaDoor
open Go.RowKit
open Pol (co Sm)

/-- The first m bytes of a word. -/
def pw (B : Nat → Nat) (j : Nat) : Nat → Nat
  | 0 => 0
  | m + 1 => pw B j m * 256 + B (4 * j + m)
theorem pw_lt {B : Nat → Nat} (hB : ∀ i, B i < 256) (j : Nat) : ∀ m, pw B j m < 256 ^ m
  | 0 => Nat.one_pos
  | m + 1 => by
    have := pw_lt hB j m
    have := hB (4 * j + m)
    rw [pw, Nat.pow_succ]
    omega
/-- The words, when k bytes are in. -/
def pws (B : Nat → Nat) (k j : Nat) : Nat := pw B j (min 4 (k - 4 * j))
theorem pws_zero (B : Nat → Nat) (j : Nat) : pws B 0 j = 0 := by unfold pws; rw [show min 4 (0 - 4 * j) = 0 by omega]; rfl
theorem pws_step (B : Nat → Nat) (k q j : Nat) (hq : k / 4 = q) : upd (pws B k) q (pws B k q * 256 + B k) j = pws B (k + 1) j := by
  unfold upd
  by_cases e : j = q
  · subst e
    rw [if_pos rfl]
    unfold pws
    rw [show min 4 (k - 4 * j) = k - 4 * j by omega, show min 4 (k + 1 - 4 * j) = k - 4 * j + 1 by omega, pw, show 4 * j + (k - 4 * j) = k by omega]
  · rw [if_neg e]
    unfold pws
    by_cases h : j < q
    · rw [show min 4 (k - 4 * j) = 4 by omega, show min 4 (k + 1 - 4 * j) = 4 by omega]
    · rw [show min 4 (k - 4 * j) = 0 by omega, show min 4 (k + 1 - 4 * j) = 0 by omega]
theorem pws_lt {B : Nat → Nat} (hB : ∀ i, B i < 256) (k q : Nat) (hq : k / 4 = q) : pws B k q < 16777216 := by
  unfold pws
  have h := pw_lt hB q (min 4 (k - 4 * q))
  exact Nat.lt_of_lt_of_le h (Nat.le_trans (Nat.pow_le_pow_right (by decide) (show min 4 (k - 4 * q) ≤ 3 by omega)) (by decide))
def wof (B : Nat → Nat) (j : Nat) : Nat := B (4 * j) * 16777216 + B (4 * j + 1) * 65536 + B (4 * j + 2) * 256 + B (4 * j + 3)
theorem pw_four (B : Nat → Nat) (j : Nat) : pw B j 4 = wof B j := by
  simp only [pw, wof, Nat.zero_mul, Nat.zero_add, Nat.add_zero]
  omega
theorem wof_lt {B : Nat → Nat} (hB : ∀ i, B i < 256) (j : Nat) : wof B j < 4294967296 := by
  have h0 := hB (4 * j)
  have h1 := hB (4 * j + 1)
  have h2 := hB (4 * j + 2)
  have h3 := hB (4 * j + 3)
  unfold wof
  omega
theorem or_byte (x y : Nat) (hy : y < 256) : x * 256 ||| y = x * 256 + y := by
  have h := Nat.two_pow_add_eq_or_of_lt (i := 8) (b := y) hy x
  rw [Nat.mul_comm x, ← show (2 : Nat) ^ 8 = 256 from rfl, ← h]
theorem wl_end (F : Nat → Nat) (j x : Nat) : co (wl F j ++ [x]) j = x := by unfold co; rw [List.getElem?_append_right (by rw [wl_len]; exact Nat.le_refl _), wl_len, Nat.sub_self]; rfl
theorem wl_in (F : Nat → Nat) (j x i : Nat) (h : i < j) : co (wl F j ++ [x]) i = co (wl F j) i := by unfold co; rw [List.getElem?_append_left (by rw [wl_len]; exact h)]
/-- The words grow at their end alone. -/
theorem wl_pre (F : Nat → Nat) (j : Nat) : ∀ m, j < m → co (wl F m) j = co (wl F (j + 1)) j
  | 0, h => by omega
  | m + 1, h => by
    by_cases e : j = m
    · rw [e]
    · rw [wl, wl_in F m _ j (by omega)]
      exact wl_pre F j m (by omega)
theorem wl_at (F : Nat → Nat) (j m : Nat) (h : j < m) (hm : m ≤ 64) : co (wl F m) j = co (wl F 64) j := by rw [wl_pre F j m h, wl_pre F j 64 (by omega)]
theorem wl_low (F : Nat → Nat) (j : Nat) (h : j < 16) : co (wl F 64) j = F j := by
  rw [wl_pre F j 64 (by omega), wl, wl_end, if_pos h]
theorem wl_high (F : Nat → Nat) (j : Nat) (h : 16 ≤ j) (h64 : j < 64) : co (wl F 64) j = (co (wl F 64) (j - 16) + co (wl F 64) (j - 7) + sg0 (co (wl F 64) (j - 15)) + sg1 (co (wl F 64) (j - 2))) % 4294967296 := by
  rw [wl_pre F j 64 (by omega), wl, wl_end, if_neg (by omega)]
  show wnx (wl F j) j = _
  unfold wnx
  rw [wl_at F (j - 16) j (by omega) (by omega), wl_at F (j - 7) j (by omega) (by omega), wl_at F (j - 15) j (by omega) (by omega), wl_at F (j - 2) j (by omega) (by omega)]
theorem zero_words : (∀ w, (zeroValue 76).run Tryd.prog w = .ok (.agg (dt 64 fun _ => 0)) w) ∧ (Tryd.prog.info? 76).map (·.size) = some 64 := by
  rw [dt_zero]
  exact zero_of_info (by kernel_rfl)
theorem store_dt {n : Nat} {T : TypeId} (w : World) (g : Nat) (f f' : Nat → Nat) (hg : WBlk T n w g f) : (storeCells ⟨g, 0, none⟩ (dt n f').toList).run Tryd.prog w = .ok () (w.setRow g (dt n f')) := by
  have h := run_storeCells_from (P := Tryd.prog) g T (dt n f').toList 0 (dt n f) w hg (by simp [dt_size]) (fun v hv => (Array.all_eq_true_iff_forall_mem.1 (dt_one n f')) v (by simpa using hv))
  simpa using h

/-- Where schedule's loops stand: the block's bytes behind g, the result, the words. -/
structure SchW (B f : Nat → Nat) (g : Nat) (w W : World) : Prop where
  x : Ext w W
  b : W.heap[g]? = some (.cells (bt 64 B) 78 (0, 0))
  r : WBlk 76 64 W (g + 1) (fun _ => 0)
  ws : WBlk 76 64 W (g + 1 + 1) f
theorem SchW.start (B : Nat → Nat) (w : World) : SchW B (fun _ => 0) w.heap.size w (((w.alloc (.cells (bt 64 B) 78)).alloc (.cells (dt 64 fun _ => 0) 76)).alloc (.cells (dt 64 fun _ => 0) 76)) := by
  have e1 : w.heap.size + 1 = (w.alloc (.cells (bt 64 B) 78)).heap.size := by simp
  have e2 : w.heap.size + 1 + 1 = ((w.alloc (.cells (bt 64 B) 78)).alloc (.cells (dt 64 fun _ => 0) 76)).heap.size := by simp
  refine ⟨(((Ext.refl w).alloc _).alloc _).alloc _, ?_, ?_, ?_⟩
  · rw [heap_alloc_old _ _ (by simp; omega), heap_alloc_old _ _ (by simp)]
    exact heap_alloc_new w _
  · unfold WBlk
    rw [heap_alloc_old _ _ (by rw [e1]; simp), e1]
    exact heap_alloc_new _ _
  · rw [e2]
    exact WBlk.new _ _
theorem SchW.store {B f : Nat → Nat} {g : Nat} {w W : World} (h : SchW B f g w W) (hg : w.heap.size = g) (j v : Nat) : SchW B (upd f j v) g w (W.setCell ⟨g + 1 + 1, j, none⟩ (.int .u32 (v : Int))) :=
  ⟨h.x.setCell (by rw [hg]; show g ≤ g + 1 + 1; omega) _, (heap_setCell_other W ⟨g + 1 + 1, j, none⟩ g _ (by simp; omega)).trans h.b, (heap_setCell_other W ⟨g + 1 + 1, j, none⟩ (g + 1) _ (by simp)).trans h.r, h.ws.store j v⟩
theorem SchW.congr {B f f' : Nat → Nat} {g : Nat} {w W : World} (h : SchW B f g w W) (hf : ∀ i, i < 64 → f i = f' i) : SchW B f' g w W := ⟨h.x, h.b, h.r, h.ws.congr hf⟩
theorem SchW.drewN {B f : Nat → Nat} {g : Nat} {w W : World} (h : SchW B f g w W) (q : Nat) : SchW B f g w (W.drewN q) := ⟨h.x.drewN q, h.b, h.r, h.ws⟩
theorem info_words (f : Nat → Nat) : (Tryd.prog.info? 76).map (·.size) = some (dt 64 f).size := by rw [dt_size]; exact zero_words.2
theorem info_block (f : Nat → Nat) : (Tryd.prog.info? 78).map (·.size) = some (bt 64 f).size := by rw [bt_size]; kernel_rfl

set_option maxHeartbeats 3200000 in
set_option maxRecDepth 100000 in
theorem sh_schedule (B : Nat → Nat) (w : World) (hB : ∀ i, B i < 256) :
    Calls Tryd.prog 54 #[.agg (bt 64 B)] w (Tells (.agg (dt 64 (co (wl (wof B) 64)))) w) := by
  obtain ⟨g, hg⟩ : ∃ g, w.heap.size = g := ⟨_, rfl⟩
  have HG := Lib.hid hg
  have hst := SchW.start B w
  have HB := Lib.hid hB
  have HIX := Lib.hid (fun (i : Nat) (hi : i < 64) => show ∀ W, (Instr.index 78 (.agg (bt 64 B)) (.int .i64 (i : Int))).run Tryd.prog W = .ok (.int .u8 ((B i : Nat) : Int)) W from fun W => idx_arr Tryd.underlying78 (by kernel_rfl) (by kernel_rfl) ⟨_, rfl⟩ _ i _ hi (bt_at 64 B i hi) W)
  have HIB := Lib.hid (info_block B)
  have hz := zero_words.1
  have hzs : (dt 64 fun _ => 0).size = 64 := dt_size _ _
  have hzo := dt_one 64 (fun _ => 0)
  have hs2 := store_dt (n := 64) (T := 76) _ _ _ (fun _ => 0) hst.ws
  rw [setRow_same _ _ _ _ hst.ws] at hs2
  have HBB := Lib.hid hst.b
  rw [hg] at HBB hst
  have HST := Lib.hid hst
  clear hst hB
  generalize hVB : bt 64 B = VB at *
  generalize hZ : (dt 64 fun _ => 0) = Z at *
  clear hVB hg
  go_enter Tryd.func54, Tryd.ntmps54
  go_wp2_with (with_reducible refine wpList_load_row rfl 78 (.tmp 1) rfl w.heap.size rfl 78 VB (0, 0) _ (by rw [HG.out]; exact HBB.out) Tryd.underlying78 rfl HIB.out ?_)
  rw [HG.out]
  rw [HG.out] at hs2
  generalize ((w.alloc (Obj.cells VB 78)).alloc (Obj.cells Z 76)).alloc (Obj.cells Z 76) = W3 at HST
  have HIZ := Lib.hid (show Z.size = 64 from hzs)
  have HZ := Lib.hid hZ
  clear hz hzs hzo hs2 hZ
  go_loopg [11] 64 (fun gk s11 wx => ∃ k : Nat, k + gk = 64 ∧ s11 = .int .i64 (k : Int) ∧ SchW B (pws B k) g w wx)
  case atStart => exact ⟨0, by omega, rfl, HST.out.congr (fun j _ => (pws_zero B j).symm)⟩
  case round =>
    obtain ⟨k, hkg, rfl, hw⟩ := hrel
    have HW := Lib.hid hw
    have HKG := Lib.hid hkg
    clear hw
    cases gk with
    | zero =>
      obtain rfl : k = 64 := by omega
      have HF := Lib.hid (HW.out.congr (f' := fun j => if j < 16 then co (wl (wof B) 64) j else 0) (fun j hj => by
        unfold pws
        by_cases h : j < 16
        · rw [if_pos h, show min 4 (64 - 4 * j) = 4 by omega, pw_four, wl_low _ j h]
        · rw [if_neg h, show min 4 (64 - 4 * j) = 0 by omega]; rfl))
      have HWH := Lib.hid (fun j h h64 => wl_high (wof B) j h h64)
      have HWB := Lib.hid (fun j => (wl_w32 (wof B) (wof_lt HB.out) 64).at j)
      have HRT := Lib.hid (fun x r W h1 h2 h3 => sh_right x r W h1 h2 h3)
      clear HW HIX HB HST HBB hkg
      generalize wl (wof B) 64 = L at *
      go_wp2_with fail
      go_loopg [6] 48 (fun gk s6 wx => ∃ i : Nat, i + gk = 64 ∧ 16 ≤ i ∧ s6 = .int .i64 (i : Int) ∧ SchW B (fun j => if j < i then co L j else 0) g w wx)
      case atStart => exact ⟨16, by omega, by omega, rfl, HF.out⟩
      case round =>
        obtain ⟨i, hig, hi16, rfl, hw⟩ := hrel
        have HW := Lib.hid hw
        have HIG := Lib.hid hig
        clear hw
        cases gk with
        | zero =>
          obtain rfl : i = 64 := by omega
          have hb : WBlk 76 64 wr (g + 1 + 1) (co L) := (HW.out.congr (fun j hj => if_pos hj)).ws
          have hr := HW.out.r
          unfold WBlk at hb hr
          rw [HZ.out] at hr
          have HR0 := Lib.hid hr
          have HBL := Lib.hid hb
          have HIN := Lib.hid (info_words (co L))
          have HSZ := Lib.hid (show Z.size = (dt 64 (co L)).size from by rw [HIZ.out, dt_size])
          have HON := Lib.hid (dt_one 64 (co L))
          have HG3 := Lib.hid (setRow_heap wr (g + 1) _ (dt 64 (co L)) _ _ hr)
          have HX3 := Lib.hid (HW.out.x.setRow (g := g + 1) (by rw [HG.out]; omega) (dt 64 (co L)))
          have HVE := Lib.hid (show Value.agg (dt 64 (co L)) = Value.agg (dt 64 (co L)) from rfl)
          generalize dt 64 (co L) = V at *
          clear hb hr hig
          go_wp2_with (first | (with_reducible refine wpList_load_row rfl 76 (.tmp 3) rfl (g + 1 + 1) rfl 76 V (0, 0) _ HBL.out Tryd.underlying76 rfl HIN.out ?_) | (with_reducible refine wpList_store_all rfl 76 (.tmp 2) (.tmp 70) rfl (g + 1) Z V rfl rfl HR0.out HIN.out HSZ.out HON.out ?_))
          exact ⟨rfl, .agg V, results_cell_row Tryd.results54 _ _ (g + 1) 76 V (0, 0) _ rfl HG3.out Tryd.underlying76 rfl HIN.out, rfl, HX3.out⟩
        | succ gk =>
          have hi : i < 64 := by omega
          have hiI : (i : Int) < 64 := by omega
          have HN := Lib.hid (fun q => ((HW.out.drewN q).store HG.out i (co L i)).congr (f' := fun j => if j < i + 1 then co L j else 0) (fun j _ => by
            unfold upd
            by_cases h : j = i
            · subst h; rw [if_pos rfl, if_pos (by omega)]
            · rw [if_neg h]
              show (if j < i then co L j else 0) = if j < i + 1 then co L j else 0
              by_cases h2 : j < i
              · rw [if_pos h2, if_pos (by omega)]
              · rw [if_neg h2, if_neg (by omega)]))
          obtain ⟨p16, hp16⟩ : ∃ p, i - 16 = p := ⟨_, rfl⟩
          obtain ⟨p15, hp15⟩ : ∃ p, i - 15 = p := ⟨_, rfl⟩
          obtain ⟨p7, hp7⟩ : ∃ p, i - 7 = p := ⟨_, rfl⟩
          obtain ⟨p2, hp2⟩ : ∃ p, i - 2 = p := ⟨_, rfl⟩
          have hwh := HWH.out i hi16 hi
          rw [hp16, hp15, hp7, hp2] at hwh
          have c16 := HW.out.ws.cell p16 (by omega)
          rw [if_pos (by omega)] at c16
          have c15 := HW.out.ws.cell p15 (by omega)
          rw [if_pos (by omega)] at c15
          have c7 := HW.out.ws.cell p7 (by omega)
          rw [if_pos (by omega)] at c7
          have c2 := HW.out.ws.cell p2 (by omega)
          rw [if_pos (by omega)] at c2
          have b16 := HWB.out p16
          have b15 := HWB.out p15
          have b7 := HWB.out p7
          have b2 := HWB.out p2
          have hci := HW.out.ws.cell i hi
          have hfz := HW.out.ws.frozen i
          rw [if_neg (by omega)] at hci
          have k16 : (p16 : Int) < 64 := by omega
          have k15 : (p15 : Int) < 64 := by omega
          have k7 : (p7 : Int) < 64 := by omega
          have k2 : (p2 : Int) < 64 := by omega
          have m16 : wrap64 ((i : Int) - 16) = (p16 : Int) := by unfold wrap64; omega
          have m15 : wrap64 ((i : Int) - 15) = (p15 : Int) := by unfold wrap64; omega
          have m7 : wrap64 ((i : Int) - 7) = (p7 : Int) := by unfold wrap64; omega
          have m2 : wrap64 ((i : Int) - 2) = (p2 : Int) := by unfold wrap64; omega
          have W16 : IntKind.i64.wrap (p16 : Int) = (p16 : Int) := IntWalk.i64_in _ (by omega)
          have W7 : IntKind.i64.wrap (p7 : Int) = (p7 : Int) := IntWalk.i64_in _ (by omega)
          have M16 : (i : Int) - 16 = (p16 : Int) := by omega
          have M15 : (i : Int) - 15 = (p15 : Int) := by omega
          have M7 : (i : Int) - 7 = (p7 : Int) := by omega
          have M2 : (i : Int) - 2 = (p2 : Int) := by omega
          obtain ⟨v, hv⟩ : ∃ v, co L i = v := ⟨_, rfl⟩
          rw [hv] at hwh HN
          generalize co L p16 = a16 at *
          generalize co L p15 = a15 at *
          generalize co L p7 = a7 at *
          generalize co L p2 = a2 at *
          unfold sg0 sg1 at hwh
          clear hp16 hp15 hp7 hp2 hv hig
          have b7' := tw_lt (n := 7) b15
          have b18 := tw_lt (n := 18) b15
          have b17 := tw_lt (n := 17) b2
          have b19 := tw_lt (n := 19) b2
          have HT7 := Lib.hid (fun W => show Calls Tryd.prog 61 #[.int .u32 (a15 : Int), .int .i64 7] W (fun e' w' => e' = .returned (.int .u32 ((tw a15 7 : Nat) : Int)) ∧ W = w') from HRT.out a15 7 W b15 (by decide) (by decide))
          have HT18 := Lib.hid (fun W => show Calls Tryd.prog 61 #[.int .u32 (a15 : Int), .int .i64 18] W (fun e' w' => e' = .returned (.int .u32 ((tw a15 18 : Nat) : Int)) ∧ W = w') from HRT.out a15 18 W b15 (by decide) (by decide))
          have HT17 := Lib.hid (fun W => show Calls Tryd.prog 61 #[.int .u32 (a2 : Int), .int .i64 17] W (fun e' w' => e' = .returned (.int .u32 ((tw a2 17 : Nat) : Int)) ∧ W = w') from HRT.out a2 17 W b2 (by decide) (by decide))
          have HT19 := Lib.hid (fun W => show Calls Tryd.prog 61 #[.int .u32 (a2 : Int), .int .i64 19] W (fun e' w' => e' = .returned (.int .u32 ((tw a2 19 : Nat) : Int)) ∧ W = w') from HRT.out a2 19 W b2 (by decide) (by decide))
          generalize tw a15 7 = r7 at *
          generalize tw a15 18 = r18 at *
          generalize tw a2 17 = r17 at *
          generalize tw a2 19 = r19 at *
          obtain ⟨d3, hd3⟩ : ∃ d, a15 / 8 = d := ⟨_, rfl⟩
          obtain ⟨d10, hd10⟩ : ∃ d, a2 / 1024 = d := ⟨_, rfl⟩
          obtain ⟨x1, hx1⟩ : ∃ x, r7 ^^^ r18 = x := ⟨_, rfl⟩
          obtain ⟨x2, hx2⟩ : ∃ x, x1 ^^^ d3 = x := ⟨_, rfl⟩
          obtain ⟨y1, hy1⟩ : ∃ x, r17 ^^^ r19 = x := ⟨_, rfl⟩
          obtain ⟨y2, hy2⟩ : ∃ x, y1 ^^^ d10 = x := ⟨_, rfl⟩
          rw [hd3, hd10, hx1, hx2, hy1, hy2] at hwh
          have bd3 : d3 < 4294967296 := by omega
          have bd10 : d10 < 4294967296 := by omega
          have bx1 : x1 < 4294967296 := by rw [← hx1]; exact Nat.xor_lt_two_pow (n := 32) b7' b18
          have bx2 : x2 < 4294967296 := by rw [← hx2]; exact Nat.xor_lt_two_pow (n := 32) bx1 bd3
          have by1 : y1 < 4294967296 := by rw [← hy1]; exact Nat.xor_lt_two_pow (n := 32) b17 b19
          have by2 : y2 < 4294967296 := by rw [← hy2]; exact Nat.xor_lt_two_pow (n := 32) by1 bd10
          have g1 : bits .xor .u32 (r7 : Int) (r18 : Int) = (x1 : Int) := by rw [u32_xor_nat r7 r18 b7' b18, hx1]
          have g2 : bits .xor .u32 (x1 : Int) (d3 : Int) = (x2 : Int) := by rw [u32_xor_nat x1 d3 bx1 bd3, hx2]
          have g3 : bits .xor .u32 (r17 : Int) (r19 : Int) = (y1 : Int) := by rw [u32_xor_nat r17 r19 b17 b19, hy1]
          have g4 : bits .xor .u32 (y1 : Int) (d10 : Int) = (y2 : Int) := by rw [u32_xor_nat y1 d10 by1 bd10, hy2]
          have t3 : (a15 : Int).tdiv 8 = (d3 : Int) := by rw [Int.tdiv_eq_ediv_of_nonneg (by omega)]; omega
          have t3' : (a15 : Int) / 8 = (d3 : Int) := by omega
          have t10 : (a2 : Int).tdiv 1024 = (d10 : Int) := by rw [Int.tdiv_eq_ediv_of_nonneg (by omega)]; omega
          have t10' : (a2 : Int) / 1024 = (d10 : Int) := by omega
          obtain ⟨u1, hu1⟩ : ∃ x, (a16 + x2) % 4294967296 = x := ⟨_, rfl⟩
          obtain ⟨u2, hu2⟩ : ∃ x, (u1 + a7) % 4294967296 = x := ⟨_, rfl⟩
          have w1 : IntKind.u32.wrap ((a16 : Int) + (x2 : Int)) = (u1 : Int) := by rw [IntKind.wrap_u32]; omega
          have w2 : IntKind.u32.wrap ((u1 : Int) + (a7 : Int)) = (u2 : Int) := by rw [IntKind.wrap_u32]; omega
          have w3 : IntKind.u32.wrap ((u2 : Int) + (y2 : Int)) = (v : Int) := by rw [IntKind.wrap_u32]; omega
          have bu1 : u1 < 4294967296 := by omega
          have bu2 : u2 < 4294967296 := by omega
          have HI16 := Lib.hid hi16
          clear hi16 hwh hd3 hd10 hx1 hx2 hy1 hy2 hu1 hu2
          go_wp2
          go_quiet (fail)
          generalize nq = q1
          have HN1 := Lib.hid (fun q => HN.out (q1 + q))
          have C16 : (wr.drewN q1).cell? ⟨g + 1 + 1, p16, none⟩ = some (.int .u32 (a16 : Int)) := c16
          have C7 : (wr.drewN q1).cell? ⟨g + 1 + 1, p7, none⟩ = some (.int .u32 (a7 : Int)) := c7
          have CI : (wr.drewN q1).cell? ⟨g + 1 + 1, i, none⟩ = some (.int .u32 ((0 : Nat) : Int)) := hci
          have FI : (wr.drewN q1).frozen? ⟨g + 1 + 1, i, none⟩ = false := hfz
          simp only [← World.drewN_drewN] at HN1
          generalize wr.drewN q1 = W1 at HN1 C16 C7 CI FI ⊢
          clear hci hfz c16 c15 c7 c2
          go_wp2_with fail
          refine (HT7.out _).mono ?_
          rintro e' w' ⟨rfl, rfl⟩
          go_wp2_with fail
          refine (HT18.out _).mono ?_
          rintro e' w' ⟨rfl, rfl⟩
          go_wp2_with fail
          refine (HT17.out _).mono ?_
          rintro e' w' ⟨rfl, rfl⟩
          go_wp2_with fail
          refine (HT19.out _).mono ?_
          rintro e' w' ⟨rfl, rfl⟩
          go_wp2
          refine wp_region_quiet_tail 15 (fun w' => ∃ q, w' = W1.drewN q) (by kernel_rfl) (by kernel_rfl) ⟨1, rfl⟩ ?_
          simp only [List.take_succ_cons, List.take_zero, List.drop_succ_cons, List.drop_zero]
          repeat (quiet_step (fail))
          refine wpQuiet_nil ?_
          rintro _ ⟨q2, rfl⟩
          go_wp2
          go_roundg gk
          case measure => omega
          case rel => exact ⟨i + 1, by have := HIG.out; omega, by have := HI16.out; omega, by go_num, HN1.out q2⟩
    | succ gk =>
      have hk : k < 64 := by omega
      have hkI : (k : Int) < 64 := by omega
      have hix := HIX.out k hk
      have hy8 := HB.out k
      obtain ⟨q, hq⟩ : ∃ q, k / 4 = q := ⟨_, rfl⟩
      have hq64 : q < 64 := by omega
      have hqI : (q : Int) < 64 := by omega
      have hc := HW.out.ws.cell q hq64
      have hfz := HW.out.ws.frozen q
      have hx24 := pws_lt HB.out k q hq
      have hn := HW.out.store HG.out q (pws B k q * 256 + B k)
      have HN := Lib.hid (hn.congr (fun j _ => pws_step B k q j hq))
      clear hn
      obtain ⟨x, hx⟩ : ∃ x, pws B k q = x := ⟨_, rfl⟩
      obtain ⟨y, hy⟩ : ∃ y, B k = y := ⟨_, rfl⟩
      rw [hx] at hc hx24 HN
      rw [hy] at hix hy8 HN
      obtain ⟨x8, hx8⟩ : ∃ v, x * 256 = v := ⟨_, rfl⟩
      obtain ⟨z, hz⟩ : ∃ v, x8 + y = v := ⟨_, rfl⟩
      rw [hx8, hz] at HN
      have e1 : (k : Int) / 4 = (q : Int) := by omega
      have e1' : (k : Int).tdiv 4 = (q : Int) := by rw [Int.tdiv_eq_ediv_of_nonneg (by omega)]; omega
      have e2 : IntKind.u32.wrap ((x : Int) * 256) = (x8 : Int) := by rw [IntKind.wrap_u32]; omega
      have e2' : (x : Int) * 256 = (x8 : Int) := by omega
      have e4 : (x8 : Int) % 4294967296 = (x8 : Int) := by omega
      have e3 : bits .or .u32 (x8 : Int) (y : Int) = (z : Int) := by rw [u32_or_nat x8 y (by omega) (by omega), ← hx8, or_byte x y hy8, hx8, hz]
      clear hq hx hy hx8 hz hkg hx24
      go_wp2
      go_roundg gk
      case measure => omega
      case rel => exact ⟨k + 1, by have := HKG.out; omega, by go_num, HN.out⟩
end Go.Proofs.YthbfodmpoheahaaDoor
