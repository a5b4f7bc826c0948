/-
  Part 2 of the texts that the seat's proofs stand on; each part of it begins with its own sentence and conditions. Conditions: those that each theorem names.
-/
import Derived.Test.YtjifionpblpfoaaDoorBackPack1
import Derived.Orders
import Derived.StillTail
import Derived.Lib.Hide

/-
  Orders in plain numbers: which can be, their bytes, what is read of bytes. Conditions: none; no function is named here.
-/
namespace Go.Proofs.YtjifionpblpfoaaDoor
open Go.RowKit
open Pol (co Sm)

/-- An order: its kind, whom it is for, how much, the memo. -/
structure Od where
  k : Int
  t : Int
  a : Nat
  m : List Nat
def Od.zero : Od := ⟨0, 0, 0, []⟩
def Od.right (o : Od) : Prop := o.m.length ≤ 16 ∧ ((o.k = 1 ∧ 0 ≤ o.t ∧ o.t < 6) ∨ (o.k = 2 ∧ o.t = 0 ∧ o.a = 0))
instance (o : Od) : Decidable o.right := inferInstanceAs (Decidable (_ ∧ _))
def Od.enc (o : Od) : List Nat := vn o.k.toNat ++ vn o.t.toNat ++ vn o.a ++ vt o.m
/-- The bytes, or none. -/
def Od.bytes (o : Od) : List Nat := if o.right then o.enc else []
def Od.code (o : Od) : Nat := if o.right then 0 else 1
/-- What is read, and what is left. -/
def rdO (b : List Nat) : Rs Od := (rdN 2 b).bind fun k b1 => (rdN 5 b1).bind fun t b2 => (rdN 18446744073709551615 b2).bind fun a b3 => (rdT 16 b3).bind fun m b4 => .ok ⟨(k : Int), (t : Int), a, m⟩ b4
def dec14 (b : List Nat) : Nat × Od := match rdO b with
  | .er n => (n, Od.zero)
  | .ok o rest => if rest ≠ [] then (3, Od.zero) else if o.right then (0, o) else (14, Od.zero)
theorem Od.right_bounds {o : Od} (h : o.right) : 0 ≤ o.k ∧ o.k ≤ 2 ∧ 0 ≤ o.t ∧ o.t ≤ 5 ∧ o.m.length ≤ 16 := by
  obtain ⟨h1, h2 | h2⟩ := h
  · omega
  · omega
theorem rdN_of {m n : Nat} (rest : List Nat) (h : n < 18446744073709551616) (hm : n ≤ m) : rdN m (vn n ++ rest) = .ok n rest := by
  rw [rdN_vn m n rest (by omega), if_neg (by omega)]
theorem rdO_enc {o : Od} (h : o.right) (ha : o.a < 18446744073709551616) : rdO o.enc = .ok o [] := by
  obtain ⟨h1, h2, h3, h4, h5⟩ := Od.right_bounds h
  unfold rdO Od.enc
  rw [List.append_assoc, List.append_assoc, rdN_of _ (by omega) (by omega)]
  show ((rdN 5 _).bind _ : Rs Od) = _
  rw [rdN_of _ (by omega) (by omega)]
  show ((rdN _ _).bind _ : Rs Od) = _
  rw [rdN_of _ ha (by omega)]
  show ((rdT _ _).bind _ : Rs Od) = _
  have e := rdT_vt 16 o.m [] (by omega)
  rw [List.append_nil, if_neg (by omega)] at e
  rw [e]
  show (Rs.ok (⟨((o.k.toNat : Nat) : Int), ((o.t.toNat : Nat) : Int), o.a, o.m⟩ : Od) [] : Rs Od) = _
  rw [Int.toNat_of_nonneg h1, Int.toNat_of_nonneg h3]
theorem dec_enc {o : Od} (h : o.right) (ha : o.a < 18446744073709551616) : dec14 o.enc = (0, o) := by
  unfold dec14
  rw [rdO_enc h ha]
  show (if ([] : List Nat) ≠ [] then _ else _) = _
  rw [if_neg (by simp), if_pos h]
/-- What is read, its parts one by one. -/
theorem rdO_ok {b rest : List Nat} {o : Od} (hs : Sm b) (h : rdO b = .ok o rest) : b = o.enc ++ rest ∧ 0 ≤ o.k ∧ 0 ≤ o.t ∧ o.a < 18446744073709551616 := by
  unfold rdO at h
  cases h1 : rdN 2 b with
  | er n => rw [h1] at h; cases h
  | ok k b1 =>
    rw [h1] at h
    obtain ⟨e1, f1, _⟩ := vn_rdN hs h1
    have hs1 : Sm b1 := (sm_split (e1 ▸ hs)).2
    change ((rdN 5 b1).bind _ : Rs Od) = _ at h
    cases h2 : rdN 5 b1 with
    | er n => rw [h2] at h; cases h
    | ok t b2 =>
      rw [h2] at h
      obtain ⟨e2, f2, _⟩ := vn_rdN hs1 h2
      have hs2 : Sm b2 := (sm_split (e2 ▸ hs1)).2
      change ((rdN 18446744073709551615 b2).bind _ : Rs Od) = _ at h
      cases h3 : rdN 18446744073709551615 b2 with
      | er n => rw [h3] at h; cases h
      | ok a b3 =>
        rw [h3] at h
        obtain ⟨e3, f3, g3⟩ := vn_rdN hs2 h3
        have hs3 : Sm b3 := (sm_split (e3 ▸ hs2)).2
        change ((rdT 16 b3).bind _ : Rs Od) = _ at h
        cases h4 : rdT 16 b3 with
        | er n => rw [h4] at h; cases h
        | ok m b4 =>
          rw [h4] at h
          obtain ⟨e4, _, _⟩ := vt_rdT hs3 h4
          have h' : (Rs.ok (⟨(k : Int), (t : Int), a, m⟩ : Od) b4 : Rs Od) = .ok o rest := h
          injection h' with h5 h6
          subst h5 h6
          refine ⟨?_, by dsimp only; omega, by dsimp only; omega, by dsimp only; omega⟩
          unfold Od.enc
          dsimp only
          rw [Int.toNat_natCast, Int.toNat_natCast, e1, e2, e3, e4]
          simp only [List.append_assoc]
theorem dec_ok {b : List Nat} (hs : Sm b) (h : (dec14 b).1 = 0) : (dec14 b).2.right ∧ (dec14 b).2.enc = b ∧ (dec14 b).2.a < 18446744073709551616 := by
  unfold dec14 at h ⊢
  cases h1 : rdO b with
  | er n =>
    rw [h1] at h
    exfalso
    have hn : n = 0 := h
    have : ∀ {α : Type} {r : Rs α} {f : α → List Nat → Rs Od} {n : Nat}, (∀ e, r = .er e → 0 < e) → (∀ a l, r = .ok a l → ∀ e, f a l = .er e → 0 < e) → r.bind f = .er n → 0 < n := fun {α} {r} {f} {n} h1 h2 h => by
      cases r with
      | er e => exact h1 _ (by injection h with h; rw [h])
      | ok a l => exact h2 a l rfl n h
    have h0 := this (fun e he => (rdN_er he).1) (fun k b1 _ e he => this (fun e he => (rdN_er he).1) (fun t b2 _ e he => this (fun e he => (rdN_er he).1) (fun a b3 _ e he => this (fun e he => (rdT_er he).1) (fun m b4 _ e he => by cases he) he) he) he) h1
    omega
  | ok o rest =>
    rw [h1] at h
    obtain ⟨e1, e2, e3, e4⟩ := rdO_ok hs h1
    dsimp only at h ⊢
    by_cases hr : rest = []
    · rw [if_neg (by simpa using hr)] at h ⊢
      by_cases ho : o.right
      · rw [if_pos ho] at h ⊢
        refine ⟨ho, ?_, e4⟩
        rw [e1, hr, List.append_nil]
      · rw [if_neg ho] at h
        cases h
    · rw [if_pos hr] at h
      cases h
theorem Od.enc_len {o : Od} (h : o.right) (ha : o.a < 18446744073709551616) : 4 ≤ o.enc.length ∧ o.enc.length ≤ 29 ∧ o.m.length < o.enc.length := by
  obtain ⟨h1, h2, h3, h4, h5⟩ := Od.right_bounds h
  have a1 := vn_pos o.k.toNat
  have a2 := vn_pos o.t.toNat
  have a3 := vn_pos o.a
  have a4 := vn_ten ha
  have b1 : (vn o.k.toNat).length = 1 := by rw [vn_lt (by omega)]; rfl
  have b2 : (vn o.t.toNat).length = 1 := by rw [vn_lt (by omega)]; rfl
  have b3 : (vn o.m.length).length = 1 := by rw [vn_lt (by omega)]; rfl
  unfold Od.enc vt
  simp only [List.length_append]
  omega
theorem Od.enc_sm {o : Od} (h : Sm o.m) : Sm o.enc := by
  unfold Od.enc
  exact sm_app (sm_app (sm_app (vn_sm _) (vn_sm _)) (vn_sm _)) (vt_sm h)
theorem Od.bytes_sm {o : Od} (h : Sm o.m) : Sm o.bytes := by
  unfold Od.bytes
  split
  · exact Od.enc_sm h
  · exact Sm.nil
theorem Od.bytes_len {o : Od} (ha : o.a < 18446744073709551616) : o.bytes.length ≤ 29 := by
  unfold Od.bytes
  split
  · rename_i h; exact (Od.enc_len h ha).2.1
  · simp
/-- Two orders that can be have the same bytes just if they are one. -/
theorem Od.enc_one {o p : Od} (ho : o.right) (hp : p.right) (ha : o.a < 18446744073709551616) (hb : p.a < 18446744073709551616) : o.enc = p.enc ↔ o = p := by
  constructor
  · intro h
    have h1 := rdO_enc ho ha
    rw [h, rdO_enc hp hb] at h1
    injection h1 with h1
    exact h1.symm
  · intro h; rw [h]
theorem dec_bounds {b : List Nat} (hs : Sm b) : (dec14 b).2.a < 18446744073709551616 ∧ (dec14 b).2.m.length ≤ 16 ∧ Sm (dec14 b).2.m := by
  by_cases h : (dec14 b).1 = 0
  · obtain ⟨h1, h2, h3⟩ := dec_ok hs h
    refine ⟨h3, h1.1, ?_⟩
    rw [← h2] at hs
    unfold Od.enc vt at hs
    exact (sm_split (sm_split hs).2).2
  · have hz : (dec14 b).2 = Od.zero := by
      unfold dec14 at h ⊢
      cases h1 : rdO b with
      | er n => rfl
      | ok o rest =>
        rw [h1] at h
        dsimp only at h ⊢
        split
        · rfl
        · rename_i hr
          rw [if_neg hr] at h
          split
          · rename_i ho; rw [if_pos ho] at h; exact absurd rfl h
          · rfl
    rw [hz]
    exact ⟨by decide, by decide, Sm.nil⟩
end Go.Proofs.YtjifionpblpfoaaDoor

/-
  Sums of bytes, filled texts. Conditions: none; no function is named here.
-/
namespace Go.Proofs.YtjifionpblpfoaaDoor
open Go.RowKit
open Pol (co Sm)

/-- Bytes, place by place the sums. -/
def lx (a b : List Nat) : List Nat := tab a.length (fun i => co a i ^^^ co b i)
theorem lx_len (a b : List Nat) : (lx a b).length = a.length := by unfold lx; rw [tab_len]
theorem lx_sm {a b : List Nat} (ha : Sm a) (hb : Sm b) : Sm (lx a b) := tab_sm _ _ fun i _ => Gf.xor_lt _ _ (ha i) (hb i)
theorem co_lx (a b : List Nat) (i : Nat) (hi : i < a.length) : co (lx a b) i = co a i ^^^ co b i := by unfold lx; rw [co_tab, if_pos hi]
theorem lx_back (a b : List Nat) : lx (lx a b) b = a := Lin.list_ext (by rw [lx_len, lx_len]) fun i hi => by
  rw [lx_len, lx_len] at hi
  rw [co_lx _ _ _ (by rw [lx_len]; exact hi), co_lx _ _ _ hi, Nat.xor_assoc, Nat.xor_self, Nat.xor_zero]
theorem lx_pad (o s : List Nat) (h : o.length = s.length) : lx o (lx o s) = s := Lin.list_ext (by rw [lx_len]; exact h) fun i hi => by
  rw [lx_len] at hi
  rw [co_lx _ _ _ hi, co_lx _ _ _ hi, ← Nat.xor_assoc, Nat.xor_self, Nat.zero_xor]
/-- A text with its length in front and 0 behind. -/
def FillOk (n : Nat) (m : Int) : Prop := 1 ≤ m ∧ m ≤ 256 ∧ (n : Int) < m
def fil (t : List Nat) (m : Nat) : List Nat := tab m (fun i => if i = 0 then t.length else co t (i - 1))
theorem fil_len (t : List Nat) (m : Nat) : (fil t m).length = m := by unfold fil; rw [tab_len]
theorem fil_sm {t : List Nat} {m : Nat} (h : Sm t) (ht : t.length < 256) : Sm (fil t m) := tab_sm _ _ fun i _ => by
  split
  · exact ht
  · exact h _
/-- What can be stripped, and what is left. -/
def Tail0 (b : List Nat) : Prop := co b 0 < b.length ∧ ∀ i, co b 0 < i → co b i = 0
def StripNum (n : Nat) : Prop := 1 ≤ n ∧ n ≤ 256
def strp (b : List Nat) : List Nat := tab (co b 0) (fun i => co b (i + 1))
theorem strp_len (b : List Nat) : (strp b).length = co b 0 := by unfold strp; rw [tab_len]
theorem strp_sm {b : List Nat} (h : Sm b) : Sm (strp b) := tab_sm _ _ fun _ _ => h _
/-- What was filled is stripped. -/
theorem fil_tail {t : List Nat} {m : Nat} (h : t.length < m) : Tail0 (fil t m) := by
  have h0 : co (fil t m) 0 = t.length := by unfold fil; rw [co_tab, if_pos (by omega), if_pos rfl]
  refine ⟨by rw [h0, fil_len]; exact h, fun i hi => ?_⟩
  rw [h0] at hi
  unfold fil
  rw [co_tab]
  split
  · rw [if_neg (by omega)]
    exact Pol.co_out _ _ (by omega)
  · rfl
theorem fil_strp {t : List Nat} {m : Nat} (h : t.length < m) : strp (fil t m) = t := by
  have h0 : co (fil t m) 0 = t.length := by unfold fil; rw [co_tab, if_pos (by omega), if_pos rfl]
  refine Lin.list_ext (by rw [strp_len, h0]) fun i hi => ?_
  rw [strp_len, h0] at hi
  unfold strp
  rw [co_tab, if_pos (by omega)]
  unfold fil
  rw [co_tab, if_pos (by omega), if_neg (by omega)]
  rfl
theorem strp_fil {b : List Nat} (h : Tail0 b) : fil (strp b) b.length = b := by
  refine Lin.list_ext (fil_len _ _) fun i hi => ?_
  rw [fil_len] at hi
  unfold fil
  rw [co_tab, if_pos hi]
  split
  · rename_i e
    rw [e, strp_len]
  · rename_i e
    unfold strp
    rw [co_tab]
    split
    · rw [show i - 1 + 1 = i from by omega]
    · exact (h.2 i (by omega)).symm

end Go.Proofs.YtjifionpblpfoaaDoor

/-
  Envelopes in plain numbers: which can be, their bytes, what is read of bytes, how an order is sealed and opened. Conditions: none; no function is named here.
-/
namespace Go.Proofs.YtjifionpblpfoaaDoor
open Go.RowKit
open Pol (co Sm)

/-- An envelope: whose it is, which one, its fee, the last slot, the body. -/
structure Ev where
  s : Int
  n : Nat
  f : Nat
  x : Nat
  b : List Nat
def Ev.zero : Ev := ⟨0, 0, 0, 0, []⟩
/-- Each number is one of 64 bits, each of the body's a byte. -/
structure Ev.Fit (e : Ev) : Prop where
  n : e.n < 18446744073709551616
  f : e.f < 18446744073709551616
  x : e.x < 18446744073709551616
  b : Sm e.b
/-- The error's number. -/
def Ev.chk (e : Ev) : Nat := if e.s < 0 ∨ 6 ≤ e.s then 1 else if 1152921504606846976 < e.f then 10 else if e.b.length < 1 ∨ 32 < e.b.length then 5 else 0
def Ev.ok (e : Ev) : Prop := 0 ≤ e.s ∧ e.s < 6 ∧ e.f ≤ 1152921504606846976 ∧ 1 ≤ e.b.length ∧ e.b.length ≤ 32
instance (e : Ev) : Decidable e.ok := inferInstanceAs (Decidable (_ ∧ _))
theorem Ev.chk_ok {e : Ev} : e.chk = 0 ↔ e.ok := by
  unfold Ev.chk Ev.ok
  constructor
  · intro h
    split at h
    · omega
    · split at h
      · omega
      · split at h <;> omega
  · intro h
    rw [if_neg (by omega), if_neg (by omega), if_neg (by omega)]
def Ev.enc (e : Ev) : List Nat := vn e.s.toNat ++ vn e.n ++ vn e.f ++ vn e.x ++ vt e.b
/-- The bytes, or none. -/
def Ev.bytes (e : Ev) : List Nat := if e.ok then e.enc else []
theorem Ev.enc_sm {e : Ev} (h : Sm e.b) : Sm e.enc := by
  unfold Ev.enc
  exact sm_app (sm_app (sm_app (sm_app (vn_sm _) (vn_sm _)) (vn_sm _)) (vn_sm _)) (vt_sm h)
theorem Ev.enc_len {e : Ev} (h : e.ok) (hf : e.Fit) : 6 ≤ e.enc.length ∧ e.enc.length ≤ 64 := by
  obtain ⟨h1, h2, h3, h4, h5⟩ := h
  have a1 := vn_pos e.s.toNat
  have a2 := vn_pos e.n
  have a3 := vn_pos e.f
  have a4 := vn_pos e.x
  have b1 : (vn e.s.toNat).length = 1 := by rw [vn_lt (by omega)]; rfl
  have b2 := vn_ten hf.n
  have b3 := vn_ten hf.f
  have b4 := vn_ten hf.x
  have b5 : (vn e.b.length).length = 1 := by rw [vn_lt (by omega)]; rfl
  unfold Ev.enc vt
  simp only [List.length_append]
  omega
/-- What is read, and what is left. -/
def rdE (b : List Nat) : Rs Ev := (rdN 5 b).bind fun s b1 => (rdN 18446744073709551615 b1).bind fun n b2 => (rdN 1152921504606846976 b2).bind fun f b3 => (rdN 18446744073709551615 b3).bind fun x b4 => (rdT 32 b4).bind fun t b5 => .ok ⟨(s : Int), n, f, x, t⟩ b5
def dec16 (b : List Nat) : Nat × Ev := match rdE b with
  | .er n => (n, Ev.zero)
  | .ok e rest => if rest ≠ [] then (3, Ev.zero) else if e.b = [] then (5, Ev.zero) else (0, e)
theorem rdE_enc {e : Ev} (h : e.ok) (hf : e.Fit) : rdE e.enc = .ok e [] := by
  obtain ⟨h1, h2, h3, h4, h5⟩ := h
  unfold rdE Ev.enc
  rw [List.append_assoc, List.append_assoc, List.append_assoc, rdN_of _ (by omega) (by omega)]
  show ((rdN _ _).bind _ : Rs Ev) = _
  rw [rdN_of _ hf.n (by have := hf.n; omega)]
  show ((rdN _ _).bind _ : Rs Ev) = _
  rw [rdN_of _ hf.f h3]
  show ((rdN _ _).bind _ : Rs Ev) = _
  rw [rdN_of _ hf.x (by have := hf.x; omega)]
  show ((rdT _ _).bind _ : Rs Ev) = _
  have q := rdT_vt 32 e.b [] (by omega)
  rw [List.append_nil, if_neg (by omega)] at q
  rw [q]
  show (Rs.ok (⟨((e.s.toNat : Nat) : Int), e.n, e.f, e.x, e.b⟩ : Ev) [] : Rs Ev) = _
  rw [Int.toNat_of_nonneg h1]
theorem dec16_enc {e : Ev} (h : e.ok) (hf : e.Fit) : dec16 e.enc = (0, e) := by
  unfold dec16
  rw [rdE_enc h hf]
  dsimp only
  rw [if_neg (by simp), if_neg (by intro h0; have := h.2.2.2.1; rw [h0] at this; simp at this)]
/-- What is read, its parts one by one. -/
theorem rdE_ok {b rest : List Nat} {e : Ev} (hs : Sm b) (h : rdE b = .ok e rest) : b = e.enc ++ rest ∧ 0 ≤ e.s ∧ e.s < 6 ∧ e.f ≤ 1152921504606846976 ∧ e.b.length ≤ 32 ∧ e.Fit := by
  unfold rdE at h
  cases h1 : rdN 5 b with
  | er n => rw [h1] at h; cases h
  | ok s b1 =>
    rw [h1] at h
    obtain ⟨e1, f1, g1⟩ := vn_rdN hs h1
    have hs1 : Sm b1 := (sm_split (e1 ▸ hs)).2
    change ((rdN 18446744073709551615 b1).bind _ : Rs Ev) = _ at h
    cases h2 : rdN 18446744073709551615 b1 with
    | er n => rw [h2] at h; cases h
    | ok n b2 =>
      rw [h2] at h
      obtain ⟨e2, f2, g2⟩ := vn_rdN hs1 h2
      have hs2 : Sm b2 := (sm_split (e2 ▸ hs1)).2
      change ((rdN 1152921504606846976 b2).bind _ : Rs Ev) = _ at h
      cases h3 : rdN 1152921504606846976 b2 with
      | er n => rw [h3] at h; cases h
      | ok f b3 =>
        rw [h3] at h
        obtain ⟨e3, f3, g3⟩ := vn_rdN hs2 h3
        have hs3 : Sm b3 := (sm_split (e3 ▸ hs2)).2
        change ((rdN 18446744073709551615 b3).bind _ : Rs Ev) = _ at h
        cases h4 : rdN 18446744073709551615 b3 with
        | er n => rw [h4] at h; cases h
        | ok x b4 =>
          rw [h4] at h
          obtain ⟨e4, f4, g4⟩ := vn_rdN hs3 h4
          have hs4 : Sm b4 := (sm_split (e4 ▸ hs3)).2
          change ((rdT 32 b4).bind _ : Rs Ev) = _ at h
          cases h5 : rdT 32 b4 with
          | er n => rw [h5] at h; cases h
          | ok t b5 =>
            rw [h5] at h
            obtain ⟨e5, f5, g5⟩ := vt_rdT hs4 h5
            have h' : (Rs.ok (⟨(s : Int), n, f, x, t⟩ : Ev) b5 : Rs Ev) = .ok e rest := h
            injection h' with h6 h7
            subst h6 h7
            have hst : Sm t := by
              rw [e5] at hs4
              unfold vt at hs4
              exact (sm_split (sm_split hs4).1).2
            refine ⟨?_, by dsimp only; omega, by dsimp only; omega, by dsimp only; omega, by dsimp only; omega, ⟨by dsimp only; omega, by dsimp only; omega, by dsimp only; omega, hst⟩⟩
            unfold Ev.enc
            dsimp only
            rw [Int.toNat_natCast, e1, e2, e3, e4, e5]
            simp only [List.append_assoc]
theorem dec16_ok {b : List Nat} (hs : Sm b) (h : (dec16 b).1 = 0) : (dec16 b).2.ok ∧ (dec16 b).2.enc = b ∧ (dec16 b).2.Fit := by
  unfold dec16 at h ⊢
  cases h1 : rdE b with
  | er n =>
    rw [h1] at h
    exfalso
    have hn : n = 0 := h
    have : ∀ {α : Type} {r : Rs α} {f : α → List Nat → Rs Ev} {n : Nat}, (∀ e, r = .er e → 0 < e) → (∀ a l, r = .ok a l → ∀ e, f a l = .er e → 0 < e) → r.bind f = .er n → 0 < n := fun {α} {r} {f} {n} h1 h2 h => by
      cases r with
      | er e => exact h1 _ (by injection h with h; rw [h])
      | ok a l => exact h2 a l rfl n h
    have h0 := this (fun e he => (rdN_er he).1) (fun k b1 _ e he => this (fun e he => (rdN_er he).1) (fun t b2 _ e he => this (fun e he => (rdN_er he).1) (fun a b3 _ e he => this (fun e he => (rdN_er he).1) (fun a b4 _ e he => this (fun e he => (rdT_er he).1) (fun m b5 _ e he => by cases he) he) he) he) he) h1
    omega
  | ok e rest =>
    rw [h1] at h
    obtain ⟨e1, e2, e3, e4, e5, e6⟩ := rdE_ok hs h1
    dsimp only at h ⊢
    by_cases hr : rest = []
    · rw [if_neg (by simpa using hr)] at h ⊢
      by_cases hb : e.b = []
      · rw [if_pos hb] at h
        cases h
      · rw [if_neg hb] at h ⊢
        refine ⟨⟨e2, e3, e4, List.length_pos_iff.2 hb, e5⟩, ?_, e6⟩
        rw [e1, hr, List.append_nil]
    · rw [if_pos hr] at h
      cases h
/-- Two envelopes that can be have the same bytes just if they are one. -/
theorem Ev.enc_one {e o : Ev} (he : e.ok) (ho : o.ok) (hf : e.Fit) (hg : o.Fit) : e.enc = o.enc ↔ e = o := by
  constructor
  · intro h
    have h1 := rdE_enc he hf
    rw [h, rdE_enc ho hg] at h1
    injection h1 with h1
    exact h1.symm
  · intro h; rw [h]
instance (n : Nat) (m : Int) : Decidable (FillOk n m) := inferInstanceAs (Decidable (_ ∧ _))
/-- An order under a pad. -/
def make16 (s : Int) (n f x : Nat) (o : Od) (p : List Nat) : Nat × Ev :=
  if ¬ o.right then (1, Ev.zero) else if ¬ FillOk o.bytes.length (p.length : Int) then (6, Ev.zero) else
    if (Ev.mk s n f x (lx (fil o.bytes p.length) p)).chk ≠ 0 then ((Ev.mk s n f x (lx (fil o.bytes p.length) p)).chk, Ev.zero) else (0, Ev.mk s n f x (lx (fil o.bytes p.length) p))
/-- The order that is sealed. -/
noncomputable def open16 (e : Ev) (p : List Nat) : Nat × Od := by
  classical
  exact if e.chk ≠ 0 then (e.chk, Od.zero) else if p.length ≠ e.b.length then (1, Od.zero) else
    if ¬ Tail0 (lx e.b p) then (15, Od.zero) else if (dec14 (strp (lx e.b p))).1 ≠ 0 then (15, Od.zero) else dec14 (strp (lx e.b p))
/-- What was made is opened under its pad. -/
theorem open_make {s : Int} {n f x : Nat} {o : Od} {p : List Nat} (ha : o.a < 18446744073709551616) (h : (make16 s n f x o p).1 = 0) : open16 (make16 s n f x o p).2 p = (0, o) := by
  unfold make16 at h ⊢
  by_cases hr : o.right
  · rw [if_neg (by simpa using hr)] at h ⊢
    by_cases hf : FillOk o.bytes.length (p.length : Int)
    · rw [if_neg (by simpa using hf)] at h ⊢
      generalize hb : lx (fil o.bytes p.length) p = b at h ⊢
      by_cases hc : (Ev.mk s n f x b).chk = 0
      · rw [if_neg (by simpa using hc)] at h ⊢
        have hlen : b.length = p.length := by rw [← hb, lx_len, fil_len]
        have hback : lx b p = fil o.bytes p.length := by rw [← hb, lx_back]
        have hlt : o.bytes.length < p.length := by have := hf.2.2; omega
        unfold open16
        dsimp only
        rw [if_neg (by simpa using hc), if_neg (by simpa using hlen.symm), hback, if_neg (by simpa using fil_tail hlt), fil_strp hlt]
        have hd : dec14 o.bytes = (0, o) := by unfold Od.bytes; rw [if_pos hr]; exact dec_enc hr ha
        rw [hd, if_neg (by simp)]
      · rw [if_pos hc] at h
        exact absurd h hc
    · rw [if_pos hf] at h
      cases h
  · rw [if_pos hr] at h
    cases h
end Go.Proofs.YtjifionpblpfoaaDoor

/-
  Calls that hand back a list, and a number. Conditions: none; no function is named here.
-/
namespace Go.Proofs.YtjifionpblpfoaaDoor
open Go.RowKit
open Pol (co Sm)

/-- A list, and a number. -/
def GivesE (l : List Nat) (n : Int) (w : World) (e : Ending) (w' : World) : Prop := ∃ v : Value, e = .returned (.tuple #[v, .int .i64 n]) ∧ Sl w' v l ∧ Ext w w'
theorem sl_none (w : World) : Sl w (.slice none 0 0) [] := ⟨none, 0, rfl, Nat.le_refl _, Rd.nil _ _⟩
theorem mine_one (w : World) (x : Nat) : Mine (w.alloc (.cells #[.int .u8 (x : Int)] 5)) w.heap.size (.slice (some ⟨w.heap.size, 0, none⟩) 1 1) [x] :=
  World.ownsRow_lit w #[.int .u8 (x : Int)] 1 (Nat.le_refl _) (by unfold maxLen; omega) rfl
end Go.Proofs.YtjifionpblpfoaaDoor

/-
  One place more. Conditions: none; no function is named here.
-/
namespace Go.Proofs.YtjifionpblpfoaaDoor
open Go.RowKit
open Pol (co Sm)

theorem tab_succ (n : Nat) (f : Nat → Nat) : tab (n + 1) f = tab n f ++ [f n] := by
  unfold tab
  rw [List.range_succ, List.map_append]
  rfl
theorem tab_zero (f : Nat → Nat) : tab 0 f = [] := rfl
end Go.Proofs.YtjifionpblpfoaaDoor

/-
  Slices of bytes of a call's own that are handed back. Conditions: none.
-/
namespace Go.Proofs.YtjifionpblpfoaaDoor
open Go.RowKit
open Pol (co Sm)

theorem mine_ext {w w' : World} {base : Nat} {v : Value} {l : List Nat} (h : Mine w base v l) (hx : Ext w w') : Mine w' base v l :=
  World.ownsRow.kept h (row := none) ⟨hx.below.os, hx.below.tape, hx.below.output, hx.below.size, fun k hk _ => hx.below.block k hk⟩ (by
    cases hb : v.ownBlock with
    | none => exact .inl rfl
    | some k => exact .inr (by simp))
theorem Mine.down {w : World} {base base' : Nat} {v : Value} {l : List Nat} (h : Mine w base v l) (hb : base' ≤ base) : Mine w base' v l :=
  ⟨h.1, h.2.imp id fun ⟨g, cap, cur, h1, h2, h3⟩ => ⟨g, cap, cur, h1, Nat.le_trans hb h2, h3⟩⟩
theorem Mine.nil (w : World) (base : Nat) : Mine w base (.slice none 0 0) [] := World.ownsRow_nil w base _ _
theorem Mine.block {w : World} {base : Nat} {v : Value} {l : List Nat} (h : Mine w base v l) : ∀ k, v.ownBlock = some k → base ≤ k ∧ k < w.heap.size := fun k hk => World.ownsRow.lt h k hk
/-- A list, in a block that was laid since. -/
def GivesM (l : List Nat) (w : World) (e : Ending) (w' : World) : Prop := ∃ v, e = .returned v ∧ Mine w' w.heap.size v l ∧ Sm l ∧ Ext w w'
theorem gives_m {w w' : World} {v : Value} {l m : List Nat} (hm : Mine w' w.heap.size v l) (hl : l = m) (hs : Sm m) (hx : Ext w w') : GivesM m w (.returned v) w' := by
  subst hl
  exact ⟨v, rfl, hm, hs, hx⟩
theorem GivesM.gives {l : List Nat} {w : World} {e : Ending} {w' : World} (h : GivesM l w e w') : Gives l w e w' := by
  obtain ⟨v, rfl, hm, hs, hx⟩ := h
  exact gives_of hm rfl hs hx
theorem GivesM.after {l : List Nat} {w w1 : World} {e : Ending} {w' : World} (h : GivesM l w1 e w') (hx : Ext w w1) : GivesM l w e w' := by
  obtain ⟨v, rfl, hm, hs, hx'⟩ := h
  exact ⟨v, rfl, hm.down hx.size, hs, hx.trans hx'⟩
end Go.Proofs.YtjifionpblpfoaaDoor

/-
  A region that draws its order, by an invariant: what holds of the listed operations, whichever they are, is kept by each operation that may come up next. Conditions: each operation waits for operations ahead of it in the text alone; of no program in particular.
-/
namespace Go.Proofs.YtjifionpblpfoaaDoor
open Go

section
variable {P : Program} {ops : Array Oper} {Q : Exit → Act → World → Prop}

theorem Oper.wp_then {o : Oper} {a : Act} {w : World} {K K' : Act → World → Prop} (h : ∀ a w, K' a w → K a w) (hh : o.wp P a w K' (Exit.then K Q)) : o.wp P a w K Q := by
  unfold Oper.wp at *
  generalize (execOp a.eval o).run P w = r at *
  cases r with
  | ok n w' =>
    cases n <;> simp only [Oper.upon] at hh ⊢ <;>
      first
        | exact h _ _ hh
        | exact Calls.mono hh (fun e w'' he => by cases e <;> first | exact h _ _ he | exact he)
        | exact Rows.mono hh (fun _ _ he => h _ _ he)
  | halt x w' => cases x <;> simp only [Oper.upon] at hh ⊢ <;> exact hh
theorem wpOp_of_one {i : Nat} {o : Oper} {a : Act} {w : World} {K : Act → World → Prop} (hi : ops[i]? = some o) (h : wpList P ops (Exit.then K Q) [o] a w) : wpOp P ops Q i K a w := by
  unfold wpOp
  rw [hi]
  simp only
  unfold wpList at h
  split
  · rename_i hw
    rw [if_pos hw] at h
    rcases h with h | h
    · exact .inl (Oper.wp_then (fun a w h => by unfold wpList at h; exact h) h)
    · exact .inr h
  · rename_i hw
    rw [if_neg hw] at h
    unfold wpList at h
    exact h
def depsB (l : List Oper) : Bool := (List.range l.length).all fun i => match l[i]? with | some o => o.after.all (fun e => decide (e.on < i)) | none => true
theorem depsB_spec {l : List Oper} (h : depsB l = true) {i : Nat} {o : Oper} (hi : l[i]? = some o) : ∀ e ∈ o.after, e.on < i := by
  have hlt : i < l.length := (List.getElem?_eq_some_iff.1 hi).1
  have h1 := List.all_eq_true.1 h i (List.mem_range.2 hlt)
  rw [hi] at h1
  intro e he
  have h2 := (Array.all_eq_true_iff_forall_mem.1 h1) e he
  simpa using h2
theorem getD_true_of {L : Array Bool} {k : Nat} (h : L.getD k false = true) : L.getD k true = true := by
  rw [Array.getD_eq_getD_getElem?] at h ⊢
  cases hk : L[k]? with
  | none => rfl
  | some b => rw [hk] at h; exact h
theorem getD_false_of {L : Array Bool} {k : Nat} (hk : k < L.size) (h : L.getD k true = true) : L.getD k false = true := by
  rw [Array.getD_eq_getD_getElem?] at h ⊢
  rw [Array.getElem?_eq_getElem hk] at h ⊢
  exact h
theorem getD_listed (L : Array Bool) (i j : Nat) : (L.setIfInBounds i true).getD j true = (j == i || L.getD j true) := by
  by_cases e : j = i
  · subst e
    rw [Array.getD_eq_getD_getElem?, Array.getElem?_setIfInBounds_self]
    split <;> simp
  · rw [getD_set_ne true (fun h => e h.symm), show (j == i) = false from beq_eq_false_iff_ne.2 e, Bool.false_or]

theorem wpAny_inv {l : List Oper} (I : (Nat → Bool) → Act → World → Prop) (hB : depsB l = true)
    (hs : ∀ i o, l[i]? = some o → ∀ L a w, I L a w → L i = false → (∀ e ∈ o.after, Region.binds .any e = true → L e.on = true) → wpList P l.toArray (Exit.then (fun a' w' => I (fun j => j == i || L j) a' w') Q) [o] a w)
    (he : ∀ L a w, (∀ i, i < l.length → L i = true) → I L a w → Q .normal a w) :
    ∀ (f : Nat) (L : Array Bool) (a : Act) (w : World) (U : List Nat), L.size = l.length → U.length = f → (∀ i, L.getD i true = false → i ∈ U) → I (fun i => L.getD i true) a w → wpAny P .any l.toArray Q f L a w := by
  have hall : ∀ L : Array Bool, L.size = l.length → Region.ready .any l.toArray L = [] → ∀ i, i < l.length → L.getD i true = true := fun L hsz hr i => by
    induction i using Nat.strongRecOn with
    | _ i ih =>
      intro hi
      cases hb : L.getD i true with
      | true => rfl
      | false =>
        have hoi : l.toArray[i]? = some l[i] := by simp [hi]
        have hm : i ∈ Region.ready .any l.toArray L := mem_ready.2 ⟨hb, _, hoi, fun e hee _ => by
          have hlt := depsB_spec hB (i := i) (o := l[i]) (by simp [hi]) e hee
          exact getD_false_of (by omega) (ih e.on hlt (by omega))⟩
        rw [hr] at hm
        cases hm
  intro f
  induction f with
  | zero =>
    intro L a w U hsz hU hin hI
    have hU0 : U = [] := List.eq_nil_of_length_eq_zero hU
    subst hU0
    have hL : ∀ i, L.getD i true = true := fun i => by
      cases hb : L.getD i true with
      | true => rfl
      | false => exact absurd (hin i hb) (by simp)
    refine ⟨?_, he _ a w (fun i _ => hL i) hI⟩
    rcases hr : Region.ready .any l.toArray L with _ | ⟨i, r⟩
    · rfl
    · have hm : i ∈ Region.ready .any l.toArray L := by rw [hr]; simp
      have := (mem_ready.1 hm).1
      rw [hL i] at this
      cases this
  | succ f ih =>
    intro L a w U hsz hU hin hI
    refine ⟨fun hr => he _ a w (hall L hsz hr) hI, fun i hi => ?_⟩
    obtain ⟨hun, o, ho, haft⟩ := mem_ready.1 hi
    have ho' : l[i]? = some o := by simpa using ho
    have h1 := hs i o ho' _ a w hI hun (fun e hee hb => getD_true_of (haft e hee hb))
    have hU' : (U.erase i).length = f := by rw [List.length_erase_of_mem (hin i hun)]; omega
    refine wpOp_mono (fun a' w' hI' => ?_) (wpOp_of_one ho h1)
    refine ih _ a' w' (U.erase i) (by simpa using hsz) hU' (fun j hj => ?_) ?_
    · rw [getD_listed, Bool.or_eq_false_iff] at hj
      exact (List.mem_erase_of_ne (by simpa using hj.1)).2 (hin j hj.2)
    · simp only [getD_listed]
      exact hI'
theorem wp_region_inv {id : Nat} {a : Act} {w : World} {l : List Oper} (I : (Nat → Bool) → Act → World → Prop) (hm : P.follows .mixedOrders = true) (hB : depsB l = true) (h0 : I (fun i => !decide (i < l.length)) a w.drew)
    (hs : ∀ i o, l[i]? = some o → ∀ L a w, I L a w → L i = false → (∀ e ∈ o.after, Region.binds .any e = true → L e.on = true) → wpList P l.toArray (Exit.then (fun a' w' => I (fun j => j == i || L j) a' w') Q) [o] a w)
    (he : ∀ L a w, (∀ i, i < l.length → L i = true) → I L a w → wpList P l.toArray Q [] a w) : (Code.region id l.toArray true).wp P Q a w := by
  have e0 : (fun i => (Array.replicate l.toArray.size false).getD i true) = fun i => !decide (i < l.length) := by
    funext i
    rw [Array.getD_eq_getD_getElem?, Array.getElem?_replicate]
    by_cases h : i < l.length <;> simp [h]
  refine wp_region_any hm ?_
  refine wpAny_inv I hB hs he l.toArray.size _ a _ (List.range l.length) (by simp) (by simp) (fun i hi => ?_) (by rw [e0]; exact h0)
  have h1 := congrFun e0 i
  rw [hi] at h1
  exact List.mem_range.2 (by simpa using h1.symm)
end
end Go.Proofs.YtjifionpblpfoaaDoor

/-
  A region that draws its order, some of whose operations only read what stays: these may be taken ahead of the others, and the others come one after the other. Conditions: a check of the region's text (by the kernel); of no program in particular.
-/
namespace Go.Proofs.YtjifionpblpfoaaDoor
open Go

section
variable {P : Program} {ops : Array Oper} {Q : Exit → Act → World → Prop} {md : Region.Mode} {C : World → Prop}

/-- In every world of the class the operation yields v and leaves the world alone. -/
def YieldsC (P : Program) (ops : Array Oper) (C : World → Prop) (o : Oper) (v : Value) (a : Act) : Prop :=
  (Region.wanted o (yielded ops a.tmps) = true ∧ ∀ w, C w → (execOp a.eval o).run P w = .ok (.value v) w) ∨ (Region.wanted o (yielded ops a.tmps) = false ∧ v = undef) ∨
    (Region.wanted o (yielded ops a.tmps) = true ∧ ∃ f args, (∀ w, C w → (execOp a.eval o).run P w = .ok (.enter f args) w) ∧ ∀ w, C w → Calls P f args w (fun e w' => e = .returned v ∧ w = w'))
theorem YieldsC.wpOp {i : Nat} {o : Oper} {v : Value} {a : Act} (hi : ops[i]? = some o) (hy : YieldsC P ops C o v a) {K : Act → World → Prop} {w : World} (hw : C w) (h : K (a.put o.dst v) w) : wpOp P ops Q i K a w := by
  unfold Go.wpOp
  simp only [hi]
  rcases hy with ⟨hg, hv⟩ | ⟨hg, rfl⟩ | ⟨hg, f, args, hv, hc⟩
  · simp only [hg, if_true, Oper.wp, hv w hw, Oper.upon]; exact .inl h
  · simp only [hg, Bool.false_eq_true, if_false]; exact h
  · simp only [hg, if_true, Oper.wp, hv w hw, Oper.upon]
    refine .inl (Calls.mono (hc w hw) ?_)
    rintro e w' ⟨rfl, rfl⟩
    exact h
theorem YieldsC.of_same {o : Oper} {v : Value} {a a' : Act} (hy : YieldsC P ops C o v a) (he : execOp a'.eval o = execOp a.eval o) (hw : Region.wanted o (yielded ops a'.tmps) = Region.wanted o (yielded ops a.tmps)) : YieldsC P ops C o v a' := by
  unfold YieldsC at *
  rw [he, hw]
  exact hy
theorem wpOp_putC {j : Nat} {oi oj : Oper} {v : Value} (hj : ops[j]? = some oj) (hap : oi.apart ops oj = true) (hsi : ∀ cs b, oi.op ≠ .select cs b) (hsj : ∀ cs b, oj.op ≠ .select cs b)
    (hQ : ∀ c a w, Q (.panic c) (a.put oi.dst v) w → Q (.panic c) a w) {K : Act → World → Prop} {a : Act} {w : World} (hy : YieldsC P ops C oi v a) (h : wpOp P ops Q j K (a.put oi.dst v) w) :
    wpOp P ops Q j (fun a' w' => YieldsC P ops C oi v a' ∧ K (a'.put oi.dst v) w') a w := by
  obtain ⟨h1, h2, h3⟩ := Oper.apart_spec hap
  have keep : ∀ (a : Act), YieldsC P ops C oi v a → ∀ u, YieldsC P ops C oi v (a.put oj.dst u) := fun a hy u => hy.of_same (execOp_put oi hsi a oj.dst u h3) (wanted_put oi a oj.dst u h3)
  have keepD : ∀ d, YieldsC P ops C oi v { a with defers := d :: a.defers } := fun d => hy.of_same rfl rfl
  unfold wpOp at *
  simp only [hj] at *
  rw [wanted_put oj a oi.dst v h1] at h
  split
  · rename_i hw
    simp only [hw, if_true] at h
    rcases h with h | ⟨hasks, hlets⟩
    case inr => exact .inr ⟨by unfold Oper.asks at *; rw [execOp_put oj hsj a oi.dst v h1] at hasks; exact hasks, hlets⟩
    refine .inl ?_
    unfold Oper.wp at *
    rw [execOp_put oj hsj a oi.dst v h1] at h
    generalize (execOp a.eval oj).run P w = r at *
    cases r with
    | ok n w' =>
      cases n <;> simp only [Oper.upon] at h ⊢
      case value u => exact ⟨keep a hy u, by rw [← Act.put_comm a v u h2]; exact h⟩
      case skip => exact ⟨keep a hy _, by rw [← Act.put_comm a v undef h2]; exact h⟩
      case defer d =>
        refine ⟨keep _ (keepD d) _, ?_⟩
        rw [← Act.put_comm _ v undef h2, ← Act.put_defers]
        exact h
      case enter f args =>
        refine Calls.mono h fun e w'' he => ?_
        cases e with
        | returned u => exact ⟨keep a hy u, by rw [← Act.put_comm a v u h2]; exact he⟩
        | panicked c => exact hQ _ _ _ he
        | outgrown => exact he
      case row row args => exact Rows.mono h fun u w'' he => ⟨keep a hy u, by rw [← Act.put_comm a v u h2]; exact he⟩
    | halt x w' =>
      cases x <;> simp only [Oper.upon] at h ⊢
      case panic u => exact hQ _ _ _ h
  · rename_i hw
    simp only [hw] at h
    exact ⟨keep a hy _, by rw [← Act.put_comm a v undef h2]; exact h⟩

/-- As wpAny, and the operations of F leave the world in the class. -/
def wpAnyC (P : Program) (md : Region.Mode) (ops : Array Oper) (C : World → Prop) (F : Nat → Bool) (Q : Exit → Act → World → Prop) : Nat → Array Bool → Act → World → Prop
  | 0, listed, a, w => Region.ready md ops listed = [] ∧ Q .normal a w
  | fuel + 1, listed, a, w => (Region.ready md ops listed = [] → Q .normal a w) ∧ ∀ i ∈ Region.ready md ops listed, wpOp P ops Q i (fun a' w' => (F i = true → C w') ∧ wpAnyC P md ops C F Q fuel (listed.setIfInBounds i true) a' w') a w
theorem wpAny_of_C {F : Nat → Bool} : ∀ (fuel : Nat) (listed : Array Bool) (a : Act) (w : World), wpAnyC P md ops C F Q fuel listed a w → wpAny P md ops Q fuel listed a w
  | 0, _, _, _, h => h
  | fuel + 1, _, _, _, h => ⟨h.1, fun i hi => wpOp_mono (fun a' w' h' => wpAny_of_C fuel _ a' w' h'.2) (h.2 i hi)⟩
/-- What is listed waits for nothing that is not. -/
def Closed (md : Region.Mode) (ops : Array Oper) (listed : Array Bool) : Prop := ∀ j oj, ops[j]? = some oj → listed.getD j false = true → ∀ e ∈ oj.after, Region.binds md e = true → listed.getD e.on false = true
theorem Closed.set {listed : Array Bool} (h : Closed md ops listed) {i : Nat} (hi : i ∈ Region.ready md ops listed) : Closed md ops (listed.setIfInBounds i true) := fun j oj hoj hl e he hb => by
  by_cases hji : j = i
  · subst hji
    obtain ⟨_, o, ho, hall⟩ := mem_ready.1 hi
    rw [hoj] at ho
    injection ho with ho
    subst ho
    exact getD_set_true (hall e he hb)
  · rw [getD_set_ne false (fun h => hji h.symm)] at hl
    exact getD_set_true (h j oj hoj hl e he hb)
/-- What stands behind i; what is not of F does. -/
def bhStep (md : Region.Mode) (ops : Array Oper) (i : Nat) (acc : List Nat) (j : Nat) : List Nat :=
  match ops[j]? with
  | some oj => if oj.after.any (fun e => Region.binds md e && (e.on == i || acc.contains e.on)) then j :: acc else acc
  | none => acc
def behindB (md : Region.Mode) (ops : Array Oper) (F : Nat → Bool) (i : Nat) : Bool :=
  (List.range ops.size).all fun j => j == i || F j || ((List.range ops.size).foldl (bhStep md ops i) []).contains j
theorem bh_fold {i : Nat} {listed : Array Bool} (hc : Closed md ops listed) (hi : listed.getD i false = false) : ∀ (l acc : List Nat), (∀ j ∈ acc, listed.getD j false = false ∧ j ∉ Region.ready md ops listed) →
    ∀ j ∈ l.foldl (bhStep md ops i) acc, listed.getD j false = false ∧ j ∉ Region.ready md ops listed
  | [], acc, h => h
  | k :: l, acc, h => by
    refine bh_fold hc hi l (bhStep md ops i acc k) ?_
    unfold bhStep
    cases hk : ops[k]? with
    | none => exact h
    | some ok =>
      simp only
      split
      · rename_i hany
        intro j hj
        rcases List.mem_cons.1 hj with e | e
        · subst e
          obtain ⟨e, he, hb⟩ := Array.any_eq_true'.1 hany
          simp only [Bool.and_eq_true, Bool.or_eq_true, beq_iff_eq] at hb
          have hno : listed.getD e.on false = false := by
            rcases hb.2 with h2 | h2
            · rw [h2]; exact hi
            · exact (h e.on (by simpa using h2)).1
          constructor
          · cases hl : listed.getD j false with
            | false => rfl
            | true =>
              have := hc j ok hk hl e he hb.1
              rw [hno] at this
              cases this
          · intro hr
            obtain ⟨_, o, ho, hall⟩ := mem_ready.1 hr
            rw [hk] at ho
            injection ho with ho
            subst ho
            have := hall e he hb.1
            rw [hno] at this
            cases this
        · exact h j e
      · exact h
theorem behind_not {F : Nat → Bool} {i : Nat} (hB : behindB md ops F i = true) {listed : Array Bool} (hc : Closed md ops listed) (hi : listed.getD i false = false) :
    ∀ j, j < ops.size → j ≠ i → F j = false → listed.getD j false = false ∧ j ∉ Region.ready md ops listed := fun j hj hji hF => by
  have h1 := List.all_eq_true.1 hB j (List.mem_range.2 hj)
  simp only [hF, Bool.or_false, Bool.or_eq_true, beq_iff_eq, hji, false_or] at h1
  exact bh_fold hc hi _ [] (fun _ h => absurd h (by simp)) j (by simpa using h1)

theorem wpAnyC_first {F : Nat → Bool} {i : Nat} {oi : Oper} {v : Value} (hi : ops[i]? = some oi) (hsel : ∀ (j : Nat) (o : Oper) cs b, ops[j]? = some o → o.op ≠ .select cs b)
    (hQ : ∀ c a w, Q (.panic c) (a.put oi.dst v) w → Q (.panic c) a w) (hB : behindB md ops F i = true) :
    ∀ (fuel : Nat) (listed : Array Bool) (a : Act) (w : World), C w → Closed md ops listed →
      (∀ j oj, ops[j]? = some oj → j ≠ i → listed.getD j true = false → (∀ e ∈ oj.after, Region.binds md e = true → e.on ≠ i) → oi.apart ops oj = true) →
      i ∈ Region.ready md ops listed → YieldsC P ops C oi v a →
      wpAnyC P md ops C F Q fuel (listed.setIfInBounds i true) (a.put oi.dst v) w → wpAnyC P md ops C F Q (fuel + 1) listed a w := by
  intro fuel
  induction fuel with
  | zero =>
    intro listed a w hC _ _ hr hy H
    refine ⟨fun h => (by rw [h] at hr; cases hr), fun j hj => ?_⟩
    by_cases hji : j = i
    · subst hji; exact hy.wpOp hi hC ⟨fun _ => hC, H⟩
    · have := ready_mono hj hji
      rw [H.1] at this
      cases this
  | succ fuel ih =>
    intro listed a w hC hcl hfree hr hy H
    refine ⟨fun h => (by rw [h] at hr; cases hr), fun j hj => ?_⟩
    by_cases hji : j = i
    · subst hji; exact hy.wpOp hi hC ⟨fun _ => hC, H⟩
    · have h1 := H.2 j (ready_mono hj hji)
      obtain ⟨hjun, oj, hoj, hall⟩ := mem_ready.1 hj
      have hiun := (mem_ready.1 hr).1
      have hnot : ∀ e ∈ oj.after, Region.binds md e = true → e.on ≠ i := fun e he hb heq => by
        have h1 := hall e he hb
        rw [heq, getD_both hiun] at h1
        cases h1
      have hFj : F j = true := by
        cases hF : F j with
        | true => rfl
        | false => exact absurd hj (behind_not hB hcl (getD_both hiun) j (Array.getElem?_eq_some_iff.1 hoj).1 hji hF).2
      have h2 := wpOp_putC hoj (hfree j oj hoj hji hjun hnot) (fun cs b => hsel i oi cs b hi) (fun cs b => hsel j oj cs b hoj) hQ hy h1
      have hfree' : ∀ k ok, ops[k]? = some ok → k ≠ i → (listed.setIfInBounds j true).getD k true = false →
          (∀ e ∈ ok.after, Region.binds md e = true → e.on ≠ i) → oi.apart ops ok = true := fun k ok hk hki hun hno => by
        refine hfree k ok hk hki ?_ hno
        by_cases hjk : j = k
        · subst hjk; exact hjun
        · rw [getD_set_ne true hjk] at hun; exact hun
      refine wpOp_mono (fun a' w' h3 => ⟨fun _ => h3.2.1 hFj, ih (listed.setIfInBounds j true) a' w' (h3.2.1 hFj) (hcl.set hj) hfree' (ready_mono hr (Ne.symm hji)) h3.1 ?_⟩) h2
      rw [Array.setIfInBounds_comm _ _ hji]
      exact h3.2.2

/-- The walk: an operation that only reads what stays (true), or the only one that may come up (false). -/
def wpStab (P : Program) (l : List Oper) (C : World → Prop) (F : Nat → Bool) (Q : Exit → Act → World → Prop) : List (Nat × Bool) → Act → World → Prop
  | [], a, w => wpList P l.toArray Q [] a w
  | (i, true) :: π, a, w => ∃ o v, l[i]? = some o ∧ YieldsC P l.toArray C o v a ∧ wpStab P l C F Q π (a.put o.dst v) w
  | (i, false) :: π, a, w => ∃ o, l[i]? = some o ∧ wpList P l.toArray (Exit.then (fun a' w' => (F i = true → C w') ∧ wpStab P l C F Q π a' w') Q) [o] a w
theorem stab_yes {F : Nat → Bool} {l : List Oper} {i : Nat} {o : Oper} {π : List (Nat × Bool)} {a : Act} {w : World} (ho : l[i]? = some o)
    (h : ∀ K : Act → Prop, (∀ a', wpStab P l C F Q π a' w → K a') → Region.wanted o (yielded l.toArray a.tmps) = true ∧ ∃ v, (∀ W, C W → (execOp a.eval o).run P W = .ok (.value v) W) ∧ K (a.put o.dst v)) : wpStab P l C F Q ((i, true) :: π) a w := by
  obtain ⟨h1, v, h2, h3⟩ := h (fun a' => wpStab P l C F Q π a' w) (fun _ h => h)
  exact ⟨o, v, ho, .inl ⟨h1, h2⟩, h3⟩
theorem stab_call {F : Nat → Bool} {l : List Oper} {i : Nat} {o : Oper} {π : List (Nat × Bool)} {a : Act} {w : World} (ho : l[i]? = some o)
    (h : ∀ K : Act → Prop, (∀ a', wpStab P l C F Q π a' w → K a') → Region.wanted o (yielded l.toArray a.tmps) = true ∧ ∃ f args v, (∀ W, C W → (execOp a.eval o).run P W = .ok (.enter f args) W) ∧ (∀ W, C W → Calls P f args W (fun e w' => e = .returned v ∧ W = w')) ∧ K (a.put o.dst v)) : wpStab P l C F Q ((i, true) :: π) a w := by
  obtain ⟨h1, f, args, v, h2, h3, h4⟩ := h (fun a' => wpStab P l C F Q π a' w) (fun _ h => h)
  exact ⟨o, v, ho, .inr (.inr ⟨h1, f, args, h2, h3⟩), h4⟩
theorem stab_one {F : Nat → Bool} {l : List Oper} {i : Nat} {o : Oper} {π : List (Nat × Bool)} {a : Act} {w : World} (ho : l[i]? = some o)
    (h : ∀ K : Act → World → Prop, (∀ a' w', (F i = true → C w') ∧ wpStab P l C F Q π a' w' → K a' w') → wpList P l.toArray (Exit.then K Q) [o] a w) : wpStab P l C F Q ((i, false) :: π) a w :=
  ⟨o, ho, h _ (fun _ _ h => h)⟩
/-- The check: c says whether the world is in the class. -/
def stabB (md : Region.Mode) (ops : Array Oper) (F : Nat → Bool) : Bool → List (Nat × Bool) → Array Bool → Bool
  | _, [], listed => (Region.ready md ops listed).isEmpty
  | c, (i, true) :: π, listed => c && (Region.ready md ops listed).contains i && Region.free md ops listed i && behindB md ops F i && stabB md ops F c π (listed.setIfInBounds i true)
  | c, (i, false) :: π, listed => (Region.ready md ops listed == [i]) && stabB md ops F (c && F i) π (listed.setIfInBounds i true)
theorem wpAnyC_of_stab {F : Nat → Bool} {l : List Oper} (hsel : Region.noSelect l.toArray = true) (hQ : ∀ c a a' w, a.defers = a'.defers → Q (.panic c) a w → Q (.panic c) a' w) :
    ∀ (π : List (Nat × Bool)) (c : Bool) (listed : Array Bool) (a : Act) (w : World), (c = true → C w) → Closed md l.toArray listed → stabB md l.toArray F c π listed = true → wpStab P l C F Q π a w → wpAnyC P md l.toArray C F Q π.length listed a w
  | [], _, listed, a, w, _, _, hB, h => ⟨by simpa [stabB] using hB, h⟩
  | (i, true) :: π, c, listed, a, w, hC, hcl, hB, h => by
    obtain ⟨o, v, ho0, hy, hK⟩ := h
    have ho : l.toArray[i]? = some o := by simpa using ho0
    simp only [stabB, Bool.and_eq_true] at hB
    obtain ⟨⟨⟨⟨hc, hr⟩, hf⟩, hb⟩, hrest⟩ := hB
    have hr' : i ∈ Region.ready md l.toArray listed := by simpa using hr
    exact wpAnyC_first ho (Region.noSelect_spec hsel) (fun ch a w h => hQ ch _ _ w (by cases o.dst <;> rfl) h) hb π.length listed a w (hC hc) hcl (Region.free_spec ho hf) hr' hy
      (wpAnyC_of_stab hsel hQ π c _ _ _ hC (hcl.set hr') hrest hK)
  | (i, false) :: π, c, listed, a, w, hC, hcl, hB, h => by
    obtain ⟨o, ho0, hK⟩ := h
    have ho : l.toArray[i]? = some o := by simpa using ho0
    simp only [stabB, Bool.and_eq_true] at hB
    obtain ⟨hr, hrest⟩ := hB
    have hr1 : Region.ready md l.toArray listed = [i] := by simpa using hr
    have hr' : i ∈ Region.ready md l.toArray listed := by rw [hr1]; simp
    refine ⟨fun h0 => absurd h0 (by rw [hr1]; simp), fun j hj => ?_⟩
    obtain rfl : j = i := by rw [hr1] at hj; simpa using hj
    refine wpOp_mono (fun a' w' h' => ⟨h'.1, wpAnyC_of_stab hsel hQ π (c && F j) _ a' w' (fun hcf => ?_) (hcl.set hr') hrest h'.2⟩) (wpOp_of_one ho hK)
    rw [Bool.and_eq_true] at hcf
    exact h'.1 hcf.2
theorem wp_region_stab {id : Nat} {a : Act} {w : World} {l : List Oper} (C : World → Prop) (F : List Nat) (π : List (Nat × Bool)) (hm : P.follows .mixedOrders = true) (hQ : ∀ c a a' w, a.defers = a'.defers → Q (.panic c) a w → Q (.panic c) a' w)
    (hB : (Region.noSelect l.toArray && (π.length == l.length) && stabB .any l.toArray (fun i => F.contains i) true π (Array.replicate l.length false)) = true) (hC : C w.drew) (h : wpStab P l C (fun i => F.contains i) Q π a w.drew) : (Code.region id l.toArray true).wp P Q a w := by
  simp only [Bool.and_eq_true, beq_iff_eq] at hB
  obtain ⟨⟨hsel, hlen⟩, hst⟩ := hB
  refine wp_region_any hm (wpAny_of_C (C := C) (F := fun i => F.contains i) _ _ _ _ ?_)
  have h1 := wpAnyC_of_stab (P := P) (Q := Q) (C := C) (md := .any) hsel hQ π true (Array.replicate l.length false) a w.drew (fun _ => hC) (fun j oj _ hl => by rw [getD_replicate_false] at hl; cases hl) hst h
  rw [hlen] at h1
  have hsz : l.toArray.size = l.length := by simp
  rw [hsz]
  exact h1
end
/-- Two cells, and what they hold. -/
def Two (p : Addr) (v : Value) (q : Addr) (u : Value) (W : World) : Prop := W.cell? p = some v ∧ W.cell? q = some u
end Go.Proofs.YtjifionpblpfoaaDoor

/-
  A region that draws its order, walked by a plan: operations that only read what stays are taken ahead, one that alone may come up comes up, and where two or three may come up next each of them is walked. Conditions: a check of the region's text (by the kernel); of no program in particular.
-/
namespace Go.Proofs.YtjifionpblpfoaaDoor
open Go

/-- A plan: the end; an operation that only reads what stays; the only one that may come up; one of two; one of three. -/
inductive Plan where
  | done : Plan
  | yes : Nat → Plan → Plan
  | one : Nat → Plan → Plan
  | two : Nat → Plan → Nat → Plan → Plan
  | three : Nat → Plan → Nat → Plan → Nat → Plan → Plan

section
variable {P : Program} {Q : Exit → Act → World → Prop} {md : Region.Mode} {C : World → Prop}
/-- Operation i, and then K. -/
def wpStepP (P : Program) (l : List Oper) (Q : Exit → Act → World → Prop) (i : Nat) (K : Act → World → Prop) (a : Act) (w : World) : Prop :=
  ∃ o, l[i]? = some o ∧ wpList P l.toArray (Exit.then K Q) [o] a w
/-- The walk by a plan. -/
def wpPlan (P : Program) (l : List Oper) (C : World → Prop) (F : Nat → Bool) (Q : Exit → Act → World → Prop) : Plan → Act → World → Prop
  | .done, a, w => wpList P l.toArray Q [] a w
  | .yes i p, a, w => ∃ o v, l[i]? = some o ∧ YieldsC P l.toArray C o v a ∧ wpPlan P l C F Q p (a.put o.dst v) w
  | .one i p, a, w => wpStepP P l Q i (fun a' w' => (F i = true → C w') ∧ wpPlan P l C F Q p a' w') a w
  | .two i p j q, a, w => wpStepP P l Q i (fun a' w' => (F i = true → C w') ∧ wpPlan P l C F Q p a' w') a w ∧ wpStepP P l Q j (fun a' w' => (F j = true → C w') ∧ wpPlan P l C F Q q a' w') a w
  | .three i p j q k r, a, w => wpStepP P l Q i (fun a' w' => (F i = true → C w') ∧ wpPlan P l C F Q p a' w') a w ∧ wpStepP P l Q j (fun a' w' => (F j = true → C w') ∧ wpPlan P l C F Q q a' w') a w ∧ wpStepP P l Q k (fun a' w' => (F k = true → C w') ∧ wpPlan P l C F Q r a' w') a w
theorem plan_yes {F : Nat → Bool} {l : List Oper} {i : Nat} {o : Oper} {π : Plan} {a : Act} {w : World} (ho : l[i]? = some o)
    (h : ∀ K : Act → Prop, (∀ a', wpPlan P l C F Q π a' w → K a') → Region.wanted o (yielded l.toArray a.tmps) = true ∧ ∃ v, (∀ W, C W → (execOp a.eval o).run P W = .ok (.value v) W) ∧ K (a.put o.dst v)) : wpPlan P l C F Q (.yes i π) a w := by
  obtain ⟨h1, v, h2, h3⟩ := h (fun a' => wpPlan P l C F Q π a' w) (fun _ h => h)
  exact ⟨o, v, ho, .inl ⟨h1, h2⟩, h3⟩
theorem plan_call {F : Nat → Bool} {l : List Oper} {i : Nat} {o : Oper} {π : Plan} {a : Act} {w : World} (ho : l[i]? = some o)
    (h : ∀ K : Act → Prop, (∀ a', wpPlan P l C F Q π a' w → K a') → Region.wanted o (yielded l.toArray a.tmps) = true ∧ ∃ f args v, (∀ W, C W → (execOp a.eval o).run P W = .ok (.enter f args) W) ∧ (∀ W, C W → Calls P f args W (fun e w' => e = .returned v ∧ W = w')) ∧ K (a.put o.dst v)) : wpPlan P l C F Q (.yes i π) a w := by
  obtain ⟨h1, f, args, v, h2, h3, h4⟩ := h (fun a' => wpPlan P l C F Q π a' w) (fun _ h => h)
  exact ⟨o, v, ho, .inr (.inr ⟨h1, f, args, h2, h3⟩), h4⟩
theorem plan_load {F : Nat → Bool} {l : List Oper} {i : Nat} {o : Oper} {π : Plan} {a : Act} {w : World} (ho : l[i]? = some o) (ty : TypeId) (x : Operand) (hop : o.op = .load ty x) (v : Value)
    (hw : Region.wanted o (yielded l.toArray a.tmps) = true) (hrun : ∀ W, C W → (Instr.loadAt ty (a.eval x)).run P W = .ok v W) (h : wpPlan P l C F Q π (a.put o.dst v) w) : wpPlan P l C F Q (.yes i π) a w :=
  plan_yes ho (fun _ hK => ⟨hw, v, fun W hW => by simp only [execOp, hop, Sem.run_bind, hrun W hW, Result.andThen, Sem.run_pure], hK _ h⟩)
theorem plan_toArray {F : Nat → Bool} {l : List Oper} {i : Nat} {o : Oper} {π : Plan} {a : Act} {w : World} (ho : l[i]? = some o) (ty : TypeId) (x : Operand) (hop : o.op = .sliceToArrayPointer ty x) (v : Value)
    (hw : Region.wanted o (yielded l.toArray a.tmps) = true) (hrun : ∀ W, C W → (Instr.arrayAt ty (a.eval x)).run P W = .ok v W) (h : wpPlan P l C F Q π (a.put o.dst v) w) : wpPlan P l C F Q (.yes i π) a w :=
  plan_yes ho (fun _ hK => ⟨hw, v, fun W hW => by simp only [execOp, hop, Sem.run_bind, hrun W hW, Result.andThen, Sem.run_pure], hK _ h⟩)
theorem stepP_of {l : List Oper} {i : Nat} {o : Oper} {a : Act} {w : World} {K : Act → World → Prop} (ho : l[i]? = some o)
    (h : ∀ K' : Act → World → Prop, (∀ a' w', K a' w' → K' a' w') → wpList P l.toArray (Exit.then K' Q) [o] a w) : wpStepP P l Q i K a w := ⟨o, ho, h K (fun _ _ h => h)⟩
theorem plan_one {F : Nat → Bool} {l : List Oper} {i : Nat} {o : Oper} {π : Plan} {a : Act} {w : World} (ho : l[i]? = some o)
    (h : ∀ K : Act → World → Prop, (∀ a' w', (F i = true → C w') ∧ wpPlan P l C F Q π a' w' → K a' w') → wpList P l.toArray (Exit.then K Q) [o] a w) : wpPlan P l C F Q (.one i π) a w := stepP_of ho h
theorem plan_two {F : Nat → Bool} {l : List Oper} {i j : Nat} {o u : Oper} {p q : Plan} {a : Act} {w : World} (ho : l[i]? = some o) (hu : l[j]? = some u)
    (h1 : ∀ K : Act → World → Prop, (∀ a' w', (F i = true → C w') ∧ wpPlan P l C F Q p a' w' → K a' w') → wpList P l.toArray (Exit.then K Q) [o] a w)
    (h2 : ∀ K : Act → World → Prop, (∀ a' w', (F j = true → C w') ∧ wpPlan P l C F Q q a' w' → K a' w') → wpList P l.toArray (Exit.then K Q) [u] a w) : wpPlan P l C F Q (.two i p j q) a w := ⟨stepP_of ho h1, stepP_of hu h2⟩
/-- The check: c says whether the world is in the class; n operations are left. -/
def planB (md : Region.Mode) (ops : Array Oper) (F : Nat → Bool) : Nat → Bool → Plan → Array Bool → Bool
  | 0, _, .done, listed => (Region.ready md ops listed).isEmpty
  | n + 1, c, .yes i p, listed => c && (Region.ready md ops listed).contains i && Region.free md ops listed i && behindB md ops F i && planB md ops F n c p (listed.setIfInBounds i true)
  | n + 1, c, .one i p, listed => (Region.ready md ops listed == [i]) && planB md ops F n (c && F i) p (listed.setIfInBounds i true)
  | n + 1, c, .two i p j q, listed => (Region.ready md ops listed == [i, j]) && planB md ops F n (c && F i) p (listed.setIfInBounds i true) && planB md ops F n (c && F j) q (listed.setIfInBounds j true)
  | n + 1, c, .three i p j q k r, listed => (Region.ready md ops listed == [i, j, k]) && planB md ops F n (c && F i) p (listed.setIfInBounds i true) && planB md ops F n (c && F j) q (listed.setIfInBounds j true) && planB md ops F n (c && F k) r (listed.setIfInBounds k true)
  | _, _, _, _ => false
theorem wpAnyC_of_plan {F : Nat → Bool} {l : List Oper} (hsel : Region.noSelect l.toArray = true) (hQ : ∀ c a a' w, a.defers = a'.defers → Q (.panic c) a w → Q (.panic c) a' w) :
    ∀ (n : Nat) (π : Plan) (c : Bool) (listed : Array Bool) (a : Act) (w : World), (c = true → C w) → Closed md l.toArray listed → planB md l.toArray F n c π listed = true → wpPlan P l C F Q π a w → wpAnyC P md l.toArray C F Q n listed a w := by
  intro n
  induction n with
  | zero =>
    intro π c listed a w hC hcl hB h
    cases π <;> simp only [planB, Bool.false_eq_true] at hB
    exact ⟨by simpa using hB, h⟩
  | succ n ih =>
    have step : ∀ (i : Nat) (p : Plan) (c : Bool) (listed : Array Bool) (a : Act) (w : World), (c = true → C w) → Closed md l.toArray listed → i ∈ Region.ready md l.toArray listed → planB md l.toArray F n (c && F i) p (listed.setIfInBounds i true) = true →
        wpStepP P l Q i (fun a' w' => (F i = true → C w') ∧ wpPlan P l C F Q p a' w') a w → wpOp P l.toArray Q i (fun a' w' => (F i = true → C w') ∧ wpAnyC P md l.toArray C F Q n (listed.setIfInBounds i true) a' w') a w := by
      intro i p c listed a w hC hcl hr hB ⟨o, ho0, hK⟩
      have ho : l.toArray[i]? = some o := by simpa using ho0
      refine wpOp_mono (fun a' w' h' => ⟨h'.1, ih p (c && F i) _ a' w' (fun hcf => ?_) (hcl.set hr) hB h'.2⟩) (wpOp_of_one ho hK)
      rw [Bool.and_eq_true] at hcf
      exact h'.1 hcf.2
    intro π c listed a w hC hcl hB h
    cases π with
    | done => simp [planB] at hB
    | yes i p =>
      obtain ⟨o, v, ho0, hy, hK⟩ := h
      have ho : l.toArray[i]? = some o := by simpa using ho0
      simp only [planB, Bool.and_eq_true] at hB
      obtain ⟨⟨⟨⟨hc, hr⟩, hf⟩, hb⟩, hrest⟩ := hB
      have hr' : i ∈ Region.ready md l.toArray listed := by simpa using hr
      exact wpAnyC_first ho (Region.noSelect_spec hsel) (fun ch a w h => hQ ch _ _ w (by cases o.dst <;> rfl) h) hb n listed a w (hC hc) hcl (Region.free_spec ho hf) hr' hy (ih p c _ _ _ hC (hcl.set hr') hrest hK)
    | one i p =>
      simp only [planB, Bool.and_eq_true] at hB
      have hr : Region.ready md l.toArray listed = [i] := by simpa using hB.1
      refine ⟨fun h0 => absurd h0 (by rw [hr]; simp), fun j hj => ?_⟩
      obtain rfl : j = i := by rw [hr] at hj; simpa using hj
      exact step j p c listed a w hC hcl hj hB.2 h
    | two i p j q =>
      simp only [planB, Bool.and_eq_true] at hB
      have hr : Region.ready md l.toArray listed = [i, j] := by simpa using hB.1.1
      refine ⟨fun h0 => absurd h0 (by rw [hr]; simp), fun k hk => ?_⟩
      have hk' : k = i ∨ k = j := by rw [hr] at hk; simpa using hk
      rcases hk' with rfl | rfl
      · exact step k p c listed a w hC hcl hk hB.1.2 h.1
      · exact step k q c listed a w hC hcl hk hB.2 h.2
    | three i p j q k r =>
      simp only [planB, Bool.and_eq_true] at hB
      have hr : Region.ready md l.toArray listed = [i, j, k] := by simpa using hB.1.1.1
      refine ⟨fun h0 => absurd h0 (by rw [hr]; simp), fun m hm => ?_⟩
      have hm' : m = i ∨ m = j ∨ m = k := by rw [hr] at hm; simpa using hm
      rcases hm' with rfl | rfl | rfl
      · exact step m p c listed a w hC hcl hm hB.1.1.2 h.1
      · exact step m q c listed a w hC hcl hm hB.1.2 h.2.1
      · exact step m r c listed a w hC hcl hm hB.2 h.2.2
theorem wp_region_plan {id : Nat} {a : Act} {w : World} {l : List Oper} (C : World → Prop) (F : List Nat) (π : Plan) (hm : P.follows .mixedOrders = true) (hQ : ∀ c a a' w, a.defers = a'.defers → Q (.panic c) a w → Q (.panic c) a' w)
    (hB : (Region.noSelect l.toArray && planB .any l.toArray (fun i => F.contains i) l.length true π (Array.replicate l.length false)) = true) (hC : C w.drew) (h : wpPlan P l C (fun i => F.contains i) Q π a w.drew) : (Code.region id l.toArray true).wp P Q a w := by
  simp only [Bool.and_eq_true] at hB
  obtain ⟨hsel, hst⟩ := hB
  refine wp_region_any hm (wpAny_of_C (C := C) (F := fun i => F.contains i) _ _ _ _ ?_)
  have h1 := wpAnyC_of_plan (P := P) (Q := Q) (C := C) (md := .any) hsel hQ l.length π true (Array.replicate l.length false) a w.drew (fun _ => hC) (fun j oj _ hl => by rw [getD_replicate_false] at hl; cases hl) hst h
  have hsz : l.toArray.size = l.length := by simp
  rw [hsz]
  exact h1
end
end Go.Proofs.YtjifionpblpfoaaDoor

/-
  The document's Check and xor of layer 16. Conditions: no more than 2^16 bytes.
-/
namespace Go.Proofs.YtjifionpblpfoaaDoor
open Go.RowKit
open Pol (co Sm)

/-- An envelope as a value. -/
abbrev evv (s : Int) (n f x : Nat) (A : Option Addr) (k c : Nat) : Value := .agg #[.int .i64 s, .int .u64 (n : Int), .int .u64 (f : Int), .int .u64 (x : Int), .slice A k c]
set_option maxHeartbeats 1600000 in
theorem ref16_check (s : Int) (n f x k c : Nat) (b : List Nat) (A : Option Addr) (w : World) (hk : b.length = k) :
    Calls Tryd.prog 12 #[evv s n f x A k c] w (Tells (.int .i64 ((Ev.chk ⟨s, n, f, x, b⟩ : Nat) : Int)) w) := by
  unfold Ev.chk
  dsimp only
  rw [hk]
  clear hk
  by_cases h1 : s < 0
  · have d1 : decide (s < 0) = true := decide_eq_true h1
    rw [if_pos (.inl h1)]
    go_enter Tryd.func12, Tryd.ntmps12
    go_wp2
    go_ret
    exact ⟨rfl, (Ext.refl _).alloc _⟩
  have d1 : decide (s < 0) = false := decide_eq_false h1
  by_cases h2 : 6 ≤ s
  · have d2 : decide (s ≥ 6) = true := decide_eq_true h2
    have d2' : decide (6 ≤ s) = true := decide_eq_true h2
    rw [if_pos (.inr h2)]
    go_enter Tryd.func12, Tryd.ntmps12
    go_wp2
    go_ret
    exact ⟨rfl, (Ext.refl _).alloc _⟩
  have d2 : decide (s ≥ 6) = false := decide_eq_false h2
  have d2' : decide (6 ≤ s) = false := decide_eq_false h2
  rw [if_neg (by omega)]
  by_cases h3 : 1152921504606846976 < f
  · have d3 : decide ((f : Int) > 1152921504606846976) = true := decide_eq_true (by omega)
    have d3' : decide ((1152921504606846976 : Int) < (f : Int)) = true := decide_eq_true (by omega)
    rw [if_pos h3]
    go_enter Tryd.func12, Tryd.ntmps12
    go_wp2
    go_ret
    exact ⟨rfl, (Ext.refl _).alloc _⟩
  have d3 : decide ((f : Int) > 1152921504606846976) = false := decide_eq_false (by omega)
  have d3' : decide ((1152921504606846976 : Int) < (f : Int)) = false := decide_eq_false (by omega)
  rw [if_neg h3]
  by_cases h4 : k < 1
  · have d4 : decide ((k : Int) < 1) = true := decide_eq_true (by omega)
    rw [if_pos (.inl h4)]
    go_enter Tryd.func12, Tryd.ntmps12
    go_wp2
    go_ret
    exact ⟨rfl, (Ext.refl _).alloc _⟩
  have d4 : decide ((k : Int) < 1) = false := decide_eq_false (by omega)
  by_cases h5 : 32 < k
  · have d5 : decide ((k : Int) > 32) = true := decide_eq_true (by omega)
    have d5' : decide ((32 : Int) < (k : Int)) = true := decide_eq_true (by omega)
    rw [if_pos (.inr h5)]
    go_enter Tryd.func12, Tryd.ntmps12
    go_wp2
    go_ret
    exact ⟨rfl, (Ext.refl _).alloc _⟩
  have d5 : decide ((k : Int) > 32) = false := decide_eq_false (by omega)
  have d5' : decide ((32 : Int) < (k : Int)) = false := decide_eq_false (by omega)
  rw [if_neg (by omega)]
  go_enter Tryd.func12, Tryd.ntmps12
  go_wp2
  go_ret
  exact ⟨rfl, (Ext.refl _).alloc _⟩
end Go.Proofs.YtjifionpblpfoaaDoor

/-
  The document's Same of layer 16. Conditions: no more than 2^20 bytes.
-/
namespace Go.Proofs.YtjifionpblpfoaaDoor
open Go.RowKit
open Pol (co Sm)

/-- Are two envelopes alike? -/
def Ev.Same (e o : Ev) : Prop := e.s = o.s ∧ e.n = o.n ∧ e.f = o.f ∧ e.x = o.x ∧ e.b = o.b
instance (e o : Ev) : Decidable (Ev.Same e o) := inferInstanceAs (Decidable (_ ∧ _))
theorem Ev.same_iff {e o : Ev} : Ev.Same e o ↔ e = o := by
  obtain ⟨a, b, c, d, f⟩ := e
  obtain ⟨a', b', c', d', f'⟩ := o
  unfold Ev.Same
  simp
set_option maxHeartbeats 3200000 in
theorem ref16_same (s1 s2 : Int) (n1 f1 x1 k1 c1 n2 f2 x2 k2 c2 : Nat) (b1 b2 : List Nat) (A B : Option Addr) (w : World) (hk1 : b1.length = k1) (hk2 : b2.length = k2) (hr1 : Rd w A b1) (hr2 : Rd w B b2) (hl : k1 ≤ 1048576) :
    Calls Tryd.prog 18 #[evv s1 n1 f1 x1 A k1 c1, evv s2 n2 f2 x2 B k2 c2] w (Tells (.bool (decide (Ev.Same ⟨s1, n1, f1, x1, b1⟩ ⟨s2, n2, f2, x2, b2⟩))) w) := by
  have hx := ((Ext.refl w).alloc (.cells #[.int .i64 s1, .int .u64 (n1 : Int), .int .u64 (f1 : Int), .int .u64 (x1 : Int), .slice A k1 c1] 25)).alloc (.cells #[.int .i64 s2, .int .u64 (n2 : Int), .int .u64 (f2 : Int), .int .u64 (x2 : Int), .slice B k2 c2] 25)
  have HX := Lib.hid hx
  clear hx
  by_cases h0 : s1 = s2
  rotate_left
  · rw [decide_eq_false (fun h => h0 h.1)]
    have d1 : (s1 != s2) = true := by simp; omega
    have d2 : decide (s1 = s2) = false := decide_eq_false (by omega)
    have d3 : decide (s1 = s2) = false := decide_eq_false h0
    clear hk1 hk2 hr1 hr2
    go_enter Tryd.func18, Tryd.ntmps18
    go_wp2
    go_ret
    exact ⟨rfl, HX.out⟩
  subst h0
  by_cases h1 : n1 = n2
  rotate_left
  · rw [decide_eq_false (fun h => h1 h.2.1)]
    have d1 : ((n1 : Int) != (n2 : Int)) = true := by simp; omega
    have d2 : decide ((n1 : Int) = (n2 : Int)) = false := decide_eq_false (by omega)
    have d3 : decide (n1 = n2) = false := decide_eq_false h1
    clear hk1 hk2 hr1 hr2
    go_enter Tryd.func18, Tryd.ntmps18
    go_wp2
    go_ret
    exact ⟨rfl, HX.out⟩
  subst h1
  by_cases h2 : f1 = f2
  rotate_left
  · rw [decide_eq_false (fun h => h2 h.2.2.1)]
    have d1 : ((f1 : Int) != (f2 : Int)) = true := by simp; omega
    have d2 : decide ((f1 : Int) = (f2 : Int)) = false := decide_eq_false (by omega)
    have d3 : decide (f1 = f2) = false := decide_eq_false h2
    clear hk1 hk2 hr1 hr2
    go_enter Tryd.func18, Tryd.ntmps18
    go_wp2
    go_ret
    exact ⟨rfl, HX.out⟩
  subst h2
  by_cases h3 : x1 = x2
  rotate_left
  · rw [decide_eq_false (fun h => h3 h.2.2.2.1)]
    have d1 : ((x1 : Int) != (x2 : Int)) = true := by simp; omega
    have d2 : decide ((x1 : Int) = (x2 : Int)) = false := decide_eq_false (by omega)
    have d3 : decide (x1 = x2) = false := decide_eq_false h3
    clear hk1 hk2 hr1 hr2
    go_enter Tryd.func18, Tryd.ntmps18
    go_wp2
    go_ret
    exact ⟨rfl, HX.out⟩
  subst h3
  by_cases h4 : k1 = k2
  rotate_left
  · rw [decide_eq_false (fun h => h4 (by rw [← hk1, ← hk2]; exact congrArg List.length h.2.2.2.2))]
    have d1 : ((k1 : Int) != (k2 : Int)) = true := by simp; omega
    have d2 : decide ((k1 : Int) = (k2 : Int)) = false := decide_eq_false (by omega)
    have d3 : decide (k1 = k2) = false := decide_eq_false h4
    clear hk1 hk2 hr1 hr2
    go_enter Tryd.func18, Tryd.ntmps18
    go_wp2
    go_ret
    exact ⟨rfl, HX.out⟩
  subst h4
  have HR1 := Lib.hid (hr1.ext HX.out)
  have HR2 := Lib.hid (hr2.ext HX.out)
  have HK1 := Lib.hid hk1
  have HK2 := Lib.hid hk2
  have HT := Lib.hid (show ∀ i, i < k1 → co b1 i ≠ co b2 i → decide (Ev.Same ⟨s1, n1, f1, x1, b1⟩ ⟨s1, n1, f1, x1, b2⟩) = false from fun i _ h => decide_eq_false fun e => h (by rw [show b1 = b2 from e.2.2.2.2]))
  have HU := Lib.hid (show (∀ i, i < k1 → co b1 i = co b2 i) → decide (Ev.Same ⟨s1, n1, f1, x1, b1⟩ ⟨s1, n1, f1, x1, b2⟩) = true from fun h => decide_eq_true ⟨rfl, rfl, rfl, rfl, Lin.list_ext (hk1.trans hk2.symm) (fun i hi => h i (by have h2 : i < b1.length := hi; omega))⟩)
  have hg0 := (((Ext.refl w).alloc (.cells #[.int .i64 s1, .int .u64 (n1 : Int), .int .u64 (f1 : Int), .int .u64 (x1 : Int), .slice A k1 c1] 25)))
  have r1 : ((w.alloc (.cells #[.int .i64 s1, .int .u64 (n1 : Int), .int .u64 (f1 : Int), .int .u64 (x1 : Int), .slice A k1 c1] 25)).alloc (.cells #[.int .i64 s1, .int .u64 (n1 : Int), .int .u64 (f1 : Int), .int .u64 (x1 : Int), .slice B k1 c2] 25)).heap[w.heap.size]? = some (.cells #[.int .i64 s1, .int .u64 (n1 : Int), .int .u64 (f1 : Int), .int .u64 (x1 : Int), .slice A k1 c1] 25) := by
    rw [heap_alloc_old _ _ (by simp)]
    exact heap_alloc_new w _
  have r2 : ((w.alloc (.cells #[.int .i64 s1, .int .u64 (n1 : Int), .int .u64 (f1 : Int), .int .u64 (x1 : Int), .slice A k1 c1] 25)).alloc (.cells #[.int .i64 s1, .int .u64 (n1 : Int), .int .u64 (f1 : Int), .int .u64 (x1 : Int), .slice B k1 c2] 25)).heap[w.heap.size + 1]? = some (.cells #[.int .i64 s1, .int .u64 (n1 : Int), .int .u64 (f1 : Int), .int .u64 (x1 : Int), .slice B k1 c2] 25) := by
    have h := heap_alloc_new (w.alloc (.cells #[.int .i64 s1, .int .u64 (n1 : Int), .int .u64 (f1 : Int), .int .u64 (x1 : Int), .slice A k1 c1] 25)) (.cells #[.int .i64 s1, .int .u64 (n1 : Int), .int .u64 (f1 : Int), .int .u64 (x1 : Int), .slice B k1 c2] 25)
    rwa [show (w.alloc (.cells #[.int .i64 s1, .int .u64 (n1 : Int), .int .u64 (f1 : Int), .int .u64 (x1 : Int), .slice A k1 c1] 25)).heap.size = w.heap.size + 1 from by simp] at h
  have q1 := cell_of_row _ _ 4 _ _ _ r1
  have q2 := cell_of_row _ _ 4 _ _ _ r2
  have HQ := Lib.hid (And.intro q1 q2)
  clear hk1 hk2 hr1 hr2 hg0 r1 r2 q1 q2
  generalize decide (Ev.Same ⟨s1, n1, f1, x1, b1⟩ ⟨s1, n1, f1, x1, b2⟩) = r at *
  go_enter Tryd.func18, Tryd.ntmps18
  go_wp2
  obtain ⟨u, hu⟩ : ∃ u, (w.alloc (.cells #[.int .i64 s1, .int .u64 (n1 : Int), .int .u64 (f1 : Int), .int .u64 (x1 : Int), .slice A k1 c1] 25)).alloc (.cells #[.int .i64 s1, .int .u64 (n1 : Int), .int .u64 (f1 : Int), .int .u64 (x1 : Int), .slice B k1 c2] 25) = u := ⟨_, rfl⟩
  rw [hu] at HX HR1 HR2 HQ ⊢
  clear hu
  go_loopg [44] k1 (fun g s wx => ∃ i m : Nat, i + g = k1 ∧ s = .int .i64 (i : Int) ∧ wx = u.drewN m ∧ ∀ j, j < i → co b1 j = co b2 j)
  case atStart => exact ⟨0, 0, by omega, rfl, rfl, fun j h => absurd h (by omega)⟩
  case round =>
    obtain ⟨i, m, hig, rfl, rfl, hall⟩ := hrel
    have HALL := Lib.hid hall
    clear hall
    cases gk with
    | zero =>
      obtain rfl : i = k1 := by omega
      clear hig
      have hr := HU.out HALL.out
      subst hr
      go_wp2
      go_ret
      exact ⟨rfl, HX.out.drewN m⟩
    | succ g =>
      have hi : i < k1 := by omega
      have hiI : (i : Int) < (k1 : Int) := by omega
      obtain ⟨g1, o1, rfl, hc1⟩ := HR1.out.2 i (by rw [HK1.out]; exact hi)
      obtain ⟨g2, o2, rfl, hc2⟩ := HR2.out.2 i (by rw [HK2.out]; exact hi)
      obtain ⟨q1, q2⟩ := HQ.out
      have HIG := Lib.hid hig
      have HC := Lib.hid (HT.out i hi)
      have HE := Lib.hid (show co b1 i = co b2 i → ∀ j, j < i + 1 → co b1 j = co b2 j from fun h j hj => by
        by_cases e : j = i
        · subst e; exact h
        · exact HALL.out j (by omega))
      clear hig
      generalize co b1 i = x at *
      generalize co b2 i = y at *
      by_cases he : x = y
      · subst he
        have HE' := Lib.hid (HE.out rfl)
        have d0 : ((x : Int) != (x : Int)) = false := by simp
        clear HE HC
        go_wp2
        go_quiet (fail)
        go_wp2
        go_roundg g
        case measure => omega
        case rel => exact ⟨i + 1, _, by have := HIG.out; omega, by go_num, rfl, HE'.out⟩
      · have d0 : ((x : Int) != (y : Int)) = true := by simp; omega
        have d1 : decide ((x : Int) = (y : Int)) = false := decide_eq_false (by omega)
        have d2 : decide (x = y) = false := decide_eq_false he
        have hr := HC.out he
        subst hr
        clear HE HC he
        go_wp2
        go_quiet (fail)
        go_wp2
        go_ret
        exact ⟨rfl, (HX.out.drewN m).drewN nq⟩
end Go.Proofs.YtjifionpblpfoaaDoor

/-
  Parts of slices of bytes. Conditions: none; no function is named here.
-/
namespace Go.Proofs.YtjifionpblpfoaaDoor
open Go.RowKit
open Pol (co Sm)

/-- s[:h] of bytes. -/
theorem run_to_u8 (A : Option Addr) (len cap h : Nat) (hh : h ≤ cap) (W : World) :
    (Instr.slice 23 (.slice A len cap) none (some (.int .i64 (h : Int))) none).run Tryd.prog W = .ok (.slice A h cap) W := by
  obtain ⟨i0, hi, hz0, hz1, hz2⟩ := info_parts u8_info
  have he : Tryd.prog.elem 23 = 5 := by kernel_rfl
  rw [run_slice_h W 23 _ len cap (by rw [he]; exact Tryd.underlying23) .i64 (h : Int) (by omega) (by omega), he]
  cases A <;> simp [sizeOf, typeInfo, hi, hz1, Result.andThen, sliced, Addr.add]
/-- s[a:b] of bytes. -/
theorem run_cut_u8 (A : Option Addr) (len cap a b : Nat) (hab : a ≤ b) (hb : b ≤ cap) : ∃ X : Option Addr, (∀ W, (Instr.slice 23 (.slice A len cap) (some (.int .i64 (a : Int))) (some (.int .i64 (b : Int))) none).run Tryd.prog W = .ok (.slice X (b - a) (cap - a)) W) ∧
    ∀ w l, Rd w A l → b ≤ l.length → Rd w X (tab (b - a) (fun j => co l (a + j))) := by
  obtain ⟨i0, hi, hz0, hz1, hz2⟩ := info_parts u8_info
  have he : Tryd.prog.elem 23 = 5 := by kernel_rfl
  refine ⟨if cap = a then A else A.map (·.add a), fun W => ?_, fun w l h hl => ⟨tab_sm _ _ fun _ _ => h.1 _, fun i hi => ?_⟩⟩
  · rw [run_slice_lh W 23 _ len cap (by rw [he]; exact Tryd.underlying23) .i64 .i64 (a : Int) (b : Int) (by omega) (by omega) (by omega), he]
    cases A <;> simp [sizeOf, typeInfo, hi, hz1, Result.andThen, sliced]
  · rw [tab_len] at hi
    obtain ⟨b', o', e, hc⟩ := h.2 (a + i) (by omega)
    subst e
    refine ⟨b', o' + a, by rw [if_neg (by omega)]; simp [addr_add], ?_⟩
    rw [co_tab, if_pos hi, Nat.add_assoc]
    exact hc
/-- s[l:] of bytes, whole. -/
theorem run_rest_u8 (A : Option Addr) (len cap l : Nat) (hl : l ≤ len) (hc : len ≤ cap) : ∃ X : Option Addr, (∀ W, (Instr.slice 23 (.slice A len cap) (some (.int .i64 (l : Int))) none none).run Tryd.prog W = .ok (.slice X (len - l) (cap - l)) W) ∧
    (∀ w L, Rd w A L → L.length = len → Rd w X (tab (len - l) (fun j => co L (l + j)))) ∧ (∀ b o, l < cap → A = some ⟨b, o, none⟩ → X = some ⟨b, o + l, none⟩) := by
  obtain ⟨i0, hi, hz0, hz1, hz2⟩ := info_parts u8_info
  have he : Tryd.prog.elem 23 = 5 := by kernel_rfl
  refine ⟨if cap = l then A else A.map (·.add l), fun W => ?_, fun w L h hL => ⟨tab_sm _ _ fun _ _ => h.1 _, fun i hi => ?_⟩, fun b o h e => ?_⟩
  · rw [run_slice_l W 23 _ len cap (by rw [he]; exact Tryd.underlying23) .i64 (l : Int) (by omega) (by omega), he]
    cases A <;> simp [sizeOf, typeInfo, hi, hz1, Result.andThen, sliced]
  · rw [tab_len] at hi
    obtain ⟨b', o', e, hc⟩ := h.2 (l + i) (by omega)
    subst e
    refine ⟨b', o' + l, by rw [if_neg (by omega)]; simp [addr_add], ?_⟩
    rw [co_tab, if_pos hi, Nat.add_assoc]
    exact hc
  · subst e
    rw [if_neg (by omega)]
    simp [addr_add]

end Go.Proofs.YtjifionpblpfoaaDoor

/-
  What the document's own Fill and Strip of layer 6 do. Conditions: no more than 2^20 bytes.
-/
namespace Go.Proofs.YtjifionpblpfoaaDoor
open Go.RowKit
open Pol (co Sm)

/-- A filled text's bytes. -/
def fg (t : List Nat) (i : Nat) : Nat := if i = 0 then t.length else co t (i - 1)
theorem fg_sm {t : List Nat} (h : Sm t) (ht : t.length < 256) (k : Nat) : Sm (tab k (fg t)) := tab_sm _ _ fun i _ => by
  unfold fg
  split
  · exact ht
  · exact h _
theorem fg_start (t : List Nat) : [t.length] ++ t = tab (t.length + 1) (fg t) := by
  refine Lin.list_ext (by rw [tab_len, List.length_append]; simp; omega) fun i hi => ?_
  rw [co_tab, if_pos (by rw [List.length_append] at hi; simp at hi; omega)]
  unfold fg
  cases i with
  | zero => rfl
  | succ i => exact Pol.co_succ _ _ _
theorem fg_more (t : List Nat) (k : Nat) (h : t.length < k) : tab k (fg t) ++ [0] = tab (k + 1) (fg t) := by
  rw [tab_succ]
  unfold fg
  rw [if_neg (by omega), Pol.co_out _ _ (by omega)]

set_option maxHeartbeats 800000 in
theorem ref_fill_no (n : Nat) (m : Int) (A : Option Addr) (ca : Nat) (w : World) (h : ¬ FillOk n m) :
    Calls Tryd.prog 21 #[.slice A n ca, .int .i64 m] w (GivesE [] 6 w) := by
  unfold FillOk at h
  by_cases h1 : m < 1
  · have d1 : decide (m < 1) = true := decide_eq_true h1
    clear h
    go_enter Tryd.func21, Tryd.ntmps21
    go_wp2
    go_ret2
    exact ⟨_, rfl, sl_none _, Ext.refl w⟩
  have d1 : decide (m < 1) = false := decide_eq_false h1
  by_cases h2 : 256 < m
  · have d2 : decide (256 < m) = true := decide_eq_true h2
    clear h
    go_enter Tryd.func21, Tryd.ntmps21
    go_wp2
    go_ret2
    exact ⟨_, rfl, sl_none _, Ext.refl w⟩
  have d2 : decide (256 < m) = false := decide_eq_false h2
  have d3 : decide (m ≤ (n : Int)) = true := decide_eq_true (by omega)
  clear h
  go_enter Tryd.func21, Tryd.ntmps21
  go_wp2
  go_ret2
  exact ⟨_, rfl, sl_none _, Ext.refl w⟩

set_option maxHeartbeats 1600000 in
set_option maxRecDepth 100000 in
theorem ref_fill (t : List Nat) (m : Nat) (A : Option Addr) (ca : Nat) (w : World) (hr : Rd w A t) (h : FillOk t.length (m : Int)) :
    Calls Tryd.prog 21 #[.slice A t.length ca, .int .i64 (m : Int)] w (GivesE (fil t m) 0 w) := by
  obtain ⟨h1, h2, h3⟩ := h
  have HSM := Lib.hid (fg_sm hr.1 (by omega))
  have HST := Lib.hid (fg_start t)
  have HMO := Lib.hid (fg_more t)
  have HR := Lib.hid hr
  have HFE := Lib.hid (show fil t m = tab m (fg t) from rfl)
  have HM0 := Lib.hid (mine_one w t.length)
  clear hr
  generalize hn : t.length = n at *
  have HN := Lib.hid hn
  clear hn
  have d1 : decide ((m : Int) < 1) = false := decide_eq_false (by omega)
  have d2 : decide (256 < (m : Int)) = false := decide_eq_false (by omega)
  have d3 : decide ((m : Int) ≤ (n : Int)) = false := decide_eq_false (by omega)
  have ew : IntKind.u8.wrap (n : Int) = (n : Int) := IntWalk.u8_in _ (by omega)
  go_enter Tryd.func21, Tryd.ntmps21
  go_wp2_with (at_builtin; refine wpList_append_rd rfl (.tmp 22) (.tmp 23) rfl w.heap.size _ [n] t rfl HM0.out A n ca rfl HN.out (HR.out.ext ((Ext.refl _).alloc _)) (by rw [HN.out]; simp; omega) (by simp) ?_; intro v' w3 hown' hg' hat'; rw [HST.out] at hown'; have hx3 := ((Ext.refl w).alloc (.cells #[.int .u8 (n : Int)] 5)).more hg' (fun r e => (HM0.out.block r e).1); obtain ⟨Bv, cv, ev', hcv, _⟩ := hown'.slice (HSM.out _); rw [tab_len] at ev' hcv; subst ev'; have HO := Lib.hid hown'; have HX3 := Lib.hid hx3; clear hown' hg' hat' hx3)
  go_loopg [6] (m - (n + 1)) (fun gh s wx => ∃ (k : Nat) (B : Option Addr) (c : Nat), k + gh = m ∧ n + 1 ≤ k ∧ s = .slice B k c ∧ Mine wx w.heap.size (.slice B k c) (tab k (fg t)) ∧ Ext w wx)
  case atStart => exact ⟨n + 1, Bv, cv, by omega, Nat.le_refl _, rfl, HO.out, HX3.out⟩
  case round =>
    obtain ⟨k, B, c, hkg, hnk, rfl, hm, hx⟩ := hrel
    have HM := Lib.hid hm
    have HX := Lib.hid hx
    clear hm hx
    cases gk with
    | zero =>
      obtain rfl : k = m := by omega
      clear hkg
      go_wp2
      go_ret2
      rw [HFE.out]
      obtain ⟨B', c', e', hc', hr'⟩ := HM.out.slice (HSM.out _)
      exact ⟨_, rfl, ⟨B', c', e', hc', hr'⟩, HX.out⟩
    | succ gh =>
      have hk : k < m := by omega
      have hkI : (k : Int) < (m : Int) := by omega
      go_wp2_with (at_builtin; refine wpList_append_rd rfl (.tmp 29) (.tmp 30) rfl w.heap.size _ (tab k (fg t)) [0] rfl (mine_ext HM.out ((Ext.refl _).alloc _)) (some ⟨wr.heap.size, 0, none⟩) 1 1 rfl rfl (rd_one wr 0 (by omega)) (by rw [tab_len]; simp; omega) (by simp; have := HX.out.size; omega) ?_; intro v' w3 hown' hg' hat'; rw [HMO.out k (by omega)] at hown'; have hx3 := (HX.out.alloc (.cells #[.int .u8 0] 5)).more hg' (fun r e => (HM.out.block r e).1); obtain ⟨Bv, cv, ev', hcv, _⟩ := hown'.slice (HSM.out _); rw [tab_len] at ev' hcv; subst ev'; have HO := Lib.hid hown'; have HX3 := Lib.hid hx3; clear hown' hg' hat' hx3)
      go_roundg gh
      case measure => omega
      case rel => exact ⟨k + 1, Bv, cv, by omega, by omega, rfl, HO.out, HX3.out⟩

/-- What is stripped, or that nothing is. -/
def StripE (b : List Nat) (w : World) (e : Ending) (w' : World) : Prop := (Tail0 b ∧ GivesE (strp b) 0 w e w') ∨ (¬ Tail0 b ∧ GivesE [] 3 w e w')

theorem StripE.yes {b : List Nat} {w : World} {z : Nat} {B : Option Addr} {c : Nat} {w' : World} (hz : co b 0 = z) (h : z < b.length) (h0 : ∀ i, z < i → co b i = 0) (hc : z ≤ c) (hr : Rd w' B (tab z fun i => co b (i + 1))) (hx : Ext w w') : StripE b w (.returned (.tuple #[.slice B z c, .int .i64 0])) w' := by
  subst hz
  exact .inl ⟨⟨h, h0⟩, _, rfl, ⟨B, c, by rw [strp_len], by rw [strp_len]; exact hc, hr⟩, hx⟩
theorem StripE.no {b : List Nat} {w : World} {w' : World} (h : ¬ Tail0 b) (hx : Ext w w') : StripE b w (.returned (.tuple #[.slice none 0 0, .int .i64 3])) w' := .inr ⟨h, _, rfl, sl_none _, hx⟩

end Go.Proofs.YtjifionpblpfoaaDoor

/-
  Which orders the document's own Right of layer 14 takes. Conditions: none.
-/
namespace Go.Proofs.YtjifionpblpfoaaDoor
open Go.RowKit
open Pol (co Sm)

def RightN (k t : Int) (a n : Nat) : Prop := n ≤ 16 ∧ ((k = 1 ∧ 0 ≤ t ∧ t < 6) ∨ (k = 2 ∧ t = 0 ∧ a = 0))
instance (k t : Int) (a n : Nat) : Decidable (RightN k t a n) := inferInstanceAs (Decidable (_ ∧ _))
set_option maxHeartbeats 1600000 in
theorem ref14_right (k t : Int) (a n c : Nat) (A : Option Addr) (w : World) : Calls Tryd.prog 40 #[.agg #[.int .i64 k, .int .i64 t, .int .u64 (a : Int), .slice A n c]] w (Tells (.bool (decide (RightN k t a n))) w) := by
  by_cases h0 : 16 < n
  · have d0 : decide ((n : Int) > 16) = true := decide_eq_true (by omega)
    have d0' : decide (16 < (n : Int)) = true := decide_eq_true (by omega)
    rw [show decide (RightN k t a n) = false from decide_eq_false (by unfold RightN; omega)]
    go_enter Tryd.func40, Tryd.ntmps40
    go_wp2
    go_ret
    exact ⟨rfl, (Ext.refl _).alloc _⟩
  have d0 : decide ((n : Int) > 16) = false := decide_eq_false (by omega)
  have d0' : decide (16 < (n : Int)) = false := decide_eq_false (by omega)
  by_cases h1 : k = 1
  · by_cases h2 : 0 ≤ t
    · have d2 : decide (t ≥ 0) = true := decide_eq_true (by omega)
      have d2' : decide (0 ≤ t) = true := decide_eq_true (by omega)
      by_cases h3 : t < 6
      · have d3 : decide (t < 6) = true := decide_eq_true h3
        rw [show decide (RightN k t a n) = true from decide_eq_true (by unfold RightN; omega)]
        subst h1
        go_enter Tryd.func40, Tryd.ntmps40
        go_wp2
        go_ret
        exact ⟨rfl, (Ext.refl _).alloc _⟩
      · have d3 : decide (t < 6) = false := decide_eq_false h3
        rw [show decide (RightN k t a n) = false from decide_eq_false (by unfold RightN; omega)]
        subst h1
        go_enter Tryd.func40, Tryd.ntmps40
        go_wp2
        go_ret
        exact ⟨rfl, (Ext.refl _).alloc _⟩
    · have d2 : decide (t ≥ 0) = false := decide_eq_false (by omega)
      have d2' : decide (0 ≤ t) = false := decide_eq_false (by omega)
      rw [show decide (RightN k t a n) = false from decide_eq_false (by unfold RightN; omega)]
      subst h1
      go_enter Tryd.func40, Tryd.ntmps40
      go_wp2
      go_ret
      exact ⟨rfl, (Ext.refl _).alloc _⟩
  have d1 : (k == 1) = false := by simp; omega
  have d1' : decide (k = 1) = false := decide_eq_false h1
  by_cases h4 : k = 2
  · by_cases h5 : t = 0
    · by_cases h6 : a = 0
      · have HD := Lib.hid (show decide (RightN k t a n) = true from decide_eq_true (by unfold RightN; omega))
        rw [HD.out]
        subst h4 h5 h6
        go_enter Tryd.func40, Tryd.ntmps40
        go_wp2
        go_ret
        exact ⟨rfl, (Ext.refl _).alloc _⟩
      · have d6 : ((a : Int) == 0) = false := by simp; omega
        have d6' : decide ((a : Int) = 0) = false := decide_eq_false (by omega)
        have d6'' : decide (a = 0) = false := decide_eq_false h6
        have HD := Lib.hid (show decide (RightN k t a n) = false from decide_eq_false (by unfold RightN; omega))
        rw [HD.out]
        subst h4 h5
        go_enter Tryd.func40, Tryd.ntmps40
        go_wp2
        go_ret
        exact ⟨rfl, (Ext.refl _).alloc _⟩
    · have d5 : (t == 0) = false := by simp; omega
      have d5' : decide (t = 0) = false := decide_eq_false h5
      have HD := Lib.hid (show decide (RightN k t a n) = false from decide_eq_false (by unfold RightN; omega))
      rw [HD.out]
      subst h4
      go_enter Tryd.func40, Tryd.ntmps40
      go_wp2
      go_ret
      exact ⟨rfl, (Ext.refl _).alloc _⟩
  · have d4 : (k == 2) = false := by simp; omega
    have d4' : decide (k = 2) = false := decide_eq_false h4
    rw [show decide (RightN k t a n) = false from decide_eq_false (by unfold RightN; omega)]
    go_enter Tryd.func40, Tryd.ntmps40
    go_wp2
    go_ret
    exact ⟨rfl, (Ext.refl _).alloc _⟩
end Go.Proofs.YtjifionpblpfoaaDoor

/-
  What the document's own Number and Text of layer 8 do. Conditions: no more than 2^20 bytes.
-/
namespace Go.Proofs.YtjifionpblpfoaaDoor
open Go.RowKit
open Pol (co Sm)

/-- Bytes of a call's own. -/
def OwnE (l : List Nat) (w : World) (e : Ending) (w' : World) : Prop := ∃ v, e = .returned v ∧ Mine w' w.heap.size v l ∧ Ext w w'

set_option maxHeartbeats 1600000 in
set_option maxRecDepth 100000 in
theorem ref8_number (n : Nat) (w : World) (hn : n < 18446744073709551616) : Calls Tryd.prog 35 #[.int .u64 (n : Int)] w (OwnE (vn n) w) := by
  unfold OwnE
  have HSM := Lib.hid (vn_sm n)
  have HTEN := Lib.hid (vn_ten hn)
  have hn10 : n < 128 ^ (9 + 1) := by omega
  obtain ⟨V, hV⟩ : ∃ V, vn n = V := ⟨_, rfl⟩
  rw [hV] at HSM HTEN
  rw [hV]
  have HV := Lib.hid hV
  clear hV
  go_enter Tryd.func35, Tryd.ntmps35
  go_wp2
  go_loopg [0, 3] 9 (fun g s0 s3 wx => ∃ (m : Nat) (acc : List Nat) (B : Option Addr) (c : Nat), m < 128 ^ (g + 1) ∧ s0 = .int .u64 (m : Int) ∧ m < 18446744073709551616 ∧ acc ++ vn m = V ∧ s3 = .slice B acc.length c ∧ Mine wx w.heap.size (.slice B acc.length c) acc ∧ Ext w wx)
  case atStart => exact ⟨n, [], none, 0, hn10, rfl, hn, HV.out, rfl, Mine.nil _ _, Ext.refl _⟩
  case round =>
    obtain ⟨m, acc, B, c, hmg, rfl, hm64, hac, rfl, hmi, hx⟩ := hrel
    have HM := Lib.hid hmi
    have HX := Lib.hid hx
    have hlen : acc.length ≤ 10 := by have := HTEN.out; rw [← hac, List.length_append] at this; omega
    obtain ⟨la, hla⟩ : ∃ la, acc.length = la := ⟨_, rfl⟩
    have HLA := Lib.hid hla
    rw [hla] at HM hlen ⊢
    clear hmi hx hla
    by_cases h128 : m < 128
    · have d1 : decide (128 ≤ (m : Int)) = false := decide_eq_false (by omega)
      have e1 : IntKind.u8.wrap (m : Int) = (m : Int) := IntWalk.u8_in _ (by omega)
      have HAV := Lib.hid (show acc ++ [m] = V from by rw [← hac, vn_lt h128])
      have hm256 : m < 256 := by omega
      clear hac hmg
      go_wp2_with (at_builtin; refine wpList_append_rd rfl (.tmp 15) (.tmp 18) rfl w.heap.size _ acc [m] rfl (mine_ext HM.out ((Ext.refl _).alloc _)) (some ⟨wr.heap.size, 0, none⟩) 1 1 rfl rfl (rd_one wr m hm256) (by rw [HLA.out]; simp; omega) (by simp; have := HX.out.size; omega) ?_; intro v' w3 hown' hg' hat'; rw [HAV.out] at hown'; have hx3 := (HX.out.alloc (.cells #[.int .u8 (m : Int)] 5)).more hg' (fun r e => (HM.out.block r e).1); obtain ⟨Bv, cv, ev', hcv, _⟩ := hown'.slice HSM.out; subst ev'; have HO := Lib.hid hown'; have HX3 := Lib.hid hx3; clear hown' hg' hat' hx3)
      go_ret
      exact ⟨_, rfl, HO.out, HX3.out⟩
    · cases gk with
      | zero => omega
      | succ g =>
        have d1 : decide (128 ≤ (m : Int)) = true := decide_eq_true (by omega)
        obtain ⟨q, hq⟩ : ∃ q, m % 128 = q := ⟨_, rfl⟩
        obtain ⟨y, hy⟩ : ∃ y, q + 128 = y := ⟨_, rfl⟩
        obtain ⟨m2, hm2⟩ : ∃ m2, m / 128 = m2 := ⟨_, rfl⟩
        have e1 : (m : Int) % 128 = (q : Int) := by omega
        have e1' : (m : Int).tmod 128 = (q : Int) := by rw [Int.tmod_eq_emod_of_nonneg (by omega)]; exact e1
        have e2 : IntKind.u64.wrap (q : Int) = (q : Int) := by rw [IntKind.wrap_u64]; omega
        have e3 : IntKind.u64.wrap ((q : Int) + 128) = (y : Int) := by rw [IntKind.wrap_u64]; omega
        have e4 : IntKind.u8.wrap (y : Int) = (y : Int) := IntWalk.u8_in _ (by omega)
        have e5 : (m : Int) / 128 = (m2 : Int) := by omega
        have e5' : (m : Int).tdiv 128 = (m2 : Int) := by rw [Int.tdiv_eq_ediv_of_nonneg (by omega)]; exact e5
        have e6 : IntKind.u64.wrap (m2 : Int) = (m2 : Int) := by rw [IntKind.wrap_u64]; omega
        have hy256 : y < 256 := by omega
        have HAV := Lib.hid (show (acc ++ [y]) ++ vn m2 = V from by rw [← hac, vn_ge h128, List.append_assoc, hq, hy, hm2]; rfl)
        have HS9 := Lib.hid (show Sm (acc ++ [y]) from (sm_split (b := vn m2) (by rw [HAV.out]; exact HSM.out)).1)
        have HL9 := Lib.hid (show (acc ++ [y]).length = la + 1 by rw [List.length_append, HLA.out]; rfl)
        have hm2b : m2 < 128 ^ (g + 1) := by rw [← hm2]; rw [Nat.pow_succ] at hmg; omega
        have hm2c : m2 < 18446744073709551616 := by omega
        clear hac hq hy hm2 hmg
        go_wp2_with (at_builtin; refine wpList_append_rd rfl (.tmp 6) (.tmp 11) rfl w.heap.size _ acc [y] rfl (mine_ext HM.out ((Ext.refl _).alloc _)) (some ⟨wr.heap.size, 0, none⟩) 1 1 rfl rfl (rd_one wr y hy256) (by rw [HLA.out]; simp; omega) (by simp; have := HX.out.size; omega) ?_; intro v' w3 hown' hg' hat'; have hx3 := (HX.out.alloc (.cells #[.int .u8 (y : Int)] 5)).more hg' (fun r e => (HM.out.block r e).1); obtain ⟨Bv, cv, ev', hcv, _⟩ := hown'.slice HS9.out; rw [HL9.out] at ev'; subst ev'; have HO := Lib.hid hown'; have HX3 := Lib.hid hx3; clear hown' hg' hat' hx3)
        go_roundg g
        case measure => omega
        case rel => exact ⟨m2, acc ++ [y], Bv, cv, hm2b, rfl, hm2c, HAV.out, by rw [HL9.out], by rw [HL9.out]; exact HO.out, HX3.out⟩

set_option maxHeartbeats 1600000 in
theorem ref8_text (s : List Nat) (A : Option Addr) (ca : Nat) (w : World) (hr : Rd w A s) (hl : s.length ≤ 1048576) : Calls Tryd.prog 36 #[.slice A s.length ca] w (OwnE (vt s) w) := by
  have HN := Lib.hid (ref8_number s.length w (by omega))
  have HR := Lib.hid hr
  have HS := Lib.hid (vt_sm hr.1)
  have HSN := Lib.hid (vn_sm s.length)
  have HTEN := Lib.hid (vn_ten (n := s.length) (by omega))
  have HVT := Lib.hid (show vn s.length ++ s = vt s from rfl)
  unfold OwnE at *
  clear hr
  generalize hn : s.length = n at *
  have HL := Lib.hid hn
  clear hn
  have e1 : IntKind.u64.wrap (n : Int) = (n : Int) := by rw [IntKind.wrap_u64]; omega
  generalize vn n = V at *
  go_enter Tryd.func36, Tryd.ntmps36
  go_wp2_with fail
  refine HN.out.mono ?_
  rintro e w1 ⟨v, rfl, hm, hx⟩
  obtain ⟨B, c, ev, hc, _⟩ := hm.slice HSN.out
  subst ev
  have HM := Lib.hid hm
  have HX := Lib.hid hx
  clear hm hx
  obtain ⟨lv, hlv⟩ : ∃ lv, V.length = lv := ⟨_, rfl⟩
  have HLV := Lib.hid hlv
  rw [hlv] at HM hc HTEN ⊢
  clear hlv
  go_wp2_with (at_builtin; refine wpList_append_rd rfl (.tmp 6) (.tmp 7) rfl w.heap.size _ V s rfl HM.out A n ca rfl HL.out (HR.out.ext HX.out) (by rw [HLV.out, HL.out]; have := HTEN.out; omega) (by have := HX.out.size; omega) ?_; intro v' w3 hown' hg' hat'; rw [HVT.out] at hown'; have hx3 := HX.out.more hg' (fun r e => (HM.out.block r e).1); obtain ⟨Bv, cv, ev', hcv, _⟩ := hown'.slice HS.out; subst ev'; have HO := Lib.hid hown'; have HX3 := Lib.hid hx3; clear hown' hg' hat' hx3)
  go_ret
  exact ⟨_, rfl, HO.out, HX3.out⟩
end Go.Proofs.YtjifionpblpfoaaDoor

/-
  Worlds that differ in some blocks alone. Conditions: none; no function is named here.
-/
namespace Go.Proofs.YtjifionpblpfoaaDoor
open Go.RowKit

/-- What was there is as it was, but for the blocks of X. -/
structure Only (X : Nat → Prop) (w w' : World) : Prop where
  os : w'.os = w.os
  tape : w'.tape = w.tape
  output : w'.output = w.output
  size : w.heap.size ≤ w'.heap.size
  block : ∀ k, k < w.heap.size → ¬ X k → w'.heap[k]? = w.heap[k]?
theorem Only.refl (X : Nat → Prop) (w : World) : Only X w w := ⟨rfl, rfl, rfl, Nat.le_refl _, fun _ _ _ => rfl⟩
theorem Only.trans {X : Nat → Prop} {a b c : World} (h : Only X a b) (k : Only X b c) : Only X a c :=
  ⟨k.os.trans h.os, k.tape.trans h.tape, k.output.trans h.output, Nat.le_trans h.size k.size, fun i hi hx => (k.block i (Nat.lt_of_lt_of_le hi h.size) hx).trans (h.block i hi hx)⟩
theorem Only.of_grown {X : Nat → Prop} {w w' : World} {row : Option Nat} (h : w.grownBy w' row) (hr : ∀ k, row = some k → X k) : Only X w w' :=
  ⟨h.os, h.tape, h.output, h.size, fun k hk hx => h.block k hk (fun e => hx (hr k e.symm))⟩
theorem Only.of_ext {X : Nat → Prop} {w w' : World} (h : Ext w w') : Only X w w' := ⟨h.below.os, h.below.tape, h.below.output, h.below.size, fun k hk _ => h.below.block k hk⟩
theorem Only.drewN {X : Nat → Prop} {a w : World} (h : Only X a w) (n : Nat) : Only X a (w.drewN n) := ⟨h.os, h.tape, h.output, h.size, h.block⟩
theorem Only.mono {X Y : Nat → Prop} {w w' : World} (h : Only X w w') (hxy : ∀ k, k < w.heap.size → X k → Y k) : Only Y w w' := ⟨h.os, h.tape, h.output, h.size, fun k hk hy => h.block k hk (fun hx => hy (hxy k hk hx))⟩
theorem Only.ext {X : Nat → Prop} {a w w' : World} (h : Only X w w') (hx : Ext a w) (hX : ∀ k, X k → a.heap.size ≤ k) : Ext a w' :=
  ⟨hx.below.trans ⟨h.os, h.tape, h.output, h.size, fun k hk => h.block k (Nat.lt_of_lt_of_le hk hx.size) (fun hk' => by have := hX k hk'; omega)⟩⟩
theorem Only.cell {X : Nat → Prop} {w w' : World} (h : Only X w w') {b o : Nat} {v : Value} (hc : w.cell? ⟨b, o, none⟩ = some v) (hx : ¬ X b) : w'.cell? ⟨b, o, none⟩ = some v :=
  (World.cell?_of_block (a := ⟨b, o, none⟩) (h.block b (block_lt_of_cell hc) hx)).trans hc
theorem Only.frozen {X : Nat → Prop} {w w' : World} (h : Only X w w') {b o : Nat} (hb : b < w.heap.size) (hx : ¬ X b) : w'.frozen? ⟨b, o, none⟩ = w.frozen? ⟨b, o, none⟩ :=
  World.frozen?_of_block (a := ⟨b, o, none⟩) (h.block b hb hx)
end Go.Proofs.YtjifionpblpfoaaDoor

/-
  Cells and blocks stay where worlds only grow. Conditions: none; no function is named here.
-/
namespace Go.Proofs.YtjifionpblpfoaaDoor
open Go.RowKit

theorem Ext.at {w w' : World} (h : Ext w w') {b o : Nat} {v : Value} (hc : w.cell? ⟨b, o, none⟩ = some v) : w'.cell? ⟨b, o, none⟩ = some v :=
  (h.below.cell (p := ⟨b, o, none⟩) (block_lt_of_cell hc)).trans hc
theorem Ext.row {w w' : World} (h : Ext w w') {b : Nat} {x : Obj} (hc : w.heap[b]? = some x) : w'.heap[b]? = some x :=
  (h.below.block b (Array.getElem?_eq_some_iff.1 hc).1).trans hc
theorem row_lt {w : World} {b : Nat} {x : Obj} (hc : w.heap[b]? = some x) : b < w.heap.size := (Array.getElem?_eq_some_iff.1 hc).1
theorem Only.row {X : Nat → Prop} {w w' : World} (h : Only X w w') {b : Nat} {x : Obj} (hc : w.heap[b]? = some x) (hx : ¬ X b) : w'.heap[b]? = some x := (h.block b (row_lt hc) hx).trans hc
theorem grown_block (w : World) (g : Nat) (V : Array Value) : w.grownBy (w.setRow g V) (some g) :=
  ⟨rfl, rfl, rfl, by simp [World.setRow], fun k _ hne => setRow_other w g k V (fun e => hne (by rw [e]))⟩
end Go.Proofs.YtjifionpblpfoaaDoor
