/-
  Part 8 of the texts that the seat's proofs stand on; each part of it begins with its own sentence and conditions. Conditions: those that each theorem names.
-/
import Derived.Test.YthbfodmpoheahaaDoorGrowsPack7
import Derived.Deep.DeepCutAuto

/-
  How peaks grow, in the form that the landed code reckons it: what is put together is as many peaks as the number has ones at its end. Conditions: none. No function is named here.
-/
namespace Go.Proofs.YthbfodmpoheahaaDoor
open Pol (co Sm)

/-- How many ones a number has at its end. -/
def tro : Nat → Nat → Nat
  | 0, _ => 0
  | f + 1, n => if n % 2 = 1 then 1 + tro f (n / 2) else 0
theorem ctz_tro : ∀ (f n : Nat), n < 2 ^ f → Lib.ctzFrom f (2 ^ f - 1 - n) = tro f n
  | 0, _, _ => rfl
  | f + 1, n, h => by
    have h2 : 2 ^ (f + 1) = 2 * 2 ^ f := by rw [Nat.pow_succ, Nat.mul_comm]
    have h3 : n / 2 < 2 ^ f := by omega
    unfold Lib.ctzFrom tro
    by_cases hn : n % 2 = 1
    · rw [if_neg (by omega), if_pos hn, show (2 ^ (f + 1) - 1 - n) / 2 = 2 ^ f - 1 - n / 2 from by omega, ctz_tro f _ h3]
    · rw [if_pos (by omega), if_neg hn]
theorem ctz_is (n : Nat) (h : n < 18446744073709551615) : Lib.ctz 64 (18446744073709551615 - n) = tro 64 n := by
  unfold Lib.ctz
  rw [if_neg (by omega)]
  have h2 := ctz_tro 64 n (by rw [show (2 : Nat) ^ 64 = 18446744073709551616 from by decide]; omega)
  rw [show (2 : Nat) ^ 64 - 1 - n = 18446744073709551615 - n from by rw [show (2 : Nat) ^ 64 = 18446744073709551616 from by decide]] at h2
  exact h2
theorem tro_pop : ∀ (f n : Nat), n < 2 ^ f → tro f n ≤ pop n
  | 0, _, _ => Nat.zero_le _
  | f + 1, n, h => by
    have h2 : n / 2 < 2 ^ f := by rw [Nat.pow_succ] at h; omega
    unfold tro
    by_cases hn : n % 2 = 1
    · rw [if_pos hn, pop_more (by omega)]
      have := tro_pop f (n / 2) h2
      omega
    · rw [if_neg hn]
      exact Nat.zero_le _
section
variable (D : List Nat → List Nat)
/-- The root of the trees with these peaks and of one behind them. -/
def ovd (ps : List (List Nat)) (d : List Nat) : List Nat := ps.foldr (fun p r => nd D p r) d
theorem ovd_snoc (ps : List (List Nat)) (z d : List Nat) : ovd D (ps ++ [z]) d = ovd D ps (nd D z d) := by unfold ovd; rw [List.foldr_append]; rfl
theorem mgrow_is : ∀ (f : Nat) (ps : List (List Nat)) (n : Nat) (d : List Nat), n < 2 ^ f → ps.length = pop n →
    mgrow D ps n d = ps.take (ps.length - tro f n) ++ [ovd D (ps.drop (ps.length - tro f n)) d]
  | 0, ps, n, d, h, hp => by
    have h0 : n = 0 := by simpa using h
    subst h0
    rw [mgrow_even D (by rfl)]
    simp [tro, ovd]
  | f + 1, ps, n, d, h, hp => by
    have h2 : n / 2 < 2 ^ f := by rw [Nat.pow_succ] at h; omega
    unfold tro
    by_cases hn : n % 2 = 1
    · rw [if_pos hn]
      rw [pop_more (n := n) (by omega), hn] at hp
      rcases List.eq_nil_or_concat ps with rfl | ⟨qs, z, rfl⟩
      · simp at hp; omega
      · rw [List.concat_eq_append] at hp ⊢
        rw [List.length_append, List.length_singleton] at hp
        have hq : qs.length = pop (n / 2) := by omega
        have ht := tro_pop f (n / 2) h2
        have ih := mgrow_is f qs (n / 2) (nd D z d) h2 hq
        rw [mgrow_odd D hn, ih, List.length_append, List.length_singleton, show qs.length + 1 - (1 + tro f (n / 2)) = qs.length - tro f (n / 2) from by omega, List.take_append_of_le_length (by omega), List.drop_append_of_le_length (by omega), ovd_snoc]
    · rw [if_neg hn, mgrow_even D (by omega), Nat.sub_zero, List.take_length, List.drop_length]
      rfl
theorem mfold_ovd : ∀ (xs : List (List Nat)) (y : List Nat), mfold D (xs ++ [y]) = ovd D xs y
  | [], y => rfl
  | p :: xs, y => by
    have ih := mfold_ovd xs y
    have e : ovd D (p :: xs) y = nd D p (ovd D xs y) := rfl
    rw [e, ← ih, List.cons_append]
    cases hxs : xs ++ [y] with
    | nil => simp at hxs
    | cons q r => rfl
end
end Go.Proofs.YthbfodmpoheahaaDoor

/-
  A plan's step where three operations may come up next. Conditions: none; no function is named here.
-/
namespace Go.Proofs.YthbfodmpoheahaaDoor
open Go
section
variable {P : Program} {Q : Exit → Act → World → Prop} {C : World → Prop}
theorem plan_three {F : Nat → Bool} {l : List Oper} {i j k : Nat} {o u v : Oper} {p q r : Plan} {a : Act} {w : World} (ho : l[i]? = some o) (hu : l[j]? = some u) (hv : l[k]? = some v)
    (h1 : ∀ K : Act → World → Prop, (∀ a' w', (F i = true → C w') ∧ wpPlan P l C F Q p a' w' → K a' w') → wpList P l.toArray (Exit.then K Q) [o] a w)
    (h2 : ∀ K : Act → World → Prop, (∀ a' w', (F j = true → C w') ∧ wpPlan P l C F Q q a' w' → K a' w') → wpList P l.toArray (Exit.then K Q) [u] a w)
    (h3 : ∀ K : Act → World → Prop, (∀ a' w', (F k = true → C w') ∧ wpPlan P l C F Q r a' w' → K a' w') → wpList P l.toArray (Exit.then K Q) [v] a w) : wpPlan P l C F Q (.three i p j q k r) a w := ⟨stepP_of ho h1, stepP_of hu h2, stepP_of hv h3⟩
end
end Go.Proofs.YthbfodmpoheahaaDoor

/-
  What Grow of layer 11 does. Conditions: the tables of layer 10, and of math/bits, lie where they were laid; at most 64 peaks, a text of 2^15 bytes.
-/
namespace Go.Proofs.YthbfodmpoheahaaDoor
open Go.RowKit
open Pol (co Sm)

theorem results_tmp_cell {fn : Func} {p u : Tmp} {ty : TypeId} (h : fn.results = #[.tmp u, .cell p ty]) (tmps : Array Value) (P : Program) (w : World) :
    (results fn tmps).run P w = ((asAddr (tmps.getD p undef)).run P w).andThen fun a w₁ => ((loadVar ty a).run P w₁).andThen fun v w₂ => .ok (.tuple #[tmps.getD u undef, v]) w₂ := by
  simp only [results, h]
  simp [Sem.run_bind, Result.andThen]
theorem results_tr {fn : Func} {p u : Tmp} (h : fn.results = #[.tmp u, .cell p 30]) (tmps : Array Value) (w : World) (g : Nat) (t : TypeId) (cs : Array Value) (fr : Nat × Nat)
    (hp : tmps.getD p undef = .pointer (some ⟨g, 0, none⟩)) (hg : w.heap[g]? = some (.cells cs t fr)) (hi : (Tryd.prog.info? 30).map (·.size) = some cs.size) :
    (results fn tmps).run Tryd.prog w = .ok (.tuple #[tmps.getD u undef, .agg cs]) w := by
  have hl := run_loadVar_row w g t 30 cs fr _ hg Tryd.underlying30 rfl hi
  rw [results_tmp_cell h, hp]
  simp [asAddr, Result.andThen, hl]
/-- s[l:] of digests. -/
theorem run_rest_dig (A : Option Addr) (len cap l : Nat) (hl : l ≤ len) (hc : len ≤ cap) : ∃ X : Option Addr, (∀ W, (Instr.slice 25 (.slice A len cap) (some (.int .i64 (l : Int))) none none).run Tryd.prog W = .ok (.slice X (len - l) (cap - l)) W) ∧
    (∀ w ds, DRd w A ds → ds.length = len → DRd w X (ds.drop l)) := by
  obtain ⟨i0, hi, hz0, hz1, hz2⟩ := info_parts dig_info
  have he : Tryd.prog.elem 25 = 30 := by kernel_rfl
  refine ⟨if cap = l then A else A.map (·.add (l * 32)), fun W => ?_, fun w ds h hL => ⟨fun d hd => h.1 d (List.mem_of_mem_drop hd), ?_⟩⟩
  · rw [run_slice_l W 25 _ len cap (by rw [he]; exact Tryd.underlying25) .i64 (l : Int) (by omega) (by omega), he]
    cases A <;> simp [sizeOf, typeInfo, hi, hz1, Result.andThen, sliced]
  · have hf := flat_len ds h.1
    have hd : (ds.drop l).flatten = ds.flatten.drop (l * 32) := by
      have h1 : ds.flatten = (ds.take l).flatten ++ (ds.drop l).flatten := by rw [← List.flatten_append, List.take_append_drop]
      have h2 : (ds.take l).flatten.length = l * 32 := by rw [flat_len _ (fun d hd => h.1 d (List.mem_of_mem_take hd)), List.length_take]; congr 1; omega
      rw [h1, ← h2, List.drop_left]
    rw [hd]
    refine ⟨fun i => ?_, fun i hi' => ?_⟩
    · have := h.2.1 (l * 32 + i)
      unfold co at this ⊢
      rwa [List.getElem?_drop]
    · rw [List.length_drop] at hi'
      obtain ⟨b', o', e, hc'⟩ := h.2.2 (l * 32 + i) (by omega)
      subst e
      refine ⟨b', o' + l * 32, by rw [if_neg (by omega)]; simp [addr_add], ?_⟩
      rw [Nat.add_assoc, hc']
      unfold co
      rw [List.getElem?_drop]
theorem ov_ovd (ps : List (List Nat)) (d : List Nat) : ov ps d = ovd sha ps d := rfl
theorem ov_ok (ps : List (List Nat)) (d : List Nat) (hd : d.length = 32) (hs : Sm d) : (ov ps d).length = 32 ∧ Sm (ov ps d) := by
  cases ps with
  | nil => exact ⟨hd, hs⟩
  | cons p r => exact ⟨sha_len _, sha_sm _⟩
theorem not_u64 (n : Nat) (h : n < 18446744073709551616) : bits .xor .u64 IntKind.u64.max (n : Int) = ((18446744073709551615 - n : Nat) : Int) := by
  have h1 := u64_xor_nat 18446744073709551615 n (by decide) h
  rw [show (18446744073709551615 : Nat) ^^^ n = 18446744073709551615 - n from by
    apply Nat.eq_of_testBit_eq
    intro i
    have h2 : n < 2 ^ 64 := by rw [show (2 : Nat) ^ 64 = 18446744073709551616 from by decide]; exact h
    have h3 := Nat.testBit_two_pow_sub_succ h2 i
    rw [show (2 : Nat) ^ 64 - (n + 1) = 18446744073709551615 - n from by rw [show (2 : Nat) ^ 64 = 18446744073709551616 from by decide]; omega] at h3
    rw [h3, Nat.testBit_xor, show (18446744073709551615 : Nat) = 2 ^ 64 - 1 from by decide, Nat.testBit_two_pow_sub_one]
    by_cases hi : i < 64
    · simp [hi]
    · have : n.testBit i = false := Nat.testBit_lt_two_pow (Nat.lt_of_lt_of_le h2 (Nat.pow_le_pow_right (by decide) (by omega)))
      simp [hi, this]] at h1
  exact h1
theorem dmine_keep {w w' : World} {base g : Nat} {v : Value} {ds : List (List Nat)} (h : DMine w base v ds) (hg : w.grownBy w' (some g)) (hlt : g < base) : DMine w' base v ds :=
  ⟨h.1, World.ownsRow.kept h.2 hg (by
    cases hb : v.ownBlock with
    | none => exact .inl rfl
    | some k => exact .inr (fun e => by injection e with e; have := (h.block k hb).1; omega))⟩
/-- What Grow does with as many peaks as there must be. -/
def GrowS (ps : List (List Nat)) (many : Nat) (t : List Nat) (w : World) (e : Ending) (w' : World) : Prop :=
  ∃ v, e = .returned (.tuple #[v, dgv (mfold sha (mgrow sha ps many (lf sha t)))]) ∧ DMine w' w.heap.size v (mgrow sha ps many (lf sha t)) ∧ Ext w w'
set_option maxHeartbeats 3200000 in
set_option maxRecDepth 100000 in
theorem mk_grow (S : ShaOH) (ps : List (List Nat)) (many : Nat) (t : List Nat) (A AT : Option Addr) (c ct : Nat) (w : World) (hgl : GL w) (hgb : GB w) (hm : many ≤ 1048576) (hpm : ps.length = pop many) (hp : DRd w A ps) (hc : ps.length ≤ c) (hpl : ps.length ≤ 64) (ht : Rd w AT t) (htc : t.length ≤ ct) (htl : t.length ≤ 32768) :
    Calls Tryd.prog 20 #[.slice A ps.length c, .int .i64 (many : Int), .slice AT t.length ct] w (GrowS ps many t w) := by
  have h64 : many < 2 ^ 64 := by rw [show (2 : Nat) ^ 64 = 18446744073709551616 from by decide]; omega
  have htp := tro_pop 64 many h64
  have hgi := mgrow_is sha 64 ps many (lf sha t) h64 hpm
  have HON := Lib.hid (fun W => mk_ones many W (by omega))
  have HTZ := Lib.hid (fun W (h : Ext w W) => mk_trail (18446744073709551615 - many) W (hgb.ext h) (by omega) (by omega))
  rw [ctz_is many (by omega)] at HTZ
  have hx1 := not_u64 many (by omega)
  obtain ⟨xm, hxm⟩ : ∃ x, 18446744073709551615 - many = x := ⟨_, rfl⟩
  rw [hxm] at HTZ hx1
  obtain ⟨tr, htr⟩ : ∃ x, tro 64 many = x := ⟨_, rfl⟩
  rw [htr] at htp hgi HTZ
  rw [← hpm] at HON htp
  have HLF := Lib.hid (fun W (h : Ext w W) => mk_leaf S t AT ct W (hgl.ext h) (ht.ext h) htc (by omega))
  have HLD := Lib.hid (show (lf sha t).length = 32 ∧ Sm (lf sha t) from ⟨sha_len _, sha_sm _⟩)
  obtain ⟨d, hd⟩ : ∃ d, lf sha t = d := ⟨_, rfl⟩
  unfold GrowS
  rw [hd] at hgi HLF HLD ⊢
  obtain ⟨kp, hkp⟩ : ∃ k, ps.length - tr = k := ⟨_, rfl⟩
  rw [hkp] at hgi
  have hkl : kp ≤ ps.length := by omega
  obtain ⟨X, hX, hXR⟩ := run_rest_dig A ps.length c kp hkl hc
  have hdl : (ps.drop kp).length = ps.length - kp := by rw [List.length_drop]
  have hkt : (ps.take kp).length = kp := by rw [List.length_take]; omega
  have HOL := Lib.hid (ov_ok (ps.drop kp) d HLD.out.1 HLD.out.2)
  have HO1 := Lib.hid (fun W (h : Ext w W) => mk_over S (ps.drop kp) d X (c - kp) W (hgl.ext h) (hXR W ps (hp.ext h) rfl) (by omega) HLD.out.1 HLD.out.2)
  have HO2 := Lib.hid (fun W (h : Ext w W) => mk_over S (ps.take kp) (ov (ps.drop kp) d) A c W (hgl.ext h) ((hp.take kp).ext h) (by omega) HOL.out.1 HOL.out.2)
  have HCL := Lib.hid (fun W (h : Ext w W) => mk_clone (ps.take kp) A kp c W ((hp.take kp).ext h) hkt (by omega))
  rw [← ov_ovd] at hgi
  rw [hgi, mfold_ovd, ← ov_ovd]
  have HRL := Lib.hid (ov_ok (ps.take kp) (ov (ps.drop kp) d) HOL.out.1 HOL.out.2)
  rw [hdl] at HO1
  rw [hkt] at HO2
  unfold DOwn at HCL
  have HL1 := Lib.hid (show (ps.take kp).length + [ov (ps.drop kp) d].length ≤ 1048576 from by rw [hkt]; simp; omega)
  obtain ⟨la, hla⟩ : ∃ x, ov (ps.drop kp) d = x := ⟨_, rfl⟩
  rw [hla] at HOL HO1 HO2 HRL HL1 ⊢
  obtain ⟨ro', hro⟩ : ∃ x, ov (ps.take kp) la = x := ⟨_, rfl⟩
  rw [hro] at HO2 HRL ⊢
  have HONE := Lib.hid (fun W => one_dmine W la HOL.out.1 HOL.out.2)
  have HODR := Lib.hid (fun W => one_drd W la HOL.out.1 HOL.out.2)
  have HLB := Lib.hid (fun (W : World) (g : Nat) (h : W.heap[g]? = some (.cells (bt 32 (co la)) 30 (0, 0))) => load_blk W g la 30 (0, 0) h)
  obtain ⟨n, hn⟩ : ∃ n, ps.length = n := ⟨_, rfl⟩
  rw [hn] at HON HO1 hX hkl ⊢
  obtain ⟨m, hm'⟩ : ∃ n, t.length = n := ⟨_, rfl⟩
  rw [hm'] at HLF ⊢
  obtain ⟨r, hrr⟩ : ∃ r, n - kp = r := ⟨_, rfl⟩
  obtain ⟨cr, hcr⟩ : ∃ r, c - kp = r := ⟨_, rfl⟩
  rw [hrr, hcr] at hX HO1
  have HKC := Lib.hid (show kp ≤ c from by omega)
  have ht2 := fun W => run_to_dig A n c kp HKC.out W
  have e0 : (n : Int) - (tr : Int) = (kp : Int) := by omega
  have e1 : wrap64 ((n : Int) - (tr : Int)) = (kp : Int) := by rw [e0]; unfold wrap64; omega
  have e2 : IntKind.i64.wrap ((n : Int) - (tr : Int)) = (kp : Int) := by rw [e0, IntKind.wrap_i64]; omega
  have e3 : IntKind.i64.wrap (kp : Int) = (kp : Int) := by rw [IntKind.wrap_i64]; omega
  have e4 : wrap64 (kp : Int) = (kp : Int) := by unfold wrap64; omega
  have e5 : IntKind.u64.wrap (many : Int) = (many : Int) := by rw [IntKind.wrap_u64]; omega
  have d1 : decide ((many : Int) < 0) = false := decide_eq_false (by omega)
  have m1 : ¬ (many : Int) < 0 := by omega
  have d2 : decide ((many : Int) > 1048576) = false := decide_eq_false (by omega)
  have m2 : ¬ 1048576 < (many : Int) := by omega
  have q0 : ((n : Int) != (n : Int)) = false := by simp
  have hz := zero_digest.1
  have HZ32 := Lib.hid (fun (_ : Unit) => show (bt 32 fun _ => 0).size = 32 from bt_size _ _)
  obtain ⟨Z, hZ⟩ : ∃ Z, (bt 32 fun _ => 0) = Z := ⟨_, rfl⟩
  rw [hZ] at hz HZ32
  have HVA := Lib.hid (bt_dgc la)
  have HVR := Lib.hid (bt_dgc ro')
  unfold dgv at HLF HO1 HO2 HLB ⊢
  obtain ⟨VD, hVD⟩ : ∃ V, bt 32 (co d) = V := ⟨_, rfl⟩
  rw [hVD] at HLF HO1
  obtain ⟨VA, hVA⟩ : ∃ V, bt 32 (co la) = V := ⟨_, rfl⟩
  rw [hVA] at HO1 HO2 HVA HONE HODR HLB
  obtain ⟨VR, hVR⟩ : ∃ V, bt 32 (co ro') = V := ⟨_, rfl⟩
  rw [hVR] at HO2 HVR ⊢
  have HIA := Lib.hid HVA.out.info
  have HOA := Lib.hid HVA.out.one
  have HZA := Lib.hid (show Z.size = VA.size from by rw [HVA.out.1]; exact HZ32.out ())
  have HSA := Lib.hid (show VA.size = 32 from HVA.out.1)
  have HIR := Lib.hid HVR.out.info
  have HOR := Lib.hid HVR.out.one
  have HZR := Lib.hid (show Z.size = VR.size from by rw [HVR.out.1]; exact HZ32.out ())
  obtain ⟨g0, hg0⟩ : ∃ g, w.heap.size = g := ⟨_, rfl⟩
  have HW0 := Lib.hid hg0
  have hx0 := (Ext.refl w).alloc (.cells Z 30)
  have hr0 : (w.alloc (.cells Z 30)).heap[g0]? = some (.cells Z 30 (0, 0)) := by rw [← hg0]; exact heap_alloc_new w _
  have hs1 : (w.alloc (.cells Z 30)).heap.size = g0 + 1 := by rw [← hg0]; simp
  obtain ⟨w1, hw1⟩ : ∃ q, w.alloc (.cells Z 30) = q := ⟨_, rfl⟩
  rw [hw1] at hx0 hr0 hs1
  have HW1 := Lib.hid hw1
  have HX1 := Lib.hid hx0
  have HR0 := Lib.hid hr0
  have HS1 := Lib.hid hs1
  clear hx0 hr0 hs1 hw1 hZ hVD hVA hVR hn hm' hrr hcr hla hro hd hkp htr hxm hgi htp hpm hp hc hpl ht htc htl hgl hgb hXR hdl hkt hkl hm h64 e0
  go_enter Tryd.func20, Tryd.ntmps20
  go_wp2_with (rw [HW1.out])
  refine (HON.out _).mono ?_
  rintro e wa ⟨rfl, rfl⟩
  go_wp2_with fail
  refine (HTZ.out _ HX1.out).mono ?_
  rintro e wa ⟨rfl, rfl⟩
  go_upto_region 4 with (fail)
  go_cut [9] (fun s9 wx => ∃ g9, s9 = .pointer (some ⟨g9, 0, none⟩) ∧ wx.heap[g9]? = some (.cells VA 30 (0, 0)) ∧ wx.heap[g0]? = some (.cells Z 30 (0, 0)) ∧ Ext w1 wx)
  case first =>
    obtain ⟨u, hu⟩ : ∃ u, w1.drew = u := ⟨_, rfl⟩
    have HXU := Lib.hid (show Ext w1 u from by rw [← hu]; exact (Ext.refl w1).drew)
    refine wp_region_plan (AfterH w1) [0, 1, 2, 3, 4, 5, 6] (.yes 0 (.yes 1 (.yes 2 (.yes 3 (.two 4 (.two 5 (.one 6 (.one 7 .done)) 6 (.one 5 (.one 7 .done))) 6 (.one 4 (.one 5 (.one 7 .done)))))))) (by kernel_rfl) (fun c a a' w e h => ⟨e ▸ h.1, h.2⟩) (by kernel_rfl) (by rw [hu]; exact HXU.out) ?_
    rw [hu]
    clear hu
    refine plan_yes rfl (fun K hK => ?_); go_simp; refine ⟨_, fun _ _ => rfl, hK _ ?_⟩; clear hK K
    refine plan_yes rfl (fun K hK => ?_); go_simp; refine ⟨_, fun _ _ => rfl, hK _ ?_⟩; clear hK K
    refine plan_yes rfl (fun K hK => ?_); go_simp; refine ⟨_, fun _ _ => rfl, hK _ ?_⟩; clear hK K
    refine plan_yes rfl (fun K hK => ?_); go_simp; refine ⟨_, fun _ _ => rfl, hK _ ?_⟩; clear hK K
    refine plan_two rfl rfl (fun K hK => ?_) (fun K hK => ?_)
    · skip
      go_wp2_with fail
      refine (HLF.out _ (HX1.out.trans HXU.out)).mono ?_
      rintro e v1 ⟨rfl, hx⟩
      have HXv1 := Lib.hid (show Ext w1 v1 from Ext.trans HXU.out hx)
      clear hx
      go_wp2
      refine ⟨by first | exact HXv1.out | exact fun _ => HXv1.out, ?_⟩
      refine plan_two rfl rfl (fun K hK => ?_) (fun K hK => ?_)
      · skip
        go_wp2_with fail
        refine (HO1.out _ (HX1.out.trans HXv1.out)).mono ?_
        rintro e v2 ⟨rfl, hx⟩
        have HXv2 := Lib.hid (show Ext w1 v2 from Ext.trans HXv1.out hx)
        clear hx
        go_wp2
        refine ⟨by first | exact HXv2.out | exact fun _ => HXv2.out, ?_⟩
        refine plan_one rfl (fun K hK => ?_)
        obtain ⟨g9, hg9⟩ : ∃ g, (v2).heap.size = g := ⟨_, rfl⟩
        have HN9 := Lib.hid (show ((v2).alloc (.cells Z 30)).heap[g9]? = some (.cells Z 30 (0, 0)) from by rw [← hg9]; exact heap_alloc_new _ _)
        have HS9 := Lib.hid (show w1.heap.size ≤ g9 from by rw [← hg9]; exact Ext.size HXv2.out)
        have HNE := Lib.hid (show g9 ≠ g0 from by have := HS9.out; have := HS1.out; omega)
        have HXv3 := Lib.hid (show Ext w1 ((v2).alloc (.cells Z 30)) from Ext.alloc HXv2.out _)
        go_wp2
        refine ⟨by first | exact HXv3.out | exact fun _ => HXv3.out, ?_⟩
        generalize (v2).alloc (.cells Z 30) = v3 at HXv3 HN9 ⊢
        clear hg9
        have HX8 := Lib.hid (Ext.setRow HXv3.out HS9.out VA)
        have HG8 := Lib.hid (setRow_heap _ g9 _ VA _ _ HN9.out)
        have HF8 := Lib.hid (setRow_far (V := VA) HNE.out (WBlk.ext' HR0.out HXv3.out))
        refine plan_one rfl (fun K hK => ?_)
        go_wp2_with (with_reducible refine wpList_store_all rfl 30 (.tmp 9) (.tmp 38) rfl g9 Z VA rfl rfl HN9.out HIA.out HZA.out HOA.out ?_)
        refine ⟨fun h => absurd h (by decide), ?_⟩
        unfold wpPlan
        go_wp2_with fail
        go_meet
        exact ⟨g9, rfl, HG8.out, HF8.out, HX8.out⟩
      · skip
        obtain ⟨g9, hg9⟩ : ∃ g, (v1).heap.size = g := ⟨_, rfl⟩
        have HN9 := Lib.hid (show ((v1).alloc (.cells Z 30)).heap[g9]? = some (.cells Z 30 (0, 0)) from by rw [← hg9]; exact heap_alloc_new _ _)
        have HS9 := Lib.hid (show w1.heap.size ≤ g9 from by rw [← hg9]; exact Ext.size HXv1.out)
        have HNE := Lib.hid (show g9 ≠ g0 from by have := HS9.out; have := HS1.out; omega)
        have HXv4 := Lib.hid (show Ext w1 ((v1).alloc (.cells Z 30)) from Ext.alloc HXv1.out _)
        go_wp2
        refine ⟨by first | exact HXv4.out | exact fun _ => HXv4.out, ?_⟩
        generalize (v1).alloc (.cells Z 30) = v4 at HXv4 HN9 ⊢
        clear hg9
        refine plan_one rfl (fun K hK => ?_)
        go_wp2_with fail
        refine (HO1.out _ (HX1.out.trans HXv4.out)).mono ?_
        rintro e v5 ⟨rfl, hx⟩
        have HXv5 := Lib.hid (show Ext w1 v5 from Ext.trans HXv4.out hx)
        have H9v5 := Lib.hid (WBlk.ext' HN9.out hx)
        clear hx
        go_wp2
        refine ⟨by first | exact HXv5.out | exact fun _ => HXv5.out, ?_⟩
        have HX8 := Lib.hid (Ext.setRow HXv5.out HS9.out VA)
        have HG8 := Lib.hid (setRow_heap _ g9 _ VA _ _ H9v5.out)
        have HF8 := Lib.hid (setRow_far (V := VA) HNE.out (WBlk.ext' HR0.out HXv5.out))
        refine plan_one rfl (fun K hK => ?_)
        go_wp2_with (with_reducible refine wpList_store_all rfl 30 (.tmp 9) (.tmp 38) rfl g9 Z VA rfl rfl H9v5.out HIA.out HZA.out HOA.out ?_)
        refine ⟨fun h => absurd h (by decide), ?_⟩
        unfold wpPlan
        go_wp2_with fail
        go_meet
        exact ⟨g9, rfl, HG8.out, HF8.out, HX8.out⟩
    · skip
      obtain ⟨g9, hg9⟩ : ∃ g, (u).heap.size = g := ⟨_, rfl⟩
      have HN9 := Lib.hid (show ((u).alloc (.cells Z 30)).heap[g9]? = some (.cells Z 30 (0, 0)) from by rw [← hg9]; exact heap_alloc_new _ _)
      have HS9 := Lib.hid (show w1.heap.size ≤ g9 from by rw [← hg9]; exact Ext.size HXU.out)
      have HNE := Lib.hid (show g9 ≠ g0 from by have := HS9.out; have := HS1.out; omega)
      have HXv6 := Lib.hid (show Ext w1 ((u).alloc (.cells Z 30)) from Ext.alloc HXU.out _)
      go_wp2
      refine ⟨by first | exact HXv6.out | exact fun _ => HXv6.out, ?_⟩
      generalize (u).alloc (.cells Z 30) = v6 at HXv6 HN9 ⊢
      clear hg9
      refine plan_one rfl (fun K hK => ?_)
      go_wp2_with fail
      refine (HLF.out _ (HX1.out.trans HXv6.out)).mono ?_
      rintro e v7 ⟨rfl, hx⟩
      have HXv7 := Lib.hid (show Ext w1 v7 from Ext.trans HXv6.out hx)
      have H9v7 := Lib.hid (WBlk.ext' HN9.out hx)
      clear hx
      go_wp2
      refine ⟨by first | exact HXv7.out | exact fun _ => HXv7.out, ?_⟩
      refine plan_one rfl (fun K hK => ?_)
      go_wp2_with fail
      refine (HO1.out _ (HX1.out.trans HXv7.out)).mono ?_
      rintro e v8 ⟨rfl, hx⟩
      have HXv8 := Lib.hid (show Ext w1 v8 from Ext.trans HXv7.out hx)
      have H9v8 := Lib.hid (WBlk.ext' H9v7.out hx)
      clear hx
      go_wp2
      refine ⟨by first | exact HXv8.out | exact fun _ => HXv8.out, ?_⟩
      have HX8 := Lib.hid (Ext.setRow HXv8.out HS9.out VA)
      have HG8 := Lib.hid (setRow_heap _ g9 _ VA _ _ H9v8.out)
      have HF8 := Lib.hid (setRow_far (V := VA) HNE.out (WBlk.ext' HR0.out HXv8.out))
      refine plan_one rfl (fun K hK => ?_)
      go_wp2_with (with_reducible refine wpList_store_all rfl 30 (.tmp 9) (.tmp 38) rfl g9 Z VA rfl rfl H9v8.out HIA.out HZA.out HOA.out ?_)
      refine ⟨fun h => absurd h (by decide), ?_⟩
      unfold wpPlan
      go_wp2_with fail
      go_meet
      exact ⟨g9, rfl, HG8.out, HF8.out, HX8.out⟩
  case rest =>
    obtain ⟨g9, rfl, h9, h0, hx⟩ := hcut
    obtain ⟨u, hu⟩ : ∃ u, wc.drew = u := ⟨_, rfl⟩
    have HXU := Lib.hid (show Ext w1 u from by rw [← hu]; exact hx.drew)
    have HH9 := Lib.hid (show u.heap[g9]? = some (.cells VA 30 (0, 0)) from by rw [← hu]; exact WBlk.ext' h9 (Ext.refl wc).drew)
    have HH0 := Lib.hid (show u.heap[g0]? = some (.cells Z 30 (0, 0)) from by rw [← hu]; exact WBlk.ext' h0 (Ext.refl wc).drew)
    have LD := Lib.hid (fun (W : World) (h : AfterH u W) => show (Instr.loadAt 30 (.pointer (some ⟨g9, 0, none⟩))).run Tryd.prog W = .ok (.agg VA) W from HLB.out W g9 (WBlk.ext' HH9.out h))
    clear h9 h0 hx
    go_wp2
    refine wp_region_plan (AfterH u) [0, 1, 2, 3, 4, 5] (.yes 0 (.yes 1 (.yes 2 (.yes 4 (.two 3 (.one 5 (.one 6 (.one 7 .done))) 5 (.one 3 (.one 6 (.one 7 .done)))))))) (by kernel_rfl) (fun c a a' w e h => ⟨e ▸ h.1, h.2⟩) (by kernel_rfl) (by rw [hu]; exact Ext.refl u) ?_
    rw [hu]
    clear hu
    refine plan_yes rfl (fun K hK => ?_); go_simp; refine ⟨_, fun _ _ => rfl, hK _ ?_⟩; clear hK K
    refine plan_yes rfl (fun K hK => ?_); go_simp; refine ⟨_, fun _ _ => rfl, hK _ ?_⟩; clear hK K
    refine plan_yes rfl (fun K hK => ?_); go_simp; refine ⟨_, fun _ _ => rfl, hK _ ?_⟩; clear hK K
    refine plan_load rfl 30 (.tmp 9) rfl (.agg VA) (by rfl) (fun W hW => LD.out W hW) ?_
    refine plan_two rfl rfl (fun K hK => ?_) (fun K hK => ?_)
    · skip
      go_wp2_with fail
      refine (HCL.out _ (HX1.out.trans HXU.out)).mono ?_
      rintro e w3 ⟨v3, rfl, hm3, hx3⟩
      have HX3 := Lib.hid (show Ext u w3 from hx3)
      have HM3 := Lib.hid hm3
      clear hm3 hx3
      go_wp2
      refine ⟨by first | exact HX3.out | exact fun _ => HX3.out, ?_⟩
      refine plan_one rfl (fun K hK => ?_)
      have HB := Lib.hid (HODR.out w3)
      have HX4 := Lib.hid (show Ext u (World.alloc w3 (.cells VA 30)) from Ext.alloc HX3.out _)
      have HM4 := Lib.hid (HM3.out.ext ((Ext.refl _).alloc (.cells VA 30)))
      go_wp2_with (with_reducible refine wpList_build_dig rfl (.tmp 43) rfl VA rfl HSA.out ?_)
      refine ⟨by first | exact HX4.out | exact fun _ => HX4.out, ?_⟩
      obtain ⟨gl, hgl⟩ : ∃ g, w3.heap.size = g := ⟨_, rfl⟩
      rw [hgl] at HB ⊢
      generalize World.alloc w3 (.cells VA 30) = w4 at HB HX4 HM4 ⊢
      clear hgl
      refine plan_one rfl (fun K hK => ?_)
      refine wpList_append_drd rfl (.tmp 42) (.tmp 44) rfl u.heap.size v3 (ps.take kp) [la] rfl HM4.out (some ⟨gl, 0, none⟩) 1 1 rfl rfl HB.out HL1.out (Ext.size HX4.out) ?_
      intro v7 w7 hm7 hg7 hb7
      have HM7 := Lib.hid hm7
      have HX7 := Lib.hid (show Ext u w7 from Ext.more HX4.out hg7 (fun q e => (HM4.out.block q e).1))
      clear hm7 hg7 hb7
      go_wp2
      refine ⟨fun h => absurd h (by decide), ?_⟩
      refine plan_one rfl (fun K hK => ?_)
      go_wp2
      refine ⟨fun h => absurd h (by decide), ?_⟩
      unfold wpPlan
      go_wp2
      obtain ⟨u7, hu7⟩ : ∃ u, w7.drew = u := ⟨_, rfl⟩
      have HXU7 := Lib.hid (show Ext u u7 from by rw [← hu7]; exact HX7.out.drew)
      have HMU := Lib.hid (show DMine u7 u.heap.size v7 (ps.take kp ++ [la]) from by rw [← hu7]; exact HM7.out.ext (Ext.refl w7).drew)
      refine wp_region_plan (AfterH u) [0, 1, 2, 3, 4, 5, 6] (.yes 0 (.yes 1 (.yes 2 (.yes 3 (.yes 4 (.one 5 (.one 6 (.one 7 .done)))))))) (by kernel_rfl) (fun c a a' w e h => ⟨e ▸ h.1, h.2⟩) (by kernel_rfl) (by rw [hu7]; exact HXU7.out) ?_
      rw [hu7]
      clear hu7
      refine plan_yes rfl (fun K hK => ?_); go_simp; refine ⟨_, fun _ _ => rfl, hK _ ?_⟩; clear hK K
      refine plan_yes rfl (fun K hK => ?_); go_simp; refine ⟨_, fun _ _ => rfl, hK _ ?_⟩; clear hK K
      refine plan_yes rfl (fun K hK => ?_); go_simp; refine ⟨_, fun _ _ => rfl, hK _ ?_⟩; clear hK K
      refine plan_yes rfl (fun K hK => ?_); go_simp; refine ⟨_, fun _ _ => rfl, hK _ ?_⟩; clear hK K
      refine plan_load rfl 30 (.tmp 9) rfl (.agg VA) (by rfl) (fun W hW => LD.out W hW) ?_
      refine plan_one rfl (fun K hK => ?_)
      go_wp2_with fail
      refine (HO2.out _ (HX1.out.trans (HXU.out.trans HXU7.out))).mono ?_
      rintro e w8 ⟨rfl, hx8⟩
      have HX8 := Lib.hid (show Ext u w8 from Ext.trans HXU7.out hx8)
      have HM8 := Lib.hid (HMU.out.ext hx8)
      clear hx8
      go_wp2
      refine ⟨by first | exact HX8.out | exact fun _ => HX8.out, ?_⟩
      have HB8 := Lib.hid (WBlk.ext' HH0.out HX8.out)
      have HG9 := Lib.hid (setRow_heap _ g0 _ VR _ _ HB8.out)
      have HX9 := Lib.hid ((HX1.out.trans (HXU.out.trans HX8.out)).setRow (g := g0) (by rw [HW0.out]; exact Nat.le_refl _) VR)
      have HM9 := Lib.hid ((dmine_keep HM8.out (grown_setRow _ g0 VR) (by have := HXU.out.size; have := HS1.out; omega)).down (base' := w.heap.size) (by have := (HX1.out.trans HXU.out).size; omega))
      refine plan_one rfl (fun K hK => ?_)
      go_wp2
      refine ⟨fun _ => HX8.out, ?_⟩
      refine plan_one rfl (fun K hK => ?_)
      go_wp2_with (with_reducible refine wpList_store_all rfl 30 (.tmp 7) (.tmp 51) rfl g0 Z VR rfl rfl HB8.out HIR.out HZR.out HOR.out ?_)
      refine ⟨fun h => absurd h (by decide), ?_⟩
      unfold wpPlan
      go_wp2
      exact ⟨rfl, .tuple #[_, .agg VR], results_tr Tryd.results20 _ _ g0 30 VR (0, 0) rfl HG9.out HIR.out, _, rfl, HM9.out, HX9.out⟩
    · skip
      have HB := Lib.hid (HODR.out u)
      have HX4 := Lib.hid (show Ext u (World.alloc u (.cells VA 30)) from Ext.alloc (Ext.refl u) _)
      go_wp2_with (with_reducible refine wpList_build_dig rfl (.tmp 43) rfl VA rfl HSA.out ?_)
      refine ⟨by first | exact HX4.out | exact fun _ => HX4.out, ?_⟩
      obtain ⟨gl, hgl⟩ : ∃ g, u.heap.size = g := ⟨_, rfl⟩
      rw [hgl] at HB ⊢
      have HGL := Lib.hid hgl
      generalize World.alloc u (.cells VA 30) = w4 at HB HX4 ⊢
      clear hgl
      refine plan_one rfl (fun K hK => ?_)
      go_wp2_with fail
      refine (HCL.out _ (HX1.out.trans (HXU.out.trans HX4.out))).mono ?_
      rintro e w3 ⟨v3, rfl, hm3, hx3⟩
      have HX3 := Lib.hid (show Ext u w3 from Ext.trans HX4.out hx3)
      have HM3 := Lib.hid (hm3.down (base' := u.heap.size) (Ext.size HX4.out))
      have HB3 := Lib.hid (HB.out.ext hx3)
      clear hm3 hx3
      go_wp2
      refine ⟨by first | exact HX3.out | exact fun _ => HX3.out, ?_⟩
      refine plan_one rfl (fun K hK => ?_)
      refine wpList_append_drd rfl (.tmp 42) (.tmp 44) rfl u.heap.size v3 (ps.take kp) [la] rfl HM3.out (some ⟨gl, 0, none⟩) 1 1 rfl rfl HB3.out HL1.out (Ext.size HX3.out) ?_
      intro v7 w7 hm7 hg7 hb7
      have HM7 := Lib.hid hm7
      have HX7 := Lib.hid (show Ext u w7 from Ext.more HX3.out hg7 (fun q e => (HM3.out.block q e).1))
      clear hm7 hg7 hb7
      go_wp2
      refine ⟨fun h => absurd h (by decide), ?_⟩
      refine plan_one rfl (fun K hK => ?_)
      go_wp2
      refine ⟨fun h => absurd h (by decide), ?_⟩
      unfold wpPlan
      go_wp2
      obtain ⟨u7, hu7⟩ : ∃ u, w7.drew = u := ⟨_, rfl⟩
      have HXU7 := Lib.hid (show Ext u u7 from by rw [← hu7]; exact HX7.out.drew)
      have HMU := Lib.hid (show DMine u7 u.heap.size v7 (ps.take kp ++ [la]) from by rw [← hu7]; exact HM7.out.ext (Ext.refl w7).drew)
      refine wp_region_plan (AfterH u) [0, 1, 2, 3, 4, 5, 6] (.yes 0 (.yes 1 (.yes 2 (.yes 3 (.yes 4 (.one 5 (.one 6 (.one 7 .done)))))))) (by kernel_rfl) (fun c a a' w e h => ⟨e ▸ h.1, h.2⟩) (by kernel_rfl) (by rw [hu7]; exact HXU7.out) ?_
      rw [hu7]
      clear hu7
      refine plan_yes rfl (fun K hK => ?_); go_simp; refine ⟨_, fun _ _ => rfl, hK _ ?_⟩; clear hK K
      refine plan_yes rfl (fun K hK => ?_); go_simp; refine ⟨_, fun _ _ => rfl, hK _ ?_⟩; clear hK K
      refine plan_yes rfl (fun K hK => ?_); go_simp; refine ⟨_, fun _ _ => rfl, hK _ ?_⟩; clear hK K
      refine plan_yes rfl (fun K hK => ?_); go_simp; refine ⟨_, fun _ _ => rfl, hK _ ?_⟩; clear hK K
      refine plan_load rfl 30 (.tmp 9) rfl (.agg VA) (by rfl) (fun W hW => LD.out W hW) ?_
      refine plan_one rfl (fun K hK => ?_)
      go_wp2_with fail
      refine (HO2.out _ (HX1.out.trans (HXU.out.trans HXU7.out))).mono ?_
      rintro e w8 ⟨rfl, hx8⟩
      have HX8 := Lib.hid (show Ext u w8 from Ext.trans HXU7.out hx8)
      have HM8 := Lib.hid (HMU.out.ext hx8)
      clear hx8
      go_wp2
      refine ⟨by first | exact HX8.out | exact fun _ => HX8.out, ?_⟩
      have HB8 := Lib.hid (WBlk.ext' HH0.out HX8.out)
      have HG9 := Lib.hid (setRow_heap _ g0 _ VR _ _ HB8.out)
      have HX9 := Lib.hid ((HX1.out.trans (HXU.out.trans HX8.out)).setRow (g := g0) (by rw [HW0.out]; exact Nat.le_refl _) VR)
      have HM9 := Lib.hid ((dmine_keep HM8.out (grown_setRow _ g0 VR) (by have := HXU.out.size; have := HS1.out; omega)).down (base' := w.heap.size) (by have := (HX1.out.trans HXU.out).size; omega))
      refine plan_one rfl (fun K hK => ?_)
      go_wp2
      refine ⟨fun _ => HX8.out, ?_⟩
      refine plan_one rfl (fun K hK => ?_)
      go_wp2_with (with_reducible refine wpList_store_all rfl 30 (.tmp 7) (.tmp 51) rfl g0 Z VR rfl rfl HB8.out HIR.out HZR.out HOR.out ?_)
      refine ⟨fun h => absurd h (by decide), ?_⟩
      unfold wpPlan
      go_wp2
      exact ⟨rfl, .tuple #[_, .agg VR], results_tr Tryd.results20 _ _ g0 30 VR (0, 0) rfl HG9.out HIR.out, _, rfl, HM9.out, HX9.out⟩
end Go.Proofs.YthbfodmpoheahaaDoor

/-
  What Grow of layer 11 does where the numbers do not fit. Conditions: none but those that each theorem names.
-/
namespace Go.Proofs.YthbfodmpoheahaaDoor
open Go.RowKit
open Pol (co Sm)

set_option maxHeartbeats 1600000 in
set_option maxRecDepth 100000 in
theorem mk_grow_neg (A AT : Option Addr) (n c m ct : Nat) (w : World) (many : Int) (h : many < 0) :
    Calls Tryd.prog 20 #[.slice A n c, .int .i64 many, .slice AT m ct] w (fun e w' => e = .returned (.tuple #[.slice none 0 0, .agg (bt 32 fun _ => 0)]) ∧ Ext w w') := by
  have hz := zero_digest.1
  have HZ32 := Lib.hid (fun (_ : Unit) => show (bt 32 fun _ => 0).size = 32 from bt_size _ _)
  have HVZ := Lib.hid (show Dgc (bt 32 fun _ => 0) (List.replicate 32 0) from by rw [bt_zero]; exact bt_dgc _)
  have HEZ := Lib.hid (fun (_ : Unit) => Eq.refl (bt 32 fun _ => 0))
  obtain ⟨Z, hZ⟩ : ∃ Z, (bt 32 fun _ => 0) = Z := ⟨_, rfl⟩
  have HZE := Lib.hid (fun (_ : Unit) => hZ)
  rw [hZ] at hz HZ32 HVZ ⊢
  have HIZ := Lib.hid HVZ.out.info
  have HOZ := Lib.hid HVZ.out.one
  obtain ⟨g0, hg0⟩ : ∃ g, w.heap.size = g := ⟨_, rfl⟩
  have HW0 := Lib.hid hg0
  have HX1 := Lib.hid ((Ext.refl w).alloc (.cells Z 30))
  have HR0 := Lib.hid (show (w.alloc (.cells Z 30)).heap[g0]? = some (.cells Z 30 (0, 0)) from by rw [← hg0]; exact heap_alloc_new w _)
  have HG3 := Lib.hid (setRow_heap _ g0 _ Z _ _ HR0.out)
  have HX3 := Lib.hid (HX1.out.setRow (g := g0) (by rw [HW0.out]; exact Nat.le_refl _) Z)
  clear hZ HEZ
  have d1 : decide (many < 0) = true := decide_eq_true h
  go_enter Tryd.func20, Tryd.ntmps20
  go_wp2_with (first | (refine wpList_build_zero rfl rfl Z (HZE.out ()) ?_) | (with_reducible refine wpList_store_all rfl 30 (.tmp 7) (.tmp 25) rfl g0 Z Z rfl rfl HR0.out HIZ.out rfl HOZ.out ?_))
  exact ⟨rfl, .tuple #[_, .agg Z], results_tr Tryd.results20 _ _ g0 30 Z (0, 0) rfl HG3.out HIZ.out, rfl, HX3.out⟩
set_option maxHeartbeats 1600000 in
set_option maxRecDepth 100000 in
theorem mk_grow_big (A AT : Option Addr) (n c m ct : Nat) (w : World) (many : Int) (h : 1048576 < many) :
    Calls Tryd.prog 20 #[.slice A n c, .int .i64 many, .slice AT m ct] w (fun e w' => e = .returned (.tuple #[.slice none 0 0, .agg (bt 32 fun _ => 0)]) ∧ Ext w w') := by
  have hz := zero_digest.1
  have HZ32 := Lib.hid (fun (_ : Unit) => show (bt 32 fun _ => 0).size = 32 from bt_size _ _)
  have HVZ := Lib.hid (show Dgc (bt 32 fun _ => 0) (List.replicate 32 0) from by rw [bt_zero]; exact bt_dgc _)
  have HEZ := Lib.hid (fun (_ : Unit) => Eq.refl (bt 32 fun _ => 0))
  obtain ⟨Z, hZ⟩ : ∃ Z, (bt 32 fun _ => 0) = Z := ⟨_, rfl⟩
  have HZE := Lib.hid (fun (_ : Unit) => hZ)
  rw [hZ] at hz HZ32 HVZ ⊢
  have HIZ := Lib.hid HVZ.out.info
  have HOZ := Lib.hid HVZ.out.one
  obtain ⟨g0, hg0⟩ : ∃ g, w.heap.size = g := ⟨_, rfl⟩
  have HW0 := Lib.hid hg0
  have HX1 := Lib.hid ((Ext.refl w).alloc (.cells Z 30))
  have HR0 := Lib.hid (show (w.alloc (.cells Z 30)).heap[g0]? = some (.cells Z 30 (0, 0)) from by rw [← hg0]; exact heap_alloc_new w _)
  have HG3 := Lib.hid (setRow_heap _ g0 _ Z _ _ HR0.out)
  have HX3 := Lib.hid (HX1.out.setRow (g := g0) (by rw [HW0.out]; exact Nat.le_refl _) Z)
  clear hZ HEZ
  have d1 : decide (many < 0) = false := decide_eq_false (by omega)
  have m1 : ¬ many < 0 := by omega
  have d2 : decide (many > 1048576) = true := decide_eq_true h
  go_enter Tryd.func20, Tryd.ntmps20
  go_wp2_with (first | (refine wpList_build_zero rfl rfl Z (HZE.out ()) ?_) | (with_reducible refine wpList_store_all rfl 30 (.tmp 7) (.tmp 25) rfl g0 Z Z rfl rfl HR0.out HIZ.out rfl HOZ.out ?_))
  exact ⟨rfl, .tuple #[_, .agg Z], results_tr Tryd.results20 _ _ g0 30 Z (0, 0) rfl HG3.out HIZ.out, rfl, HX3.out⟩
set_option maxHeartbeats 1600000 in
set_option maxRecDepth 100000 in
theorem mk_grow_odd (A AT : Option Addr) (n c m ct : Nat) (w : World) (many : Nat) (h : many ≤ 1048576) (hn : n ≠ pop many) :
    Calls Tryd.prog 20 #[.slice A n c, .int .i64 (many : Int), .slice AT m ct] w (fun e w' => e = .returned (.tuple #[.slice none 0 0, .agg (bt 32 fun _ => 0)]) ∧ Ext w w') := by
  have hz := zero_digest.1
  have HZ32 := Lib.hid (fun (_ : Unit) => show (bt 32 fun _ => 0).size = 32 from bt_size _ _)
  have HVZ := Lib.hid (show Dgc (bt 32 fun _ => 0) (List.replicate 32 0) from by rw [bt_zero]; exact bt_dgc _)
  have HEZ := Lib.hid (fun (_ : Unit) => Eq.refl (bt 32 fun _ => 0))
  obtain ⟨Z, hZ⟩ : ∃ Z, (bt 32 fun _ => 0) = Z := ⟨_, rfl⟩
  have HZE := Lib.hid (fun (_ : Unit) => hZ)
  rw [hZ] at hz HZ32 HVZ ⊢
  have HIZ := Lib.hid HVZ.out.info
  have HOZ := Lib.hid HVZ.out.one
  obtain ⟨g0, hg0⟩ : ∃ g, w.heap.size = g := ⟨_, rfl⟩
  have HW0 := Lib.hid hg0
  have HX1 := Lib.hid ((Ext.refl w).alloc (.cells Z 30))
  have HR0 := Lib.hid (show (w.alloc (.cells Z 30)).heap[g0]? = some (.cells Z 30 (0, 0)) from by rw [← hg0]; exact heap_alloc_new w _)
  have HG3 := Lib.hid (setRow_heap _ g0 _ Z _ _ HR0.out)
  have HX3 := Lib.hid (HX1.out.setRow (g := g0) (by rw [HW0.out]; exact Nat.le_refl _) Z)
  clear hZ HEZ
  have HON := Lib.hid (fun W => mk_ones many W (by omega))
  obtain ⟨P, hP⟩ : ∃ P, pop many = P := ⟨_, rfl⟩
  rw [hP] at HON hn
  have d1 : decide ((many : Int) < 0) = false := decide_eq_false (by omega)
  have m1 : ¬ (many : Int) < 0 := by omega
  have d2 : decide ((many : Int) > 1048576) = false := decide_eq_false (by omega)
  have m2 : ¬ 1048576 < (many : Int) := by omega
  have e5 : IntKind.u64.wrap (many : Int) = (many : Int) := by rw [IntKind.wrap_u64]; omega
  have q0 : ((n : Int) != (P : Int)) = true := by simp; omega
  clear hP hn h
  go_enter Tryd.func20, Tryd.ntmps20
  go_wp2_with fail
  refine (HON.out _).mono ?_
  rintro e wa ⟨rfl, rfl⟩
  go_wp2_with (first | (refine wpList_build_zero rfl rfl Z (HZE.out ()) ?_) | (with_reducible refine wpList_store_all rfl 30 (.tmp 7) (.tmp 25) rfl g0 Z Z rfl rfl HR0.out HIZ.out rfl HOZ.out ?_))
  exact ⟨rfl, .tuple #[_, .agg Z], results_tr Tryd.results20 _ _ g0 30 Z (0, 0) rfl HG3.out HIZ.out, rfl, HX3.out⟩
end Go.Proofs.YthbfodmpoheahaaDoor

/-
  What the document's own Peaks of layer 11 does. Conditions: under what its Of is to do; at most 4096 texts of 2^15 bytes.
-/
namespace Go.Proofs.YthbfodmpoheahaaDoor
open Go.RowKit
open Pol (co Sm)

theorem mpks_cons (D : List Nat → List Nat) {l : List (List Nat)} (h : 0 < l.length) : mpks D l = mroot D (l.take (spl (l.length + 1))) :: mpks D (l.drop (spl (l.length + 1))) := by
  rw [mpks, dif_neg (fun e => by rw [e] at h; simp at h)]
theorem mpks_few : ∀ (m : Nat) (l : List (List Nat)), l.length ≤ m → (mpks sha l).length ≤ l.length
  | m, l, hm => by
    rcases Nat.eq_zero_or_pos l.length with h | h
    · rw [List.eq_nil_of_length_eq_zero h, mpks_nil]; simp
    · have := spl_pos (l.length + 1)
      cases m with
      | zero => omega
      | succ m =>
        have h2 := mpks_few m (l.drop (spl (l.length + 1))) (by rw [List.length_drop]; omega)
        rw [List.length_drop] at h2
        rw [mpks_cons sha h, List.length_cons]
        omega
set_option maxHeartbeats 800000 in
theorem ref11_peaks_nil (A : Option Addr) (c : Nat) (w : World) : Calls Tryd.prog 21 #[.slice A 0 c] w (DOwn [] w) := by
  unfold DOwn
  go_enter Tryd.func21, Tryd.ntmps21
  go_wp2
  go_ret
  exact ⟨_, rfl, DMine.nil _ _, Ext.refl _⟩
set_option maxHeartbeats 3200000 in
set_option maxRecDepth 100000 in
theorem ref11_peaks_more (R : RefOf) (rows : List (List Nat)) (k : Nat) (A : Option Addr) (c : Nat) (w : World) (h0 : 0 < rows.length) (hr : RRd w A rows) (hc : rows.length ≤ c) (hl : rows.length ≤ 4096) (hls : ∀ i, i < rows.length → (ro rows i).length ≤ 32768) (hk : spl (rows.length + 1) = k)
    (ih : ∀ X W, Ext w W → RRd W X (rows.drop k) → Calls Tryd.prog 21 #[.slice X (rows.length - k) (c - k)] W (DOwn (mpks sha (rows.drop k)) W)) :
    Calls Tryd.prog 21 #[.slice A rows.length c] w (DOwn (mpks sha rows) w) := by
  have hk1 : k < rows.length + 1 := by rw [← hk]; exact spl_lt (by omega)
  have hk0 : 0 < k := by rw [← hk]; exact spl_pos _
  have hmm := mpks_cons sha h0
  rw [hk] at hmm
  obtain ⟨X, hX, hXR⟩ := run_rest_rows A rows.length c k (by omega) hc
  have htl : (rows.take k).length = k := by rw [List.length_take]; omega
  have hdl : (rows.drop k).length = rows.length - k := by rw [List.length_drop]
  have HFW := Lib.hid (show [mroot sha (rows.take k)].length + (mpks sha (rows.drop k)).length ≤ 1048576 from by have := mpks_few rows.length (rows.drop k) (by omega); simp; omega)
  have HRA := Lib.hid (fun W (h : Ext w W) => ref11_root R 4096 (rows.take k) A c W (by omega) ((hr.take k).ext h) (by omega) (by omega) (fun i hi => by rw [ro_take rows k i (by omega)]; exact hls i (by omega)))
  have HI2 := Lib.hid (fun W (h : Ext w W) => ih X W h (hXR W rows (hr.ext h) rfl))
  have HSP := Lib.hid (fun W => ref11_split (rows.length + 1) W (by omega))
  rw [htl] at HRA
  rw [hk] at HSP
  unfold DOwn at HI2 ⊢
  rw [hmm]
  have HYA := Lib.hid (And.intro (mroot_32 (rows.take k)) (mroot_sm (rows.take k)))
  have HONE := Lib.hid (fun W => one_dmine W (mroot sha (rows.take k)) (mroot_32 _) (mroot_sm _))
  obtain ⟨ya, hya⟩ : ∃ y, mroot sha (rows.take k) = y := ⟨_, rfl⟩
  rw [hya] at HRA HYA HFW HONE ⊢
  obtain ⟨r2, hr2⟩ : ∃ y, mpks sha (rows.drop k) = y := ⟨_, rfl⟩
  rw [hr2] at HI2 HFW ⊢
  obtain ⟨n, hn⟩ : ∃ n, rows.length = n := ⟨_, rfl⟩
  rw [hn] at h0 hc hl hX HI2 HSP hk1 ⊢
  obtain ⟨n1, hn1⟩ : ∃ m, n + 1 = m := ⟨_, rfl⟩
  rw [hn1] at HSP
  have e1 : wrap64 ((n : Int) + 1) = (n1 : Int) := by unfold wrap64; omega
  have e2 : IntKind.i64.wrap ((n : Int) + 1) = (n1 : Int) := by rw [IntKind.wrap_i64]; omega
  obtain ⟨r, hrr⟩ : ∃ r, n - k = r := ⟨_, rfl⟩
  obtain ⟨cr, hcr⟩ : ∃ r, c - k = r := ⟨_, rfl⟩
  rw [hrr, hcr] at hX HI2
  have HVA := Lib.hid (show (bt 32 (co ya)).size = 32 from bt_size _ _)
  unfold dgv at HRA
  obtain ⟨VA, hVA⟩ : ∃ V, bt 32 (co ya) = V := ⟨_, rfl⟩
  rw [hVA] at HRA HONE HVA
  have d1 : decide ((n : Int) = 0) = false := decide_eq_false (by omega)
  have m1 : ¬ (n : Int) = 0 := by omega
  have m2 : ¬ n = 0 := by omega
  have ht := fun W => run_to_rows A n c k (by omega) W
  clear ih hr hls hmm htl hdl hya hr2 hn hn1 hrr hcr hVA hXR hk hk0 hk1 h0 hc hl
  go_enter Tryd.func21, Tryd.ntmps21
  go_wp2_with fail
  refine (HSP.out _).mono ?_
  rintro e wa ⟨rfl, q, rfl⟩
  have HXA := Lib.hid ((Ext.refl w).drewN q)
  generalize w.drewN q = wa at HXA ⊢
  go_wp2
  obtain ⟨u, hu⟩ : ∃ u, wa.drew = u := ⟨_, rfl⟩
  have HXU := Lib.hid (show Ext w u from by rw [← hu]; exact HXA.out.drew)
  refine wp_region_plan (AfterH w) [0, 1, 2, 3, 4, 5, 6, 7, 8] (.yes 0 (.yes 1 (.yes 2 (.yes 5 (.yes 6 (.yes 7 (.one 3 (.two 4 (.one 8 (.one 9 (.one 10 .done))) 8 (.one 4 (.one 9 (.one 10 .done))))))))))) (by kernel_rfl) (fun c a a' w e h => ⟨e ▸ h.1, h.2⟩) (by kernel_rfl) (by rw [hu]; exact HXU.out) ?_
  rw [hu]
  clear hu
  refine plan_yes rfl (fun K hK => ?_); go_simp; refine ⟨_, fun _ _ => rfl, hK _ ?_⟩; clear hK K
  refine plan_yes rfl (fun K hK => ?_); go_simp; refine ⟨_, fun _ _ => rfl, hK _ ?_⟩; clear hK K
  refine plan_yes rfl (fun K hK => ?_); go_simp; refine ⟨_, fun _ _ => rfl, hK _ ?_⟩; clear hK K
  refine plan_yes rfl (fun K hK => ?_); go_simp; refine ⟨_, fun _ _ => rfl, hK _ ?_⟩; clear hK K
  refine plan_yes rfl (fun K hK => ?_); go_simp; refine ⟨_, fun _ _ => rfl, hK _ ?_⟩; clear hK K
  refine plan_yes rfl (fun K hK => ?_); go_simp; refine ⟨_, fun _ _ => rfl, hK _ ?_⟩; clear hK K
  refine plan_one rfl (fun K hK => ?_)
  go_wp2_with fail
  refine (HRA.out _ HXU.out).mono ?_
  rintro e w1 ⟨rfl, hx1⟩
  have HX1 := Lib.hid (HXU.out.trans hx1)
  clear hx1
  go_wp2
  refine ⟨by first | exact HX1.out | exact fun _ => HX1.out, ?_⟩
  refine plan_two rfl rfl (fun K hK => ?_) (fun K hK => ?_)
  · skip
    have HD := Lib.hid (HONE.out w1)
    have HX2 := Lib.hid (show Ext w (World.alloc w1 (.cells VA 30)) from HX1.out.alloc _)
    have HS2 := Lib.hid (show w.heap.size ≤ w1.heap.size from HX1.out.size)
    go_wp2_with (with_reducible refine wpList_build_dig rfl (.tmp 14) rfl VA rfl HVA.out ?_)
    refine ⟨by first | exact HX2.out | exact fun _ => HX2.out, ?_⟩
    obtain ⟨gl, hgl⟩ : ∃ g, w1.heap.size = g := ⟨_, rfl⟩
    rw [hgl] at HD HS2 ⊢
    generalize World.alloc w1 (.cells VA 30) = w2 at HD HX2 ⊢
    clear hgl
    refine plan_one rfl (fun K hK => ?_)
    go_wp2_with fail
    refine (HI2.out _ HX2.out).mono ?_
    rintro e w3 ⟨v3, rfl, hm3, hx3⟩
    have HX3 := Lib.hid (HX2.out.trans hx3)
    have HD3 := Lib.hid (HD.out.ext hx3)
    obtain ⟨B3, c3, rfl, hc3, hr3⟩ := hm3.slice
    have HR3 := Lib.hid hr3
    clear hm3 hx3 hc3 hr3
    go_wp2
    refine ⟨by first | exact HX3.out | exact fun _ => HX3.out, ?_⟩
    refine plan_one rfl (fun K hK => ?_)
    refine wpList_append_drd rfl (.tmp 15) (.tmp 19) rfl gl _ [ya] r2 rfl HD3.out B3 r2.length c3 rfl rfl HR3.out HFW.out (by have := HD3.out.block gl rfl; omega) ?_
    intro v9 w9 hm9 hg9 hb9
    have HM9 := Lib.hid (hm9.down HS2.out)
    have HX9 := Lib.hid (HX3.out.more hg9 (fun q e => Nat.le_trans HS2.out (HD3.out.block q e).1))
    clear hm9 hg9 hb9
    go_wp2
    refine ⟨fun h => absurd h (by decide), ?_⟩
    refine plan_one rfl (fun K hK => ?_)
    go_wp2
    refine ⟨fun h => absurd h (by decide), ?_⟩
    unfold wpPlan
    go_wp2
    go_ret
    exact ⟨_, rfl, HM9.out, HX9.out⟩
  · skip
    go_wp2_with fail
    refine (HI2.out _ HX1.out).mono ?_
    rintro e w3 ⟨v3, rfl, hm3, hx3⟩
    have HX3 := Lib.hid (HX1.out.trans hx3)
    obtain ⟨B3, c3, rfl, hc3, hr3⟩ := hm3.slice
    have HR3 := Lib.hid hr3
    clear hm3 hx3 hc3 hr3
    go_wp2
    refine ⟨by first | exact HX3.out | exact fun _ => HX3.out, ?_⟩
    refine plan_one rfl (fun K hK => ?_)
    have HR4 := Lib.hid (HR3.out.ext ((Ext.refl w3).alloc (.cells VA 30)))
    have HD := Lib.hid (HONE.out w3)
    have HX2 := Lib.hid (show Ext w (World.alloc w3 (.cells VA 30)) from HX3.out.alloc _)
    have HS2 := Lib.hid (show w.heap.size ≤ w3.heap.size from HX3.out.size)
    go_wp2_with (with_reducible refine wpList_build_dig rfl (.tmp 14) rfl VA rfl HVA.out ?_)
    refine ⟨by first | exact HX2.out | exact fun _ => HX2.out, ?_⟩
    obtain ⟨gl, hgl⟩ : ∃ g, w3.heap.size = g := ⟨_, rfl⟩
    rw [hgl] at HD HS2 ⊢
    generalize World.alloc w3 (.cells VA 30) = w2 at HD HX2 HR4 ⊢
    clear hgl
    refine plan_one rfl (fun K hK => ?_)
    refine wpList_append_drd rfl (.tmp 15) (.tmp 19) rfl gl _ [ya] r2 rfl HD.out B3 r2.length c3 rfl rfl HR4.out HFW.out (by have := HD.out.block gl rfl; omega) ?_
    intro v9 w9 hm9 hg9 hb9
    have HM9 := Lib.hid (hm9.down HS2.out)
    have HX9 := Lib.hid (HX2.out.more hg9 (fun q e => Nat.le_trans HS2.out (HD.out.block q e).1))
    clear hm9 hg9 hb9
    go_wp2
    refine ⟨fun h => absurd h (by decide), ?_⟩
    refine plan_one rfl (fun K hK => ?_)
    go_wp2
    refine ⟨fun h => absurd h (by decide), ?_⟩
    unfold wpPlan
    go_wp2
    go_ret
    exact ⟨_, rfl, HM9.out, HX9.out⟩
theorem ref11_peaks (R : RefOf) (m : Nat) : ∀ (rows : List (List Nat)) (A : Option Addr) (c : Nat) (w : World), rows.length ≤ m → RRd w A rows → rows.length ≤ c → rows.length ≤ 4096 → (∀ i, i < rows.length → (ro rows i).length ≤ 32768) →
    Calls Tryd.prog 21 #[.slice A rows.length c] w (DOwn (mpks sha rows) w) := by
  induction m with
  | zero =>
    intro rows A c w hm hr hc hl hls
    obtain rfl : rows = [] := List.eq_nil_of_length_eq_zero (by omega)
    rw [mpks_nil]
    exact ref11_peaks_nil A c w
  | succ m ih =>
    intro rows A c w hm hr hc hl hls
    rcases Nat.eq_zero_or_pos rows.length with h0 | h0
    · obtain rfl : rows = [] := List.eq_nil_of_length_eq_zero h0
      rw [mpks_nil]
      exact ref11_peaks_nil A c w
    · refine ref11_peaks_more R rows (spl (rows.length + 1)) A c w h0 hr hc hl hls rfl (fun X W hx hX => ?_)
      have k0 := spl_pos (rows.length + 1)
      have hdl : (rows.drop (spl (rows.length + 1))).length = rows.length - spl (rows.length + 1) := by rw [List.length_drop]
      have h := ih (rows.drop (spl (rows.length + 1))) X (c - spl (rows.length + 1)) W (by omega) hX (by omega) (by omega) (fun i hi => by
        rw [show ro (rows.drop (spl (rows.length + 1))) i = ro rows (spl (rows.length + 1) + i) from by unfold ro; rw [List.getElem?_drop]]
        exact hls _ (by omega))
      rw [hdl] at h
      exact h
end Go.Proofs.YthbfodmpoheahaaDoor

/-
  The law MerkleGrows, walked, under what the functions of layers 10 and 11 and the document's Of are to do. Conditions: none but that many is a number of 64 bits.
-/
namespace Go.Proofs.YthbfodmpoheahaaDoor
open Go.RowKit
open Pol (co Sm)

theorem grow_step (l : List (List Nat)) (i : Nat) (h : i < l.length) : (mpks sha (l.take i)).length = pop i ∧ mgrow sha (mpks sha (l.take i)) i (lf sha (ro l i)) = mpks sha (l.take (i + 1)) ∧ mfold sha (mpks sha (l.take (i + 1))) = mroot sha (l.take (i + 1)) := by
  have ht : (l.take i).length = i := by rw [List.length_take]; omega
  have h1 := mpks_len sha i (l.take i) (by omega)
  have h2 := mgrow_pks sha i (l.take i) (ro l i) (by omega)
  rw [ht] at h1 h2
  rw [← take_ro l i h] at h2
  exact ⟨h1, h2, mfold_pks sha (i + 1) _ (by rw [List.length_take]; omega)⟩
theorem wpList_build_zero_g {ops : Array Oper} {rest : List Oper} {o : Oper} {a : Act} {w : World} {Q : Exit → Act → World → Prop} (hgd : Region.wanted o (yielded ops a.tmps) = true) (ho : o.op = .build 30 #[]) (Z : Array Value)
    (hz : (bt 32 fun _ => 0) = Z) (h : wpList Tryd.prog ops Q rest (a.put o.dst (.agg Z)) w) : wpList Tryd.prog ops Q (o :: rest) a w :=
  wpList_of_wp hgd (by
    have hF : Tryd.prog.built 30 (#[] : Array (Nat × Value)).toList = some Z := by rw [← hz]; exact built_zero
    have hv : ((#[] : Array (Nat × Operand)).map fun (i, x) => (i, a.eval x)) = #[] := by simp
    unfold Oper.wp execOp
    simp only [ho, hv, Sem.run_bind, run_build w _ _ Z hF, Result.andThen_ok, Sem.run_pure]
    exact h)
theorem i64_succ (i : Nat) (h : i ≤ 1048577) : IntKind.i64.wrap ((i : Int) + 1) = ((i + 1 : Nat) : Int) := by rw [IntKind.wrap_i64]; omega
theorem mgrow_pos (ps : List (List Nat)) (n : Nat) (d : List Nat) (hn : n ≤ 1048576) (h : ps.length = pop n) : 0 < (mgrow sha ps n d).length := by
  rw [mgrow_is sha 64 ps n d (by rw [show (2 : Nat) ^ 64 = 18446744073709551616 from by decide]; omega) h, List.length_append]
  simp
set_option maxHeartbeats 6400000 in
set_option maxRecDepth 100000 in
theorem grows11_walk (S : ShaOH) (C : MerkleSaid) (R : RefOf) (rows : List (List Nat)) (many : Int) (hm1 : -9223372036854775808 ≤ many) (hm2 : many ≤ 9223372036854775807) (A : Option Addr) (c : Nat) (w : World) (hgl : GL w) (hgb : GB w) (hr : RRd w A rows) (hc : rows.length ≤ c) (hl : rows.length ≤ maxLen) :
    Calls Tryd.prog 7 #[.slice A rows.length c, .int .i64 many] w (Holds w) := by
  have HAW := Lib.hid (fun W (h : Ext w W) => awake11 S C W (hgl.ext h))
  have HFW := Lib.hid (fun W (h : Ext w W) => few11 rows A c W (hr.ext h) hl)
  have hls := fun (h : fewQ rows) => show ∀ i, i < rows.length → (ro rows i).length ≤ 32768 from fun i hi => Nat.le_trans (h.2 i hi) (by decide)
  have HRO := Lib.hid hr
  have HIC := Lib.hid hc
  have HST := Lib.hid (grow_step rows)
  have HFP := Lib.hid (fun i => mpks_few i (rows.take i) (by rw [List.length_take]; omega))
  have HGR := Lib.hid (fun (h : fewQ rows) i (hi : i < rows.length) W B cb AT ct (hx : Ext w W) (hp : DRd W B (mpks sha (rows.take i))) (hcb : (mpks sha (rows.take i)).length ≤ cb) (ht : Rd w AT (ro rows i)) (htc : (ro rows i).length ≤ ct) =>
    mk_grow S (mpks sha (rows.take i)) i (ro rows i) B AT cb ct W (hgl.ext hx) (hgb.ext hx) (by have := h.1; omega) (grow_step rows i hi).1 hp hcb (by have h1 := mpks_few i (rows.take i) (by rw [List.length_take]; omega); rw [List.length_take] at h1; have := h.1; omega) (ht.ext hx) htc (hls h i hi))
  have HPK := Lib.hid (fun (h : fewQ rows) i (hi : i < rows.length) W (hx : Ext w W) => ref11_peaks R 4096 (rows.take (i + 1)) A c W (by rw [List.length_take]; have := h.1; omega) ((hr.take (i + 1)).ext hx) (by rw [List.length_take]; omega) (by rw [List.length_take]; have := h.1; omega) (fun j hj => by rw [List.length_take] at hj; rw [ro_take rows _ j (by omega)]; exact hls h j (by omega)))
  have HRT := Lib.hid (fun (h : fewQ rows) i (hi : i < rows.length) W (hx : Ext w W) => ref11_root R 4096 (rows.take (i + 1)) A c W (by rw [List.length_take]; have := h.1; omega) ((hr.take (i + 1)).ext hx) (by rw [List.length_take]; omega) (by rw [List.length_take]; have := h.1; omega) (fun j hj => by rw [List.length_take] at hj; rw [ro_take rows _ j (by omega)]; exact hls h j (by omega)))
  have HTL := Lib.hid (fun i (hi : i < rows.length) => show (rows.take (i + 1)).length = i + 1 from by rw [List.length_take]; omega)
  have HG1 := Lib.hid (fun (M : Nat) (hM : M ≤ 1048576) ps W B cb X cx (hx : Ext w W) (hp : DRd W B ps) (hcb : ps.length ≤ cb) (hpl : ps.length ≤ 64) (hpm : ps.length = pop M) (ht : Rd W X [1]) (hcx : 1 ≤ cx) =>
    mk_grow S ps M [1] B X cb cx W (hgl.ext hx) (hgb.ext hx) hM hpm hp hcb hpl ht hcx (by decide))
  have HTK := Lib.hid (show rows.take rows.length = rows from List.take_length)
  have HPE := Lib.hid (mpks_few rows.length rows (Nat.le_refl _))
  have hz := zero_digest.1
  have HZ32 := Lib.hid (fun (_ : Unit) => show (bt 32 fun _ => 0).size = 32 from bt_size _ _)
  have HGN := Lib.hid (fun (h : many < 0) A AT n c m ct W => mk_grow_neg A AT n c m ct W many h)
  have HGB := Lib.hid (fun (h : 1048576 < many) A AT n c m ct W => mk_grow_big A AT n c m ct W many h)
  have HGO := Lib.hid (fun (M : Nat) (h : M ≤ 1048576) A AT n c m ct W hn => mk_grow_odd A AT n c m ct W M h hn)
  have HVZ := Lib.hid (show Dgc (bt 32 fun _ => 0) (List.replicate 32 0) from by rw [bt_zero]; exact bt_dgc _)
  have HLZ := Lib.hid (fun (W : World) (g : Nat) (h : W.heap[g]? = some (.cells (bt 32 fun _ => 0) 30 (0, 0))) => show (Instr.loadAt 30 (.pointer (some ⟨g, 0, none⟩))).run Tryd.prog W = .ok (.agg (bt 32 fun _ => 0)) W from by
    rw [bt_zero] at h ⊢
    exact load_blk W g (List.replicate 32 0) 30 (0, 0) h)
  have HQZ := Lib.hid (fun W => show (binOp .eql 30 (.agg (bt 32 fun _ => 0)) (.agg (bt 32 fun _ => 0))).run Tryd.prog W = .ok (.bool true) W from by
    rw [bt_zero]
    exact run_eq_dg (List.replicate 32 0) (by simp) (sm_zeros 32) W)
  obtain ⟨Z, hZ⟩ : ∃ Z, (bt 32 fun _ => 0) = Z := ⟨_, rfl⟩
  have HZE := Lib.hid (fun (_ : Unit) => hZ)
  rw [hZ] at hz HZ32 HGN HGB HGO HVZ HLZ HQZ
  have HIZ := Lib.hid HVZ.out.info
  have HOZ := Lib.hid HVZ.out.one
  obtain ⟨n, hn⟩ : ∃ n, rows.length = n := ⟨_, rfl⟩
  have HNN := Lib.hid hn
  rw [hn] at HFW HST HGR HPK HRT HTL HTK HPE HIC ⊢
  clear hgl hgb hr hc hl hls hn hZ
  go_enter Tryd.func7, Tryd.ntmps7
  go_wp2_with fail
  refine (HAW.out _ (Ext.refl w)).mono ?_
  rintro e w1 ⟨rfl, hx1⟩
  have HX1 := Lib.hid hx1
  clear hx1
  go_wp2_with fail
  refine (HFW.out _ HX1.out).mono ?_
  rintro e w2 ⟨b, rfl, hq, rfl⟩
  cases b with
  | false =>
    clear hq
    go_wp2_with fail
    refine (HAW.out _ HX1.out).mono ?_
    rintro e w3 ⟨rfl, hx3⟩
    have HX3 := Lib.hid (HX1.out.trans hx3)
    clear hx3
    go_wp2
    go_ret
    exact ⟨rfl, HX3.out⟩
  | true =>
    have HF := Lib.hid (hq rfl)
    have HN12 := Lib.hid (show n ≤ 12 from by have := HF.out.1; have := HNN.out; omega)
    clear hq
    go_wp2
    go_loopg [5, 23] n (fun g s5 s23 wx => ∃ i : Nat, i + g = n ∧ s23 = .int .i64 (i : Int) ∧ DMine wx w1.heap.size s5 (mpks sha (rows.take i)) ∧ Ext w1 wx)
    case atStart => exact ⟨0, by omega, rfl, by rw [List.take_zero, mpks_nil]; exact DMine.nil _ _, Ext.refl _⟩
    case round =>
      obtain ⟨i, hig, rfl, hm, hx⟩ := hrel
      have HM := Lib.hid hm
      have HX := Lib.hid hx
      have HIG := Lib.hid hig
      clear hm hx
      cases gk with
      | zero =>
        obtain rfl : i = n := by omega
        have HP0 := Lib.hid (show DMine wr w1.heap.size _ (mpks sha rows) from by have h := HM.out; rw [HTK.out] at h; exact h)
        obtain ⟨B, cb, rfl, hcb, hrd⟩ := HP0.out.slice
        have HCB := Lib.hid hcb
        have HRD := Lib.hid hrd
        have HPL := Lib.hid (show (mpks sha rows).length ≤ 64 from by have := HPE.out; have := HN12.out; omega)
        obtain ⟨ps, hps⟩ : ∃ p, mpks sha rows = p := ⟨_, rfl⟩
        rw [hps] at HCB HRD HPL ⊢
        obtain ⟨L, hL⟩ : ∃ L, ps.length = L := ⟨_, rfl⟩
        have HLL := Lib.hid hL
        rw [hL] at HCB HPL ⊢
        obtain ⟨wb, hwb⟩ : ∃ q, q = wr := ⟨_, rfl⟩
        subst hwb
        have HXB := Lib.hid (HX1.out.trans HX.out)
        clear hig hcb hrd hps hL HP0 HM HGR HPK HRT HST HFP HTL HRO
        by_cases hneg : many < 0
        · have hmx : max many 0 = 0 := by omega
          have dn : decide (many < 0) = true := decide_eq_true hneg
          have HNG := Lib.hid (HGN.out hneg)
          go_wp2
          go_loopg [9, 10] 64 (fun g s9 s10 wx => ∃ a k q : Nat, s9 = .int .i64 (a : Int) ∧ s10 = .int .i64 (k : Int) ∧ a + pop k = pop 0 ∧ k < 2 ^ g ∧ a + g ≤ 64 ∧ k ≤ 9223372036854775807 ∧ wx = wb.drewN q)
          case atStart => exact ⟨0, 0, 0, rfl, rfl, by omega, by decide, by omega, by omega, rfl⟩
          case round =>
            obtain ⟨a, kk, q, rfl, rfl, hap, hk2, hag, hkm, rfl⟩ := hrel
            have HAP := Lib.hid hap
            have HK2 := Lib.hid hk2
            clear hap hk2
            by_cases hk0 : kk = 0
            · subst hk0
              have HPA := Lib.hid (show a = pop 0 from by have h := HAP.out; have h0 := pop_zero; omega)
              have HXL := Lib.hid (HXB.out.drewN q)
              have HRL := Lib.hid (HRD.out.ext ((Ext.refl wb).drewN q))
              generalize wb.drewN q = wl at HXL HRL ⊢
              clear hag HK2 HAP hkm
              go_wp2_with fail
              refine (HNG.out _ _ _ _ _ _ _).mono ?_
              rintro e w5 ⟨rfl, hx5⟩
              have HX5 := Lib.hid ((HXL.out.alloc (.cells #[.int .u8 1] 5)).trans hx5)
              clear hx5
              obtain ⟨gx, hgx⟩ : ∃ g, w5.heap.size = g := ⟨_, rfl⟩
              have HGX := Lib.hid (show (w5.alloc (.cells Z 30)).heap[gx]? = some (.cells Z 30 (0, 0)) from by rw [← hgx]; exact heap_alloc_new _ _)
              have HX6 := Lib.hid (show Ext w ((w5.alloc (.cells Z 30)).setRow gx Z) from HX5.out.trans (Ext.setRow ((Ext.refl w5).alloc _) (by rw [← hgx]; exact Nat.le_refl _) Z))
              have HG6 := Lib.hid (setRow_heap _ gx _ Z _ _ HGX.out)
              have hqz := HQZ.out
              go_wp2_with (first | (with_reducible refine wpList_store_all rfl 30 (.tmp 12) (.tmp 71) rfl gx Z Z rfl rfl HGX.out HIZ.out rfl HOZ.out ?_) | (refine wpList_load_row_g (by rfl) 30 (.tmp 12) rfl gx rfl 30 Z (0, 0) _ HG6.out Tryd.underlying30 rfl HIZ.out ?_) | (refine wpList_build_zero_g (by rfl) rfl Z (HZE.out ()) ?_))
              go_ret
              exact ⟨rfl, HX6.out⟩
              -- q17
            · have hkI : (0 : Int) < (kk : Int) := by omega
              cases gk with
              | zero =>
                have h := HK2.out
                simp at h
                omega
              | succ g =>
                have HNX := Lib.hid (show (a + kk % 2) + pop (kk / 2) = pop 0 ∧ kk / 2 < 2 ^ g ∧ (a + kk % 2) + g ≤ 64 from by
                  have h := HAP.out
                  rw [pop_more (by omega)] at h
                  have h2 := HK2.out
                  rw [Nat.pow_succ] at h2
                  omega)
                obtain ⟨k2, hk2⟩ : ∃ k, kk / 2 = k := ⟨_, rfl⟩
                obtain ⟨r2, hr2⟩ : ∃ k, kk % 2 = k := ⟨_, rfl⟩
                have q1 : Int.tmod (kk : Int) 2 = (r2 : Int) := by rw [← hr2]; rfl
                have q2 : Int.tdiv (kk : Int) 2 = (k2 : Int) := by rw [← hk2]; rfl
                have HWK := Lib.hid (And.intro (show wrap64 (k2 : Int) = (k2 : Int) from by unfold wrap64; omega) (show k2 ≤ 9223372036854775807 from by omega))
                obtain ⟨a2, ha2⟩ : ∃ k, a + r2 = k := ⟨_, rfl⟩
                have q5 : (a : Int) + (r2 : Int) = (a2 : Int) := by omega
                have q6 : a2 ≤ 1048577 := by omega
                rw [hk2, hr2, ha2] at HNX
                clear hk2 hr2 ha2 hag hk0 hkm
                have q7 := i64_nat a2 q6
                have q8 := w64_nat a2 q6
                go_wp2
                clear q7 q8
                go_roundg g
                case measure => omega
                case rel => exact ⟨a2, k2, q, rfl, congrArg (Value.int .i64) HWK.out.1, HNX.out.1, HNX.out.2.1, HNX.out.2.2, HWK.out.2, rfl⟩
        · obtain ⟨M, rfl⟩ : ∃ M : Nat, many = (M : Int) := ⟨many.toNat, by omega⟩
          have dn : decide ((M : Int) < 0) = false := decide_eq_false (by omega)
          have m1 : ¬ (M : Int) < 0 := by omega
          have hmx : max (M : Int) 0 = (M : Int) := by omega
          go_wp2
          go_loopg [9, 10] 64 (fun g s9 s10 wx => ∃ a k q : Nat, s9 = .int .i64 (a : Int) ∧ s10 = .int .i64 (k : Int) ∧ a + pop k = pop M ∧ k < 2 ^ g ∧ a + g ≤ 64 ∧ k ≤ 9223372036854775807 ∧ wx = wb.drewN q)
          case atStart => exact ⟨0, M, 0, rfl, rfl, by omega, by rw [show (2 : Nat) ^ 64 = 18446744073709551616 from by decide]; omega, by omega, by omega, rfl⟩
          case round =>
            obtain ⟨a, kk, q, rfl, rfl, hap, hk2, hag, hkm, rfl⟩ := hrel
            have HAP := Lib.hid hap
            have HK2 := Lib.hid hk2
            clear hap hk2
            by_cases hk0 : kk = 0
            · subst hk0
              have HPA := Lib.hid (show a = pop M from by have h := HAP.out; have h0 := pop_zero; omega)
              have HXL := Lib.hid (HXB.out.drewN q)
              have HRL := Lib.hid (HRD.out.ext ((Ext.refl wb).drewN q))
              generalize wb.drewN q = wl at HXL HRL ⊢
              clear hag HK2 HAP hkm
              by_cases hMb : M ≤ 1048576
              · have d2 : decide ((M : Int) > 1048576) = false := decide_eq_false (by omega)
                have m2 : ¬ 1048576 < (M : Int) := by omega
                by_cases hLp : L = pop M
                · have hLa : a = L := by rw [hLp]; exact HPA.out
                  subst hLa
                  have HGG := Lib.hid (HG1.out M hMb ps (wl.alloc (.cells #[.int .u8 1] 5)) B cb (some ⟨wl.heap.size, 0, none⟩) 1 (HXL.out.alloc _) (HRL.out.ext ((Ext.refl wl).alloc _)) (by rw [HLL.out]; exact HCB.out) (by rw [HLL.out]; exact HPL.out) (by rw [HLL.out]; exact HPA.out) (rd_one wl 1 (by decide)) (Nat.le_refl _))
                  have HPOS := Lib.hid (mgrow_pos ps M (lf sha [1]) hMb (by rw [HLL.out]; exact HPA.out))
                  unfold GrowS at HGG
                  rw [HLL.out] at HGG
                  obtain ⟨G, hG⟩ : ∃ g, mgrow sha ps M (lf sha [1]) = g := ⟨_, rfl⟩
                  rw [hG] at HGG HPOS
                  have HMO := Lib.hid (show (mfold sha G).length = 32 ∧ Sm (mfold sha G) from by
                    rw [← hG, mgrow_is sha 64 ps M (lf sha [1]) (by rw [show (2 : Nat) ^ 64 = 18446744073709551616 from by decide]; omega) (by rw [HLL.out]; exact HPA.out), mfold_ovd, ← ov_ovd, ← ov_ovd]
                    exact ov_ok _ _ (ov_ok _ _ (sha_len _) (sha_sm _)).1 (ov_ok _ _ (sha_len _) (sha_sm _)).2)
                  have HVM := Lib.hid (bt_dgc (mfold sha G))
                  unfold dgv at HGG
                  obtain ⟨VM, hVM⟩ : ∃ V, bt 32 (co (mfold sha G)) = V := ⟨_, rfl⟩
                  rw [hVM] at HGG HVM
                  have HIM := Lib.hid HVM.out.info
                  have HOM := Lib.hid HVM.out.one
                  have HZM := Lib.hid (show Z.size = VM.size from by rw [HVM.out.1]; exact HZ32.out ())
                  have q0 : ((a : Int) != (a : Int)) = false := by simp
                  clear hG hVM hLp hMb
                  go_wp2_with fail
                  refine HGG.out.mono ?_
                  rintro e w5 ⟨v5, rfl, hm5, hx5⟩
                  have HX5 := Lib.hid ((HXL.out.alloc (.cells #[.int .u8 1] 5)).trans hx5)
                  obtain ⟨B5, c5, rfl, hc5, hr5⟩ := hm5.slice
                  obtain ⟨K5, hK5⟩ : ∃ k, G.length = k := ⟨_, rfl⟩
                  rw [hK5] at HPOS ⊢
                  have dk : decide ((K5 : Int) > 0) = true := decide_eq_true (by have := HPOS.out; omega)
                  have mk : (0 : Int) < (K5 : Int) := by have := HPOS.out; omega
                  have mkn : 0 < K5 := HPOS.out
                  have dkn : decide (0 < K5) = true := decide_eq_true HPOS.out
                  clear hm5 hx5 hc5 hr5 hK5
                  obtain ⟨gx, hgx⟩ : ∃ g, w5.heap.size = g := ⟨_, rfl⟩
                  have HGX := Lib.hid (show (w5.alloc (.cells Z 30)).heap[gx]? = some (.cells Z 30 (0, 0)) from by rw [← hgx]; exact heap_alloc_new _ _)
                  have HX6 := Lib.hid (show Ext w ((w5.alloc (.cells Z 30)).setRow gx VM) from HX5.out.trans (Ext.setRow ((Ext.refl w5).alloc _) (by rw [← hgx]; exact Nat.le_refl _) VM))
                  have HG6 := Lib.hid (setRow_heap _ gx _ VM _ _ HGX.out)
                  go_wp2_with (with_reducible refine wpList_store_all rfl 30 (.tmp 12) (.tmp 71) rfl gx Z VM rfl rfl HGX.out HIM.out HZM.out HOM.out ?_)
                  go_ret
                  exact ⟨rfl, HX6.out⟩
                · have HGW := Lib.hid (fun A AT n c m ct W hn => HGO.out M hMb A AT n c m ct W hn)
                  have hne : ¬ a = L := by have := HPA.out; omega
                  have q0 : ((a : Int) != (L : Int)) = true := by simp; omega
                  go_wp2_with fail
                  refine (HGW.out _ _ _ _ _ _ _ hLp).mono ?_
                  rintro e w5 ⟨rfl, hx5⟩
                  have HX5 := Lib.hid ((HXL.out.alloc (.cells #[.int .u8 1] 5)).trans hx5)
                  clear hx5
                  obtain ⟨gx, hgx⟩ : ∃ g, w5.heap.size = g := ⟨_, rfl⟩
                  have HGX := Lib.hid (show (w5.alloc (.cells Z 30)).heap[gx]? = some (.cells Z 30 (0, 0)) from by rw [← hgx]; exact heap_alloc_new _ _)
                  have HX6 := Lib.hid (show Ext w ((w5.alloc (.cells Z 30)).setRow gx Z) from HX5.out.trans (Ext.setRow ((Ext.refl w5).alloc _) (by rw [← hgx]; exact Nat.le_refl _) Z))
                  have HG6 := Lib.hid (setRow_heap _ gx _ Z _ _ HGX.out)
                  have hqz := HQZ.out
                  go_wp2_with (first | (with_reducible refine wpList_store_all rfl 30 (.tmp 12) (.tmp 71) rfl gx Z Z rfl rfl HGX.out HIZ.out rfl HOZ.out ?_) | (refine wpList_load_row_g (by rfl) 30 (.tmp 12) rfl gx rfl 30 Z (0, 0) _ HG6.out Tryd.underlying30 rfl HIZ.out ?_) | (refine wpList_build_zero_g (by rfl) rfl Z (HZE.out ()) ?_))
                  go_ret
                  exact ⟨rfl, HX6.out⟩
              · have d2 : decide ((M : Int) > 1048576) = true := decide_eq_true (by omega)
                have m2 : 1048576 < (M : Int) := by omega
                go_wp2_with fail
                refine (HGB.out m2 _ _ _ _ _ _ _).mono ?_
                rintro e w5 ⟨rfl, hx5⟩
                have HX5 := Lib.hid ((HXL.out.alloc (.cells #[.int .u8 1] 5)).trans hx5)
                clear hx5
                obtain ⟨gx, hgx⟩ : ∃ g, w5.heap.size = g := ⟨_, rfl⟩
                have HGX := Lib.hid (show (w5.alloc (.cells Z 30)).heap[gx]? = some (.cells Z 30 (0, 0)) from by rw [← hgx]; exact heap_alloc_new _ _)
                have HX6 := Lib.hid (show Ext w ((w5.alloc (.cells Z 30)).setRow gx Z) from HX5.out.trans (Ext.setRow ((Ext.refl w5).alloc _) (by rw [← hgx]; exact Nat.le_refl _) Z))
                have HG6 := Lib.hid (setRow_heap _ gx _ Z _ _ HGX.out)
                have hqz := HQZ.out
                go_wp2_with (first | (with_reducible refine wpList_store_all rfl 30 (.tmp 12) (.tmp 71) rfl gx Z Z rfl rfl HGX.out HIZ.out rfl HOZ.out ?_) | (refine wpList_load_row_g (by rfl) 30 (.tmp 12) rfl gx rfl 30 Z (0, 0) _ HG6.out Tryd.underlying30 rfl HIZ.out ?_) | (refine wpList_build_zero_g (by rfl) rfl Z (HZE.out ()) ?_))
                go_ret
                exact ⟨rfl, HX6.out⟩
              -- q17
            · have hkI : (0 : Int) < (kk : Int) := by omega
              cases gk with
              | zero =>
                have h := HK2.out
                simp at h
                omega
              | succ g =>
                have HNX := Lib.hid (show (a + kk % 2) + pop (kk / 2) = pop M ∧ kk / 2 < 2 ^ g ∧ (a + kk % 2) + g ≤ 64 from by
                  have h := HAP.out
                  rw [pop_more (by omega)] at h
                  have h2 := HK2.out
                  rw [Nat.pow_succ] at h2
                  omega)
                obtain ⟨k2, hk2⟩ : ∃ k, kk / 2 = k := ⟨_, rfl⟩
                obtain ⟨r2, hr2⟩ : ∃ k, kk % 2 = k := ⟨_, rfl⟩
                have q1 : Int.tmod (kk : Int) 2 = (r2 : Int) := by rw [← hr2]; rfl
                have q2 : Int.tdiv (kk : Int) 2 = (k2 : Int) := by rw [← hk2]; rfl
                have HWK := Lib.hid (And.intro (show wrap64 (k2 : Int) = (k2 : Int) from by unfold wrap64; omega) (show k2 ≤ 9223372036854775807 from by omega))
                obtain ⟨a2, ha2⟩ : ∃ k, a + r2 = k := ⟨_, rfl⟩
                have q5 : (a : Int) + (r2 : Int) = (a2 : Int) := by omega
                have q6 : a2 ≤ 1048577 := by omega
                rw [hk2, hr2, ha2] at HNX
                clear hk2 hr2 ha2 hag hk0 hkm
                have q7 := i64_nat a2 q6
                have q8 := w64_nat a2 q6
                go_wp2
                clear q7 q8
                go_roundg g
                case measure => omega
                case rel => exact ⟨a2, k2, q, rfl, congrArg (Value.int .i64) HWK.out.1, HNX.out.1, HNX.out.2.1, HNX.out.2.2, HWK.out.2, rfl⟩
      | succ g =>
        have hi : i < n := by omega
        have hiI : (i : Int) < (n : Int) := by omega
        have HI := Lib.hid hi
        obtain ⟨h1, h2, h3⟩ := HST.out i hi
        obtain ⟨B, cb, rfl, hcb, hrd⟩ := HM.out.slice
        obtain ⟨ba, oa, R1, k1, hA, hc1, hl1, hr1⟩ := HRO.out i (by rw [HNN.out]; exact hi)
        subst hA
        have HC1 := Lib.hid ((((HX1.out.trans HX.out)).below.cell (p := ⟨ba, oa + i, none⟩) (block_lt_of_cell hc1)).trans hc1)
        have HG := Lib.hid (HGR.out HF.out i hi wr B cb R1 k1 (HX1.out.trans HX.out) hrd hcb hr1 hl1)
        unfold GrowS at HG
        rw [h2, h3] at HG
        have HPI := Lib.hid (fun W (h : Ext w W) => HPK.out HF.out i hi W h)
        have HRI := Lib.hid (fun W (h : Ext w W) => HRT.out HF.out i hi W h)
        rw [HTL.out i hi] at HPI HRI
        unfold DOwn at HPI
        have HFI := Lib.hid (show (mpks sha (rows.take (i + 1))).length ≤ 1048576 from by have h := HFP.out (i + 1); rw [HTL.out i hi] at h; have := HN12.out; omega)
        have HQ := Lib.hid (fun W => run_ne_dgc (bt_dgc (mroot sha (rows.take (i + 1)))) (bt_dgc (mroot sha (rows.take (i + 1)))) (mroot_32 _) (mroot_32 _) (mroot_sm _) (mroot_sm _) W)
        have hq := HQ.out
        rw [decide_eq_true rfl] at hq
        obtain ⟨i1, hi1⟩ : ∃ j, i + 1 = j := ⟨_, rfl⟩
        have HI1 := Lib.hid hi1
        have hin : (i1 : Int) ≤ (n : Int) := by omega
        have hile : i ≤ 1048577 := Nat.le_trans (Nat.le_of_lt hi) (Nat.le_trans HN12.out (by decide))
        have HE := Lib.hid (And.intro (w64_succ i hile) (i64_succ i hile))
        rw [hi1] at HE
        rw [hi1] at HG HPI HRI HFI hq
        have HVR := Lib.hid (bt_dgc (mroot sha (rows.take i1)))
        have HLB := Lib.hid (fun (W : World) (g : Nat) (h : W.heap[g]? = some (.cells (bt 32 (co (mroot sha (rows.take i1)))) 30 (0, 0))) => load_blk W g (mroot sha (rows.take i1)) 30 (0, 0) h)
        obtain ⟨P1, hP1⟩ : ∃ p, mpks sha (rows.take i1) = p := ⟨_, rfl⟩
        have HP1 := Lib.hid (fun (_ : Unit) => hP1)
        rw [hP1] at HG HPI HFI
        unfold dgv at HG HRI HLB
        obtain ⟨VR, hVR⟩ : ∃ V, bt 32 (co (mroot sha (rows.take i1))) = V := ⟨_, rfl⟩
        rw [hVR] at HG HRI HVR HLB hq
        obtain ⟨L0, hL0⟩ : ∃ L, (mpks sha (rows.take i)).length = L := ⟨_, rfl⟩
        rw [hL0] at HG ⊢
        obtain ⟨t1, ht1⟩ : ∃ t, (ro rows i).length = t := ⟨_, rfl⟩
        rw [ht1] at HG HC1
        have HIV := Lib.hid HVR.out.info
        have HOV := Lib.hid HVR.out.one
        have HZV := Lib.hid (show Z.size = VR.size from by rw [HVR.out.1]; exact HZ32.out ())
        have HI1C := Lib.hid (show i1 ≤ c ∨ True from .inr trivial)
        have hc1' := HC1.out
        have hi0 : (0 : Int) ≤ (i : Int) := by omega
        have HX2 := Lib.hid (HX1.out.trans HX.out)
        have hcc := HRO.out
        clear hile hcb hrd hc1 hl1 hr1 h1 h2 h3 hi hi1 hP1 hVR hL0 ht1 HQ HM hcc hig
        go_wp2_with fail
        refine HG.out.mono ?_
        rintro e w5 ⟨v5, rfl, hm5, hx5⟩
        have HX5 := Lib.hid (HX.out.trans hx5)
        have HM5 := Lib.hid (hm5.down (base' := w1.heap.size) HX.out.size)
        clear hm5 hx5
        obtain ⟨gx, hgx⟩ : ∃ g, w5.heap.size = g := ⟨_, rfl⟩
        have HGX := Lib.hid (show (w5.alloc (.cells Z 30)).heap[gx]? = some (.cells Z 30 (0, 0)) from by rw [← hgx]; exact heap_alloc_new _ _)
        have HX56 := Lib.hid (show Ext w5 ((w5.alloc (.cells Z 30)).setRow gx VR) from Ext.setRow ((Ext.refl w5).alloc _) (by rw [← hgx]; exact Nat.le_refl _) VR)
        have HG6 := Lib.hid (setRow_heap _ gx _ VR _ _ HGX.out)
        go_wp2_with (with_reducible refine wpList_store_all rfl 30 (.tmp 8) (.tmp 35) rfl gx Z VR rfl rfl HGX.out HIV.out HZV.out HOV.out ?_)
        generalize (w5.alloc (.cells Z 30)).setRow gx VR = w6 at HX56 HG6 ⊢
        clear hgx
        have HX6 := Lib.hid (HX5.out.trans HX56.out)
        have HM6 := Lib.hid (HM5.out.ext HX56.out)
        obtain ⟨B6, c6, rfl, hc6, hr6⟩ := HM6.out.slice
        have HR6 := Lib.hid hr6
        obtain ⟨L6, hL6⟩ : ∃ L, P1.length = L := ⟨_, rfl⟩
        have HL6 := Lib.hid hL6
        rw [hL6] at hc6 HFI ⊢
        have HM6' := Lib.hid (show DMine w6 w1.heap.size (.slice B6 L6 c6) P1 from by rw [← hL6]; exact HM6.out)
        obtain ⟨u, hu⟩ : ∃ u, w6.drew = u := ⟨_, rfl⟩
        have HXU := Lib.hid (show Ext w6 u from by rw [← hu]; exact (Ext.refl w6).drew)
        have LD := Lib.hid (fun (W : World) (h : AfterH w6 W) => show (Instr.loadAt 30 (.pointer (some ⟨gx, 0, none⟩))).run Tryd.prog W = .ok (.agg VR) W from HLB.out W gx (WBlk.ext' HG6.out h))
        have HCI := Lib.hid (show i1 ≤ c from by have := HIC.out; have := HI1.out; have := HI.out; omega)
        have ht := fun W => run_to_rows (some ⟨ba, oa, none⟩) n c i1 HCI.out W
        clear hc6 hr6 HM6 hL6
        have e1 := HE.out.1
        have e2 := HE.out.2
        refine wp_region_plan (AfterH w6) [0, 1, 2, 3, 4, 5, 6, 7, 8, 9, 10, 11, 12, 13, 14, 15] (.yes 0 (.yes 1 (.yes 2 (.yes 3 (.yes 4 (.one 5 (.one 6 (.yes 7 (.yes 8 (.yes 9 (.yes 10 (.yes 11 (.yes 12 (.yes 13 (.one 14 (.yes 15 (.one 16 .done))))))))))))))))) (by kernel_rfl) (fun c a a' w e h => ⟨e ▸ h.1, h.2⟩) (by kernel_rfl) (by rw [hu]; exact HXU.out) ?_
        rw [hu]
        clear hu
        refine plan_yes rfl (fun K hK => ?_); go_simp; refine ⟨_, fun _ _ => rfl, hK _ ?_⟩; clear hK K
        refine plan_yes rfl (fun K hK => ?_); go_simp; refine ⟨_, fun _ _ => rfl, hK _ ?_⟩; clear hK K
        refine plan_yes rfl (fun K hK => ?_); go_simp; refine ⟨_, fun _ _ => rfl, hK _ ?_⟩; clear hK K
        refine plan_yes rfl (fun K hK => ?_); go_simp; refine ⟨_, fun _ _ => rfl, hK _ ?_⟩; clear hK K
        refine plan_yes rfl (fun K hK => ?_); go_simp; refine ⟨_, fun _ _ => rfl, hK _ ?_⟩; clear hK K
        refine plan_one rfl (fun K hK => ?_)
        go_wp2_with fail
        refine (HPI.out _ (HX1.out.trans (HX6.out.trans HXU.out))).mono ?_
        rintro e u1 ⟨v1, rfl, hm1, hx1⟩
        have HU1 := Lib.hid (show Ext w6 u1 from HXU.out.trans hx1)
        obtain ⟨B7, c7, rfl, hc7, hr7⟩ := hm1.slice
        have HSM := Lib.hid (same11 P1 P1 B6 B7 c6 c7 u1 (HR6.out.ext HU1.out) hr7 (by rw [HL6.out]; exact HFI.out))
        rw [decide_eq_true rfl, HL6.out] at HSM
        rw [HL6.out]
        clear hm1 hx1 hc7 hr7
        go_wp2
        refine ⟨by first | exact HU1.out | exact fun _ => HU1.out, ?_⟩
        refine plan_one rfl (fun K hK => ?_)
        go_wp2_with fail
        refine HSM.out.mono ?_
        rintro e u2 ⟨rfl, hx2⟩
        have HU2 := Lib.hid (show Ext w6 u2 from HU1.out.trans hx2)
        clear hx2
        go_wp2
        refine ⟨by first | exact HU2.out | exact fun _ => HU2.out, ?_⟩
        refine plan_yes rfl (fun K hK => ?_); go_simp; refine ⟨_, fun _ _ => rfl, hK _ ?_⟩; clear hK K
        refine plan_yes rfl (fun K hK => ?_); go_simp; refine ⟨_, fun _ _ => rfl, hK _ ?_⟩; clear hK K
        refine plan_load rfl 30 (.tmp 8) rfl (.agg VR) (by rfl) (fun W hW => LD.out W hW) ?_
        refine plan_yes rfl (fun K hK => ?_); go_simp; refine ⟨_, fun _ _ => rfl, hK _ ?_⟩; clear hK K
        refine plan_yes rfl (fun K hK => ?_); go_simp; refine ⟨_, fun _ _ => rfl, hK _ ?_⟩; clear hK K
        refine plan_yes rfl (fun K hK => ?_); go_simp; refine ⟨_, fun _ _ => rfl, hK _ ?_⟩; clear hK K
        refine plan_yes rfl (fun K hK => ?_); go_simp; refine ⟨_, fun _ _ => rfl, hK _ ?_⟩; clear hK K
        refine plan_one rfl (fun K hK => ?_)
        go_wp2_with fail
        refine (HRI.out _ (HX1.out.trans (HX6.out.trans HU2.out))).mono ?_
        rintro e u3 ⟨rfl, hx3⟩
        have HU3 := Lib.hid (show Ext w6 u3 from HU2.out.trans hx3)
        clear hx3
        go_wp2
        refine ⟨by first | exact HU3.out | exact fun _ => HU3.out, ?_⟩
        refine plan_yes rfl (fun K hK => ?_); go_simp; refine ⟨_, fun _ _ => rfl, hK _ ?_⟩; clear hK K
        refine plan_one rfl (fun K hK => ?_)
        go_wp2
        refine ⟨fun h => absurd h (by decide), ?_⟩
        unfold wpPlan
        have HMF := Lib.hid (HM6'.out.ext HU3.out)
        go_wp2
        clear e1 e2
        go_roundg g
        case measure => omega
        case rel => exact ⟨i1, by have := HIG.out; have := HI1.out; omega, rfl, by rw [HP1.out ()]; exact HMF.out, HX6.out.trans HU3.out⟩
end Go.Proofs.YthbfodmpoheahaaDoor

/-
  Numbers of one kind in a block of a call's own, that are changed one by one; what stays while other blocks are written. Conditions: none.
-/
namespace Go.Proofs.YthbfodmpoheahaaDoor
open Go.RowKit
open Pol (co Sm)

section
variable {k : IntKind}
/-- The first n cells of block g are the numbers F of kind k, and may be written. -/
def NCells (k : IntKind) (w : World) (g n : Nat) (F : Nat → Nat) : Prop := ∀ i, i < n → w.cell? ⟨g, i, none⟩ = some (.int k ((F i : Nat) : Int)) ∧ w.frozen? ⟨g, i, none⟩ = false
theorem NCells.drewN {w : World} {g n : Nat} {F : Nat → Nat} (h : NCells k w g n F) (q : Nat) : NCells k (w.drewN q) g n F := h
theorem NCells.congr {w : World} {g n : Nat} {F F' : Nat → Nat} (h : NCells k w g n F) (hf : ∀ i, i < n → F i = F' i) : NCells k w g n F' := fun i hi => ⟨by rw [(h i hi).1, hf i hi], (h i hi).2⟩
theorem NCells.store {w : World} {g n : Nat} {F : Nat → Nat} (h : NCells k w g n F) (j v : Nat) : NCells k (w.setCell ⟨g, j, none⟩ (.int k (v : Int))) g n (upd F j v) := fun i hi => by
  refine ⟨?_, by rw [World.frozen?_setCell]; exact (h i hi).2⟩
  unfold upd
  by_cases e : i = j
  · subst e
    rw [if_pos rfl]
    exact World.cell?_setCell_same' _ _ _ (by rw [(h i hi).1]; rfl)
  · rw [if_neg e, World.cell?_setCell_other _ _ _ _ (fun h => e (by cases h; rfl))]
    exact (h i hi).1
theorem NCells.keep {w w' : World} {g n : Nat} {F : Nat → Nat} {row : Option Nat} (h : NCells k w g n F) (hg : w.grownBy w' row) (hne : some g ≠ row) : NCells k w' g n F := fun i hi =>
  ⟨hg.cell (h i hi).1 hne, (World.frozen?_of_block (a := ⟨g, i, none⟩) (hg.block g (block_lt_of_cell (h i hi).1) hne)).trans (h i hi).2⟩
theorem NCells.ext {w w' : World} {g n : Nat} {F : Nat → Nat} (h : NCells k w g n F) (hx : Ext w w') : NCells k w' g n F := fun i hi =>
  ⟨(hx.below.cell (p := ⟨g, i, none⟩) (block_lt_of_cell (h i hi).1)).trans (h i hi).1, (hx.below.frozen (p := ⟨g, i, none⟩) (block_lt_of_cell (h i hi).1)).trans (h i hi).2⟩
theorem NRd.keep {w w' : World} {A : Option Addr} {l : List Nat} {row : Option Nat} (h : NRd k w A l) (hg : w.grownBy w' row) (hne : ∀ b o, A = some ⟨b, o, none⟩ → 0 < l.length → some b ≠ row) : NRd k w' A l := fun i hi => by
  obtain ⟨b, o, e, hc⟩ := h i hi
  exact ⟨b, o, e, hg.cell hc (hne b o e (by omega))⟩
theorem NMine.cells {T : TypeId} {w : World} {base : Nat} {v : Value} {l : List Nat} (hm : NMine T k w base v l) : ∃ A c g, v = .slice A l.length c ∧ l.length ≤ c ∧ (0 < l.length → A = some ⟨g, 0, none⟩ ∧ base ≤ g) ∧ NCells k w g l.length (co l) := by
  rcases hm.2 with ⟨rfl, hn⟩ | ⟨g, cap, cur, rfl, hb, hg, hnc, _, _, htake⟩
  · have : l = [] := List.eq_nil_of_length_eq_zero hn
    subst this
    exact ⟨none, 0, 0, rfl, Nat.le_refl _, fun h => absurd h (by simp), fun i hi => absurd hi (by simp)⟩
  · refine ⟨_, cap, g, rfl, hnc, fun _ => ⟨rfl, hb⟩, fun i hi => ⟨?_, frozen_of_row w g i cur _ hg⟩⟩
    rw [cell_of_row w g i cur _ _ hg, ← nv_at l i hi, ← htake, List.getElem?_take, if_pos (by omega)]
    simp
end
end Go.Proofs.YthbfodmpoheahaaDoor

/-
  What the document's own square and cube of layer 10 do. Conditions: a number below 2^16.
-/
namespace Go.Proofs.YthbfodmpoheahaaDoor
open Go.RowKit
open Pol (co Sm)

set_option maxHeartbeats 800000 in
set_option maxRecDepth 100000 in
theorem ref10_square (p : Nat) (w : World) (hp : p < 65536) :
    Calls Tryd.prog 45 #[.int .u64 (p : Int)] w (Tells (.int .u32 ((rtx 2 p 37 0 % 4294967296 : Nat) : Int)) w) := by
  have HAB := Lib.hid (fun (x : Nat) (ans : Bool) (W : World) (hx : x < 1099511627776) (ha : decide (p * 65536 ^ (2 * 2) < x ^ 2) = ans) => show Calls Tryd.prog 59 #[.slice (some ⟨W.heap.size, 0, none⟩) 2 2, .int .u64 (p : Int), .int .i64 2] (W.alloc (.cells (nv .u64 [x, x]).toArray 68)) (Tells (.bool ans) (W.alloc (.cells (nv .u64 [x, x]).toArray 68))) from by
    have h := ref10_above [x, x] p 2 W.heap.size 0 2 (W.alloc (.cells (nv .u64 [x, x]).toArray 68)) (fun i hi => by
      obtain ⟨b, o, e, hc⟩ := nrd_lit (k := .u64) (T := 68) W [x, x] i hi
      injection e with e
      injection e with e1 e2
      subst e1; subst e2
      exact hc) (fun f hf => by simp at hf; omega) (by simp) hp (by decide)
    rw [show [x, x].foldl (· * ·) 1 = x ^ 2 from by simp [Nat.pow_succ], ha] at h
    exact h)
  obtain ⟨R, hR⟩ : ∃ R, rtx 2 p 37 0 = R := ⟨_, rfl⟩
  have HRR := Lib.hid hR
  have hRb : R < 137438953472 := by rw [← hR]; have := rtx_lt 2 p 37 0; omega
  rw [hR]
  clear hR
  go_enter Tryd.func45, Tryd.ntmps45
  go_wp2
  go_loopg [3, 4] 37 (fun g s3 s4 wx => ∃ (r bit : Nat), s3 = .int .u64 (r : Int) ∧ s4 = .int .u64 (bit : Int) ∧ bit = 2 ^ g / 2 ∧ g ≤ 37 ∧ r + 2 ^ g ≤ 137438953472 ∧ rtx 2 p g r = R ∧ Ext w wx)
  case atStart => exact ⟨0, 68719476736, rfl, rfl, by decide, Nat.le_refl _, by decide, HRR.out, Ext.refl _⟩
  case round =>
    obtain ⟨r, bit, rfl, rfl, hbit, hg37, hrb, hrt, hx⟩ := hrel
    have HX := Lib.hid hx
    clear hx
    cases gk with
    | zero =>
      have hb0 : bit = 0 := by rw [hbit]
      subst hb0
      have hrr : r = R := hrt
      obtain ⟨y, hy⟩ : ∃ y, R % 4294967296 = y := ⟨_, rfl⟩
      have e1 : (R : Int) % 4294967296 = (y : Int) := by omega
      have e2 : IntKind.u32.wrap (y : Int) = (y : Int) := by rw [IntKind.wrap_u32]; omega
      have HY := Lib.hid hy
      clear hbit hrt hy
      subst hrr
      go_wp2
      go_ret
      exact ⟨ret_int (by rw [HY.out]), HX.out⟩
    | succ g =>
      have hbg : bit = 2 ^ g := by rw [hbit, Nat.pow_succ, Nat.mul_div_cancel _ (by decide)]
      have hbp : 0 < bit := by rw [hbg]; exact Nat.two_pow_pos g
      have d1 : decide ((0 : Int) < (bit : Int)) = true := decide_eq_true (by omega)
      have d2 : decide (0 < bit) = true := decide_eq_true hbp
      rw [Nat.pow_succ, ← hbg] at hrb
      rw [rtx, ← hbg] at hrt
      obtain ⟨x, hxx⟩ : ∃ x, r + bit = x := ⟨_, rfl⟩
      rw [hxx] at hrt
      have e1 : (r : Int) + (bit : Int) = (x : Int) := by omega
      obtain ⟨b2, hb2⟩ : ∃ b2, bit / 2 = b2 := ⟨_, rfl⟩
      have e2 : (bit : Int) / 2 = (b2 : Int) := by omega
      have HB2 := Lib.hid (show b2 = 2 ^ g / 2 by rw [← hb2, hbg])
      have HBG := Lib.hid hbg
      have hxb : x < 1099511627776 := by omega
      have hx64 : x < 18446744073709551616 := by omega
      by_cases hab : p * 65536 ^ (2 * 2) < x ^ 2
      · have HA := Lib.hid (HAB.out x true wr hxb (decide_eq_true hab))
        rw [if_pos hab] at hrt
        have HRT := Lib.hid hrt
        have HFIT := Lib.hid (show r + 2 ^ g ≤ 137438953472 by rw [← hbg]; omega)
        clear hab hrt hbit hbg hxx hb2
        go_wp2_with fail
        refine HA.out.mono ?_
        rintro e w1 ⟨rfl, hx1⟩
        have HX1 := Lib.hid ((HX.out.alloc _).trans hx1)
        clear hx1
        go_wp2
        go_roundg g
        case measure => omega
        case rel => exact ⟨r, b2, rfl, by go_num, HB2.out, by omega, HFIT.out, HRT.out, HX1.out⟩
      · have HA := Lib.hid (HAB.out x false wr hxb (decide_eq_false hab))
        rw [if_neg hab] at hrt
        have HRT := Lib.hid hrt
        have HFIT := Lib.hid (show x + 2 ^ g ≤ 137438953472 by rw [← hbg]; omega)
        clear hab hrt hbit hbg hxx hb2
        go_wp2_with fail
        refine HA.out.mono ?_
        rintro e w1 ⟨rfl, hx1⟩
        have HX1 := Lib.hid ((HX.out.alloc _).trans hx1)
        clear hx1
        go_wp2
        go_roundg g
        case measure => omega
        case rel => exact ⟨x, b2, rfl, by go_num, HB2.out, by omega, HFIT.out, HRT.out, HX1.out⟩

set_option maxHeartbeats 800000 in
set_option maxRecDepth 100000 in
theorem ref10_cube (p : Nat) (w : World) (hp : p < 65536) :
    Calls Tryd.prog 46 #[.int .u64 (p : Int)] w (Tells (.int .u32 ((rtx 3 p 37 0 % 4294967296 : Nat) : Int)) w) := by
  have HAB := Lib.hid (fun (x : Nat) (ans : Bool) (W : World) (hx : x < 1099511627776) (ha : decide (p * 65536 ^ (2 * 3) < x ^ 3) = ans) => show Calls Tryd.prog 59 #[.slice (some ⟨W.heap.size, 0, none⟩) 3 3, .int .u64 (p : Int), .int .i64 3] (W.alloc (.cells (nv .u64 [x, x, x]).toArray 68)) (Tells (.bool ans) (W.alloc (.cells (nv .u64 [x, x, x]).toArray 68))) from by
    have h := ref10_above [x, x, x] p 3 W.heap.size 0 3 (W.alloc (.cells (nv .u64 [x, x, x]).toArray 68)) (fun i hi => by
      obtain ⟨b, o, e, hc⟩ := nrd_lit (k := .u64) (T := 68) W [x, x, x] i hi
      injection e with e
      injection e with e1 e2
      subst e1; subst e2
      exact hc) (fun f hf => by simp at hf; omega) (by simp) hp (by decide)
    rw [show [x, x, x].foldl (· * ·) 1 = x ^ 3 from by simp [Nat.pow_succ], ha] at h
    exact h)
  obtain ⟨R, hR⟩ : ∃ R, rtx 3 p 37 0 = R := ⟨_, rfl⟩
  have HRR := Lib.hid hR
  have hRb : R < 137438953472 := by rw [← hR]; have := rtx_lt 3 p 37 0; omega
  rw [hR]
  clear hR
  go_enter Tryd.func46, Tryd.ntmps46
  go_wp2
  go_loopg [3, 4] 37 (fun g s3 s4 wx => ∃ (r bit : Nat), s3 = .int .u64 (r : Int) ∧ s4 = .int .u64 (bit : Int) ∧ bit = 2 ^ g / 2 ∧ g ≤ 37 ∧ r + 2 ^ g ≤ 137438953472 ∧ rtx 3 p g r = R ∧ Ext w wx)
  case atStart => exact ⟨0, 68719476736, rfl, rfl, by decide, Nat.le_refl _, by decide, HRR.out, Ext.refl _⟩
  case round =>
    obtain ⟨r, bit, rfl, rfl, hbit, hg37, hrb, hrt, hx⟩ := hrel
    have HX := Lib.hid hx
    clear hx
    cases gk with
    | zero =>
      have hb0 : bit = 0 := by rw [hbit]
      subst hb0
      have hrr : r = R := hrt
      obtain ⟨y, hy⟩ : ∃ y, R % 4294967296 = y := ⟨_, rfl⟩
      have e1 : (R : Int) % 4294967296 = (y : Int) := by omega
      have e2 : IntKind.u32.wrap (y : Int) = (y : Int) := by rw [IntKind.wrap_u32]; omega
      have HY := Lib.hid hy
      clear hbit hrt hy
      subst hrr
      go_wp2
      go_ret
      exact ⟨ret_int (by rw [HY.out]), HX.out⟩
    | succ g =>
      have hbg : bit = 2 ^ g := by rw [hbit, Nat.pow_succ, Nat.mul_div_cancel _ (by decide)]
      have hbp : 0 < bit := by rw [hbg]; exact Nat.two_pow_pos g
      have d1 : decide ((0 : Int) < (bit : Int)) = true := decide_eq_true (by omega)
      have d2 : decide (0 < bit) = true := decide_eq_true hbp
      rw [Nat.pow_succ, ← hbg] at hrb
      rw [rtx, ← hbg] at hrt
      obtain ⟨x, hxx⟩ : ∃ x, r + bit = x := ⟨_, rfl⟩
      rw [hxx] at hrt
      have e1 : (r : Int) + (bit : Int) = (x : Int) := by omega
      obtain ⟨b2, hb2⟩ : ∃ b2, bit / 2 = b2 := ⟨_, rfl⟩
      have e2 : (bit : Int) / 2 = (b2 : Int) := by omega
      have HB2 := Lib.hid (show b2 = 2 ^ g / 2 by rw [← hb2, hbg])
      have HBG := Lib.hid hbg
      have hxb : x < 1099511627776 := by omega
      have hx64 : x < 18446744073709551616 := by omega
      by_cases hab : p * 65536 ^ (2 * 3) < x ^ 3
      · have HA := Lib.hid (HAB.out x true wr hxb (decide_eq_true hab))
        rw [if_pos hab] at hrt
        have HRT := Lib.hid hrt
        have HFIT := Lib.hid (show r + 2 ^ g ≤ 137438953472 by rw [← hbg]; omega)
        clear hab hrt hbit hbg hxx hb2
        go_wp2_with fail
        refine HA.out.mono ?_
        rintro e w1 ⟨rfl, hx1⟩
        have HX1 := Lib.hid ((HX.out.alloc _).trans hx1)
        clear hx1
        go_wp2
        go_roundg g
        case measure => omega
        case rel => exact ⟨r, b2, rfl, by go_num, HB2.out, by omega, HFIT.out, HRT.out, HX1.out⟩
      · have HA := Lib.hid (HAB.out x false wr hxb (decide_eq_false hab))
        rw [if_neg hab] at hrt
        have HRT := Lib.hid hrt
        have HFIT := Lib.hid (show x + 2 ^ g ≤ 137438953472 by rw [← hbg]; omega)
        clear hab hrt hbit hbg hxx hb2
        go_wp2_with fail
        refine HA.out.mono ?_
        rintro e w1 ⟨rfl, hx1⟩
        have HX1 := Lib.hid ((HX.out.alloc _).trans hx1)
        clear hx1
        go_wp2
        go_roundg g
        case measure => omega
        case rel => exact ⟨x, b2, rfl, by go_num, HB2.out, by omega, HFIT.out, HRT.out, HX1.out⟩
end Go.Proofs.YthbfodmpoheahaaDoor

/-
  What the document's own primes of layer 10 does, of sixty-four. Conditions: none.
-/
namespace Go.Proofs.YthbfodmpoheahaaDoor
open Go.RowKit
open Pol (co Sm)

theorem prs_pos : ∀ n, ∀ q ∈ prs n, 2 ≤ q ∧ q < n
  | 0, q, h => by cases h
  | n + 1, q, h => by
    rw [prs] at h
    split at h
    · rename_i hc
      rcases List.mem_append.1 h with h | h
      · have := prs_pos n q h; omega
      · have : q = n := by simpa using h
        omega
    · have := prs_pos n q h; omega
theorem all_take (l : List Nat) (f : Nat → Bool) (i : Nat) (h : i < l.length) : (l.take (i + 1)).all f = ((l.take i).all f && f (co l i)) := by
  rw [take_snoc l i h, List.all_append]
  simp

set_option maxHeartbeats 800000 in
set_option maxRecDepth 100000 in
theorem ref10_primes (w : World) : Calls Tryd.prog 44 #[.int .i64 64] w (GivesN .u64 68 PR w) := by
  unfold GivesN
  have HPR := Lib.hid prs_last
  have HFEW := Lib.hid prs_few
  have HPOS := Lib.hid prs_pos
  generalize PR = V at *
  have HV64 := Lib.hid (show (prs 312).length = 64 from by rw [prs_last]; rfl)
  go_enter Tryd.func44, Tryd.ntmps44
  go_wp2
  go_loopg [3, 4] 310 (fun g s3 s4 wx => ∃ n : Nat, n + g = 312 ∧ 2 ≤ n ∧ s4 = .int .u64 (n : Int) ∧ NMine 68 .u64 wx w.heap.size s3 (prs n) ∧ Ext w wx)
  case atStart => exact ⟨2, by decide, by decide, rfl, NMine.nil _ _, Ext.refl _⟩
  case round =>
    obtain ⟨n, hng, hn2, rfl, hm, hx⟩ := hrel
    have HM := Lib.hid hm
    have HX := Lib.hid hx
    obtain ⟨B3, c3, rfl, hc3, hr3⟩ := hm.slice
    have HR3 := Lib.hid hr3
    have hs := hx.size
    clear hm hx hr3
    cases gk with
    | zero =>
      obtain rfl : n = 312 := by omega
      have hl := HV64.out
      obtain ⟨LL, hLL⟩ : ∃ LL, (prs 312).length = LL := ⟨_, rfl⟩
      rw [hLL] at hl HM ⊢
      obtain rfl : LL = 64 := hl
      rw [HPR.out] at HM
      clear hLL
      go_wp2
      go_ret
      exact ⟨_, rfl, HM.out, HX.out⟩
    | succ g =>
      have hn : n < 312 := by omega
      have hlt := HFEW.out n hn
      have HPN := Lib.hid (HPOS.out n)
      have HST := Lib.hid (show prs (n + 1) = if (prs n).all (fun q => n % q != 0) then prs n ++ [n] else prs n from by
        rw [prs]
        by_cases h : ((prs n).all fun q => n % q != 0) = true
        · rw [if_pos ⟨hn2, h⟩, if_pos h]
        · rw [if_neg (fun h' => h h'.2), if_neg h])
      obtain ⟨P, hP⟩ : ∃ P, prs n = P := ⟨_, rfl⟩
      rw [hP] at HM HR3 hlt HPN HST hc3 ⊢
      obtain ⟨L, hL⟩ : ∃ L, P.length = L := ⟨_, rfl⟩
      have HL := Lib.hid hL
      rw [hL] at HM hlt hc3 ⊢
      have d1 : decide ((L : Int) < 64) = true := decide_eq_true (by omega)
      have HNG := Lib.hid hng
      clear hP hL hng
      go_wp2
      obtain ⟨wq, hwq⟩ : ∃ q, q = wr := ⟨_, rfl⟩
      subst hwq
      go_loopg [5, 15] L (fun g s5 s15 wx => ∃ i : Nat, i + g = L ∧ s15 = .int .i64 (i : Int) ∧ s5 = .bool ((P.take i).all (fun q => n % q != 0)) ∧ wq = wx)
      case atStart => exact ⟨0, by omega, rfl, rfl, rfl⟩
      case round =>
        obtain ⟨i, hig, rfl, rfl, rfl⟩ := hrel
        cases gk with
        | zero =>
          obtain rfl : i = L := by omega
          have hT : P.take i = P := by rw [← HL.out, List.take_length]
          rw [hT]
          by_cases hall : (P.all fun q => n % q != 0) = true
          · have HS2 := Lib.hid (HST.out.trans (if_pos hall))
            rw [hall]
            clear hig hall hT
            go_wp2_with (at_builtin; refine wpList_append_nums nt64 rfl (.tmp 30) (.tmp 32) rfl w.heap.size (.slice B3 i c3) P [n] rfl (HM.out.ext ((Ext.refl _).alloc _)) wq.heap.size 0 1 1 rfl rfl one_num (by rw [HL.out]; simp; omega) (by simp; omega) ?_; intro v7 w7 hown7 hg7 hat7; rw [← HS2.out] at hown7; have HX7 := Lib.hid ((HX.out.alloc (.cells #[.int .u64 (n : Int)] 68)).more hg7 (fun q hq => (HM.out.block q hq).1)); have HM7 := Lib.hid hown7; clear hown7 hg7 hat7)
            go_roundg g
            case measure => omega
            case rel => exact ⟨n + 1, by have := HNG.out; omega, by omega, by go_num, HM7.out, HX7.out⟩
          · have hall' : (P.all fun q => n % q != 0) = false := by simpa using hall
            have HS2 := Lib.hid (HST.out.trans (if_neg hall))
            rw [hall']
            clear hig hall hT hall'
            go_wp2
            go_roundg g
            case measure => omega
            case rel => exact ⟨n + 1, by have := HNG.out; omega, by omega, by go_num, by rw [HS2.out]; exact HM.out, HX.out⟩
        | succ g2 =>
          have hi : i < L := by omega
          have hiI : (i : Int) < (L : Int) := by omega
          obtain ⟨b, o, rfl, hc⟩ := HR3.out i (by rw [HL.out]; exact hi)
          have HAT := Lib.hid (all_take P (fun q => n % q != 0) i (by rw [HL.out]; exact hi))
          have hq := HPN.out (co P i) (by unfold co; rw [List.getElem?_eq_getElem (by rw [HL.out]; exact hi)]; exact List.getElem_mem _)
          obtain ⟨q, hqe⟩ : ∃ q, co P i = q := ⟨_, rfl⟩
          rw [hqe] at hc hq HAT
          obtain ⟨r, hr⟩ : ∃ r, n % q = r := ⟨_, rfl⟩
          have e1 : (n : Int) % (q : Int) = (r : Int) := by rw [← hr]; omega
          have hqI : (q : Int) ≠ 0 := by omega
          clear hqe
          cases hb : (P.take i).all (fun q => n % q != 0) with
          | false =>
            have HB := Lib.hid (show (P.take (i + 1)).all (fun q => n % q != 0) = false from by rw [HAT.out, hb]; rfl)
            clear hb hr
            go_wp2
            go_roundg g2
            case measure => omega
            case rel => exact ⟨i + 1, by omega, by go_num, by rw [HB.out], rfl⟩
          | true =>
            have HB := Lib.hid (show (P.take (i + 1)).all (fun q => n % q != 0) = (r != 0) from by rw [HAT.out, hb, hr]; rfl)
            clear hb hr
            by_cases hr0 : r = 0
            · subst hr0
              go_wp2
              go_roundg g2
              case measure => omega
              case rel => exact ⟨i + 1, by omega, by go_num, by rw [HB.out]; rfl, rfl⟩
            · have d2 : ((r : Int) != 0) = true := by simp; omega
              have d3 : (r != 0) = true := by simp; omega
              have d4 : decide (r = 0) = false := decide_eq_false hr0
              have d5 : ((r : Int) == 0) = false := by simp; omega
              go_wp2
              go_roundg g2
              case measure => omega
              case rel => exact ⟨i + 1, by omega, by go_num, by rw [HB.out, d3], rfl⟩
end Go.Proofs.YthbfodmpoheahaaDoor

/-
  What the document's own turn of layer 10 does. Conditions: a word, by less than 32.
-/
namespace Go.Proofs.YthbfodmpoheahaaDoor
open Go.RowKit
open Pol (co Sm)

set_option maxHeartbeats 400000 in
theorem ref10_turn (x n : Nat) (w : World) (hx : x < 4294967296) (hn : n < 32) :
    Calls Tryd.prog 47 #[.int .u32 (x : Int), .int .u64 (n : Int)] w (fun e w' => e = .returned (.int .u32 ((tw x n : Nat) : Int)) ∧ w = w') := by
  obtain ⟨m, hm⟩ : ∃ m, 32 - n = m := ⟨_, rfl⟩
  obtain ⟨q, hq⟩ : ∃ q, x / 2 ^ n = q := ⟨_, rfl⟩
  obtain ⟨y, hy⟩ : ∃ y, x * 2 ^ m % 4294967296 = y := ⟨_, rfl⟩
  obtain ⟨z, hz⟩ : ∃ z, tw x n = z := ⟨_, rfl⟩
  have e1 : IntKind.u64.wrap (32 - (n : Int)) = (m : Int) := by rw [IntKind.wrap_u64]; omega
  have e1' : 32 - (n : Int) = (m : Int) := by omega
  have e2 : (x : Int) / 2 ^ n = (q : Int) := by rw [← hq]; simp
  have e3 : IntKind.u32.wrap ((x : Int) * 2 ^ m) = (y : Int) := by
    rw [IntKind.wrap_u32, ← hy]
    simp
  have hqb : q < 4294967296 := by rw [← hq]; exact Nat.lt_of_le_of_lt (Nat.div_le_self _ _) hx
  have hyb : y < 4294967296 := by rw [← hy]; exact Nat.mod_lt _ (by decide)
  have e4 : bits .or .u32 (q : Int) (y : Int) = (z : Int) := by
    rw [u32_or_nat q y hqb hyb, ← hz]
    unfold tw
    rw [hm, hq, hy]
  rw [hz]
  clear hm hq hy hz
  go_enter Tryd.func47, Tryd.ntmps47
  go_wp2
  go_ret
  exact ⟨rfl, rfl⟩
end Go.Proofs.YthbfodmpoheahaaDoor
