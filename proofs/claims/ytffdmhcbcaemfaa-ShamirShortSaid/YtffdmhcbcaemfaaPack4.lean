/-
  Part 4 of the texts that the seat's proofs stand on; each part of it begins with its own sentence and conditions. Conditions: those that each theorem names.
-/
import Derived.Test.YtffdmhcbcaemfaaPack3
import Derived.ArgAppend
import Derived.Deep.RegionLaw
import Derived.ProofKit
import Derived.OpenShut
import Derived.Deep.Slices
import Derived.Deep.SlicePairs
import Derived.StillTailTactics

/-
  What Decode of layer 4 does: the one polynomial that goes through all points but some, or its errors. Conditions: a field that New made, no more than 2^10 points.
-/
namespace Go.Proofs.Ytffdmhcbcaemfaa
open Go.RowKit
open Pol (co Sm px py trim Apart)
open Wel (Ap)
open Lin (SolSome SolNone)

set_option maxHeartbeats 800000 in
theorem w_decode_odd (f : Nat) (l : List (Nat × Nat)) (k v : Int) (A : Option Addr) (c : Nat) (w : World) (hr : PRd w A l) (hl : l.length ≤ 1024) (hk : In64 k) (hv : In64 v) (h : ¬ Fine l k v) :
    Calls Try.prog 35 #[.pointer (some ⟨f, 0, none⟩), .slice A l.length c, .int .i64 k, .int .i64 v] w (GivesE [] 1 w) := by
  by_cases hn : Nums l.length k v
  · have hap : ¬ Apart l l.length := fun e => h ⟨e, hn⟩
    have HD := Lib.hid (w_nums_yes l.length k v w (by omega) hn)
    have HR := Lib.hid (fun q => w_repeated l A c (w.drewN q) (hr.drewN q) (by omega))
    have HP := Lib.hid hap
    clear hr hk hv h hn hap
    generalize hN : l.length = n at *
    have HN := Lib.hid hN
    clear hN
    go_enter Try.func35, Try.ntmps35
    go_wp2_with fail
    refine HD.out.mono ?_
    rintro e w1 ⟨rfl, q, rfl⟩
    go_wp2_with fail
    refine (HR.out q).mono ?_
    rintro e w2 (⟨hp, _⟩ | ⟨_, rfl, hx⟩)
    · exact absurd (HN.out ▸ hp) HP.out
    · go_wp2
      go_ret2
      exact ⟨_, rfl, sl_none _, ((Ext.refl w).drewN q).trans hx⟩
  · have HD := Lib.hid (w_nums_no l.length k v w (by omega) hk hv hn)
    clear hr hk hv h hn
    generalize l.length = n at *
    go_enter Try.func35, Try.ntmps35
    go_wp2_with fail
    refine HD.out.mono ?_
    rintro e w1 ⟨rfl, q, rfl⟩
    go_wp2
    go_ret2
    exact ⟨_, rfl, sl_none _, (Ext.refl w).drewN q⟩

/-- s[:h] and s[l:] of bytes that fill their block. -/
theorem run_to_full (g n h : Nat) (H : Int) (hH : H = (h : Int)) (hh : h ≤ n) (W : World) :
    (Instr.slice 22 (.slice (some ⟨g, 0, none⟩) n n) none (some (.int .i64 H)) none).run Try.prog W = .ok (.slice (some ⟨g, 0, none⟩) h n) W := by
  subst hH
  obtain ⟨i0, hi, hz0, hz1, hz2⟩ := info_parts u8_info
  have he : Try.prog.elem 22 = 5 := by kernel_rfl
  rw [run_slice_h W 22 _ n n (by rw [he]; exact Try.underlying22) .i64 (h : Int) (by omega) (by omega), he]
  simp [sizeOf, typeInfo, hi, hz1, Result.andThen, sliced, addr_add]
theorem run_from_full (g n l : Nat) (L : Int) (hL : L = (l : Int)) (hl : l ≤ n) : ∃ o, (l < n → o = l) ∧ ∀ W,
    (Instr.slice 22 (.slice (some ⟨g, 0, none⟩) n n) (some (.int .i64 L)) none none).run Try.prog W = .ok (.slice (some ⟨g, o, none⟩) (n - l) (n - l)) W := by
  subst hL
  obtain ⟨i0, hi, hz0, hz1, hz2⟩ := info_parts u8_info
  have he : Try.prog.elem 22 = 5 := by kernel_rfl
  refine ⟨if n = l then 0 else l, fun h => if_neg (by omega), fun W => ?_⟩
  rw [run_slice_l W 22 _ n n (by rw [he]; exact Try.underlying22) .i64 (l : Int) (by omega) (by omega), he]
  simp [sizeOf, typeInfo, hi, hz1, Result.andThen, sliced, addr_add]
  split <;> simp
set_option maxRecDepth 100000 in
/-- An append to a slice without room. -/
theorem run_append_full (w : World) (ty : TypeId) (b o n c : Nat) (l m : List Nat) (hn : l.length = n) (hr : Rd w (some ⟨b, o, none⟩) l) (a : Addr) (hm : Rd w (some a) m) (h0 : 0 < m.length) (hlen : l.length + m.length ≤ 1099511627776) :
    ∃ v' w', (Builtin.append_ #[22, 22] ty #[.slice (some ⟨b, o, none⟩) n n, .slice (some a) m.length c]).run Try.prog w = .ok v' w' ∧ Mine w' w.heap.size v' (l ++ m) ∧ Ext w w' := by
  subst hn
  obtain ⟨i0, hi, hz0, hz1, hz2⟩ := info_parts u8_info
  have hcells : ∀ (L : List Nat) (A : Addr), Rd w (some A) L → ∀ j u, (bv L)[j]? = some u → w.cell? (A.add j) = some u := fun L A h j u hu => by
    have hj : j < L.length := by
      have := (List.getElem?_eq_some_iff.1 hu).1
      rwa [bv_len] at this
    obtain ⟨b, o, e, hc⟩ := h.2 j hj
    injection e with e
    subst e
    rw [addr_add, hc, ← bv_at L j hj, hu]
  obtain ⟨v', w', h1, h2, h3⟩ := run_append_arg_grows (P := Try.prog) w 22 ty 5 i0 (.int .u8 0) 1 1 Try.underlying22 hi hz0 hz1 hz2 rfl (by omega) ⟨b, o, none⟩ l.length l.length (bv l) (by rw [bv_len, Nat.mul_one]) (hcells l _ hr)
    a m.length c (bv m) (by rw [bv_len, Nat.mul_one]) (hcells m _ hm) (by omega) (by unfold maxLen; omega) (by omega)
  exact ⟨v', w', h1, by unfold Mine; rw [List.length_append, bv_append]; exact h2, (Ext.refl w).more h3 (fun k e => by cases e)⟩
theorem step_append_full {ops : Array Oper} {op : Oper} {a : Act} {w : World} {K : Act → World → Prop} {Q : Exit → Act → World → Prop} {E : Prop} (hgd : op.guard = none) (s x : Operand)
    (ho : op.op = .call { callee := .builtin .append, args := #[s, x], argTypes := #[22, 22] })
    (b o n : Nat) (l m : List Nat) (hs : a.eval s = .slice (some ⟨b, o, none⟩) n n) (hn : l.length = n) (hr : Rd w (some ⟨b, o, none⟩) l) (g c k : Nat) (hx : a.eval x = .slice (some ⟨g, 0, none⟩) k c) (hk : m.length = k) (hm : Rd w (some ⟨g, 0, none⟩) m) (h0 : 0 < m.length)
    (hlen : l.length + m.length ≤ 1099511627776)
    (h : ∀ v' w', Mine w' w.heap.size v' (l ++ m) → Ext w w' → K (a.put op.dst v') w') :
    if Region.wanted op (yielded ops a.tmps) = true then Oper.wp Try.prog op a w K Q else E := by
  subst hk
  rw [if_pos (by simp [Region.wanted, hgd])]
  obtain ⟨v', w', hrun, h2, h3⟩ := run_append_full w op.type b o n c l m hn hr ⟨g, 0, none⟩ hm h0 hlen
  unfold Oper.wp execOp
  simp only [ho, resolve, invoke, builtin, Sem.run_bind, Sem.run_pure, Result.andThen_ok, List.map_toArray, List.map_cons, List.map_nil, hs, hx, hrun]
  exact h v' w' h2 h3
theorem pad_tab (k : Nat) (q : List Nat) (h : q.length ≤ k) : tab k (fun i => if i < q.length then co q i else 0) = Wel.pad k q := by
  refine Lin.list_ext (by rw [tab_len, Wel.pad_len k q h]) (fun i hi => ?_)
  rw [tab_len] at hi
  rw [co_tab, if_pos hi, Wel.co_pad]
  split
  · rfl
  · exact (Pol.co_out q i (by omega)).symm
theorem Rd.from {w : World} {g o l : Nat} {x : List Nat} (h : Rd w (some ⟨g, 0, none⟩) x) (ho : l < x.length → o = l) : Rd w (some ⟨g, o, none⟩) (x.drop l) := by
  refine ⟨Pol.co_lt_of fun z hz => h.1.mem z (List.mem_of_mem_drop hz), fun i hi => ⟨g, o, rfl, ?_⟩⟩
  rw [List.length_drop] at hi
  obtain ⟨b, o', e, hc⟩ := h.2 (l + i) (by omega)
  injection e with e
  injection e with e1 e2
  subst e1; subst e2
  rw [ho (by omega)]
  rw [Nat.zero_add] at hc
  rw [hc]
  unfold co
  rw [List.getElem?_drop]

set_option maxHeartbeats 2000000 in
set_option maxRecDepth 100000 in
theorem w_decode (f : Nat) (l : List (Nat × Nat)) (k v : Nat) (A : Option Addr) (c : Nat) (w : World) (hf : IsField w f) (hr : PRd w A l) (hl : l.length ≤ 1024) (hap : Apart l l.length) (hk : 1 ≤ k) (hn : k + 2 * v ≤ l.length) :
    Calls Try.prog 35 #[.pointer (some ⟨f, 0, none⟩), .slice A l.length c, .int .i64 (k : Int), .int .i64 (v : Int)] w (DecE l k v w) := by
  have hA : Ap l := Wel.ap_of hr.1 hap
  have HD := Lib.hid (w_nums_yes l.length k v w (by omega) ⟨by omega, by omega, by omega⟩)
  have HR := Lib.hid (fun q => w_repeated l A c (w.drewN q) (hr.drewN q) (by omega))
  have HE := Lib.hid (fun W (hW : Ext w W) => w_equations f l k v A c W (hf.ext hW) (hr.ext hW) hl hk (by omega))
  have hw := eqs_wide l k v (by omega)
  obtain ⟨N2, hN2⟩ : ∃ N2, k + 2 * v = N2 := ⟨_, rfl⟩
  obtain ⟨m, hm⟩ : ∃ m, k + v = m := ⟨_, rfl⟩
  have HS := Lib.hid (fun W B d (hW : Ext w W) (hB : RRd W B (eqs l k v)) => show Calls Try.prog 50 #[.pointer (some ⟨f, 0, none⟩), .slice B l.length d] W (SolveX (KR (N2 + 1) (eqs l k v)) N2 W) from by
    have h := s_solve_x f (eqs l k v) B d W (hf.ext hW) hB (by rw [eqs_len]; omega) (fun i hi => by rw [eqs_len] at hi; rw [eqs_ro l k v i hi, eqr_len]; omega) (eqs_rt l k v (by omega))
    rw [hw, eqs_len, Nat.add_sub_cancel, hN2] at h
    exact h)
  have HNO := Lib.hid (none_code hA (k := k) (v := v) hk)
  have HKEY := Lib.hid (fun x (hx : SolSome (KR (N2 + 1) (eqs l k v)) N2 x) => sol_key (l := l) (k := k) (v := v) (x := x) hr.1 (by rw [hN2]; exact hx))
  have HREST := Lib.hid (fun Q E q r h1 h2 h3 h4 h5 h6 h7 h8 h9 h10 h11 => rest_code hA (k := k) (v := v) hk hn (Q := Q) (E := E) (q := q) (r := r) h1 h2 h3 h4 h5 h6 h7 h8 h9 h10 h11)
  have HQUO := Lib.hid (fun Q E q h1 h2 h3 h4 h5 h6 h7 h8 => quot_code hA (k := k) (v := v) (Q := Q) (E := E) (q := q) h1 h2 h3 h4 h5 h6 h7 h8)
  have HDIV := Lib.hid (fun W Q E B1 B2 c1 c2 (hW : Ext w W) h1 h2 h3 h4 h5 h6 h7 => pdiv_some f Q E B1 B2 c1 c2 W (hf.ext hW) h1 h2 h3 h4 h5 h6 h7)
  have HP := Lib.hid hap
  clear hr hf hap hA hw
  unfold DecE
  generalize hN : l.length = n at *
  have HN := Lib.hid hN
  clear hN
  go_enter Try.func35, Try.ntmps35
  go_wp2_with fail
  refine HD.out.mono ?_
  rintro e w1 ⟨rfl, q1, rfl⟩
  go_wp2_with fail
  refine (HR.out q1).mono ?_
  rintro e w2 (⟨_, rfl, hx2⟩ | ⟨hp, _⟩)
  rotate_left
  · exact absurd (HN.out ▸ HP.out) hp
  have HX2 := Lib.hid (((Ext.refl w).drewN q1).trans hx2)
  clear hx2 HR HD
  go_wp2_with fail
  refine (HE.out w2 HX2.out).mono ?_
  rintro e w3 ⟨B3, c3, rfl, hc3, hr3, hx3⟩
  rw [HN.out]
  have HX3 := Lib.hid (HX2.out.trans hx3)
  have HS3 := Lib.hid (HS.out w3 B3 c3 HX3.out hr3)
  clear hx3 hr3 hc3 HE HS
  go_wp2_with fail
  refine HS3.out.mono ?_
  rintro e w4 (⟨x, g, hsol, rfl, hrx, hx4⟩ | ⟨hno, vn, rfl, _, hx4⟩)
  rotate_left
  · have HX4 := Lib.hid (HX3.out.trans hx4)
    clear hx4
    go_wp2
    go_ret2
    exact .inr ⟨HNO.out (by rw [hN2]; exact hno), _, rfl, sl_none _, HX4.out⟩
  have HX4 := Lib.hid (HX3.out.trans hx4)
  have HSO := Lib.hid hsol
  have HRX := Lib.hid hrx
  have hxl := hsol.len
  have HXL := Lib.hid hxl
  clear hx4 hsol hrx HS3
  have hwr : IntKind.i64.wrap ((k : Int) + (v : Int)) = (m : Int) := by rw [IntWalk.i64_in _ (by omega)]; omega
  have hto := fun W => run_to_full g N2 m (m : Int) rfl (by omega) W
  obtain ⟨o, ho, hfrom⟩ := run_from_full g N2 m (m : Int) rfl (by omega)
  rw [show N2 - m = v from by omega] at hfrom
  have HRE := Lib.hid (HRX.out.from (l := m) (o := o) (fun h => ho (by omega)))
  have HLE := Lib.hid (show (x.drop m).length = v from by rw [List.length_drop, hxl]; omega)
  have HN2 := Lib.hid hN2
  have HM := Lib.hid hm
  clear ho hxl hN2 hm
  go_wp2
  go_region_law (refine step_append_full rfl (.tmp 48) (.tmp 49) rfl g o v (x.drop m) [1] rfl HLE.out (HRE.out.ext (((Ext.refl _).drewN _).alloc _)) w4.heap.size 1 1 rfl rfl (rd_one (w4.drewN _) 1 (by omega)) (by simp) (by rw [HLE.out]; simp; omega) ?_; intro v5 w5 hown5 hx5)
  have HL5 := Lib.hid (show (x.drop m ++ [1]).length = v + 1 from by rw [List.length_append, HLE.out]; rfl)
  have hqe : x.take m = qOf k v x ∧ x.drop m ++ [1] = eOf k v x := by rw [← HM.out]; exact ⟨rfl, rfl⟩
  have HQE := Lib.hid hqe
  have hlx : x.length = k + 2 * v := by rw [HXL.out, HN2.out]
  have HLX := Lib.hid hlx
  have HTOP := Lib.hid (eOf_top hlx)
  have HQL := Lib.hid (qOf_len hlx)
  obtain ⟨ge, ce, rfl, hce, hre, _⟩ := hown5.at (by rw [hqe.2]; exact eOf_sm HSO.out.sm) (by rw [HL5.out]; omega)
  rw [HL5.out] at hce ⊢
  have HRE5 := Lib.hid hre
  have hx45 := (((Ext.refl w4).drewN _).alloc _).trans hx5
  have HX5 := Lib.hid (HX4.out.trans hx45)
  have HRQ5 := Lib.hid ((HRX.out.ext hx45).take m)
  have HDV := Lib.hid (show Calls Try.prog 52 #[.pointer (some ⟨f, 0, none⟩), .slice (some ⟨g, 0, none⟩) m N2, .slice (some ⟨ge, 0, none⟩) (v + 1) ce] w5 (Quots (qOf k v x) (eOf k v x) w5) from by
    have h := HDIV.out w5 (x.take m) (x.drop m ++ [1]) (some ⟨g, 0, none⟩) (some ⟨ge, 0, none⟩) N2 ce HX5.out HRQ5.out HRE5.out (by rw [hqe.1, HQL.out]; have := HM.out; have := HN2.out; omega) (by rw [HL5.out]; exact hce) (by rw [hqe.1, HQL.out]; omega) (by rw [HL5.out]; omega) (by
      rw [hqe.2]
      intro e
      have := (Pol.trim_nil_iff _).1 e v
      rw [HTOP.out.1] at this
      omega)
    rw [hqe.1, HQL.out, HM.out] at h
    rw [← hqe.2]
    rw [HL5.out] at h
    exact h)
  clear hre hx45 hx5 hown5 hqe hlx hto hfrom hwr
  go_wp2_with fail
  refine HDV.out.mono ?_
  rintro e w6 ⟨vq, vr, q, r, rfl, ⟨Bq, cq, rfl, hcq, hrq⟩, ⟨Br, cr, rfl, hcr, hrr⟩, htq, htr, hmul, hlr, hlq, hx6⟩
  have HX6 := Lib.hid (HX5.out.trans hx6)
  have hlr' : r.length ≤ v := by
    have := Pol.trim_le (eOf k v x) (v + 1) (fun i hi => HTOP.out.2 i (by omega))
    omega
  have HLR := Lib.hid hlr'
  have HMUL := Lib.hid hmul
  have HTQ := Lib.hid htq
  have HTR := Lib.hid htr
  have HRQ := Lib.hid hrq
  clear hmul htq htr hrq hrr hx6 hlr hlr' hcr HDV HDIV
  by_cases hr0 : r = []
  · subst hr0
    obtain ⟨hqk, hcode⟩ := HQUO.out (qOf k v x) (eOf k v x) q (eOf_sm HSO.out.sm) HQL.out HTOP.out.1 HTOP.out.2 (HKEY.out x HSO.out) HRQ.out.1 (fun j => by have := HMUL.out j; rwa [Pol.co_nil, Nat.xor_zero] at this) HTQ.out
    have HCO := Lib.hid hcode
    have HPT := Lib.hid (pad_tab k q hqk)
    obtain ⟨nq, hnq⟩ : ∃ nq, q.length = nq := ⟨_, rfl⟩
    rw [hnq] at hcq hqk ⊢
    have HNQ := Lib.hid hnq
    have hmk := fun W => run_make_u8 k (by omega) W
    have HBK := Lib.hid (Blk.new w6 k (fun _ => 0))
    have HRQ7 := Lib.hid (HRQ.out.ext ((Ext.refl w6).alloc (.cells (bt k fun _ => 0) 5)))
    have HE7 := Lib.hid ((Ext.refl w6).alloc (.cells (bt k fun _ => 0) 5))
    clear hcode hnq hlq
    rw [List.length_nil]
    go_wp2_with (with_reducible refine wpList_copy_blk rfl (.tmp 68) (.tmp 69) rfl w6.heap.size k k (fun _ => 0) rfl HBK.out Bq q nq cq rfl HNQ.out HRQ7.out hqk w6 HE7.out (Nat.le_refl _) ?_; intro w8 HK8 hx8)
    go_wp2
    go_ret2
    refine .inl ⟨_, HCO.out, _, rfl, ⟨some ⟨w6.heap.size, 0, none⟩, k, by rw [HCO.out.len]; rfl, by rw [HCO.out.len]; exact Nat.le_refl _, ?_⟩, HX6.out.trans hx8⟩
    rw [← HPT.out]
    exact HK8.out.reads (fun i hi => by
      show (if i < q.length then co q i else 0) < 256
      split
      · exact HRQ.out.1 i
      · omega)
  · have hno := HREST.out (qOf k v x) (eOf k v x) q r (qOf_sm HSO.out.sm) (eOf_sm HSO.out.sm) HQL.out HTOP.out.1 HTOP.out.2 (HKEY.out x HSO.out) HRQ.out.1 HMUL.out HLR.out HTR.out hr0
    have hpos : 0 < r.length := List.length_pos_iff.2 hr0
    obtain ⟨nr, hnr⟩ : ∃ nr, r.length = nr := ⟨_, rfl⟩
    rw [hnr] at hpos ⊢
    have hposI : (0 : Int) < (nr : Int) := by omega
    have HNO2 := Lib.hid hno
    clear hno hnr hr0 hlq
    go_wp2
    go_ret2
    exact .inr ⟨HNO2.out, _, rfl, sl_none _, HX6.out⟩
end Go.Proofs.Ytffdmhcbcaemfaa

/-
  What Open of layer 5 does: it refuses what cannot open, and tells byte by byte what decoding tells. Conditions: a field that New made, no more than 2^10 shares.
-/
namespace Go.Proofs.Ytffdmhcbcaemfaa
open Go.RowKit
open Pol (co Sm ev px py Apart)

theorem open_of {l : List (Int × List Nat)} {o v b : Int} (h1 : 0 ≤ b) (h2 : b ≤ 4096) (hd : Diff l l.length) (ha : AllB l b l.length) (hn : Nums l.length o v) : OpenOk l o v b :=
  ⟨⟨h1, h2, hn.1, hn.2.1, hn.2.2⟩, fun i hi => ⟨(hd i hi).1, (hd i hi).2.1, ha i hi, (hd i hi).2.2⟩⟩
theorem OpenOk.diff {l : List (Int × List Nat)} {o v b : Int} (h : OpenOk l o v b) : Diff l l.length := fun i hi => ⟨(h.2 i hi).1, (h.2 i hi).2.1, (h.2 i hi).2.2.2⟩
theorem OpenOk.all {l : List (Int × List Nat)} {o v b : Int} (h : OpenOk l o v b) : AllB l b l.length := fun i hi => (h.2 i hi).2.2.1
theorem OpenOk.nums {l : List (Int × List Nat)} {o v b : Int} (h : OpenOk l o v b) : Nums l.length o v := ⟨h.1.2.2.1, h.1.2.2.2.1, h.1.2.2.2.2⟩
theorem diff_yes {l : List (Int × List Nat)} (h : Diff l l.length) (A : Option Addr) (ca : Nat) (w : World) (ha : SRd w A l) (hl : l.length ≤ 1048576) :
    Calls Try.prog 32 #[.slice A l.length ca] w (Tells (.bool true) w) :=
  (h_different l A ca w ha hl).mono fun _ _ e => e.elim (fun e => e.2) (fun e => absurd h e.1)
theorem diff_no {l : List (Int × List Nat)} (h : ¬ Diff l l.length) (A : Option Addr) (ca : Nat) (w : World) (ha : SRd w A l) (hl : l.length ≤ 1048576) :
    Calls Try.prog 32 #[.slice A l.length ca] w (Tells (.bool false) w) :=
  (h_different l A ca w ha hl).mono fun _ _ e => e.elim (fun e => absurd e.1 h) (fun e => e.2)
theorem all_yes {l : List (Int × List Nat)} {b : Int} (h : AllB l b l.length) (A : Option Addr) (ca : Nat) (w : World) (ha : SRd w A l) (hl : l.length ≤ 1048576) :
    Calls Try.prog 33 #[.slice A l.length ca, .int .i64 b] w (Tells (.bool true) w) :=
  (h_allOf l b A ca w ha hl).mono fun _ _ e => e.elim (fun e => e.2) (fun e => absurd h e.1)
theorem all_no {l : List (Int × List Nat)} {b : Int} (h : ¬ AllB l b l.length) (A : Option Addr) (ca : Nat) (w : World) (ha : SRd w A l) (hl : l.length ≤ 1048576) :
    Calls Try.prog 33 #[.slice A l.length ca, .int .i64 b] w (Tells (.bool false) w) :=
  (h_allOf l b A ca w ha hl).mono fun _ _ e => e.elim (fun e => absurd e.1 h) (fun e => e.2)

set_option maxHeartbeats 1600000 in
set_option maxRecDepth 100000 in
theorem h_shut (f : Nat) (l : List (Int × List Nat)) (o v b : Int) (A : Option Addr) (c : Nat) (w : World) (ha : SRd w A l) (hl : l.length ≤ 1024) (ho : In64 o) (hv : In64 v) (h : ¬ OpenOk l o v b) :
    Calls Try.prog 19 #[.pointer (some ⟨f, 0, none⟩), .slice A l.length c, .int .i64 o, .int .i64 v, .int .i64 b] w (GivesE [] 1 w) := by
  by_cases h1 : b < 0
  · have d1 : decide (b < 0) = true := decide_eq_true h1
    clear h ha
    go_enter Try.func19, Try.ntmps19
    go_wp2
    go_ret2
    exact ⟨_, rfl, sl_none _, Ext.refl w⟩
  have d1 : decide (b < 0) = false := decide_eq_false h1
  by_cases h2 : 4096 < b
  · have d2 : decide (4096 < b) = true := decide_eq_true h2
    clear h ha
    go_enter Try.func19, Try.ntmps19
    go_wp2
    go_ret2
    exact ⟨_, rfl, sl_none _, Ext.refl w⟩
  have d2 : decide (4096 < b) = false := decide_eq_false h2
  by_cases h3 : Diff l l.length
  · have HD := Lib.hid (diff_yes h3 A c w ha (by omega))
    by_cases h4 : AllB l b l.length
    · have HA := Lib.hid (fun W (hW : Ext w W) => all_yes h4 A c W (ha.ext hW) (by omega))
      have HE := Lib.hid (fun W => h_enough_no l.length o v W (by omega) ho hv (fun h5 => h (open_of (by omega) (by omega) h3 h4 h5)))
      clear h ha h3 h4 ho hv
      generalize l.length = n at *
      go_enter Try.func19, Try.ntmps19
      go_wp2_with fail
      refine HD.out.mono ?_
      rintro e w1 ⟨rfl, hx1⟩
      have HX1 := Lib.hid hx1
      clear hx1
      go_wp2_with fail
      refine (HA.out w1 HX1.out).mono ?_
      rintro e w2 ⟨rfl, hx2⟩
      have HX2 := Lib.hid (HX1.out.trans hx2)
      clear hx2
      go_wp2_with fail
      refine (HE.out w2).mono ?_
      rintro e w3 ⟨rfl, q3, rfl⟩
      go_wp2
      go_ret2
      exact ⟨_, rfl, sl_none _, HX2.out.drewN q3⟩
    · have HA := Lib.hid (fun W (hW : Ext w W) => all_no h4 A c W (ha.ext hW) (by omega))
      clear h ha h3 h4 ho hv
      generalize l.length = n at *
      go_enter Try.func19, Try.ntmps19
      go_wp2_with fail
      refine HD.out.mono ?_
      rintro e w1 ⟨rfl, hx1⟩
      have HX1 := Lib.hid hx1
      clear hx1
      go_wp2_with fail
      refine (HA.out w1 HX1.out).mono ?_
      rintro e w2 ⟨rfl, hx2⟩
      have HX2 := Lib.hid (HX1.out.trans hx2)
      clear hx2
      go_wp2
      go_ret2
      exact ⟨_, rfl, sl_none _, HX2.out⟩
  · have HD := Lib.hid (diff_no h3 A c w ha (by omega))
    clear h ha h3 ho hv
    generalize l.length = n at *
    go_enter Try.func19, Try.ntmps19
    go_wp2_with fail
    refine HD.out.mono ?_
    rintro e w1 ⟨rfl, hx1⟩
    have HX1 := Lib.hid hx1
    clear hx1
    go_wp2
    go_ret2
    exact ⟨_, rfl, sl_none _, HX1.out⟩

set_option maxHeartbeats 3200000 in
set_option maxRecDepth 100000 in
theorem h_opens (f : Nat) (l : List (Int × List Nat)) (k v b : Nat) (A : Option Addr) (c : Nat) (w : World) (hf : IsField w f) (ha : SRd w A l) (hl : l.length ≤ 1024) (h : OpenOk l (k : Int) (v : Int) (b : Int)) :
    Calls Try.prog 19 #[.pointer (some ⟨f, 0, none⟩), .slice A l.length c, .int .i64 (k : Int), .int .i64 (v : Int), .int .i64 (b : Int)] w (OpenE l k v b w) := by
  have HD := Lib.hid (diff_yes h.diff A c w ha (by omega))
  have HA := Lib.hid (fun W (hW : Ext w W) => all_yes h.all A c W (ha.ext hW) (by omega))
  have HE := Lib.hid (fun W => h_enough_yes l.length (k : Int) (v : Int) W (by omega) h.nums)
  have HP := Lib.hid (fun i W (hi : i < b) (hW : Ext w W) => h_points l i A c W (ha.ext hW) (by omega) (fun j hj => ⟨(h.2 j hj).1, (h.2 j hj).2.1, by have := (h.2 j hj).2.2.1; omega⟩))
  have hb2 := h.1.2.1
  have hk1 := h.1.2.2.1
  have hkn := h.1.2.2.2.2
  have HDE := Lib.hid (fun i X W (hW : Ext w W) (hX : PRd W X (pts l i)) => show Calls Try.prog 35 #[.pointer (some ⟨f, 0, none⟩), .slice X l.length l.length, .int .i64 (k : Int), .int .i64 (v : Int)] W (DecE (pts l i) k v W) from by
    have h' := w_decode f (pts l i) k v X l.length W (hf.ext hW) hX (by rw [pts_len]; exact hl) (h.apart i) (by omega) (by rw [pts_len]; omega)
    rwa [pts_len] at h')
  have d1 : decide ((b : Int) < 0) = false := decide_eq_false (by omega)
  have d2 : decide (4096 < (b : Int)) = false := decide_eq_false (by omega)
  clear h ha hf
  unfold PtsE at HP
  unfold OpenE
  generalize l.length = n at *
  have hmk := fun W => run_make_u8 b (by omega) W
  go_enter Try.func19, Try.ntmps19
  go_wp2_with fail
  refine HD.out.mono ?_
  rintro e w1 ⟨rfl, hx1⟩
  have HX1 := Lib.hid hx1
  clear hx1
  go_wp2_with fail
  refine (HA.out w1 HX1.out).mono ?_
  rintro e w2 ⟨rfl, hx2⟩
  have HX2 := Lib.hid (HX1.out.trans hx2)
  clear hx2
  go_wp2_with fail
  refine (HE.out w2).mono ?_
  rintro e w3 ⟨rfl, q3, rfl⟩
  have HX3 := Lib.hid (HX2.out.drewN q3)
  generalize w2.drewN q3 = w3 at HX3 ⊢
  clear HD HA HE HX1 HX2 d1 d2
  go_wp2
  clear hmk
  go_loopg [44] b (fun gh s wx => ∃ (i : Nat) (a : Nat → List Nat), i + gh = b ∧ s = .int .i64 (i : Int) ∧ (∀ j, j < i → Wel.Code (pts l j) k v (a j)) ∧ Blk wx w3.heap.size b (firstk (fun j => co (a j) 0) i) ∧ Ext w3 wx)
  case atStart => exact ⟨0, fun _ => [], by omega, rfl, fun j hj => by omega, Blk.new w3 b (firstk _ 0), (Ext.refl _).alloc _⟩
  case round =>
    obtain ⟨i, a, hig, rfl, hcd, hblk, hx⟩ := hrel
    have HC := Lib.hid hcd
    have HK := Lib.hid hblk
    have HX := Lib.hid hx
    clear hcd hblk hx
    cases gk with
    | zero =>
      obtain rfl : i = b := by omega
      clear hig
      go_wp2
      go_ret2
      refine .inl ⟨a, HC.out, _, rfl, ⟨some ⟨w3.heap.size, 0, none⟩, i, (show Value.slice (some ⟨w3.heap.size, 0, none⟩) i i = Value.slice (some ⟨w3.heap.size, 0, none⟩) (tab i fun j => co (a j) 0).length i from by rw [tab_len]), Nat.le_of_eq (tab_len _ _), ?_⟩, HX3.out.trans HX.out⟩
      exact (HK.out.congr (f' := fun j => co (a j) 0) (fun j hj => if_pos hj)).reads (fun j hj => (HC.out j hj).sm 0)
    | succ gh =>
      have hi : i < b := by omega
      have hiI : (i : Int) < (b : Int) := by omega
      go_wp2_with fail
      refine (HP.out i wr hi (HX3.out.trans HX.out)).mono ?_
      rintro e w5 ⟨X, rfl, hpr, hx5⟩
      have HX5 := Lib.hid (HX.out.trans hx5)
      have HPR := Lib.hid hpr
      have HK5 := Lib.hid (HK.out.ext hx5)
      clear hpr hx5 HK HX
      go_wp2_with fail
      refine (HDE.out i X w5 (HX3.out.trans HX5.out) HPR.out).mono ?_
      rintro e w6 hdec
      rcases hdec with ⟨ai, hcode, v', rfl, ⟨B, cB, rfl, hcB, hr⟩, hx6⟩ | ⟨hno, v', rfl, ⟨B, cB, rfl, hcB, hr⟩, hx6⟩
      · have hlen := hcode.len
        obtain ⟨b1, o1, e1, hc1⟩ := hr.2 0 (by omega)
        subst e1
        rw [Nat.add_zero] at hc1
        obtain ⟨y, hy⟩ : ∃ y, co ai 0 = y := ⟨_, rfl⟩
        have hyb := hcode.sm 0
        rw [hy] at hc1 hyb
        rw [hlen] at hcB ⊢
        have hkI : (0 : Int) < (k : Int) := by omega
        have hz := (HK5.out.ext hx6).cell i hi
        have hz2 := (HK5.out.ext hx6).frozen i
        have HC6 := Lib.hid (show ∀ j, j < i + 1 → Wel.Code (pts l j) k v (if j = i then ai else a j) from fun j hj => by
          by_cases e : j = i
          · rw [if_pos e, e]; exact hcode
          · rw [if_neg e]; exact HC.out j (by omega))
        have HS := Lib.hid (((HK5.out.ext hx6).store i y).congr (f' := firstk (fun j => co (if j = i then ai else a j) 0) (i + 1)) (fun j _ => by
          unfold upd firstk
          show (if j = i then y else if j < i then co (a j) 0 else 0) = if j < i + 1 then co (if j = i then ai else a j) 0 else 0
          by_cases e : j = i
          · rw [if_pos e, if_pos (by omega), if_pos e, hy]
          · rw [if_neg e, if_neg e]
            by_cases h : j < i
            · rw [if_pos h, if_pos (by omega)]
            · rw [if_neg h, if_neg (by omega)]))
        have HX6 := Lib.hid ((HX5.out.trans hx6).setCell (p := ⟨w3.heap.size, i, none⟩) (Nat.le_refl _) (.int .u8 (y : Int)))
        clear hcode hr hx6 hy HK5 HPR hlen
        generalize firstk (fun j => co (a j) 0) i i = old at hz
        go_wp2
        go_roundg gh
        case measure => omega
        case rel => exact ⟨i + 1, _, by omega, by go_num, HC6.out, HS.out, HX6.out⟩
      · have HNO := Lib.hid hno
        have HX6 := Lib.hid (HX5.out.trans hx6)
        clear hno hx6 hr hcB
        go_wp2
        go_ret2
        exact .inr ⟨⟨i, hi, HNO.out⟩, _, rfl, sl_none _, HX3.out.trans HX6.out⟩
end Go.Proofs.Ytffdmhcbcaemfaa

/-
  What Right of layer 5 does: it tells whether a share is one of those that were dealt. Conditions: a field that New made, no more than 2^12 bytes and coins.
-/
namespace Go.Proofs.Ytffdmhcbcaemfaa
open Go.RowKit
open Pol (co Sm ev px py)

set_option maxHeartbeats 1600000 in
set_option maxRecDepth 100000 in
theorem h_right_no (f : Nat) (who : Int) (nx ns nc : Nat) (o : Int) (X A B : Option Addr) (cx ca cb : Nat) (w : World) (h : ¬ (0 ≤ who ∧ who ≤ 199 ∧ nx = ns ∧ DealN ns nc o 200)) :
    Calls Try.prog 18 #[.pointer (some ⟨f, 0, none⟩), .agg #[.int .i64 who, .slice X nx cx], .slice A ns ca, .slice B nc cb, .int .i64 o] w (Tells (.bool false) w) := by
  by_cases h1 : 0 ≤ who ∧ who ≤ 199
  · have HP := Lib.hid (fun W => h_part_yes who W h1.1 h1.2)
    by_cases h2 : nx = ns
    · have t : ((nx : Int) != (ns : Int)) = false := by rw [h2]; simp
      have HD := Lib.hid (fun W => h_dealable_no ns nc o 200 A B ca cb W (fun h3 => h ⟨h1.1, h1.2, h2, h3⟩))
      clear h h1 h2
      go_enter Try.func18, Try.ntmps18
      go_wp2_with fail
      refine (HP.out _).mono ?_
      rintro e w1 ⟨rfl, q1, rfl⟩
      go_wp2_with fail
      refine (HD.out _).mono ?_
      rintro e w2 ⟨rfl, q2, rfl⟩
      go_wp2
      go_ret
      exact ⟨rfl, ((Ext.refl w).alloc _).drewN (q1 + q2)⟩
    · have t : ((nx : Int) != (ns : Int)) = true := by simp; omega
      clear h h1 h2
      go_enter Try.func18, Try.ntmps18
      go_wp2_with fail
      refine (HP.out _).mono ?_
      rintro e w1 ⟨rfl, q1, rfl⟩
      go_wp2
      go_ret
      exact ⟨rfl, ((Ext.refl w).alloc _).drewN q1⟩
  · have HP := Lib.hid (fun W => h_part_no who W h1)
    clear h h1
    go_enter Try.func18, Try.ntmps18
    go_wp2_with fail
    refine (HP.out _).mono ?_
    rintro e w1 ⟨rfl, q1, rfl⟩
    go_wp2
    go_ret
    exact ⟨rfl, ((Ext.refl w).alloc _).drewN q1⟩

set_option maxHeartbeats 3200000 in
set_option maxRecDepth 100000 in
theorem h_right_yes (f : Nat) (p d : Nat) (x s c : List Nat) (o : Int) (X A B : Option Addr) (cx ca cb : Nat) (w : World) (hf : IsField w f) (hx : Rd w X x) (hs : Rd w A s) (hc : Rd w B c) (hcb : c.length ≤ cb) (hp : p < 200) (ho : o = (d : Int) + 1) (hxs : x.length = s.length) (h : DealOk s c o 200) :
    Calls Try.prog 18 #[.pointer (some ⟨f, 0, none⟩), .agg #[.int .i64 (p : Int), .slice X x.length cx], .slice A s.length ca, .slice B c.length cb, .int .i64 o] w (SaysT (x = shr s c d p) w) := by
  have hcl := h.len ho
  have h4 := h.2.2.2.1
  have hd : d < 200 := by have := h.2.1; omega
  have HP := Lib.hid (fun W => h_part_yes (p : Int) W (by omega) (by omega))
  have HD := Lib.hid (fun W => h_dealable_yes s.length c.length o 200 A B ca cb W h)
  have HV := Lib.hid (fun i W (hi : i < s.length) (hW : Ext w W) => h_value f s c d i p o A B ca cb W (hf.ext hW) (hs.ext hW) (hc.ext hW) hcb ho hd hi hcl h4 hp)
  have hshr : shr s c d p = tab s.length (fun i => ev (pl s c d i) (p + 1)) := rfl
  obtain ⟨F, hF⟩ : ∃ F : Nat → Nat, (fun i => ev (pl s c d i) (p + 1)) = F := ⟨_, rfl⟩
  rw [hF] at hshr
  have HVF := Lib.hid (fun i W (hi : i < s.length) (hW : Ext w W) => show Calls Try.prog 31 #[.pointer (some ⟨f, 0, none⟩), .slice A s.length ca, .slice B c.length cb, .int .i64 o, .int .i64 (i : Int), .int .i64 (p : Int)] W (Tells (.int .u8 ((F i : Nat) : Int)) W) from by
    rw [← hF]; exact HV.out i W hi hW)
  have HFB := Lib.hid (show ∀ i, F i < 256 from fun i => by rw [← hF]; exact Pol.ev_lt _ _ (pl_sm hs.1 hc.1 d i))
  have HXS := Lib.hid hxs
  have HX0 := Lib.hid hx
  have HYES := Lib.hid (show (∀ i, i < s.length → co x i = F i) → x = shr s c d p from fun h => by
    rw [hshr]
    exact Lin.list_ext (by rw [tab_len]; exact hxs) fun i hi => by rw [co_tab, if_pos (by omega)]; exact h i (by omega))
  have HNO := Lib.hid (show ∀ i, i < s.length → co x i ≠ F i → x ≠ shr s c d p from fun i hi hne e => hne (by rw [e, hshr, co_tab, if_pos hi]))
  have t : ((x.length : Int) != (s.length : Int)) = false := by rw [hxs]; simp
  unfold SaysT
  generalize shr s c d p = S at *
  clear hf hs hc hcl h hF HV ho hshr hx hxs
  generalize s.length = ns at *
  generalize c.length = nc at *
  generalize hnx : x.length = nx at *
  have HNX := Lib.hid hnx
  clear hnx
  go_enter Try.func18, Try.ntmps18
  go_wp2_with fail
  refine (HP.out _).mono ?_
  rintro e w1 ⟨rfl, q1, rfl⟩
  go_wp2_with fail
  refine (HD.out _).mono ?_
  rintro e w2 ⟨rfl, q2, rfl⟩
  have HX2 := Lib.hid ((((Ext.refl w).alloc (.cells #[.int .i64 (p : Int), .slice X nx cx] 24)).drewN q1).drewN q2)
  have HG0 := Lib.hid (show (((w.alloc (.cells #[.int .i64 (p : Int), .slice X nx cx] 24)).drewN q1).drewN q2).cell? ⟨w.heap.size, 0, none⟩ = some (.int .i64 (p : Int)) from by
    show (w.alloc (.cells #[.int .i64 (p : Int), .slice X nx cx] 24)).cell? ⟨w.heap.size, 0, none⟩ = _
    rw [cell_of_row _ _ _ _ _ _ (heap_alloc_new w _)]; rfl)
  have HG1 := Lib.hid (show (((w.alloc (.cells #[.int .i64 (p : Int), .slice X nx cx] 24)).drewN q1).drewN q2).cell? ⟨w.heap.size, 1, none⟩ = some (.slice X nx cx) from by
    show (w.alloc (.cells #[.int .i64 (p : Int), .slice X nx cx] 24)).cell? ⟨w.heap.size, 1, none⟩ = _
    rw [cell_of_row _ _ _ _ _ _ (heap_alloc_new w _)]; rfl)
  generalize ((w.alloc (.cells #[.int .i64 (p : Int), .slice X nx cx] 24)).drewN q1).drewN q2 = w2 at HX2 HG0 HG1 ⊢
  clear HP HD
  go_wp2
  go_loopg [33] ns (fun g s wx => ∃ k : Nat, k + g = ns ∧ s = .int .i64 (k : Int) ∧ (∀ j, j < k → co x j = F j) ∧ Ext w2 wx)
  case atStart => exact ⟨0, by omega, rfl, fun j hj => by omega, Ext.refl w2⟩
  case round =>
    obtain ⟨k, hkg, rfl, hall, hxx⟩ := hrel
    have HALL := Lib.hid hall
    have HX := Lib.hid hxx
    clear hall hxx
    cases gk with
    | zero =>
      obtain rfl : k = ns := by omega
      clear hkg
      go_wp2
      go_ret
      exact .inl ⟨HYES.out HALL.out, rfl, HX2.out.trans HX.out⟩
    | succ g =>
      have hk : k < ns := by omega
      have hkI : (k : Int) < (nx : Int) := by have := HXS.out; have := HNX.out; omega
      have hkI2 : (k : Int) < (ns : Int) := by omega
      obtain ⟨b1, o1, e1, hc1⟩ := (HX0.out.ext (HX2.out.trans HX.out)).2 k (by have := HXS.out; have := HNX.out; omega)
      have hyb := HX0.out.1 k
      subst e1
      obtain ⟨y, hy⟩ : ∃ y, co x k = y := ⟨_, rfl⟩
      obtain ⟨r, hr⟩ : ∃ r, F k = r := ⟨_, rfl⟩
      have hrb := HFB.out k
      rw [hy] at hc1 hyb
      rw [hr] at hrb
      have FW := Lib.hid (show ∀ W, After wr W → W.cell? ⟨w.heap.size, 0, none⟩ = some (.int .i64 (p : Int)) from fun W hW => ((HX.out.trans hW).below.cell (p := ⟨w.heap.size, 0, none⟩) (block_lt_of_cell HG0.out)).trans HG0.out)
      have FS := Lib.hid (show ∀ W, After wr W → W.cell? ⟨w.heap.size, 1, none⟩ = some (.slice (some ⟨b1, o1, none⟩) nx cx) from fun W hW => ((HX.out.trans hW).below.cell (p := ⟨w.heap.size, 1, none⟩) (block_lt_of_cell HG1.out)).trans HG1.out)
      have FX := Lib.hid (show ∀ W, After wr W → W.cell? ⟨b1, o1 + k, none⟩ = some (.int .u8 (y : Int)) from fun W hW => ((Ext.below hW).cell (p := ⟨b1, o1 + k, none⟩) (block_lt_of_cell hc1)).trans hc1)
      have FV := Lib.hid (show ∀ W, After wr W → Calls Try.prog 31 #[.pointer (some ⟨f, 0, none⟩), .slice A ns ca, .slice B nc cb, .int .i64 o, .int .i64 (k : Int), .int .i64 (p : Int)] W (fun e w' => e = .returned (.int .u8 (r : Int)) ∧ After wr w') from fun W hW => by
        have h := HVF.out k W hk (HX2.out.trans (HX.out.trans hW))
        rw [hr] at h
        exact h.mono fun _ _ h => ⟨h.1, Ext.trans hW h.2⟩)
      clear hc1
      by_cases e : y = r
      · have t2 : ((y : Int) != (r : Int)) = false := by rw [e]; simp
        have HE := Lib.hid (show co x k = F k from by rw [hy, hr, e])
        clear e hy hr
        go_wp2
        refine wp_region_quiet (C := After wr) (by kernel_rfl) (by kernel_rfl) (show After wr wr.drew from (Ext.refl wr).drew) ?_
        repeat (first
          | (refine wpQuiet_step (fun K hK => ?_); go_simp; refine ⟨_, fun _ _ => rfl, hK _ ?_⟩; clear hK K)
          | (refine wpQuiet_step (fun K hK => ?_); go_simp; refine ⟨.int .u8 (y : Int), fun W hW => ?_, hK _ ?_⟩; (focus (have h1 := FX.out W hW; go_simp; done)); clear hK K)
          | (refine wpQuiet_step (fun K hK => ?_); go_simp; refine ⟨.slice (some ⟨b1, o1, none⟩) nx cx, fun W hW => ?_, hK _ ?_⟩; (focus (have h1 := FS.out W hW; go_simp; done)); clear hK K)
          | (refine wpQuiet_step (fun K hK => ?_); go_simp; refine ⟨.int .i64 (p : Int), fun W hW => ?_, hK _ ?_⟩; (focus (have h1 := FW.out W hW; go_simp; done)); clear hK K)
          | (refine wpQuiet_step (fun K hK => ?_); go_simp; refine ⟨_, fun W hW => FV.out W hW, hK _ ?_⟩; clear hK K))
        refine wpQuiet_nil ?_
        intro u2 hu2
        have HY2 := Lib.hid (HX.out.trans hu2)
        clear hu2
        go_wp2
        go_roundg g
        case measure => omega
        case rel => exact ⟨k + 1, by omega, by go_num, fun j hj => by
          by_cases e : j = k
          · subst e; exact HE.out
          · exact HALL.out j (by omega), HY2.out⟩
      · have t2 : ((y : Int) != (r : Int)) = true := by simp; omega
        have HE := Lib.hid (HNO.out k hk (by rw [hy, hr]; exact e))
        clear e hy hr
        go_wp2
        refine wp_region_quiet (C := After wr) (by kernel_rfl) (by kernel_rfl) (show After wr wr.drew from (Ext.refl wr).drew) ?_
        repeat (first
          | (refine wpQuiet_step (fun K hK => ?_); go_simp; refine ⟨_, fun _ _ => rfl, hK _ ?_⟩; clear hK K)
          | (refine wpQuiet_step (fun K hK => ?_); go_simp; refine ⟨.int .u8 (y : Int), fun W hW => ?_, hK _ ?_⟩; (focus (have h1 := FX.out W hW; go_simp; done)); clear hK K)
          | (refine wpQuiet_step (fun K hK => ?_); go_simp; refine ⟨.slice (some ⟨b1, o1, none⟩) nx cx, fun W hW => ?_, hK _ ?_⟩; (focus (have h1 := FS.out W hW; go_simp; done)); clear hK K)
          | (refine wpQuiet_step (fun K hK => ?_); go_simp; refine ⟨.int .i64 (p : Int), fun W hW => ?_, hK _ ?_⟩; (focus (have h1 := FW.out W hW; go_simp; done)); clear hK K)
          | (refine wpQuiet_step (fun K hK => ?_); go_simp; refine ⟨_, fun W hW => FV.out W hW, hK _ ?_⟩; clear hK K))
        refine wpQuiet_nil ?_
        intro u2 hu2
        have HY2 := Lib.hid (HX.out.trans hu2)
        clear hu2
        go_wp2
        go_ret
        exact .inr ⟨HE.out, rfl, HX2.out.trans HY2.out⟩
end Go.Proofs.Ytffdmhcbcaemfaa

/-
  Layer 5's functions do what the laws of layer 5 stand on. Conditions: those of ShamirSaid.
-/
namespace Go.Proofs.Ytffdmhcbcaemfaa
open Go.RowKit
open Pol (co Sm ev px py Apart)

theorem h_right (f : Nat) (who : Int) (x s c : List Nat) (o : Int) (X A B : Option Addr) (cx ca cb : Nat) (w : World) (hf : IsField w f) (hx : Rd w X x) (hs : Rd w A s) (hc : Rd w B c) (hcb : c.length ≤ cb) :
    Calls Try.prog 18 #[.pointer (some ⟨f, 0, none⟩), .agg #[.int .i64 who, .slice X x.length cx], .slice A s.length ca, .slice B c.length cb, .int .i64 o] w (SaysT (RightP who x s c o) w) := by
  by_cases h : 0 ≤ who ∧ who ≤ 199 ∧ x.length = s.length ∧ DealN s.length c.length o 200
  · obtain ⟨h1, h2, h3, h4⟩ := h
    have hok : DealOk s c o 200 := h4
    obtain ⟨d, n, ho, _⟩ := hok.d
    obtain ⟨p, rfl⟩ : ∃ p : Nat, who = (p : Int) := ⟨who.toNat, by omega⟩
    have hd : (o - 1).toNat = d := by omega
    refine (h_right_yes f p d x s c o X A B cx ca cb w hf hx hs hc hcb (by omega) ho h3 hok).mono fun _ _ e => ?_
    rcases e with ⟨e, ht⟩ | ⟨e, ht⟩
    · exact .inl ⟨⟨h1, h2, hok, by rw [hd]; exact e⟩, ht⟩
    · exact .inr ⟨fun hr => e (by have := hr.2.2.2; rw [hd] at this; exact this), ht⟩
  · exact (h_right_no f who x.length s.length c.length o X A B cx ca cb w h).mono fun _ _ ht => .inr ⟨fun hr => h ⟨hr.1, hr.2.1, by rw [hr.2.2.2, shr_len], hr.2.2.1⟩, ht⟩

theorem shamirSaid : ShamirSaid where
  coins b o w _ _ := h_coins b o w
  odd f s c o m A B ca cb w _ _ _ _ _ _ _ _ _ h := h_deal_odd f s c o m A B ca cb w h
  deal f s c d n A B ca cb w hf hs hc _ hcb _ _ h := h_deal f s c ((d + 1 : Nat) : Int) d n A B ca cb w hf hs hc hcb h (by omega)
  shut f l o v b A c w _ ha _ hl _ _ ho hv _ h := h_shut f l o v b A c w ha hl ho hv h
  opens f l k v b A c w hf ha _ hl h := h_opens f l k v b A c w hf ha hl h
  right f who x s c o X A B cx ca cb w hf hx hs hc _ _ hcb _ _ _ _ _ := h_right f who x s c o X A B cx ca cb w hf hx hs hc hcb
end Go.Proofs.Ytffdmhcbcaemfaa

/-
  An argument that is a slice of bytes, or of points, reads as a list. Conditions: none.
-/
namespace Go.Proofs.Ytffdmhcbcaemfaa
open Go.RowKit
open Go.ChangeShapes Go.WideShapes Go.ChangeAt
open Pol (co Sm)

section
variable {H : Type} {enc : TypeId × Value → H} {w : World} {base : Nat} {spare : Nat → Bool} {held : Bool}
theorem open_bytes {fuel len cap : Nat} {a : Option Addr} {x : DataW H × List MemPlace} (h : DataW.trod enc Try.prog w base spare held fuel 22 [.slice a len cap] = some x) :
    ∃ l : List Nat, l.length = len ∧ len ≤ cap ∧ Rd w a l := by
  rcases open_ints Try.underlying22 Try.underlying5 (by kernel_rfl) h with ⟨hcs, _⟩ | ⟨a', len', cap', zs, hcs, _, hl, _, hz, _, hcell, hwz⟩
  · simp at hcs
    obtain ⟨rfl, rfl, rfl⟩ := hcs
    exact ⟨[], rfl, Nat.le_refl _, Rd.nil _ _⟩
  · simp at hcs
    obtain ⟨rfl, rfl, rfl⟩ := hcs
    have hlz : len ≤ zs.length := by rw [hz]; split <;> omega
    have hnat : ∀ i, i < zs.length → ∃ n : Nat, zs.getD i 0 = (n : Int) ∧ n < 256 := fun i hi => by
      have hm : zs.getD i 0 ∈ zs := by rw [List.getD_eq_getElem?_getD, List.getElem?_eq_getElem hi]; exact List.getElem_mem hi
      exact nat_u8 (hwz _ hm)
    refine ⟨(List.range len).map (fun i => (zs.getD i 0).toNat), by simp, hl, ?_, fun i hi => ?_⟩
    · refine Pol.co_lt_of (fun v hv => ?_)
      obtain ⟨i, hi, rfl⟩ := List.mem_map.1 hv
      obtain ⟨n, hn, hn'⟩ := hnat i (by have := List.mem_range.1 hi; omega)
      show (zs.getD i 0).toNat < 256
      rw [hn]; omega
    · have hi' : i < len := by simpa using hi
      obtain ⟨b, o, rfl, hc⟩ := ints_at hcell (by omega)
      refine ⟨b, o, rfl, ?_⟩
      rw [hc i (by omega)]
      obtain ⟨n, hn, _⟩ := hnat i (by omega)
      congr 2
      unfold co
      rw [List.getElem?_map, List.getElem?_range hi']
      show zs.getD i 0 = (((zs.getD i 0).toNat : Nat) : Int)
      rw [hn]; omega
end
end Go.Proofs.Ytffdmhcbcaemfaa

/-
  An argument that is a slice of shares reads as a list of shares. Conditions: none.
-/
namespace Go.Proofs.Ytffdmhcbcaemfaa
open Go.RowKit
open Go.ChangeShapes Go.WideShapes Go.ChangeAt
open Pol (co Sm)

/-- Shares as they come in. -/
def ASh (w : World) (A : Option Addr) (l : List (Int × List Nat)) : Prop := SRd w A l ∧ (∀ i, In64 (wh l i)) ∧ ∀ i, (dt l i).length ≤ maxLen
section
variable {H : Type} {enc : TypeId × Value → H} {w : World} {base : Nat} {spare : Nat → Bool} {held : Bool}
theorem bytes_max {fuel : Nat} {v : Value} {x : DataW H × List MemPlace} (h : DataW.trod enc Try.prog w base spare held fuel 22 [v] = some x) :
    ∃ (q : List Nat) (B : Option Addr) (c : Nat), v = .slice B q.length c ∧ q.length ≤ c ∧ Rd w B q ∧ q.length ≤ maxLen := by
  obtain ⟨B, nb, cb, hv, hm⟩ : ∃ B nb cb, v = .slice B nb cb ∧ nb ≤ maxLen := by
    rcases Go.Deep.open_slice Try.underlying22 h with ⟨e, _⟩ | ⟨a2, l2, c2, _, _, _, _, e, _, h1, h2, _⟩
    · exact ⟨none, 0, 0, by simpa using e, Nat.zero_le _⟩
    · exact ⟨some a2, l2, c2, by simpa using e, Nat.le_trans h1 h2⟩
  subst hv
  obtain ⟨q, hq, hqc, hqr⟩ := open_bytes h
  exact ⟨q, B, cb, by rw [hq], by rw [hq]; exact hqc, hqr, by rw [hq]; exact hm⟩
/-- Bytes as they come in, with what is known of their number. -/
def MRd (w : World) (A : Option Addr) (l : List Nat) : Prop := Rd w A l ∧ l.length ≤ maxLen
theorem open_mbytes {fuel len cap : Nat} {a : Option Addr} {x : DataW H × List MemPlace} (h : DataW.trod enc Try.prog w base spare held fuel 22 [.slice a len cap] = some x) :
    ∃ l : List Nat, l.length = len ∧ len ≤ cap ∧ MRd w a l := by
  obtain ⟨q, B, c, e, h1, h2, h3⟩ := bytes_max h
  injection e with e1 e2 e3
  subst e1; subst e2; subst e3
  exact ⟨q, rfl, h1, h2, h3⟩
theorem open_shares {fuel len cap : Nat} {a : Option Addr} {x : DataW H × List MemPlace} (h : DataW.trod enc Try.prog w base spare held fuel 39 [.slice a len cap] = some x) :
    ∃ l : List (Int × List Nat), l.length = len ∧ len ≤ cap ∧ ASh w a l := by
  rcases Go.Deep.open_slice_pairs Try.underlying39 Try.underlying24 (by kernel_rfl) (by kernel_rfl) (by kernel_rfl) (by kernel_rfl) (by kernel_rfl) h with ⟨hcs, _⟩ | ⟨a', len', cap', m, n, V0, V1, D0, D1, P0, P1, hcs, _, hl, _, hm, _, hall⟩
  · simp at hcs
    obtain ⟨rfl, rfl, rfl⟩ := hcs
    exact ⟨[], rfl, Nat.le_refl _, SRd.nil _ _, fun i => ⟨by simp [wh], by simp [wh]⟩, fun i => by simp [dt]⟩
  · simp at hcs
    obtain ⟨rfl, rfl, rfl⟩ := hcs
    have hlm : len ≤ m := by rw [hm]; split <;> omega
    have each : ∀ i, i < len → ∃ q : Int × List Nat, In64 q.1 ∧ q.2.length ≤ maxLen ∧ w.cell? (a'.add (i * 2)) = some (.int .i64 q.1) ∧ ∃ B c, w.cell? (a'.add (i * 2 + 1)) = some (.slice B q.2.length c) ∧ q.2.length ≤ c ∧ Rd w B q.2 := fun i hi => by
      obtain ⟨c0, c1, t0, t1⟩ := hall i (by omega)
      obtain ⟨x0, e0, _, w0⟩ := DataW.trod_int Try.underlying3 t0
      obtain ⟨q, B, c, e1, h1, h2, h3⟩ := bytes_max t1
      simp only [List.cons.injEq, and_true] at e0
      rw [e0] at c0
      rw [e1] at c1
      have hb := bounds_i64 w0
      exact ⟨(x0, q), ⟨by show _ ≤ x0; omega, by show x0 < _; omega⟩, h3, c0, B, c, c1, h1, h2⟩
    obtain ⟨q, hq⟩ := Go.Deep.choose_lt each
    have hat : ∀ i, i < len → ((List.range len).map q)[i]? = some (q i) := fun i hi => by rw [List.getElem?_map, List.getElem?_range hi]; rfl
    have hw : ∀ i, i < len → wh ((List.range len).map q) i = (q i).1 ∧ dt ((List.range len).map q) i = (q i).2 := fun i hi => by
      unfold wh dt
      rw [hat i hi]
      exact ⟨rfl, rfl⟩
    have ho : ∀ i, ¬ i < len → wh ((List.range len).map q) i = 0 ∧ dt ((List.range len).map q) i = [] := fun i hi => by
      unfold wh dt
      rw [List.getElem?_eq_none (by simp; omega)]
      exact ⟨rfl, rfl⟩
    refine ⟨(List.range len).map q, by simp, hl, fun i hi => ?_, fun i => ?_, fun i => ?_⟩
    · have hi' : i < len := by simpa using hi
      obtain ⟨_, _, h1, B, c, h2, h3, h4⟩ := hq i hi'
      obtain ⟨b, o, spot⟩ := a'
      have hspot : spot = none := by
        have h0 := (hq 0 (by omega)).2.2.1
        simpa [Addr.add] using World.cell?_spot h0
      subst hspot
      rw [(hw i hi').1, (hw i hi').2]
      exact ⟨b, o, B, c, rfl, by rw [← Addr.add_mid]; exact h1, by rw [Nat.add_assoc, ← Addr.add_mid]; exact h2, h3, h4⟩
    · by_cases hi : i < len
      · rw [(hw i hi).1]; exact (hq i hi).1
      · rw [(ho i hi).1]; exact ⟨by omega, by omega⟩
    · by_cases hi : i < len
      · rw [(hw i hi).2]; exact (hq i hi).2.1
      · rw [(ho i hi).2]; simp
end
end Go.Proofs.Ytffdmhcbcaemfaa

/-
  The plain mathematics of wrong points: their places as a list that rises, as many as there are wrong points. Conditions: none; nothing of the program is named here.
-/
namespace Wel
open Pol (co Sm ev px py)

/-- Whether a polynomial misses a point. -/
def miss (l : List Pt) (a : List Nat) (i : Nat) : Bool := ev a (px l i) != py l i
/-- The places of the wrong ones among the first n. -/
def wrongs (l : List Pt) (a : List Nat) (n : Nat) : List Nat := (List.range n).filter (miss l a)
theorem wrongs_zero (l : List Pt) (a : List Nat) : wrongs l a 0 = [] := rfl
theorem wrongs_yes {l : List Pt} {a : List Nat} {n : Nat} (h : ev a (px l n) ≠ py l n) : wrongs l a (n + 1) = wrongs l a n ++ [n] := by
  unfold wrongs
  rw [List.range_succ, List.filter_append, List.filter_cons_of_pos (by unfold miss; simp [h])]
  rfl
theorem wrongs_no {l : List Pt} {a : List Nat} {n : Nat} (h : ev a (px l n) = py l n) : wrongs l a (n + 1) = wrongs l a n := by
  unfold wrongs
  rw [List.range_succ, List.filter_append, List.filter_cons_of_neg (by unfold miss; simp [h])]
  simp
theorem wrongs_len (l : List Pt) (a : List Nat) (n : Nat) : (wrongs l a n).length ≤ n := by
  have := List.length_filter_le (miss l a) (List.range n)
  rw [List.length_range] at this
  exact this
theorem px_cons (p : Pt) (l : List Pt) (i : Nat) : px (p :: l) (i + 1) = px l i ∧ py (p :: l) (i + 1) = py l i := by unfold px py; simp
theorem wrongs_bad : ∀ (l : List Pt) (a : List Nat), (wrongs l a l.length).length = bad l a
  | [], _ => rfl
  | p :: l, a => by
    have ih := wrongs_bad l a
    unfold wrongs at ih ⊢
    rw [List.length_cons, List.range_succ_eq_map, List.filter_cons]
    have hm : ((List.range l.length).map Nat.succ).filter (miss (p :: l) a) = ((List.range l.length).filter (miss l a)).map Nat.succ := by
      rw [List.filter_map]
      congr 1
    have hp : miss (p :: l) a 0 = !ok a p := rfl
    rw [hm, hp]
    unfold bad at ih ⊢
    rw [List.filter_cons]
    cases ok a p
    · simp [ih]
    · simp [ih]
theorem wrongs_congr {l : List Pt} {a b : List Nat} (h : ∀ i, co a i = co b i) (n : Nat) : wrongs l a n = wrongs l b n := by
  unfold wrongs miss
  congr 1
  funext i
  rw [Pol.ev_congr a b _ h]
end Wel

/-
  What the document's own Wrong and chosen of layer 4 do. Conditions: no more than 2^16 points and coefficients.
-/
namespace Go.Proofs.Ytffdmhcbcaemfaa
open Go.RowKit
open Pol (co Sm px py Apart)
open Wel (wrongs)

/-- A list of numbers. -/
def GivesI (l : List Nat) (w : World) (e : Ending) (w' : World) : Prop := ∃ B c, e = .returned (.slice B l.length c) ∧ l.length ≤ c ∧ IRd w' B l ∧ Ext w w'
theorem IMine.gives {w w' : World} {base : Nat} {v : Value} {l : List Nat} (h : IMine w' base v l) (hx : Ext w w') : GivesI l w (.returned v) w' := by
  obtain ⟨B, c, rfl, hc, hr⟩ := h.slice
  exact ⟨B, c, rfl, hc, hr, hx⟩

set_option maxHeartbeats 800000 in
set_option maxRecDepth 100000 in
theorem ref_wrong (l : List (Nat × Nat)) (a : List Nat) (A B : Option Addr) (ca cb : Nat) (w : World) (hl : PRd w A l) (ha : Rd w B a) (hll : l.length ≤ 65536) (hla : a.length ≤ 65536) :
    Calls Try.prog 40 #[.slice A l.length ca, .slice B a.length cb] w (GivesI (wrongs l a l.length) w) := by
  have HEV := Lib.hid (fun x W (hx : x < 256) (hW : Ext w W) => ref_eval a x B cb W (ha.ext hW) hx (by omega))
  have HEL := Lib.hid (fun x => Pol.ev_lt a x ha.1)
  generalize hn : l.length = n at *
  generalize a.length = m at *
  have HL := Lib.hid hl
  have HN := Lib.hid hn
  clear hl ha hn
  go_enter Try.func40, Try.ntmps40
  go_wp2
  go_loopg [5, 9] n (fun g s5 s9 wx => ∃ k : Nat, k + g = n ∧ s9 = .int .i64 (k : Int) ∧ IMine wx w.heap.size s5 (wrongs l a k) ∧ Ext w wx)
  case atStart => exact ⟨0, by omega, rfl, IMine.nil w _, Ext.refl _⟩
  case round =>
    obtain ⟨k, hkg, rfl, him, hx⟩ := hrel
    have HIM := Lib.hid him
    have HX := Lib.hid hx
    have hwl := Wel.wrongs_len l a k
    clear him hx
    cases gk with
    | zero =>
      obtain rfl : n = k := by omega
      clear hkg
      have HG := Lib.hid (HIM.out.gives HX.out)
      go_wp2
      go_ret
      exact HG.out
    | succ g =>
      have hk : k < n := by omega
      have hkI : (k : Int) < (n : Int) := by omega
      obtain ⟨b1, o1, e1, hc1, hc2⟩ := (HL.out.ext HX.out).2 k (by rw [HN.out]; exact hk)
      subst e1
      have hpx := (HL.out.1 k).1
      obtain ⟨x, hxx⟩ : ∃ x, px l k = x := ⟨_, rfl⟩
      obtain ⟨y, hyy⟩ : ∃ y, py l k = y := ⟨_, rfl⟩
      obtain ⟨v, hvv⟩ : ∃ v, Pol.ev a x = v := ⟨_, rfl⟩
      rw [hxx] at hc1 hpx
      rw [hyy] at hc2
      have HE := Lib.hid (fun q => HEV.out x (wr.drewN q) hpx (HX.out.drewN q))
      rw [hvv] at HE
      by_cases hq : v = y
      · have tq : ((v : Int) != (y : Int)) = false := by subst hq; simp
        have HQ := Lib.hid (Wel.wrongs_no (l := l) (a := a) (n := k) (by rw [hxx, hyy, hvv]; exact hq))
        clear hq hxx hyy hvv
        go_wp2
        go_quiet (first | (go_at_call 28; exact quiet_hands (HE.out _)))
        go_wp2
        go_roundg g
        case measure => omega
        case rel => exact ⟨k + 1, by omega, by go_num, by rw [HQ.out]; exact HIM.out.ext ((Ext.refl _).drewN _), HX.out.drewN _⟩
      · have tq : ((v : Int) != (y : Int)) = true := by simp; omega
        have HQ := Lib.hid (Wel.wrongs_yes (l := l) (a := a) (n := k) (by rw [hxx, hyy, hvv]; exact hq))
        clear hq hxx hyy hvv
        go_wp2
        go_quiet (first | (go_at_call 28; exact quiet_hands (HE.out _)))
        generalize hW : wr.drewN _ = W
        have HM2 := Lib.hid (show IMine W w.heap.size u5 (wrongs l a k) from hW ▸ HIM.out.ext ((Ext.refl _).drewN _))
        have HX2 := Lib.hid (show Ext w W from hW ▸ HX.out.drewN _)
        clear hW
        go_wp2_with (at_builtin; refine wpList_append_int rfl (.tmp 25) (.tmp 27) rfl w.heap.size u5 (wrongs l a k) k rfl (HM2.out.ext ((Ext.refl _).alloc _)) W.heap.size 1 rfl (by rw [cell_of_row _ _ _ _ _ _ (heap_alloc_new W _)]; rfl) (by omega) (by have := HX2.out.size; simp; omega) ?_; intro v' w9 hown' hg' hat')
        have HO := Lib.hid (show IMine w9 w.heap.size v' (wrongs l a (k + 1)) from by rw [HQ.out]; exact hown')
        have HX9 := Lib.hid ((HX2.out.alloc _).more hg' (fun k e => (HM2.out.block k e).1))
        clear hown' hg' hat'
        go_wp2
        go_roundg g
        case measure => omega
        case rel => exact ⟨k + 1, by omega, by go_num, HO.out, HX9.out⟩

/-- The points that the bits of a number choose, among the first n. -/
def subN (l : List (Nat × Nat)) (b n : Nat) : List (Nat × Nat) := Wel.sub (l.take n) b
theorem sub_snoc : ∀ (l : List (Nat × Nat)) (p : Nat × Nat) (b : Nat), Wel.sub (l ++ [p]) b = Wel.sub l b ++ (if b / 2 ^ l.length % 2 = 1 then [p] else [])
  | [], p, b => by
    simp only [List.nil_append, Wel.sub, List.length_nil, Nat.pow_zero, Nat.div_one]
  | q :: l, p, b => by
    have ih := sub_snoc l p (b / 2)
    have e : b / 2 / 2 ^ l.length = b / 2 ^ (l.length + 1) := by rw [Nat.div_div_eq_div_mul, Nat.pow_succ, Nat.mul_comm]
    rw [e] at ih
    rw [List.cons_append, Wel.sub, Wel.sub, ih, List.length_cons]
    split
    · rw [List.cons_append]
    · rfl
theorem subN_step (l : List (Nat × Nat)) (b k : Nat) (hk : k < l.length) : subN l b (k + 1) = subN l b k ++ (if b / 2 ^ k % 2 = 1 then [(px l k, py l k)] else []) := by
  unfold subN
  have hp : l[k] = (px l k, py l k) := by rw [(Wel.px_at l k hk).1, (Wel.px_at l k hk).2]
  rw [List.take_succ_eq_append_getElem hk, sub_snoc, List.length_take, Nat.min_eq_left (by omega), hp]
theorem subN_len (l : List (Nat × Nat)) (b k : Nat) : (subN l b k).length ≤ l.length := by
  have h1 := (Wel.sub_sub (l.take k) b).length_le
  have h2 := List.length_take_le k l
  unfold subN
  rw [List.length_take] at h1
  omega
theorem subN_all (l : List (Nat × Nat)) (b : Nat) : subN l b l.length = Wel.sub l b := by unfold subN; rw [List.take_length]

/-- A list of points. -/
def GivesP (l : List (Nat × Nat)) (w : World) (e : Ending) (w' : World) : Prop := ∃ B c, e = .returned (.slice B l.length c) ∧ l.length ≤ c ∧ PRd w' B l ∧ Ext w w'
theorem subN_sm {l : List (Nat × Nat)} (h : ∀ i, px l i < 256 ∧ py l i < 256) (b k : Nat) : Pol.PSm (subN l b k) := by
  have hm : ∀ p ∈ subN l b k, p.1 < 256 ∧ p.2 < 256 := fun p hp => by
    have := (Wel.sub_sub (l.take k) b).subset hp
    obtain ⟨i, hi, rfl⟩ := List.mem_iff_getElem.1 (List.mem_of_mem_take this)
    have := h i
    rwa [(Wel.px_at l i hi).1, (Wel.px_at l i hi).2] at this
  intro i
  by_cases hi : i < (subN l b k).length
  · rw [(Wel.px_at _ i hi).1, (Wel.px_at _ i hi).2]
    exact hm _ (List.getElem_mem hi)
  · unfold px py
    rw [List.getElem?_eq_none (by omega)]
    exact ⟨by decide, by decide⟩

set_option maxHeartbeats 800000 in
set_option maxRecDepth 100000 in
theorem ref_chosen (l : List (Nat × Nat)) (b : Nat) (A : Option Addr) (ca : Nat) (w : World) (hl : PRd w A l) (hll : l.length ≤ 65536) (hb : b < 9223372036854775808) :
    Calls Try.prog 38 #[.slice A l.length ca, .int .i64 (b : Int)] w (GivesP (Wel.sub l b) w) := by
  rw [← subN_all]
  generalize hn : l.length = n at *
  have HL := Lib.hid hl
  have HN := Lib.hid hn
  clear hl hn
  go_enter Try.func38, Try.ntmps38
  go_wp2
  go_loopg [1, 5, 9] n (fun g s1 s5 s9 wx => ∃ k c : Nat, k + g = n ∧ s1 = .int .i64 (c : Int) ∧ b / 2 ^ k = c ∧ s9 = .int .i64 (k : Int) ∧ PMine wx w.heap.size s5 (subN l b k) ∧ Ext w wx)
  case atStart => exact ⟨0, b, by omega, rfl, by simp, rfl, PMine.nil w _, Ext.refl _⟩
  case round =>
    obtain ⟨k, c, hkg, rfl, hc, rfl, him, hx⟩ := hrel
    have HIM := Lib.hid him
    have HX := Lib.hid hx
    have HC := Lib.hid hc
    have hcb : c < 9223372036854775808 := by rw [← hc]; exact Nat.lt_of_le_of_lt (Nat.div_le_self _ _) hb
    have hwl := subN_len l b k
    have hps := subN_sm HL.out.1 b k
    have HPS := Lib.hid hps
    have hsucc : b / 2 ^ (k + 1) = c / 2 := by rw [Nat.pow_succ, ← Nat.div_div_eq_div_mul, hc]
    have HSU := Lib.hid hsucc
    clear him hx hc hps hsucc
    rw [HN.out] at hwl
    cases gk with
    | zero =>
      obtain rfl : n = k := by omega
      clear hkg
      obtain ⟨B5, c5, rfl, h5, hr5⟩ := HIM.out.slice HPS.out
      have HR5 := Lib.hid hr5
      clear hr5
      go_wp2
      go_ret
      exact ⟨B5, c5, rfl, h5, HR5.out, HX.out⟩
    | succ g =>
      have hk : k < n := by omega
      have hkI : (k : Int) < (n : Int) := by omega
      have hdiv : Int.tdiv (c : Int) 2 = ((c / 2 : Nat) : Int) := by rw [Int.tdiv_eq_ediv_of_nonneg (by omega)]; omega
      have hmod : Int.tmod (c : Int) 2 = ((c % 2 : Nat) : Int) := by rw [Int.tmod_eq_emod_of_nonneg (by omega)]; omega
      have HST := Lib.hid (subN_step l b k (by rw [HN.out]; exact hk))
      rw [HC.out] at HST
      obtain ⟨b1, o1, e1, hc1, hc2⟩ := (HL.out.ext HX.out).2 k (by rw [HN.out]; exact hk)
      subst e1
      obtain ⟨e, he⟩ : ∃ e, c / 2 = e := ⟨_, rfl⟩
      have heb : e < 9223372036854775808 := by omega
      rw [he] at hdiv HSU
      obtain ⟨r, hr⟩ : ∃ r, c % 2 = r := ⟨_, rfl⟩
      have hr2 : r < 2 := by omega
      rw [hr] at hmod HST
      clear he hr
      by_cases h1 : r = 1
      · have t1 : ((r : Int) == 1) = true := by simp [h1]
        rw [if_pos h1] at HST
        clear h1
        have HPP := Lib.hid (show Pol.PSm [(px l k, py l k)] from fun i => by
          match i with
          | 0 => exact HL.out.1 k
          | i + 1 => unfold px py; simp)
        go_wp2_with (at_builtin; refine wpList_append_prd rfl (.tmp 15) (.tmp 20) rfl w.heap.size u5 (subN l b k) [(px l k, py l k)] rfl (HIM.out.kept ((Ext.refl _).alloc _)) (some ⟨wr.heap.size, 0, none⟩) 1 1 rfl rfl (prd_lit wr _ HPP.out) (by simp; omega) (by have := HX.out.size; simp; omega) ?_; intro v' w9 hown' hg' hat')
        have HO := Lib.hid (show PMine w9 w.heap.size v' (subN l b (k + 1)) from by rw [HST.out]; exact hown')
        have HX9 := Lib.hid ((HX.out.alloc _).more hg' (fun k e => HIM.out.block k e))
        clear hown' hg' hat'
        go_wp2
        go_roundg g
        case measure => omega
        case rel => exact ⟨k + 1, e, by omega, rfl, HSU.out, by go_num, HO.out, HX9.out⟩
      · have t1 : ((r : Int) == 1) = false := by simp; omega
        rw [if_neg h1, List.append_nil] at HST
        clear h1
        go_wp2
        go_roundg g
        case measure => omega
        case rel => exact ⟨k + 1, e, by omega, rfl, HSU.out, by go_num, by rw [HST.out]; exact HIM.out, HX.out⟩
end Go.Proofs.Ytffdmhcbcaemfaa

/-
  What the document's own Wrong and Points of layer 5 do. Conditions: no more than 2^16 shares; ints.
-/
namespace Go.Proofs.Ytffdmhcbcaemfaa
open Go.RowKit
open Pol (co Sm ev px py Apart)

/-- Whether shares open. -/
def SaysO (P : Prop) (w : World) (e : Ending) (w' : World) : Prop := (P ∧ Hands (.int .i64 0) w e w') ∨ (¬ P ∧ Hands (.int .i64 1) w e w')

set_option maxHeartbeats 2000000 in
set_option maxRecDepth 100000 in
theorem ref_open_wrong (l : List (Int × List Nat)) (o v b : Int) (A : Option Addr) (c : Nat) (w : World) (ha : SRd w A l) (hl : l.length ≤ 65536) (ho : In64 o) (hv : In64 v) (hb : In64 b) :
    Calls Try.prog 20 #[.slice A l.length c, .int .i64 o, .int .i64 v, .int .i64 b] w (SaysO (OpenOk l o v b) w) := by
  obtain ⟨o1, o2⟩ := ho
  obtain ⟨v1, v2⟩ := hv
  obtain ⟨b1, b2⟩ := hb
  unfold SaysO
  generalize hn : l.length = n at *
  have HA := Lib.hid ha
  have HN := Lib.hid hn
  clear ha hn
  by_cases g0 : b < 0
  · have e0 : decide (b < 0) = true := by simp; omega
    go_enter Try.func20, Try.ntmps20
    go_wp2
    go_ret
    exact .inr ⟨fun h => by obtain ⟨h1, h2, h3, h4, h5⟩ := h.1; rw [HN.out] at h5; omega, rfl, 0, rfl⟩
  have e0 : decide (b < 0) = false := by simp; omega
  by_cases g1 : 4096 < b
  · have e1 : decide (4096 < b) = true := by simp; omega
    go_enter Try.func20, Try.ntmps20
    go_wp2
    go_ret
    exact .inr ⟨fun h => by obtain ⟨h1, h2, h3, h4, h5⟩ := h.1; rw [HN.out] at h5; omega, rfl, 0, rfl⟩
  have e1 : decide (4096 < b) = false := by simp; omega
  by_cases g2 : o < 1
  · have e2 : decide (o < 1) = true := by simp; omega
    go_enter Try.func20, Try.ntmps20
    go_wp2
    go_ret
    exact .inr ⟨fun h => by obtain ⟨h1, h2, h3, h4, h5⟩ := h.1; rw [HN.out] at h5; omega, rfl, 0, rfl⟩
  have e2 : decide (o < 1) = false := by simp; omega
  by_cases g3 : v < 0
  · have e3 : decide (v < 0) = true := by simp; omega
    go_enter Try.func20, Try.ntmps20
    go_wp2
    go_ret
    exact .inr ⟨fun h => by obtain ⟨h1, h2, h3, h4, h5⟩ := h.1; rw [HN.out] at h5; omega, rfl, 0, rfl⟩
  have e3 : decide (v < 0) = false := by simp; omega
  by_cases g4 : (n : Int) < o
  · have e4 : decide ((n : Int) < o) = true := by simp; omega
    go_enter Try.func20, Try.ntmps20
    go_wp2
    go_ret
    exact .inr ⟨fun h => by obtain ⟨h1, h2, h3, h4, h5⟩ := h.1; rw [HN.out] at h5; omega, rfl, 0, rfl⟩
  have e4 : decide ((n : Int) < o) = false := by simp; omega
  by_cases g5 : (n : Int) < v
  · have e5 : decide ((n : Int) < v) = true := by simp; omega
    go_enter Try.func20, Try.ntmps20
    go_wp2
    go_ret
    exact .inr ⟨fun h => by obtain ⟨h1, h2, h3, h4, h5⟩ := h.1; rw [HN.out] at h5; omega, rfl, 0, rfl⟩
  have e5 : decide ((n : Int) < v) = false := by simp; omega
  by_cases g6 : (n : Int) < o + 2 * v
  · have e6 : decide ((n : Int) < o + 2 * v) = true := by simp; omega
    go_enter Try.func20, Try.ntmps20
    go_wp2
    go_ret
    exact .inr ⟨fun h => by obtain ⟨h1, h2, h3, h4, h5⟩ := h.1; rw [HN.out] at h5; omega, rfl, 0, rfl⟩
  have e6 : decide ((n : Int) < o + 2 * v) = false := by simp; omega
  have HNUM := Lib.hid (show OpenNum n o v b from ⟨by omega, by omega, by omega, by omega, by omega⟩)
  go_enter Try.func20, Try.ntmps20
  go_wp2
  clear g0 g1 g2 g3 g4 g5 g6 e0 e1 e2 e3 e4 e5 e6
  go_loopg [48] n (fun g s wx => ∃ i m : Nat, i + g = n ∧ s = .int .i64 (i : Int) ∧ wx = w.drewN m ∧ ∀ j, j < i → ShrOk l b j)
  case atStart => exact ⟨0, 0, by omega, rfl, rfl, fun j hj => by omega⟩
  case round =>
    obtain ⟨i, m, hig, rfl, rfl, hok⟩ := hrel
    have HOK := Lib.hid hok
    clear hok
    cases gk with
    | zero =>
      obtain rfl : i = n := by omega
      clear hig
      go_wp2
      go_ret
      exact .inl ⟨⟨HN.out ▸ HNUM.out, HN.out ▸ HOK.out⟩, rfl, m, rfl⟩
    | succ g =>
      have hi : i < n := by omega
      have hiI : (i : Int) < (n : Int) := by omega
      obtain ⟨b0, o0, B0, c0, e0, hc1, hc2, hc3, _⟩ := HA.out i (by rw [HN.out]; exact hi)
      subst e0
      obtain ⟨x, hx⟩ : ∃ x, wh l i = x := ⟨_, rfl⟩
      obtain ⟨dl, hdl⟩ : ∃ dl, (dt l i).length = dl := ⟨_, rfl⟩
      rw [hx] at hc1
      rw [hdl] at hc2 hc3
      have hc1' : (w.drewN m).cell? ⟨b0, o0 + i * 2, none⟩ = some (.int .i64 x) := hc1
      have hc2' : (w.drewN m).cell? ⟨b0, o0 + i * 2 + 1, none⟩ = some (.slice B0 dl c0) := hc2
      have HXX := Lib.hid hx
      have HDL := Lib.hid hdl
      have HC1 := Lib.hid hc1
      clear hx hdl hc1 hc2
      generalize hW : w.drewN m = W at hc1' hc2' ⊢
      have HW := Lib.hid hW
      clear hW
      by_cases x0 : x < 0
      · have d0 : decide (x < 0) = true := by simp; omega
        go_wp2
        go_ret
        exact .inr ⟨fun h => by have := (h.2 i (by rw [HN.out]; exact hi)).1; rw [HXX.out] at this; omega, rfl, m, HW.out.symm⟩
      have d0 : decide (x < 0) = false := by simp; omega
      by_cases x1 : 199 < x
      · have d1 : decide (199 < x) = true := by simp; omega
        go_wp2
        go_ret
        exact .inr ⟨fun h => by have := (h.2 i (by rw [HN.out]; exact hi)).2.1; rw [HXX.out] at this; omega, rfl, m, HW.out.symm⟩
      have d1 : decide (199 < x) = false := by simp; omega
      by_cases x2 : (dl : Int) = b
      · have d2 : ((dl : Int) != b) = false := by simp; omega
        have HX2 := Lib.hid x2
        clear x2
        go_wp2
        clear d0 d1 d2 hc1' hc2'
        go_loopg [10] i (fun g s wx => ∃ k m : Nat, k + g = i ∧ s = .int .i64 (k : Int) ∧ wx = w.drewN m ∧ ∀ j, j < k → wh l j ≠ x)
        case atStart => exact ⟨0, m, by omega, rfl, HW.out.symm, fun j hj => by omega⟩
        case round =>
          obtain ⟨k, m2, hkg, rfl, rfl, hno⟩ := hrel
          have HNO := Lib.hid hno
          clear hno
          cases gk with
          | zero =>
            obtain rfl : i = k := by omega
            clear hkg
            go_wp2
            go_roundg g
            case measure => omega
            case rel => exact ⟨i + 1, m2, by omega, by go_num, rfl, fun j hj => by
              by_cases e : j = i
              · subst e; exact ⟨by rw [HXX.out]; omega, by rw [HXX.out]; omega, by rw [HDL.out]; exact HX2.out, fun k hk => by rw [HXX.out]; exact HNO.out k hk⟩
              · exact HOK.out j (by omega)⟩
          | succ g2 =>
            have hk : k < i := by omega
            have hkI : (k : Int) < (i : Int) := by omega
            have hkn : (k : Int) < (n : Int) := by omega
            obtain ⟨b3, o3, B3, c3, e3, hd1, _⟩ := HA.out k (by rw [HN.out]; omega)
            injection e3 with e3
            injection e3 with e4 e5
            subst e4; subst e5
            obtain ⟨y, hy⟩ : ∃ y, wh l k = y := ⟨_, rfl⟩
            rw [hy] at hd1
            have hcx := HC1.out
            have HY := Lib.hid hy
            clear hy
            by_cases hq : y = x
            · have dq : (y == x) = true := by simp; exact hq
              have HQ := Lib.hid hq
              clear hq
              go_wp2
              go_quiet (fail)
              go_wp2
              go_ret
              exact .inr ⟨fun h => (h.2 i (by rw [HN.out]; exact hi)).2.2.2 k hk (by rw [HXX.out, HY.out]; exact HQ.out), rfl, m2 + nq, by rw [World.drewN_drewN]⟩
            · have dq : (y == x) = false := by simp; exact hq
              have HQ := Lib.hid hq
              clear hq
              go_wp2
              go_quiet (fail)
              go_wp2
              go_roundg g2
              case measure => omega
              case rel => exact ⟨k + 1, _, by omega, by go_num, rfl, fun j hj => by
                by_cases e : j = k
                · subst e; rw [HY.out]; exact HQ.out
                · exact HNO.out j (by omega)⟩
      · have d2 : ((dl : Int) != b) = true := by simp; omega
        go_wp2
        go_ret
        exact .inr ⟨fun h => by have := (h.2 i (by rw [HN.out]; exact hi)).2.2.1; rw [HDL.out] at this; exact x2 this, rfl, m, HW.out.symm⟩

theorem ptsN_sm {l : List (Int × List Nat)} {i n : Nat} (h : ∀ k, k < n → (wh l k).toNat + 1 < 256 ∧ co (dt l k) i < 256) : Pol.PSm (ptsN l i n) := fun k => by
  unfold px py ptsN
  by_cases hk : k < n
  · rw [List.getElem?_map, List.getElem?_range hk]
    exact h k hk
  · rw [List.getElem?_eq_none (by simp; omega)]
    exact ⟨by simp, by simp⟩

set_option maxHeartbeats 800000 in
set_option maxRecDepth 100000 in
theorem ref_points (l : List (Int × List Nat)) (i : Nat) (A : Option Addr) (c : Nat) (w : World) (ha : SRd w A l) (hl : l.length ≤ 65536) (hi : ∀ k, k < l.length → 0 ≤ wh l k ∧ wh l k ≤ 199 ∧ i < (dt l k).length) :
    Calls Try.prog 22 #[.slice A l.length c, .int .i64 (i : Int)] w (GivesP (pts l i) w) := by
  have hpl := pts_len l i
  have HSM := Lib.hid (fun k => ha.sm k)
  have hpe : pts l i = ptsN l i l.length := rfl
  unfold GivesP
  rw [hpl, hpe]
  generalize hn : l.length = n at *
  have HA := Lib.hid ha
  have HN := Lib.hid hn
  have HI := Lib.hid hi
  have HPSM := Lib.hid (fun k (hk : k ≤ n) => show Pol.PSm (ptsN l i k) from ptsN_sm (fun j hj => ⟨by have := (hi j (by omega)).2.1; omega, ha.sm j i⟩))
  clear ha hn hi hpl hpe
  go_enter Try.func22, Try.ntmps22
  go_wp2
  go_loopg [5, 9] n (fun g s5 s9 wx => ∃ k : Nat, k + g = n ∧ s9 = .int .i64 (k : Int) ∧ PMine wx w.heap.size s5 (ptsN l i k) ∧ Ext w wx)
  case atStart => exact ⟨0, by omega, rfl, PMine.nil w _, Ext.refl _⟩
  case round =>
    obtain ⟨k, hkg, rfl, him, hx⟩ := hrel
    have HIM := Lib.hid him
    have HX := Lib.hid hx
    clear him hx
    cases gk with
    | zero =>
      obtain rfl : k = n := by omega
      clear hkg
      obtain ⟨B, cB, eu, hcB, hrB⟩ := HIM.out.slice (HPSM.out k (Nat.le_refl _))
      rw [ptsN_len] at eu hcB
      subst eu
      have HRB := Lib.hid hrB
      clear hrB
      go_wp2
      go_ret
      exact ⟨B, cB, rfl, hcB, HRB.out, HX.out⟩
    | succ g =>
      have hk : k < n := by omega
      have hkI : (k : Int) < (n : Int) := by omega
      obtain ⟨b0, o0, B0, c0, e0, hc1, hc2, hc3, hr⟩ := (HA.out.ext HX.out) k (by rw [HN.out]; exact hk)
      subst e0
      obtain ⟨i1, i2, i3⟩ := HI.out k hk
      obtain ⟨bb, ob, eb, hcb⟩ := hr.2 i i3
      subst eb
      obtain ⟨x, hxx⟩ : ∃ x : Nat, wh l k = (x : Int) := ⟨(wh l k).toNat, by omega⟩
      obtain ⟨y, hyy⟩ : ∃ y, co (dt l k) i = y := ⟨_, rfl⟩
      obtain ⟨dl, hdl⟩ : ∃ dl, (dt l k).length = dl := ⟨_, rfl⟩
      have hyl : y < 256 := by rw [← hyy]; exact hr.1 i
      have HST := Lib.hid (show ptsN l i (k + 1) = ptsN l i k ++ [(x + 1, y)] from by rw [ptsN_succ, hxx, hyy]; rfl)
      rw [hxx] at hc1 i1 i2
      rw [hdl] at hc2 hc3 i3
      rw [hyy] at hcb
      have hiI : (i : Int) < (dl : Int) := by omega
      have hx1 : (x : Int) + 1 < 256 := by omega
      have hx0 : (0 : Int) ≤ (x : Int) + 1 := by omega
      have e1 : IntKind.i64.wrap ((x : Int) + 1) = (x : Int) + 1 := IntWalk.i64_in _ (by omega)
      have e2 : IntKind.u8.wrap ((x : Int) + 1) = ((x + 1 : Nat) : Int) := by rw [IntWalk.u8_in _ (by omega)]; rfl
      have HPS := Lib.hid (show Pol.PSm [(x + 1, y)] from fun i => by
        match i with
        | 0 => exact ⟨show x + 1 < 256 by omega, hyl⟩
        | i + 1 => unfold px py; simp)
      have HPL := Lib.hid (ptsN_len l i k)
      clear hxx hyy hdl hr
      go_wp2
      go_region_law (refine step_append_prd rfl (.tmp 12) (.tmp 29) rfl w.heap.size u5 (ptsN l i k) [(x + 1, y)] rfl ((HIM.out.kept ((Ext.refl _).drewN _)).kept ((Ext.refl _).alloc _)) (some ⟨wr.heap.size, 0, none⟩) 1 1 rfl rfl (prd_lit (wr.drewN _) _ HPS.out) (by rw [HPL.out]; simp; omega) (by simp; have := HX.out.size; omega) ?_; intro v9 w9 hown9 hg9 hat9)
      all_goals
        have hW0 : Ext wr ((wr.drewN 1).alloc (Obj.cells #[Value.int IntKind.u8 ((x + 1 : Nat) : Int), Value.int IntKind.u8 (y : Int)] 77)) := ((Ext.refl _).drewN _).alloc _
        have HO9 := Lib.hid (show PMine w9 w.heap.size v9 (ptsN l i (k + 1)) from by rw [HST.out]; exact hown9)
        have HX9 := Lib.hid ((HX.out.trans hW0).more hg9 (fun r e => HIM.out.block r e))
        clear hown9 hg9 hat9 hW0
        go_wp2
        go_roundg g
        case measure => omega
        case rel => exact ⟨k + 1, by omega, by go_num, HO9.out, HX9.out⟩
end Go.Proofs.Ytffdmhcbcaemfaa

/- What the document's own Trim of layer 2 does: the list without the zeros at its end, in memory of its own. Conditions: no more than 2^20 bytes. -/
namespace Go.Proofs.Ytffdmhcbcaemfaa
open Go.RowKit
open Pol (co Sm)

set_option maxHeartbeats 400000 in
set_option maxRecDepth 100000 in
theorem ref_trim_m (l : List Nat) (A : Option Addr) (ca : Nat) (w : World) (ha : Rd w A l) (hc : l.length ≤ ca) (hl : l.length ≤ 1048576) :
    Calls Try.prog 65 #[.slice A l.length ca] w (GivesM (Pol.trim l) w) := by
  generalize hn : l.length = n at hc hl ⊢
  have HA := Lib.hid ha
  have HN := Lib.hid hn
  clear ha hn
  go_enter Try.func65, Try.ntmps65
  go_wp2
  go_loopg [3] n (fun g s wx => g ≤ n ∧ s = .int .i64 (g : Int) ∧ wx = w ∧ ∀ i, g ≤ i → co l i = 0)
  case atStart => exact ⟨Nat.le_refl _, rfl, rfl, fun i hi => Pol.co_out l i (by rw [HN.out]; exact hi)⟩
  case round =>
    obtain ⟨hgn, rfl, rfl, hz⟩ := hrel
    have HZ := Lib.hid hz
    clear hz
    cases gk with
    | zero =>
      have HD := Lib.hid (Or.inl rfl : (0 = 0 ∨ co l (0 - 1) ≠ 0))
      have hr := HA.out.take 0
      have hz : (l.take 0).length = 0 := by rw [List.length_take, HN.out]; omega
      have ht : Pol.trim l = l.take 0 := Pol.trim_of l 0 (by rw [HN.out]; omega) HZ.out HD.out
      have hs := HA.out.1.trim
      have HR := Lib.hid hr
      have HL := Lib.hid hz
      have HT := Lib.hid ht
      have HS := Lib.hid hs
      have HM := Lib.hid (mine_empty wr)
      clear hr hz ht hs
      go_wp2_with (at_builtin; refine wpList_append_rd rfl (.tmp 18) (.tmp 21) rfl wr.heap.size (.slice (some ⟨wr.heap.size, 0, none⟩) 0 0) [] (l.take 0) rfl HM.out _ _ ca rfl HL.out (HR.out.ext ((Ext.refl _).alloc _)) (by rw [HL.out, List.length_nil]; omega) (by simp) ?_; intro v' w' hown' hg' hat')
      go_ret
      exact gives_m hown' (by rw [HT.out]; rfl) HS.out (((Ext.refl _).alloc _).more hg' (by intro k hk; simp [Value.ownBlock] at hk; omega))
    | succ g =>
      obtain ⟨b, o, rfl, hcl⟩ := HA.out.2 g (by rw [HN.out]; omega)
      have hgI : (0 : Int) < (g : Int) + 1 := by omega
      by_cases h0 : co l g = 0
      · have ht : (((co l g : Nat) : Int) == 0) = true := beq_iff_eq.2 (by omega)
        have H0 := Lib.hid h0
        clear h0
        go_wp2
        go_roundg g
        case measure => omega
        case rel => exact ⟨by omega, by go_num, rfl, fun i hi => by
          by_cases e : i = g
          · subst e; exact H0.out
          · exact HZ.out i (by omega)⟩
      · have ht : (((co l g : Nat) : Int) == 0) = false := beq_eq_false_iff_ne.2 (by omega)
        have HD := Lib.hid (Or.inr h0 : (g + 1 = 0 ∨ co l (g + 1 - 1) ≠ 0))
        clear h0
        have hr := HA.out.take (g + 1)
        have hz : (l.take (g + 1)).length = (g + 1) := by rw [List.length_take, HN.out]; omega
        have hq : Pol.trim l = l.take (g + 1) := Pol.trim_of l (g + 1) (by rw [HN.out]; omega) HZ.out HD.out
        have hs := HA.out.1.trim
        have HR := Lib.hid hr
        have HL := Lib.hid hz
        have HT := Lib.hid hq
        have HS := Lib.hid hs
        have HM := Lib.hid (mine_empty wr)
        clear hr hz hq hs
        go_wp2_with (at_builtin; refine wpList_append_rd rfl (.tmp 18) (.tmp 21) rfl wr.heap.size (.slice (some ⟨wr.heap.size, 0, none⟩) 0 0) [] (l.take (g + 1)) rfl HM.out _ _ ca rfl HL.out (HR.out.ext ((Ext.refl _).alloc _)) (by rw [HL.out, List.length_nil]; omega) (by simp) ?_; intro v' w' hown' hg' hat')
        go_ret
        exact gives_m hown' (by rw [HT.out]; rfl) HS.out (((Ext.refl _).alloc _).more hg' (by intro k hk; simp [Value.ownBlock] at hk; omega))
theorem ref_trim (l : List Nat) (A : Option Addr) (ca : Nat) (w : World) (ha : Rd w A l) (hc : l.length ≤ ca) (hl : l.length ≤ 1048576) :
    Calls Try.prog 65 #[.slice A l.length ca] w (Gives (Pol.trim l) w) := (ref_trim_m l A ca w ha hc hl).mono fun _ _ h => h.gives
end Go.Proofs.Ytffdmhcbcaemfaa

/-
  What the document's own Add of layer 2 does: the sum, trimmed. Conditions: no more than 2^20 coefficients.
-/
namespace Go.Proofs.Ytffdmhcbcaemfaa
open Go.RowKit
open Pol (co Sm)

def sum1 (a : List Nat) (k i : Nat) : Nat := if i < k then co a i else 0
def sum2 (a b : List Nat) (k i : Nat) : Nat := co a i ^^^ (if i < k then co b i else 0)

set_option maxHeartbeats 800000 in
set_option maxRecDepth 100000 in
theorem ref_add_short (a b : List Nat) (A B : Option Addr) (ca cb : Nat) (w : World) (ha : Rd w A a) (hb : Rd w B b) (hla : a.length ≤ 1048576) (hlb : b.length ≤ 1048576) (hlt : a.length < b.length) :
    Calls Try.prog 55 #[.slice A a.length ca, .slice B b.length cb] w (GivesM (Pol.trim (Pol.addP a b)) w) := by
  generalize hna : a.length = na at *
  generalize hnb : b.length = nb at *
  have hmk := fun W => run_make_u8 nb (by omega) W
  have hltI : (na : Int) < (nb : Int) := by omega
  have hna' : na ≤ nb := by omega
  have hnb' : nb ≤ nb := by omega
  have HA := Lib.hid ha
  have HB := Lib.hid hb
  have HNA := Lib.hid hna
  have HNB := Lib.hid hnb
  clear ha hb hna hnb
  go_enter Try.func55, Try.ntmps55
  go_wp2
  clear hmk
  go_loopg [16] na (fun g s wx => ∃ k : Nat, k + g = na ∧ s = .int .i64 (k : Int) ∧ Blk wx w.heap.size nb (sum1 a k) ∧ Ext w wx)
  case atStart => exact ⟨0, by omega, rfl, Blk.new w nb (sum1 a 0), (Ext.refl _).alloc _⟩
  case round =>
    obtain ⟨k, hkg, rfl, hblk, hx⟩ := hrel
    have HX := Lib.hid hx
    have HK := Lib.hid hblk
    clear hx hblk
    cases gk with
    | zero =>
      obtain rfl : na = k := by omega
      clear hkg
      go_wp2
      go_loopg [34] nb (fun g s wx => ∃ j : Nat, j + g = nb ∧ s = .int .i64 (j : Int) ∧ Blk wx w.heap.size nb (sum2 a b j) ∧ Ext w wx)
      case atStart => exact ⟨0, by omega, rfl, HK.out.congr (fun i _ => by
        unfold sum1 sum2
        rw [if_neg (show ¬ i < 0 by omega), Nat.xor_zero]
        split
        · rfl
        · rw [Pol.co_out a i (by rw [HNA.out]; omega)]), HX.out⟩
      case round =>
        obtain ⟨j, hjg, rfl, hblk, hx⟩ := hrel
        have HY := Lib.hid hx
        have HL := Lib.hid hblk
        clear hx hblk
        cases gk with
        | zero =>
          obtain rfl : nb = j := by omega
          clear hjg
          have hsm : ∀ i, i < nb → sum2 a b nb i < 256 := fun i _ => Gf.xor_lt _ _ (HA.out.1 i) (by split; exact HB.out.1 i; omega)
          have hr := HL.out.reads hsm
          have ht : Pol.trim (tab nb (sum2 a b nb)) = Pol.trim (Pol.addP a b) := Pol.trim_ext _ _ (fun i => by
            rw [co_tab, Pol.co_addP]
            unfold sum2
            by_cases h : i < nb
            · rw [if_pos h]
              by_cases h' : i < nb
              · rw [if_pos h']
              · rw [if_neg h', Pol.co_out b i (by rw [HNB.out]; omega)]
            · rw [if_neg h, Pol.co_out a i (by rw [HNA.out]; omega), Pol.co_out b i (by rw [HNB.out]; omega)]; rfl)
          have htr := ref_trim_m (tab nb (sum2 a b nb)) (some ⟨w.heap.size, 0, none⟩) nb _ hr (by rw [tab_len]; exact Nat.le_refl _) (by rw [tab_len]; omega)
          rw [tab_len, ht] at htr
          have HT := Lib.hid htr
          clear htr hr ht hsm
          go_wp2_with fail
          refine HT.out.mono ?_
          rintro e w2 hgv
          have HG := Lib.hid (hgv.after HY.out)
          obtain ⟨v2, rfl, _⟩ := hgv
          go_wp2
          go_ret
          exact HG.out
        | succ g =>
          have hj : j < nb := by omega
          have hjI : (j : Int) < (nb : Int) := by omega
          have hjN : (j : Int) < (nb : Int) := by omega
          obtain ⟨b1, o1, e1, hc⟩ := (HB.out.ext HY.out).2 j (by rw [HNB.out]; exact hj)
          subst e1
          have hc2 := HL.out.cell j (by omega)
          have hfz := HL.out.frozen j
          have hxor := u8_xor_nat (sum2 a b j j) (co b j) (Gf.xor_lt _ _ (HA.out.1 j) (by rw [if_neg (by omega)]; omega)) (HB.out.1 j)
          have hst := HL.out.drewN 1
          have hst2 := hst.store j (sum2 a b j j ^^^ co b j)
          have hup := hst2.congr (f' := sum2 a b (j + 1)) (fun i _ => by
            unfold upd sum2
            by_cases h : i = j
            · subst h; rw [if_pos rfl, if_neg (by omega), if_pos (by omega), Nat.xor_zero]
            · rw [if_neg h]
              by_cases h' : i < j
              · rw [if_pos h', if_pos (by omega)]
              · rw [if_neg h', if_neg (by omega)])
          have HU := Lib.hid hup
          have hext := (HY.out.drewN 1).setCell (p := ⟨w.heap.size, j, none⟩) (Nat.le_refl _) (.int .u8 ((sum2 a b j j ^^^ co b j : Nat) : Int))
          have HE := Lib.hid hext
          clear hst hst2 hup hext
          go_wp2
          go_region
          go_wp2
          go_roundg g
          case measure => omega
          case rel => exact ⟨j + 1, by omega, by go_num, HU.out, HE.out⟩
    | succ g =>
      have hk : k < na := by omega
      have hkI : (k : Int) < (na : Int) := by omega
      have hkN : (k : Int) < (nb : Int) := by omega
      obtain ⟨b1, o1, e1, hc⟩ := (HA.out.ext HX.out).2 k (by rw [HNA.out]; exact hk)
      subst e1
      have hc2 := HK.out.cell k (by omega)
      have hfz := HK.out.frozen k
      have hxor := u8_xor_nat (sum1 a k k) (co a k) (by unfold sum1; rw [if_neg (by omega)]; omega) (HA.out.1 k)
      have hst := HK.out.drewN 1
      have hst2 := hst.store k (sum1 a k k ^^^ co a k)
      have hup := hst2.congr (f' := sum1 a (k + 1)) (fun i _ => by
        unfold upd sum1
        by_cases h : i = k
        · subst h; rw [if_pos rfl, if_neg (by omega), if_pos (by omega), Nat.zero_xor]
        · rw [if_neg h]
          by_cases h' : i < k
          · rw [if_pos h', if_pos (by omega)]
          · rw [if_neg h', if_neg (by omega)])
      have HU := Lib.hid hup
      have hext := (HX.out.drewN 1).setCell (p := ⟨w.heap.size, k, none⟩) (Nat.le_refl _) (.int .u8 ((sum1 a k k ^^^ co a k : Nat) : Int))
      have HE := Lib.hid hext
      clear hst hst2 hup hext
      go_wp2
      go_region
      go_wp2
      go_roundg g
      case measure => omega
      case rel => exact ⟨k + 1, by omega, by go_num, HU.out, HE.out⟩

set_option maxHeartbeats 800000 in
set_option maxRecDepth 100000 in
theorem ref_add_long (a b : List Nat) (A B : Option Addr) (ca cb : Nat) (w : World) (ha : Rd w A a) (hb : Rd w B b) (hla : a.length ≤ 1048576) (_hlb : b.length ≤ 1048576) (hlt : ¬ a.length < b.length) :
    Calls Try.prog 55 #[.slice A a.length ca, .slice B b.length cb] w (GivesM (Pol.trim (Pol.addP a b)) w) := by
  generalize hna : a.length = na at *
  generalize hnb : b.length = nb at *
  have hmk := fun W => run_make_u8 na (by omega) W
  have hltI : ¬ (na : Int) < (nb : Int) := by omega
  have hna' : na ≤ na := by omega
  have hnb' : nb ≤ na := by omega
  have HA := Lib.hid ha
  have HB := Lib.hid hb
  have HNA := Lib.hid hna
  have HNB := Lib.hid hnb
  clear ha hb hna hnb
  go_enter Try.func55, Try.ntmps55
  go_wp2
  clear hmk
  go_loopg [16] na (fun g s wx => ∃ k : Nat, k + g = na ∧ s = .int .i64 (k : Int) ∧ Blk wx w.heap.size na (sum1 a k) ∧ Ext w wx)
  case atStart => exact ⟨0, by omega, rfl, Blk.new w na (sum1 a 0), (Ext.refl _).alloc _⟩
  case round =>
    obtain ⟨k, hkg, rfl, hblk, hx⟩ := hrel
    have HX := Lib.hid hx
    have HK := Lib.hid hblk
    clear hx hblk
    cases gk with
    | zero =>
      obtain rfl : na = k := by omega
      clear hkg
      go_wp2
      go_loopg [34] nb (fun g s wx => ∃ j : Nat, j + g = nb ∧ s = .int .i64 (j : Int) ∧ Blk wx w.heap.size na (sum2 a b j) ∧ Ext w wx)
      case atStart => exact ⟨0, by omega, rfl, HK.out.congr (fun i _ => by
        unfold sum1 sum2
        rw [if_neg (show ¬ i < 0 by omega), Nat.xor_zero]
        split
        · rfl
        · rw [Pol.co_out a i (by rw [HNA.out]; omega)]), HX.out⟩
      case round =>
        obtain ⟨j, hjg, rfl, hblk, hx⟩ := hrel
        have HY := Lib.hid hx
        have HL := Lib.hid hblk
        clear hx hblk
        cases gk with
        | zero =>
          obtain rfl : nb = j := by omega
          clear hjg
          have hsm : ∀ i, i < na → sum2 a b nb i < 256 := fun i _ => Gf.xor_lt _ _ (HA.out.1 i) (by split; exact HB.out.1 i; omega)
          have hr := HL.out.reads hsm
          have ht : Pol.trim (tab na (sum2 a b nb)) = Pol.trim (Pol.addP a b) := Pol.trim_ext _ _ (fun i => by
            rw [co_tab, Pol.co_addP]
            unfold sum2
            by_cases h : i < na
            · rw [if_pos h]
              by_cases h' : i < nb
              · rw [if_pos h']
              · rw [if_neg h', Pol.co_out b i (by rw [HNB.out]; omega)]
            · rw [if_neg h, Pol.co_out a i (by rw [HNA.out]; omega), Pol.co_out b i (by rw [HNB.out]; omega)]; rfl)
          have htr := ref_trim_m (tab na (sum2 a b nb)) (some ⟨w.heap.size, 0, none⟩) na _ hr (by rw [tab_len]; exact Nat.le_refl _) (by rw [tab_len]; omega)
          rw [tab_len, ht] at htr
          have HT := Lib.hid htr
          clear htr hr ht hsm
          go_wp2_with fail
          refine HT.out.mono ?_
          rintro e w2 hgv
          have HG := Lib.hid (hgv.after HY.out)
          obtain ⟨v2, rfl, _⟩ := hgv
          go_wp2
          go_ret
          exact HG.out
        | succ g =>
          have hj : j < nb := by omega
          have hjI : (j : Int) < (nb : Int) := by omega
          have hjN : (j : Int) < (na : Int) := by omega
          obtain ⟨b1, o1, e1, hc⟩ := (HB.out.ext HY.out).2 j (by rw [HNB.out]; exact hj)
          subst e1
          have hc2 := HL.out.cell j (by omega)
          have hfz := HL.out.frozen j
          have hxor := u8_xor_nat (sum2 a b j j) (co b j) (Gf.xor_lt _ _ (HA.out.1 j) (by rw [if_neg (by omega)]; omega)) (HB.out.1 j)
          have hst := HL.out.drewN 1
          have hst2 := hst.store j (sum2 a b j j ^^^ co b j)
          have hup := hst2.congr (f' := sum2 a b (j + 1)) (fun i _ => by
            unfold upd sum2
            by_cases h : i = j
            · subst h; rw [if_pos rfl, if_neg (by omega), if_pos (by omega), Nat.xor_zero]
            · rw [if_neg h]
              by_cases h' : i < j
              · rw [if_pos h', if_pos (by omega)]
              · rw [if_neg h', if_neg (by omega)])
          have HU := Lib.hid hup
          have hext := (HY.out.drewN 1).setCell (p := ⟨w.heap.size, j, none⟩) (Nat.le_refl _) (.int .u8 ((sum2 a b j j ^^^ co b j : Nat) : Int))
          have HE := Lib.hid hext
          clear hst hst2 hup hext
          go_wp2
          go_region
          go_wp2
          go_roundg g
          case measure => omega
          case rel => exact ⟨j + 1, by omega, by go_num, HU.out, HE.out⟩
    | succ g =>
      have hk : k < na := by omega
      have hkI : (k : Int) < (na : Int) := by omega
      have hkN : (k : Int) < (na : Int) := by omega
      obtain ⟨b1, o1, e1, hc⟩ := (HA.out.ext HX.out).2 k (by rw [HNA.out]; exact hk)
      subst e1
      have hc2 := HK.out.cell k (by omega)
      have hfz := HK.out.frozen k
      have hxor := u8_xor_nat (sum1 a k k) (co a k) (by unfold sum1; rw [if_neg (by omega)]; omega) (HA.out.1 k)
      have hst := HK.out.drewN 1
      have hst2 := hst.store k (sum1 a k k ^^^ co a k)
      have hup := hst2.congr (f' := sum1 a (k + 1)) (fun i _ => by
        unfold upd sum1
        by_cases h : i = k
        · subst h; rw [if_pos rfl, if_neg (by omega), if_pos (by omega), Nat.zero_xor]
        · rw [if_neg h]
          by_cases h' : i < k
          · rw [if_pos h', if_pos (by omega)]
          · rw [if_neg h', if_neg (by omega)])
      have HU := Lib.hid hup
      have hext := (HX.out.drewN 1).setCell (p := ⟨w.heap.size, k, none⟩) (Nat.le_refl _) (.int .u8 ((sum1 a k k ^^^ co a k : Nat) : Int))
      have HE := Lib.hid hext
      clear hst hst2 hup hext
      go_wp2
      go_region
      go_wp2
      go_roundg g
      case measure => omega
      case rel => exact ⟨k + 1, by omega, by go_num, HU.out, HE.out⟩

theorem ref_add_m (a b : List Nat) (A B : Option Addr) (ca cb : Nat) (w : World) (ha : Rd w A a) (hb : Rd w B b) (hla : a.length ≤ 1048576) (hlb : b.length ≤ 1048576) :
    Calls Try.prog 55 #[.slice A a.length ca, .slice B b.length cb] w (GivesM (Pol.trim (Pol.addP a b)) w) := by
  by_cases h : a.length < b.length
  · exact ref_add_short a b A B ca cb w ha hb hla hlb h
  · exact ref_add_long a b A B ca cb w ha hb hla hlb h
theorem ref_add (a b : List Nat) (A B : Option Addr) (ca cb : Nat) (w : World) (ha : Rd w A a) (hb : Rd w B b) (hla : a.length ≤ 1048576) (hlb : b.length ≤ 1048576) :
    Calls Try.prog 55 #[.slice A a.length ca, .slice B b.length cb] w (Gives (Pol.trim (Pol.addP a b)) w) := (ref_add_m a b A B ca cb w ha hb hla hlb).mono fun _ _ h => h.gives
end Go.Proofs.Ytffdmhcbcaemfaa

/-
  What the document's own Mul of layer 2 does: the product, trimmed. Conditions: no more than 2^20 coefficients.
-/
namespace Go.Proofs.Ytffdmhcbcaemfaa
open Go.RowKit
open Pol (co Sm)

/-- The coefficient at place j, behind i whole rows, and k places of the next one. -/
def row (a b : List Nat) (i k j : Nat) : Nat := Pol.pc i (co a) (co b) j ^^^ (if i ≤ j ∧ j < i + k then Gf.mul (co a i) (co b (j - i)) else 0)
theorem pc_lt (n : Nat) (A B : Nat → Nat) (j : Nat) : Pol.pc n A B j < 256 := Pol.xs_lt n (fun i _ => by split; exact Gf.mul_lt _ _; omega)
theorem row_lt (a b : List Nat) (i k j : Nat) : row a b i k j < 256 := Gf.xor_lt _ _ (pc_lt _ _ _ _) (by split; exact Gf.mul_lt _ _; omega)
theorem row_zero (a b : List Nat) (i j : Nat) : row a b i 0 j = Pol.pc i (co a) (co b) j := by
  unfold row
  rw [if_neg (by omega), Nat.xor_zero]
theorem row_next (a b : List Nat) (i j : Nat) : row a b i b.length j = row a b (i + 1) 0 j := by
  rw [row_zero]
  unfold row Pol.pc
  rw [Pol.xs]
  congr 1
  by_cases h : i ≤ j
  · rw [if_pos h]
    by_cases h' : j < i + b.length
    · rw [if_pos ⟨h, h'⟩]
    · rw [if_neg (by omega), Pol.co_out b (j - i) (by omega), Gf.mul_zero]
  · rw [if_neg h, if_neg (by omega)]
theorem row_step (a b : List Nat) (i k j : Nat) : upd (row a b i k) (i + k) (row a b i k (i + k) ^^^ Gf.mul (co a i) (co b k)) j = row a b i (k + 1) j := by
  unfold upd
  by_cases h : j = i + k
  · subst h
    rw [if_pos rfl]
    unfold row
    rw [if_neg (by omega), if_pos (by omega), Nat.xor_zero, Nat.add_sub_cancel_left]
  · rw [if_neg h]
    unfold row
    by_cases h' : i ≤ j ∧ j < i + k
    · rw [if_pos h', if_pos (by omega)]
    · rw [if_neg h', if_neg (by omega)]

set_option maxHeartbeats 1000000 in
set_option maxRecDepth 100000 in
theorem ref_pmul (a b : List Nat) (A B : Option Addr) (ca cb : Nat) (w : World) (ha : Rd w A a) (hb : Rd w B b) (hla : a.length ≤ 524288) (hlb : b.length ≤ 524288) :
    Calls Try.prog 54 #[.slice A a.length ca, .slice B b.length cb] w (Gives (Pol.trim (Pol.mulP a b)) w) := by
  have hnext := row_next a b
  generalize hna : a.length = na at *
  generalize hnb : b.length = nb at *
  obtain ⟨N, hN⟩ : ∃ N, na + nb = N := ⟨_, rfl⟩
  have hmk := fun W => run_make_u8 N (by omega) W
  have HA := Lib.hid ha
  have HB := Lib.hid hb
  have HNA := Lib.hid hna
  have HNB := Lib.hid hnb
  have HNX := Lib.hid hnext
  clear ha hb hna hnb hnext
  have hcast : (N : Int) = (na : Int) + (nb : Int) := by omega
  have HN := Lib.hid hN
  rw [hcast] at hmk
  clear hcast hN
  go_enter Try.func54, Try.ntmps54
  go_wp2
  clear hmk
  go_loopg [16] na (fun g s wx => ∃ i : Nat, i + g = na ∧ s = .int .i64 (i : Int) ∧ Blk wx w.heap.size N (row a b i 0) ∧ Ext w wx)
  case atStart => exact ⟨0, by omega, rfl, (Blk.new w N (fun _ => 0)).congr (fun j _ => by rw [row_zero]; rfl), (Ext.refl _).alloc _⟩
  case round =>
    obtain ⟨i, hig, rfl, hblk, hx⟩ := hrel
    have HX := Lib.hid hx
    have HK := Lib.hid hblk
    clear hx hblk
    cases gk with
    | zero =>
      obtain rfl : na = i := by omega
      clear hig
      have hr := HK.out.reads (fun j _ => row_lt a b na 0 j)
      have ht : Pol.trim (tab N (row a b na 0)) = Pol.trim (Pol.mulP a b) := Pol.trim_ext _ _ (fun j => by
        rw [co_tab, Pol.co_mulP, HNA.out, row_zero]
        split
        · rfl
        · rename_i h
          refine (Pol.xs_zero na (fun i hi => ?_)).symm
          by_cases h' : i ≤ j
          · rw [if_pos h', Pol.co_out b (j - i) (by rw [HNB.out]; have := HN.out; omega), Gf.mul_zero]
          · rw [if_neg h'])
      have htr := ref_trim (tab N (row a b na 0)) (some ⟨w.heap.size, 0, none⟩) N _ hr (by rw [tab_len]; exact Nat.le_refl _) (by rw [tab_len]; have := HN.out; omega)
      rw [tab_len, ht] at htr
      have HT := Lib.hid htr
      clear htr hr ht
      go_wp2_with fail
      refine HT.out.mono ?_
      rintro e w2 ⟨V, c, rfl, hc, hrd, hxx⟩
      have HR := Lib.hid hrd
      have HXX := Lib.hid hxx
      clear hrd hxx
      go_wp2
      go_ret
      exact ⟨V, c, rfl, hc, HR.out, HX.out.trans HXX.out⟩
    | succ g =>
      have hiI : (i : Int) < (na : Int) := by omega
      go_wp2
      go_loopg [21] nb (fun g s wx => ∃ k : Nat, k + g = nb ∧ s = .int .i64 (k : Int) ∧ Blk wx w.heap.size N (row a b i k) ∧ Ext w wx)
      case atStart => exact ⟨0, by omega, rfl, HK.out, HX.out⟩
      case round =>
        obtain ⟨k, hkg, rfl, hblk, hx⟩ := hrel
        have HY := Lib.hid hx
        have HL := Lib.hid hblk
        clear hx hblk
        cases gk with
        | zero =>
          obtain rfl : nb = k := by omega
          clear hkg
          go_wp2
          go_roundg g
          case measure => omega
          case rel => exact ⟨i + 1, by omega, by go_num, HL.out.congr (fun j _ => HNX.out i j), HY.out⟩
        | succ h =>
          have hk : k < nb := by omega
          have hkI : (k : Int) < (nb : Int) := by omega
          obtain ⟨s, hs⟩ : ∃ s, i + k = s := ⟨_, rfl⟩
          have hsN : (s : Int) < (N : Int) := by have := HN.out; omega
          have hw : IntKind.i64.wrap ((i : Int) + (k : Int)) = (s : Int) := by rw [IntWalk.i64_in _ (by omega)]; omega
          obtain ⟨b1, o1, e1, hc1⟩ := (HA.out.ext HY.out).2 i (by rw [HNA.out]; omega)
          subst e1
          obtain ⟨b2, o2, e2, hc2⟩ := (HB.out.ext HY.out).2 k (by rw [HNB.out]; omega)
          subst e2
          have hc3 := HL.out.cell s (by have := HN.out; omega)
          have hfz := HL.out.frozen s
          have hxor := u8_xor_nat (row a b i k s) (Gf.mul (co a i) (co b k)) (row_lt _ _ _ _ _) (Gf.mul_lt _ _)
          have hst := ((HL.out.drewN 1).store s (row a b i k s ^^^ Gf.mul (co a i) (co b k))).congr (f' := row a b i (k + 1)) (fun j _ => by rw [← hs]; exact row_step a b i k j)
          have HU := Lib.hid hst
          have hext := (HY.out.drewN 1).setCell (p := ⟨w.heap.size, s, none⟩) (Nat.le_refl _) (.int .u8 ((row a b i k s ^^^ Gf.mul (co a i) (co b k) : Nat) : Int))
          have HE := Lib.hid hext
          have hcm := fun W => (ref_mul (co a i) (co b k) (HA.out.1 i) (HB.out.1 k) W).mono fun _ _ h => (⟨h.1, h.2.symm⟩ : _ ∧ _ = W)
          have HM := Lib.hid hcm
          have HS := Lib.hid hs
          clear hst hext hcm hs
          go_wp2
          go_still_tail 21, (by kernel_rfl)
          still_call (HM.out _)
          repeat still_step
          refine wpStill_nil ?_
          change wpList _ _ _ _ _ wr.drew
          go_wp2
          go_roundg h
          case measure => omega
          case rel => exact ⟨k + 1, by omega, by go_num, HU.out, HE.out⟩
end Go.Proofs.Ytffdmhcbcaemfaa

/-
  The document's own answer for layer 1, as the statements hold it: the inverse, by trying. Conditions: none beyond the kinds of the arguments.
-/
namespace Go.Proofs.Ytffdmhcbcaemfaa
open Go.RowKit

/-! The inverse, by trying. -/
def Tried (a : Nat) (i : Value) : Prop := ∃ k : Nat, k ≤ 256 ∧ i = .int .i64 (k : Int) ∧ ∀ j, j < k → Gf.mul a j ≠ 1

set_option maxHeartbeats 400000 in
set_option maxRecDepth 100000 in
theorem ref_inv (a : Nat) (ha : a < 256) (a0 : a ≠ 0) (w : World) :
    Calls Try.prog 53 #[.int .u8 (a : Int)] w fun e w' => e = .returned (.tuple #[.int .u8 ((Gf.quo 1 a : Nat) : Int), .bool true]) ∧ w = w' := by
  go_enter Try.func53, Try.ntmps53
  go_wp2
  go_loop [4] (fun i => Tried a i) (fun i => 256 - (intOf i).toNat)
  case atStart => exact ⟨0, by omega, rfl, fun j h => by omega⟩
  case round =>
    obtain ⟨k, hk, rfl, hno⟩ := hrel
    have hq := Gf.quo_mul 1 a (by omega) ha a0
    have hql := Gf.quo_lt 1 a
    by_cases he : k = 256
    · exact absurd ((Gf.mul_comm _ _).trans hq) (hno _ (by omega))
    have hkI : (k : Int) < 256 := by omega
    by_cases h1 : Gf.mul a k = 1
    · have hv : Gf.quo 1 a = k := Gf.quo_of 1 a k (by omega) ha a0 (by omega) ((Gf.mul_comm _ _).trans h1)
      have HV := Lib.hid hv
      have H1 := Lib.hid h1
      clear hv h1 hq hno hql
      go_wp2_with fail
      refine (ref_mul_is a k 1 ha (by omega) H1.out _).mono ?_
      rintro e w' ⟨rfl, rfl⟩
      go_wp2_with fail
      go_ret2
      exact ⟨by rw [HV.out]; rfl, rfl⟩
    · have hne : (((Gf.mul a k : Nat) : Int) == 1) = false := beq_eq_false_iff_ne.2 (by omega)
      have HN := Lib.hid hno
      have H1 := Lib.hid h1
      clear hno h1 hq hql
      go_wp2_with fail
      refine (ref_mul a k ha (by omega) _).mono ?_
      rintro e w' ⟨rfl, rfl⟩
      go_wp2_with fail
      go_round
      case rel => exact ⟨k + 1, by omega, by go_num, fun j hj => by
        by_cases e : j = k
        · subst e; exact H1.out
        · exact HN.out j (by omega)⟩
      case measure => simp [intOf]; omega

set_option maxHeartbeats 400000 in
set_option maxRecDepth 100000 in
theorem ref_inv_zero (w : World) :
    Calls Try.prog 53 #[.int .u8 0] w fun e w' => e = .returned (.tuple #[.int .u8 0, .bool false]) ∧ w = w' := by
  go_enter Try.func53, Try.ntmps53
  go_wp2
  go_loop [4] (fun i => Tried 0 i) (fun i => 256 - (intOf i).toNat)
  case atStart => exact ⟨0, by omega, rfl, fun j h => by omega⟩
  case round =>
    obtain ⟨k, hk, rfl, hno⟩ := hrel
    clear hno
    by_cases he : k = 256
    · subst he
      go_wp2_with fail
      go_ret2
      exact ⟨rfl, rfl⟩
    have hkI : (k : Int) < 256 := by omega
    go_wp2_with fail
    refine (ref_mul_is 0 k 0 (by omega) (by omega) (Gf.zero_mul k) _).mono ?_
    rintro e w' ⟨rfl, rfl⟩
    go_wp2_with fail
    go_round
    case rel => exact ⟨k + 1, by omega, by go_num, fun j _ => by rw [Gf.zero_mul]; omega⟩
    case measure => simp [intOf]; omega

end Go.Proofs.Ytffdmhcbcaemfaa

/-
  What the document's own Through of layer 2 does: the polynomial through points of which no place is there twice. Conditions: no more than 2^16 points.
-/
namespace Go.Proofs.Ytffdmhcbcaemfaa
open Go.RowKit
open Pol (co Sm px py Apart lag thr dd)

set_option maxHeartbeats 800000 in
set_option maxRecDepth 100000 in
theorem ref_through_m (l : List (Nat × Nat)) (A : Option Addr) (ca : Nat) (w : World) (ha : PRd w A l) (hl : l.length ≤ 65536) (hd : Apart l l.length) :
    Calls Try.prog 39 #[.slice A l.length ca] w (GivesM (thr l l.length) w) := by
  generalize hnn : l.length = n at hl hd ⊢
  have HA := Lib.hid ha
  have HN := Lib.hid hnn
  have HD := Lib.hid hd
  clear ha hnn hd
  go_enter Try.func39, Try.ntmps39
  go_wp2
  go_loopg [3, 11] n (fun g s3 s11 wx => ∃ i : Nat, i + g = n ∧ s11 = .int .i64 (i : Int) ∧ Mine wx w.heap.size s3 (thr l i) ∧ Ext w wx)
  case atStart => exact ⟨0, by omega, rfl, Mine.nil _ _, Ext.refl _⟩
  case round =>
    obtain ⟨i, hig, rfl, hmi, hx⟩ := hrel
    obtain ⟨V, cv, rfl, hcv, hrv⟩ := hmi.slice (Pol.thr_sm l HA.out.1 i)
    have HX := Lib.hid hx
    have HMI := Lib.hid hmi
    have HSM := Lib.hid (Pol.thr_sm l HA.out.1 i)
    clear hmi
    have HV := Lib.hid hrv
    have HC := Lib.hid hcv
    clear hx hrv hcv
    cases gk with
    | zero =>
      obtain rfl : n = i := by omega
      clear hig
      go_wp2
      go_ret
      exact ⟨_, rfl, HMI.out, HSM.out, HX.out⟩
    | succ g =>
      have hiI : (i : Int) < (n : Int) := by omega
      obtain ⟨b1, o1, e1, _, hcy⟩ := (HA.out.ext HX.out).2 i (by rw [HN.out]; omega)
      subst e1
      have hpy := (HA.out.1 i).2
      have hlag0 : Rd (wr.alloc (.cells #[.int .u8 ((py l i : Nat) : Int)] 5)) (some ⟨wr.heap.size, 0, none⟩) (lag l i 0) := rd_one wr _ hpy
      have HL0 := Lib.hid hlag0
      clear hlag0
      go_wp2
      go_loopg [5, 22] n (fun g s5 s22 wx => ∃ k : Nat, k + g = n ∧ s22 = .int .i64 (k : Int) ∧ Sl wx s5 (lag l i k) ∧ Ext wr wx)
      case atStart => exact ⟨0, by omega, rfl, ⟨_, 1, rfl, Nat.le_refl _, HL0.out⟩, (Ext.refl _).alloc _⟩
      case round =>
        obtain ⟨k, hkg, rfl, ⟨U, cu, rfl, hcu, hru⟩, hy⟩ := hrel
        have HY := Lib.hid hy
        have HU := Lib.hid hru
        have HCU := Lib.hid hcu
        clear hy hru hcu
        cases gk with
        | zero =>
          obtain rfl : n = k := by omega
          clear hkg
          have hlt : (thr l i).length ≤ 1048576 := by
            have h1 := Pol.trim_le (thr l i) l.length (Pol.thr_len l i (by rw [HN.out]; omega))
            rw [Pol.thr_trim, HN.out] at h1
            omega
          have hlu : (lag l i n).length ≤ 1048576 := by
            have h1 := Pol.lag_len l i n
            split at h1 <;> omega
          have HLT := Lib.hid hlt
          have HLU := Lib.hid hlu
          have hthr : thr l (i + 1) = Pol.trim (Pol.addP (thr l i) (lag l i n)) := by rw [thr, HN.out]
          have HTH := Lib.hid hthr
          clear hlt hlu hthr
          go_wp2_with fail
          refine (ref_add_m (thr l i) (lag l i n) V U cv cu _ (HV.out.ext HY.out) HU.out HLT.out HLU.out).mono ?_
          rintro e w2 ⟨v2, rfl, hmB, _, hxB⟩
          have HB := Lib.hid (hmB.down (HX.out.trans HY.out).size)
          have HXB := Lib.hid hxB
          clear hmB hxB
          go_wp2
          go_roundg g
          case measure => omega
          case rel => exact ⟨i + 1, by omega, by go_num, by rw [HTH.out]; exact HB.out, (HX.out.trans HY.out).trans HXB.out⟩
        | succ h =>
          have hkI : (k : Int) < (n : Int) := by omega
          by_cases hki : k = i
          · have hne : ((k : Int) != (i : Int)) = false := by subst hki; simp
            have hlag : lag l i (k + 1) = lag l i k := by rw [lag, if_pos hki]
            have HLG := Lib.hid hlag
            clear hlag hki
            go_wp2
            go_roundg h
            case measure => omega
            case rel => exact ⟨k + 1, by omega, by go_num, by rw [HLG.out]; exact ⟨U, cu, rfl, HCU.out, HU.out⟩, HY.out⟩
          · have hne : ((k : Int) != (i : Int)) = true := by simp; omega
            have hlag : lag l i (k + 1) = Pol.trim (Pol.mulP (lag l i k) [Gf.mul (px l k) (dd l i k), dd l i k]) := by rw [lag, if_neg hki]
            have HLG := Lib.hid hlag
            obtain ⟨b2, o2, e2, hcx, _⟩ := (HA.out.ext (HX.out.trans HY.out)).2 i (by rw [HN.out]; omega)
            injection e2 with e2
            injection e2 with e3 e4
            subst e3
            subst e4
            obtain ⟨b2, o2, e2, hck, _⟩ := (HA.out.ext (HX.out.trans HY.out)).2 k (by rw [HN.out]; omega)
            injection e2 with e2
            injection e2 with e3 e4
            subst e3
            subst e4
            have hxor := u8_xor_nat (px l i) (px l k) (HA.out.1 i).1 (HA.out.1 k).1
            obtain ⟨z, hz⟩ : ∃ z, px l i ^^^ px l k = z := ⟨_, rfl⟩
            have hz1 : z < 256 := by rw [← hz]; exact Gf.xor_lt _ _ (HA.out.1 i).1 (HA.out.1 k).1
            have hz0 : z ≠ 0 := by rw [← hz]; exact fun e => HD.out.ne (by omega) (by omega) (fun h => hki h.symm) (Gf.xor_zero_iff _ _ e)
            have hdd : dd l i k = Gf.quo 1 z := by unfold dd; rw [hz]
            rw [hz] at hxor
            have HZ := Lib.hid hdd
            clear hlag hki hz hdd
            go_wp2
            go_quiet (first | (go_at_call 53; exact quiet_same (ref_inv z hz1 hz0 _)))
            have hlu : (lag l i k).length ≤ 524288 := by
              have h1 := Pol.lag_len l i k
              split at h1 <;> omega
            have hpk := (HA.out.1 k).1
            have hq1 := Gf.quo_lt 1 z
            have HLU := Lib.hid hlu
            clear hlu hcx hxor
            go_wp2_with fail
            refine (ref_mul (px l k) (Gf.quo 1 z) hpk hq1 _).mono ?_
            rintro e w2 ⟨rfl, rfl⟩
            go_wp2_with fail
            refine (ref_pmul (lag l i k) [Gf.mul (px l k) (Gf.quo 1 z), Gf.quo 1 z] U (some ⟨wr.heap.size, 0, none⟩) cu 2 _ ((HU.out.drewN nq).ext ((Ext.refl _).alloc _)) (rd_two (wr.drewN nq) _ _ (Gf.mul_lt _ _) hq1) HLU.out (by simp)).mono ?_
            rintro e w2 ⟨B, c, rfl, hcB, hrB, hxB⟩
            have HB := Lib.hid hrB
            have HCB := Lib.hid hcB
            have HXB := Lib.hid hxB
            clear hrB hcB hxB
            go_wp2
            go_roundg h
            case measure => omega
            case rel => exact ⟨k + 1, by omega, by go_num, by rw [HLG.out, HZ.out]; exact ⟨B, c, rfl, HCB.out, HB.out⟩, ((HY.out.drewN nq).alloc _).trans HXB.out⟩
theorem ref_through (l : List (Nat × Nat)) (A : Option Addr) (ca : Nat) (w : World) (ha : PRd w A l) (hl : l.length ≤ 65536) (hd : Apart l l.length) :
    Calls Try.prog 39 #[.slice A l.length ca] w (Gives (thr l l.length) w) := (ref_through_m l A ca w ha hl hd).mono fun _ _ h => h.gives
end Go.Proofs.Ytffdmhcbcaemfaa

/-
  What the document's own Twice of layer 2 does: it tells whether two points have one place. Conditions: no more than 2^20 points.
-/
namespace Go.Proofs.Ytffdmhcbcaemfaa
open Go.RowKit
open Pol (px py Apart)

set_option maxHeartbeats 400000 in
set_option maxRecDepth 100000 in
theorem ref_twice_no (l : List (Nat × Nat)) (A : Option Addr) (ca : Nat) (w : World) (ha : PRd w A l) (hl : l.length ≤ 1048576) (hn : Apart l l.length) :
    Calls Try.prog 37 #[.slice A l.length ca] w (Hands (.bool false) w) := by
  generalize hnn : l.length = n at *
  have HA := Lib.hid ha
  have HN := Lib.hid hnn
  have HD := Lib.hid hn
  clear ha hnn hn
  go_enter Try.func37, Try.ntmps37
  go_wp2
  go_loopg [7] n (fun g s wx => ∃ i m : Nat, i + g = n ∧ s = .int .i64 (i : Int) ∧ wx = w.drewN m ∧ Apart l i)
  case atStart => exact ⟨0, 0, by omega, rfl, rfl, fun i k _ hi => by omega⟩
  case round =>
    obtain ⟨i, m, hig, rfl, rfl, hap⟩ := hrel
    have HP := Lib.hid hap
    clear hap
    cases gk with
    | zero =>
      obtain rfl : n = i := by omega
      clear hig
      go_wp2
      go_ret
      exact ⟨rfl, m, rfl⟩
    | succ g =>
      have hiI : (i : Int) < (n : Int) := by omega
      go_wp2
      go_loopg [4] i (fun g s wx => ∃ k m : Nat, k + g = i ∧ s = .int .i64 (k : Int) ∧ wx = w.drewN m ∧ ∀ k', k' < k → px l i ≠ px l k')
      case atStart => exact ⟨0, m, by omega, rfl, rfl, fun k' h => by omega⟩
      case round =>
        obtain ⟨k, m, hkg, rfl, rfl, hno⟩ := hrel
        have HO := Lib.hid hno
        clear hno
        cases gk with
        | zero =>
          obtain rfl : i = k := by omega
          clear hkg
          go_wp2
          go_roundg g
          case measure => omega
          case rel => exact ⟨i + 1, m, by omega, by go_num, rfl, fun i' k' h1 h2 => by
            by_cases e : i' = i
            · subst e; exact HO.out k' h1
            · exact HP.out i' k' h1 (by omega)⟩
        | succ h =>
          have hk : k < i := by omega
          have hkI : (k : Int) < (i : Int) := by omega
          have hknI : (k : Int) < (n : Int) := by omega
          obtain ⟨b1, o1, e1, hc1, _⟩ := HA.out.2 i (by rw [HN.out]; omega)
          subst e1
          obtain ⟨b2, o2, e2, hc2, _⟩ := HA.out.2 k (by rw [HN.out]; omega)
          injection e2 with e2
          injection e2 with e3 e4
          subst e3
          subst e4
          have d1 : (w.drewN m).cell? ⟨b1, o1 + i * 2, none⟩ = some (.int .u8 ((px l i : Nat) : Int)) := hc1
          have d2 : (w.drewN m).cell? ⟨b1, o1 + k * 2, none⟩ = some (.int .u8 ((px l k : Nat) : Int)) := hc2
          clear hc1 hc2
          generalize hW : w.drewN m = W at d1 d2 ⊢
          have HW := Lib.hid hW
          clear hW
          by_cases hq : px l i = px l k
          · have ht : (((px l i : Nat) : Int) == ((px l k : Nat) : Int)) = true := beq_iff_eq.2 (by omega)
            have HQ := Lib.hid hq
            exact absurd hq (HD.out i k (by omega) (by omega))
          · have ht : (((px l i : Nat) : Int) == ((px l k : Nat) : Int)) = false := beq_eq_false_iff_ne.2 (by omega)
            have HQ := Lib.hid hq
            clear hq
            go_wp2
            go_quiet (fail)
            go_wp2
            go_roundg h
            case measure => omega
            case rel => exact ⟨k + 1, m + nq, by omega, by go_num, by rw [← HW.out, World.drewN_drewN], fun k' h' => by
              by_cases e : k' = k
              · subst e; exact HQ.out
              · exact HO.out k' (by omega)⟩

set_option maxHeartbeats 400000 in
set_option maxRecDepth 100000 in
theorem ref_twice_yes (l : List (Nat × Nat)) (A : Option Addr) (ca : Nat) (w : World) (ha : PRd w A l) (hl : l.length ≤ 1048576) (hn : ¬ Apart l l.length) :
    Calls Try.prog 37 #[.slice A l.length ca] w (Hands (.bool true) w) := by
  generalize hnn : l.length = n at *
  have HA := Lib.hid ha
  have HN := Lib.hid hnn
  have HD := Lib.hid hn
  clear ha hnn hn
  go_enter Try.func37, Try.ntmps37
  go_wp2
  go_loopg [7] n (fun g s wx => ∃ i m : Nat, i + g = n ∧ s = .int .i64 (i : Int) ∧ wx = w.drewN m ∧ Apart l i)
  case atStart => exact ⟨0, 0, by omega, rfl, rfl, fun i k _ hi => by omega⟩
  case round =>
    obtain ⟨i, m, hig, rfl, rfl, hap⟩ := hrel
    have HP := Lib.hid hap
    clear hap
    cases gk with
    | zero =>
      obtain rfl : n = i := by omega
      clear hig
      exact absurd HP.out HD.out
    | succ g =>
      have hiI : (i : Int) < (n : Int) := by omega
      go_wp2
      go_loopg [4] i (fun g s wx => ∃ k m : Nat, k + g = i ∧ s = .int .i64 (k : Int) ∧ wx = w.drewN m ∧ ∀ k', k' < k → px l i ≠ px l k')
      case atStart => exact ⟨0, m, by omega, rfl, rfl, fun k' h => by omega⟩
      case round =>
        obtain ⟨k, m, hkg, rfl, rfl, hno⟩ := hrel
        have HO := Lib.hid hno
        clear hno
        cases gk with
        | zero =>
          obtain rfl : i = k := by omega
          clear hkg
          go_wp2
          go_roundg g
          case measure => omega
          case rel => exact ⟨i + 1, m, by omega, by go_num, rfl, fun i' k' h1 h2 => by
            by_cases e : i' = i
            · subst e; exact HO.out k' h1
            · exact HP.out i' k' h1 (by omega)⟩
        | succ h =>
          have hk : k < i := by omega
          have hkI : (k : Int) < (i : Int) := by omega
          have hknI : (k : Int) < (n : Int) := by omega
          obtain ⟨b1, o1, e1, hc1, _⟩ := HA.out.2 i (by rw [HN.out]; omega)
          subst e1
          obtain ⟨b2, o2, e2, hc2, _⟩ := HA.out.2 k (by rw [HN.out]; omega)
          injection e2 with e2
          injection e2 with e3 e4
          subst e3
          subst e4
          have d1 : (w.drewN m).cell? ⟨b1, o1 + i * 2, none⟩ = some (.int .u8 ((px l i : Nat) : Int)) := hc1
          have d2 : (w.drewN m).cell? ⟨b1, o1 + k * 2, none⟩ = some (.int .u8 ((px l k : Nat) : Int)) := hc2
          clear hc1 hc2
          generalize hW : w.drewN m = W at d1 d2 ⊢
          have HW := Lib.hid hW
          clear hW
          by_cases hq : px l i = px l k
          · have ht : (((px l i : Nat) : Int) == ((px l k : Nat) : Int)) = true := beq_iff_eq.2 (by omega)
            have HQ := Lib.hid hq
            clear hq
            go_wp2
            go_quiet (fail)
            go_wp2
            go_ret
            exact ⟨rfl, _, by rw [← HW.out, World.drewN_drewN]⟩
          · have ht : (((px l i : Nat) : Int) == ((px l k : Nat) : Int)) = false := beq_eq_false_iff_ne.2 (by omega)
            have HQ := Lib.hid hq
            clear hq
            go_wp2
            go_quiet (fail)
            go_wp2
            go_roundg h
            case measure => omega
            case rel => exact ⟨k + 1, m + nq, by omega, by go_num, by rw [← HW.out, World.drewN_drewN], fun k' h' => by
              by_cases e : k' = k
              · subst e; exact HQ.out
              · exact HO.out k' (by omega)⟩
end Go.Proofs.Ytffdmhcbcaemfaa

/-
  What the document's own Decode of layer 4 does: the one polynomial of so many coefficients that goes through all points but some, or its errors. Conditions: no more than 2^16 points for what is refused, 40 otherwise.
-/
namespace Go.Proofs.Ytffdmhcbcaemfaa
open Go.RowKit
open Pol (co Sm px py Apart thr)
open Wel (Ap wrongs)

set_option maxHeartbeats 800000 in
set_option maxRecDepth 100000 in
theorem ref_decode_odd (l : List (Nat × Nat)) (k v : Int) (A : Option Addr) (ca : Nat) (w : World) (hl : PRd w A l) (hll : l.length ≤ 65536) (h : ¬ Fine l k v) :
    Calls Try.prog 21 #[.slice A l.length ca, .int .i64 k, .int .i64 v] w (GivesE [] 1 w) := by
  by_cases hap : Apart l l.length
  · have HT := Lib.hid (ref_twice_no l A ca w hl (by omega) hap)
    have hq : ¬ (1 ≤ k ∧ 0 ≤ v ∧ k + 2 * v ≤ (l.length : Int)) := fun h' => h ⟨hap, h'⟩
    generalize l.length = n at *
    clear h hl hap
    by_cases h1 : k < 1
    · have d1 : decide (k < 1) = true := by simp; omega
      clear hq
      go_enter Try.func21, Try.ntmps21
      go_wp2_with fail
      refine HT.out.mono ?_
      rintro e w1 ⟨rfl, q, rfl⟩
      go_wp2
      go_ret2
      exact ⟨_, rfl, sl_none _, (Ext.refl w).drewN q⟩
    · have d1 : decide (k < 1) = false := by simp; omega
      by_cases h2 : v < 0
      · have d2 : decide (v < 0) = true := by simp; omega
        clear hq
        go_enter Try.func21, Try.ntmps21
        go_wp2_with fail
        refine HT.out.mono ?_
        rintro e w1 ⟨rfl, q, rfl⟩
        go_wp2
        go_ret2
        exact ⟨_, rfl, sl_none _, (Ext.refl w).drewN q⟩
      · have d2 : decide (v < 0) = false := by simp; omega
        by_cases h3 : (n : Int) < k
        · have d3 : decide ((n : Int) < k) = true := by simp; omega
          clear hq
          go_enter Try.func21, Try.ntmps21
          go_wp2_with fail
          refine HT.out.mono ?_
          rintro e w1 ⟨rfl, q, rfl⟩
          go_wp2
          go_ret2
          exact ⟨_, rfl, sl_none _, (Ext.refl w).drewN q⟩
        · have d3 : decide ((n : Int) < k) = false := by simp; omega
          by_cases h4 : (n : Int) < v
          · have d4 : decide ((n : Int) < v) = true := by simp; omega
            clear hq
            go_enter Try.func21, Try.ntmps21
            go_wp2_with fail
            refine HT.out.mono ?_
            rintro e w1 ⟨rfl, q, rfl⟩
            go_wp2
            go_ret2
            exact ⟨_, rfl, sl_none _, (Ext.refl w).drewN q⟩
          · have d4 : decide ((n : Int) < v) = false := by simp; omega
            have h5 : (n : Int) < k + 2 * v := by omega
            have d5 : decide ((n : Int) < k + 2 * v) = true := by simp; omega
            clear hq
            go_enter Try.func21, Try.ntmps21
            go_wp2_with fail
            refine HT.out.mono ?_
            rintro e w1 ⟨rfl, q, rfl⟩
            go_wp2
            go_ret2
            exact ⟨_, rfl, sl_none _, (Ext.refl w).drewN q⟩
  · have HT := Lib.hid (ref_twice_yes l A ca w hl (by omega) hap)
    generalize l.length = n at *
    clear h hl hap
    go_enter Try.func21, Try.ntmps21
    go_wp2_with fail
    refine HT.out.mono ?_
    rintro e w1 ⟨rfl, q, rfl⟩
    go_wp2
    go_ret2
    exact ⟨_, rfl, sl_none _, (Ext.refl w).drewN q⟩

/-- No choice below b is any good. -/
def Vain (l : List (Nat × Nat)) (k v b : Nat) : Prop := ∀ c, c < b → ¬ ((Wel.sub l c).length = k ∧ Wel.bad l (thr (Wel.sub l c) (Wel.sub l c).length) ≤ v)
theorem Vain.all {l : List (Nat × Nat)} {k v b : Nat} (h : Vain l k v b) (hap : Ap l) (hn : k + 2 * v ≤ l.length) (hb : b = 2 ^ l.length) : ∀ a, ¬ Wel.Code l k v a := fun a ha => by
  obtain ⟨c, hc, h1, h2⟩ := Wel.some_try hap hn ha
  exact h c (by rw [hb]; exact hc) ⟨h1, h2⟩
theorem Vain.step {l : List (Nat × Nat)} {k v b : Nat} (h : Vain l k v b) (hb : ¬ ((Wel.sub l b).length = k ∧ Wel.bad l (thr (Wel.sub l b) (Wel.sub l b).length) ≤ v)) : Vain l k v (b + 1) := fun c hc => by
  by_cases e : c = b
  · rw [e]; exact hb
  · exact h c (by omega)
theorem thr_le (s : List (Nat × Nat)) : (thr s s.length).length ≤ s.length := by
  rw [← Pol.thr_trim s s.length]
  exact Pol.trim_le _ _ (fun i hi => Pol.thr_len s s.length (Nat.le_refl _) i hi)
/-- A list with some zeros behind it. -/
def zpad (a : List Nat) (j : Nat) : List Nat := a ++ List.replicate j 0
theorem zpad_len (a : List Nat) (j : Nat) : (zpad a j).length = a.length + j := by unfold zpad; rw [List.length_append, List.length_replicate]
theorem zpad_step (a : List Nat) (j : Nat) : zpad a j ++ [0] = zpad a (j + 1) := by unfold zpad; rw [List.append_assoc, ← List.replicate_succ']
theorem zpad_sm {a : List Nat} (h : Sm a) (j : Nat) : Sm (zpad a j) := Pol.co_lt_of fun x hx => by
  rcases List.mem_append.1 hx with hx | hx
  · exact h.mem x hx
  · rw [List.eq_of_mem_replicate hx]; omega

set_option maxHeartbeats 2000000 in
set_option maxRecDepth 100000 in
theorem ref_decode (l : List (Nat × Nat)) (k v : Nat) (A : Option Addr) (ca : Nat) (w : World) (hl : PRd w A l) (hll : l.length ≤ 40) (hap : Apart l l.length) (hk : 1 ≤ k) (hkv : k + 2 * v ≤ l.length) :
    Calls Try.prog 21 #[.slice A l.length ca, .int .i64 (k : Int), .int .i64 (v : Int)] w (DecE l k v w) := by
  have HT := Lib.hid (ref_twice_no l A ca w hl (by omega) hap)
  have hAp := Wel.ap_of hl.1 hap
  have HAP := Lib.hid hAp
  have HCH := Lib.hid (fun b W (hb : b < 9223372036854775808) (hW : Ext w W) => ref_chosen l b A ca W (hl.ext hW) (by omega) hb)
  have HTH := Lib.hid (fun b W B c (hB : PRd W B (Wel.sub l b)) => ref_through_m (Wel.sub l b) B c W hB (by have := (Wel.sub_sub l b).length_le; omega) (hAp.sub (Wel.sub_sub l b)).apart)
  have HWR := Lib.hid (fun a W B c (hW : Ext w W) (hB : Rd W B a) (hla : a.length ≤ 65536) => ref_wrong l a A B ca c W (hl.ext hW) hB (by omega) hla)
  have HVA := Lib.hid (fun b (h : Vain l k v b) (hb : b = 2 ^ l.length) => h.all hAp hkv hb)
  have HTC := Lib.hid (fun b hlen hw => Wel.try_code hAp (k := k) (w := v) (Wel.sub_sub l b) hlen hw)
  have HSL := Lib.hid (fun b => (Wel.sub_sub l b).length_le)
  generalize hn : l.length = n at *
  have HN := Lib.hid hn
  have d1 : decide ((k : Int) < 1) = false := by simp; omega
  have d2 : decide ((v : Int) < 0) = false := by simp
  have d3 : decide ((n : Int) < (k : Int)) = false := by simp; omega
  have d4 : decide ((n : Int) < (v : Int)) = false := by simp; omega
  have d5 : decide ((n : Int) < (k : Int) + 2 * (v : Int)) = false := by simp; omega
  have n3 : decide (n < k) = false := by simp; omega
  have n4 : decide (n < v) = false := by simp; omega
  clear hl hap hAp hn
  go_enter Try.func21, Try.ntmps21
  go_wp2_with fail
  refine HT.out.mono ?_
  rintro e w1 ⟨rfl, q, rfl⟩
  go_wp2
  go_loopg [8, 45] n (fun g s8 s45 wx => ∃ i p : Nat, i + g = n ∧ s45 = .int .i64 (i : Int) ∧ s8 = .int .i64 (p : Int) ∧ p = 2 ^ i ∧ wx = w.drewN q)
  case atStart => exact ⟨0, 1, by omega, rfl, rfl, rfl, rfl⟩
  case round =>
    obtain ⟨i, p, hig, rfl, rfl, hp, rfl⟩ := hrel
    have hpb : p ≤ 1099511627776 := by rw [hp]; exact Nat.le_trans (Nat.pow_le_pow_right (by omega) (show i ≤ 40 by omega)) (by decide)
    have HP := Lib.hid hp
    clear hp
    cases gk with
    | succ g =>
      have hiI : (i : Int) < (n : Int) := by omega
      go_wp2
      go_roundg g
      case measure => omega
      case rel => exact ⟨i + 1, p * 2, by omega, by go_num, by go_num, by rw [HP.out, Nat.pow_succ], rfl⟩
    | zero =>
      obtain rfl : n = i := by omega
      clear hig
      obtain ⟨W0, hW0⟩ : ∃ W0, w.drewN q = W0 := ⟨_, rfl⟩
      rw [hW0]
      have HX0 := Lib.hid (show Ext w W0 from hW0 ▸ (Ext.refl w).drewN q)
      clear hW0
      go_wp2
      go_loopg [9] p (fun g s9 wx => ∃ b : Nat, b + g = p ∧ s9 = .int .i64 (b : Int) ∧ Vain l k v b ∧ Ext w wx)
      case atStart => exact ⟨0, by omega, rfl, fun c hc => by omega, HX0.out⟩
      case round =>
        obtain ⟨b, hbg, rfl, hva, hx⟩ := hrel
        have HV := Lib.hid hva
        have HX := Lib.hid hx
        clear hva hx
        cases gk with
        | zero =>
          obtain rfl : p = b := by omega
          clear hbg
          have HNO := Lib.hid (HVA.out p HV.out (by rw [HP.out]))
          go_wp2
          go_ret2
          exact .inr ⟨HNO.out, _, rfl, sl_none _, HX.out⟩
        | succ g =>
          have hb : b < p := by omega
          have hbI : (b : Int) < (p : Int) := by omega
          have hlen := HSL.out b
          go_wp2_with fail
          refine (HCH.out b wr (by omega) HX.out).mono ?_
          rintro e w2 ⟨B2, c2, rfl, hc2, hr2, hx2⟩
          have HR2 := Lib.hid hr2
          have HX2 := Lib.hid (HX.out.trans hx2)
          clear hr2 hx2
          obtain ⟨m, hm⟩ : ∃ m, (Wel.sub l b).length = m := ⟨_, rfl⟩
          have HTW := Lib.hid (HTH.out b w2 B2 c2 HR2.out)
          rw [hm] at hlen hc2 HTW ⊢
          by_cases hmk : m = k
          · have tmk : ((m : Int) != (k : Int)) = false := by subst hmk; simp
            have HM := Lib.hid hm
            have HMK := Lib.hid hmk
            clear hm hmk
            go_wp2_with fail
            refine HTW.out.mono ?_
            rintro e w3 ⟨v3, rfl, hm3, hs3, hx3⟩
            obtain ⟨B3, c3, rfl, hc3, hr3⟩ := hm3.slice hs3
            obtain ⟨a, ha⟩ : ∃ a, thr (Wel.sub l b) m = a := ⟨_, rfl⟩
            have hla : a.length ≤ m := by
              rw [← ha]
              have := thr_le (Wel.sub l b)
              rwa [HM.out] at this
            rw [ha] at hm3 hs3 hc3 hr3 ⊢
            have HAE := Lib.hid ha
            have HM3 := Lib.hid (hm3.down HX2.out.size)
            have HS3 := Lib.hid hs3
            have HR3 := Lib.hid hr3
            have HX3 := Lib.hid (HX2.out.trans hx3)
            clear hm3 hs3 hr3 hx3 ha HTW
            have HW3 := Lib.hid (HWR.out a w3 B3 c3 HX3.out HR3.out (by have := HMK.out; omega))
            obtain ⟨ta, hta⟩ : ∃ ta, a.length = ta := ⟨_, rfl⟩
            rw [hta] at hla hc3 HW3 ⊢
            have HTA := Lib.hid hta
            clear hta
            have hbad := Wel.wrongs_bad l a
            rw [HN.out] at hbad
            obtain ⟨bd, hbd⟩ : ∃ bd, Wel.bad l a = bd := ⟨_, rfl⟩
            rw [hbd] at hbad
            have HBD := Lib.hid hbd
            have HBB := Lib.hid hbad
            have hbdn := Wel.wrongs_len l a n
            rw [hbad] at hbdn
            clear hbd hbad
            go_wp2_with fail
            refine HW3.out.mono ?_
            rintro e w4 ⟨B4, c4, rfl, hc4, _, hx4⟩
            rw [HBB.out] at hc4 ⊢
            have HX4 := Lib.hid (HX3.out.trans hx4)
            have HM4 := Lib.hid (mine_ext HM3.out hx4)
            clear hx4
            by_cases hbv : bd ≤ v
            · have tbv : (bd : Int) ≤ (v : Int) := by omega
              have hcode := (HTC.out b (HM.out.trans HMK.out) (by rw [HM.out, HAE.out, HBD.out]; exact hbv)).2
              rw [HM.out, HAE.out] at hcode
              have hcode2 : Wel.Code l k v (zpad a (k - ta)) := by rw [← HTA.out]; exact hcode
              have HCO := Lib.hid hcode2
              have hmk2 := HMK.out
              have hlk : ta ≤ k := by omega
              clear hcode hcode2 hmk2
              go_wp2
              go_loopg [11] (k - ta) (fun g s11 wx => ∃ j : Nat, j + g = k - ta ∧ Mine wx w.heap.size s11 (zpad a j) ∧ Ext w wx)
              case atStart => exact ⟨0, by omega, by unfold zpad; rw [List.replicate_zero, List.append_nil]; have h := HM4.out; have e := HTA.out; rwa [e] at h, HX4.out⟩
              case round =>
                obtain ⟨j, hjg, hmj, hxj⟩ := hrel
                obtain ⟨B5, c5, rfl, hc5, hr5⟩ := hmj.slice (zpad_sm HS3.out j)
                have HMJ := Lib.hid hmj
                have HXJ := Lib.hid hxj
                have HR5 := Lib.hid hr5
                have hzl : (zpad a j).length = ta + j := by rw [zpad_len, HTA.out]
                rw [hzl] at hc5 HMJ ⊢
                have HZL := Lib.hid hzl
                clear hmj hxj hr5 hzl
                cases gk with
                | zero =>
                  have hj : ta + j = k := by omega
                  have hj2 : j = k - ta := by omega
                  have tj : ¬ ((ta + j : Nat) : Int) < (k : Int) := by omega
                  have HJ := Lib.hid hj2
                  rw [hj] at HMJ HZL hc5 tj ⊢
                  have dj : decide ((k : Int) < (k : Int)) = false := by simp
                  clear hj hj2 hjg
                  go_wp2
                  go_ret2
                  exact .inl ⟨_, HCO.out, _, rfl, ⟨B5, c5, by rw [← HJ.out, HZL.out]; rfl, by rw [← HJ.out, HZL.out]; exact hc5, by rw [← HJ.out]; exact HR5.out⟩, HXJ.out⟩
                | succ gj =>
                  obtain ⟨tj, htj⟩ : ∃ t, ta + j = t := ⟨_, rfl⟩
                  rw [htj] at HMJ HZL hc5 ⊢
                  have hlt : (tj : Int) < (k : Int) := by omega
                  have htj1 : tj < k := by omega
                  have hj1 : j + 1 ≤ k - ta := by omega
                  clear htj
                  go_wp2_with (at_builtin; refine wpList_append_rd rfl (.tmp 74) (.tmp 75) rfl w.heap.size (.slice B5 tj c5) (zpad a j) [0] rfl (mine_ext HMJ.out ((Ext.refl _).alloc _)) (some ⟨wr.heap.size, 0, none⟩) 1 1 rfl rfl (rd_one wr 0 (by omega)) (by rw [HZL.out]; simp; omega) (by have := HXJ.out.size; simp; omega) ?_; intro v' w9 hown' hg' hat')
                  have HO := Lib.hid (show Mine w9 w.heap.size v' (zpad a (j + 1)) from by rw [← zpad_step]; exact hown')
                  have HX9 := Lib.hid ((HXJ.out.alloc _).more hg' (fun k e => (HMJ.out.block k e).1))
                  clear hown' hg' hat'
                  go_wp2
                  go_roundg gj
                  case measure => omega
                  case rel => exact ⟨j + 1, by omega, HO.out, HX9.out⟩
            · have tbv : ¬ (bd : Int) ≤ (v : Int) := by omega
              have dbv : decide ((bd : Int) ≤ (v : Int)) = false := by simp; omega
              have nbv : decide (bd ≤ v) = false := by simp; omega
              have HVN := Lib.hid (HV.out.step (fun h => hbv (by have := h.2; rwa [HM.out, HAE.out, HBD.out] at this)))
              clear hbv
              go_wp2
              go_roundg g
              case measure => omega
              case rel => exact ⟨b + 1, by omega, by go_num, HVN.out, HX4.out⟩
          · have tmk : ((m : Int) != (k : Int)) = true := by simp; omega
            have HVN := Lib.hid (HV.out.step (fun h => hmk (hm.symm.trans h.1)))
            clear hm hmk
            go_wp2
            go_roundg g
            case measure => omega
            case rel => exact ⟨b + 1, by omega, by go_num, HVN.out, HX2.out⟩
end Go.Proofs.Ytffdmhcbcaemfaa

/-
  The law ShamirOpens, walked, under what layer 5's functions are to do. Conditions: none.
-/
namespace Go.Proofs.Ytffdmhcbcaemfaa
open Go.RowKit
open Pol (co Sm ev px py Apart)

set_option maxHeartbeats 800000 in
set_option maxRecDepth 100000 in
theorem opens5_big (C : ShamirSaid) (A : Option Addr) (n ca : Nat) (o v b : Int) (h : 8 < n) (w : World) :
    Calls Try.prog 4 #[.slice A n ca, .int .i64 o, .int .i64 v, .int .i64 b] w (Holds w) := by
  have HAW := Lib.hid (fun u => awake5 C u)
  have t1 : decide ((8 : Int) < (n : Int)) = true := by simp; omega
  go_enter Try.func4, Try.ntmps4
  go_wp2_with fail
  refine (HAW.out w).mono ?_
  rintro e w1 ⟨rfl, hx1⟩
  have HX1 := Lib.hid hx1
  clear hx1
  go_wp2_with fail
  refine (HAW.out w1).mono ?_
  rintro e w2 ⟨rfl, hx2⟩
  have HX2 := Lib.hid hx2
  clear hx2
  go_wp2
  go_ret
  exact ⟨rfl, HX1.out.trans HX2.out⟩
/-- What Open answers, whatever the shares. -/
def AnyO (l : List (Int × List Nat)) (o v b : Int) (w : World) (e : Ending) (w' : World) : Prop := (¬ OpenOk l o v b ∧ GivesE [] 1 w e w') ∨ (OpenOk l o v b ∧ OpenE l o.toNat v.toNat b.toNat w e w')
theorem open_any (C : ShamirSaid) (f : Nat) (l : List (Int × List Nat)) (o v b : Int) (A : Option Addr) (c : Nat) (w : World) (hf : IsField w f) (hl : SRd w A l) (hc : l.length ≤ c) (hll : l.length ≤ 1024) (hw : ∀ i, In64 (wh l i)) (hd : ∀ i, (dt l i).length ≤ 4096) (ho : In64 o) (hv : In64 v) (hb : In64 b) :
    Calls Try.prog 19 #[.pointer (some ⟨f, 0, none⟩), .slice A l.length c, .int .i64 o, .int .i64 v, .int .i64 b] w (AnyO l o v b w) := by
  by_cases h : OpenOk l o v b
  · obtain ⟨⟨h1, h2, h3, h4, h5⟩, _⟩ := id h
    have e1 : ((o.toNat : Nat) : Int) = o := Int.toNat_of_nonneg (by omega)
    have e2 : ((v.toNat : Nat) : Int) = v := Int.toNat_of_nonneg (by omega)
    have e3 : ((b.toNat : Nat) : Int) = b := Int.toNat_of_nonneg (by omega)
    have k := C.opens f l o.toNat v.toNat b.toNat A c w hf hl hc hll (by rw [e1, e2, e3]; exact h)
    rw [e1, e2, e3] at k
    exact k.mono fun _ _ k => .inr ⟨h, k⟩
  · exact (C.shut f l o v b A c w hf hl hc hll hw hd ho hv hb h).mono fun _ _ k => .inl ⟨h, k⟩

set_option maxHeartbeats 4000000 in
set_option maxRecDepth 100000 in
theorem opens5_walk (C : ShamirSaid) (l : List (Int × List Nat)) (o v b : Int) (A : Option Addr) (ca : Nat) (w : World) (ha : SRd w A l) (hc : l.length ≤ ca) (hw : ∀ i, In64 (wh l i)) (ho : In64 o) (hv : In64 v) (hb : In64 b) (hdm : ∀ i, (dt l i).length ≤ maxLen) :
    Calls Try.prog 4 #[.slice A l.length ca, .int .i64 o, .int .i64 v, .int .i64 b] w (Holds w) := by
  by_cases hbig : 8 < l.length
  · exact opens5_big C A _ ca o v b hbig w
  have HAW := Lib.hid (fun u => awake5 C u)
  have HOP := Lib.hid (fun f u (hf : IsField u f) (hu : Ext w u) (hd : ∀ i, i < l.length → (dt l i).length ≤ 6) => open_any C f l o v b A ca u hf (ha.ext hu) hc (by omega) hw (fun i => by
    by_cases hi : i < l.length
    · have := hd i hi; omega
    · unfold dt; rw [List.getElem?_eq_none (by omega)]; simp) ho hv hb)
  have HWR := Lib.hid (fun u (hu : Ext w u) => ref_open_wrong l o v b A ca u (ha.ext hu) (by omega) ho hv hb)
  have HPT := Lib.hid (fun i u (hu : Ext w u) h => ref_points l i A ca u (ha.ext hu) (by omega) h)
  have HSM := Lib.hid (fun k => ha.sm k)
  have HA := Lib.hid ha
  have HDM := Lib.hid hdm
  have t1 : decide ((8 : Int) < (l.length : Int)) = false := by simp; omega
  have HPL := Lib.hid (fun i => pts_len l i)
  generalize hn : l.length = n at *
  have HN := Lib.hid hn
  clear hn ha C
  go_enter Try.func4, Try.ntmps4
  go_wp2_with fail
  refine (HAW.out w).mono ?_
  rintro e w1 ⟨rfl, hx1⟩
  have HX1 := Lib.hid hx1
  clear hx1
  go_wp2
  go_loopg [28] n (fun g s wx => ∃ i : Nat, i + g = n ∧ s = .int .i64 (i : Int) ∧ w1 = wx ∧ ∀ j, j < i → (dt l j).length ≤ 6)
  case atStart => exact ⟨0, by omega, rfl, rfl, fun j hj => by omega⟩
  case round =>
    obtain ⟨i, hig, rfl, rfl, hd⟩ := hrel
    have HD := Lib.hid hd
    clear hd
    cases gk with
    | succ g =>
      have hi : i < n := by omega
      have hiI : (i : Int) < (n : Int) := by omega
      obtain ⟨b0, o0, B0, c0, e0, h1, h2, h3, _⟩ := (HA.out.ext HX1.out) i (by rw [HN.out]; exact hi)
      subst e0
      have hdl := HDM.out i
      obtain ⟨dl, hdl'⟩ : ∃ dl, (dt l i).length = dl := ⟨_, rfl⟩
      rw [hdl'] at h2 hdl
      have hdlI : (dl : Int) ≤ 9223372036854775807 := by unfold maxLen at hdl; omega
      have HDL := Lib.hid hdl'
      clear hdl' hdl h3 h1
      by_cases h6 : 6 < dl
      · have t6 : decide ((6 : Int) < (dl : Int)) = true := by simp; omega
        go_wp2
        go_ret
        exact ⟨rfl, HX1.out⟩
      · have t6 : decide ((6 : Int) < (dl : Int)) = false := by simp; omega
        go_wp2
        go_roundg g
        case measure => omega
        case rel => exact ⟨i + 1, by omega, by go_num, rfl, fun j hj => by
          by_cases e : j = i
          · subst e; rw [HDL.out]; omega
          · exact HD.out j (by omega)⟩
    | zero =>
      obtain rfl : i = n := by omega
      clear hig
      go_wp2_with fail
      refine (new_any w1).mono ?_
      rintro e w2 ⟨f, rfl, hf, _, hx2⟩
      have HX2 := Lib.hid (HX1.out.trans hx2)
      have HO2 := Lib.hid (HOP.out f w2 hf HX2.out HD.out)
      clear hf hx2 HOP
      go_wp2_with fail
      refine HO2.out.mono ?_
      rintro e w3 (⟨hno, v3, rfl, ⟨B3, c3, rfl, hc3, hr3⟩, hx3⟩ | ⟨hok, hoe⟩)
      · have HX3 := Lib.hid (HX2.out.trans hx3)
        clear hx3 hr3
        rw [List.length_nil]
        go_wp2_with fail
        refine (HWR.out w3 HX3.out).mono ?_
        rintro e w4 (⟨hp, _⟩ | ⟨_, rfl, q4, rfl⟩)
        · exact absurd hp hno
        go_wp2
        go_ret
        exact ⟨rfl, HX3.out.drewN q4⟩
      · obtain ⟨⟨k1, k2, k3, k4, k5⟩, hsh⟩ := id hok
        rw [HN.out] at k5 hsh
        obtain ⟨k, rfl⟩ : ∃ k : Nat, o = (k : Int) := ⟨o.toNat, by omega⟩
        obtain ⟨vv, rfl⟩ : ∃ vv : Nat, v = (vv : Int) := ⟨v.toNat, by omega⟩
        obtain ⟨bb, rfl⟩ : ∃ bb : Nat, b = (bb : Int) := ⟨b.toNat, by omega⟩
        rw [Int.toNat_natCast, Int.toNat_natCast, Int.toNat_natCast] at hoe
        have hb6 : bb ≤ 6 := by
          have h1 := (hsh 0 (by omega)).2.2.1
          have h2 := HD.out 0 (by omega)
          omega
        have hn1 : i ≤ 8 := by omega
        have HWH := Lib.hid (fun j (hj : j < i) t (ht : t < bb) => show 0 ≤ wh l j ∧ wh l j ≤ 199 ∧ t < (dt l j).length from ⟨(hsh j hj).1, (hsh j hj).2.1, by have := (hsh j hj).2.2.1; omega⟩)
        have HDE := Lib.hid (fun t u (P : Option Addr) cp (hp : PRd u P (pts l t)) => show Calls Try.prog 21 #[.slice P i cp, .int .i64 (k : Int), .int .i64 (vv : Int)] u (DecE (pts l t) k vv u) from by
          have h := ref_decode (pts l t) k vv P cp u hp (by rw [HPL.out]; omega) (hok.apart t) (by omega) (by rw [HPL.out]; omega)
          rwa [HPL.out] at h)
        have HONE := Lib.hid (fun t (a a' : List Nat) (h1 : Wel.Code (pts l t) k vv a) (h2 : Wel.Code (pts l t) k vv a') => h1.one (hok.ap HSM.out t) (by rw [HPL.out]; omega) h2)
        have HOKK := Lib.hid hok
        clear hsh hok k1 k2
        rcases hoe with ⟨a, hco, v3, rfl, ⟨B3, c3, rfl, hc3, hr3⟩, hx3⟩ | ⟨⟨i0, hi0, hno0⟩, v3, rfl, ⟨B3, c3, rfl, hc3, hr3⟩, hx3⟩
        · rw [tab_len] at hc3 ⊢
          have HX3 := Lib.hid (HX2.out.trans hx3)
          have HR3 := Lib.hid hr3
          have HCO := Lib.hid hco
          clear hx3 hr3 hco
          go_wp2_with fail
          refine (HWR.out w3 HX3.out).mono ?_
          rintro e w4 (⟨_, rfl, q4, rfl⟩ | ⟨hp, _⟩)
          rotate_left
          · exact absurd HOKK.out hp
          have HX4 := Lib.hid (HX3.out.drewN q4)
          have HR4 := Lib.hid (HR3.out.drewN q4)
          generalize w3.drewN q4 = w4 at HX4 HR4 ⊢
          go_wp2
          go_loopg [14, 65] bb (fun g s14 s65 wx => ∃ t : Nat, t + g = bb ∧ s65 = .int .i64 (t : Int) ∧ Mine wx w4.heap.size s14 (tab t (fun i => co (a i) 0)) ∧ Ext w4 wx)
          case atStart => exact ⟨0, by omega, rfl, Mine.nil _ _, Ext.refl _⟩
          case round =>
            obtain ⟨t, htg, rfl, hm, hxt⟩ := hrel
            have HM := Lib.hid hm
            have HXI := Lib.hid hxt
            clear hm hxt
            cases gk with
            | zero =>
              obtain rfl : t = bb := by omega
              clear htg
              obtain ⟨D, cd, eu, hcd, hrd⟩ := HM.out.slice (tab_sm _ _ fun j hj => (HCO.out j hj).sm 0)
              rw [tab_len] at eu hcd
              subst eu
              have HS := Lib.hid (same_true (tab t (fun i => co (a i) 0)) B3 D c3 cd wr (HR4.out.ext HXI.out) hrd (by rw [tab_len]; omega))
              rw [tab_len] at HS
              clear hrd
              go_wp2_with fail
              refine HS.out.mono ?_
              rintro e w5 ⟨rfl, q5, rfl⟩
              go_wp2
              go_ret
              exact ⟨rfl, (HX4.out.trans HXI.out).drewN q5⟩
            | succ g =>
              have ht : t < bb := by omega
              have htI : (t : Int) < (bb : Int) := by omega
              go_wp2_with fail
              refine (HPT.out t wr (HX4.out.trans HXI.out) (fun j hj => HWH.out j hj t ht)).mono ?_
              rintro e w5 ⟨P, cp, rfl, hcp, hrp, hx5⟩
              rw [HPL.out] at hcp ⊢
              have HD5 := Lib.hid (HDE.out t w5 P cp hrp)
              have HX5 := Lib.hid (HXI.out.trans hx5)
              have HM5 := Lib.hid (mine_ext HM.out hx5)
              clear hx5 hrp
              go_wp2_with fail
              refine HD5.out.mono ?_
              rintro e w6 (⟨a', ha', v6, rfl, ⟨B6, c6, rfl, hc6, hr6⟩, hx6⟩ | ⟨hno6, _⟩)
              rotate_left
              · exact absurd (HCO.out t ht) (hno6 _)
              obtain rfl : a' = a t := HONE.out t _ _ ha' (HCO.out t ht)
              have hal := ha'.len
              obtain ⟨b6, o6, e6, h6⟩ := hr6.2 0 (by omega)
              subst e6
              rw [Nat.add_zero] at h6
              have hxl := ha'.sm 0
              have HTS := Lib.hid (tab_succ t (fun i => co (a i) 0))
              obtain ⟨x, hx⟩ : ∃ x, co (a t) 0 = x := ⟨_, rfl⟩
              rw [hx] at h6 HTS hxl
              rw [hal] at hc6 ⊢
              have hk0 : (0 : Int) < (k : Int) := by omega
              have HX6 := Lib.hid (HX5.out.trans hx6)
              have HM6 := Lib.hid (mine_ext HM5.out hx6)
              have HTL := Lib.hid (tab_len t (fun i => co (a i) 0))
              clear hx6 hr6 ha' hal hx
              go_wp2_with (at_builtin; refine wpList_append_rd rfl (.tmp 86) (.tmp 90) rfl w4.heap.size u14 (tab t (fun i => co (a i) 0)) [x] rfl (mine_ext HM6.out ((Ext.refl _).alloc _)) (some ⟨w6.heap.size, 0, none⟩) 1 1 rfl rfl (rd_one w6 x hxl) (by rw [HTL.out]; simp; omega) (by have := HX6.out.size; simp; omega) ?_; intro v9 w9 hown9 hg9 hat9)
              have HO9 := Lib.hid (show Mine w9 w4.heap.size v9 (tab (t + 1) (fun i => co (a i) 0)) from by rw [HTS.out]; exact hown9)
              have HX9 := Lib.hid ((HX6.out.alloc _).more hg9 (fun r e => (HM6.out.block r e).1))
              clear hown9 hg9 hat9
              go_wp2
              go_roundg g
              case measure => omega
              case rel => exact ⟨t + 1, by omega, by go_num, HO9.out, HX9.out⟩
        · rw [List.length_nil] at hc3 ⊢
          have HX3 := Lib.hid (HX2.out.trans hx3)
          have HNO0 := Lib.hid hno0
          clear hx3 hr3 hno0
          go_wp2_with fail
          refine (HWR.out w3 HX3.out).mono ?_
          rintro e w4 (⟨_, rfl, q4, rfl⟩ | ⟨hp, _⟩)
          rotate_left
          · exact absurd HOKK.out hp
          have HX4 := Lib.hid (HX3.out.drewN q4)
          generalize w3.drewN q4 = w4 at HX4 ⊢
          go_wp2
          go_loopg [14, 65] bb (fun g s14 s65 wx => ∃ (t : Nat) (m : List Nat), t + g = bb ∧ m.length = t ∧ s65 = .int .i64 (t : Int) ∧ Mine wx w4.heap.size s14 m ∧ Ext w4 wx ∧ ∀ j, j < t → ∃ a, Wel.Code (pts l j) k vv a)
          case atStart => exact ⟨0, [], by omega, rfl, rfl, Mine.nil _ _, Ext.refl _, fun j hj => by omega⟩
          case round =>
            obtain ⟨t, m, htg, hml, rfl, hm, hxt, hall⟩ := hrel
            have HM := Lib.hid hm
            have HXI := Lib.hid hxt
            have HALL := Lib.hid hall
            clear hm hxt hall
            cases gk with
            | zero =>
              obtain ⟨a, ha⟩ := HALL.out i0 (by omega)
              exact absurd ha (HNO0.out a)
            | succ g =>
              have ht : t < bb := by omega
              have htI : (t : Int) < (bb : Int) := by omega
              go_wp2_with fail
              refine (HPT.out t wr (HX4.out.trans HXI.out) (fun j hj => HWH.out j hj t ht)).mono ?_
              rintro e w5 ⟨P, cp, rfl, hcp, hrp, hx5⟩
              rw [HPL.out] at hcp ⊢
              have HD5 := Lib.hid (HDE.out t w5 P cp hrp)
              have HX5 := Lib.hid (HXI.out.trans hx5)
              have HM5 := Lib.hid (mine_ext HM.out hx5)
              clear hx5 hrp
              go_wp2_with fail
              refine HD5.out.mono ?_
              rintro e w6 (⟨a, ha', v6, rfl, ⟨B6, c6, rfl, hc6, hr6⟩, hx6⟩ | ⟨_, v6, rfl, ⟨B6, c6, rfl, hc6, hr6⟩, hx6⟩)
              · have hal := ha'.len
                obtain ⟨b6, o6, e6, h6⟩ := hr6.2 0 (by omega)
                subst e6
                rw [Nat.add_zero] at h6
                have hxl := ha'.sm 0
                obtain ⟨x, hx⟩ : ∃ x, co a 0 = x := ⟨_, rfl⟩
                rw [hx] at h6 hxl
                rw [hal] at hc6 ⊢
                have hk0 : (0 : Int) < (k : Int) := by omega
                have HX6 := Lib.hid (HX5.out.trans hx6)
                have HM6 := Lib.hid (mine_ext HM5.out hx6)
                have HCC := Lib.hid ha'
                clear hx6 hr6 ha' hal hx
                go_wp2_with (at_builtin; refine wpList_append_rd rfl (.tmp 86) (.tmp 90) rfl w4.heap.size u14 m [x] rfl (mine_ext HM6.out ((Ext.refl _).alloc _)) (some ⟨w6.heap.size, 0, none⟩) 1 1 rfl rfl (rd_one w6 x hxl) (by rw [hml]; simp; omega) (by have := HX6.out.size; simp; omega) ?_; intro v9 w9 hown9 hg9 hat9)
                have HO9 := Lib.hid hown9
                have HX9 := Lib.hid ((HX6.out.alloc _).more hg9 (fun r e => (HM6.out.block r e).1))
                clear hown9 hg9 hat9
                go_wp2
                go_roundg g
                case measure => omega
                case rel => exact ⟨t + 1, m ++ [x], by omega, by rw [List.length_append, hml]; rfl, by go_num, HO9.out, HX9.out, fun j hj => by
                  by_cases e : j = t
                  · subst e; exact ⟨_, HCC.out⟩
                  · exact HALL.out j (by omega)⟩
              · rw [List.length_nil]
                have HX6 := Lib.hid (HX5.out.trans hx6)
                clear hx6 hr6
                go_wp2
                go_ret
                exact ⟨rfl, HX4.out.trans HX6.out⟩
end Go.Proofs.Ytffdmhcbcaemfaa

/-
  Shares of a call's own, whose bytes lie each in a block of its own: what append does with them; marks. Conditions: no more than 2^20 shares.
-/
namespace Go.Proofs.Ytffdmhcbcaemfaa
open Go.RowKit
open Pol (co Sm)

theorem share_info : (Try.prog.info? 24).map (fun i => (i.zero, i.size, i.bytes)) = some (some (.agg #[.int .i64 0, .slice none 0 0]), 2, 32) := by kernel_rfl
theorem bool_info : (Try.prog.info? 4).map (fun i => (i.zero, i.size, i.bytes)) = some (some (.bool false), 1, 1) := by kernel_rfl
/-- Shares as cells. -/
def sv (n : Nat) (who : Nat → Nat) (u : Nat → Value) : List Value := (List.range n).flatMap fun i => [Value.int .i64 ((who i : Nat) : Int), u i]
theorem sv_succ (n : Nat) (who : Nat → Nat) (u : Nat → Value) : sv (n + 1) who u = sv n who u ++ [.int .i64 ((who n : Nat) : Int), u n] := by
  unfold sv
  rw [List.range_succ, List.flatMap_append]
  simp
theorem sv_len (n : Nat) (who : Nat → Nat) (u : Nat → Value) : (sv n who u).length = n * 2 := by
  induction n with
  | zero => rfl
  | succ n ih => rw [sv_succ, List.length_append, ih]; simp; omega
theorem sv_at (who : Nat → Nat) (u : Nat → Value) : ∀ (n i : Nat), i < n → (sv n who u)[i * 2]? = some (.int .i64 ((who i : Nat) : Int)) ∧ (sv n who u)[i * 2 + 1]? = some (u i)
  | n + 1, i, h => by
    rw [sv_succ]
    by_cases e : i = n
    · subst e
      rw [List.getElem?_append_right (by rw [sv_len]; exact Nat.le_refl _), List.getElem?_append_right (by rw [sv_len]; omega), sv_len, Nat.sub_self, Nat.add_sub_cancel_left]
      exact ⟨rfl, rfl⟩
    · rw [List.getElem?_append_left (by rw [sv_len]; omega), List.getElem?_append_left (by rw [sv_len]; omega)]
      exact sv_at who u n i (by omega)
theorem sv_congr {n : Nat} {who who' : Nat → Nat} {u u' : Nat → Value} (h : ∀ i, i < n → who i = who' i ∧ u i = u' i) : sv n who u = sv n who' u' := by
  induction n with
  | zero => rfl
  | succ n ih => rw [sv_succ, sv_succ, ih (fun i hi => h i (by omega)), (h n (by omega)).1, (h n (by omega)).2]
def updV (u : Nat → Value) (k : Nat) (v : Value) : Nat → Value := fun i => if i = k then v else u i
/-- Shares of the call's own, each one's bytes in a block that is theirs alone. -/
structure Bld (w : World) (base : Nat) (v : Value) (rows : Nat → List Nat) (n : Nat) (who : Nat → Nat) (u : Nat → Value) : Prop where
  own : w.ownsRow base 24 2 v n (sv n who u)
  dat : ∀ i, i < n → Mine w base (u i) (rows (who i))
  off : ∀ i, i < n → ∀ k, (u i).ownBlock = some k → v.ownBlock ≠ some k
  one : ∀ i j, i < n → j < n → i ≠ j → ∀ k, (u i).ownBlock = some k → (u j).ownBlock ≠ some k
theorem Bld.nil (w : World) (base : Nat) (rows : Nat → List Nat) (who : Nat → Nat) (u : Nat → Value) : Bld w base (.slice none 0 0) rows 0 who u :=
  ⟨World.ownsRow_nil w base _ _, fun i hi => by omega, fun i hi => by omega, fun i j hi => by omega⟩
theorem ownsRow_ext {w w' : World} {base size n : Nat} {t : TypeId} {v : Value} {xs : List Value} (h : w.ownsRow base t size v n xs) (hx : Ext w w') : w'.ownsRow base t size v n xs :=
  World.ownsRow.kept h (row := none) ⟨hx.below.os, hx.below.tape, hx.below.output, hx.below.size, fun k hk _ => hx.below.block k hk⟩ (by
    cases hb : v.ownBlock with
    | none => exact .inl rfl
    | some k => exact .inr (by simp))
theorem ownsRow_keep {w w' : World} {base size n : Nat} {t : TypeId} {v : Value} {xs : List Value} {row : Option Nat} (h : w.ownsRow base t size v n xs) (hg : w.grownBy w' row) (hne : ∀ k, v.ownBlock = some k → row ≠ some k) : w'.ownsRow base t size v n xs :=
  World.ownsRow.kept h hg (by
    cases hb : v.ownBlock with
    | none => exact .inl rfl
    | some k => exact .inr (fun e => hne k hb e.symm))
theorem Bld.ext {w w' : World} {base n : Nat} {v : Value} {rows : Nat → List Nat} {who : Nat → Nat} {u : Nat → Value} (h : Bld w base v rows n who u) (hx : Ext w w') : Bld w' base v rows n who u :=
  ⟨ownsRow_ext h.own hx, fun i hi => mine_ext (h.dat i hi) hx, h.off, h.one⟩
theorem Bld.keep {w w' : World} {base n : Nat} {v : Value} {rows : Nat → List Nat} {who : Nat → Nat} {u : Nat → Value} {row : Option Nat} (h : Bld w base v rows n who u) (hg : w.grownBy w' row) (hr : ∀ k, row = some k → k < base) : Bld w' base v rows n who u :=
  ⟨ownsRow_keep h.own hg (fun k hk e => by have := hr k e; have := (World.ownsRow.lt h.own k hk).1; omega), fun i hi => ownsRow_keep (h.dat i hi) hg (fun k hk e => by have := hr k e; have := (World.ownsRow.lt (h.dat i hi) k hk).1; omega), h.off, h.one⟩
theorem Bld.add {w W W' : World} {base n k : Nat} {v v' u' : Value} {rows : Nat → List Nat} {who : Nat → Nat} {u : Nat → Value} (h : Bld w base v rows n who u) (hb : base ≤ w.heap.size) (hx : Ext w W) (hu : Mine W w.heap.size u' (rows k))
    (happ : W'.ownsRow base 24 2 v' (n + 1) (sv n who u ++ [.int .i64 ((k : Nat) : Int), u'])) (hg : W.grownBy W' v.ownBlock) (hat : v'.ownBlock = v.ownBlock ∨ v'.ownBlock = some W.heap.size) : Bld W' base v' rows (n + 1) (upd who n k) (updV u n u') := by
  have hW := h.ext hx
  have hub := fun j (hj : u'.ownBlock = some j) => World.ownsRow.lt hu j hj
  have hvb := fun j (hj : v.ownBlock = some j) => World.ownsRow.lt h.own j hj
  have hdb := fun i (hi : i < n) j (hj : (u i).ownBlock = some j) => World.ownsRow.lt (h.dat i hi) j hj
  have hsz := hx.size
  have en : ∀ i, i < n → upd who n k i = who i ∧ updV u n u' i = u i := fun i hi => ⟨if_neg (by omega), if_neg (by omega)⟩
  have e1 : upd who n k n = k := if_pos rfl
  have e2 : updV u n u' n = u' := if_pos rfl
  refine ⟨?_, fun i hi => ?_, fun i hi j hj => ?_, fun i j hi hj hne q hq => ?_⟩
  · rw [sv_succ, e1, e2, sv_congr en]
    exact happ
  · by_cases e : i = n
    · subst e
      rw [e1, e2]
      exact ownsRow_keep (hu.down hb) hg (fun j hj e => by have := hub j hj; have := hvb j e; omega)
    · rw [(en i (by omega)).1, (en i (by omega)).2]
      exact ownsRow_keep (hW.dat i (by omega)) hg (fun j hj e => h.off i (by omega) j hj e)
  · by_cases e : i = n
    · subst e
      rw [e2] at hj
      have := hub j hj
      rcases hat with e | e
      · rw [e]; exact fun e' => by have := hvb j e'; omega
      · rw [e]; exact fun e' => by injection e' with e'; omega
    · rw [(en i (by omega)).2] at hj
      have := hdb i (by omega) j hj
      rcases hat with e | e
      · rw [e]; exact h.off i (by omega) j hj
      · rw [e]; exact fun e' => by injection e' with e'; omega
  · by_cases ei : i = n
    · subst ei
      rw [e2] at hq
      rw [(en j (by omega)).2]
      exact fun e' => by have := hdb j (by omega) q e'; have := hub q hq; omega
    · rw [(en i (by omega)).2] at hq
      by_cases ej : j = n
      · subst ej
        rw [e2]
        exact fun e' => by have := hdb i (by omega) q hq; have := hub q e'; omega
      · rw [(en j (by omega)).2]
        exact h.one i j (by omega) (by omega) hne q hq
set_option maxRecDepth 100000 in
theorem run_append_sh (w : World) (base : Nat) (ty : TypeId) (v : Value) (n : Nat) (xs : List Value) (hown : w.ownsRow base 24 2 v n xs) (g c k : Nat) (u : Value) (h0 : w.cell? ⟨g, 0, none⟩ = some (.int .i64 (k : Int))) (h1 : w.cell? ⟨g, 1, none⟩ = some u) (hu : u.oneCell' = true)
    (hlen : n + 1 ≤ 1048576) (hbase : base ≤ w.heap.size) :
    ∃ v' w', (Builtin.append_ #[39, 39] ty #[v, .slice (some ⟨g, 0, none⟩) 1 c]).run Try.prog w = .ok v' w' ∧ w'.ownsRow base 24 2 v' (n + 1) (xs ++ [.int .i64 (k : Int), u]) ∧ w.grownBy w' v.ownBlock ∧ (v'.ownBlock = v.ownBlock ∨ v'.ownBlock = some w.heap.size) := by
  obtain ⟨i0, hi, hz0, hz1, hz2⟩ := info_parts share_info
  obtain ⟨v', w', r1, r2, r3, _, r5⟩ := run_append_own_at (P := Try.prog) w base 39 ty 24 i0 (.agg #[.int .i64 0, .slice none 0 0]) 2 32 Try.underlying39 hi hz0 hz1 hz2 rfl (by omega) v n xs hown ⟨g, 0, none⟩ 1 c [.int .i64 (k : Int), u] rfl
    (fun j x hj => by
      match j, hj with
      | 0, hj => simp at hj; subst hj; rw [addr_add]; exact h0
      | 1, hj => simp at hj; subst hj; rw [addr_add]; exact h1)
    (fun x hx => by
      simp at hx
      rcases hx with rfl | rfl
      · rfl
      · exact hu)
    (by unfold maxLen; omega) (by omega) hbase
  exact ⟨v', w', r1, r2, r3, r5⟩
/-- At the operation, for the walk. -/
theorem wpList_append_sh {ops : Array Oper} {rest : List Oper} {o : Oper} {a : Act} {w : World} {Q : Exit → Act → World → Prop} (hgd : o.guard = none) (s x : Operand)
    (ho : o.op = .call { callee := .builtin .append, args := #[s, x], argTypes := #[39, 39] })
    (base : Nat) (v : Value) (n : Nat) (xs : List Value) (hs : a.eval s = v) (hown : w.ownsRow base 24 2 v n xs) (g c k : Nat) (u : Value) (hx : a.eval x = .slice (some ⟨g, 0, none⟩) 1 c) (h0 : w.cell? ⟨g, 0, none⟩ = some (.int .i64 (k : Int))) (h1 : w.cell? ⟨g, 1, none⟩ = some u) (hu : u.oneCell' = true)
    (hlen : n + 1 ≤ 1048576) (hbase : base ≤ w.heap.size)
    (h : ∀ v' w', w'.ownsRow base 24 2 v' (n + 1) (xs ++ [.int .i64 (k : Int), u]) → w.grownBy w' v.ownBlock → (v'.ownBlock = v.ownBlock ∨ v'.ownBlock = some w.heap.size) → wpList Try.prog ops Q rest (a.put o.dst v') w') :
    wpList Try.prog ops Q (o :: rest) a w := by
  refine wpList_plain hgd fun K hK => ?_
  obtain ⟨v', w', hrun, h2, h3, h4⟩ := run_append_sh w base o.type v n xs hown g c k u h0 h1 hu hlen hbase
  unfold Oper.wp execOp
  simp only [ho, resolve, invoke, builtin, Sem.run_bind, Sem.run_pure, Result.andThen_ok, List.map_toArray, List.map_cons, List.map_nil, hs, hx, hrun]
  exact hK _ _ (h v' w' h2 h3 h4)

/-! ### Marks -/
def Bo (w : World) (g n : Nat) (S : Nat → Bool) : Prop := ∀ i, i < n → w.cell? ⟨g, i, none⟩ = some (.bool (S i)) ∧ w.frozen? ⟨g, i, none⟩ = false
def updB (S : Nat → Bool) (k : Nat) (b : Bool) : Nat → Bool := fun i => if i = k then b else S i
theorem Bo.ext {w w' : World} {g n : Nat} {S : Nat → Bool} (h : Bo w g n S) (hx : Ext w w') : Bo w' g n S := fun i hi =>
  ⟨(hx.below.cell (p := ⟨g, i, none⟩) (block_lt_of_cell (h i hi).1)).trans (h i hi).1, (hx.below.frozen (p := ⟨g, i, none⟩) (block_lt_of_cell (h i hi).1)).trans (h i hi).2⟩
theorem Bo.keep {w w' : World} {g n : Nat} {S : Nat → Bool} {row : Option Nat} (h : Bo w g n S) (hg : w.grownBy w' row) (hne : some g ≠ row) : Bo w' g n S := fun i hi =>
  ⟨hg.cell (h i hi).1 hne, (World.frozen?_of_block (a := ⟨g, i, none⟩) (hg.block g (block_lt_of_cell (h i hi).1) hne)).trans (h i hi).2⟩
theorem Bo.store {w : World} {g n : Nat} {S : Nat → Bool} (h : Bo w g n S) (k : Nat) (b : Bool) : Bo (w.setCell ⟨g, k, none⟩ (.bool b)) g n (updB S k b) := fun i hi => by
  refine ⟨?_, by rw [World.frozen?_setCell]; exact (h i hi).2⟩
  unfold updB
  by_cases e : i = k
  · subst e
    rw [if_pos rfl]
    exact World.cell?_setCell_same' _ _ _ (by rw [(h i hi).1]; rfl)
  · rw [if_neg e, World.cell?_setCell_other _ _ _ _ (fun h => e (by cases h; rfl))]
    exact (h i hi).1
set_option maxRecDepth 100000 in
/-- make([]bool, n). -/
theorem run_make_bool (n : Nat) (hn : n ≤ 1048576) (w : World) :
    (Instr.makeSlice 78 (.int .i64 (n : Int)) (.int .i64 (n : Int))).run Try.prog w = .ok (.slice (some ⟨w.heap.size, 0, none⟩) n n) (w.alloc (.cells (madeCells #[.bool false] n) 4)) := by
  obtain ⟨i0, hi, hz0, hz1, hz2⟩ := info_parts bool_info
  have h := run_make (P := Try.prog) w 78 4 i0 (.bool false) Try.underlying78 hi hz0 .i64 .i64 n n (by omega) (by omega) (by rw [hz2]; omega) (by omega)
  simp only [Int.toNat_natCast, hz1, Nat.mul_one] at h
  rw [h]
  rfl
theorem bo_made (w : World) (n : Nat) : Bo (w.alloc (.cells (madeCells #[.bool false] n) 4)) w.heap.size n (fun _ => false) := fun i hi => by
  have hg := heap_alloc_new w (.cells (madeCells #[.bool false] n) 4)
  refine ⟨?_, frozen_of_row _ _ _ _ _ hg⟩
  rw [cell_of_row _ _ _ _ _ _ hg]
  simp [madeCells, Nat.mod_one, hi]
/-- How many are marked. -/
def ct (S : Nat → Bool) : Nat → Nat
  | 0 => 0
  | n + 1 => ct S n + (if S n = true then 1 else 0)
theorem ct_le (S : Nat → Bool) : ∀ n, ct S n ≤ n
  | 0 => Nat.le_refl _
  | n + 1 => by have := ct_le S n; unfold ct; split <;> omega
theorem ct_same {S S' : Nat → Bool} : ∀ n, (∀ i, i < n → S i = S' i) → ct S n = ct S' n
  | 0, _ => rfl
  | n + 1, h => by unfold ct; rw [ct_same n (fun i hi => h i (by omega)), h n (by omega)]
theorem ct_set {S : Nat → Bool} {k : Nat} (hS : S k = false) : ∀ n, k < n → ct (updB S k true) n = ct S n + 1
  | 0, h => by omega
  | n + 1, h => by
    unfold ct
    by_cases e : k = n
    · subst e
      rw [ct_same k (S := updB S k true) (S' := S) (fun i hi => if_neg (by omega)), hS]
      simp [updB]
    · rw [ct_set hS n (by omega), show updB S k true n = S n from if_neg (by omega)]
      omega
theorem ct_none : ∀ n, ct (fun _ => false) n = 0
  | 0 => rfl
  | n + 1 => by unfold ct; rw [ct_none n]; rfl
end Go.Proofs.Ytffdmhcbcaemfaa

/-
  What the statements' own some of layer 5 does: as many shares as are wanted, nobody's twice, each with bytes of its own. Conditions: no more than 2^12 rows and picks; no fewer rows than are wanted.
-/
namespace Go.Proofs.Ytffdmhcbcaemfaa
open Go.RowKit
open Pol (co Sm)

/-- Who is there, so far. -/
structure Who (n cnt : Nat) (who : Nat → Nat) (S : Nat → Bool) : Prop where
  lt : ∀ i, i < cnt → who i < n
  inj : ∀ i j, i < cnt → j < cnt → who i = who j → i = j
  mark : ∀ i, i < cnt → S (who i) = true
theorem Who.add {n cnt k : Nat} {who : Nat → Nat} {S : Nat → Bool} (h : Who n cnt who S) (hk : k < n) (hS : S k = false) : Who n (cnt + 1) (upd who cnt k) (updB S k true) := by
  have en : ∀ i, i < cnt → upd who cnt k i = who i := fun i hi => if_neg (by omega)
  have e1 : upd who cnt k cnt = k := if_pos rfl
  refine ⟨fun i hi => ?_, fun i j hi hj e => ?_, fun i hi => ?_⟩
  · by_cases e : i = cnt
    · subst e; rw [e1]; exact hk
    · rw [en i (by omega)]; exact h.lt i (by omega)
  · by_cases ei : i = cnt
    · by_cases ej : j = cnt
      · omega
      · subst ei
        rw [e1, en j (by omega)] at e
        have := h.mark j (by omega)
        rw [← e, hS] at this
        cases this
    · by_cases ej : j = cnt
      · subst ej
        rw [e1, en i (by omega)] at e
        have := h.mark i (by omega)
        rw [e, hS] at this
        cases this
      · rw [en i (by omega), en j (by omega)] at e
        exact h.inj i j (by omega) (by omega) e
  · unfold updB
    by_cases e : i = cnt
    · subst e; rw [e1, if_pos rfl]
    · rw [en i (by omega)]
      split
      · rfl
      · exact h.mark i (by omega)
/-- The shares that are told. -/
def SomeE (rows : Nat → List Nat) (n many : Nat) (w : World) (e : Ending) (w' : World) : Prop :=
  ∃ v who u S, e = .returned v ∧ Bld w' (w.heap.size + 1) v rows many who u ∧ Who n many who S ∧ Ext w w'

set_option maxHeartbeats 4000000 in
set_option maxRecDepth 100000 in
theorem law_some (L : List (List Nat)) (p : List Nat) (many N : Nat) (A P : Option Addr) (ca cp : Nat) (w : World) (hL : RRd w A L) (hp : Rd w P p) (hn : L.length ≤ 4096) (hn1 : 1 ≤ L.length) (hpl : p.length ≤ 4096) (hmany : many ≤ L.length) (hrow : ∀ i, i < L.length → (ro L i).length = N) (hN : N ≤ 4096) :
    Calls Try.prog 23 #[.slice A L.length ca, .slice P p.length cp, .int .i64 (many : Int)] w (SomeE (ro L) L.length many w) := by
  have HL := Lib.hid hL
  have HP := Lib.hid hp
  have HRL := Lib.hid hrow
  have hmk := fun W => run_make_bool L.length (by omega) W
  generalize hnn : L.length = n at *
  have HN := Lib.hid hnn
  generalize hpp : p.length = np at *
  have HPP := Lib.hid hpp
  clear hL hp hrow hnn hpp
  go_enter Try.func23, Try.ntmps23
  go_wp2
  clear hmk
  go_loopg [7, 17] np (fun g s7 s17 wx => ∃ (q cnt : Nat) (who : Nat → Nat) (u : Nat → Value) (S : Nat → Bool), q + g = np ∧ s17 = .int .i64 (q : Int) ∧ cnt ≤ many ∧ Bld wx (w.heap.size + 1) s7 (ro L) cnt who u ∧ Who n cnt who S ∧ Bo wx w.heap.size n S ∧ ct S n = cnt ∧ Ext w wx ∧ w.heap.size + 1 ≤ wx.heap.size)
  case atStart => exact ⟨0, 0, fun _ => 0, fun _ => .bool false, fun _ => false, by omega, rfl, by omega, Bld.nil _ _ _ _ _, ⟨fun i hi => by omega, fun i j hi => by omega, fun i hi => by omega⟩, bo_made w n, ct_none n, (Ext.refl w).alloc _, by simp⟩
  case round =>
    obtain ⟨q, cnt, who, u, S, hqg, rfl, hcm, hbld, hwho, hbo, hct, hx, hsz⟩ := hrel
    have HB := Lib.hid hbld
    have HW := Lib.hid hwho
    have HBO := Lib.hid hbo
    have HCT := Lib.hid hct
    have HX := Lib.hid hx
    clear hbld hwho hbo hct hx
    obtain ⟨A7, c7, hA7, hc7⟩ : ∃ A7 c7, u7 = .slice A7 cnt c7 ∧ cnt ≤ c7 := by
      rcases HB.out.own.2 with ⟨e, h0⟩ | ⟨g, cap, cur, e, _, _, h1, _⟩
      · exact ⟨none, 0, by rw [e, h0], by omega⟩
      · exact ⟨_, cap, e, h1⟩
    cases gk with
    | zero =>
      obtain rfl : q = np := by omega
      clear hqg
      go_wp2
      go_loopg [7, 63] n (fun g s7 s63 wx => ∃ (t cnt' : Nat) (who : Nat → Nat) (u : Nat → Value) (S' : Nat → Bool), t + g = n ∧ s63 = .int .i64 (t : Int) ∧ cnt' = min many (cnt + (t - ct S t)) ∧ Bld wx (w.heap.size + 1) s7 (ro L) cnt' who u ∧ Who n cnt' who S' ∧ (∀ j, t ≤ j → S' j = S j) ∧ Bo wx w.heap.size n S ∧ Ext w wx ∧ w.heap.size + 1 ≤ wx.heap.size)
      case atStart => exact ⟨0, cnt, who, u, S, by omega, rfl, by simp [ct]; omega, HB.out, HW.out, fun _ _ => rfl, HBO.out, HX.out, hsz⟩
      case round =>
        obtain ⟨t, cnt', who, u, S', htg, rfl, hcm', hbld, hwho, hsame, hbo, hx, hsz⟩ := hrel
        have HCT := Lib.hid HCT.out
        have HB := Lib.hid hbld
        have HW := Lib.hid hwho
        have HBO := Lib.hid hbo
        have HX := Lib.hid hx
        have HSA := Lib.hid hsame
        have HCM := Lib.hid hcm'
        clear hbld hwho hbo hx hsame A7 c7 hA7 hc7 hcm'
        obtain ⟨A7, c7, hA7, hc7⟩ : ∃ A7 c7, u7 = .slice A7 cnt' c7 ∧ cnt' ≤ c7 := by
          rcases HB.out.own.2 with ⟨e, h0⟩ | ⟨g, cap, cur, e, _, _, h1, _⟩
          · exact ⟨none, 0, by rw [e, h0], by omega⟩
          · exact ⟨_, cap, e, h1⟩
        have hct := ct_le S t
        cases gk with
        | zero =>
          obtain rfl : t = n := by omega
          clear htg
          have hfin : cnt' = many := by have := HCT.out; have := HCM.out; omega
          clear HCM
          subst hfin
          go_wp2
          go_ret
          exact ⟨_, who, u, S', rfl, HB.out, HW.out, HX.out⟩
        | succ g =>
          have hKn : t < n := by omega
          have htI : (t : Int) < (n : Int) := by omega
          obtain ⟨hb1, hb2⟩ := HBO.out t hKn
          have hst : ct S (t + 1) = ct S t + (if S t = true then 1 else 0) := rfl
          subst hA7
          cases hS : S t with
          | true =>
            rw [hS] at hb1 hst
            rw [if_pos rfl] at hst
            clear hS
            go_wp2
            go_roundg g
            case measure => omega
            case rel => exact ⟨t + 1, cnt', who, u, S', by omega, by go_num, by rw [hst, HCM.out]; congr 2; omega, HB.out, HW.out, fun j hj => HSA.out j (by omega), HBO.out, HX.out, hsz⟩
          | false =>
            rw [hS] at hb1 hst
            rw [if_neg (by simp)] at hst
            by_cases hlt : cnt' < many
            · have tl : decide ((cnt' : Int) < (many : Int)) = true := by simp; omega
              obtain ⟨b2, o2, B2, c2, e2, hr1, hr2, hr3⟩ := (HL.out.ext HX.out) t (by rw [HN.out]; exact hKn)
              subst e2
              rw [HRL.out t hKn] at hr1 hr2
              have z1 : (wr.alloc (.cells #[] 5)).cell? ⟨b2, o2 + t, none⟩ = some (.slice B2 N c2) := (((Ext.refl wr).alloc _).below.cell (p := ⟨b2, o2 + t, none⟩) (block_lt_of_cell hr1)).trans hr1
              have HRD := Lib.hid hr3
              have HB1 := Lib.hid HB.out
              have HBO1 := Lib.hid HBO.out
              have HX1 := Lib.hid HX.out
              have hsz1 := hsz
              have hS' : S' t = false := by rw [HSA.out t (Nat.le_refl _)]; exact hS
              have HWA := Lib.hid (HW.out.add hKn hS')
              clear hr3 hS hS'
              have hhs : wr.heap.size = wr.heap.size := rfl
              have HME := Lib.hid (show Mine (wr.alloc (.cells #[] 5)) wr.heap.size (.slice (some ⟨wr.heap.size, 0, none⟩) 0 0) [] from by have h := mine_empty wr; rwa [hhs] at h)
              clear hhs
              have HLN := Lib.hid (HRL.out t hKn)
              have HSK := Lib.hid HRD.out.1
              go_wp2_with (first
                | (at_builtin; refine wpList_append_rd rfl (.tmp 79) (.tmp 83) rfl wr.heap.size _ [] (ro L t) rfl HME.out B2 N c2 rfl HLN.out (HRD.out.ext ((Ext.refl _).alloc _)) (by rw [HLN.out]; simp; omega) (by simp) ?_; intro u' w5 hown5 hg5 hat5
                   have hx5 : Ext wr w5 := ((Ext.refl _).alloc (.cells #[] 5)).more hg5 (fun r e => by have := (HME.out.block r e).1; exact this)
                   rw [List.nil_append] at hown5
                   obtain ⟨Bu, cu, eu, hcu, _⟩ := hown5.slice HSK.out
                   rw [HLN.out] at eu hcu
                   subst eu
                   have HU5 := Lib.hid hown5
                   have HX5 := Lib.hid hx5
                   have hz5 := hx5.size
                   clear hown5 hg5 hat5 hx5)
                | (at_builtin; refine wpList_append_sh rfl (.tmp 77) (.tmp 86) rfl (w.heap.size + 1) _ cnt' (sv cnt' who u) rfl (HB1.out.ext (HX5.out.alloc _)).own w5.heap.size 1 t (.slice Bu N cu) rfl (by rw [cell_of_row _ _ _ _ _ _ (heap_alloc_new w5 _)]; rfl) (by rw [cell_of_row _ _ _ _ _ _ (heap_alloc_new w5 _)]; rfl) rfl (by omega) (by simp; omega) ?_; intro v9 w9 hown9 hg9 hat9))
              have hadd := HB1.out.add (k := t) hsz1 (HX5.out.alloc _) (by exact mine_ext HU5.out ((Ext.refl _).alloc _)) hown9 hg9 hat9
              have HB9 := Lib.hid hadd
              have HBO9 := Lib.hid (((HBO1.out.ext (HX5.out.alloc _)).keep hg9 (fun e => by have := (World.ownsRow.lt HB1.out.own _ e.symm).1; omega)))
              have HX9 := Lib.hid ((HX1.out.trans (HX5.out.alloc _)).more hg9 (fun r e => by have := (World.ownsRow.lt HB1.out.own r e).1; omega))
              have hsz9 : w.heap.size + 1 ≤ w9.heap.size := by have := hg9.size; simp at this; omega
              clear hadd hown9 hg9 hat9
              go_wp2
              go_roundg g
              case measure => omega
              case rel => exact ⟨t + 1, cnt' + 1, _, _, _, by omega, by go_num, by rw [hst]; have := HCM.out; omega, HB9.out, HWA.out, fun j hj => by
                show (if j = t then true else S' j) = S j
                rw [if_neg (by omega)]
                exact HSA.out j (by omega), HBO9.out, HX9.out, hsz9⟩
            · have tl : decide ((cnt' : Int) < (many : Int)) = false := by simp; omega
              clear hS
              go_wp2
              go_roundg g
              case measure => omega
              case rel => exact ⟨t + 1, cnt', who, u, S', by omega, by go_num, by rw [hst]; have := HCM.out; omega, HB.out, HW.out, fun j hj => HSA.out j (by omega), HBO.out, HX.out, hsz⟩
    | succ g =>
      have hq : q < np := by omega
      have hqI : (q : Int) < (np : Int) := by omega
      obtain ⟨b1, o1, e1, hc1⟩ := (HP.out.ext HX.out).2 q (by rw [HPP.out]; exact hq)
      subst e1
      have hpb := HP.out.1 q
      obtain ⟨y, hy⟩ : ∃ y, co p q = y := ⟨_, rfl⟩
      rw [hy] at hc1 hpb
      have hyI : (y : Int) < 256 := by omega
      obtain ⟨k, hk⟩ : ∃ k, y % n = k := ⟨_, rfl⟩
      have hKn : k < n := by rw [← hk]; exact Nat.mod_lt _ (by omega)
      have hmx : max (n : Int) 1 = (n : Int) := by omega
      have em : Int.tmod (y : Int) (n : Int) = (k : Int) := by rw [Int.tmod_eq_emod_of_nonneg (by omega), ← hk]; rfl
      have hkI : (k : Int) < (n : Int) := by omega
      have hn0 : ((n : Int) == 0) = false := by simp; omega
      obtain ⟨hb1, hb2⟩ := HBO.out k hKn
      clear hk hy
      subst hA7
      cases hS : S k with
      | true =>
        rw [hS] at hb1
        clear hS
        go_wp2
        all_goals
          go_roundg g
          case measure => omega
          case rel => exact ⟨q + 1, cnt, who, u, S, by omega, by go_num, hcm, HB.out, HW.out, HBO.out, HCT.out, HX.out, hsz⟩
      | false =>
        rw [hS] at hb1
        by_cases hlt : cnt < many
        · have tl : decide ((cnt : Int) < (many : Int)) = true := by simp; omega
          obtain ⟨b2, o2, B2, c2, e2, hr1, hr2, hr3⟩ := HL.out k (by rw [HN.out]; exact hKn)
          subst e2
          rw [HRL.out k hKn] at hr1 hr2
          have HX1 := Lib.hid (HX.out.setCell (p := ⟨w.heap.size, k, none⟩) (Nat.le_refl _) (.bool true))
          have z0 : (wr.setCell ⟨w.heap.size, k, none⟩ (.bool true)).cell? ⟨b2, o2 + k, none⟩ = some (.slice B2 N c2) := (HX1.out.below.cell (p := ⟨b2, o2 + k, none⟩) (block_lt_of_cell hr1)).trans hr1
          have z1 : ((wr.setCell ⟨w.heap.size, k, none⟩ (.bool true)).alloc (.cells #[] 5)).cell? ⟨b2, o2 + k, none⟩ = some (.slice B2 N c2) := (((Ext.refl (wr.setCell ⟨w.heap.size, k, none⟩ (.bool true))).alloc _).below.cell (p := ⟨b2, o2 + k, none⟩) (block_lt_of_cell z0)).trans z0
          have HRD := Lib.hid (hr3.ext HX1.out)
          have HB1 := Lib.hid (HB.out.keep (grown_set wr w.heap.size k (.bool true)) (fun j e => by injection e with e; omega))
          have HBO1 := Lib.hid (HBO.out.store k true)
          have hsz1 : w.heap.size + 1 ≤ (wr.setCell ⟨w.heap.size, k, none⟩ (.bool true)).heap.size := by simpa [World.setCell] using hsz
          have HWA := Lib.hid (HW.out.add hKn hS)
          have HCA := Lib.hid (ct_set hS n hKn)
          clear hr3 hS
          have hhs : (wr.setCell ⟨w.heap.size, k, none⟩ (.bool true)).heap.size = wr.heap.size := by simp [World.setCell]
          have HHS := Lib.hid hhs
          have HME := Lib.hid (show Mine ((wr.setCell ⟨w.heap.size, k, none⟩ (.bool true)).alloc (.cells #[] 5)) wr.heap.size (.slice (some ⟨wr.heap.size, 0, none⟩) 0 0) [] from by have h := mine_empty (wr.setCell ⟨w.heap.size, k, none⟩ (.bool true)); rwa [hhs] at h)
          clear hhs
          have HLN := Lib.hid (HRL.out k hKn)
          have HSK := Lib.hid HRD.out.1
          go_wp2_with (first
            | (at_builtin; refine wpList_append_rd rfl (.tmp 51) (.tmp 55) rfl wr.heap.size _ [] (ro L k) rfl HME.out B2 N c2 rfl HLN.out (HRD.out.ext ((Ext.refl _).alloc _)) (by rw [HLN.out]; simp; omega) (by simp) ?_; intro u' w5 hown5 hg5 hat5
               have hx5 : Ext (wr.setCell ⟨w.heap.size, k, none⟩ (.bool true)) w5 := ((Ext.refl _).alloc (.cells #[] 5)).more hg5 (fun r e => by have := (HME.out.block r e).1; rw [HHS.out]; exact this)
               rw [List.nil_append] at hown5
               obtain ⟨Bu, cu, eu, hcu, _⟩ := hown5.slice HSK.out
               rw [HLN.out] at eu hcu
               subst eu
               have HU5 := Lib.hid hown5
               have HX5 := Lib.hid hx5
               have hz5 := hx5.size
               clear hown5 hg5 hat5 hx5)
            | (at_builtin; refine wpList_append_sh rfl (.tmp 49) (.tmp 58) rfl (w.heap.size + 1) _ cnt (sv cnt who u) rfl (HB1.out.ext (HX5.out.alloc _)).own w5.heap.size 1 k (.slice Bu N cu) rfl (by rw [cell_of_row _ _ _ _ _ _ (heap_alloc_new w5 _)]; rfl) (by rw [cell_of_row _ _ _ _ _ _ (heap_alloc_new w5 _)]; rfl) rfl (by omega) (by simp; omega) ?_; intro v9 w9 hown9 hg9 hat9))
          all_goals
            have hadd := HB1.out.add (k := k) hsz1 (HX5.out.alloc _) (by rw [HHS.out]; exact mine_ext HU5.out ((Ext.refl _).alloc _)) hown9 hg9 hat9
            have HB9 := Lib.hid hadd
            have HBO9 := Lib.hid (((HBO1.out.ext (HX5.out.alloc _)).keep hg9 (fun e => by have := (World.ownsRow.lt HB1.out.own _ e.symm).1; omega)))
            have HX9 := Lib.hid ((HX1.out.trans (HX5.out.alloc _)).more hg9 (fun r e => by have := (World.ownsRow.lt HB1.out.own r e).1; omega))
            have hsz9 : w.heap.size + 1 ≤ w9.heap.size := by have := hg9.size; simp at this; omega
            clear hadd hown9 hg9 hat9
            go_wp2
            go_roundg g
            case measure => omega
            case rel => exact ⟨q + 1, cnt + 1, _, _, _, by omega, by go_num, by omega, HB9.out, HWA.out, HBO9.out, by rw [HCA.out, HCT.out], HX9.out, hsz9⟩
        · have tl : decide ((cnt : Int) < (many : Int)) = false := by simp; omega
          clear hS
          go_wp2
          all_goals
            go_roundg g
            case measure => omega
            case rel => exact ⟨q + 1, cnt, who, u, S, by omega, by go_num, hcm, HB.out, HW.out, HBO.out, HCT.out, HX.out, hsz⟩
end Go.Proofs.Ytffdmhcbcaemfaa

/-
  Shares whose bytes may be written, and that they open to the secret though some are spoilt. Conditions: no more than 200 shares.
-/
namespace Go.Proofs.Ytffdmhcbcaemfaa
open Go.RowKit
open Pol (co Sm ev px py)

/-- Block gb has m shares of N bytes, each one's in a block of its own that may be written. -/
structure Sps (w : World) (base gb m N : Nat) (who : Nat → Nat) (A : Nat → Option Addr) (c gs : Nat → Nat) (F : Nat → Nat → Nat) : Prop where
  whoc : ∀ i, i < m → w.cell? ⟨gb, i * 2, none⟩ = some (.int .i64 ((who i : Nat) : Int))
  datc : ∀ i, i < m → w.cell? ⟨gb, i * 2 + 1, none⟩ = some (.slice (A i) N (c i)) ∧ N ≤ c i
  adr : ∀ i, i < m → 0 < N → A i = some ⟨gs i, 0, none⟩
  cel : ∀ i, i < m → Cells w (gs i) N (F i)
  off : ∀ i, i < m → 0 < N → gs i ≠ gb
  one : ∀ i j, i < m → j < m → 0 < N → gs i = gs j → i = j
  new : ∀ i, i < m → 0 < N → base ≤ gs i
  byt : ∀ i, i < m → ∀ j, j < N → F i j < 256
theorem Sps.drewN {w : World} {base gb m N : Nat} {who : Nat → Nat} {A : Nat → Option Addr} {c gs : Nat → Nat} {F : Nat → Nat → Nat} (h : Sps w base gb m N who A c gs F) (n : Nat) : Sps (w.drewN n) base gb m N who A c gs F :=
  ⟨h.whoc, h.datc, h.adr, fun i hi => (h.cel i hi).drewN n, h.off, h.one, h.new, h.byt⟩
theorem Sps.store {w : World} {base gb m N : Nat} {who : Nat → Nat} {A : Nat → Option Addr} {c gs : Nat → Nat} {F : Nat → Nat → Nat} (h : Sps w base gb m N who A c gs F) (i j x : Nat) (hi : i < m) (hj : j < N) (hx : x < 256) :
    Sps (w.setCell ⟨gs i, j, none⟩ (.int .u8 (x : Int))) base gb m N who A c gs (fun r => if r = i then upd (F i) j x else F r) := by
  have hN : 0 < N := by omega
  have hne : ∀ o, (⟨gs i, j, none⟩ : Addr) ≠ ⟨gb, o, none⟩ := fun o e => h.off i hi hN (by cases e; rfl)
  refine ⟨fun r hr => ?_, fun r hr => ⟨?_, (h.datc r hr).2⟩, h.adr, fun r hr => ?_, h.off, h.one, h.new, fun r hr t ht => ?_⟩
  · rw [World.cell?_setCell_other _ _ _ _ (hne _)]; exact h.whoc r hr
  · rw [World.cell?_setCell_other _ _ _ _ (hne _)]; exact (h.datc r hr).1
  · by_cases e : r = i
    · subst e
      rw [if_pos rfl]
      exact (h.cel r hr).store j x
    · rw [if_neg e]
      exact (h.cel r hr).keep (grown_set w (gs i) j _) (fun e' => e (h.one r i hr hi hN (by injection e')))
  · show (if r = i then upd (F i) j x else F r) t < 256
    by_cases e : r = i
    · rw [if_pos e]
      unfold upd
      split
      · exact hx
      · subst e; exact h.byt r hr t ht
    · rw [if_neg e]; exact h.byt r hr t ht
/-- The list that they read as. -/
def shl (m N : Nat) (who : Nat → Nat) (F : Nat → Nat → Nat) : List (Int × List Nat) := (List.range m).map fun i => (((who i : Nat) : Int), tab N (F i))
theorem shl_len (m N : Nat) (who : Nat → Nat) (F : Nat → Nat → Nat) : (shl m N who F).length = m := by simp [shl]
theorem shl_at (m N : Nat) (who : Nat → Nat) (F : Nat → Nat → Nat) (i : Nat) (h : i < m) : wh (shl m N who F) i = ((who i : Nat) : Int) ∧ dt (shl m N who F) i = tab N (F i) := by
  unfold wh dt shl
  rw [List.getElem?_map, List.getElem?_range h]
  exact ⟨rfl, rfl⟩
theorem shl_out (m N : Nat) (who : Nat → Nat) (F : Nat → Nat → Nat) (i : Nat) (h : m ≤ i) : wh (shl m N who F) i = 0 ∧ dt (shl m N who F) i = [] := by
  unfold wh dt
  rw [List.getElem?_eq_none (by rw [shl_len]; exact h)]
  exact ⟨rfl, rfl⟩
theorem Sps.reads {w : World} {base gb m N : Nat} {who : Nat → Nat} {A : Nat → Option Addr} {c gs : Nat → Nat} {F : Nat → Nat → Nat} (h : Sps w base gb m N who A c gs F) : SRd w (some ⟨gb, 0, none⟩) (shl m N who F) := fun i hi => by
  rw [shl_len] at hi
  rw [(shl_at m N who F i hi).1, (shl_at m N who F i hi).2, tab_len]
  refine ⟨gb, 0, A i, c i, rfl, by rw [Nat.zero_add]; exact h.whoc i hi, by rw [Nat.zero_add]; exact (h.datc i hi).1, (h.datc i hi).2, ?_⟩
  by_cases hN : 0 < N
  · rw [h.adr i hi hN]
    exact (h.cel i hi).reads (h.byt i hi)
  · obtain rfl : N = 0 := by omega
    exact Rd.nil _ _
theorem Sps.sm {w : World} {base gb m N : Nat} {who : Nat → Nat} {A : Nat → Option Addr} {c gs : Nat → Nat} {F : Nat → Nat → Nat} (h : Sps w base gb m N who A c gs F) : ∀ k, Sm (dt (shl m N who F) k) := fun k => h.reads.sm k
/-- Out of what some tells. -/
theorem Bld.sps {w : World} {base m N : Nat} {v : Value} {rows : Nat → List Nat} {who : Nat → Nat} {u : Nat → Value} (h : Bld w base v rows m who u) (hm : 0 < m) (hl : ∀ i, i < m → (rows (who i)).length = N) (hs : ∀ i, i < m → Sm (rows (who i))) :
    ∃ gb cap A c gs, v = .slice (some ⟨gb, 0, none⟩) m cap ∧ m ≤ cap ∧ base ≤ gb ∧ Sps w base gb m N who A c gs (fun i => co (rows (who i))) := by
  rcases h.own.2 with ⟨_, h0⟩ | ⟨gb, cap, cur, e, hb, hg, hc, _, _, ht⟩
  · omega
  have hcell : ∀ j, j < m * 2 → w.cell? ⟨gb, j, none⟩ = (sv m who u)[j]? := fun j hj => by
    rw [cell_of_row w gb j cur _ _ hg, ← ht, List.getElem?_take, if_pos hj]
    simp
  have hdat := fun i => fun (hi : i < m) => (h.dat i hi).cells
  have hA : ∃ A : Nat → Option Addr, ∃ c gs : Nat → Nat, ∀ i, i < m → u i = .slice (A i) N (c i) ∧ N ≤ c i ∧ (0 < N → A i = some ⟨gs i, 0, none⟩ ∧ base ≤ gs i) ∧ Cells w (gs i) N (co (rows (who i))) := by
    have hx : ∀ i, ∃ (a : Option Addr) (c g : Nat), i < m → u i = .slice a N c ∧ N ≤ c ∧ (0 < N → a = some ⟨g, 0, none⟩ ∧ base ≤ g) ∧ Cells w g N (co (rows (who i))) := fun i => by
      by_cases hi : i < m
      · obtain ⟨a, c, g, h1, h2, h3, h4⟩ := hdat i hi
        rw [hl i hi] at h1 h2 h3 h4
        exact ⟨a, c, g, fun _ => ⟨h1, h2, h3, h4⟩⟩
      · exact ⟨none, 0, 0, fun h => absurd h hi⟩
    exact ⟨fun i => (hx i).choose, fun i => (hx i).choose_spec.choose, fun i => (hx i).choose_spec.choose_spec.choose, fun i hi => (hx i).choose_spec.choose_spec.choose_spec hi⟩
  obtain ⟨A, c, gs, hA⟩ := hA
  have hob : ∀ i, i < m → 0 < N → (u i).ownBlock = some (gs i) := fun i hi hN => by
    rw [(hA i hi).1, ((hA i hi).2.2.1 hN).1]; rfl
  have hvb : v.ownBlock = some gb := by rw [e]; rfl
  refine ⟨gb, cap, A, c, gs, e, hc, hb, ⟨fun i hi => ?_, fun i hi => ⟨?_, (hA i hi).2.1⟩, fun i hi hN => ((hA i hi).2.2.1 hN).1, fun i hi => (hA i hi).2.2.2, fun i hi hN e' => ?_, fun i j hi hj hN e' => ?_, fun i hi hN => ((hA i hi).2.2.1 hN).2, fun i hi j _ => hs i hi j⟩⟩
  · rw [hcell _ (by omega), (sv_at who u m i hi).1]
  · rw [hcell _ (by omega), (sv_at who u m i hi).2, (hA i hi).1]
  · exact h.off i hi (gs i) (hob i hi hN) (by rw [hvb, e'])
  · exact Decidable.byContradiction fun hne => h.one i j hi hj hne (gs i) (hob i hi hN) (by rw [hob j hj hN, e'])
/-! ### They open -/
theorem few_below (p : Nat → Bool) (v : Nat) : ∀ n, (∀ i, i < n → p i = true → i < v) → ((List.range n).filter p).length ≤ v
  | 0, _ => Nat.zero_le _
  | n + 1, h => by
    rw [List.range_succ, List.filter_append, List.length_append]
    by_cases hp : p n = true
    · have h1 := List.length_filter_le p (List.range n)
      have h2 := List.length_filter_le p [n]
      rw [List.length_range] at h1
      have := h n (by omega) hp
      simp at h2
      omega
    · rw [List.filter_cons_of_neg hp]
      simpa using few_below p v n (fun i hi => h i (by omega))
theorem shl_ok {m N k v : Nat} {who : Nat → Nat} {F : Nat → Nat → Nat} {S : Nat → Bool} {n : Nat} (hw : Who n m who S) (hn : n ≤ 200) (hN : N ≤ 4096) (hk : 1 ≤ k) (hm : k + 2 * v ≤ m) : OpenOk (shl m N who F) (k : Int) (v : Int) (N : Int) := by
  refine ⟨⟨by omega, by omega, by omega, by omega, by rw [shl_len]; omega⟩, fun i hi => ?_⟩
  rw [shl_len] at hi
  have h1 := hw.lt i hi
  refine ⟨by rw [(shl_at m N who F i hi).1]; omega, by rw [(shl_at m N who F i hi).1]; omega, by rw [(shl_at m N who F i hi).2, tab_len], fun j hj e => ?_⟩
  rw [(shl_at m N who F i hi).1, (shl_at m N who F j (by omega)).1] at e
  have := hw.inj j i (by omega) hi (by omega)
  omega
theorem shl_code {s c : List Nat} (hs : Sm s) (hc : Sm c) {d m v : Nat} {who : Nat → Nat} {F : Nat → Nat → Nat} (hF : ∀ i, i < m → v ≤ i → ∀ t, t < s.length → F i t = co (shr s c d (who i)) t) (t : Nat) (ht : t < s.length) : Wel.Code (pts (shl m s.length who F) t) (d + 1) v (pl s c d t) := by
  refine ⟨pl_len s c d t, pl_sm hs hc d t, ?_⟩
  rw [← Wel.wrongs_bad, pts_len, shl_len]
  refine few_below _ v m (fun i him hi => Decidable.byContradiction fun hv => ?_)
  have hp := pts_at (shl m s.length who F) t i (by rw [shl_len]; exact him)
  rw [(shl_at m s.length who F i him).1, (shl_at m s.length who F i him).2, co_tab, if_pos ht, hF i him (by omega) t ht] at hp
  unfold Wel.miss at hi
  rw [hp.1, hp.2] at hi
  unfold shr at hi
  rw [co_tab, if_pos ht] at hi
  simp at hi
end Go.Proofs.Ytffdmhcbcaemfaa
