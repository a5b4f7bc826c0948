/-
  What Mul of layer 2 does: the product, trimmed. Conditions: a field that New made, no more than 2^16 coefficients.
-/
import Derived.Test.YtagdialceelggaaPAddM
import Derived.Test.YtagdialceelggaaRMul
namespace Go.Proofs.Ytagdialceelggaa
open Go.RowKit
open Pol (co Sm trim)

theorem addm_pc (a b : List Nat) (i j : Nat) : addm i (co a i) b (Pol.pc i (co a) (co b)) b.length j = Pol.pc (i + 1) (co a) (co b) j := by
  unfold addm Pol.pc
  rw [Pol.xs]
  by_cases h : i ≤ j
  · rw [if_pos h]
    by_cases h' : j < i + b.length
    · rw [if_pos ⟨h, h'⟩]
    · rw [if_neg (by omega), Pol.co_out b (j - i) (by omega), Gf.mul_zero, Nat.xor_zero]
  · rw [if_neg h, if_neg (by omega), Nat.xor_zero]
theorem prod_tab (a b : List Nat) (ha : trim a ≠ []) (hb : trim b ≠ []) : tab ((trim a).length + (trim b).length - 1) (Pol.pc (trim a).length (co (trim a)) (co (trim b))) = trim (Pol.mulP a b) := by
  have la := List.length_pos_iff.2 ha
  have lb := List.length_pos_iff.2 hb
  have ta := Pol.top_of a ha
  have tb := Pol.top_of b hb
  have e : ∀ j, co (tab ((trim a).length + (trim b).length - 1) (Pol.pc (trim a).length (co (trim a)) (co (trim b)))) j = co (Pol.mulP a b) j := fun j => by
    rw [co_tab, ← Pol.co_mulP, Pol.mulP_congr (trim a) (trim b) a b (Pol.co_trim a) (Pol.co_trim b)]
    split
    · rfl
    · exact (Pol.mulP_above a b _ _ ta.2 tb.2 j (by omega)).symm
  rw [← Pol.trim_ext _ _ e]
  refine (Pol.trim_fix _ (.inr ?_)).symm
  rw [tab_len, e, show (trim a).length + (trim b).length - 1 - 1 = ((trim a).length - 1) + ((trim b).length - 1) from by omega, Pol.mulP_top a b _ _ ta.2 tb.2]
  exact Gf.mul_ne _ _ ta.1 tb.1
theorem prod_none (a b : List Nat) (h : trim a = [] ∨ trim b = []) : trim (Pol.mulP a b) = [] := (Pol.trim_nil_iff _).2 fun j => by
  rw [← Pol.mulP_congr (trim a) (trim b) a b (Pol.co_trim a) (Pol.co_trim b)]
  rcases h with h | h
  · rw [h]; rfl
  · rw [h]; exact Pol.mulP_nil _ j

set_option maxHeartbeats 800000 in
set_option maxRecDepth 100000 in
theorem pmul_none (f : Nat) (a b : List Nat) (A B : Option Addr) (ca cb : Nat) (w : World) (ha : Rd w A a) (hb : Rd w B b) (hca : a.length ≤ ca) (hcb : b.length ≤ cb) (hla : a.length ≤ 65536) (hlb : b.length ≤ 65536) (h : trim a = [] ∨ trim b = []) :
    Calls Try.prog 20 #[.pointer (some ⟨f, 0, none⟩), .slice A a.length ca, .slice B b.length cb] w (Gives (trim (Pol.mulP a b)) w) := by
  rw [prod_none a b h]
  have h1 := ptrimmed a A ca w ha hca hla
  have h2 := fun u (hx : Ext w u) => ptrimmed b B cb u (hb.ext hx) hcb hlb
  have h0 : (trim a).length = 0 ∨ (trim b).length = 0 := h.imp (fun e => by rw [e]; rfl) (fun e => by rw [e]; rfl)
  have hta := Pol.trim_len a
  unfold Cuts at h1 h2
  generalize (trim a).length = ta at *
  generalize (trim b).length = tb at *
  have H1 := Lib.hid h1
  have H2 := Lib.hid h2
  clear h1 h2 ha hb h
  go_enter Try.func20, Try.ntmps20
  go_wp2_with fail
  refine H1.out.mono ?_
  rintro e w1 ⟨rfl, hx1⟩
  have HX1 := Lib.hid hx1
  clear hx1
  go_wp2_with fail
  refine (H2.out w1 HX1.out).mono ?_
  rintro e w2 ⟨rfl, hx2⟩
  have HX2 := Lib.hid hx2
  clear hx2
  by_cases hz : ta = 0
  · have t1 : ((ta : Int) == 0) = true := by simp [hz]
    clear hz h0
    go_wp2
    go_ret
    exact ⟨none, 0, rfl, Nat.le_refl _, Rd.nil _ _, HX1.out.trans HX2.out⟩
  · have t1 : ((ta : Int) == 0) = false := by simp; omega
    have t2 : ((tb : Int) == 0) = true := by simp; omega
    clear hz h0
    go_wp2
    go_ret
    exact ⟨none, 0, rfl, Nat.le_refl _, Rd.nil _ _, HX1.out.trans HX2.out⟩

set_option maxHeartbeats 800000 in
set_option maxRecDepth 100000 in
theorem pmul_some (f : Nat) (a b : List Nat) (A B : Option Addr) (ca cb : Nat) (w : World) (hf : IsField w f) (ha : Rd w A a) (hb : Rd w B b) (hca : a.length ≤ ca) (hcb : b.length ≤ cb) (hla : a.length ≤ 65536) (hlb : b.length ≤ 65536) (ha0 : trim a ≠ []) (hb0 : trim b ≠ []) :
    Calls Try.prog 20 #[.pointer (some ⟨f, 0, none⟩), .slice A a.length ca, .slice B b.length cb] w (Gives (trim (Pol.mulP a b)) w) := by
  have h1 := ptrimmed a A ca w ha hca hla
  have h2 := fun u (hx : Ext w u) => ptrimmed b B cb u (hb.ext hx) hcb hlb
  have hta := Pol.trim_len a
  have htb := Pol.trim_len b
  have la := List.length_pos_iff.2 ha0
  have lb := List.length_pos_iff.2 hb0
  have hsm : Sm (trim (Pol.mulP a b)) := (Sm.mul a b).trim
  have hprod := prod_tab a b ha0 hb0
  have hda := ha.trim
  have hdb := hb.trim
  have hba := hda.block
  have hbb := hdb.block
  have hnext := addm_pc (trim a) (trim b)
  unfold Cuts at h1 h2
  generalize hra : trim a = ra at *
  generalize hrb : trim b = rb at *
  generalize hxa : ra.length = ta at *
  generalize hxb : rb.length = tb at *
  have H1 := Lib.hid h1
  have H2 := Lib.hid h2
  have HF := Lib.hid hf
  have HDA := Lib.hid hda
  have HDB := Lib.hid hdb
  have HBA := Lib.hid hba
  have HBB := Lib.hid hbb
  have HS := Lib.hid hsm
  have HP := Lib.hid hprod
  have HNX := Lib.hid hnext
  have HXA := Lib.hid hxa
  have HXB := Lib.hid hxb
  obtain ⟨N, hN⟩ : ∃ N, ta + tb - 1 = N := ⟨_, rfl⟩
  have HN := Lib.hid hN
  have hmk := fun W => run_make_u8 N (by omega) W
  have hcast : (N : Int) = (ta : Int) + (tb : Int) - 1 := by omega
  rw [hcast] at hmk
  have t1 : ((ta : Int) == 0) = false := by simp; omega
  have t2 : ((tb : Int) == 0) = false := by simp; omega
  clear h1 h2 ha hb hf hda hdb hba hbb hsm hprod hnext hxa hxb hcast hN hra hrb ha0 hb0
  go_enter Try.func20, Try.ntmps20
  go_wp2_with fail
  refine H1.out.mono ?_
  rintro e w1 ⟨rfl, hx1⟩
  have HX1 := Lib.hid hx1
  clear hx1
  go_wp2_with fail
  refine (H2.out w1 HX1.out).mono ?_
  rintro e w2 ⟨rfl, hx2⟩
  have HX2 := Lib.hid (HX1.out.trans hx2)
  clear hx2
  go_wp2
  clear hmk t1 t2
  go_loopg [30] ta (fun g s wx => ∃ i : Nat, i + g = ta ∧ s = .int .i64 (i : Int) ∧ Cells wx w2.heap.size N (Pol.pc i (co ra) (co rb)) ∧ Ext w wx)
  case atStart => exact ⟨0, by omega, rfl, ((Blk.new w2 N (fun _ => 0)).cells).congr (fun j _ => rfl), HX2.out.alloc _⟩
  case round =>
    obtain ⟨i, hig, rfl, hcl, hx⟩ := hrel
    have HX := Lib.hid hx
    have HL := Lib.hid hcl
    clear hx hcl
    cases gk with
    | zero =>
      obtain rfl : ta = i := by omega
      clear hig
      have hr := HL.out.reads (fun j _ => pc_lt _ _ _ j)
      have hlen : (trim (Pol.mulP a b)).length = N := by rw [← HP.out, tab_len]; exact HN.out
      rw [← HN.out, HP.out] at hr
      have HR := Lib.hid hr
      have HLN := Lib.hid hlen
      clear hr hlen
      go_wp2
      go_ret
      exact ⟨some ⟨w2.heap.size, 0, none⟩, N, by rw [HLN.out]; rfl, by rw [HLN.out]; exact Nat.le_refl _, HR.out, HX.out⟩
    | succ g =>
      have hi : i < ta := by omega
      have hiI : (i : Int) < (ta : Int) := by omega
      have hiN : i < N := by have := HN.out; omega
      have hiNI : (i : Int) < (N : Int) := by omega
      obtain ⟨b1, o1, e1, hc1⟩ := (HDA.out.ext HX.out).2 i (by rw [HXA.out]; exact hi)
      subst e1
      have hszw := HX2.out.size
      have hct := fun q => paddm f rb B w2.heap.size i N (N - i) (N - i) cb (co ra i) _ (wr.drewN q) ((HF.out.ext HX.out).drewN q) ((HDB.out.ext HX.out).drewN q) (HDA.out.1 i) (HL.out.drewN q) (fun j _ => pc_lt _ _ _ j)
        (by have := HF.out.lt; omega) (fun b o e h => by have := HBB.out b o e (by have := HXB.out; omega); omega) (by rw [HXB.out]; have := HN.out; omega) (by rw [HXB.out]; have := HN.out; omega) (by have := HN.out; omega)
      rw [HXB.out] at hct
      have hnx : ∀ j, addm i (co ra i) rb (Pol.pc i (co ra) (co rb)) tb j = Pol.pc (i + 1) (co ra) (co rb) j := HNX.out i
      have HNJ := Lib.hid hnx
      have hsl := fun W => run_from_u8 w2.heap.size 0 N N i (by omega) (by omega) W
      rw [Nat.zero_add] at hsl
      have HCT := Lib.hid hct
      clear hct hnx
      go_wp2
      refine wp_region_quiet_tail 9 (fun w' => ∃ q, w' = wr.drewN q) (by kernel_rfl) (by kernel_rfl) ⟨1, rfl⟩ ?_
      simp only [List.take_succ_cons, List.take_zero, List.drop_succ_cons, List.drop_zero]
      repeat (quiet_step (fail))
      refine wpQuiet_nil ?_
      rintro _ ⟨q, rfl⟩
      go_wp2_with fail
      refine (HCT.out q).mono ?_
      rintro e w4 ⟨⟨v, rfl⟩, hc4, hg4⟩
      have H4 := Lib.hid (hc4.congr (fun j _ => HNJ.out j))
      have HX4 := Lib.hid ((HX.out.drewN q).more hg4 (fun k e => by cases e; exact hszw))
      clear hc4 hg4
      go_wp2
      go_roundg g
      case measure => omega
      case rel => exact ⟨i + 1, by omega, by go_num, H4.out, HX4.out⟩

theorem pmul (f : Nat) (a b : List Nat) (A B : Option Addr) (c d : Nat) (w : World) (hf : IsField w f) (ha : Rd w A a) (hb : Rd w B b) (hca : a.length ≤ c) (hcb : b.length ≤ d) (hla : a.length ≤ 65536) (hlb : b.length ≤ 65536) :
    Calls Try.prog 20 #[.pointer (some ⟨f, 0, none⟩), .slice A a.length c, .slice B b.length d] w (Gives (trim (Pol.mulP a b)) w) := by
  by_cases h : trim a = [] ∨ trim b = []
  · exact pmul_none f a b A B c d w ha hb hca hcb hla hlb h
  · exact pmul_some f a b A B c d w hf ha hb hca hcb hla hlb (fun e => h (.inl e)) (fun e => h (.inr e))
end Go.Proofs.Ytagdialceelggaa
