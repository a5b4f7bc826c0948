/-
  Part 3 of the texts that the seat's proofs stand on; each part of it begins with its own sentence and conditions. Conditions: those that each theorem names.
-/
import Derived.Test.YtfbnckecfapakaaPlaysPack2
import Derived.Deep.DeepCutAuto
import Derived.ProofKit
import Derived.OpenShut
import Derived.Deep.Slices
import Derived.Deep.SlicePairs
import Derived.ChangeSame
import Derived.Lib.Hide

/-
  What the document's own Crash of layer 12 does. Conditions: no more than 2^16 bytes of each kind.
-/
namespace Go.Proofs.Ytfbnckecfapakaa
open Go.RowKit
open Pol (co Sm)

/-- A disk whose bytes are all durable, of a call's own. -/
def RefD (F : List Nat) (w : World) (e : Ending) (w' : World) : Prop := Ext w w' ∧ ∃ A n c, e = .returned (.agg #[.slice A n c, .slice none 0 0]) ∧ St w.heap.size w' A n c F
theorem disk24_in (a b : Value) : (Try.prog.info? 24).map (·.size) = some (#[a, b] : Array Value).size := by kernel_rfl
theorem disk24_one (B1 B2 : Option Addr) (n1 n2 c1 c2 : Nat) : (#[Value.slice B1 n1 c1, .slice B2 n2 c2] : Array Value).all (·.oneCell') = true := by simp [Value.oneCell']
theorem set_end (F L : List Nat) (m x : Nat) (h : m < L.length) : (F ++ L.take (m + 1)).set (F.length + m) (co L m ^^^ x) = F ++ crs L (m + 1) x := by
  rw [crs_some, List.set_append_right _ _ (by omega), Nat.add_sub_cancel_left, set_last L m _ h]
set_option maxHeartbeats 1600000 in
set_option maxRecDepth 100000 in
theorem ref12_crash {F L : List Nat} {A B : Option Addr} {nf ca nl cb : Nat} (k : Int) (x : Nat) (w : World) (hf : F.length = nf) (hl : L.length = nl) (rf : Rd w A F) (rl : Rd w B L) (h1 : nf ≤ 65536) (h2 : nl ≤ 65536) (hcb : nl ≤ cb) (hx : x < 256) :
    Calls Try.prog 24 #[.agg #[.slice A nf ca, .slice B nl cb], .int .i64 k, .int .u8 (x : Int)] w (RefD (F ++ crs L (kept k nl) x) w) := by
  unfold RefD
  have HF := Lib.hid hf
  have HL := Lib.hid hl
  have HRF := Lib.hid rf
  have HRL := Lib.hid rl
  have HLE := Lib.hid (And.intro h1 h2)
  have HXB := Lib.hid hx
  have HSM := Lib.hid (And.intro rf.1 rl.1)
  have hx1 := ((Ext.refl w).alloc (.cells #[.slice A nf ca, .slice B nl cb] 24)).alloc (.cells #[.slice none 0 0, .slice none 0 0] 24)
  have hb1 := ((Ext.refl (w.alloc (.cells #[.slice A nf ca, .slice B nl cb] 24))).alloc (.cells #[.slice none 0 0, .slice none 0 0] 24)).row (heap_alloc_new w (.cells #[.slice A nf ca, .slice B nl cb] 24))
  have hb2 := heap_alloc_new (w.alloc (.cells #[.slice A nf ca, .slice B nl cb] 24)) (.cells #[.slice none 0 0, .slice none 0 0] 24)
  have hsz : (w.alloc (.cells #[.slice A nf ca, .slice B nl cb] 24)).heap.size = w.heap.size + 1 := by simp
  have hsz2 : ((w.alloc (.cells #[.slice A nf ca, .slice B nl cb] 24)).alloc (.cells #[.slice none 0 0, .slice none 0 0] 24)).heap.size = w.heap.size + 2 := by simp
  rw [hsz] at hb2
  have HX1 := Lib.hid hx1
  have HT1 := Lib.hid (twoR_of hb1)
  have HB2 := Lib.hid hb2
  have HZ2 := Lib.hid hsz2
  clear hf hl rf rl hx1 hb1 hb2 hsz hsz2 hx
  rcases Int.lt_or_le k 0 with hk | hk
  · have e0 : kept k nl = 0 := by unfold kept; rw [if_pos (by omega)]
    have c1 : ¬ (nl : Int) < k := by omega
    have HK := Lib.hid e0
    clear e0
    have hvl : (0 : Nat) ≤ nl := Nat.zero_le _
    have d1 : decide ((0 : Int) < (0 : Int)) = false := by decide
    have hs := run_to_u8 B nl cb 0 (by omega)
    have HTK := Lib.hid (show (L.take 0).length = 0 from by rw [List.length_take]; have := HL.out; omega)
    have HST := Lib.hid (sm12_take HSM.out.2 0)
    have HSA := Lib.hid (show Sm (F ++ L.take 0) from sm12_app HSM.out.1 (sm12_take HSM.out.2 0))
    have HLA := Lib.hid (show (F ++ L.take 0).length = nf from by rw [List.length_append, HTK.out, HF.out, Nat.add_zero])
    have HS := Lib.hid hs
    clear hs
    have hs := HS.out
    go_enter Try.func24, Try.ntmps24
    have hcl := HT1.out.2
    go_wp2
    obtain ⟨g, hg⟩ : ∃ g, w.heap.size = g := ⟨_, rfl⟩
    have HG := Lib.hid hg
    rw [hg] at HT1 HB2 HZ2 ⊢
    clear hg hcl c1
    have HD := Lib.hid d1
    clear d1
    generalize (w.alloc (.cells #[.slice A nf ca, .slice B nl cb] 24)).alloc (.cells #[.slice none 0 0, .slice none 0 0] 24) = w1 at HX1 HT1 HB2 HZ2 ⊢
    refine wp_region_plan (TwoR g (.slice A nf ca) (.slice B nl cb)) [0, 1, 2, 3, 4, 5, 6, 7, 8] (.yes 1 (.yes 2 (.yes 4 (.yes 5 (.yes 6 (.yes 7 (.one 0 (.one 3 (.one 8 (.one 9 .done)))))))))) (by kernel_rfl) (fun c a a' w e h => ⟨e ▸ h.1, h.2⟩) (by kernel_rfl) HT1.out ?_
    refine plan_yes rfl (fun K hK => ?_); go_simp; refine ⟨_, fun _ _ => rfl, hK _ ?_⟩; clear hK K
    refine plan_yes rfl (fun K hK => ?_); go_simp; refine ⟨.slice A nf ca, fun W hW => ?_, hK _ ?_⟩
    · have h1 := hW.1
      go_simp
    clear hK K
    refine plan_yes rfl (fun K hK => ?_); go_simp; refine ⟨_, fun _ _ => rfl, hK _ ?_⟩; clear hK K
    refine plan_yes rfl (fun K hK => ?_); go_simp; refine ⟨.slice B nl cb, fun W hW => ?_, hK _ ?_⟩
    · have h1 := hW.2
      go_simp
    clear hK K
    refine plan_yes rfl (fun K hK => ?_); go_simp; refine ⟨_, fun _ _ => rfl, hK _ ?_⟩; clear hK K
    refine plan_yes rfl (fun K hK => ?_); go_simp; refine ⟨.slice B 0 cb, fun W hW => ?_, hK _ ?_⟩
    · have hs := HS.out
      go_simp
    clear hK K hs
    have HX2 := Lib.hid (show Ext w w1.drew from HX1.out.drew)
    have HT2 := Lib.hid (show TwoR g (.slice A nf ca) (.slice B nl cb) w1.drew from HT1.out)
    have HB3 := Lib.hid (show w1.drew.heap[g + 1]? = _ from HB2.out)
    have HZ3 := Lib.hid (show w1.drew.heap.size = g + 2 from HZ2.out)
    generalize w1.drew = w2 at HX2 HT2 HB3 HZ3 ⊢
    have HM2 := Lib.hid (mine_empty w2)
    have HXA := Lib.hid ((Ext.refl w2).alloc (.cells #[] 5))
    refine plan_one rfl (fun K hK => ?_)
    go_wp2
    refine ⟨fun _ => HT2.out.ext HXA.out, ?_⟩
    refine plan_one rfl (fun K hK => ?_)
    go_wp2_with (at_builtin; refine wpList_append_new rfl (.tmp 15) (.tmp 17) rfl w2.heap.size w2.heap.size F rfl HM2.out A nf ca rfl HF.out (HRF.out.ext (HX2.out.trans HXA.out)) (by have := HF.out; have := HLE.out; omega) HXA.out.size ?_; intro v3 w3 hm3 hx3 _; obtain ⟨A3, n3, c3, ev, hst⟩ := hm3.st HSM.out.1; subst ev; have HM3 := Lib.hid hm3; have HX3 := Lib.hid (HX2.out.trans (HXA.out.trans hx3)); have HT3 := Lib.hid ((HT2.out.ext HXA.out).ext hx3); have HS3 := Lib.hid (HXA.out.trans hx3).size; have HB4 := Lib.hid ((HXA.out.trans hx3).row HB3.out); clear hm3 hx3 hst)
    refine ⟨fun _ => HT3.out, ?_⟩
    refine plan_one rfl (fun K hK => ?_)
    go_wp2_with (at_builtin; refine wpList_append_rd rfl (.tmp 18) (.tmp 22) rfl w2.heap.size (.slice A3 n3 c3) F (L.take 0) rfl HM3.out B 0 cb rfl HTK.out ((HRL.out.ext HX3.out).take 0) (by have := HF.out; have := HTK.out; have := HLE.out; omega) HS3.out ?_; intro v4 w4 hm4 hg4 _; obtain ⟨A4, n4, c4, ev, hst⟩ := hm4.st HSA.out; have en4 := HLA.out.symm.trans hst.len; subst en4; subst ev; have HM4 := Lib.hid hm4; have HX4 := Lib.hid (HX3.out.more hg4 (fun q hq => Nat.le_trans HX2.out.size (HM3.out.block q hq).1)); have HBG := Lib.hid (fun b (hb : b < g + 2) => hg4.block b (Nat.lt_of_lt_of_le (by have := HZ3.out; omega) HS3.out) (fun e => by have h1 := (HM3.out.block b e.symm).1; have h2 := HZ3.out; omega)); have HB5 := Lib.hid ((hg4.block (g + 1) (row_lt HB4.out) (fun e => by have h1 := (HM3.out.block (g + 1) e.symm).1; have h2 := HZ3.out; omega)).trans HB4.out); clear hm4 hg4 hst)
    refine ⟨fun _ => ?_, ?_⟩
    · have hc := HT3.out
      have hn : ∀ o v, w3.cell? ⟨g, o, none⟩ = some v → w4.cell? ⟨g, o, none⟩ = some v := fun o v h => by
        exact (World.cell?_of_block (a := ⟨g, o, none⟩) (HBG.out g (by omega))).trans h
      exact ⟨hn _ _ hc.1, hn _ _ hc.2⟩
    refine plan_one rfl (fun K hK => ?_)
    go_wp2
    refine ⟨fun h => absurd h (by decide), ?_⟩
    unfold wpPlan
    have HBX := HB5
    have HM5 := HM4
    have HX5 := HX4
    have HSE := Lib.hid (show F ++ L.take 0 = F ++ crs L (kept k nl) x from by rw [HK.out, List.take_zero, crs_none])
    have HSX := Lib.hid (show Sm (F ++ crs L (kept k nl) x) from sm12_app HSM.out.1 (crs_sm HSM.out.2 _ HXB.out))
    rw [HSE.out] at HM5
    have hone := disk24_one A4 none nf 0 c4 0
    have hin := disk24_in (.slice A4 nf c4) (.slice none 0 0)
    have hsz : (#[.slice none 0 0, .slice none 0 0] : Array Value).size = (#[.slice A4 nf c4, .slice none 0 0] : Array Value).size := rfl
    go_wp2_with (with_reducible refine wpList_store_all rfl 24 (.tmp 6) (.tmp 40) rfl (g + 1) _ #[.slice A4 nf c4, .slice none 0 0] rfl rfl HBX.out hin hsz hone ?_)
    have hg5 := setRow_heap w4 (g + 1) _ #[.slice A4 nf c4, .slice none 0 0] _ _ HBX.out
    have ho5 : Only (fun k => k = g + 1) w4 (w4.setRow (g + 1) #[.slice A4 nf c4, .slice none 0 0]) := Only.of_grown (grown_block w4 _ _) (fun k e => by injection e with e; exact e.symm)
    refine bodyPost_ret (results_cell_row Try.results24 _ _ (g + 1) 24 _ (0, 0) _ rfl hg5 Try.underlying24 rfl (disk24_in _ _)) rfl ?_
    refine ⟨ho5.ext HX5.out (fun k hk => by rw [hk, HG.out]; omega), A4, nf, c4, rfl, ?_⟩
    exact ((HM5.out.keep9 (grown_block w4 (g + 1) _) (fun k hk e => by injection e with e; have h1 := (HM5.out.block k hk).1; have h2 := HZ3.out; omega)).down (base' := w.heap.size) (by have h2 := HZ3.out; have h3 := HG.out; omega)).stAt HSX.out
  · obtain ⟨q, rfl⟩ : ∃ q : Nat, k = (q : Int) := ⟨k.toNat, by omega⟩
    have e0 : kept (q : Int) nl = min q nl := by unfold kept; split <;> omega
    clear hk
    rcases Nat.lt_or_ge nl q with hc | hc
    · have c1 : (nl : Int) < (q : Int) := by omega
      have HK := Lib.hid (show kept (q : Int) nl = nl from by omega)
      have HCC := Lib.hid hc
      clear e0 hc
      rcases Nat.eq_zero_or_pos nl with hv | hv
      · skip
        have hvl : nl ≤ nl := by have := HCC.out; omega
        have HV := Lib.hid hv
        have d1 : decide ((0 : Int) < (nl : Int)) = false := decide_eq_false (by omega)
        have d2 : ¬ (0 : Int) < (nl : Int) := by omega
        clear hv
        have hs := run_to_u8 B nl cb 0 (by omega)
        have HTK := Lib.hid (show (L.take 0).length = 0 from by rw [List.length_take]; have := HL.out; omega)
        have HST := Lib.hid (sm12_take HSM.out.2 0)
        have HSA := Lib.hid (show Sm (F ++ L.take 0) from sm12_app HSM.out.1 (sm12_take HSM.out.2 0))
        have HLA := Lib.hid (show (F ++ L.take 0).length = nf from by rw [List.length_append, HTK.out, HF.out, Nat.add_zero])
        have HS := Lib.hid hs
        clear hs
        have hs := HS.out
        go_enter Try.func24, Try.ntmps24
        have hcl := HT1.out.2
        go_wp2
        obtain ⟨g, hg⟩ : ∃ g, w.heap.size = g := ⟨_, rfl⟩
        have HG := Lib.hid hg
        rw [hg] at HT1 HB2 HZ2 ⊢
        clear hg hcl c1
        have HD := Lib.hid (And.intro d1 d2)
        clear d1 d2
        generalize (w.alloc (.cells #[.slice A nf ca, .slice B nl cb] 24)).alloc (.cells #[.slice none 0 0, .slice none 0 0] 24) = w1 at HX1 HT1 HB2 HZ2 ⊢
        refine wp_region_plan (TwoR g (.slice A nf ca) (.slice B nl cb)) [0, 1, 2, 3, 4, 5, 6, 7, 8] (.yes 1 (.yes 2 (.yes 4 (.yes 5 (.yes 6 (.yes 7 (.one 0 (.one 3 (.one 8 (.one 9 .done)))))))))) (by kernel_rfl) (fun c a a' w e h => ⟨e ▸ h.1, h.2⟩) (by kernel_rfl) HT1.out ?_
        refine plan_yes rfl (fun K hK => ?_); go_simp; refine ⟨_, fun _ _ => rfl, hK _ ?_⟩; clear hK K
        refine plan_yes rfl (fun K hK => ?_); go_simp; refine ⟨.slice A nf ca, fun W hW => ?_, hK _ ?_⟩
        · have h1 := hW.1
          go_simp
        clear hK K
        refine plan_yes rfl (fun K hK => ?_); go_simp; refine ⟨_, fun _ _ => rfl, hK _ ?_⟩; clear hK K
        refine plan_yes rfl (fun K hK => ?_); go_simp; refine ⟨.slice B nl cb, fun W hW => ?_, hK _ ?_⟩
        · have h1 := hW.2
          go_simp
        clear hK K
        refine plan_yes rfl (fun K hK => ?_); go_simp; refine ⟨_, fun _ _ => rfl, hK _ ?_⟩; clear hK K
        refine plan_yes rfl (fun K hK => ?_); go_simp; refine ⟨.slice B 0 cb, fun W hW => ?_, hK _ ?_⟩
        · have hs := HS.out
          go_simp
        clear hK K hs
        have HX2 := Lib.hid (show Ext w w1.drew from HX1.out.drew)
        have HT2 := Lib.hid (show TwoR g (.slice A nf ca) (.slice B nl cb) w1.drew from HT1.out)
        have HB3 := Lib.hid (show w1.drew.heap[g + 1]? = _ from HB2.out)
        have HZ3 := Lib.hid (show w1.drew.heap.size = g + 2 from HZ2.out)
        generalize w1.drew = w2 at HX2 HT2 HB3 HZ3 ⊢
        have HM2 := Lib.hid (mine_empty w2)
        have HXA := Lib.hid ((Ext.refl w2).alloc (.cells #[] 5))
        refine plan_one rfl (fun K hK => ?_)
        go_wp2
        refine ⟨fun _ => HT2.out.ext HXA.out, ?_⟩
        refine plan_one rfl (fun K hK => ?_)
        go_wp2_with (at_builtin; refine wpList_append_new rfl (.tmp 15) (.tmp 17) rfl w2.heap.size w2.heap.size F rfl HM2.out A nf ca rfl HF.out (HRF.out.ext (HX2.out.trans HXA.out)) (by have := HF.out; have := HLE.out; omega) HXA.out.size ?_; intro v3 w3 hm3 hx3 _; obtain ⟨A3, n3, c3, ev, hst⟩ := hm3.st HSM.out.1; subst ev; have HM3 := Lib.hid hm3; have HX3 := Lib.hid (HX2.out.trans (HXA.out.trans hx3)); have HT3 := Lib.hid ((HT2.out.ext HXA.out).ext hx3); have HS3 := Lib.hid (HXA.out.trans hx3).size; have HB4 := Lib.hid ((HXA.out.trans hx3).row HB3.out); clear hm3 hx3 hst)
        refine ⟨fun _ => HT3.out, ?_⟩
        refine plan_one rfl (fun K hK => ?_)
        go_wp2_with (at_builtin; refine wpList_append_rd rfl (.tmp 18) (.tmp 22) rfl w2.heap.size (.slice A3 n3 c3) F (L.take 0) rfl HM3.out B 0 cb rfl HTK.out ((HRL.out.ext HX3.out).take 0) (by have := HF.out; have := HTK.out; have := HLE.out; omega) HS3.out ?_; intro v4 w4 hm4 hg4 _; obtain ⟨A4, n4, c4, ev, hst⟩ := hm4.st HSA.out; have en4 := HLA.out.symm.trans hst.len; subst en4; subst ev; have HM4 := Lib.hid hm4; have HX4 := Lib.hid (HX3.out.more hg4 (fun q hq => Nat.le_trans HX2.out.size (HM3.out.block q hq).1)); have HBG := Lib.hid (fun b (hb : b < g + 2) => hg4.block b (Nat.lt_of_lt_of_le (by have := HZ3.out; omega) HS3.out) (fun e => by have h1 := (HM3.out.block b e.symm).1; have h2 := HZ3.out; omega)); have HB5 := Lib.hid ((hg4.block (g + 1) (row_lt HB4.out) (fun e => by have h1 := (HM3.out.block (g + 1) e.symm).1; have h2 := HZ3.out; omega)).trans HB4.out); clear hm4 hg4 hst)
        refine ⟨fun _ => ?_, ?_⟩
        · have hc := HT3.out
          have hn : ∀ o v, w3.cell? ⟨g, o, none⟩ = some v → w4.cell? ⟨g, o, none⟩ = some v := fun o v h => by
            exact (World.cell?_of_block (a := ⟨g, o, none⟩) (HBG.out g (by omega))).trans h
          exact ⟨hn _ _ hc.1, hn _ _ hc.2⟩
        refine plan_one rfl (fun K hK => ?_)
        go_wp2
        refine ⟨fun h => absurd h (by decide), ?_⟩
        unfold wpPlan
        have HBX := HB5
        have HM5 := HM4
        have HX5 := HX4
        have HSE := Lib.hid (show F ++ L.take 0 = F ++ crs L (kept (q : Int) nl) x from by rw [HK.out, HV.out, List.take_zero, crs_none])
        have HSX := Lib.hid (show Sm (F ++ crs L (kept (q : Int) nl) x) from sm12_app HSM.out.1 (crs_sm HSM.out.2 _ HXB.out))
        rw [HSE.out] at HM5
        have hone := disk24_one A4 none nf 0 c4 0
        have hin := disk24_in (.slice A4 nf c4) (.slice none 0 0)
        have hsz : (#[.slice none 0 0, .slice none 0 0] : Array Value).size = (#[.slice A4 nf c4, .slice none 0 0] : Array Value).size := rfl
        go_wp2_with (with_reducible refine wpList_store_all rfl 24 (.tmp 6) (.tmp 40) rfl (g + 1) _ #[.slice A4 nf c4, .slice none 0 0] rfl rfl HBX.out hin hsz hone ?_)
        have hg5 := setRow_heap w4 (g + 1) _ #[.slice A4 nf c4, .slice none 0 0] _ _ HBX.out
        have ho5 : Only (fun k => k = g + 1) w4 (w4.setRow (g + 1) #[.slice A4 nf c4, .slice none 0 0]) := Only.of_grown (grown_block w4 _ _) (fun k e => by injection e with e; exact e.symm)
        refine bodyPost_ret (results_cell_row Try.results24 _ _ (g + 1) 24 _ (0, 0) _ rfl hg5 Try.underlying24 rfl (disk24_in _ _)) rfl ?_
        refine ⟨ho5.ext HX5.out (fun k hk => by rw [hk, HG.out]; omega), A4, nf, c4, rfl, ?_⟩
        exact ((HM5.out.keep9 (grown_block w4 (g + 1) _) (fun k hk e => by injection e with e; have h1 := (HM5.out.block k hk).1; have h2 := HZ3.out; omega)).down (base' := w.heap.size) (by have h2 := HZ3.out; have h3 := HG.out; omega)).stAt HSX.out
      · skip
        have hvl : nl ≤ nl := by have := HCC.out; omega
        obtain ⟨m, hm⟩ : ∃ m, nl = m + 1 := ⟨nl - 1, by omega⟩
        have HM := Lib.hid hm
        have d1 : decide ((0 : Int) < (nl : Int)) = true := decide_eq_true (by omega)
        have d2 : (0 : Int) < (nl : Int) := by omega
        clear hv hm
        have hs := run_to_u8 B nl cb nl (by omega)
        have HTK := Lib.hid (show (L.take nl).length = nl from by rw [List.length_take]; have := HL.out; omega)
        have HST := Lib.hid (sm12_take HSM.out.2 nl)
        have HSA := Lib.hid (show Sm (F ++ L.take nl) from sm12_app HSM.out.1 (sm12_take HSM.out.2 nl))
        have HLA := Lib.hid (show (F ++ L.take nl).length = (nf + nl) from by rw [List.length_append, HTK.out, HF.out])
        have HS := Lib.hid hs
        clear hs
        have hs := HS.out
        go_enter Try.func24, Try.ntmps24
        have hcl := HT1.out.2
        go_wp2
        obtain ⟨g, hg⟩ : ∃ g, w.heap.size = g := ⟨_, rfl⟩
        have HG := Lib.hid hg
        rw [hg] at HT1 HB2 HZ2 ⊢
        clear hg hcl c1
        have HD := Lib.hid (And.intro d1 d2)
        clear d1 d2
        generalize (w.alloc (.cells #[.slice A nf ca, .slice B nl cb] 24)).alloc (.cells #[.slice none 0 0, .slice none 0 0] 24) = w1 at HX1 HT1 HB2 HZ2 ⊢
        refine wp_region_plan (TwoR g (.slice A nf ca) (.slice B nl cb)) [0, 1, 2, 3, 4, 5, 6, 7, 8] (.yes 1 (.yes 2 (.yes 4 (.yes 5 (.yes 6 (.yes 7 (.one 0 (.one 3 (.one 8 (.one 9 .done)))))))))) (by kernel_rfl) (fun c a a' w e h => ⟨e ▸ h.1, h.2⟩) (by kernel_rfl) HT1.out ?_
        refine plan_yes rfl (fun K hK => ?_); go_simp; refine ⟨_, fun _ _ => rfl, hK _ ?_⟩; clear hK K
        refine plan_yes rfl (fun K hK => ?_); go_simp; refine ⟨.slice A nf ca, fun W hW => ?_, hK _ ?_⟩
        · have h1 := hW.1
          go_simp
        clear hK K
        refine plan_yes rfl (fun K hK => ?_); go_simp; refine ⟨_, fun _ _ => rfl, hK _ ?_⟩; clear hK K
        refine plan_yes rfl (fun K hK => ?_); go_simp; refine ⟨.slice B nl cb, fun W hW => ?_, hK _ ?_⟩
        · have h1 := hW.2
          go_simp
        clear hK K
        refine plan_yes rfl (fun K hK => ?_); go_simp; refine ⟨_, fun _ _ => rfl, hK _ ?_⟩; clear hK K
        refine plan_yes rfl (fun K hK => ?_); go_simp; refine ⟨.slice B nl cb, fun W hW => ?_, hK _ ?_⟩
        · have hs := HS.out
          go_simp
        clear hK K hs
        have HX2 := Lib.hid (show Ext w w1.drew from HX1.out.drew)
        have HT2 := Lib.hid (show TwoR g (.slice A nf ca) (.slice B nl cb) w1.drew from HT1.out)
        have HB3 := Lib.hid (show w1.drew.heap[g + 1]? = _ from HB2.out)
        have HZ3 := Lib.hid (show w1.drew.heap.size = g + 2 from HZ2.out)
        generalize w1.drew = w2 at HX2 HT2 HB3 HZ3 ⊢
        have HM2 := Lib.hid (mine_empty w2)
        have HXA := Lib.hid ((Ext.refl w2).alloc (.cells #[] 5))
        refine plan_one rfl (fun K hK => ?_)
        go_wp2
        refine ⟨fun _ => HT2.out.ext HXA.out, ?_⟩
        refine plan_one rfl (fun K hK => ?_)
        go_wp2_with (at_builtin; refine wpList_append_new rfl (.tmp 15) (.tmp 17) rfl w2.heap.size w2.heap.size F rfl HM2.out A nf ca rfl HF.out (HRF.out.ext (HX2.out.trans HXA.out)) (by have := HF.out; have := HLE.out; omega) HXA.out.size ?_; intro v3 w3 hm3 hx3 _; obtain ⟨A3, n3, c3, ev, hst⟩ := hm3.st HSM.out.1; subst ev; have HM3 := Lib.hid hm3; have HX3 := Lib.hid (HX2.out.trans (HXA.out.trans hx3)); have HT3 := Lib.hid ((HT2.out.ext HXA.out).ext hx3); have HS3 := Lib.hid (HXA.out.trans hx3).size; have HB4 := Lib.hid ((HXA.out.trans hx3).row HB3.out); clear hm3 hx3 hst)
        refine ⟨fun _ => HT3.out, ?_⟩
        refine plan_one rfl (fun K hK => ?_)
        go_wp2_with (at_builtin; refine wpList_append_rd rfl (.tmp 18) (.tmp 22) rfl w2.heap.size (.slice A3 n3 c3) F (L.take nl) rfl HM3.out B nl cb rfl HTK.out ((HRL.out.ext HX3.out).take nl) (by have := HF.out; have := HTK.out; have := HLE.out; omega) HS3.out ?_; intro v4 w4 hm4 hg4 _; obtain ⟨A4, n4, c4, ev, hst⟩ := hm4.st HSA.out; have en4 := HLA.out.symm.trans hst.len; subst en4; subst ev; have HM4 := Lib.hid hm4; have HX4 := Lib.hid (HX3.out.more hg4 (fun q hq => Nat.le_trans HX2.out.size (HM3.out.block q hq).1)); have HBG := Lib.hid (fun b (hb : b < g + 2) => hg4.block b (Nat.lt_of_lt_of_le (by have := HZ3.out; omega) HS3.out) (fun e => by have h1 := (HM3.out.block b e.symm).1; have h2 := HZ3.out; omega)); have HB5 := Lib.hid ((hg4.block (g + 1) (row_lt HB4.out) (fun e => by have h1 := (HM3.out.block (g + 1) e.symm).1; have h2 := HZ3.out; omega)).trans HB4.out); clear hm4 hg4 hst)
        refine ⟨fun _ => ?_, ?_⟩
        · have hc := HT3.out
          have hn : ∀ o v, w3.cell? ⟨g, o, none⟩ = some v → w4.cell? ⟨g, o, none⟩ = some v := fun o v h => by
            exact (World.cell?_of_block (a := ⟨g, o, none⟩) (HBG.out g (by omega))).trans h
          exact ⟨hn _ _ hc.1, hn _ _ hc.2⟩
        refine plan_one rfl (fun K hK => ?_)
        go_wp2
        refine ⟨fun h => absurd h (by decide), ?_⟩
        unfold wpPlan
        obtain ⟨d1, d2⟩ := HD.out
        obtain ⟨gl, n5, c5, e5, hcell, hfz⟩ := HM4.out.spot HSA.out (i := nf + m) (by rw [HLA.out]; have := HM.out; omega)
        injection e5 with e1 e2 e3
        subst e1; subst e2; subst e3
        rw [show co (F ++ L.take nl) (nf + m) = co L m from by rw [co12_right F _ _ (by have := HF.out; omega), show nf + m - F.length = m from by have := HF.out; omega, co12_take L _ m (by have := HM.out; omega)]] at hcell
        have ex := u8_xor_nat (co L m) x (HSM.out.2 m) HXB.out
        have him : nf + m = nf + nl - 1 := by have := HM.out; omega
        rw [him] at hcell hfz
        have HIM := Lib.hid him
        clear him
        have HBX0 := Lib.hid ((heap_setCell_other w4 ⟨gl, nf + nl - 1, none⟩ (g + 1) (.int .u8 ((co L m ^^^ x : Nat) : Int)) (by have h1 := (HM4.out.block gl rfl).1; have h2 := HZ3.out; show g + 1 ≠ gl; omega)).trans HB5.out)
        have HBX := HBX0
        have HM5 := Lib.hid (HM4.out.put (i := nf + nl - 1) (x := co L m ^^^ x) (by rw [HLA.out]; have := HIM.out; have := HM.out; omega))
        have HSE := Lib.hid (show (F ++ L.take nl).set (nf + nl - 1) (co L m ^^^ x) = F ++ crs L (kept (q : Int) nl) x from by
          rw [HK.out, ← HIM.out, HM.out, ← HF.out]
          exact set_end F L m x (by have := HL.out; have := HM.out; omega))
        have HSX := Lib.hid (show Sm (F ++ crs L (kept (q : Int) nl) x) from sm12_app HSM.out.1 (crs_sm HSM.out.2 _ HXB.out))
        have HX5 := Lib.hid (show Ext w (w4.setCell ⟨gl, nf + nl - 1, none⟩ (.int .u8 ((co L m ^^^ x : Nat) : Int))) from HX4.out.setCell (by have h1 := (HM4.out.block gl rfl).1; have h2 := HZ3.out; have h3 := HG.out; show w.heap.size ≤ gl; omega) _)
        rw [HSE.out] at HM5
        have hone := disk24_one (some ⟨gl, 0, none⟩) none (nf + nl) 0 c4 0
        have hin := disk24_in (.slice (some ⟨gl, 0, none⟩) (nf + nl) c4) (.slice none 0 0)
        have hsz : (#[.slice none 0 0, .slice none 0 0] : Array Value).size = (#[.slice (some ⟨gl, 0, none⟩) (nf + nl) c4, .slice none 0 0] : Array Value).size := rfl
        go_wp2_with (with_reducible refine wpList_store_all rfl 24 (.tmp 6) (.tmp 40) rfl (g + 1) _ #[.slice (some ⟨gl, 0, none⟩) (nf + nl) c4, .slice none 0 0] rfl rfl HBX.out hin hsz hone ?_)
        have hg5 := setRow_heap (w4.setCell ⟨gl, nf + nl - 1, none⟩ (.int .u8 ((co L m ^^^ x : Nat) : Int))) (g + 1) _ #[.slice (some ⟨gl, 0, none⟩) (nf + nl) c4, .slice none 0 0] _ _ HBX.out
        have ho5 : Only (fun k => k = g + 1) (w4.setCell ⟨gl, nf + nl - 1, none⟩ (.int .u8 ((co L m ^^^ x : Nat) : Int))) ((w4.setCell ⟨gl, nf + nl - 1, none⟩ (.int .u8 ((co L m ^^^ x : Nat) : Int))).setRow (g + 1) #[.slice (some ⟨gl, 0, none⟩) (nf + nl) c4, .slice none 0 0]) := Only.of_grown (grown_block (w4.setCell ⟨gl, nf + nl - 1, none⟩ (.int .u8 ((co L m ^^^ x : Nat) : Int))) _ _) (fun k e => by injection e with e; exact e.symm)
        refine bodyPost_ret (results_cell_row Try.results24 _ _ (g + 1) 24 _ (0, 0) _ rfl hg5 Try.underlying24 rfl (disk24_in _ _)) rfl ?_
        refine ⟨ho5.ext HX5.out (fun k hk => by rw [hk, HG.out]; omega), (some ⟨gl, 0, none⟩), (nf + nl), c4, rfl, ?_⟩
        exact ((HM5.out.keep9 (grown_block (w4.setCell ⟨gl, nf + nl - 1, none⟩ (.int .u8 ((co L m ^^^ x : Nat) : Int))) (g + 1) _) (fun k hk e => by injection e with e; have h1 := (HM5.out.block k hk).1; have h2 := HZ3.out; omega)).down (base' := w.heap.size) (by have h2 := HZ3.out; have h3 := HG.out; omega)).stAt HSX.out
    · have c1 : ¬ (nl : Int) < (q : Int) := by omega
      have HK := Lib.hid (show kept (q : Int) nl = q from by omega)
      have HCC := Lib.hid hc
      clear e0 hc
      rcases Nat.eq_zero_or_pos q with hv | hv
      · skip
        have hvl : q ≤ nl := by have := HCC.out; omega
        have HV := Lib.hid hv
        have d1 : decide ((0 : Int) < (q : Int)) = false := decide_eq_false (by omega)
        have d2 : ¬ (0 : Int) < (q : Int) := by omega
        clear hv
        have hs := run_to_u8 B nl cb 0 (by omega)
        have HTK := Lib.hid (show (L.take 0).length = 0 from by rw [List.length_take]; have := HL.out; omega)
        have HST := Lib.hid (sm12_take HSM.out.2 0)
        have HSA := Lib.hid (show Sm (F ++ L.take 0) from sm12_app HSM.out.1 (sm12_take HSM.out.2 0))
        have HLA := Lib.hid (show (F ++ L.take 0).length = nf from by rw [List.length_append, HTK.out, HF.out, Nat.add_zero])
        have HS := Lib.hid hs
        clear hs
        have hs := HS.out
        go_enter Try.func24, Try.ntmps24
        have hcl := HT1.out.2
        go_wp2
        obtain ⟨g, hg⟩ : ∃ g, w.heap.size = g := ⟨_, rfl⟩
        have HG := Lib.hid hg
        rw [hg] at HT1 HB2 HZ2 ⊢
        clear hg hcl c1
        have HD := Lib.hid (And.intro d1 d2)
        clear d1 d2
        generalize (w.alloc (.cells #[.slice A nf ca, .slice B nl cb] 24)).alloc (.cells #[.slice none 0 0, .slice none 0 0] 24) = w1 at HX1 HT1 HB2 HZ2 ⊢
        refine wp_region_plan (TwoR g (.slice A nf ca) (.slice B nl cb)) [0, 1, 2, 3, 4, 5, 6, 7, 8] (.yes 1 (.yes 2 (.yes 4 (.yes 5 (.yes 6 (.yes 7 (.one 0 (.one 3 (.one 8 (.one 9 .done)))))))))) (by kernel_rfl) (fun c a a' w e h => ⟨e ▸ h.1, h.2⟩) (by kernel_rfl) HT1.out ?_
        refine plan_yes rfl (fun K hK => ?_); go_simp; refine ⟨_, fun _ _ => rfl, hK _ ?_⟩; clear hK K
        refine plan_yes rfl (fun K hK => ?_); go_simp; refine ⟨.slice A nf ca, fun W hW => ?_, hK _ ?_⟩
        · have h1 := hW.1
          go_simp
        clear hK K
        refine plan_yes rfl (fun K hK => ?_); go_simp; refine ⟨_, fun _ _ => rfl, hK _ ?_⟩; clear hK K
        refine plan_yes rfl (fun K hK => ?_); go_simp; refine ⟨.slice B nl cb, fun W hW => ?_, hK _ ?_⟩
        · have h1 := hW.2
          go_simp
        clear hK K
        refine plan_yes rfl (fun K hK => ?_); go_simp; refine ⟨_, fun _ _ => rfl, hK _ ?_⟩; clear hK K
        refine plan_yes rfl (fun K hK => ?_); go_simp; refine ⟨.slice B 0 cb, fun W hW => ?_, hK _ ?_⟩
        · have hs := HS.out
          go_simp
        clear hK K hs
        have HX2 := Lib.hid (show Ext w w1.drew from HX1.out.drew)
        have HT2 := Lib.hid (show TwoR g (.slice A nf ca) (.slice B nl cb) w1.drew from HT1.out)
        have HB3 := Lib.hid (show w1.drew.heap[g + 1]? = _ from HB2.out)
        have HZ3 := Lib.hid (show w1.drew.heap.size = g + 2 from HZ2.out)
        generalize w1.drew = w2 at HX2 HT2 HB3 HZ3 ⊢
        have HM2 := Lib.hid (mine_empty w2)
        have HXA := Lib.hid ((Ext.refl w2).alloc (.cells #[] 5))
        refine plan_one rfl (fun K hK => ?_)
        go_wp2
        refine ⟨fun _ => HT2.out.ext HXA.out, ?_⟩
        refine plan_one rfl (fun K hK => ?_)
        go_wp2_with (at_builtin; refine wpList_append_new rfl (.tmp 15) (.tmp 17) rfl w2.heap.size w2.heap.size F rfl HM2.out A nf ca rfl HF.out (HRF.out.ext (HX2.out.trans HXA.out)) (by have := HF.out; have := HLE.out; omega) HXA.out.size ?_; intro v3 w3 hm3 hx3 _; obtain ⟨A3, n3, c3, ev, hst⟩ := hm3.st HSM.out.1; subst ev; have HM3 := Lib.hid hm3; have HX3 := Lib.hid (HX2.out.trans (HXA.out.trans hx3)); have HT3 := Lib.hid ((HT2.out.ext HXA.out).ext hx3); have HS3 := Lib.hid (HXA.out.trans hx3).size; have HB4 := Lib.hid ((HXA.out.trans hx3).row HB3.out); clear hm3 hx3 hst)
        refine ⟨fun _ => HT3.out, ?_⟩
        refine plan_one rfl (fun K hK => ?_)
        go_wp2_with (at_builtin; refine wpList_append_rd rfl (.tmp 18) (.tmp 22) rfl w2.heap.size (.slice A3 n3 c3) F (L.take 0) rfl HM3.out B 0 cb rfl HTK.out ((HRL.out.ext HX3.out).take 0) (by have := HF.out; have := HTK.out; have := HLE.out; omega) HS3.out ?_; intro v4 w4 hm4 hg4 _; obtain ⟨A4, n4, c4, ev, hst⟩ := hm4.st HSA.out; have en4 := HLA.out.symm.trans hst.len; subst en4; subst ev; have HM4 := Lib.hid hm4; have HX4 := Lib.hid (HX3.out.more hg4 (fun q hq => Nat.le_trans HX2.out.size (HM3.out.block q hq).1)); have HBG := Lib.hid (fun b (hb : b < g + 2) => hg4.block b (Nat.lt_of_lt_of_le (by have := HZ3.out; omega) HS3.out) (fun e => by have h1 := (HM3.out.block b e.symm).1; have h2 := HZ3.out; omega)); have HB5 := Lib.hid ((hg4.block (g + 1) (row_lt HB4.out) (fun e => by have h1 := (HM3.out.block (g + 1) e.symm).1; have h2 := HZ3.out; omega)).trans HB4.out); clear hm4 hg4 hst)
        refine ⟨fun _ => ?_, ?_⟩
        · have hc := HT3.out
          have hn : ∀ o v, w3.cell? ⟨g, o, none⟩ = some v → w4.cell? ⟨g, o, none⟩ = some v := fun o v h => by
            exact (World.cell?_of_block (a := ⟨g, o, none⟩) (HBG.out g (by omega))).trans h
          exact ⟨hn _ _ hc.1, hn _ _ hc.2⟩
        refine plan_one rfl (fun K hK => ?_)
        go_wp2
        refine ⟨fun h => absurd h (by decide), ?_⟩
        unfold wpPlan
        have HBX := HB5
        have HM5 := HM4
        have HX5 := HX4
        have HSE := Lib.hid (show F ++ L.take 0 = F ++ crs L (kept (q : Int) nl) x from by rw [HK.out, HV.out, List.take_zero, crs_none])
        have HSX := Lib.hid (show Sm (F ++ crs L (kept (q : Int) nl) x) from sm12_app HSM.out.1 (crs_sm HSM.out.2 _ HXB.out))
        rw [HSE.out] at HM5
        have hone := disk24_one A4 none nf 0 c4 0
        have hin := disk24_in (.slice A4 nf c4) (.slice none 0 0)
        have hsz : (#[.slice none 0 0, .slice none 0 0] : Array Value).size = (#[.slice A4 nf c4, .slice none 0 0] : Array Value).size := rfl
        go_wp2_with (with_reducible refine wpList_store_all rfl 24 (.tmp 6) (.tmp 40) rfl (g + 1) _ #[.slice A4 nf c4, .slice none 0 0] rfl rfl HBX.out hin hsz hone ?_)
        have hg5 := setRow_heap w4 (g + 1) _ #[.slice A4 nf c4, .slice none 0 0] _ _ HBX.out
        have ho5 : Only (fun k => k = g + 1) w4 (w4.setRow (g + 1) #[.slice A4 nf c4, .slice none 0 0]) := Only.of_grown (grown_block w4 _ _) (fun k e => by injection e with e; exact e.symm)
        refine bodyPost_ret (results_cell_row Try.results24 _ _ (g + 1) 24 _ (0, 0) _ rfl hg5 Try.underlying24 rfl (disk24_in _ _)) rfl ?_
        refine ⟨ho5.ext HX5.out (fun k hk => by rw [hk, HG.out]; omega), A4, nf, c4, rfl, ?_⟩
        exact ((HM5.out.keep9 (grown_block w4 (g + 1) _) (fun k hk e => by injection e with e; have h1 := (HM5.out.block k hk).1; have h2 := HZ3.out; omega)).down (base' := w.heap.size) (by have h2 := HZ3.out; have h3 := HG.out; omega)).stAt HSX.out
      · skip
        have hvl : q ≤ nl := by have := HCC.out; omega
        obtain ⟨m, hm⟩ : ∃ m, q = m + 1 := ⟨q - 1, by omega⟩
        have HM := Lib.hid hm
        have d1 : decide ((0 : Int) < (q : Int)) = true := decide_eq_true (by omega)
        have d2 : (0 : Int) < (q : Int) := by omega
        clear hv hm
        have hs := run_to_u8 B nl cb q (by omega)
        have HTK := Lib.hid (show (L.take q).length = q from by rw [List.length_take]; have := HL.out; omega)
        have HST := Lib.hid (sm12_take HSM.out.2 q)
        have HSA := Lib.hid (show Sm (F ++ L.take q) from sm12_app HSM.out.1 (sm12_take HSM.out.2 q))
        have HLA := Lib.hid (show (F ++ L.take q).length = (nf + q) from by rw [List.length_append, HTK.out, HF.out])
        have HS := Lib.hid hs
        clear hs
        have hs := HS.out
        go_enter Try.func24, Try.ntmps24
        have hcl := HT1.out.2
        go_wp2
        obtain ⟨g, hg⟩ : ∃ g, w.heap.size = g := ⟨_, rfl⟩
        have HG := Lib.hid hg
        rw [hg] at HT1 HB2 HZ2 ⊢
        clear hg hcl c1
        have HD := Lib.hid (And.intro d1 d2)
        clear d1 d2
        generalize (w.alloc (.cells #[.slice A nf ca, .slice B nl cb] 24)).alloc (.cells #[.slice none 0 0, .slice none 0 0] 24) = w1 at HX1 HT1 HB2 HZ2 ⊢
        refine wp_region_plan (TwoR g (.slice A nf ca) (.slice B nl cb)) [0, 1, 2, 3, 4, 5, 6, 7, 8] (.yes 1 (.yes 2 (.yes 4 (.yes 5 (.yes 6 (.yes 7 (.one 0 (.one 3 (.one 8 (.one 9 .done)))))))))) (by kernel_rfl) (fun c a a' w e h => ⟨e ▸ h.1, h.2⟩) (by kernel_rfl) HT1.out ?_
        refine plan_yes rfl (fun K hK => ?_); go_simp; refine ⟨_, fun _ _ => rfl, hK _ ?_⟩; clear hK K
        refine plan_yes rfl (fun K hK => ?_); go_simp; refine ⟨.slice A nf ca, fun W hW => ?_, hK _ ?_⟩
        · have h1 := hW.1
          go_simp
        clear hK K
        refine plan_yes rfl (fun K hK => ?_); go_simp; refine ⟨_, fun _ _ => rfl, hK _ ?_⟩; clear hK K
        refine plan_yes rfl (fun K hK => ?_); go_simp; refine ⟨.slice B nl cb, fun W hW => ?_, hK _ ?_⟩
        · have h1 := hW.2
          go_simp
        clear hK K
        refine plan_yes rfl (fun K hK => ?_); go_simp; refine ⟨_, fun _ _ => rfl, hK _ ?_⟩; clear hK K
        refine plan_yes rfl (fun K hK => ?_); go_simp; refine ⟨.slice B q cb, fun W hW => ?_, hK _ ?_⟩
        · have hs := HS.out
          go_simp
        clear hK K hs
        have HX2 := Lib.hid (show Ext w w1.drew from HX1.out.drew)
        have HT2 := Lib.hid (show TwoR g (.slice A nf ca) (.slice B nl cb) w1.drew from HT1.out)
        have HB3 := Lib.hid (show w1.drew.heap[g + 1]? = _ from HB2.out)
        have HZ3 := Lib.hid (show w1.drew.heap.size = g + 2 from HZ2.out)
        generalize w1.drew = w2 at HX2 HT2 HB3 HZ3 ⊢
        have HM2 := Lib.hid (mine_empty w2)
        have HXA := Lib.hid ((Ext.refl w2).alloc (.cells #[] 5))
        refine plan_one rfl (fun K hK => ?_)
        go_wp2
        refine ⟨fun _ => HT2.out.ext HXA.out, ?_⟩
        refine plan_one rfl (fun K hK => ?_)
        go_wp2_with (at_builtin; refine wpList_append_new rfl (.tmp 15) (.tmp 17) rfl w2.heap.size w2.heap.size F rfl HM2.out A nf ca rfl HF.out (HRF.out.ext (HX2.out.trans HXA.out)) (by have := HF.out; have := HLE.out; omega) HXA.out.size ?_; intro v3 w3 hm3 hx3 _; obtain ⟨A3, n3, c3, ev, hst⟩ := hm3.st HSM.out.1; subst ev; have HM3 := Lib.hid hm3; have HX3 := Lib.hid (HX2.out.trans (HXA.out.trans hx3)); have HT3 := Lib.hid ((HT2.out.ext HXA.out).ext hx3); have HS3 := Lib.hid (HXA.out.trans hx3).size; have HB4 := Lib.hid ((HXA.out.trans hx3).row HB3.out); clear hm3 hx3 hst)
        refine ⟨fun _ => HT3.out, ?_⟩
        refine plan_one rfl (fun K hK => ?_)
        go_wp2_with (at_builtin; refine wpList_append_rd rfl (.tmp 18) (.tmp 22) rfl w2.heap.size (.slice A3 n3 c3) F (L.take q) rfl HM3.out B q cb rfl HTK.out ((HRL.out.ext HX3.out).take q) (by have := HF.out; have := HTK.out; have := HLE.out; omega) HS3.out ?_; intro v4 w4 hm4 hg4 _; obtain ⟨A4, n4, c4, ev, hst⟩ := hm4.st HSA.out; have en4 := HLA.out.symm.trans hst.len; subst en4; subst ev; have HM4 := Lib.hid hm4; have HX4 := Lib.hid (HX3.out.more hg4 (fun q hq => Nat.le_trans HX2.out.size (HM3.out.block q hq).1)); have HBG := Lib.hid (fun b (hb : b < g + 2) => hg4.block b (Nat.lt_of_lt_of_le (by have := HZ3.out; omega) HS3.out) (fun e => by have h1 := (HM3.out.block b e.symm).1; have h2 := HZ3.out; omega)); have HB5 := Lib.hid ((hg4.block (g + 1) (row_lt HB4.out) (fun e => by have h1 := (HM3.out.block (g + 1) e.symm).1; have h2 := HZ3.out; omega)).trans HB4.out); clear hm4 hg4 hst)
        refine ⟨fun _ => ?_, ?_⟩
        · have hc := HT3.out
          have hn : ∀ o v, w3.cell? ⟨g, o, none⟩ = some v → w4.cell? ⟨g, o, none⟩ = some v := fun o v h => by
            exact (World.cell?_of_block (a := ⟨g, o, none⟩) (HBG.out g (by omega))).trans h
          exact ⟨hn _ _ hc.1, hn _ _ hc.2⟩
        refine plan_one rfl (fun K hK => ?_)
        go_wp2
        refine ⟨fun h => absurd h (by decide), ?_⟩
        unfold wpPlan
        obtain ⟨d1, d2⟩ := HD.out
        obtain ⟨gl, n5, c5, e5, hcell, hfz⟩ := HM4.out.spot HSA.out (i := nf + m) (by rw [HLA.out]; have := HM.out; omega)
        injection e5 with e1 e2 e3
        subst e1; subst e2; subst e3
        rw [show co (F ++ L.take q) (nf + m) = co L m from by rw [co12_right F _ _ (by have := HF.out; omega), show nf + m - F.length = m from by have := HF.out; omega, co12_take L _ m (by have := HM.out; omega)]] at hcell
        have ex := u8_xor_nat (co L m) x (HSM.out.2 m) HXB.out
        have him : nf + m = nf + q - 1 := by have := HM.out; omega
        rw [him] at hcell hfz
        have HIM := Lib.hid him
        clear him
        have HBX0 := Lib.hid ((heap_setCell_other w4 ⟨gl, nf + q - 1, none⟩ (g + 1) (.int .u8 ((co L m ^^^ x : Nat) : Int)) (by have h1 := (HM4.out.block gl rfl).1; have h2 := HZ3.out; show g + 1 ≠ gl; omega)).trans HB5.out)
        have HBX := HBX0
        have HM5 := Lib.hid (HM4.out.put (i := nf + q - 1) (x := co L m ^^^ x) (by rw [HLA.out]; have := HIM.out; have := HM.out; omega))
        have HSE := Lib.hid (show (F ++ L.take q).set (nf + q - 1) (co L m ^^^ x) = F ++ crs L (kept (q : Int) nl) x from by
          rw [HK.out, ← HIM.out, HM.out, ← HF.out]
          exact set_end F L m x (by have := HL.out; have := HM.out; omega))
        have HSX := Lib.hid (show Sm (F ++ crs L (kept (q : Int) nl) x) from sm12_app HSM.out.1 (crs_sm HSM.out.2 _ HXB.out))
        have HX5 := Lib.hid (show Ext w (w4.setCell ⟨gl, nf + q - 1, none⟩ (.int .u8 ((co L m ^^^ x : Nat) : Int))) from HX4.out.setCell (by have h1 := (HM4.out.block gl rfl).1; have h2 := HZ3.out; have h3 := HG.out; show w.heap.size ≤ gl; omega) _)
        rw [HSE.out] at HM5
        have hone := disk24_one (some ⟨gl, 0, none⟩) none (nf + q) 0 c4 0
        have hin := disk24_in (.slice (some ⟨gl, 0, none⟩) (nf + q) c4) (.slice none 0 0)
        have hsz : (#[.slice none 0 0, .slice none 0 0] : Array Value).size = (#[.slice (some ⟨gl, 0, none⟩) (nf + q) c4, .slice none 0 0] : Array Value).size := rfl
        go_wp2_with (with_reducible refine wpList_store_all rfl 24 (.tmp 6) (.tmp 40) rfl (g + 1) _ #[.slice (some ⟨gl, 0, none⟩) (nf + q) c4, .slice none 0 0] rfl rfl HBX.out hin hsz hone ?_)
        have hg5 := setRow_heap (w4.setCell ⟨gl, nf + q - 1, none⟩ (.int .u8 ((co L m ^^^ x : Nat) : Int))) (g + 1) _ #[.slice (some ⟨gl, 0, none⟩) (nf + q) c4, .slice none 0 0] _ _ HBX.out
        have ho5 : Only (fun k => k = g + 1) (w4.setCell ⟨gl, nf + q - 1, none⟩ (.int .u8 ((co L m ^^^ x : Nat) : Int))) ((w4.setCell ⟨gl, nf + q - 1, none⟩ (.int .u8 ((co L m ^^^ x : Nat) : Int))).setRow (g + 1) #[.slice (some ⟨gl, 0, none⟩) (nf + q) c4, .slice none 0 0]) := Only.of_grown (grown_block (w4.setCell ⟨gl, nf + q - 1, none⟩ (.int .u8 ((co L m ^^^ x : Nat) : Int))) _ _) (fun k e => by injection e with e; exact e.symm)
        refine bodyPost_ret (results_cell_row Try.results24 _ _ (g + 1) 24 _ (0, 0) _ rfl hg5 Try.underlying24 rfl (disk24_in _ _)) rfl ?_
        refine ⟨ho5.ext HX5.out (fun k hk => by rw [hk, HG.out]; omega), (some ⟨gl, 0, none⟩), (nf + q), c4, rfl, ?_⟩
        exact ((HM5.out.keep9 (grown_block (w4.setCell ⟨gl, nf + q - 1, none⟩ (.int .u8 ((co L m ^^^ x : Nat) : Int))) (g + 1) _) (fun k hk e => by injection e with e; have h1 := (HM5.out.block k hk).1; have h2 := HZ3.out; omega)).down (base' := w.heap.size) (by have h2 := HZ3.out; have h3 := HG.out; omega)).stAt HSX.out
end Go.Proofs.Ytfbnckecfapakaa

/-
  Slices of rows of a call's own, whose rows lie in blocks of the call's own too: a literal of one row, and what append does. Conditions: the lengths add up to no more than 2^20.
-/
namespace Go.Proofs.Ytfbnckecfapakaa
open Go.RowKit
open Pol (co Sm)

/-- All of them lie in blocks from base on. -/
def New (vs : List Value) (base : Nat) : Prop := ∀ (i b o n c : Nat), vs[i]? = some (.slice (some ⟨b, o, none⟩) n c) → 0 < n → base ≤ b
structure MineN (w : World) (base : Nat) (v : Value) (rows : List (List Nat)) : Prop where
  has : ∃ vs, w.ownsRow base 22 1 v rows.length vs ∧ RowsV w vs rows ∧ Far vs v.ownBlock ∧ New vs base
theorem MineN.toR {w : World} {base : Nat} {v : Value} {rows : List (List Nat)} (h : MineN w base v rows) : MineR w base v rows := by
  obtain ⟨vs, h1, h2, h3, _⟩ := h.has
  exact ⟨vs, h1, h2, h3⟩
theorem MineN.slice {w : World} {base : Nat} {v : Value} {rows : List (List Nat)} (h : MineN w base v rows) : ∃ A c, v = .slice A rows.length c ∧ rows.length ≤ c ∧ RRd w A rows := h.toR.slice
theorem MineN.block {w : World} {base : Nat} {v : Value} {rows : List (List Nat)} (h : MineN w base v rows) : ∀ k, v.ownBlock = some k → base ≤ k ∧ k < w.heap.size := h.toR.block
theorem MineN.ext {w w' : World} {base : Nat} {v : Value} {rows : List (List Nat)} (h : MineN w base v rows) (hx : Ext w w') : MineN w' base v rows := by
  obtain ⟨vs, hown, hv, hf, hn⟩ := h.has
  refine ⟨vs, World.ownsRow.kept hown (row := none) ⟨hx.below.os, hx.below.tape, hx.below.output, hx.below.size, fun k hk _ => hx.below.block k hk⟩ (by
    cases hb : v.ownBlock with
    | none => exact .inl rfl
    | some k => exact .inr (by simp)), hv.ext hx, hf, hn⟩
theorem MineN.down {w : World} {base base' : Nat} {v : Value} {rows : List (List Nat)} (h : MineN w base v rows) (hb : base' ≤ base) : MineN w base' v rows := by
  obtain ⟨vs, hown, hv, hf, hn⟩ := h.has
  exact ⟨vs, ⟨hown.1, hown.2.imp id fun ⟨g, cap, cur, h1, h2, h3⟩ => ⟨g, cap, cur, h1, Nat.le_trans hb h2, h3⟩⟩, hv, hf, fun i b o n c e h0 => Nat.le_trans hb (hn i b o n c e h0)⟩
theorem MineN.nil (w : World) (base : Nat) : MineN w base (.slice none 0 0) [] :=
  ⟨[], World.ownsRow_nil w base _ _, ⟨rfl, fun i hi => absurd hi (by simp)⟩, fun i b o n c h => by simp at h, fun i b o n c h => by simp at h⟩
theorem mineN_lit {w : World} {base : Nat} {v : Value} {l : List Nat} (hm : Mine w base v l) (hs : Sm l) (hb : base ≤ w.heap.size) :
    MineN (w.alloc (.cells #[v] 22)) base (.slice (some ⟨w.heap.size, 0, none⟩) 1 1) [l] := by
  obtain ⟨B, c, e, hc, hr⟩ := hm.slice hs
  have hz : ∀ (i b o n c' : Nat), [v][i]? = some (.slice (some ⟨b, o, none⟩) n c') → base ≤ b ∧ b < w.heap.size := fun i b o n c' h => by
    have hi : i < 1 := by
      have := (List.getElem?_eq_some_iff.1 h).1
      simpa using this
    obtain rfl : i = 0 := by omega
    have hv : v = .slice (some ⟨b, o, none⟩) n c' := by simpa using h
    exact World.ownsRow.lt hm b (by rw [hv]; rfl)
  refine ⟨[v], World.ownsRow_lit w #[v] 1 hb (by unfold maxLen; omega) rfl, ⟨rfl, fun i hi => ?_⟩, fun i b o n c' h _ e' => ?_, fun i b o n c' h _ => (hz i b o n c' h).1⟩
  · match i, hi with
    | 0, _ => exact ⟨B, c, by rw [e]; rfl, hc, hr.ext ((Ext.refl _).alloc _)⟩
  · have := (hz i b o n c' h).2
    have e2 : some b = some w.heap.size := e'
    injection e2 with e2
    omega
theorem grown_setRow (w : World) (g : Nat) (V : Array Value) : w.grownBy (w.setRow g V) (some g) :=
  ⟨rfl, rfl, rfl, by simp [World.setRow], fun k _ hne => setRow_other w g k V (fun e => hne (by rw [e]))⟩
theorem MineN.keep {w w' : World} {base g : Nat} {v : Value} {rows : List (List Nat)} (h : MineN w base v rows) (hg : w.grownBy w' (some g)) (hlt : g < base) : MineN w' base v rows := by
  have hbl := h.block
  obtain ⟨vs, hown, hv, hf, hn⟩ := h.has
  refine ⟨vs, World.ownsRow.kept hown hg (by
    cases hb : v.ownBlock with
    | none => exact .inl rfl
    | some k => exact .inr (fun e => by injection e with e; have := (hbl k hb).1; omega)), hv.keep hg (fun i b o n c e h0 e' => by injection e' with e'; have := hn i b o n c e h0; omega), hf, hn⟩
set_option maxRecDepth 100000 in
theorem run_append_rowsN (w : World) (base base2 : Nat) (ty : TypeId) (v u : Value) (rows more : List (List Nat)) (hown : MineN w base v rows) (hmore : MineN w base2 u more)
    (hvb : ∀ k, v.ownBlock = some k → k < base2) (hb : base ≤ base2) (hlen : rows.length + more.length ≤ 1048576) (hbase : base ≤ w.heap.size) :
    ∃ v' w', (Builtin.append_ #[35, 35] ty #[v, u]).run Try.prog w = .ok v' w' ∧ MineN w' base v' (rows ++ more) ∧ w.grownBy w' v.ownBlock ∧ (v'.ownBlock = v.ownBlock ∨ v'.ownBlock = some w.heap.size) := by
  obtain ⟨i0, hi, hz0, hz1, hz2⟩ := info_parts row_info
  obtain ⟨vs, hv1, hv2, hv3, hv4⟩ := hown.has
  obtain ⟨us, hu, hu1, hu3, hu4⟩ := hmore.has
  have hut := hu.2
  rcases hut with ⟨rfl, hn⟩ | ⟨g, cap, cur, rfl, hgb, hg, hnc, _, _, htake⟩
  · have hm : more = [] := List.eq_nil_of_length_eq_zero hn
    subst hm
    refine ⟨v, w, ?_, by simpa using hown, ⟨rfl, rfl, rfl, Nat.le_refl _, fun _ _ _ => rfl⟩, .inl rfl⟩
    rcases hv1.2 with ⟨rfl, _⟩ | ⟨g, cap, cur, rfl, _, _, hnc, _⟩
    · simp [Builtin.append_, run_underlying Try.underlying35, sizeOf, typeInfo, hi, Builtin.lenOf, Builtin.firstCells]
    · simp [Builtin.append_, run_underlying Try.underlying35, sizeOf, typeInfo, hi, Builtin.lenOf, Builtin.firstCells, hnc, storeCells]
  · have hcells : ∀ j x, us[j]? = some x → w.cell? ((⟨g, 0, none⟩ : Addr).add j) = some x := by
      intro j x hx
      have hj : j < more.length := by
        have := (List.getElem?_eq_some_iff.1 hx).1
        rwa [hu1.1] at this
      rw [addr_add, Nat.zero_add, cell_of_row w g j cur _ _ hg, ← hx, ← htake, List.getElem?_take, if_pos (by omega)]
      simp
    obtain ⟨v', w', h1, h2, h3, _, h5⟩ := run_append_own_at (P := Try.prog) w base 35 ty 22 i0 (.slice none 0 0) 1 24 Try.underlying35 hi hz0 hz1 hz2 rfl (by omega) v rows.length vs hv1 ⟨g, 0, none⟩ more.length cap us (by rw [hu1.1, Nat.mul_one]) hcells hu1.one
      (by unfold maxLen; omega) (by omega) hbase
    have hfu : Far us v.ownBlock := fun i b o n c' hx hn e' => by
      have h6 := hu4 i b o n c' hx hn
      have h7 := hvb b e'.symm
      omega
    refine ⟨v', w', h1, ⟨vs ++ us, by rw [List.length_append]; exact h2, (hv2.append hu1).keep h3 ?_, ?_, ?_⟩, h3, h5⟩
    · intro i b o n c' hx hn
      by_cases hl : i < vs.length
      · rw [List.getElem?_append_left hl] at hx
        exact hv3 i b o n c' hx hn
      · rw [List.getElem?_append_right (by omega)] at hx
        exact hfu _ b o n c' hx hn
    · intro i b o n c' hx hn
      rcases h5 with e | e
      · rw [e]
        by_cases hl : i < vs.length
        · rw [List.getElem?_append_left hl] at hx
          exact hv3 i b o n c' hx hn
        · rw [List.getElem?_append_right (by omega)] at hx
          exact hfu _ b o n c' hx hn
      · rw [e]
        have hb : b < w.heap.size := (hv2.append hu1).lt hx hn
        exact fun e' => by injection e' with e'; omega
    · intro i b o n c' hx hn
      by_cases hl : i < vs.length
      · rw [List.getElem?_append_left hl] at hx
        exact hv4 i b o n c' hx hn
      · rw [List.getElem?_append_right (by omega)] at hx
        exact Nat.le_trans hb (hu4 _ b o n c' hx hn)
/-- At the operation, for the walk. -/
theorem wpList_append_rowsN {ops : Array Oper} {rest : List Oper} {o : Oper} {a : Act} {w : World} {Q : Exit → Act → World → Prop} (hgd : o.guard = none) (s x : Operand)
    (ho : o.op = .call { callee := .builtin .append, args := #[s, x], argTypes := #[35, 35] })
    (base base2 : Nat) (v u : Value) (rows more : List (List Nat)) (hs : a.eval s = v) (hx : a.eval x = u) (hown : MineN w base v rows) (hmore : MineN w base2 u more)
    (hvb : ∀ k, v.ownBlock = some k → k < base2) (hb : base ≤ base2) (hlen : rows.length + more.length ≤ 1048576) (hbase : base ≤ w.heap.size)
    (h : ∀ v' w', MineN w' base v' (rows ++ more) → w.grownBy w' v.ownBlock → (v'.ownBlock = v.ownBlock ∨ v'.ownBlock = some w.heap.size) → wpList Try.prog ops Q rest (a.put o.dst v') w') :
    wpList Try.prog ops Q (o :: rest) a w := by
  refine wpList_plain hgd fun K hK => ?_
  obtain ⟨v', w', hrun, h2, h3, h4⟩ := run_append_rowsN w base base2 o.type v u rows more hown hmore hvb hb hlen hbase
  unfold Oper.wp execOp
  simp only [ho, resolve, invoke, builtin, Sem.run_bind, Sem.run_pure, Result.andThen_ok, List.map_toArray, List.map_cons, List.map_nil, hs, hx, hrun]
  exact hK _ _ (h v' w' h2 h3 h4)
end Go.Proofs.Ytfbnckecfapakaa

/-
  What the document's own All of layer 9 does: its rows lie in blocks of their own. Conditions: no more than 2^16 bytes.
-/
namespace Go.Proofs.Ytfbnckecfapakaa
open Go.RowKit
open Pol (co Sm)

def AllN (b : List Nat) (w : World) (e : Ending) (w' : World) : Prop :=
  Ext w w' ∧ ∃ v, e = .returned (.tuple #[v, .int .i64 (((al b).2 : Nat) : Int)]) ∧ MineN w' w.heap.size v (al b).1
set_option maxHeartbeats 1600000 in
set_option maxRecDepth 100000 in
theorem ref9_allN (b : List Nat) (A : Option Addr) (ca : Nat) (w : World) (hr : Rd w A b) (hc : b.length ≤ ca) (hl : b.length ≤ 65536) :
    Calls Try.prog 32 #[.slice A b.length ca] w (AllN b w) := by
  unfold AllN
  have HR := Lib.hid hr
  obtain ⟨L, hL⟩ : ∃ L, b.length = L := ⟨_, rfl⟩
  have HL := Lib.hid hL
  rw [hL] at hc hl ⊢
  have HNX := Lib.hid (fun (l : List Nat) X cx W (h : Rd W X l) hc hl => ref9_next l X cx W h hc hl)
  clear hr hL
  go_enter Try.func32, Try.ntmps32
  go_wp2
  go_loopg [4, 5] L (fun g s4 s5 wx => ∃ (k : Nat) (done : List (List Nat)), k + g = L ∧ s5 = .int .i64 (k : Int) ∧ MineN wx w.heap.size s4 done ∧ al b = (done ++ (al (b.drop k)).1, k + (al (b.drop k)).2) ∧ done.length ≤ k ∧ Ext w wx)
  case atStart => exact ⟨0, [], by omega, rfl, MineN.nil _ _, by simp, Nat.le_refl _, Ext.refl _⟩
  case round =>
    obtain ⟨k, done, hkg, rfl, hm, hal, hdk, hx⟩ := hrel
    obtain ⟨X, s1, hX, _⟩ := run_rest_u8 A L ca k (by omega) hc
    have hrk : Rd wr X (b.drop k) := by
      have h := hX wr b (HR.out.ext hx) HL.out
      rw [← HL.out, tab_drop9 b k (by rw [HL.out]; omega)] at h
      exact h
    have hlk : (b.drop k).length = L - k := by rw [List.length_drop, HL.out]
    have HNK := Lib.hid (show Calls Try.prog 40 #[.slice X (L - k) (ca - k)] wr (NextN (b.drop k) wr) from by
      have h := HNX.out (b.drop k) X (ca - k) wr hrk (by rw [hlk]; omega) (by rw [hlk]; omega)
      rw [hlk] at h
      exact h)
    obtain ⟨Av, cv, rfl, hcv, _⟩ := hm.slice
    have HM := Lib.hid hm
    have HX := Lib.hid hx
    have HAL := Lib.hid hal
    have HSR := Lib.hid hrk.1
    clear hX hrk hlk hm hx hal
    go_wp2_with fail
    refine HNK.out.mono ?_
    rintro e w1 ⟨hx1, hn⟩
    cases hnx : nx (b.drop k) with
    | er q =>
      rw [hnx] at hn
      subst hn
      have hq := (nx_er hnx).1
      have d1 : ((q : Int) == 0) = false := by simp; omega
      have d2 : ((q : Int) != 0) = true := by simp; omega
      have d3 : decide (q = 0) = false := decide_eq_false (by omega)
      have HFIN := Lib.hid (show al b = (done, k) from by rw [HAL.out, al_er hnx]; simp)
      have HX1 := Lib.hid (HX.out.trans hx1)
      have HM1 := Lib.hid (HM.out.ext hx1)
      clear hx1 hnx hq
      go_wp2
      go_ret2
      exact ⟨HX1.out, _, by rw [HFIN.out]; rfl, by rw [HFIN.out]; exact HM1.out⟩
    | ok t r =>
      rw [hnx] at hn
      subst hn
      obtain ⟨hfr, hfo⟩ := nx_ok HSR.out hnx
      obtain ⟨ht1, ht2, _⟩ := fr_drop hfr
      have hlen := congrArg List.length hfr
      rw [List.length_drop, List.length_append, fr_len, HL.out] at hlen
      have HAL2 := Lib.hid (show al b = ((done ++ [t]) ++ (al (b.drop (k + 6 + t.length))).1, (k + 6 + t.length) + (al (b.drop (k + 6 + t.length))).2) from by
        rw [HAL.out, al_ok hnx, ht2]
        simp
        omega)
      have hft := hfo
      unfold FrOk at hft
      obtain ⟨n, hn⟩ : ∃ n, t.length = n := ⟨_, rfl⟩
      rw [hn] at ht1 HAL2 hlen hft ⊢
      obtain ⟨k6, hk6⟩ : ∃ q, k + 6 = q := ⟨_, rfl⟩
      rw [hk6] at ht1 HAL2
      obtain ⟨kn, hkn⟩ : ∃ q, k6 + n = q := ⟨_, rfl⟩
      rw [hkn] at HAL2
      have e1 : (k : Int) + 6 = (k6 : Int) := by omega
      have e2 : (k6 : Int) + (n : Int) = (kn : Int) := by omega
      obtain ⟨Y, s2, hY⟩ := run_cut_u8 A L ca k6 kn (by omega) (by omega)
      have HY := Lib.hid (show ∀ W, Ext w W → Rd W Y t from fun W hW => by
        have h := hY W b (HR.out.ext hW) (by rw [HL.out]; omega)
        rw [show kn - k6 = n by omega, tab_cut b k6 n (by rw [HL.out]; omega), ht1] at h
        exact h)
      rw [show kn - k6 = n by omega] at s2
      have HN := Lib.hid hn
      have HST := Lib.hid (show Sm t from (sm_split9 (a := [t.length / 256, t.length % 256] ++ cbs (crcl t)) (b := t) (by
        have h := (sm_split9 (by rw [← hfr]; exact HSR.out)).1
        exact h)).2)
      have HX1 := Lib.hid (HX.out.trans hx1)
      have HM1 := Lib.hid (HM.out.ext hx1)
      have hb5 : kn ≤ L ∧ k < kn := by omega
      have hdl : (done ++ [t]).length ≤ kn := by rw [List.length_append]; simp; omega
      have HDL := Lib.hid hdl
      clear hnx hfr ht1 ht2 hY hx1 hn hlen hft hk6 hdl
      have HDN := Lib.hid (show done.length ≤ 65536 by omega)
      go_wp2_with (first
        | (at_builtin; refine wpList_append_rd rfl (.tmp 20) (.tmp 28) rfl w1.heap.size (.slice (some ⟨w1.heap.size, 0, none⟩) 0 0) [] t rfl (mine_empty w1) Y n (ca - k6) rfl HN.out (HY.out _ (HX1.out.alloc _)) (by rw [HN.out]; simp; omega) (by simp) ?_; intro v7 w7 hown7 hg7 hat7
           rw [List.nil_append] at hown7
           obtain ⟨B7, c7, hv7, hc7, hr7⟩ := hown7.slice HST.out
           have hx7 : Ext w1 w7 := ((Ext.refl w1).alloc _).more hg7 (fun q hq => by simp [Value.ownBlock] at hq; omega)
           have HRR := Lib.hid (mineN_lit hown7 HST.out hx7.size)
           rw [HN.out] at hv7
           subst hv7
           have HX7 := Lib.hid hx7
           have hs7 := hx7.size
           have hs1 := HX1.out.size
           clear hown7 hg7 hat7 hx7 hr7 hc7)
        | (at_builtin; refine wpList_append_rowsN rfl (.tmp 19) (.tmp 30) rfl w.heap.size w1.heap.size (.slice Av done.length cv) (.slice (some ⟨w7.heap.size, 0, none⟩) 1 1) done [t] rfl rfl (HM1.out.ext (HX7.out.alloc _)) HRR.out (fun q hq => (HM1.out.block q hq).2) hs1 (by have := HDN.out; simp; omega) (by simp; omega) ?_; intro v9 w9 hown9 hg9 hat9
           have HX9 := Lib.hid (((HX1.out.trans HX7.out).alloc (.cells #[.slice B7 n c7] 22)).more hg9 (fun q hq => (HM1.out.block q hq).1))
           have HO9 := Lib.hid hown9
           clear hown9 hg9 hat9))
      go_roundg (L - kn)
      case measure => omega
      case rel => exact ⟨kn, done ++ [t], by omega, rfl, HO9.out, HAL2.out, HDL.out, HX9.out⟩
end Go.Proofs.Ytfbnckecfapakaa

/-
  The document's own log of layer 12 in memory, and what its Open and Sync do. Conditions: no more than 2^16 bytes.
-/
namespace Go.Proofs.Ytfbnckecfapakaa
open Go.RowKit
open Pol (co Sm)

/-- Bytes in a block of Y. -/
structure SY (Y : Nat → Prop) (w : World) (A : Option Addr) (n c : Nat) (l : List Nat) : Prop where
  len : l.length = n
  cap : n ≤ c
  rd : Rd w A l
  own : ∀ b o, A = some ⟨b, o, none⟩ → 0 < l.length → Y b
/-- Rows in blocks of Y. -/
def RY (Y : Nat → Prop) (w : World) (V : Option Addr) (R : List (List Nat)) : Prop :=
  ∀ i, i < R.length → ∃ b o B c, V = some ⟨b, o, none⟩ ∧ Y b ∧ w.cell? ⟨b, o + i, none⟩ = some (.slice B (ro R i).length c) ∧ (ro R i).length ≤ c ∧ Rd w B (ro R i) ∧ ∀ b' o', B = some ⟨b', o', none⟩ → 0 < (ro R i).length → Y b'
theorem RY.reads {Y : Nat → Prop} {w : World} {V : Option Addr} {R : List (List Nat)} (h : RY Y w V R) : RRd w V R := fun i hi => by
  obtain ⟨b, o, B, c, h1, _, h3, h4, h5, _⟩ := h i hi
  exact ⟨b, o, B, c, h1, h3, h4, h5⟩
theorem Rd.stay {Y : Nat → Prop} {w w' : World} {A : Option Addr} {l : List Nat} (h : Rd w A l) (hy : ∀ b o, A = some ⟨b, o, none⟩ → 0 < l.length → Y b) (hk : ∀ b, Y b → w'.heap[b]? = w.heap[b]?) : Rd w' A l := ⟨h.1, fun i hi => by
  obtain ⟨b, o, e, hc⟩ := h.2 i hi
  exact ⟨b, o, e, (World.cell?_of_block (a := ⟨b, o + i, none⟩) (hk b (hy b o e (by omega)))).trans hc⟩⟩
theorem SY.stay {Y : Nat → Prop} {w w' : World} {A : Option Addr} {n c : Nat} {l : List Nat} (h : SY Y w A n c l) (hk : ∀ b, Y b → w'.heap[b]? = w.heap[b]?) : SY Y w' A n c l := ⟨h.len, h.cap, h.rd.stay h.own hk, h.own⟩
theorem SY.mono {Y Y' : Nat → Prop} {w : World} {A : Option Addr} {n c : Nat} {l : List Nat} (h : SY Y w A n c l) (hy : ∀ b, Y b → Y' b) : SY Y' w A n c l := ⟨h.len, h.cap, h.rd, fun b o e h0 => hy b (h.own b o e h0)⟩
theorem RY.stay {Y : Nat → Prop} {w w' : World} {V : Option Addr} {R : List (List Nat)} (h : RY Y w V R) (hk : ∀ b, Y b → w'.heap[b]? = w.heap[b]?) : RY Y w' V R := fun i hi => by
  obtain ⟨b, o, B, c, h1, h2, h3, h4, h5, h6⟩ := h i hi
  exact ⟨b, o, B, c, h1, h2, (World.cell?_of_block (a := ⟨b, o + i, none⟩) (hk b h2)).trans h3, h4, h5.stay h6 hk, h6⟩
theorem RY.mono {Y Y' : Nat → Prop} {w : World} {V : Option Addr} {R : List (List Nat)} (h : RY Y w V R) (hy : ∀ b, Y b → Y' b) : RY Y' w V R := fun i hi => by
  obtain ⟨b, o, B, c, h1, h2, h3, h4, h5, h6⟩ := h i hi
  exact ⟨b, o, B, c, h1, hy b h2, h3, h4, h5, fun b' o' e h0 => hy b' (h6 b' o' e h0)⟩
theorem SY.nil (Y : Nat → Prop) (w : World) : SY Y w none 0 0 [] := ⟨rfl, Nat.le_refl _, Rd.nil _ _, fun b o e => by cases e⟩
theorem St.sy {base : Nat} {w : World} {A : Option Addr} {n c : Nat} {l : List Nat} (h : St base w A n c l) {Y : Nat → Prop} (hy : ∀ b, base ≤ b → b < w.heap.size → Y b) : SY Y w A n c l := ⟨h.len, h.cap, h.rd, fun b o e h0 => by
  obtain ⟨b', o', e', hc⟩ := h.rd.2 0 h0
  rw [e] at e'
  injection e' with e'
  injection e' with e1 e2
  subst e1
  exact hy b (h.own b o e h0) (block_lt_of_cell hc)⟩
theorem MineN.ry {base : Nat} {w : World} {V : Option Addr} {n c : Nat} {R : List (List Nat)} (h : MineN w base (.slice V n c) R) {Y : Nat → Prop} (hy : ∀ b, base ≤ b → b < w.heap.size → Y b) : RY Y w V R := by
  obtain ⟨vs, hown, hv, _, hn⟩ := h.has
  rcases hown.2 with ⟨e, hn0⟩ | ⟨g, cap, cur, e, hb, hg, hnc, _, _, htake⟩
  · have : R = [] := List.eq_nil_of_length_eq_zero hn0
    subst this
    exact fun i hi => absurd hi (by simp)
  · injection e with e1 e2 e3
    subst e1
    intro i hi
    obtain ⟨B, c', h1, h2, h3⟩ := hv.2 i hi
    refine ⟨g, 0, B, c', rfl, hy g hb (row_lt hg), ?_, h2, h3, fun b' o' e' h0 => ?_⟩
    · rw [Nat.zero_add, cell_of_row w g i cur _ _ hg, ← h1, ← htake, List.getElem?_take, if_pos (by omega)]
      simp
    · subst e'
      obtain ⟨b2, o2, e2, hc⟩ := h3.2 0 h0
      injection e2 with e2
      injection e2 with e3 e4
      subst e3
      exact hy b' (hn i b' o' _ c' h1 h0) (block_lt_of_cell hc)
theorem SY.ext {Y : Nat → Prop} {w w' : World} {A : Option Addr} {n c : Nat} {l : List Nat} (h : SY Y w A n c l) (hx : Ext w w') : SY Y w' A n c l := ⟨h.len, h.cap, h.rd.ext hx, h.own⟩
theorem RY.ext {Y : Nat → Prop} {w w' : World} {V : Option Addr} {R : List (List Nat)} (h : RY Y w V R) (hx : Ext w w') : RY Y w' V R := fun i hi => by
  obtain ⟨b, o, B, c, h1, h2, h3, h4, h5, h6⟩ := h i hi
  exact ⟨b, o, B, c, h1, h2, hx.at h3, h4, h5.ext hx, h6⟩
/-- The blocks of a log's data. -/
def Dt (Y : Nat → Prop) (σ b : Nat) : Prop := Y b ∧ b ≠ σ
theorem SY.off {Y : Nat → Prop} {σ : Nat} {w w' : World} {A : Option Addr} {n c : Nat} {l : List Nat} (h : SY (Dt Y σ) w A n c l) (ho : Only (fun b => b = σ) w w') (hy : ∀ b, Y b → b < w.heap.size) : SY (Dt Y σ) w' A n c l := h.stay fun b hb => ho.block b (hy b hb.1) hb.2
theorem RY.off {Y : Nat → Prop} {σ : Nat} {w w' : World} {V : Option Addr} {R : List (List Nat)} (h : RY (Dt Y σ) w V R) (ho : Only (fun b => b = σ) w w') (hy : ∀ b, Y b → b < w.heap.size) : RY (Dt Y σ) w' V R := h.stay fun b hb => ho.block b (hy b hb.1) hb.2
/-- The document's log at block σ. -/
def RL (Y : Nat → Prop) (σ : Nat) (w : World) (R : List (List Nat)) (k : Nat) : Prop :=
  ∃ A nf ca B nl cb V n c, w.heap[σ]? = some (.cells #[.slice A nf ca, .slice B nl cb, .slice V n c] 37) ∧ Y σ ∧ SY (Dt Y σ) w A nf ca (fl (R.take k)) ∧ SY (Dt Y σ) w B nl cb (fl (R.drop k)) ∧ R.length = n ∧ n ≤ c ∧ RY (Dt Y σ) w V R ∧ Lok R k
theorem RL.stay {Y : Nat → Prop} {σ : Nat} {w w' : World} {R : List (List Nat)} {k : Nat} (h : RL Y σ w R k) (hk : ∀ b, Y b → w'.heap[b]? = w.heap[b]?) : RL Y σ w' R k := by
  obtain ⟨A, nf, ca, B, nl, cb, V, n, c, h1, h2, h3, h4, h5, h6, h7, h8⟩ := h
  exact ⟨A, nf, ca, B, nl, cb, V, n, c, (hk σ h2).trans h1, h2, h3.stay fun b hb => hk b hb.1, h4.stay fun b hb => hk b hb.1, h5, h6, h7.stay fun b hb => hk b hb.1, h8⟩
theorem RL.mono {Y Y' : Nat → Prop} {σ : Nat} {w : World} {R : List (List Nat)} {k : Nat} (h : RL Y σ w R k) (hy : ∀ b, Y b → Y' b) : RL Y' σ w R k := by
  obtain ⟨A, nf, ca, B, nl, cb, V, n, c, h1, h2, h3, h4, h5, h6, h7, h8⟩ := h
  exact ⟨A, nf, ca, B, nl, cb, V, n, c, h1, hy _ h2, h3.mono fun b hb => ⟨hy b hb.1, hb.2⟩, h4.mono fun b hb => ⟨hy b hb.1, hb.2⟩, h5, h6, h7.mono fun b hb => ⟨hy b hb.1, hb.2⟩, h8⟩
theorem log37_in (a b c : Value) : (Try.prog.info? 37).map (·.size) = some (#[a, b, c] : Array Value).size := by kernel_rfl

set_option maxHeartbeats 1600000 in
set_option maxRecDepth 100000 in
theorem ref12_open {F L : List Nat} {A B : Option Addr} {nf ca nl cb : Nat} (w : World) (hf : F.length = nf) (hl : L.length = nl) (rf : Rd w A F) (rl : Rd w B L) (hs : nf + nl ≤ 65536) :
    Calls Try.prog 12 #[.agg #[.slice A nf ca, .slice B nl cb]] w (fun e w' => Ext w w' ∧ ∃ σ, e = .returned (.pointer (some ⟨σ, 0, none⟩)) ∧ RL (Nw (fun _ => False) w w') σ w' (al (F ++ L)).1 (al (F ++ L)).1.length) := by
  have HX0 := Lib.hid ((Ext.refl w).alloc (.cells #[.slice A nf ca, .slice B nl cb] 24))
  have HT0 := Lib.hid (twoR_of (heap_alloc_new w (.cells #[.slice A nf ca, .slice B nl cb] 24)))
  have HAL := Lib.hid (fun W (hx : Ext w W) => ref12_all (ca := ca) (cb := cb) W hf hl (rf.ext hx) (rl.ext hx) (by omega) (by omega))
  have HSM := Lib.hid (sm12_app rf.1 rl.1)
  have HLEN := Lib.hid (show (F ++ L).length = nf + nl from by rw [List.length_append, hf, hl])
  have HLE := Lib.hid hs
  clear hf hl rf rl hs
  obtain ⟨D, hD⟩ : ∃ D, F ++ L = D := ⟨_, rfl⟩
  rw [hD] at HAL HSM HLEN ⊢
  clear hD
  have HAO := Lib.hid (alOk D HSM.out)
  have HAN := Lib.hid (fun X c W (h : Rd W X D) (hc : D.length ≤ c) => ref9_allN D X c W h hc (by rw [HLEN.out]; exact HLE.out))
  unfold AllN at HAN
  obtain ⟨R, hR⟩ : ∃ R, (al D).1 = R := ⟨_, rfl⟩
  obtain ⟨n, hn⟩ : ∃ n, (al D).2 = n := ⟨_, rfl⟩
  rw [hR, hn] at HAO HAN
  rw [hR]
  obtain ⟨N, hN⟩ : ∃ N, nf + nl = N := ⟨_, rfl⟩
  rw [HLEN.out, hN] at HAN
  have HLN := Lib.hid (HLEN.out.trans hN)
  clear hR hn hN
  obtain ⟨k0, k1⟩ := HT0.out
  go_enter Try.func12, Try.ntmps12
  go_wp2_with fail
  clear k0 k1
  refine (HAL.out _ HX0.out).mono ?_
  rintro e w1 ⟨hx1, v1, rfl, hm1⟩
  obtain ⟨A1, n1, c1, ev, hst⟩ := hm1.st HSM.out
  have en : N = n1 := HLN.out.symm.trans hst.len
  subst en; subst ev
  have HX1 := Lib.hid (HX0.out.trans hx1)
  have HT1 := Lib.hid (HT0.out.ext hx1)
  have HA1 := Lib.hid (HAN.out A1 c1 w1 hst.rd hst.cap)
  clear hx1 hm1 hst
  go_wp2_with fail
  refine HA1.out.mono ?_
  rintro e w2 ⟨hx2, v2, rfl, hm2⟩
  obtain ⟨V, cv, ev, hcv, _⟩ := hm2.slice
  subst ev
  have HX2 := Lib.hid (HX1.out.trans hx2)
  have HT2 := Lib.hid (HT1.out.ext hx2)
  have HM2 := Lib.hid (hm2.down (base' := w.heap.size) HX1.out.size)
  have HCV := Lib.hid hcv
  obtain ⟨nr, hnr⟩ : ∃ m, R.length = m := ⟨_, rfl⟩
  rw [hnr] at HM2 HCV ⊢
  have HNR := Lib.hid hnr
  have hxe := (Ext.refl w2).alloc (.cells #[] 5)
  have HXE := Lib.hid hxe
  have HME := Lib.hid (mine_empty w2)
  obtain ⟨k0, k1⟩ := HT2.out.ext hxe
  clear hx2 hm2 hcv hnr hxe
  go_wp2_with fail
  clear k0 k1
  refine (HAL.out _ (HX2.out.trans HXE.out)).mono ?_
  rintro e w3 ⟨hx3, v3, rfl, hm3⟩
  obtain ⟨A3, n3, c3, ev, hst⟩ := hm3.st HSM.out
  have en : N = n3 := HLN.out.symm.trans hst.len
  subst en; subst ev
  have hnN : n ≤ N := by have := HAO.out.le; have := HLN.out; omega
  have hsl := run_to_u8 A3 N c3 n (by have := hst.cap; omega)
  have HRD3 := Lib.hid (hst.rd.take n)
  have HTL := Lib.hid (show (D.take n).length = n from by rw [List.length_take, HLN.out]; omega)
  have HST := Lib.hid (sm12_take HSM.out n)
  have HME3 := Lib.hid (mine_ext HME.out hx3)
  have HX3 := Lib.hid (show Ext w2 w3 from HXE.out.trans hx3)
  clear hx3 hm3 hst
  go_wp2_with (at_builtin; refine wpList_append_new rfl (.tmp 11) (.tmp 15) rfl w2.heap.size w2.heap.size (D.take n) rfl HME3.out A3 n c3 rfl HTL.out HRD3.out (by rw [HTL.out]; have := HLE.out; have := HLN.out; have := HLEN.out; omega) HX3.out.size ?_; intro v4 w4 hm4 hx4 _; obtain ⟨A4, n4, c4, ev, hst⟩ := hm4.st HST.out; have en := HTL.out.symm.trans hst.len; subst en; subst ev; have HX4 := Lib.hid (show Ext w2 w4 from HX3.out.trans hx4); have HS4 := Lib.hid hst; clear hm4 hx4 hst)
  go_ret
  have hx5 : Ext w4 (w4.alloc (.cells #[.slice A4 n c4, .slice none 0 0, .slice V nr cv] 37)) := (Ext.refl w4).alloc _
  have hb5 := heap_alloc_new w4 (.cells #[.slice A4 n c4, .slice none 0 0, .slice V nr cv] 37)
  have hs5 : (w4.alloc (.cells #[.slice A4 n c4, .slice none 0 0, .slice V nr cv] 37)).heap.size = w4.heap.size + 1 := by simp
  have hx24 := HX2.out.trans HX4.out
  have hflat := HAO.out.flat
  refine ⟨hx24.trans hx5, w4.heap.size, rfl, A4, n, c4, none, 0, 0, V, nr, cv, hb5, .inr ⟨hx24.size, by rw [hs5]; omega⟩, ?_, ?_, HNR.out, HCV.out, ?_, ⟨HAO.out.ok, Nat.le_refl _⟩⟩
  · rw [List.take_length, hflat]
    exact (HS4.out.sy (Y := Dt (Nw (fun _ => False) w (w4.alloc (.cells #[.slice A4 n c4, .slice none 0 0, .slice V nr cv] 37))) w4.heap.size) fun b h1 h2 => ⟨.inr ⟨Nat.le_trans HX2.out.size h1, by rw [hs5]; omega⟩, by omega⟩).ext hx5
  · rw [List.drop_length]
    exact SY.nil _ _
  · exact ((HM2.out.ext HX4.out).ry (Y := Dt (Nw (fun _ => False) w (w4.alloc (.cells #[.slice A4 n c4, .slice none 0 0, .slice V nr cv] 37))) w4.heap.size) fun b h1 h2 => ⟨.inr ⟨h1, by rw [hs5]; omega⟩, by omega⟩).ext hx5

set_option maxHeartbeats 1600000 in
set_option maxRecDepth 100000 in
theorem ref12_sync {Y : Nat → Prop} {σ : Nat} {R : List (List Nat)} {k : Nat} (w : World) (h : RL Y σ w R k) (hy : ∀ b, Y b → b < w.heap.size) (hs : (fl R).length ≤ 65536) :
    Calls Try.prog 20 #[.pointer (some ⟨σ, 0, none⟩)] w (fun e w' => e = .returned (.tuple #[]) ∧ Only (fun b => b = σ) w w' ∧ RL (Nw Y w w') σ w' R R.length) := by
  obtain ⟨A, nf, ca, B, nl, cb, V, n, c, hrow, hY, hF, hL, hn, hc, hV, hok⟩ := h
  have hp := parts12_le R k
  have HAL := Lib.hid (ref12_all (ca := ca) (cb := cb) w hF.len hL.len hF.rd hL.rd (by have := hF.len; omega) (by have := hL.len; omega))
  rw [parts12] at HAL
  have HROW := Lib.hid hrow
  have HRY := Lib.hid hV
  have HREST := Lib.hid (And.intro hY (And.intro hn (And.intro hc hok)))
  have HYB := Lib.hid hy
  have HSM := Lib.hid (show Sm (fl R) from fl_sm hok.ok)
  have c0 : w.cell? ⟨σ, 0, none⟩ = some (.slice A nf ca) := by rw [cell_of_row w σ 0 _ _ _ hrow]; rfl
  have c1 : w.cell? ⟨σ, 1, none⟩ = some (.slice B nl cb) := by rw [cell_of_row w σ 1 _ _ _ hrow]; rfl
  clear hrow hY hF hL hn hc hV hok hp hs hy
  go_enter Try.func20, Try.ntmps20
  go_wp2_with fail
  refine HAL.out.mono ?_
  rintro e w1 ⟨hx1, v1, rfl, hm1⟩
  obtain ⟨A1, n1, cc1, ev, hst⟩ := hm1.st HSM.out
  subst ev
  have HS1 := Lib.hid hst
  have HX1 := Lib.hid hx1
  have hr1 := hx1.row HROW.out
  have HR1 := Lib.hid hr1
  have c0 : w1.cell? ⟨σ, 0, none⟩ = some (.slice A nf ca) := by rw [cell_of_row w1 σ 0 _ _ _ hr1]; rfl
  have c1 : w1.cell? ⟨σ, 1, none⟩ = some (.slice B nl cb) := by rw [cell_of_row w1 σ 1 _ _ _ hr1]; rfl
  have z0 := frozen_of_row w1 σ 0 _ _ hr1
  have z1 := frozen_of_row w1 σ 1 _ _ hr1
  clear hx1 hm1 hst hr1
  go_wp2
  refine bodyPost_end (results_none rfl _ _ _) rfl ?_
  obtain ⟨hY, hn, hc, hok⟩ := HREST.out
  have ho : Only (fun b => b = σ) w1 ((w1.setCell ⟨σ, 0, none⟩ (.slice A1 n1 cc1)).setCell ⟨σ, 1, none⟩ (.slice none 0 0)) := (Only.of_grown (grown_set9 w1 σ 0 _) (fun k e => by injection e with e; exact e.symm)).trans (Only.of_grown (grown_set9 _ σ 1 _) (fun k e => by injection e with e; exact e.symm))
  have hsz := ho.size
  have hσ := HYB.out σ hY
  refine ⟨rfl, (Only.of_ext HX1.out).trans ho, A1, n1, cc1, none, 0, 0, V, n, c, heap_setCell_same _ σ 1 _ _ (.slice none 0 0) (heap_setCell_same w1 σ 0 _ _ (.slice A1 n1 cc1) HR1.out), .inl hY, ?_, ?_, hn, hc, ?_, ⟨hok.ok, Nat.le_refl _⟩⟩
  · rw [List.take_length]
    have h1 := (HS1.out.sy (Y := Dt (Nw Y w w1) σ) fun b h1 h2 => ⟨.inr ⟨h1, h2⟩, by omega⟩).off ho (fun b hb => by
      rcases hb with e | e
      · exact Nat.lt_of_lt_of_le (HYB.out b e) HX1.out.size
      · exact e.2)
    exact h1.mono fun b hb => ⟨hb.1.imp id fun h => ⟨h.1, Nat.lt_of_lt_of_le h.2 hsz⟩, hb.2⟩
  · rw [List.drop_length]
    exact SY.nil _ _
  · exact ((HRY.out.ext HX1.out).off ho (fun b hb => Nat.lt_of_lt_of_le (HYB.out b hb) HX1.out.size)).mono fun b hb => ⟨.inl hb.1, hb.2⟩
end Go.Proofs.Ytfbnckecfapakaa

/-
  Slices of rows of a call's own, whose rows lie in blocks of which something is known. Conditions: lengths up to 2^20.
-/
namespace Go.Proofs.Ytfbnckecfapakaa
open Go.RowKit
open Pol (co Sm)

theorem RY.within {P : Nat → Prop} {w : World} {A : Option Addr} {rows : List (List Nat)} (h : RY P w A rows) : ∀ i, i < rows.length → ∀ b o n c, (∃ b' o', A = some ⟨b', o', none⟩ ∧ w.cell? ⟨b', o' + i, none⟩ = some (.slice (some ⟨b, o, none⟩) n c)) → 0 < n → P b := fun i hi b o n c ⟨b', o', e, hc⟩ h0 => by
  obtain ⟨b2, o2, B, c2, h1, _, h3, _, _, h6⟩ := h i hi
  rw [e] at h1
  injection h1 with h1
  injection h1 with e1 e2
  subst e1; subst e2
  rw [hc] at h3
  injection h3 with h3
  injection h3 with e3 e4 e5
  exact h6 b o e3.symm (by omega)
theorem RY.lt {P : Nat → Prop} {w : World} {A : Option Addr} {rows : List (List Nat)} (h : RY P w A rows) : RY (fun b => P b ∧ b < w.heap.size) w A rows := fun i hi => by
  obtain ⟨b, o, B, c, h1, h2, h3, h4, h5, h6⟩ := h i hi
  refine ⟨b, o, B, c, h1, ⟨h2, block_lt_of_cell h3⟩, h3, h4, h5, fun b' o' e h0 => ⟨h6 b' o' e h0, ?_⟩⟩
  obtain ⟨b2, o2, e2, hc⟩ := h5.2 0 h0
  rw [e] at e2
  injection e2 with e2
  injection e2 with e3 e4
  subst e3
  exact block_lt_of_cell hc
structure MineP (w : World) (base : Nat) (v : Value) (rows : List (List Nat)) (P : Nat → Prop) : Prop where
  has : ∃ vs, w.ownsRow base 22 1 v rows.length vs ∧ RowsV w vs rows ∧ Far vs v.ownBlock ∧ ∀ (i b o n c : Nat), vs[i]? = some (.slice (some ⟨b, o, none⟩) n c) → 0 < n → P b
theorem mineP_empty (w : World) (P : Nat → Prop) : MineP (w.alloc (.cells #[] 22)) w.heap.size (.slice (some ⟨w.heap.size, 0, none⟩) 0 0) [] P :=
  ⟨[], World.ownsRow_lit w #[] 0 (Nat.le_refl _) (Nat.zero_le _) rfl, ⟨rfl, fun i hi => absurd hi (by simp)⟩, fun i b o n c h => by simp at h, fun i b o n c h => by simp at h⟩
theorem MineP.slice {w : World} {base : Nat} {v : Value} {rows : List (List Nat)} {P : Nat → Prop} (h : MineP w base v rows P) : ∃ A c, v = .slice A rows.length c ∧ rows.length ≤ c := by
  obtain ⟨vs, hown, _⟩ := h.has
  rcases hown.2 with ⟨rfl, hn⟩ | ⟨g, cap, cur, rfl, _, _, hnc, _⟩
  · exact ⟨none, 0, by rw [hn], by omega⟩
  · exact ⟨_, cap, rfl, hnc⟩
theorem MineP.block {w : World} {base : Nat} {v : Value} {rows : List (List Nat)} {P : Nat → Prop} (h : MineP w base v rows P) : ∀ k, v.ownBlock = some k → base ≤ k ∧ k < w.heap.size := fun k hk => by
  obtain ⟨vs, hown, _⟩ := h.has
  exact World.ownsRow.lt hown k hk
theorem MineP.ext {w w' : World} {base : Nat} {v : Value} {rows : List (List Nat)} {P : Nat → Prop} (h : MineP w base v rows P) (hx : Ext w w') : MineP w' base v rows P := by
  obtain ⟨vs, hown, hv, hf, hp⟩ := h.has
  refine ⟨vs, World.ownsRow.kept hown (row := none) ⟨hx.below.os, hx.below.tape, hx.below.output, hx.below.size, fun k hk _ => hx.below.block k hk⟩ (by
    cases hb : v.ownBlock with
    | none => exact .inl rfl
    | some k => exact .inr (by simp)), hv.ext hx, hf, hp⟩
theorem MineP.ry {base : Nat} {w : World} {V : Option Addr} {n c : Nat} {R : List (List Nat)} {P Y : Nat → Prop} (h : MineP w base (.slice V n c) R P) (hy : ∀ b, base ≤ b → b < w.heap.size → Y b) (hp : ∀ b, P b → Y b) : RY Y w V R := by
  obtain ⟨vs, hown, hv, _, hn⟩ := h.has
  rcases hown.2 with ⟨e, hn0⟩ | ⟨g, cap, cur, e, hb, hg, hnc, _, _, htake⟩
  · have : R = [] := List.eq_nil_of_length_eq_zero hn0
    subst this
    exact fun i hi => absurd hi (by simp)
  · injection e with e1 e2 e3
    subst e1
    intro i hi
    obtain ⟨B, c', h1, h2, h3⟩ := hv.2 i hi
    refine ⟨g, 0, B, c', rfl, hy g hb (row_lt hg), ?_, h2, h3, fun b' o' e' h0 => ?_⟩
    · rw [Nat.zero_add, cell_of_row w g i cur _ _ hg, ← h1, ← htake, List.getElem?_take, if_pos (by omega)]
      simp
    · subst e'
      exact hp b' (hn i b' o' _ c' h1 h0)
/-- A literal of one row. -/
theorem ry_one {w : World} {A : Option Addr} {n c : Nat} {l : List Nat} {P : Nat → Prop} (hn : l.length = n) (hc : n ≤ c) (hr : Rd w A l) (hp : ∀ b o, A = some ⟨b, o, none⟩ → 0 < l.length → P b) (hs : P w.heap.size) : RY P (w.alloc (.cells #[.slice A n c] 22)) (some ⟨w.heap.size, 0, none⟩) [l] := fun i hi => by
  have : i = 0 := by simpa using hi
  subst this
  subst hn
  refine ⟨w.heap.size, 0, A, c, rfl, hs, ?_, hc, hr.ext ((Ext.refl w).alloc _), hp⟩
  rw [cell_of_row _ _ _ _ _ _ (heap_alloc_new w _)]
  rfl
set_option maxRecDepth 100000 in
theorem run_append_rowsP {P : Nat → Prop} (w : World) (base : Nat) (ty : TypeId) (v : Value) (rows more : List (List Nat)) (hown : MineP w base v rows P) (A : Option Addr) (c : Nat) (P' : Nat → Prop) (hry : RY P' w A more) (hpp : ∀ b, P' b → P b) (hpf : ∀ b, P' b → some b ≠ v.ownBlock)
    (hlen : rows.length + more.length ≤ 1048576) (hbase : base ≤ w.heap.size) :
    ∃ v' w', (Builtin.append_ #[35, 35] ty #[v, .slice A more.length c]).run Try.prog w = .ok v' w' ∧ MineP w' base v' (rows ++ more) P ∧ w.grownBy w' v.ownBlock ∧ (v'.ownBlock = v.ownBlock ∨ v'.ownBlock = some w.heap.size) := by
  obtain ⟨i0, hi, hz0, hz1, hz2⟩ := info_parts row_info
  have hr := hry.reads
  have hin := hry.within
  have hfar : ∀ i, i < more.length → ∀ b o n c, (∃ b' o', A = some ⟨b', o', none⟩ ∧ w.cell? ⟨b', o' + i, none⟩ = some (.slice (some ⟨b, o, none⟩) n c)) → 0 < n → some b ≠ v.ownBlock := fun i hi b o n c h h0 => hpf b (hin i hi b o n c h h0)
  obtain ⟨vs, hv1, hv2, hv3, hv4⟩ := hown.has
  obtain ⟨us, hu1, hu2⟩ := hr.vals
  cases A with
  | none =>
    have hm : more = [] := by
      rcases Nat.eq_zero_or_pos more.length with h | h
      · exact List.eq_nil_of_length_eq_zero h
      · obtain ⟨_, _, _, _, e, _⟩ := hr 0 h; cases e
    subst hm
    refine ⟨v, w, ?_, by simpa using hown, ⟨rfl, rfl, rfl, Nat.le_refl _, fun _ _ _ => rfl⟩, .inl rfl⟩
    rcases hv1.2 with ⟨rfl, _⟩ | ⟨g, cap, cur, rfl, _, _, hnc, _⟩
    · simp [Builtin.append_, run_underlying Try.underlying35, sizeOf, typeInfo, hi, Builtin.lenOf, Builtin.firstCells]
    · simp [Builtin.append_, run_underlying Try.underlying35, sizeOf, typeInfo, hi, Builtin.lenOf, Builtin.firstCells, hnc, storeCells]
  | some a =>
    have hcells : ∀ j u, us[j]? = some u → w.cell? (a.add j) = some u := by
      intro j u hu
      obtain ⟨b, o, e, hc⟩ := hu2 j u hu
      injection e with e
      subst e
      rw [addr_add]
      exact hc
    obtain ⟨v', w', h1, h2, h3, _, h5⟩ := run_append_own_at (P := Try.prog) w base 35 ty 22 i0 (.slice none 0 0) 1 24 Try.underlying35 hi hz0 hz1 hz2 rfl (by omega) v rows.length vs hv1 a more.length c us (by rw [hu1.1, Nat.mul_one]) hcells hu1.one
      (by unfold maxLen; omega) (by omega) hbase
    have hfu : Far us v.ownBlock := fun i b o n c' hu hn => by
      obtain ⟨b', o', e, hc⟩ := hu2 i _ hu
      exact hfar i (by rw [← hu1.1]; exact (List.getElem?_eq_some_iff.1 hu).1) b o n c' ⟨b', o', e, hc⟩ hn
    refine ⟨v', w', h1, ⟨vs ++ us, by rw [List.length_append]; exact h2, (hv2.append hu1).keep h3 ?_, ?_, ?_⟩, h3, h5⟩
    · intro i b o n c' hx hn
      by_cases hl : i < vs.length
      · rw [List.getElem?_append_left hl] at hx
        exact hv3 i b o n c' hx hn
      · rw [List.getElem?_append_right (by omega)] at hx
        exact hfu _ b o n c' hx hn
    · intro i b o n c' hx hn
      rcases h5 with e | e
      · rw [e]
        by_cases hl : i < vs.length
        · rw [List.getElem?_append_left hl] at hx
          exact hv3 i b o n c' hx hn
        · rw [List.getElem?_append_right (by omega)] at hx
          exact hfu _ b o n c' hx hn
      · rw [e]
        have hb : b < w.heap.size := (hv2.append hu1).lt hx hn
        exact fun e' => by injection e' with e'; omega
    · intro i b o n c' hx hn
      by_cases hl : i < vs.length
      · rw [List.getElem?_append_left hl] at hx
        exact hv4 i b o n c' hx hn
      · rw [List.getElem?_append_right (by omega)] at hx
        obtain ⟨b', o', e, hc⟩ := hu2 _ _ hx
        exact hpp b (hin _ (by rw [← hu1.1]; exact (List.getElem?_eq_some_iff.1 hx).1) b o n c' ⟨b', o', e, hc⟩ hn)
/-- At the operation, for the walk. -/
theorem wpList_append_rowsP {P : Nat → Prop} {ops : Array Oper} {rest : List Oper} {o : Oper} {a : Act} {w : World} {Q : Exit → Act → World → Prop} (hgd : o.guard = none) (s x : Operand)
    (ho : o.op = .call { callee := .builtin .append, args := #[s, x], argTypes := #[35, 35] })
    (base : Nat) (v : Value) (rows more : List (List Nat)) (hs : a.eval s = v) (hown : MineP w base v rows P) (A : Option Addr) (n c : Nat) (hx : a.eval x = .slice A n c) (hn : more.length = n) (P' : Nat → Prop) (hry : RY P' w A more) (hpp : ∀ b, P' b → P b) (hpf : ∀ b, P' b → some b ≠ v.ownBlock)
    (hlen : rows.length + more.length ≤ 1048576) (hbase : base ≤ w.heap.size)
    (h : ∀ v' w', MineP w' base v' (rows ++ more) P → w.grownBy w' v.ownBlock → (v'.ownBlock = v.ownBlock ∨ v'.ownBlock = some w.heap.size) → wpList Try.prog ops Q rest (a.put o.dst v') w') :
    wpList Try.prog ops Q (o :: rest) a w := by
  subst hn
  refine wpList_plain hgd fun K hK => ?_
  obtain ⟨v', w', hrun, h2, h3, h4⟩ := run_append_rowsP w base o.type v rows more hown A c P' hry hpp hpf hlen hbase
  unfold Oper.wp execOp
  simp only [ho, resolve, invoke, builtin, Sem.run_bind, Sem.run_pure, Result.andThen_ok, List.map_toArray, List.map_cons, List.map_nil, hs, hx, hrun]
  exact hK _ _ (h v' w' h2 h3 h4)
end Go.Proofs.Ytfbnckecfapakaa

/-
  What the document's own Append, Compact and Fast of layer 12 do. Conditions: no more than 2^16 bytes.
-/
namespace Go.Proofs.Ytfbnckecfapakaa
open Go.RowKit
open Pol (co Sm)

theorem ro_last (R : List (List Nat)) (t : List Nat) : (R ++ [t]).length = R.length + 1 := by simp
theorem log37_at {w : World} {σ : Nat} {a b c : Value} (h : w.heap[σ]? = some (.cells #[a, b, c] 37)) : w.cell? ⟨σ, 0, none⟩ = some a ∧ w.cell? ⟨σ, 1, none⟩ = some b ∧ w.cell? ⟨σ, 2, none⟩ = some c ∧ ∀ i, w.frozen? ⟨σ, i, none⟩ = false :=
  ⟨by rw [cell_of_row w σ 0 _ _ _ h]; rfl, by rw [cell_of_row w σ 1 _ _ _ h]; rfl, by rw [cell_of_row w σ 2 _ _ _ h]; rfl, fun i => frozen_of_row w σ i _ _ h⟩
set_option maxHeartbeats 1600000 in
set_option maxRecDepth 100000 in
theorem ref12_append {Y : Nat → Prop} {σ : Nat} {R : List (List Nat)} {k : Nat} {t : List Nat} {X : Option Addr} {m cx : Nat} (w : World) (h : RL Y σ w R k) (hy : ∀ b, Y b → b < w.heap.size) (hs : (fl R).length ≤ 65536) (ht : t.length = m) (hr : Rd w X t) (hc : m ≤ cx) (hm : m ≤ 65536) (hX : ∀ b o, X = some ⟨b, o, none⟩ → 0 < t.length → b ≠ σ) :
    Calls Try.prog 18 #[.pointer (some ⟨σ, 0, none⟩), .slice X m cx] w (fun e w' => Only (fun b => b = σ) w w' ∧ ((FrOk t ∧ e = .returned (.int .i64 0) ∧ RL (Nw Y w w') σ w' (R ++ [t]) k) ∨ (¬ FrOk t ∧ e = .returned (.int .i64 1) ∧ RL (Nw Y w w') σ w' R k))) := by
  have HF := Lib.hid (by have h0 := ref9_frame t X cx w hr (by omega); rw [ht] at h0; exact h0 : Calls Try.prog 36 #[.slice X m cx] w (FrameE .i64 t w))
  unfold FrameE at HF
  have HI := Lib.hid h
  obtain ⟨A, nf, ca, B, nl, cb, V, n, c, hrow, hY, hFF, hL, hn, hcv, hV, hok⟩ := h
  have HROW := Lib.hid hrow
  have HDF := Lib.hid hFF
  have HDL := Lib.hid hL
  have HRY := Lib.hid hV
  have HRE := Lib.hid (And.intro hY (And.intro hn (And.intro hcv hok)))
  have HYB := Lib.hid hy
  have HT := Lib.hid ht
  have HRT := Lib.hid hr
  have HCX := Lib.hid (And.intro hc hm)
  have HPL := Lib.hid (And.intro hs (And.intro (parts12_le R k) (show R.length ≤ (fl R).length from by
    have := fl_len12 R
    omega)))
  have HST := Lib.hid hr.1
  have HXN := Lib.hid hX
  clear hrow hY hFF hL hn hcv hV hok hy ht hr hc hm hs hX
  go_enter Try.func18, Try.ntmps18
  go_wp2_with fail
  refine HF.out.mono ?_
  rintro e w1 ⟨hx1, (⟨hfo, v, rfl, hmf⟩ | ⟨hno, Bf, cf, rfl⟩)⟩
  · have HSF := Lib.hid (fr_sm HST.out hfo)
    obtain ⟨Af, nff, cff, ev, hsf⟩ := hmf.st HSF.out
    subst ev
    have HFO := Lib.hid hfo
    have HX1 := Lib.hid hx1
    have HSTF := Lib.hid hsf
    have HR1 := Lib.hid (hx1.row HROW.out)
    have hxa := (Ext.refl w1).alloc (.cells #[] 5)
    have HXA := Lib.hid hxa
    have HME := Lib.hid (mine_empty w1)
    obtain ⟨_, k1, _, _⟩ := log37_at (hxa.row HR1.out)
    have HB1 := Lib.hid (HDL.out.ext hx1)
    have hσ1 : σ < w1.heap.size := row_lt HR1.out
    have HL1 := Lib.hid (show nl ≤ 65536 ∧ (fr t).length ≤ 70000 from ⟨by rw [← HDL.out.len]; have := HPL.out; omega, by rw [fr_len]; have := HFO.out.2; omega⟩)
    clear hx1 hfo hmf hsf hxa
    go_upto_region 4 with (first
      | (at_builtin; refine wpList_append_new rfl (.tmp 15) (.tmp 20) rfl w1.heap.size w1.heap.size (fl (R.drop k)) rfl HME.out B nl cb rfl HB1.out.len (HB1.out.rd.ext HXA.out) (by rw [HB1.out.len]; have := HL1.out; omega) HXA.out.size ?_; intro v2 w2 hm2 hx2 _; obtain ⟨A2, n2, c2, ev, hst⟩ := hm2.st HB1.out.rd.1; have en := HB1.out.len.symm.trans hst.len; subst en; subst ev; have HM2 := Lib.hid hm2; have HX2 := Lib.hid (show Ext w1 w2 from HXA.out.trans hx2); clear hm2 hx2 hst)
      | (at_builtin; refine wpList_append_rd rfl (.tmp 21) (.tmp 22) rfl w1.heap.size (.slice A2 nl c2) (fl (R.drop k)) (fr t) rfl HM2.out Af nff cff rfl HSTF.out.len (HSTF.out.rd.ext HX2.out) (by rw [HB1.out.len]; have := HL1.out; omega) HX2.out.size ?_; intro v3 w3 hm3 hg3 _; have hx3 : Ext w1 w3 := HX2.out.more hg3 (fun q hq => (HM2.out.block q hq).1); obtain ⟨A3, n3, c3, ev, hst⟩ := hm3.st (sm12_app HB1.out.rd.1 HSF.out); subst ev; have HX3 := Lib.hid hx3; have HST3 := Lib.hid hst; obtain ⟨_, k3, k4, kz⟩ := log37_at (hx3.row HR1.out); have z1 := kz 1; have hσ3 : σ < w3.heap.size := Nat.lt_of_lt_of_le hσ1 hx3.size; clear hm3 hg3 hx3 hst kz))
    have hr4 := heap_setCell_same w3 σ 1 _ _ (.slice A3 n3 c3) (HX3.out.row HR1.out)
    have ho4 : Only (fun b => b = σ) w3 (w3.setCell ⟨σ, 1, none⟩ (.slice A3 n3 c3)) := Only.of_grown (grown_set9 w3 σ 1 _) (fun k e => by injection e with e; exact e.symm)
    have HO4 := Lib.hid ((Only.of_ext (X := fun b => b = σ) (HX1.out.trans HX3.out)).trans ho4)
    have HR4 := Lib.hid (show (w3.setCell ⟨σ, 1, none⟩ (.slice A3 n3 c3)).heap[σ]? = some (.cells #[.slice A nf ca, .slice A3 n3 c3, .slice V n c] 37) from hr4)
    have HS4 := Lib.hid (show w1.heap.size ≤ (w3.setCell ⟨σ, 1, none⟩ (.slice A3 n3 c3)).heap.size from Nat.le_trans HX3.out.size ho4.size)
    have HLO := Lib.hid (show SY (fun b => w1.heap.size ≤ b) (w3.setCell ⟨σ, 1, none⟩ (.slice A3 n3 c3)) A3 n3 c3 (fl (R.drop k) ++ fr t) from ⟨HST3.out.len, HST3.out.cap, HST3.out.rd.keep (grown_set9 w3 σ 1 _) (fun b o e h0 e2 => by injection e2 with e2; have := HST3.out.own b o e h0; omega), HST3.out.own⟩)
    have HRT4 := Lib.hid (show Rd (w3.setCell ⟨σ, 1, none⟩ (.slice A3 n3 c3)) X t from (HRT.out.ext (HX1.out.trans HX3.out)).keep (grown_set9 w3 σ 1 _) (fun b o e h0 e2 => by injection e2 with e2; exact HXN.out b o e h0 e2))
    have HRY4 := Lib.hid ((HRY.out.ext (HX1.out.trans HX3.out)).off ho4 (fun b hb => Nat.lt_of_lt_of_le (HYB.out b hb) (HX1.out.trans HX3.out).size))
    have HDF4 := Lib.hid ((HDF.out.ext (HX1.out.trans HX3.out)).off ho4 (fun b hb => Nat.lt_of_lt_of_le (HYB.out b hb) (HX1.out.trans HX3.out).size))
    clear k3 k4 z1 hσ3 hr4 ho4 k1
    generalize w3.setCell ⟨σ, 1, none⟩ (.slice A3 n3 c3) = w4 at HO4 HR4 HS4 HLO HRT4 HRY4 HDF4 ⊢
    have hσ4 : σ < w4.heap.size := row_lt HR4.out
    have hxb := (Ext.refl w4).alloc (.cells #[] 22)
    have HXB := Lib.hid hxb
    have HMP := Lib.hid (mineP_empty w4 (fun b => b ≠ σ ∧ (Y b ∨ w.heap.size ≤ b)))
    obtain ⟨_, _, k2, _⟩ := log37_at (hxb.row HR4.out)
    have hrl : R.length = n := HRE.out.2.1
    have HRN := Lib.hid hrl
    have HNS := Lib.hid (show n ≤ 65536 from by have := HPL.out; omega)
    have HWS := Lib.hid (show w.heap.size ≤ w1.heap.size from HX1.out.size)
    clear hxb hrl
    go_wp2_with (first
      | (at_builtin; refine wpList_append_rowsP rfl (.tmp 28) (.tmp 32) rfl w4.heap.size (.slice (some ⟨w4.heap.size, 0, none⟩) 0 0) [] R rfl HMP.out V n c rfl HRN.out (Dt Y σ) (HRY4.out.ext HXB.out) (fun b hb => ⟨hb.2, .inl hb.1⟩) (fun b hb e => by injection e with e; have h9 : b = w4.heap.size := e; have := HYB.out b hb.1; have := HS4.out; have := HWS.out; omega) (by have := HNS.out; rw [HRN.out]; simp; omega) HXB.out.size ?_; intro v5 w5 hm5 hg5 _; rw [List.nil_append] at hm5; have hx5 : Ext w4 w5 := HXB.out.more hg5 (fun q hq => by injection hq with hq; have h9 : w4.heap.size = q := hq; omega); obtain ⟨A5, c5, ev, _⟩ := hm5.slice; rw [HRN.out] at ev; subst ev; have HM5 := Lib.hid hm5; have HX5 := Lib.hid hx5; have HXC := Lib.hid ((Ext.refl w5).alloc (.cells #[] 5)); have HME5 := Lib.hid (mine_empty w5); clear hm5 hg5 hx5)
      | (at_builtin; refine wpList_append_new rfl (.tmp 34) (.tmp 35) rfl w5.heap.size w5.heap.size t rfl HME5.out X m cx rfl HT.out (HRT4.out.ext (HX5.out.trans HXC.out)) (by have := HCX.out; rw [HT.out]; omega) HXC.out.size ?_; intro v6 w6 hm6 hx6 _; obtain ⟨A6, n6, c6, ev, hst⟩ := hm6.st HST.out; have en := HT.out.symm.trans hst.len; subst en; subst ev; have HX6 := Lib.hid (show Ext w5 w6 from HXC.out.trans hx6); have HS6 := Lib.hid hst; have HXD := Lib.hid ((Ext.refl w6).alloc (.cells #[.slice A6 m c6] 22)); clear hm6 hx6 hst)
      | (at_builtin; refine wpList_append_rowsP rfl (.tmp 33) (.tmp 37) rfl w4.heap.size (.slice A5 n c5) R [t] rfl (HM5.out.ext (HX6.out.trans HXD.out)) (some ⟨w6.heap.size, 0, none⟩) 1 1 rfl rfl (fun b => w5.heap.size ≤ b) (ry_one HS6.out.len HS6.out.cap HS6.out.rd HS6.out.own HX6.out.size) (fun b hb => ⟨by have := HX5.out.size; omega, .inr (by have := HX5.out.size; have := HS4.out; have := HWS.out; omega)⟩) (fun b hb e => by have := (HM5.out.block b e.symm).2; omega) (by have := HNS.out; rw [HRN.out]; simp; omega) (Nat.le_trans HX5.out.size (HX6.out.trans HXD.out).size) ?_; intro v7 w7 hm7 hg7 _; have hx7 : Ext w4 w7 := (HX5.out.trans (HX6.out.trans HXD.out)).more hg7 (fun q hq => (HM5.out.block q hq).1); obtain ⟨A7, c7, ev, hc7⟩ := hm7.slice; rw [ro_last, HRN.out] at ev hc7; subst ev; have HM7 := Lib.hid hm7; have HX7 := Lib.hid hx7; have HC7 := Lib.hid hc7; obtain ⟨_, _, k7, kz⟩ := log37_at (hx7.row HR4.out); have z2 := kz 2; clear hm7 hg7 hx7 hc7 kz))
    go_ret
    have ho8 : Only (fun b => b = σ) w7 (w7.setCell ⟨σ, 2, none⟩ (.slice A7 (n + 1) c7)) := Only.of_grown (grown_set9 w7 σ 2 _) (fun k e => by injection e with e; exact e.symm)
    have hr8 := heap_setCell_same w7 σ 2 _ _ (.slice A7 (n + 1) c7) (HX7.out.row HR4.out)
    have hs8 := ho8.size
    have hw7 : w.heap.size ≤ w7.heap.size := Nat.le_trans HWS.out (Nat.le_trans HS4.out HX7.out.size)
    obtain ⟨hY, hn, hcv, hok⟩ := HRE.out
    have hyb : ∀ b, Nw Y w w7 b → b < w7.heap.size := fun b hb => by
      rcases hb with e | e
      · exact Nat.lt_of_lt_of_le (HYB.out b e) hw7
      · exact e.2
    refine ⟨(HO4.out.trans (Only.of_ext HX7.out)).trans ho8, .inl ⟨HFO.out, rfl, A, nf, ca, A3, n3, c3, A7, n + 1, c7, hr8, .inl hY, ?_, ?_, by rw [ro_last, hn], HC7.out, ?_, ⟨fun u hu => ?_, by rw [ro_last]; have := hok.le; omega⟩⟩⟩
    · rw [List.take_append_of_le_length hok.le]
      exact ((HDF4.out.ext HX7.out).off ho8 (fun b hb => Nat.lt_of_lt_of_le (HYB.out b hb) hw7)).mono fun b hb => ⟨.inl hb.1, hb.2⟩
    · rw [List.drop_append_of_le_length hok.le, fl_app, show fl [t] = fr t from by unfold fl; simp]
      have h1 : SY (Dt (Nw Y w w7) σ) w7 A3 n3 c3 (fl (R.drop k) ++ fr t) := ⟨HLO.out.len, HLO.out.cap, HLO.out.rd.ext HX7.out, fun b o e h0 => by
        have h2 := HLO.out.own b o e h0
        obtain ⟨b', o', e', hc⟩ := HLO.out.rd.2 0 h0
        rw [e] at e'
        injection e' with e'
        injection e' with e1 e2
        subst e1
        exact ⟨.inr ⟨Nat.le_trans HWS.out h2, Nat.lt_of_lt_of_le (block_lt_of_cell hc) HX7.out.size⟩, by omega⟩⟩
      exact (h1.off ho8 hyb).mono fun b hb => ⟨hb.1.imp id fun h => ⟨h.1, Nat.lt_of_lt_of_le h.2 hs8⟩, hb.2⟩
    · have h1 := ((HM7.out.ry (Y := fun b => b ≠ σ ∧ (Y b ∨ w.heap.size ≤ b)) (fun b h1 h2 => ⟨by omega, .inr (by have := HS4.out; have := HWS.out; omega)⟩) (fun b hb => hb)).lt).mono (Y' := Dt (Nw Y w w7) σ) fun b hb => ⟨hb.1.2.imp id fun h => ⟨h, hb.2⟩, hb.1.1⟩
      exact (h1.off ho8 hyb).mono fun b hb => ⟨hb.1.imp id fun h => ⟨h.1, Nat.lt_of_lt_of_le h.2 hs8⟩, hb.2⟩
    · rcases List.mem_append.1 hu with h | h
      · exact hok.ok u h
      · rw [List.mem_singleton.1 h]; exact ⟨HFO.out, HST.out⟩
  · have HX1 := Lib.hid hx1
    have HNO := Lib.hid hno
    clear hx1 hno
    go_wp2
    go_ret
    exact ⟨Only.of_ext HX1.out, .inr ⟨HNO.out, rfl, (HI.out.stay fun b hb => HX1.out.below.block b (HYB.out b hb)).mono fun b hb => .inl hb⟩⟩
end Go.Proofs.Ytfbnckecfapakaa

/-
  What the document's own Compact and Fast of layer 12 do. Conditions: no more than 2^16 bytes.
-/
namespace Go.Proofs.Ytfbnckecfapakaa
open Go.RowKit
open Pol (co Sm)

set_option maxHeartbeats 1600000 in
set_option maxRecDepth 100000 in
theorem ref12_fast {Y : Nat → Prop} {σ : Nat} {R : List (List Nat)} {k : Nat} (w : World) (h : RL Y σ w R k) (hs : (fl R).length ≤ 65536) :
    Calls Try.prog 27 #[.pointer (some ⟨σ, 0, none⟩)] w (Tells (.int .i64 (k : Int)) w) := by
  obtain ⟨A, nf, ca, B, nl, cb, V, n, c, hrow, _, hF, _, _, _, _, hok⟩ := h
  have hp := parts12_le R k
  have HAL := Lib.hid (al_whole (R.take k) (fun t ht => (hok.ok t (List.mem_of_mem_take ht)).1))
  have HTK := Lib.hid (show (R.take k).length = k from by rw [List.length_take]; have := hok.le; omega)
  have HN := Lib.hid (by have h0 := ref9_allN (fl (R.take k)) A ca w hF.rd (by rw [hF.len]; exact hF.cap) (by omega); rw [hF.len] at h0; exact h0 : Calls Try.prog 32 #[.slice A nf ca] w (AllN (fl (R.take k)) w))
  unfold AllN at HN
  rw [HAL.out] at HN
  obtain ⟨k0, _, _, _⟩ := log37_at hrow
  clear hrow hF hok hp hs
  go_enter Try.func27, Try.ntmps27
  go_wp2_with fail
  refine HN.out.mono ?_
  rintro e w1 ⟨hx1, v1, rfl, hm1⟩
  obtain ⟨X, cx, ev, _⟩ := hm1.slice
  subst ev
  rw [HTK.out]
  have HX1 := Lib.hid hx1
  clear hx1 hm1 k0
  go_wp2
  go_ret
  exact ⟨rfl, HX1.out⟩
set_option maxHeartbeats 1600000 in
set_option maxRecDepth 100000 in
theorem ref12_compact {Y : Nat → Prop} {σ : Nat} {R : List (List Nat)} {k : Nat} {t : List Nat} {X : Option Addr} {m cx : Nat} (w : World) (h : RL Y σ w R k) (hy : ∀ b, Y b → b < w.heap.size) (ht : t.length = m) (hr : Rd w X t) (hm : m ≤ 65536) (hX : ∀ b o, X = some ⟨b, o, none⟩ → 0 < t.length → b ≠ σ) :
    Calls Try.prog 22 #[.pointer (some ⟨σ, 0, none⟩), .slice X m cx] w (fun e w' => Only (fun b => b = σ) w w' ∧ ((FrOk t ∧ e = .returned (.int .i64 0) ∧ RL (Nw Y w w') σ w' [t] 1) ∨ (¬ FrOk t ∧ e = .returned (.int .i64 1) ∧ RL (Nw Y w w') σ w' R k))) := by
  have HF := Lib.hid (by have h0 := ref9_frame t X cx w hr (by omega); rw [ht] at h0; exact h0 : Calls Try.prog 36 #[.slice X m cx] w (FrameE .i64 t w))
  unfold FrameE at HF
  have HI := Lib.hid h
  obtain ⟨A, nf, ca, B, nl, cb, V, n, c, hrow, hY, _⟩ := h
  have HROW := Lib.hid hrow
  have HYY := Lib.hid hY
  have HYB := Lib.hid hy
  have HT := Lib.hid ht
  have HRT := Lib.hid hr
  have HCM := Lib.hid hm
  have HST := Lib.hid hr.1
  have HXN := Lib.hid hX
  clear hrow hY hy ht hr hm hX
  go_enter Try.func22, Try.ntmps22
  go_wp2_with fail
  refine HF.out.mono ?_
  rintro e w1 ⟨hx1, (⟨hfo, v, rfl, hmf⟩ | ⟨hno, Bf, cf, rfl⟩)⟩
  · have HSF := Lib.hid (fr_sm HST.out hfo)
    obtain ⟨Af, nff, cff, ev, hsf⟩ := hmf.st HSF.out
    subst ev
    have HFO := Lib.hid hfo
    have HX1 := Lib.hid hx1
    have HSTF := Lib.hid hsf
    have HR1 := Lib.hid (hx1.row HROW.out)
    obtain ⟨k0, k1, k2, kz⟩ := log37_at HR1.out
    have z0 := kz 0
    have z1 := kz 1
    clear hx1 hfo hmf hsf kz
    go_upto_region 4 with (fail)
    have hσ := HYB.out σ HYY.out
    have ho4 : Only (fun b => b = σ) w1 ((w1.setCell ⟨σ, 0, none⟩ (.slice Af nff cff)).setCell ⟨σ, 1, none⟩ (.slice none 0 0)) := (Only.of_grown (grown_set9 w1 σ 0 _) (fun k e => by injection e with e; exact e.symm)).trans (Only.of_grown (grown_set9 _ σ 1 _) (fun k e => by injection e with e; exact e.symm))
    have hr4 := heap_setCell_same _ σ 1 _ _ (.slice none 0 0) (heap_setCell_same w1 σ 0 _ _ (.slice Af nff cff) HR1.out)
    have HO4 := Lib.hid ((Only.of_ext (X := fun b => b = σ) HX1.out).trans ho4)
    have HR4 := Lib.hid (show ((w1.setCell ⟨σ, 0, none⟩ (.slice Af nff cff)).setCell ⟨σ, 1, none⟩ (.slice none 0 0)).heap[σ]? = some (.cells #[.slice Af nff cff, .slice none 0 0, .slice V n c] 37) from hr4)
    have HFF := Lib.hid ((HSTF.out.sy (Y := Dt (Nw Y w w1) σ) fun b h1 h2 => ⟨.inr ⟨h1, h2⟩, by omega⟩).off ho4 (fun b hb => by
      rcases hb with e | e
      · exact Nat.lt_of_lt_of_le (HYB.out b e) HX1.out.size
      · exact e.2))
    have HRT4 := Lib.hid (show Rd ((w1.setCell ⟨σ, 0, none⟩ (.slice Af nff cff)).setCell ⟨σ, 1, none⟩ (.slice none 0 0)) X t from ((HRT.out.ext HX1.out).keep (grown_set9 w1 σ 0 _) (fun b o e h0 e2 => by injection e2 with e2; exact HXN.out b o e h0 e2)).keep (grown_set9 _ σ 1 _) (fun b o e h0 e2 => by injection e2 with e2; exact HXN.out b o e h0 e2))
    have HSZ := Lib.hid (And.intro HX1.out.size ho4.size)
    clear hr4 ho4 k0 k1 k2 z0 z1
    generalize (w1.setCell ⟨σ, 0, none⟩ (.slice Af nff cff)).setCell ⟨σ, 1, none⟩ (.slice none 0 0) = w4 at HO4 HR4 HFF HRT4 HSZ ⊢
    have hσ4 : σ < w4.heap.size := row_lt HR4.out
    have HXC := Lib.hid ((Ext.refl w4).alloc (.cells #[] 5))
    have HME := Lib.hid (mine_empty w4)
    go_wp2_with (at_builtin; refine wpList_append_new rfl (.tmp 20) (.tmp 21) rfl w4.heap.size w4.heap.size t rfl HME.out X m cx rfl HT.out (HRT4.out.ext HXC.out) (by have := HCM.out; rw [HT.out]; omega) HXC.out.size ?_; intro v6 w6 hm6 hx6 _; obtain ⟨A6, n6, c6, ev, hst⟩ := hm6.st HST.out; have en := HT.out.symm.trans hst.len; subst en; subst ev; have HX6 := Lib.hid (show Ext w4 w6 from HXC.out.trans hx6); have HS6 := Lib.hid hst; have hxd := (Ext.refl w6).alloc (.cells #[.slice A6 m c6] 22); have HXD := Lib.hid hxd; obtain ⟨_, _, k7, kz⟩ := log37_at ((HX6.out.trans hxd).row HR4.out); have z2 := kz 2; clear hm6 hx6 hst kz hxd)
    go_ret
    have hry := ry_one (P := fun b => w4.heap.size ≤ b) HS6.out.len HS6.out.cap HS6.out.rd HS6.out.own HX6.out.size
    have hb6 : w6.heap.size < (w6.alloc (.cells #[.slice A6 m c6] 22)).heap.size := by simp
    have HX7 := Lib.hid (HX6.out.trans HXD.out)
    generalize w6.alloc (.cells #[.slice A6 m c6] 22) = w7 at hry hb6 HX7 ⊢
    have ho8 : Only (fun b => b = σ) w7 (w7.setCell ⟨σ, 2, none⟩ (.slice (some ⟨w6.heap.size, 0, none⟩) 1 1)) := Only.of_grown (grown_set9 w7 σ 2 _) (fun k e => by injection e with e; exact e.symm)
    have hr8 := heap_setCell_same w7 σ 2 _ _ (.slice (some ⟨w6.heap.size, 0, none⟩) 1 1) (HX7.out.row HR4.out)
    have hs8 := ho8.size
    have hw7 : w1.heap.size ≤ w7.heap.size := Nat.le_trans HSZ.out.2 HX7.out.size
    have hyb : ∀ b, Nw Y w w7 b → b < w7.heap.size := fun b hb => by
      rcases hb with e | e
      · exact Nat.lt_of_lt_of_le (HYB.out b e) (Nat.le_trans HSZ.out.1 hw7)
      · exact e.2
    refine ⟨(HO4.out.trans (Only.of_ext HX7.out)).trans ho8, .inl ⟨HFO.out, rfl, Af, nff, cff, none, 0, 0, some ⟨w6.heap.size, 0, none⟩, 1, 1, hr8, .inl HYY.out, ?_, SY.nil _ _, rfl, Nat.le_refl _, ?_, ⟨fun u hu => ?_, Nat.le_refl _⟩⟩⟩
    · have h1 : SY (Dt (Nw Y w w7) σ) w7 Af nff cff (fr t) := (HFF.out.ext HX7.out).mono fun b hb => ⟨hb.1.imp id fun h => ⟨h.1, Nat.lt_of_lt_of_le h.2 hw7⟩, hb.2⟩
      have e1 : fl ([t].take 1) = fr t := by unfold fl; simp
      rw [e1]
      exact (h1.off ho8 hyb).mono fun b hb => ⟨hb.1.imp id fun h => ⟨h.1, Nat.lt_of_lt_of_le h.2 hs8⟩, hb.2⟩
    · have h1 := (hry.lt).mono (Y' := Dt (Nw Y w w7) σ) fun b hb => ⟨.inr ⟨by have := HSZ.out; omega, hb.2⟩, by omega⟩
      exact (h1.off ho8 hyb).mono fun b hb => ⟨hb.1.imp id fun h => ⟨h.1, Nat.lt_of_lt_of_le h.2 hs8⟩, hb.2⟩
    · rw [List.mem_singleton.1 hu]
      exact ⟨HFO.out, HST.out⟩
  · have HX1 := Lib.hid hx1
    have HNO := Lib.hid hno
    clear hx1 hno
    go_wp2
    go_ret
    exact ⟨Only.of_ext HX1.out, .inr ⟨HNO.out, rfl, (HI.out.stay fun b hb => HX1.out.below.block b (HYB.out b hb)).mono fun b hb => .inl hb⟩⟩
end Go.Proofs.Ytfbnckecfapakaa

/-
  The laws' first call of layer 12. Conditions: none.
-/
namespace Go.Proofs.Ytfbnckecfapakaa
open Go.RowKit
open Pol (co Sm)

theorem al_nil12 : al [] = ([], 0) := al_er (e := 2) (by unfold nx; simp)
theorem aw_al : al (fl [[7]] ++ crs (fl [[8]]) (kept 3 7) 0) = ([[7]], 7) := by
  obtain ⟨e, he⟩ := nx_crs_cut [8] 3 0 (by decide)
  have e8 : fl [[8]] = fr [8] := by unfold fl; simp
  rw [e8, show kept 3 7 = 3 from by decide, al_app _ _ (fun t ht => by rw [List.mem_singleton.1 ht]; exact ⟨by decide, by decide⟩), al_er he]
  rfl
theorem ok7 : FrOk [7] ∧ FrOk [8] := ⟨⟨by decide, by decide⟩, ⟨by decide, by decide⟩⟩
theorem fl78 : (fl []).length = 0 ∧ (fl [[7]]).length = 7 ∧ (fl [[8]]).length = 7 ∧ (fl [[7], [8]]).length = 14 := ⟨rfl, rfl, rfl, rfl⟩
theorem rrd_one12 (w : World) (A : Option Addr) (n c : Nat) (l : List Nat) (hn : l.length = n) (hc : n ≤ c) (hr : Rd w A l) : RRd (w.alloc (.cells #[.slice A n c] 22)) (some ⟨w.heap.size, 0, none⟩) [l] := fun i hi => by
  have : i = 0 := by simpa using hi
  subst this
  subst hn
  refine ⟨w.heap.size, 0, A, c, rfl, ?_, hc, hr.ext ((Ext.refl w).alloc _)⟩
  rw [cell_of_row _ _ _ _ _ _ (heap_alloc_new w _)]
  rfl
set_option maxHeartbeats 1600000 in
set_option maxRecDepth 100000 in
theorem awake12 {I : LogP} (C : JournalSaid I) (w : World) : Calls Try.prog 9 #[] w (Holds w) := by
  have HC := Lib.hid C
  have HO := Lib.hid (lg_open C (F := []) (L := []) (A := none) (B := none) (nf := 0) (ca := 0) (nl := 0) (cb := 0) w rfl rfl (Rd.nil _ _) (Rd.nil _ _) (by decide))
  rw [List.append_nil, al_nil12] at HO
  clear C
  go_enter Try.func9, Try.ntmps9
  go_wp2_with fail
  refine HO.out.mono ?_
  rintro e w1 ⟨hx1, lb, X1, rfl, hg1, _⟩
  have HX1 := Lib.hid hx1
  have hxa := (Ext.refl w1).alloc (.cells #[.int .u8 7] 5)
  have HG1 := Lib.hid (Lg.ext HC.out hg1 hxa)
  have HXA := Lib.hid (hx1.trans hxa)
  have HR1 := Lib.hid (rd_one w1 7 (by decide))
  clear hx1 hg1 hxa
  go_wp2_with fail
  refine (lg_append_ok HC.out HG1.out ok7.1 (n := 1) rfl HR1.out (Nat.le_refl _) (by decide) HXA.out.size).mono ?_
  rintro e w2 ⟨ho2, rfl, hg2⟩
  have HX2 := Lib.hid (ho2.ext HXA.out (fun b hb => (HG1.out.2 b hb).1))
  have HG2 := Lib.hid hg2
  clear ho2 hg2
  go_wp2_with fail
  refine (lg_sync HC.out HG2.out (by decide) HX2.out.size).mono ?_
  rintro e w3 ⟨rfl, ho3, hg3⟩
  have HX3 := Lib.hid (ho3.ext HX2.out (fun b hb => (HG2.out.2 b hb).1))
  have hxb := (Ext.refl w3).alloc (.cells #[.int .u8 8] 5)
  have HG3 := Lib.hid (Lg.ext HC.out hg3 hxb)
  have HXB := Lib.hid (HX3.out.trans hxb)
  have HR3 := Lib.hid (rd_one w3 8 (by decide))
  clear ho3 hg3 hxb
  go_wp2_with fail
  refine (lg_append_ok HC.out HG3.out ok7.2 (n := 1) rfl HR3.out (Nat.le_refl _) (by decide) HXB.out.size).mono ?_
  rintro e w4 ⟨ho4, rfl, hg4⟩
  have HX4 := Lib.hid (ho4.ext HXB.out (fun b hb => (HG3.out.2 b hb).1))
  have HG4 := Lib.hid (show Lg I _ lb w4 [[7], [8]] 1 w.heap.size from hg4)
  clear ho4 hg4
  go_wp2_with fail
  refine (lg_disk HC.out HG4.out (by decide)).mono ?_
  rintro e w5 ⟨hx5, A5, nf, ca, B5, nl, cb, rfl, hs1, hs2⟩
  have HX5 := Lib.hid (HX4.out.trans hx5)
  have HG5 := Lib.hid (Lg.ext HC.out HG4.out hx5)
  have hnf := hs1.len
  have hnl := hs2.len
  rw [show fl (([[7], [8]] : List (List Nat)).take 1) = fl [[7]] from rfl] at hs1
  rw [show fl (([[7], [8]] : List (List Nat)).drop 1) = fl [[8]] from rfl] at hs2
  have HS1 := Lib.hid hs1
  have HS2 := Lib.hid hs2
  have hnf7 : nf = 7 := by rw [← hnf]; rfl
  have hnl7 : nl = 7 := by rw [← hnl]; rfl
  clear hs1 hs2 hx5 hnf hnl
  subst hnf7
  subst hnl7
  go_wp2_with fail
  refine (dk_crash HC.out 3 0 w5 HS1.out.len HS2.out.len HS1.out.rd HS2.out.rd (by decide) (by decide) HS2.out.cap (by decide)).mono ?_
  rintro e w6 ⟨hx6, A6, n6, c6, B6, m6, d6, rfl, hs1, hs2⟩
  have HX6 := Lib.hid (HX5.out.trans hx6)
  have HG6 := Lib.hid (Lg.ext HC.out HG5.out hx6)
  have HS3 := Lib.hid hs1
  have HS4 := Lib.hid hs2
  have hn6 : n6 = 10 := by rw [← hs1.len]; rfl
  have hm6 : m6 = 0 := by rw [← hs2.len]; rfl
  clear hs1 hs2 hx6
  subst hn6
  subst hm6
  have HO2 := Lib.hid (lg_open HC.out (ca := c6) (cb := d6) w6 HS3.out.len HS4.out.len HS3.out.rd HS4.out.rd (by decide))
  rw [List.append_nil, aw_al] at HO2
  go_wp2_with fail
  refine HO2.out.mono ?_
  rintro e w7 ⟨hx7, lc, X7, rfl, hg7, _⟩
  have HX7 := Lib.hid (HX6.out.trans hx7)
  have HG7 := Lib.hid (Lg.ext HC.out HG6.out hx7)
  have HM7 := Lib.hid hg7
  clear hx7 hg7
  go_wp2_with fail
  refine (lg_records HC.out HG7.out (by decide)).mono ?_
  rintro e w8 ⟨hx8, V8, n8, c8, rfl, hn8, _, _, _⟩
  have hn8' : n8 = 2 := hn8.symm
  subst hn8'
  have HX8 := Lib.hid (HX7.out.trans hx8)
  have HG8 := Lib.hid (Lg.ext HC.out HG7.out hx8)
  have HM8 := Lib.hid (Lg.ext HC.out HM7.out hx8)
  clear hx8 hn8
  go_wp2_with fail
  refine (lg_fast HC.out HG8.out).mono ?_
  rintro e w9 ⟨rfl, hx9⟩
  have HX9 := Lib.hid (HX8.out.trans hx9)
  have HM9 := Lib.hid (Lg.ext HC.out HM8.out hx9)
  clear hx9
  go_wp2_with fail
  refine (lg_records HC.out HM9.out (by decide)).mono ?_
  rintro e w10 ⟨hx10, V10, n10, c10, rfl, hn10, hc10, hr10, _⟩
  have hn10' : n10 = 1 := hn10.symm
  subst hn10'
  have HX10 := Lib.hid (HX9.out.trans hx10)
  have HR10 := Lib.hid hr10
  clear hx10 hn10 hc10 hr10
  have hxc := (Ext.refl w10).alloc (.cells #[.int .u8 7] 5)
  have hxd := hxc.alloc (.cells #[.slice (some ⟨w10.heap.size, 0, none⟩) 1 1] 22)
  have hsz : (w10.alloc (.cells #[.int .u8 7] 5)).heap.size = w10.heap.size + 1 := by simp
  have hrl := rrd_one12 (w10.alloc (.cells #[.int .u8 7] 5)) (some ⟨w10.heap.size, 0, none⟩) 1 1 [7] rfl (Nat.le_refl _) (rd_one w10 7 (by decide))
  rw [hsz] at hrl
  have HRL := Lib.hid hrl
  have HRX := Lib.hid (HR10.out.ext hxd)
  have HXD := Lib.hid (HX10.out.trans hxd)
  clear hxc hxd hsz hrl
  go_wp2_with fail
  refine (lists_n _ rfl HRX.out HRL.out (by decide) (row_one (by decide))).mono ?_
  rintro e w11 ⟨rfl, m, rfl⟩
  go_wp2
  go_ret
  exact ⟨rfl, HXD.out.drewN m⟩
end Go.Proofs.Ytfbnckecfapakaa

/-
  An argument that is a slice of bytes, or of points, reads as a list. Conditions: none.
-/
namespace Go.Proofs.Ytfbnckecfapakaa
open Go.RowKit
open Go.ChangeShapes Go.WideShapes Go.ChangeAt
open Pol (co Sm)

section
variable {H : Type} {enc : TypeId × Value → H} {w : World} {base : Nat} {spare : Nat → Bool} {held : Bool}
theorem open_bytes {fuel len cap : Nat} {a : Option Addr} {x : DataW H × List MemPlace} (h : DataW.trod enc Try.prog w base spare held fuel 22 [.slice a len cap] = some x) :
    ∃ l : List Nat, l.length = len ∧ len ≤ cap ∧ Rd w a l := by
  rcases open_ints Try.underlying22 Try.underlying5 (by kernel_rfl) h with ⟨hcs, _⟩ | ⟨a', len', cap', zs, hcs, _, hl, _, hz, _, hcell, hwz⟩
  · simp at hcs
    obtain ⟨rfl, rfl, rfl⟩ := hcs
    exact ⟨[], rfl, Nat.le_refl _, Rd.nil _ _⟩
  · simp at hcs
    obtain ⟨rfl, rfl, rfl⟩ := hcs
    have hlz : len ≤ zs.length := by rw [hz]; split <;> omega
    have hnat : ∀ i, i < zs.length → ∃ n : Nat, zs.getD i 0 = (n : Int) ∧ n < 256 := fun i hi => by
      have hm : zs.getD i 0 ∈ zs := by rw [List.getD_eq_getElem?_getD, List.getElem?_eq_getElem hi]; exact List.getElem_mem hi
      exact nat_u8 (hwz _ hm)
    refine ⟨(List.range len).map (fun i => (zs.getD i 0).toNat), by simp, hl, ?_, fun i hi => ?_⟩
    · refine Pol.co_lt_of (fun v hv => ?_)
      obtain ⟨i, hi, rfl⟩ := List.mem_map.1 hv
      obtain ⟨n, hn, hn'⟩ := hnat i (by have := List.mem_range.1 hi; omega)
      show (zs.getD i 0).toNat < 256
      rw [hn]; omega
    · have hi' : i < len := by simpa using hi
      obtain ⟨b, o, rfl, hc⟩ := ints_at hcell (by omega)
      refine ⟨b, o, rfl, ?_⟩
      rw [hc i (by omega)]
      obtain ⟨n, hn, _⟩ := hnat i (by omega)
      congr 2
      unfold co
      rw [List.getElem?_map, List.getElem?_range hi']
      show zs.getD i 0 = (((zs.getD i 0).toNat : Nat) : Int)
      rw [hn]; omega
end
end Go.Proofs.Ytfbnckecfapakaa

/-
  An argument that is a slice of operations reads as a list of operations; one that is bytes in a struct. Conditions: none.
-/
namespace Go.Proofs.Ytfbnckecfapakaa
open Go.RowKit
open Go.ChangeShapes Go.WideShapes Go.ChangeAt
open Pol (co Sm)

/-- The kind of the operation at a place, how many bytes it keeps, what tears the last, its bytes. -/
def okd (l : List (Int × Int × Nat × List Nat)) (i : Nat) : Int := (l[i]?.getD (0, 0, 0, [])).1
def okp (l : List (Int × Int × Nat × List Nat)) (i : Nat) : Int := (l[i]?.getD (0, 0, 0, [])).2.1
def ott (l : List (Int × Int × Nat × List Nat)) (i : Nat) : Nat := (l[i]?.getD (0, 0, 0, [])).2.2.1
def obs (l : List (Int × Int × Nat × List Nat)) (i : Nat) : List Nat := (l[i]?.getD (0, 0, 0, [])).2.2.2
/-- A slice of operations reads as l. -/
def ORd (w : World) (A : Option Addr) (l : List (Int × Int × Nat × List Nat)) : Prop :=
  ∀ i, i < l.length → ∃ b o B c, A = some ⟨b, o, none⟩ ∧ w.cell? ⟨b, o + i * 4, none⟩ = some (.int .i64 (okd l i)) ∧ w.cell? ⟨b, o + i * 4 + 1, none⟩ = some (.int .i64 (okp l i)) ∧ w.cell? ⟨b, o + i * 4 + 2, none⟩ = some (.int .u8 ((ott l i : Nat) : Int)) ∧
    w.cell? ⟨b, o + i * 4 + 3, none⟩ = some (.slice B (obs l i).length c) ∧ (obs l i).length ≤ c ∧ Rd w B (obs l i) ∧ ott l i < 256
/-- Operations as they come in. -/
def AOp (w : World) (A : Option Addr) (l : List (Int × Int × Nat × List Nat)) : Prop := ORd w A l ∧ l.length ≤ maxLen
section
variable {H : Type} {enc : TypeId × Value → H} {w : World} {base : Nat} {spare : Nat → Bool} {held : Bool}
theorem bytes12 {fuel : Nat} {v : Value} {x : DataW H × List MemPlace} (h : DataW.trod enc Try.prog w base spare held fuel 22 [v] = some x) :
    ∃ (q : List Nat) (B : Option Addr) (c : Nat), v = .slice B q.length c ∧ q.length ≤ c ∧ Rd w B q := by
  obtain ⟨B, n, c, hv⟩ : ∃ B n c, v = .slice B n c := by
    rcases Go.Deep.open_slice Try.underlying22 h with ⟨e, _⟩ | ⟨a2, l2, c2, _, _, _, _, e, _⟩
    · exact ⟨none, 0, 0, by simpa using e⟩
    · exact ⟨some a2, l2, c2, by simpa using e⟩
  subst hv
  obtain ⟨q, hq, hqc, hqr⟩ := open_bytes h
  exact ⟨q, B, c, by rw [hq], by rw [hq]; exact hqc, hqr⟩
/-- One operation, by its four cells. -/
theorem open_op {fuel : Nat} {cs : List Value} {x : DataW H × List MemPlace} (h : DataW.trod enc Try.prog w base spare held fuel 41 cs = some x) :
    ∃ (k p : Int) (n : Nat) (q : List Nat) (B : Option Addr) (c : Nat), cs = [.int .i64 k, .int .i64 p, .int .u8 (n : Int), .slice B q.length c] ∧ n < 256 ∧ q.length ≤ c ∧ Rd w B q := by
  obtain ⟨xs, m, _, _, hl, hxl, hf⟩ := DataW.trod_struct Try.underlying41 h
  have hc : cs.length = 4 := by rw [hl]; kernel_rfl
  have ci : Try.prog.cellsOf 3 = 1 := by kernel_rfl
  have cu : Try.prog.cellsOf 5 = 1 := by kernel_rfl
  have cb : Try.prog.cellsOf 22 = 1 := by kernel_rfl
  match cs, hc with
  | [v0, v1, v2, v3], _ =>
    match xs, hxl with
    | [y0, y1, y2, y3], _ =>
      have g0 := hf 0 _ rfl
      have g1 := hf 1 _ rfl
      have g2 := hf 2 _ rfl
      have g3 := hf 3 _ rfl
      simp [ci, cu, cb] at g0 g1 g2 g3
      obtain ⟨k, e0, _, _⟩ := DataW.trod_int Try.underlying3 g0
      obtain ⟨p, e1, _, _⟩ := DataW.trod_int Try.underlying3 g1
      obtain ⟨z, e2, _, w2⟩ := DataW.trod_int Try.underlying5 g2
      obtain ⟨q, B, c, e3, h1, h2⟩ := bytes12 g3
      obtain ⟨n, rfl, hn⟩ := nat_u8 w2
      simp only [List.cons.injEq, and_true] at e0 e1 e2
      subst e0; subst e1; subst e2; subst e3
      exact ⟨k, p, n, q, B, c, rfl, hn, h1, h2⟩
theorem open_ops {fuel len cap : Nat} {a : Option Addr} {x : DataW H × List MemPlace} (h : DataW.trod enc Try.prog w base spare held fuel 25 [.slice a len cap] = some x) :
    ∃ l : List (Int × Int × Nat × List Nat), l.length = len ∧ len ≤ cap ∧ AOp w a l := by
  rcases Go.Deep.open_slice Try.underlying25 h with ⟨hcs, _⟩ | ⟨a', len', cap', m, n, D, Pl, hcs, _, hl, hcm, hm, _, hall⟩
  · simp at hcs
    obtain ⟨rfl, rfl, rfl⟩ := hcs
    exact ⟨[], rfl, Nat.le_refl _, fun i hi => absurd hi (by simp), Nat.zero_le _⟩
  · simp at hcs
    obtain ⟨rfl, rfl, rfl⟩ := hcs
    have hlm : len ≤ m := by rw [hm]; split <;> omega
    have ce : Try.prog.cellsOf 41 = 4 := by kernel_rfl
    rw [ce] at hall
    have each : ∀ i, i < len → ∃ q : Int × Int × Nat × List Nat, q.2.2.1 < 256 ∧ w.cell? (a'.add (i * 4)) = some (.int .i64 q.1) ∧ w.cell? (a'.add (i * 4 + 1)) = some (.int .i64 q.2.1) ∧ w.cell? (a'.add (i * 4 + 2)) = some (.int .u8 (q.2.2.1 : Int)) ∧ ∃ B c, w.cell? (a'.add (i * 4 + 3)) = some (.slice B q.2.2.2.length c) ∧ q.2.2.2.length ≤ c ∧ Rd w B q.2.2.2 := fun i hi => by
      obtain ⟨cs', h1, h2⟩ := hall i (by omega)
      obtain ⟨_, hlen, hcell⟩ := World.cells?_some h1
      obtain ⟨k, p, n, q, B, c, rfl, h3, h4, h5⟩ := open_op h2
      have e0 := hcell 0 (by omega)
      have e1 := hcell 1 (by omega)
      have e2 := hcell 2 (by omega)
      have e3 := hcell 3 (by omega)
      rw [Go.Deep.add_add] at e0 e1 e2 e3
      exact ⟨(k, p, n, q), h3, by simpa using e0, by simpa using e1, by simpa using e2, B, c, by simpa using e3, h4, h5⟩
    obtain ⟨q, hq⟩ := Go.Deep.choose_lt each
    have hat : ∀ i, i < len → ((List.range len).map q)[i]? = some (q i) := fun i hi => by rw [List.getElem?_map, List.getElem?_range hi]; rfl
    have hw : ∀ i, i < len → okd ((List.range len).map q) i = (q i).1 ∧ okp ((List.range len).map q) i = (q i).2.1 ∧ ott ((List.range len).map q) i = (q i).2.2.1 ∧ obs ((List.range len).map q) i = (q i).2.2.2 := fun i hi => by
      unfold okd okp ott obs
      rw [hat i hi]
      exact ⟨rfl, rfl, rfl, rfl⟩
    refine ⟨(List.range len).map q, by simp, hl, fun i hi => ?_, by simp; omega⟩
    have hi' : i < len := by simpa using hi
    obtain ⟨h0, h1, h2, h3, B, c, h4, h5, h6⟩ := hq i hi'
    obtain ⟨b, o, spot⟩ := a'
    have hspot : spot = none := by
      have h0 := (hq 0 (by omega)).2.1
      simpa [Addr.add] using World.cell?_spot h0
    subst hspot
    obtain ⟨e1, e2, e3, e4⟩ := hw i hi'
    rw [e1, e2, e3, e4]
    exact ⟨b, o, B, c, rfl, by rw [← Addr.add_mid]; exact h1, by rw [Nat.add_assoc, ← Addr.add_mid]; exact h2, by rw [Nat.add_assoc, ← Addr.add_mid]; exact h3, by rw [Nat.add_assoc, ← Addr.add_mid]; exact h4, h5, h6, h0⟩
end
end Go.Proofs.Ytfbnckecfapakaa

/-
  Few operations of few bytes. Conditions: none but that no slice is longer than a slice may be.
-/
namespace Go.Proofs.Ytfbnckecfapakaa
open Go.RowKit
open Pol (co Sm)

def Few12 (l : List (Int × Int × Nat × List Nat)) : Prop := (∀ i, i < l.length → (obs l i).length ≤ 60) ∧ l.length ≤ 40
set_option maxHeartbeats 800000 in
theorem few12 {l : List (Int × Int × Nat × List Nat)} {A : Option Addr} {n c : Nat} (w : World) (hr : AOp w A l) (hn : l.length = n) :
    Calls Try.prog 10 #[.slice A n c] w (fun e w' => ∃ v, e = .returned (.bool v) ∧ w = w' ∧ (v = true → Few12 l) ∧ (v = false → ¬ Few12 l)) := by
  obtain ⟨hr, hml⟩ := hr
  have HR := Lib.hid hr
  have HN := Lib.hid hn
  rw [hn] at hml
  have hmx : n ≤ 9223372036854775807 := by
    have : maxLen ≤ 9223372036854775807 := by decide
    omega
  clear hr hn hml
  go_enter Try.func10, Try.ntmps10
  go_wp2
  go_loopg [6] n (fun g s wx => ∃ i : Nat, i + g = n ∧ s = .int .i64 (i : Int) ∧ wx = w ∧ ∀ j, j < i → (obs l j).length ≤ 60)
  case atStart => exact ⟨0, by omega, rfl, rfl, fun j hj => by omega⟩
  case round =>
    obtain ⟨i, hig, rfl, rfl, hall⟩ := hrel
    have HALL := Lib.hid hall
    clear hall
    cases gk with
    | zero =>
      obtain rfl : i = n := by omega
      clear hig
      go_wp2
      go_ret
      refine ⟨_, rfl, rfl, fun h => ⟨fun j hj => HALL.out j (by rw [← HN.out]; exact hj), ?_⟩, fun h hf => ?_⟩
      · have h2 := HN.out
        simp at h
        omega
      · have h2 := HN.out
        have h3 := hf.2
        simp at h
        omega
    | succ gk =>
      have hi : i < n := by omega
      have hiI : (i : Int) < (n : Int) := by omega
      obtain ⟨b, o, B, cb, rfl, _, _, _, hcell, _⟩ := HR.out i (by rw [HN.out]; exact hi)
      obtain ⟨m, hm⟩ : ∃ m, (obs l i).length = m := ⟨_, rfl⟩
      rw [hm] at hcell
      have HM := Lib.hid hm
      clear hm
      by_cases hm6 : 60 < m
      · have d1 : decide (60 < (m : Int)) = true := decide_eq_true (by omega)
        have h1 : 60 < (m : Int) := by omega
        clear hm6
        go_wp2
        go_ret
        refine ⟨_, rfl, rfl, (fun h => (by cases h)), fun _ hf => ?_⟩
        have h2 := hf.1 i (by rw [HN.out]; exact hi)
        rw [HM.out] at h2
        omega
      · have d1 : decide (60 < (m : Int)) = false := decide_eq_false (by omega)
        have h1 : ¬ 60 < (m : Int) := by omega
        go_wp2
        go_roundg gk
        case measure => omega
        case rel => exact ⟨i + 1, by omega, by go_num, rfl, fun j hj => by
          rcases Nat.lt_or_ge j i with h | h
          · exact HALL.out j h
          · obtain rfl : j = i := by omega
            rw [HM.out]; omega⟩
end Go.Proofs.Ytfbnckecfapakaa

/-
  A log and the document's log side by side. Conditions: none.
-/
namespace Go.Proofs.Ytfbnckecfapakaa
open Go.RowKit
open Pol (co Sm)

theorem AOp.ext {w w' : World} {A : Option Addr} {l : List (Int × Int × Nat × List Nat)} (h : AOp w A l) (hx : Ext w w') : AOp w' A l := ⟨fun i hi => by
  obtain ⟨b, o, B, c, e, h1, h2, h3, h4, h5, h6, h7⟩ := h.1 i hi
  exact ⟨b, o, B, c, e, hx.at h1, hx.at h2, hx.at h3, hx.at h4, h5, h6.ext hx, h7⟩, h.2⟩
theorem RL.home {Y : Nat → Prop} {σ : Nat} {w : World} {R : List (List Nat)} {k : Nat} (h : RL Y σ w R k) : Y σ := by
  obtain ⟨_, _, _, _, _, _, _, _, _, _, h2, _⟩ := h
  exact h2
/-- Both logs hold the same records, in blocks apart. -/
structure PS (I : LogP) (b0 : Nat) (X Y : Nat → Prop) (lb σ : Nat) (R : List (List Nat)) (k m : Nat) (w : World) : Prop where
  lg : Lg I X lb w R k b0
  rl : RL Y σ w R k
  yb : ∀ b, Y b → b0 ≤ b ∧ b < w.heap.size
  ap : ∀ b, X b → ¬ Y b
  len : (fl R).length ≤ m
  b0 : b0 ≤ w.heap.size
section
variable {I : LogP} (C : JournalSaid I)
include C
theorem PS.ext {b0 : Nat} {X Y : Nat → Prop} {lb σ : Nat} {R : List (List Nat)} {k m : Nat} {w w' : World} (h : PS I b0 X Y lb σ R k m w) (hx : Ext w w') : PS I b0 X Y lb σ R k m w' where
  lg := h.lg.ext C hx
  rl := h.rl.stay fun b hb => hx.below.block b (h.yb b hb).2
  yb := fun b hb => ⟨(h.yb b hb).1, Nat.lt_of_lt_of_le (h.yb b hb).2 hx.size⟩
  ap := h.ap
  len := h.len
  b0 := Nat.le_trans h.b0 hx.size
omit C in
theorem PS.more {b0 : Nat} {X Y : Nat → Prop} {lb σ : Nat} {R : List (List Nat)} {k m m' : Nat} {w : World} (h : PS I b0 X Y lb σ R k m w) (hm : m ≤ m') : PS I b0 X Y lb σ R k m' w := ⟨h.lg, h.rl, h.yb, h.ap, Nat.le_trans h.len hm, h.b0⟩
omit C in
theorem PS.mid {b0 : Nat} {X Y : Nat → Prop} {lb σ : Nat} {R : List (List Nat)} {k m : Nat} {w w1 : World} (h : PS I b0 X Y lb σ R k m w) (ho : Only X w w1) : RL Y σ w1 R k ∧ ∀ b, Y b → b < w1.heap.size :=
  ⟨h.rl.stay fun b hb => ho.block b (h.yb b hb).2 (fun hx => h.ap b hx hb), fun b hb => Nat.lt_of_lt_of_le (h.yb b hb).2 ho.size⟩
theorem PS.next {b0 : Nat} {X Y : Nat → Prop} {lb σ : Nat} {R R' : List (List Nat)} {k k' m m' : Nat} {w w1 w2 : World} (h : PS I b0 X Y lb σ R k m w) (hox : Only X w w1) (hlg : Lg I (Nw X w w1) lb w1 R' k' b0) (hos : Only (fun b => b = σ) w1 w2) (hrl : RL (Nw Y w1 w2) σ w2 R' k') (hlen : (fl R').length ≤ m') :
    PS I b0 (Nw X w w1) (Nw Y w1 w2) lb σ R' k' m' w2 where
  lg := hlg.only C hos fun b hb e => by
    have hσ := h.yb σ h.rl.home
    rcases hb with e1 | e1
    · exact h.ap b e1 (e ▸ h.rl.home)
    · omega
  rl := hrl
  yb := fun b hb => by
    rcases hb with e | e
    · exact ⟨(h.yb b e).1, Nat.lt_of_lt_of_le (h.yb b e).2 (Nat.le_trans hox.size hos.size)⟩
    · exact ⟨Nat.le_trans h.b0 (Nat.le_trans hox.size e.1), e.2⟩
  ap := fun b hb hy => by
    rcases hb with e | e
    · have h1 := (h.lg.2 b e).2
      have h2 := hox.size
      rcases hy with e2 | e2
      · exact h.ap b e e2
      · omega
    · rcases hy with e2 | e2
      · have := (h.yb b e2).2; omega
      · omega
  len := hlen
  b0 := Nat.le_trans h.b0 (Nat.le_trans hox.size hos.size)
omit C in
theorem PS.open {b0 : Nat} {X : Nat → Prop} {lb σ : Nat} {R : List (List Nat)} {m : Nat} {w w1 w2 : World} (hb : b0 ≤ w.heap.size) (hs1 : w.heap.size ≤ w1.heap.size) (hlg : Lg I X lb w2 R R.length w.heap.size) (hxb : ∀ b, X b → b < w1.heap.size) (hx2 : Ext w1 w2) (hrl : RL (Nw (fun _ => False) w1 w2) σ w2 R R.length) (hlen : (fl R).length ≤ m) :
    PS I b0 X (Nw (fun _ => False) w1 w2) lb σ R R.length m w2 where
  lg := ⟨hlg.1, fun b h => ⟨Nat.le_trans hb (hlg.2 b h).1, (hlg.2 b h).2⟩⟩
  rl := hrl
  yb := fun b h => by
    rcases h with e | e
    · exact absurd e id
    · exact ⟨Nat.le_trans hb (Nat.le_trans hs1 e.1), e.2⟩
  ap := fun b h hy => by
    have := hxb b h
    rcases hy with e | e
    · exact e
    · omega
  len := hlen
  b0 := Nat.le_trans hb (Nat.le_trans hs1 hx2.size)
end
/-- Three cells of a block stay. -/
def Tri (g : Nat) (a b c : Value) (W : World) : Prop := W.cell? ⟨g, 0, none⟩ = some a ∧ W.cell? ⟨g, 1, none⟩ = some b ∧ W.cell? ⟨g, 2, none⟩ = some c
theorem Tri.ext {g : Nat} {a b c : Value} {w w' : World} (h : Tri g a b c w) (hx : Ext w w') : Tri g a b c w' := ⟨hx.at h.1, hx.at h.2.1, hx.at h.2.2⟩
/-- A cell of an operation stays. -/
def OpB (g : Nat) (v : Value) (W : World) : Prop := W.cell? ⟨g, 3, none⟩ = some v
theorem OpB.ext {g : Nat} {v : Value} {w w' : World} (h : OpB g v w) (hx : Ext w w') : OpB g v w' := hx.at h
/-- An operation and a disk stay. -/
structure OpD (g s : Nat) (vp vt vb vf vl : Value) (W : World) : Prop where
  a : W.cell? ⟨g, 1, none⟩ = some vp
  b : W.cell? ⟨g, 2, none⟩ = some vt
  c : W.cell? ⟨g, 3, none⟩ = some vb
  d : W.cell? ⟨s, 0, none⟩ = some vf
  e : W.cell? ⟨s, 1, none⟩ = some vl
theorem OpD.ext {g s : Nat} {p t b f l : Value} {w w' : World} (h : OpD g s p t b f l w) (hx : Ext w w') : OpD g s p t b f l w' := ⟨hx.at h.a, hx.at h.b, hx.at h.c, hx.at h.d, hx.at h.e⟩
theorem l_nil0 : ([] : List Nat).length = 0 := rfl
/-- What is behind a disk is no more than it. -/
theorem fl_al_le (D : List Nat) (hs : Sm D) : (fl (al D).1).length ≤ D.length := by
  have h := alOk D hs
  rw [h.flen]
  exact h.le
end Go.Proofs.Ytfbnckecfapakaa

/-
  A plan's step where three operations may come up next. Conditions: none; no function is named here.
-/
namespace Go.Proofs.Ytfbnckecfapakaa
open Go
section
variable {P : Program} {Q : Exit → Act → World → Prop} {C : World → Prop}
theorem plan_three {F : Nat → Bool} {l : List Oper} {i j k : Nat} {o u v : Oper} {p q r : Plan} {a : Act} {w : World} (ho : l[i]? = some o) (hu : l[j]? = some u) (hv : l[k]? = some v)
    (h1 : ∀ K : Act → World → Prop, (∀ a' w', (F i = true → C w') ∧ wpPlan P l C F Q p a' w' → K a' w') → wpList P l.toArray (Exit.then K Q) [o] a w)
    (h2 : ∀ K : Act → World → Prop, (∀ a' w', (F j = true → C w') ∧ wpPlan P l C F Q q a' w' → K a' w') → wpList P l.toArray (Exit.then K Q) [u] a w)
    (h3 : ∀ K : Act → World → Prop, (∀ a' w', (F k = true → C w') ∧ wpPlan P l C F Q r a' w' → K a' w') → wpList P l.toArray (Exit.then K Q) [v] a w) : wpPlan P l C F Q (.three i p j q k r) a w := ⟨stepP_of ho h1, stepP_of hu h2, stepP_of hv h3⟩
end
end Go.Proofs.Ytfbnckecfapakaa
