/-
  Part 3 of the texts that the seat's proofs stand on; each part of it begins with its own sentence and conditions. Conditions: those that each theorem names.
-/
import Derived.Test.YtfbnckecfapakaaDisksPack2

/-
  What the document's own Crash of layer 12 does. Conditions: no more than 2^16 bytes of each kind.
-/
namespace Go.Proofs.Ytfbnckecfapakaa
open Go.RowKit
open Pol (co Sm)

/-- A disk whose bytes are all durable, of a call's own. -/
def RefD (F : List Nat) (w : World) (e : Ending) (w' : World) : Prop := Ext w w' ∧ ∃ A n c, e = .returned (.agg #[.slice A n c, .slice none 0 0]) ∧ St w.heap.size w' A n c F
theorem disk24_in (a b : Value) : (Try.prog.info? 24).map (·.size) = some (#[a, b] : Array Value).size := by kernel_rfl
theorem disk24_one (B1 B2 : Option Addr) (n1 n2 c1 c2 : Nat) : (#[Value.slice B1 n1 c1, .slice B2 n2 c2] : Array Value).all (·.oneCell') = true := by simp [Value.oneCell']
theorem set_end (F L : List Nat) (m x : Nat) (h : m < L.length) : (F ++ L.take (m + 1)).set (F.length + m) (co L m ^^^ x) = F ++ crs L (m + 1) x := by
  rw [crs_some, List.set_append_right _ _ (by omega), Nat.add_sub_cancel_left, set_last L m _ h]
set_option maxHeartbeats 1600000 in
set_option maxRecDepth 100000 in
theorem ref12_crash {F L : List Nat} {A B : Option Addr} {nf ca nl cb : Nat} (k : Int) (x : Nat) (w : World) (hf : F.length = nf) (hl : L.length = nl) (rf : Rd w A F) (rl : Rd w B L) (h1 : nf ≤ 65536) (h2 : nl ≤ 65536) (hcb : nl ≤ cb) (hx : x < 256) :
    Calls Try.prog 24 #[.agg #[.slice A nf ca, .slice B nl cb], .int .i64 k, .int .u8 (x : Int)] w (RefD (F ++ crs L (kept k nl) x) w) := by
  unfold RefD
  have HF := Lib.hid hf
  have HL := Lib.hid hl
  have HRF := Lib.hid rf
  have HRL := Lib.hid rl
  have HLE := Lib.hid (And.intro h1 h2)
  have HXB := Lib.hid hx
  have HSM := Lib.hid (And.intro rf.1 rl.1)
  have hx1 := ((Ext.refl w).alloc (.cells #[.slice A nf ca, .slice B nl cb] 24)).alloc (.cells #[.slice none 0 0, .slice none 0 0] 24)
  have hb1 := ((Ext.refl (w.alloc (.cells #[.slice A nf ca, .slice B nl cb] 24))).alloc (.cells #[.slice none 0 0, .slice none 0 0] 24)).row (heap_alloc_new w (.cells #[.slice A nf ca, .slice B nl cb] 24))
  have hb2 := heap_alloc_new (w.alloc (.cells #[.slice A nf ca, .slice B nl cb] 24)) (.cells #[.slice none 0 0, .slice none 0 0] 24)
  have hsz : (w.alloc (.cells #[.slice A nf ca, .slice B nl cb] 24)).heap.size = w.heap.size + 1 := by simp
  have hsz2 : ((w.alloc (.cells #[.slice A nf ca, .slice B nl cb] 24)).alloc (.cells #[.slice none 0 0, .slice none 0 0] 24)).heap.size = w.heap.size + 2 := by simp
  rw [hsz] at hb2
  have HX1 := Lib.hid hx1
  have HT1 := Lib.hid (twoR_of hb1)
  have HB2 := Lib.hid hb2
  have HZ2 := Lib.hid hsz2
  clear hf hl rf rl hx1 hb1 hb2 hsz hsz2 hx
  rcases Int.lt_or_le k 0 with hk | hk
  · have e0 : kept k nl = 0 := by unfold kept; rw [if_pos (by omega)]
    have c1 : ¬ (nl : Int) < k := by omega
    have HK := Lib.hid e0
    clear e0
    have hvl : (0 : Nat) ≤ nl := Nat.zero_le _
    have d1 : decide ((0 : Int) < (0 : Int)) = false := by decide
    have hs := run_to_u8 B nl cb 0 (by omega)
    have HTK := Lib.hid (show (L.take 0).length = 0 from by rw [List.length_take]; have := HL.out; omega)
    have HST := Lib.hid (sm12_take HSM.out.2 0)
    have HSA := Lib.hid (show Sm (F ++ L.take 0) from sm12_app HSM.out.1 (sm12_take HSM.out.2 0))
    have HLA := Lib.hid (show (F ++ L.take 0).length = nf from by rw [List.length_append, HTK.out, HF.out, Nat.add_zero])
    have HS := Lib.hid hs
    clear hs
    have hs := HS.out
    go_enter Try.func24, Try.ntmps24
    have hcl := HT1.out.2
    go_wp2
    obtain ⟨g, hg⟩ : ∃ g, w.heap.size = g := ⟨_, rfl⟩
    have HG := Lib.hid hg
    rw [hg] at HT1 HB2 HZ2 ⊢
    clear hg hcl c1
    have HD := Lib.hid d1
    clear d1
    generalize (w.alloc (.cells #[.slice A nf ca, .slice B nl cb] 24)).alloc (.cells #[.slice none 0 0, .slice none 0 0] 24) = w1 at HX1 HT1 HB2 HZ2 ⊢
    refine wp_region_plan (TwoR g (.slice A nf ca) (.slice B nl cb)) [0, 1, 2, 3, 4, 5, 6, 7, 8] (.yes 1 (.yes 2 (.yes 4 (.yes 5 (.yes 6 (.yes 7 (.one 0 (.one 3 (.one 8 (.one 9 .done)))))))))) (by kernel_rfl) (fun c a a' w e h => ⟨e ▸ h.1, h.2⟩) (by kernel_rfl) HT1.out ?_
    refine plan_yes rfl (fun K hK => ?_); go_simp; refine ⟨_, fun _ _ => rfl, hK _ ?_⟩; clear hK K
    refine plan_yes rfl (fun K hK => ?_); go_simp; refine ⟨.slice A nf ca, fun W hW => ?_, hK _ ?_⟩
    · have h1 := hW.1
      go_simp
    clear hK K
    refine plan_yes rfl (fun K hK => ?_); go_simp; refine ⟨_, fun _ _ => rfl, hK _ ?_⟩; clear hK K
    refine plan_yes rfl (fun K hK => ?_); go_simp; refine ⟨.slice B nl cb, fun W hW => ?_, hK _ ?_⟩
    · have h1 := hW.2
      go_simp
    clear hK K
    refine plan_yes rfl (fun K hK => ?_); go_simp; refine ⟨_, fun _ _ => rfl, hK _ ?_⟩; clear hK K
    refine plan_yes rfl (fun K hK => ?_); go_simp; refine ⟨.slice B 0 cb, fun W hW => ?_, hK _ ?_⟩
    · have hs := HS.out
      go_simp
    clear hK K hs
    have HX2 := Lib.hid (show Ext w w1.drew from HX1.out.drew)
    have HT2 := Lib.hid (show TwoR g (.slice A nf ca) (.slice B nl cb) w1.drew from HT1.out)
    have HB3 := Lib.hid (show w1.drew.heap[g + 1]? = _ from HB2.out)
    have HZ3 := Lib.hid (show w1.drew.heap.size = g + 2 from HZ2.out)
    generalize w1.drew = w2 at HX2 HT2 HB3 HZ3 ⊢
    have HM2 := Lib.hid (mine_empty w2)
    have HXA := Lib.hid ((Ext.refl w2).alloc (.cells #[] 5))
    refine plan_one rfl (fun K hK => ?_)
    go_wp2
    refine ⟨fun _ => HT2.out.ext HXA.out, ?_⟩
    refine plan_one rfl (fun K hK => ?_)
    go_wp2_with (at_builtin; refine wpList_append_new rfl (.tmp 15) (.tmp 17) rfl w2.heap.size w2.heap.size F rfl HM2.out A nf ca rfl HF.out (HRF.out.ext (HX2.out.trans HXA.out)) (by have := HF.out; have := HLE.out; omega) HXA.out.size ?_; intro v3 w3 hm3 hx3 _; obtain ⟨A3, n3, c3, ev, hst⟩ := hm3.st HSM.out.1; subst ev; have HM3 := Lib.hid hm3; have HX3 := Lib.hid (HX2.out.trans (HXA.out.trans hx3)); have HT3 := Lib.hid ((HT2.out.ext HXA.out).ext hx3); have HS3 := Lib.hid (HXA.out.trans hx3).size; have HB4 := Lib.hid ((HXA.out.trans hx3).row HB3.out); clear hm3 hx3 hst)
    refine ⟨fun _ => HT3.out, ?_⟩
    refine plan_one rfl (fun K hK => ?_)
    go_wp2_with (at_builtin; refine wpList_append_rd rfl (.tmp 18) (.tmp 22) rfl w2.heap.size (.slice A3 n3 c3) F (L.take 0) rfl HM3.out B 0 cb rfl HTK.out ((HRL.out.ext HX3.out).take 0) (by have := HF.out; have := HTK.out; have := HLE.out; omega) HS3.out ?_; intro v4 w4 hm4 hg4 _; obtain ⟨A4, n4, c4, ev, hst⟩ := hm4.st HSA.out; have en4 := HLA.out.symm.trans hst.len; subst en4; subst ev; have HM4 := Lib.hid hm4; have HX4 := Lib.hid (HX3.out.more hg4 (fun q hq => Nat.le_trans HX2.out.size (HM3.out.block q hq).1)); have HBG := Lib.hid (fun b (hb : b < g + 2) => hg4.block b (Nat.lt_of_lt_of_le (by have := HZ3.out; omega) HS3.out) (fun e => by have h1 := (HM3.out.block b e.symm).1; have h2 := HZ3.out; omega)); have HB5 := Lib.hid ((hg4.block (g + 1) (row_lt HB4.out) (fun e => by have h1 := (HM3.out.block (g + 1) e.symm).1; have h2 := HZ3.out; omega)).trans HB4.out); clear hm4 hg4 hst)
    refine ⟨fun _ => ?_, ?_⟩
    · have hc := HT3.out
      have hn : ∀ o v, w3.cell? ⟨g, o, none⟩ = some v → w4.cell? ⟨g, o, none⟩ = some v := fun o v h => by
        exact (World.cell?_of_block (a := ⟨g, o, none⟩) (HBG.out g (by omega))).trans h
      exact ⟨hn _ _ hc.1, hn _ _ hc.2⟩
    refine plan_one rfl (fun K hK => ?_)
    go_wp2
    refine ⟨fun h => absurd h (by decide), ?_⟩
    unfold wpPlan
    have HBX := HB5
    have HM5 := HM4
    have HX5 := HX4
    have HSE := Lib.hid (show F ++ L.take 0 = F ++ crs L (kept k nl) x from by rw [HK.out, List.take_zero, crs_none])
    have HSX := Lib.hid (show Sm (F ++ crs L (kept k nl) x) from sm12_app HSM.out.1 (crs_sm HSM.out.2 _ HXB.out))
    rw [HSE.out] at HM5
    have hone := disk24_one A4 none nf 0 c4 0
    have hin := disk24_in (.slice A4 nf c4) (.slice none 0 0)
    have hsz : (#[.slice none 0 0, .slice none 0 0] : Array Value).size = (#[.slice A4 nf c4, .slice none 0 0] : Array Value).size := rfl
    go_wp2_with (with_reducible refine wpList_store_all rfl 24 (.tmp 6) (.tmp 40) rfl (g + 1) _ #[.slice A4 nf c4, .slice none 0 0] rfl rfl HBX.out hin hsz hone ?_)
    have hg5 := setRow_heap w4 (g + 1) _ #[.slice A4 nf c4, .slice none 0 0] _ _ HBX.out
    have ho5 : Only (fun k => k = g + 1) w4 (w4.setRow (g + 1) #[.slice A4 nf c4, .slice none 0 0]) := Only.of_grown (grown_block w4 _ _) (fun k e => by injection e with e; exact e.symm)
    refine bodyPost_ret (results_cell_row Try.results24 _ _ (g + 1) 24 _ (0, 0) _ rfl hg5 Try.underlying24 rfl (disk24_in _ _)) rfl ?_
    refine ⟨ho5.ext HX5.out (fun k hk => by rw [hk, HG.out]; omega), A4, nf, c4, rfl, ?_⟩
    exact ((HM5.out.keep9 (grown_block w4 (g + 1) _) (fun k hk e => by injection e with e; have h1 := (HM5.out.block k hk).1; have h2 := HZ3.out; omega)).down (base' := w.heap.size) (by have h2 := HZ3.out; have h3 := HG.out; omega)).stAt HSX.out
  · obtain ⟨q, rfl⟩ : ∃ q : Nat, k = (q : Int) := ⟨k.toNat, by omega⟩
    have e0 : kept (q : Int) nl = min q nl := by unfold kept; split <;> omega
    clear hk
    rcases Nat.lt_or_ge nl q with hc | hc
    · have c1 : (nl : Int) < (q : Int) := by omega
      have HK := Lib.hid (show kept (q : Int) nl = nl from by omega)
      have HCC := Lib.hid hc
      clear e0 hc
      rcases Nat.eq_zero_or_pos nl with hv | hv
      · skip
        have hvl : nl ≤ nl := by have := HCC.out; omega
        have HV := Lib.hid hv
        have d1 : decide ((0 : Int) < (nl : Int)) = false := decide_eq_false (by omega)
        have d2 : ¬ (0 : Int) < (nl : Int) := by omega
        clear hv
        have hs := run_to_u8 B nl cb 0 (by omega)
        have HTK := Lib.hid (show (L.take 0).length = 0 from by rw [List.length_take]; have := HL.out; omega)
        have HST := Lib.hid (sm12_take HSM.out.2 0)
        have HSA := Lib.hid (show Sm (F ++ L.take 0) from sm12_app HSM.out.1 (sm12_take HSM.out.2 0))
        have HLA := Lib.hid (show (F ++ L.take 0).length = nf from by rw [List.length_append, HTK.out, HF.out, Nat.add_zero])
        have HS := Lib.hid hs
        clear hs
        have hs := HS.out
        go_enter Try.func24, Try.ntmps24
        have hcl := HT1.out.2
        go_wp2
        obtain ⟨g, hg⟩ : ∃ g, w.heap.size = g := ⟨_, rfl⟩
        have HG := Lib.hid hg
        rw [hg] at HT1 HB2 HZ2 ⊢
        clear hg hcl c1
        have HD := Lib.hid (And.intro d1 d2)
        clear d1 d2
        generalize (w.alloc (.cells #[.slice A nf ca, .slice B nl cb] 24)).alloc (.cells #[.slice none 0 0, .slice none 0 0] 24) = w1 at HX1 HT1 HB2 HZ2 ⊢
        refine wp_region_plan (TwoR g (.slice A nf ca) (.slice B nl cb)) [0, 1, 2, 3, 4, 5, 6, 7, 8] (.yes 1 (.yes 2 (.yes 4 (.yes 5 (.yes 6 (.yes 7 (.one 0 (.one 3 (.one 8 (.one 9 .done)))))))))) (by kernel_rfl) (fun c a a' w e h => ⟨e ▸ h.1, h.2⟩) (by kernel_rfl) HT1.out ?_
        refine plan_yes rfl (fun K hK => ?_); go_simp; refine ⟨_, fun _ _ => rfl, hK _ ?_⟩; clear hK K
        refine plan_yes rfl (fun K hK => ?_); go_simp; refine ⟨.slice A nf ca, fun W hW => ?_, hK _ ?_⟩
        · have h1 := hW.1
          go_simp
        clear hK K
        refine plan_yes rfl (fun K hK => ?_); go_simp; refine ⟨_, fun _ _ => rfl, hK _ ?_⟩; clear hK K
        refine plan_yes rfl (fun K hK => ?_); go_simp; refine ⟨.slice B nl cb, fun W hW => ?_, hK _ ?_⟩
        · have h1 := hW.2
          go_simp
        clear hK K
        refine plan_yes rfl (fun K hK => ?_); go_simp; refine ⟨_, fun _ _ => rfl, hK _ ?_⟩; clear hK K
        refine plan_yes rfl (fun K hK => ?_); go_simp; refine ⟨.slice B 0 cb, fun W hW => ?_, hK _ ?_⟩
        · have hs := HS.out
          go_simp
        clear hK K hs
        have HX2 := Lib.hid (show Ext w w1.drew from HX1.out.drew)
        have HT2 := Lib.hid (show TwoR g (.slice A nf ca) (.slice B nl cb) w1.drew from HT1.out)
        have HB3 := Lib.hid (show w1.drew.heap[g + 1]? = _ from HB2.out)
        have HZ3 := Lib.hid (show w1.drew.heap.size = g + 2 from HZ2.out)
        generalize w1.drew = w2 at HX2 HT2 HB3 HZ3 ⊢
        have HM2 := Lib.hid (mine_empty w2)
        have HXA := Lib.hid ((Ext.refl w2).alloc (.cells #[] 5))
        refine plan_one rfl (fun K hK => ?_)
        go_wp2
        refine ⟨fun _ => HT2.out.ext HXA.out, ?_⟩
        refine plan_one rfl (fun K hK => ?_)
        go_wp2_with (at_builtin; refine wpList_append_new rfl (.tmp 15) (.tmp 17) rfl w2.heap.size w2.heap.size F rfl HM2.out A nf ca rfl HF.out (HRF.out.ext (HX2.out.trans HXA.out)) (by have := HF.out; have := HLE.out; omega) HXA.out.size ?_; intro v3 w3 hm3 hx3 _; obtain ⟨A3, n3, c3, ev, hst⟩ := hm3.st HSM.out.1; subst ev; have HM3 := Lib.hid hm3; have HX3 := Lib.hid (HX2.out.trans (HXA.out.trans hx3)); have HT3 := Lib.hid ((HT2.out.ext HXA.out).ext hx3); have HS3 := Lib.hid (HXA.out.trans hx3).size; have HB4 := Lib.hid ((HXA.out.trans hx3).row HB3.out); clear hm3 hx3 hst)
        refine ⟨fun _ => HT3.out, ?_⟩
        refine plan_one rfl (fun K hK => ?_)
        go_wp2_with (at_builtin; refine wpList_append_rd rfl (.tmp 18) (.tmp 22) rfl w2.heap.size (.slice A3 n3 c3) F (L.take 0) rfl HM3.out B 0 cb rfl HTK.out ((HRL.out.ext HX3.out).take 0) (by have := HF.out; have := HTK.out; have := HLE.out; omega) HS3.out ?_; intro v4 w4 hm4 hg4 _; obtain ⟨A4, n4, c4, ev, hst⟩ := hm4.st HSA.out; have en4 := HLA.out.symm.trans hst.len; subst en4; subst ev; have HM4 := Lib.hid hm4; have HX4 := Lib.hid (HX3.out.more hg4 (fun q hq => Nat.le_trans HX2.out.size (HM3.out.block q hq).1)); have HBG := Lib.hid (fun b (hb : b < g + 2) => hg4.block b (Nat.lt_of_lt_of_le (by have := HZ3.out; omega) HS3.out) (fun e => by have h1 := (HM3.out.block b e.symm).1; have h2 := HZ3.out; omega)); have HB5 := Lib.hid ((hg4.block (g + 1) (row_lt HB4.out) (fun e => by have h1 := (HM3.out.block (g + 1) e.symm).1; have h2 := HZ3.out; omega)).trans HB4.out); clear hm4 hg4 hst)
        refine ⟨fun _ => ?_, ?_⟩
        · have hc := HT3.out
          have hn : ∀ o v, w3.cell? ⟨g, o, none⟩ = some v → w4.cell? ⟨g, o, none⟩ = some v := fun o v h => by
            exact (World.cell?_of_block (a := ⟨g, o, none⟩) (HBG.out g (by omega))).trans h
          exact ⟨hn _ _ hc.1, hn _ _ hc.2⟩
        refine plan_one rfl (fun K hK => ?_)
        go_wp2
        refine ⟨fun h => absurd h (by decide), ?_⟩
        unfold wpPlan
        have HBX := HB5
        have HM5 := HM4
        have HX5 := HX4
        have HSE := Lib.hid (show F ++ L.take 0 = F ++ crs L (kept (q : Int) nl) x from by rw [HK.out, HV.out, List.take_zero, crs_none])
        have HSX := Lib.hid (show Sm (F ++ crs L (kept (q : Int) nl) x) from sm12_app HSM.out.1 (crs_sm HSM.out.2 _ HXB.out))
        rw [HSE.out] at HM5
        have hone := disk24_one A4 none nf 0 c4 0
        have hin := disk24_in (.slice A4 nf c4) (.slice none 0 0)
        have hsz : (#[.slice none 0 0, .slice none 0 0] : Array Value).size = (#[.slice A4 nf c4, .slice none 0 0] : Array Value).size := rfl
        go_wp2_with (with_reducible refine wpList_store_all rfl 24 (.tmp 6) (.tmp 40) rfl (g + 1) _ #[.slice A4 nf c4, .slice none 0 0] rfl rfl HBX.out hin hsz hone ?_)
        have hg5 := setRow_heap w4 (g + 1) _ #[.slice A4 nf c4, .slice none 0 0] _ _ HBX.out
        have ho5 : Only (fun k => k = g + 1) w4 (w4.setRow (g + 1) #[.slice A4 nf c4, .slice none 0 0]) := Only.of_grown (grown_block w4 _ _) (fun k e => by injection e with e; exact e.symm)
        refine bodyPost_ret (results_cell_row Try.results24 _ _ (g + 1) 24 _ (0, 0) _ rfl hg5 Try.underlying24 rfl (disk24_in _ _)) rfl ?_
        refine ⟨ho5.ext HX5.out (fun k hk => by rw [hk, HG.out]; omega), A4, nf, c4, rfl, ?_⟩
        exact ((HM5.out.keep9 (grown_block w4 (g + 1) _) (fun k hk e => by injection e with e; have h1 := (HM5.out.block k hk).1; have h2 := HZ3.out; omega)).down (base' := w.heap.size) (by have h2 := HZ3.out; have h3 := HG.out; omega)).stAt HSX.out
      · skip
        have hvl : nl ≤ nl := by have := HCC.out; omega
        obtain ⟨m, hm⟩ : ∃ m, nl = m + 1 := ⟨nl - 1, by omega⟩
        have HM := Lib.hid hm
        have d1 : decide ((0 : Int) < (nl : Int)) = true := decide_eq_true (by omega)
        have d2 : (0 : Int) < (nl : Int) := by omega
        clear hv hm
        have hs := run_to_u8 B nl cb nl (by omega)
        have HTK := Lib.hid (show (L.take nl).length = nl from by rw [List.length_take]; have := HL.out; omega)
        have HST := Lib.hid (sm12_take HSM.out.2 nl)
        have HSA := Lib.hid (show Sm (F ++ L.take nl) from sm12_app HSM.out.1 (sm12_take HSM.out.2 nl))
        have HLA := Lib.hid (show (F ++ L.take nl).length = (nf + nl) from by rw [List.length_append, HTK.out, HF.out])
        have HS := Lib.hid hs
        clear hs
        have hs := HS.out
        go_enter Try.func24, Try.ntmps24
        have hcl := HT1.out.2
        go_wp2
        obtain ⟨g, hg⟩ : ∃ g, w.heap.size = g := ⟨_, rfl⟩
        have HG := Lib.hid hg
        rw [hg] at HT1 HB2 HZ2 ⊢
        clear hg hcl c1
        have HD := Lib.hid (And.intro d1 d2)
        clear d1 d2
        generalize (w.alloc (.cells #[.slice A nf ca, .slice B nl cb] 24)).alloc (.cells #[.slice none 0 0, .slice none 0 0] 24) = w1 at HX1 HT1 HB2 HZ2 ⊢
        refine wp_region_plan (TwoR g (.slice A nf ca) (.slice B nl cb)) [0, 1, 2, 3, 4, 5, 6, 7, 8] (.yes 1 (.yes 2 (.yes 4 (.yes 5 (.yes 6 (.yes 7 (.one 0 (.one 3 (.one 8 (.one 9 .done)))))))))) (by kernel_rfl) (fun c a a' w e h => ⟨e ▸ h.1, h.2⟩) (by kernel_rfl) HT1.out ?_
        refine plan_yes rfl (fun K hK => ?_); go_simp; refine ⟨_, fun _ _ => rfl, hK _ ?_⟩; clear hK K
        refine plan_yes rfl (fun K hK => ?_); go_simp; refine ⟨.slice A nf ca, fun W hW => ?_, hK _ ?_⟩
        · have h1 := hW.1
          go_simp
        clear hK K
        refine plan_yes rfl (fun K hK => ?_); go_simp; refine ⟨_, fun _ _ => rfl, hK _ ?_⟩; clear hK K
        refine plan_yes rfl (fun K hK => ?_); go_simp; refine ⟨.slice B nl cb, fun W hW => ?_, hK _ ?_⟩
        · have h1 := hW.2
          go_simp
        clear hK K
        refine plan_yes rfl (fun K hK => ?_); go_simp; refine ⟨_, fun _ _ => rfl, hK _ ?_⟩; clear hK K
        refine plan_yes rfl (fun K hK => ?_); go_simp; refine ⟨.slice B nl cb, fun W hW => ?_, hK _ ?_⟩
        · have hs := HS.out
          go_simp
        clear hK K hs
        have HX2 := Lib.hid (show Ext w w1.drew from HX1.out.drew)
        have HT2 := Lib.hid (show TwoR g (.slice A nf ca) (.slice B nl cb) w1.drew from HT1.out)
        have HB3 := Lib.hid (show w1.drew.heap[g + 1]? = _ from HB2.out)
        have HZ3 := Lib.hid (show w1.drew.heap.size = g + 2 from HZ2.out)
        generalize w1.drew = w2 at HX2 HT2 HB3 HZ3 ⊢
        have HM2 := Lib.hid (mine_empty w2)
        have HXA := Lib.hid ((Ext.refl w2).alloc (.cells #[] 5))
        refine plan_one rfl (fun K hK => ?_)
        go_wp2
        refine ⟨fun _ => HT2.out.ext HXA.out, ?_⟩
        refine plan_one rfl (fun K hK => ?_)
        go_wp2_with (at_builtin; refine wpList_append_new rfl (.tmp 15) (.tmp 17) rfl w2.heap.size w2.heap.size F rfl HM2.out A nf ca rfl HF.out (HRF.out.ext (HX2.out.trans HXA.out)) (by have := HF.out; have := HLE.out; omega) HXA.out.size ?_; intro v3 w3 hm3 hx3 _; obtain ⟨A3, n3, c3, ev, hst⟩ := hm3.st HSM.out.1; subst ev; have HM3 := Lib.hid hm3; have HX3 := Lib.hid (HX2.out.trans (HXA.out.trans hx3)); have HT3 := Lib.hid ((HT2.out.ext HXA.out).ext hx3); have HS3 := Lib.hid (HXA.out.trans hx3).size; have HB4 := Lib.hid ((HXA.out.trans hx3).row HB3.out); clear hm3 hx3 hst)
        refine ⟨fun _ => HT3.out, ?_⟩
        refine plan_one rfl (fun K hK => ?_)
        go_wp2_with (at_builtin; refine wpList_append_rd rfl (.tmp 18) (.tmp 22) rfl w2.heap.size (.slice A3 n3 c3) F (L.take nl) rfl HM3.out B nl cb rfl HTK.out ((HRL.out.ext HX3.out).take nl) (by have := HF.out; have := HTK.out; have := HLE.out; omega) HS3.out ?_; intro v4 w4 hm4 hg4 _; obtain ⟨A4, n4, c4, ev, hst⟩ := hm4.st HSA.out; have en4 := HLA.out.symm.trans hst.len; subst en4; subst ev; have HM4 := Lib.hid hm4; have HX4 := Lib.hid (HX3.out.more hg4 (fun q hq => Nat.le_trans HX2.out.size (HM3.out.block q hq).1)); have HBG := Lib.hid (fun b (hb : b < g + 2) => hg4.block b (Nat.lt_of_lt_of_le (by have := HZ3.out; omega) HS3.out) (fun e => by have h1 := (HM3.out.block b e.symm).1; have h2 := HZ3.out; omega)); have HB5 := Lib.hid ((hg4.block (g + 1) (row_lt HB4.out) (fun e => by have h1 := (HM3.out.block (g + 1) e.symm).1; have h2 := HZ3.out; omega)).trans HB4.out); clear hm4 hg4 hst)
        refine ⟨fun _ => ?_, ?_⟩
        · have hc := HT3.out
          have hn : ∀ o v, w3.cell? ⟨g, o, none⟩ = some v → w4.cell? ⟨g, o, none⟩ = some v := fun o v h => by
            exact (World.cell?_of_block (a := ⟨g, o, none⟩) (HBG.out g (by omega))).trans h
          exact ⟨hn _ _ hc.1, hn _ _ hc.2⟩
        refine plan_one rfl (fun K hK => ?_)
        go_wp2
        refine ⟨fun h => absurd h (by decide), ?_⟩
        unfold wpPlan
        obtain ⟨d1, d2⟩ := HD.out
        obtain ⟨gl, n5, c5, e5, hcell, hfz⟩ := HM4.out.spot HSA.out (i := nf + m) (by rw [HLA.out]; have := HM.out; omega)
        injection e5 with e1 e2 e3
        subst e1; subst e2; subst e3
        rw [show co (F ++ L.take nl) (nf + m) = co L m from by rw [co12_right F _ _ (by have := HF.out; omega), show nf + m - F.length = m from by have := HF.out; omega, co12_take L _ m (by have := HM.out; omega)]] at hcell
        have ex := u8_xor_nat (co L m) x (HSM.out.2 m) HXB.out
        have him : nf + m = nf + nl - 1 := by have := HM.out; omega
        rw [him] at hcell hfz
        have HIM := Lib.hid him
        clear him
        have HBX0 := Lib.hid ((heap_setCell_other w4 ⟨gl, nf + nl - 1, none⟩ (g + 1) (.int .u8 ((co L m ^^^ x : Nat) : Int)) (by have h1 := (HM4.out.block gl rfl).1; have h2 := HZ3.out; show g + 1 ≠ gl; omega)).trans HB5.out)
        have HBX := HBX0
        have HM5 := Lib.hid (HM4.out.put (i := nf + nl - 1) (x := co L m ^^^ x) (by rw [HLA.out]; have := HIM.out; have := HM.out; omega))
        have HSE := Lib.hid (show (F ++ L.take nl).set (nf + nl - 1) (co L m ^^^ x) = F ++ crs L (kept (q : Int) nl) x from by
          rw [HK.out, ← HIM.out, HM.out, ← HF.out]
          exact set_end F L m x (by have := HL.out; have := HM.out; omega))
        have HSX := Lib.hid (show Sm (F ++ crs L (kept (q : Int) nl) x) from sm12_app HSM.out.1 (crs_sm HSM.out.2 _ HXB.out))
        have HX5 := Lib.hid (show Ext w (w4.setCell ⟨gl, nf + nl - 1, none⟩ (.int .u8 ((co L m ^^^ x : Nat) : Int))) from HX4.out.setCell (by have h1 := (HM4.out.block gl rfl).1; have h2 := HZ3.out; have h3 := HG.out; show w.heap.size ≤ gl; omega) _)
        rw [HSE.out] at HM5
        have hone := disk24_one (some ⟨gl, 0, none⟩) none (nf + nl) 0 c4 0
        have hin := disk24_in (.slice (some ⟨gl, 0, none⟩) (nf + nl) c4) (.slice none 0 0)
        have hsz : (#[.slice none 0 0, .slice none 0 0] : Array Value).size = (#[.slice (some ⟨gl, 0, none⟩) (nf + nl) c4, .slice none 0 0] : Array Value).size := rfl
        go_wp2_with (with_reducible refine wpList_store_all rfl 24 (.tmp 6) (.tmp 40) rfl (g + 1) _ #[.slice (some ⟨gl, 0, none⟩) (nf + nl) c4, .slice none 0 0] rfl rfl HBX.out hin hsz hone ?_)
        have hg5 := setRow_heap (w4.setCell ⟨gl, nf + nl - 1, none⟩ (.int .u8 ((co L m ^^^ x : Nat) : Int))) (g + 1) _ #[.slice (some ⟨gl, 0, none⟩) (nf + nl) c4, .slice none 0 0] _ _ HBX.out
        have ho5 : Only (fun k => k = g + 1) (w4.setCell ⟨gl, nf + nl - 1, none⟩ (.int .u8 ((co L m ^^^ x : Nat) : Int))) ((w4.setCell ⟨gl, nf + nl - 1, none⟩ (.int .u8 ((co L m ^^^ x : Nat) : Int))).setRow (g + 1) #[.slice (some ⟨gl, 0, none⟩) (nf + nl) c4, .slice none 0 0]) := Only.of_grown (grown_block (w4.setCell ⟨gl, nf + nl - 1, none⟩ (.int .u8 ((co L m ^^^ x : Nat) : Int))) _ _) (fun k e => by injection e with e; exact e.symm)
        refine bodyPost_ret (results_cell_row Try.results24 _ _ (g + 1) 24 _ (0, 0) _ rfl hg5 Try.underlying24 rfl (disk24_in _ _)) rfl ?_
        refine ⟨ho5.ext HX5.out (fun k hk => by rw [hk, HG.out]; omega), (some ⟨gl, 0, none⟩), (nf + nl), c4, rfl, ?_⟩
        exact ((HM5.out.keep9 (grown_block (w4.setCell ⟨gl, nf + nl - 1, none⟩ (.int .u8 ((co L m ^^^ x : Nat) : Int))) (g + 1) _) (fun k hk e => by injection e with e; have h1 := (HM5.out.block k hk).1; have h2 := HZ3.out; omega)).down (base' := w.heap.size) (by have h2 := HZ3.out; have h3 := HG.out; omega)).stAt HSX.out
    · have c1 : ¬ (nl : Int) < (q : Int) := by omega
      have HK := Lib.hid (show kept (q : Int) nl = q from by omega)
      have HCC := Lib.hid hc
      clear e0 hc
      rcases Nat.eq_zero_or_pos q with hv | hv
      · skip
        have hvl : q ≤ nl := by have := HCC.out; omega
        have HV := Lib.hid hv
        have d1 : decide ((0 : Int) < (q : Int)) = false := decide_eq_false (by omega)
        have d2 : ¬ (0 : Int) < (q : Int) := by omega
        clear hv
        have hs := run_to_u8 B nl cb 0 (by omega)
        have HTK := Lib.hid (show (L.take 0).length = 0 from by rw [List.length_take]; have := HL.out; omega)
        have HST := Lib.hid (sm12_take HSM.out.2 0)
        have HSA := Lib.hid (show Sm (F ++ L.take 0) from sm12_app HSM.out.1 (sm12_take HSM.out.2 0))
        have HLA := Lib.hid (show (F ++ L.take 0).length = nf from by rw [List.length_append, HTK.out, HF.out, Nat.add_zero])
        have HS := Lib.hid hs
        clear hs
        have hs := HS.out
        go_enter Try.func24, Try.ntmps24
        have hcl := HT1.out.2
        go_wp2
        obtain ⟨g, hg⟩ : ∃ g, w.heap.size = g := ⟨_, rfl⟩
        have HG := Lib.hid hg
        rw [hg] at HT1 HB2 HZ2 ⊢
        clear hg hcl c1
        have HD := Lib.hid (And.intro d1 d2)
        clear d1 d2
        generalize (w.alloc (.cells #[.slice A nf ca, .slice B nl cb] 24)).alloc (.cells #[.slice none 0 0, .slice none 0 0] 24) = w1 at HX1 HT1 HB2 HZ2 ⊢
        refine wp_region_plan (TwoR g (.slice A nf ca) (.slice B nl cb)) [0, 1, 2, 3, 4, 5, 6, 7, 8] (.yes 1 (.yes 2 (.yes 4 (.yes 5 (.yes 6 (.yes 7 (.one 0 (.one 3 (.one 8 (.one 9 .done)))))))))) (by kernel_rfl) (fun c a a' w e h => ⟨e ▸ h.1, h.2⟩) (by kernel_rfl) HT1.out ?_
        refine plan_yes rfl (fun K hK => ?_); go_simp; refine ⟨_, fun _ _ => rfl, hK _ ?_⟩; clear hK K
        refine plan_yes rfl (fun K hK => ?_); go_simp; refine ⟨.slice A nf ca, fun W hW => ?_, hK _ ?_⟩
        · have h1 := hW.1
          go_simp
        clear hK K
        refine plan_yes rfl (fun K hK => ?_); go_simp; refine ⟨_, fun _ _ => rfl, hK _ ?_⟩; clear hK K
        refine plan_yes rfl (fun K hK => ?_); go_simp; refine ⟨.slice B nl cb, fun W hW => ?_, hK _ ?_⟩
        · have h1 := hW.2
          go_simp
        clear hK K
        refine plan_yes rfl (fun K hK => ?_); go_simp; refine ⟨_, fun _ _ => rfl, hK _ ?_⟩; clear hK K
        refine plan_yes rfl (fun K hK => ?_); go_simp; refine ⟨.slice B 0 cb, fun W hW => ?_, hK _ ?_⟩
        · have hs := HS.out
          go_simp
        clear hK K hs
        have HX2 := Lib.hid (show Ext w w1.drew from HX1.out.drew)
        have HT2 := Lib.hid (show TwoR g (.slice A nf ca) (.slice B nl cb) w1.drew from HT1.out)
        have HB3 := Lib.hid (show w1.drew.heap[g + 1]? = _ from HB2.out)
        have HZ3 := Lib.hid (show w1.drew.heap.size = g + 2 from HZ2.out)
        generalize w1.drew = w2 at HX2 HT2 HB3 HZ3 ⊢
        have HM2 := Lib.hid (mine_empty w2)
        have HXA := Lib.hid ((Ext.refl w2).alloc (.cells #[] 5))
        refine plan_one rfl (fun K hK => ?_)
        go_wp2
        refine ⟨fun _ => HT2.out.ext HXA.out, ?_⟩
        refine plan_one rfl (fun K hK => ?_)
        go_wp2_with (at_builtin; refine wpList_append_new rfl (.tmp 15) (.tmp 17) rfl w2.heap.size w2.heap.size F rfl HM2.out A nf ca rfl HF.out (HRF.out.ext (HX2.out.trans HXA.out)) (by have := HF.out; have := HLE.out; omega) HXA.out.size ?_; intro v3 w3 hm3 hx3 _; obtain ⟨A3, n3, c3, ev, hst⟩ := hm3.st HSM.out.1; subst ev; have HM3 := Lib.hid hm3; have HX3 := Lib.hid (HX2.out.trans (HXA.out.trans hx3)); have HT3 := Lib.hid ((HT2.out.ext HXA.out).ext hx3); have HS3 := Lib.hid (HXA.out.trans hx3).size; have HB4 := Lib.hid ((HXA.out.trans hx3).row HB3.out); clear hm3 hx3 hst)
        refine ⟨fun _ => HT3.out, ?_⟩
        refine plan_one rfl (fun K hK => ?_)
        go_wp2_with (at_builtin; refine wpList_append_rd rfl (.tmp 18) (.tmp 22) rfl w2.heap.size (.slice A3 n3 c3) F (L.take 0) rfl HM3.out B 0 cb rfl HTK.out ((HRL.out.ext HX3.out).take 0) (by have := HF.out; have := HTK.out; have := HLE.out; omega) HS3.out ?_; intro v4 w4 hm4 hg4 _; obtain ⟨A4, n4, c4, ev, hst⟩ := hm4.st HSA.out; have en4 := HLA.out.symm.trans hst.len; subst en4; subst ev; have HM4 := Lib.hid hm4; have HX4 := Lib.hid (HX3.out.more hg4 (fun q hq => Nat.le_trans HX2.out.size (HM3.out.block q hq).1)); have HBG := Lib.hid (fun b (hb : b < g + 2) => hg4.block b (Nat.lt_of_lt_of_le (by have := HZ3.out; omega) HS3.out) (fun e => by have h1 := (HM3.out.block b e.symm).1; have h2 := HZ3.out; omega)); have HB5 := Lib.hid ((hg4.block (g + 1) (row_lt HB4.out) (fun e => by have h1 := (HM3.out.block (g + 1) e.symm).1; have h2 := HZ3.out; omega)).trans HB4.out); clear hm4 hg4 hst)
        refine ⟨fun _ => ?_, ?_⟩
        · have hc := HT3.out
          have hn : ∀ o v, w3.cell? ⟨g, o, none⟩ = some v → w4.cell? ⟨g, o, none⟩ = some v := fun o v h => by
            exact (World.cell?_of_block (a := ⟨g, o, none⟩) (HBG.out g (by omega))).trans h
          exact ⟨hn _ _ hc.1, hn _ _ hc.2⟩
        refine plan_one rfl (fun K hK => ?_)
        go_wp2
        refine ⟨fun h => absurd h (by decide), ?_⟩
        unfold wpPlan
        have HBX := HB5
        have HM5 := HM4
        have HX5 := HX4
        have HSE := Lib.hid (show F ++ L.take 0 = F ++ crs L (kept (q : Int) nl) x from by rw [HK.out, HV.out, List.take_zero, crs_none])
        have HSX := Lib.hid (show Sm (F ++ crs L (kept (q : Int) nl) x) from sm12_app HSM.out.1 (crs_sm HSM.out.2 _ HXB.out))
        rw [HSE.out] at HM5
        have hone := disk24_one A4 none nf 0 c4 0
        have hin := disk24_in (.slice A4 nf c4) (.slice none 0 0)
        have hsz : (#[.slice none 0 0, .slice none 0 0] : Array Value).size = (#[.slice A4 nf c4, .slice none 0 0] : Array Value).size := rfl
        go_wp2_with (with_reducible refine wpList_store_all rfl 24 (.tmp 6) (.tmp 40) rfl (g + 1) _ #[.slice A4 nf c4, .slice none 0 0] rfl rfl HBX.out hin hsz hone ?_)
        have hg5 := setRow_heap w4 (g + 1) _ #[.slice A4 nf c4, .slice none 0 0] _ _ HBX.out
        have ho5 : Only (fun k => k = g + 1) w4 (w4.setRow (g + 1) #[.slice A4 nf c4, .slice none 0 0]) := Only.of_grown (grown_block w4 _ _) (fun k e => by injection e with e; exact e.symm)
        refine bodyPost_ret (results_cell_row Try.results24 _ _ (g + 1) 24 _ (0, 0) _ rfl hg5 Try.underlying24 rfl (disk24_in _ _)) rfl ?_
        refine ⟨ho5.ext HX5.out (fun k hk => by rw [hk, HG.out]; omega), A4, nf, c4, rfl, ?_⟩
        exact ((HM5.out.keep9 (grown_block w4 (g + 1) _) (fun k hk e => by injection e with e; have h1 := (HM5.out.block k hk).1; have h2 := HZ3.out; omega)).down (base' := w.heap.size) (by have h2 := HZ3.out; have h3 := HG.out; omega)).stAt HSX.out
      · skip
        have hvl : q ≤ nl := by have := HCC.out; omega
        obtain ⟨m, hm⟩ : ∃ m, q = m + 1 := ⟨q - 1, by omega⟩
        have HM := Lib.hid hm
        have d1 : decide ((0 : Int) < (q : Int)) = true := decide_eq_true (by omega)
        have d2 : (0 : Int) < (q : Int) := by omega
        clear hv hm
        have hs := run_to_u8 B nl cb q (by omega)
        have HTK := Lib.hid (show (L.take q).length = q from by rw [List.length_take]; have := HL.out; omega)
        have HST := Lib.hid (sm12_take HSM.out.2 q)
        have HSA := Lib.hid (show Sm (F ++ L.take q) from sm12_app HSM.out.1 (sm12_take HSM.out.2 q))
        have HLA := Lib.hid (show (F ++ L.take q).length = (nf + q) from by rw [List.length_append, HTK.out, HF.out])
        have HS := Lib.hid hs
        clear hs
        have hs := HS.out
        go_enter Try.func24, Try.ntmps24
        have hcl := HT1.out.2
        go_wp2
        obtain ⟨g, hg⟩ : ∃ g, w.heap.size = g := ⟨_, rfl⟩
        have HG := Lib.hid hg
        rw [hg] at HT1 HB2 HZ2 ⊢
        clear hg hcl c1
        have HD := Lib.hid (And.intro d1 d2)
        clear d1 d2
        generalize (w.alloc (.cells #[.slice A nf ca, .slice B nl cb] 24)).alloc (.cells #[.slice none 0 0, .slice none 0 0] 24) = w1 at HX1 HT1 HB2 HZ2 ⊢
        refine wp_region_plan (TwoR g (.slice A nf ca) (.slice B nl cb)) [0, 1, 2, 3, 4, 5, 6, 7, 8] (.yes 1 (.yes 2 (.yes 4 (.yes 5 (.yes 6 (.yes 7 (.one 0 (.one 3 (.one 8 (.one 9 .done)))))))))) (by kernel_rfl) (fun c a a' w e h => ⟨e ▸ h.1, h.2⟩) (by kernel_rfl) HT1.out ?_
        refine plan_yes rfl (fun K hK => ?_); go_simp; refine ⟨_, fun _ _ => rfl, hK _ ?_⟩; clear hK K
        refine plan_yes rfl (fun K hK => ?_); go_simp; refine ⟨.slice A nf ca, fun W hW => ?_, hK _ ?_⟩
        · have h1 := hW.1
          go_simp
        clear hK K
        refine plan_yes rfl (fun K hK => ?_); go_simp; refine ⟨_, fun _ _ => rfl, hK _ ?_⟩; clear hK K
        refine plan_yes rfl (fun K hK => ?_); go_simp; refine ⟨.slice B nl cb, fun W hW => ?_, hK _ ?_⟩
        · have h1 := hW.2
          go_simp
        clear hK K
        refine plan_yes rfl (fun K hK => ?_); go_simp; refine ⟨_, fun _ _ => rfl, hK _ ?_⟩; clear hK K
        refine plan_yes rfl (fun K hK => ?_); go_simp; refine ⟨.slice B q cb, fun W hW => ?_, hK _ ?_⟩
        · have hs := HS.out
          go_simp
        clear hK K hs
        have HX2 := Lib.hid (show Ext w w1.drew from HX1.out.drew)
        have HT2 := Lib.hid (show TwoR g (.slice A nf ca) (.slice B nl cb) w1.drew from HT1.out)
        have HB3 := Lib.hid (show w1.drew.heap[g + 1]? = _ from HB2.out)
        have HZ3 := Lib.hid (show w1.drew.heap.size = g + 2 from HZ2.out)
        generalize w1.drew = w2 at HX2 HT2 HB3 HZ3 ⊢
        have HM2 := Lib.hid (mine_empty w2)
        have HXA := Lib.hid ((Ext.refl w2).alloc (.cells #[] 5))
        refine plan_one rfl (fun K hK => ?_)
        go_wp2
        refine ⟨fun _ => HT2.out.ext HXA.out, ?_⟩
        refine plan_one rfl (fun K hK => ?_)
        go_wp2_with (at_builtin; refine wpList_append_new rfl (.tmp 15) (.tmp 17) rfl w2.heap.size w2.heap.size F rfl HM2.out A nf ca rfl HF.out (HRF.out.ext (HX2.out.trans HXA.out)) (by have := HF.out; have := HLE.out; omega) HXA.out.size ?_; intro v3 w3 hm3 hx3 _; obtain ⟨A3, n3, c3, ev, hst⟩ := hm3.st HSM.out.1; subst ev; have HM3 := Lib.hid hm3; have HX3 := Lib.hid (HX2.out.trans (HXA.out.trans hx3)); have HT3 := Lib.hid ((HT2.out.ext HXA.out).ext hx3); have HS3 := Lib.hid (HXA.out.trans hx3).size; have HB4 := Lib.hid ((HXA.out.trans hx3).row HB3.out); clear hm3 hx3 hst)
        refine ⟨fun _ => HT3.out, ?_⟩
        refine plan_one rfl (fun K hK => ?_)
        go_wp2_with (at_builtin; refine wpList_append_rd rfl (.tmp 18) (.tmp 22) rfl w2.heap.size (.slice A3 n3 c3) F (L.take q) rfl HM3.out B q cb rfl HTK.out ((HRL.out.ext HX3.out).take q) (by have := HF.out; have := HTK.out; have := HLE.out; omega) HS3.out ?_; intro v4 w4 hm4 hg4 _; obtain ⟨A4, n4, c4, ev, hst⟩ := hm4.st HSA.out; have en4 := HLA.out.symm.trans hst.len; subst en4; subst ev; have HM4 := Lib.hid hm4; have HX4 := Lib.hid (HX3.out.more hg4 (fun q hq => Nat.le_trans HX2.out.size (HM3.out.block q hq).1)); have HBG := Lib.hid (fun b (hb : b < g + 2) => hg4.block b (Nat.lt_of_lt_of_le (by have := HZ3.out; omega) HS3.out) (fun e => by have h1 := (HM3.out.block b e.symm).1; have h2 := HZ3.out; omega)); have HB5 := Lib.hid ((hg4.block (g + 1) (row_lt HB4.out) (fun e => by have h1 := (HM3.out.block (g + 1) e.symm).1; have h2 := HZ3.out; omega)).trans HB4.out); clear hm4 hg4 hst)
        refine ⟨fun _ => ?_, ?_⟩
        · have hc := HT3.out
          have hn : ∀ o v, w3.cell? ⟨g, o, none⟩ = some v → w4.cell? ⟨g, o, none⟩ = some v := fun o v h => by
            exact (World.cell?_of_block (a := ⟨g, o, none⟩) (HBG.out g (by omega))).trans h
          exact ⟨hn _ _ hc.1, hn _ _ hc.2⟩
        refine plan_one rfl (fun K hK => ?_)
        go_wp2
        refine ⟨fun h => absurd h (by decide), ?_⟩
        unfold wpPlan
        obtain ⟨d1, d2⟩ := HD.out
        obtain ⟨gl, n5, c5, e5, hcell, hfz⟩ := HM4.out.spot HSA.out (i := nf + m) (by rw [HLA.out]; have := HM.out; omega)
        injection e5 with e1 e2 e3
        subst e1; subst e2; subst e3
        rw [show co (F ++ L.take q) (nf + m) = co L m from by rw [co12_right F _ _ (by have := HF.out; omega), show nf + m - F.length = m from by have := HF.out; omega, co12_take L _ m (by have := HM.out; omega)]] at hcell
        have ex := u8_xor_nat (co L m) x (HSM.out.2 m) HXB.out
        have him : nf + m = nf + q - 1 := by have := HM.out; omega
        rw [him] at hcell hfz
        have HIM := Lib.hid him
        clear him
        have HBX0 := Lib.hid ((heap_setCell_other w4 ⟨gl, nf + q - 1, none⟩ (g + 1) (.int .u8 ((co L m ^^^ x : Nat) : Int)) (by have h1 := (HM4.out.block gl rfl).1; have h2 := HZ3.out; show g + 1 ≠ gl; omega)).trans HB5.out)
        have HBX := HBX0
        have HM5 := Lib.hid (HM4.out.put (i := nf + q - 1) (x := co L m ^^^ x) (by rw [HLA.out]; have := HIM.out; have := HM.out; omega))
        have HSE := Lib.hid (show (F ++ L.take q).set (nf + q - 1) (co L m ^^^ x) = F ++ crs L (kept (q : Int) nl) x from by
          rw [HK.out, ← HIM.out, HM.out, ← HF.out]
          exact set_end F L m x (by have := HL.out; have := HM.out; omega))
        have HSX := Lib.hid (show Sm (F ++ crs L (kept (q : Int) nl) x) from sm12_app HSM.out.1 (crs_sm HSM.out.2 _ HXB.out))
        have HX5 := Lib.hid (show Ext w (w4.setCell ⟨gl, nf + q - 1, none⟩ (.int .u8 ((co L m ^^^ x : Nat) : Int))) from HX4.out.setCell (by have h1 := (HM4.out.block gl rfl).1; have h2 := HZ3.out; have h3 := HG.out; show w.heap.size ≤ gl; omega) _)
        rw [HSE.out] at HM5
        have hone := disk24_one (some ⟨gl, 0, none⟩) none (nf + q) 0 c4 0
        have hin := disk24_in (.slice (some ⟨gl, 0, none⟩) (nf + q) c4) (.slice none 0 0)
        have hsz : (#[.slice none 0 0, .slice none 0 0] : Array Value).size = (#[.slice (some ⟨gl, 0, none⟩) (nf + q) c4, .slice none 0 0] : Array Value).size := rfl
        go_wp2_with (with_reducible refine wpList_store_all rfl 24 (.tmp 6) (.tmp 40) rfl (g + 1) _ #[.slice (some ⟨gl, 0, none⟩) (nf + q) c4, .slice none 0 0] rfl rfl HBX.out hin hsz hone ?_)
        have hg5 := setRow_heap (w4.setCell ⟨gl, nf + q - 1, none⟩ (.int .u8 ((co L m ^^^ x : Nat) : Int))) (g + 1) _ #[.slice (some ⟨gl, 0, none⟩) (nf + q) c4, .slice none 0 0] _ _ HBX.out
        have ho5 : Only (fun k => k = g + 1) (w4.setCell ⟨gl, nf + q - 1, none⟩ (.int .u8 ((co L m ^^^ x : Nat) : Int))) ((w4.setCell ⟨gl, nf + q - 1, none⟩ (.int .u8 ((co L m ^^^ x : Nat) : Int))).setRow (g + 1) #[.slice (some ⟨gl, 0, none⟩) (nf + q) c4, .slice none 0 0]) := Only.of_grown (grown_block (w4.setCell ⟨gl, nf + q - 1, none⟩ (.int .u8 ((co L m ^^^ x : Nat) : Int))) _ _) (fun k e => by injection e with e; exact e.symm)
        refine bodyPost_ret (results_cell_row Try.results24 _ _ (g + 1) 24 _ (0, 0) _ rfl hg5 Try.underlying24 rfl (disk24_in _ _)) rfl ?_
        refine ⟨ho5.ext HX5.out (fun k hk => by rw [hk, HG.out]; omega), (some ⟨gl, 0, none⟩), (nf + q), c4, rfl, ?_⟩
        exact ((HM5.out.keep9 (grown_block (w4.setCell ⟨gl, nf + q - 1, none⟩ (.int .u8 ((co L m ^^^ x : Nat) : Int))) (g + 1) _) (fun k hk e => by injection e with e; have h1 := (HM5.out.block k hk).1; have h2 := HZ3.out; omega)).down (base' := w.heap.size) (by have h2 := HZ3.out; have h3 := HG.out; omega)).stAt HSX.out
end Go.Proofs.Ytfbnckecfapakaa

/-
  The laws' first call of layer 12. Conditions: none.
-/
namespace Go.Proofs.Ytfbnckecfapakaa
open Go.RowKit
open Pol (co Sm)

theorem al_nil12 : al [] = ([], 0) := al_er (e := 2) (by unfold nx; simp)
theorem aw_al : al (fl [[7]] ++ crs (fl [[8]]) (kept 3 7) 0) = ([[7]], 7) := by
  obtain ⟨e, he⟩ := nx_crs_cut [8] 3 0 (by decide)
  have e8 : fl [[8]] = fr [8] := by unfold fl; simp
  rw [e8, show kept 3 7 = 3 from by decide, al_app _ _ (fun t ht => by rw [List.mem_singleton.1 ht]; exact ⟨by decide, by decide⟩), al_er he]
  rfl
theorem ok7 : FrOk [7] ∧ FrOk [8] := ⟨⟨by decide, by decide⟩, ⟨by decide, by decide⟩⟩
theorem fl78 : (fl []).length = 0 ∧ (fl [[7]]).length = 7 ∧ (fl [[8]]).length = 7 ∧ (fl [[7], [8]]).length = 14 := ⟨rfl, rfl, rfl, rfl⟩
theorem rrd_one12 (w : World) (A : Option Addr) (n c : Nat) (l : List Nat) (hn : l.length = n) (hc : n ≤ c) (hr : Rd w A l) : RRd (w.alloc (.cells #[.slice A n c] 22)) (some ⟨w.heap.size, 0, none⟩) [l] := fun i hi => by
  have : i = 0 := by simpa using hi
  subst this
  subst hn
  refine ⟨w.heap.size, 0, A, c, rfl, ?_, hc, hr.ext ((Ext.refl w).alloc _)⟩
  rw [cell_of_row _ _ _ _ _ _ (heap_alloc_new w _)]
  rfl
set_option maxHeartbeats 1600000 in
set_option maxRecDepth 100000 in
theorem awake12 {I : LogP} (C : JournalSaid I) (w : World) : Calls Try.prog 9 #[] w (Holds w) := by
  have HC := Lib.hid C
  have HO := Lib.hid (lg_open C (F := []) (L := []) (A := none) (B := none) (nf := 0) (ca := 0) (nl := 0) (cb := 0) w rfl rfl (Rd.nil _ _) (Rd.nil _ _) (by decide))
  rw [List.append_nil, al_nil12] at HO
  clear C
  go_enter Try.func9, Try.ntmps9
  go_wp2_with fail
  refine HO.out.mono ?_
  rintro e w1 ⟨hx1, lb, X1, rfl, hg1, _⟩
  have HX1 := Lib.hid hx1
  have hxa := (Ext.refl w1).alloc (.cells #[.int .u8 7] 5)
  have HG1 := Lib.hid (Lg.ext HC.out hg1 hxa)
  have HXA := Lib.hid (hx1.trans hxa)
  have HR1 := Lib.hid (rd_one w1 7 (by decide))
  clear hx1 hg1 hxa
  go_wp2_with fail
  refine (lg_append_ok HC.out HG1.out ok7.1 (n := 1) rfl HR1.out (Nat.le_refl _) (by decide) HXA.out.size).mono ?_
  rintro e w2 ⟨ho2, rfl, hg2⟩
  have HX2 := Lib.hid (ho2.ext HXA.out (fun b hb => (HG1.out.2 b hb).1))
  have HG2 := Lib.hid hg2
  clear ho2 hg2
  go_wp2_with fail
  refine (lg_sync HC.out HG2.out (by decide) HX2.out.size).mono ?_
  rintro e w3 ⟨rfl, ho3, hg3⟩
  have HX3 := Lib.hid (ho3.ext HX2.out (fun b hb => (HG2.out.2 b hb).1))
  have hxb := (Ext.refl w3).alloc (.cells #[.int .u8 8] 5)
  have HG3 := Lib.hid (Lg.ext HC.out hg3 hxb)
  have HXB := Lib.hid (HX3.out.trans hxb)
  have HR3 := Lib.hid (rd_one w3 8 (by decide))
  clear ho3 hg3 hxb
  go_wp2_with fail
  refine (lg_append_ok HC.out HG3.out ok7.2 (n := 1) rfl HR3.out (Nat.le_refl _) (by decide) HXB.out.size).mono ?_
  rintro e w4 ⟨ho4, rfl, hg4⟩
  have HX4 := Lib.hid (ho4.ext HXB.out (fun b hb => (HG3.out.2 b hb).1))
  have HG4 := Lib.hid (show Lg I _ lb w4 [[7], [8]] 1 w.heap.size from hg4)
  clear ho4 hg4
  go_wp2_with fail
  refine (lg_disk HC.out HG4.out (by decide)).mono ?_
  rintro e w5 ⟨hx5, A5, nf, ca, B5, nl, cb, rfl, hs1, hs2⟩
  have HX5 := Lib.hid (HX4.out.trans hx5)
  have HG5 := Lib.hid (Lg.ext HC.out HG4.out hx5)
  have hnf := hs1.len
  have hnl := hs2.len
  rw [show fl (([[7], [8]] : List (List Nat)).take 1) = fl [[7]] from rfl] at hs1
  rw [show fl (([[7], [8]] : List (List Nat)).drop 1) = fl [[8]] from rfl] at hs2
  have HS1 := Lib.hid hs1
  have HS2 := Lib.hid hs2
  have hnf7 : nf = 7 := by rw [← hnf]; rfl
  have hnl7 : nl = 7 := by rw [← hnl]; rfl
  clear hs1 hs2 hx5 hnf hnl
  subst hnf7
  subst hnl7
  go_wp2_with fail
  refine (dk_crash HC.out 3 0 w5 HS1.out.len HS2.out.len HS1.out.rd HS2.out.rd (by decide) (by decide) HS2.out.cap (by decide)).mono ?_
  rintro e w6 ⟨hx6, A6, n6, c6, B6, m6, d6, rfl, hs1, hs2⟩
  have HX6 := Lib.hid (HX5.out.trans hx6)
  have HG6 := Lib.hid (Lg.ext HC.out HG5.out hx6)
  have HS3 := Lib.hid hs1
  have HS4 := Lib.hid hs2
  have hn6 : n6 = 10 := by rw [← hs1.len]; rfl
  have hm6 : m6 = 0 := by rw [← hs2.len]; rfl
  clear hs1 hs2 hx6
  subst hn6
  subst hm6
  have HO2 := Lib.hid (lg_open HC.out (ca := c6) (cb := d6) w6 HS3.out.len HS4.out.len HS3.out.rd HS4.out.rd (by decide))
  rw [List.append_nil, aw_al] at HO2
  go_wp2_with fail
  refine HO2.out.mono ?_
  rintro e w7 ⟨hx7, lc, X7, rfl, hg7, _⟩
  have HX7 := Lib.hid (HX6.out.trans hx7)
  have HG7 := Lib.hid (Lg.ext HC.out HG6.out hx7)
  have HM7 := Lib.hid hg7
  clear hx7 hg7
  go_wp2_with fail
  refine (lg_records HC.out HG7.out (by decide)).mono ?_
  rintro e w8 ⟨hx8, V8, n8, c8, rfl, hn8, _, _, _⟩
  have hn8' : n8 = 2 := hn8.symm
  subst hn8'
  have HX8 := Lib.hid (HX7.out.trans hx8)
  have HG8 := Lib.hid (Lg.ext HC.out HG7.out hx8)
  have HM8 := Lib.hid (Lg.ext HC.out HM7.out hx8)
  clear hx8 hn8
  go_wp2_with fail
  refine (lg_fast HC.out HG8.out).mono ?_
  rintro e w9 ⟨rfl, hx9⟩
  have HX9 := Lib.hid (HX8.out.trans hx9)
  have HM9 := Lib.hid (Lg.ext HC.out HM8.out hx9)
  clear hx9
  go_wp2_with fail
  refine (lg_records HC.out HM9.out (by decide)).mono ?_
  rintro e w10 ⟨hx10, V10, n10, c10, rfl, hn10, hc10, hr10, _⟩
  have hn10' : n10 = 1 := hn10.symm
  subst hn10'
  have HX10 := Lib.hid (HX9.out.trans hx10)
  have HR10 := Lib.hid hr10
  clear hx10 hn10 hc10 hr10
  have hxc := (Ext.refl w10).alloc (.cells #[.int .u8 7] 5)
  have hxd := hxc.alloc (.cells #[.slice (some ⟨w10.heap.size, 0, none⟩) 1 1] 22)
  have hsz : (w10.alloc (.cells #[.int .u8 7] 5)).heap.size = w10.heap.size + 1 := by simp
  have hrl := rrd_one12 (w10.alloc (.cells #[.int .u8 7] 5)) (some ⟨w10.heap.size, 0, none⟩) 1 1 [7] rfl (Nat.le_refl _) (rd_one w10 7 (by decide))
  rw [hsz] at hrl
  have HRL := Lib.hid hrl
  have HRX := Lib.hid (HR10.out.ext hxd)
  have HXD := Lib.hid (HX10.out.trans hxd)
  clear hxc hxd hsz hrl
  go_wp2_with fail
  refine (lists_n _ rfl HRX.out HRL.out (by decide) (row_one (by decide))).mono ?_
  rintro e w11 ⟨rfl, m, rfl⟩
  go_wp2
  go_ret
  exact ⟨rfl, HXD.out.drewN m⟩
end Go.Proofs.Ytfbnckecfapakaa

/-
  A plan's step where three operations may come up next. Conditions: none; no function is named here.
-/
namespace Go.Proofs.Ytfbnckecfapakaa
open Go
section
variable {P : Program} {Q : Exit → Act → World → Prop} {C : World → Prop}
theorem plan_three {F : Nat → Bool} {l : List Oper} {i j k : Nat} {o u v : Oper} {p q r : Plan} {a : Act} {w : World} (ho : l[i]? = some o) (hu : l[j]? = some u) (hv : l[k]? = some v)
    (h1 : ∀ K : Act → World → Prop, (∀ a' w', (F i = true → C w') ∧ wpPlan P l C F Q p a' w' → K a' w') → wpList P l.toArray (Exit.then K Q) [o] a w)
    (h2 : ∀ K : Act → World → Prop, (∀ a' w', (F j = true → C w') ∧ wpPlan P l C F Q q a' w' → K a' w') → wpList P l.toArray (Exit.then K Q) [u] a w)
    (h3 : ∀ K : Act → World → Prop, (∀ a' w', (F k = true → C w') ∧ wpPlan P l C F Q r a' w' → K a' w') → wpList P l.toArray (Exit.then K Q) [v] a w) : wpPlan P l C F Q (.three i p j q k r) a w := ⟨stepP_of ho h1, stepP_of hu h2, stepP_of hv h3⟩
end
end Go.Proofs.Ytfbnckecfapakaa
