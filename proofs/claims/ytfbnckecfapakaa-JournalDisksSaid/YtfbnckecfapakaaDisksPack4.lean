/-
  Part 4 of the texts that the seat's proofs stand on; each part of it begins with its own sentence and conditions. Conditions: those that each theorem names.
-/
import Derived.Test.YtfbnckecfapakaaDisksPack3
import Derived.Deep.DeepCutAuto
import Derived.Lib.Hide
import Derived.Lib.SliceRun

/-
  The law JournalDisks, walked, under what layer 12's functions are to do. Conditions: none.
-/
namespace Go.Proofs.Ytfbnckecfapakaa
open Go.RowKit
open Pol (co Sm)

theorem disk30_in (a b : Value) : (Try.prog.info? 30).map (·.size) = some (#[a, b] : Array Value).size := by kernel_rfl
/-- Five disks stay. -/
structure Five (g10 : Nat) (a10 b10 : Value) (g11 : Nat) (a11 b11 : Value) (g12 : Nat) (a12 b12 : Value) (g13 : Nat) (a13 b13 : Value) (g0 : Nat) (a0 b0 : Value) (W : World) : Prop where
  a : TwoR g10 a10 b10 W
  b : TwoR g11 a11 b11 W
  c : TwoR g12 a12 b12 W
  d : TwoR g13 a13 b13 W
  e : TwoR g0 a0 b0 W
theorem Five.ext {g10 g11 g12 g13 g0 : Nat} {a10 b10 a11 b11 a12 b12 a13 b13 a0 b0 : Value} {w w' : World} (h : Five g10 a10 b10 g11 a11 b11 g12 a12 b12 g13 a13 b13 g0 a0 b0 w) (hx : Ext w w') : Five g10 a10 b10 g11 a11 b11 g12 a12 b12 g13 a13 b13 g0 a0 b0 w' := ⟨h.a.ext hx, h.b.ext hx, h.c.ext hx, h.d.ext hx, h.e.ext hx⟩
theorem l_nil12 : ([] : List Nat).length = 0 := rfl
/-- Bytes that may be written, between two blocks. -/
def WBs (lo hi : Nat) (w : World) (B : Option Addr) (n : Nat) : Prop := ∀ i, i < n → ∃ g o y, B = some ⟨g, o, none⟩ ∧ lo ≤ g ∧ g < hi ∧ y < 256 ∧ w.cell? ⟨g, o + i, none⟩ = some (.int .u8 ((y : Nat) : Int)) ∧ w.frozen? ⟨g, o + i, none⟩ = false
theorem Sd.wbs {base : Nat} {w : World} {A : Option Addr} {n c : Nat} {l : List Nat} (h : Sd base w A n c l) : WBs base w.heap.size w A n := fun i hi => by
  obtain ⟨B', c', e, _, hr, hb⟩ := h.own
  injection e with e1 e2 e3
  subst e1
  have hi' : i < l.length := by rw [h.len]; exact hi
  obtain ⟨g, o, e, hc⟩ := hr.2 i hi'
  obtain ⟨h1, h2⟩ := hb g o e (by omega)
  exact ⟨g, o, co l i, e, h1, block_lt_of_cell hc, hr.1 i, hc, h2 i hi'⟩
theorem WBs.only {X : Nat → Prop} {lo hi : Nat} {w w' : World} {B : Option Addr} {n : Nat} (h : WBs lo hi w B n) (ho : Only X w w') (hx : ∀ b, lo ≤ b → b < hi → ¬ X b) (hs : hi ≤ w.heap.size) : WBs lo hi w' B n := fun i hi' => by
  obtain ⟨g, o, y, e, h1, h2, h3, h4, h5⟩ := h i hi'
  exact ⟨g, o, y, e, h1, h2, h3, ho.cell h4 (hx g h1 h2), (ho.frozen (Nat.lt_of_lt_of_le h2 hs) (hx g h1 h2)).trans h5⟩
theorem WBs.set {lo hi : Nat} {w : World} {B : Option Addr} {n : Nat} (h : WBs lo hi w B n) (a : Addr) (z : Nat) (hz : z < 256) : WBs lo hi (w.setCell a (.int .u8 (z : Int))) B n := fun i hi' => by
  obtain ⟨g, o, y, e, h1, h2, h3, h4, h5⟩ := h i hi'
  by_cases ha : a = ⟨g, o + i, none⟩
  · subst ha
    exact ⟨g, o, z, e, h1, h2, hz, World.cell?_setCell_same' _ _ _ (by rw [h4]; rfl), by rw [World.frozen?_setCell]; exact h5⟩
  · exact ⟨g, o, y, e, h1, h2, h3, (World.cell?_setCell_other _ _ _ _ ha).trans h4, by rw [World.frozen?_setCell]; exact h5⟩
set_option maxHeartbeats 1600000 in
set_option maxRecDepth 100000 in
theorem disks12_walk {I : LogP} (C : JournalSaid I) {F L b : List Nat} {A B E : Option Addr} {nf ca nl cb n1 c1 : Nat} (x2 : Int) (x3 : Nat) (w : World) (hf : F.length = nf) (hl : L.length = nl) (hn : b.length = n1) (rf : Rd w A F) (rl : Rd w B L) (rb : Rd w E b) (hca : nf ≤ ca) (hcb : nl ≤ cb) (hc1 : n1 ≤ c1) (hx3 : x3 < 256) :
    Calls Try.prog 4 #[.agg #[.slice A nf ca, .slice B nl cb], .slice E n1 c1, .int .i64 x2, .int .u8 (x3 : Int)] w (Holds w) := by
  have HAW := Lib.hid (fun W => awake12 C W)
  have HC := Lib.hid C
  clear C
  have HX0 := Lib.hid ((Ext.refl w).alloc (.cells #[.slice A nf ca, .slice B nl cb] 24))
  have HT0 := Lib.hid (twoR_of (heap_alloc_new w (.cells #[.slice A nf ca, .slice B nl cb] 24)))
  have HG0 := Lib.hid (show w.heap.size < (w.alloc (.cells #[.slice A nf ca, .slice B nl cb] 24)).heap.size from by simp)
  by_cases hbig : nf ≤ 200 ∧ nl ≤ 200 ∧ n1 ≤ 200
  · obtain ⟨q1, q2, q3⟩ := hbig
    have HF := Lib.hid hf
    have HL := Lib.hid hl
    have HN := Lib.hid hn
    have HRF := Lib.hid rf
    have HRL := Lib.hid rl
    have HRB := Lib.hid rb
    have HSF := Lib.hid rf.1
    have HSL := Lib.hid rl.1
    have HSB := Lib.hid rb.1
    have HLE := Lib.hid (And.intro q1 (And.intro q2 q3))
    have HCP := Lib.hid (And.intro hca (And.intro hcb hc1))
    have HX3B := Lib.hid hx3
    have d1 : decide (200 < (nf : Int)) = false := decide_eq_false (by omega)
    have d2 : decide (200 < (nl : Int)) = false := decide_eq_false (by omega)
    have d3 : decide (200 < (n1 : Int)) = false := decide_eq_false (by omega)
    clear hf hl hn rf rl rb hca hcb hc1 hx3
    go_enter Try.func4, Try.ntmps4
    go_wp2_with fail
    obtain ⟨g0, hg0⟩ : ∃ g, w.heap.size = g := ⟨_, rfl⟩
    have HGE := Lib.hid hg0
    rw [hg0] at HT0 HG0 ⊢
    clear hg0
    generalize w.alloc (.cells #[.slice A nf ca, .slice B nl cb] 24) = w0 at HX0 HT0 HG0 ⊢
    refine (HAW.out w0).mono ?_
    rintro e v1 ⟨rfl, hv1⟩
    have HX1 := Lib.hid (HX0.out.trans hv1)
    have HT1 := Lib.hid (HT0.out.ext hv1)
    have HG1 := Lib.hid (Nat.lt_of_lt_of_le HG0.out hv1.size)
    obtain ⟨k0, k1⟩ := HT1.out
    clear hv1
    go_upto_region 3 with (fail)
    clear k0 k1 d1 d2 d3 q1 q2 q3
    go_cut [9] (fun s9 wx => ∃ g9 A9 c9 B9 d9, s9 = .pointer (some ⟨g9, 0, none⟩) ∧ wx.heap[g9]? = some (.cells #[.slice A9 nf c9, .slice B9 nl d9] 30) ∧ St v1.heap.size wx A9 nf c9 F ∧ St v1.heap.size wx B9 nl d9 L ∧ v1.heap.size ≤ g9 ∧ Ext v1 wx)
    case first =>
      refine wp_region_plan (TwoR g0 (.slice A nf ca) (.slice B nl cb)) [0, 1, 2, 3, 4, 5, 6, 7, 8, 9] (.yes 1 (.yes 2 (.yes 5 (.yes 6 (.three 0 (.three 3 (.two 4 (.two 7 (.two 8 (.one 9 (.one 10 .done)) 9 (.one 8 (.one 10 .done))) 9 (.one 7 (.one 8 (.one 10 .done)))) 9 (.one 4 (.one 7 (.one 8 (.one 10 .done))))) 4 (.two 3 (.two 7 (.two 8 (.one 9 (.one 10 .done)) 9 (.one 8 (.one 10 .done))) 9 (.one 7 (.one 8 (.one 10 .done)))) 9 (.one 3 (.one 7 (.one 8 (.one 10 .done))))) 9 (.two 3 (.one 4 (.one 7 (.one 8 (.one 10 .done)))) 4 (.one 3 (.one 7 (.one 8 (.one 10 .done)))))) 4 (.two 0 (.two 3 (.two 7 (.two 8 (.one 9 (.one 10 .done)) 9 (.one 8 (.one 10 .done))) 9 (.one 7 (.one 8 (.one 10 .done)))) 9 (.one 3 (.one 7 (.one 8 (.one 10 .done))))) 9 (.one 0 (.one 3 (.one 7 (.one 8 (.one 10 .done)))))) 9 (.two 0 (.two 3 (.one 4 (.one 7 (.one 8 (.one 10 .done)))) 4 (.one 3 (.one 7 (.one 8 (.one 10 .done))))) 4 (.one 0 (.one 3 (.one 7 (.one 8 (.one 10 .done))))))))))) (by kernel_rfl) (fun c a a' w e h => ⟨e ▸ h.1, h.2⟩) (by kernel_rfl) HT1.out ?_
      refine plan_yes rfl (fun K hK => ?_); go_simp; refine ⟨_, fun _ _ => rfl, hK _ ?_⟩; clear hK K
      refine plan_yes rfl (fun K hK => ?_); go_simp; refine ⟨.slice A nf ca, fun W hW => ?_, hK _ ?_⟩
      · have h1 := hW.1
        go_simp
      clear hK K
      refine plan_yes rfl (fun K hK => ?_); go_simp; refine ⟨_, fun _ _ => rfl, hK _ ?_⟩; clear hK K
      refine plan_yes rfl (fun K hK => ?_); go_simp; refine ⟨.slice B nl cb, fun W hW => ?_, hK _ ?_⟩
      · have h1 := hW.2
        go_simp
      clear hK K
      have HXs := Lib.hid (show Ext v1 v1.drew from (Ext.refl v1).drew)
      have HTs := Lib.hid (show TwoR g0 (.slice A nf ca) (.slice B nl cb) v1.drew from HT1.out)
      generalize v1.drew = ws at HXs HTs ⊢
      refine plan_three rfl rfl rfl (fun K hK => ?_) (fun K hK => ?_) (fun K hK => ?_)
      · skip
        have H2 := Lib.hid ((mine_empty ws).down (base' := v1.heap.size) HXs.out.size)
        have hx := (Ext.refl ws).alloc (.cells #[] 5)
        obtain ⟨b1, hb⟩ : ∃ b, ws.heap.size = b := ⟨_, rfl⟩
        have H4 := Lib.hid (HXs.out.trans hx)
        have H5 := Lib.hid (HTs.out.ext hx)
        rw [hb] at H2
        go_wp2
        refine ⟨by first | exact H5.out | exact fun _ => H5.out, ?_⟩
        try rw [hb]
        clear hx hb
        generalize ws.alloc (.cells #[] 5) = w3 at H4 H5 H2 ⊢
        refine plan_three rfl rfl rfl (fun K hK => ?_) (fun K hK => ?_) (fun K hK => ?_)
        · skip
          go_wp2_with (at_builtin; refine wpList_append_new rfl (.tmp 39) (.tmp 41) rfl v1.heap.size b1 F rfl H2.out A nf ca rfl HF.out (HRF.out.ext (HX1.out.trans H4.out)) (by have := HF.out; have := HLE.out; omega) H4.out.size ?_; intro vv w6 hm hx hq; obtain ⟨A7, nn, c8, ev, hst⟩ := hm.st HSF.out; have en := HF.out.symm.trans hst.len; subst en; subst ev; have H9 := Lib.hid hm; have H10 := Lib.hid (H4.out.trans hx); have H11 := Lib.hid (H5.out.ext hx); clear hm hx hq hst)
          refine ⟨by first | exact H11.out | exact fun _ => H11.out, ?_⟩
          refine plan_two rfl rfl (fun K hK => ?_) (fun K hK => ?_)
          · skip
            have H13 := Lib.hid ((mine_empty w6).down (base' := v1.heap.size) H10.out.size)
            have hx := (Ext.refl w6).alloc (.cells #[] 5)
            obtain ⟨b12, hb⟩ : ∃ b, w6.heap.size = b := ⟨_, rfl⟩
            have H15 := Lib.hid (H10.out.trans hx)
            have H16 := Lib.hid (H11.out.ext hx)
            have H17 := Lib.hid (mine_ext H9.out hx)
            rw [hb] at H13
            go_wp2
            refine ⟨by first | exact H16.out | exact fun _ => H16.out, ?_⟩
            try rw [hb]
            clear hx hb
            generalize w6.alloc (.cells #[] 5) = w14 at H15 H16 H17 H13 ⊢
            refine plan_two rfl rfl (fun K hK => ?_) (fun K hK => ?_)
            · skip
              go_wp2_with (at_builtin; refine wpList_append_new rfl (.tmp 43) (.tmp 45) rfl v1.heap.size b12 L rfl H13.out B nl cb rfl HL.out (HRL.out.ext (HX1.out.trans H15.out)) (by have := HL.out; have := HLE.out; omega) H15.out.size ?_; intro vv w18 hm hx hq; obtain ⟨A19, nn, c20, ev, hst⟩ := hm.st HSL.out; have en := HL.out.symm.trans hst.len; subst en; subst ev; have H21 := Lib.hid hm; have H22 := Lib.hid (H15.out.trans hx); have H23 := Lib.hid (H16.out.ext hx); have H24 := Lib.hid (mine_ext H17.out hx); clear hm hx hq hst)
              refine ⟨by first | exact H23.out | exact fun _ => H23.out, ?_⟩
              refine plan_two rfl rfl (fun K hK => ?_) (fun K hK => ?_)
              · skip
                go_wp2
                refine ⟨by first | exact H23.out | exact fun _ => H23.out, ?_⟩
                refine plan_one rfl (fun K hK => ?_)
                have hx := (Ext.refl w18).alloc (.cells #[.slice none 0 0, .slice none 0 0] 30)
                obtain ⟨g25, hg⟩ : ∃ b, w18.heap.size = b := ⟨_, rfl⟩
                have H27 := Lib.hid (show (w18.alloc (.cells #[.slice none 0 0, .slice none 0 0] 30)).heap[g25]? = some (.cells #[.slice none 0 0, .slice none 0 0] 30 (0, 0)) from by rw [← hg]; exact heap_alloc_new _ _)
                have H28 := Lib.hid (fun q (hq : (Value.slice A7 nf c8).ownBlock = some q) => show q ≠ g25 from by have := (H24.out.block q hq).2; omega)
                have H29 := Lib.hid (fun q (hq : (Value.slice A19 nl c20).ownBlock = some q) => show q ≠ g25 from by have := (H21.out.block q hq).2; omega)
                have H30 := Lib.hid (H22.out.trans hx)
                have H31 := Lib.hid (H23.out.ext hx)
                have H32 := Lib.hid (mine_ext H24.out hx)
                have H33 := Lib.hid (mine_ext H21.out hx)
                have H34 := Lib.hid (show v1.heap.size ≤ g25 from by rw [← hg]; exact H22.out.size)
                go_wp2
                refine ⟨by first | exact H31.out | exact fun _ => H31.out, ?_⟩
                try rw [hg]
                clear hx hg
                generalize w18.alloc (.cells #[.slice none 0 0, .slice none 0 0] 30) = w26 at H30 H31 H32 H33 H27 ⊢
                refine plan_one rfl (fun K hK => ?_)
                have hin := disk30_in (.slice A7 nf c8) (.slice A19 nl c20)
                have hsz : (#[.slice none 0 0, .slice none 0 0] : Array Value).size = (#[.slice A7 nf c8, .slice A19 nl c20] : Array Value).size := rfl
                have hone := disk24_one A7 A19 nf nl c8 c20
                go_wp2_with (with_reducible refine wpList_store_all rfl 30 (.tmp 9) (.tmp 47) rfl g25 _ #[.slice A7 nf c8, .slice A19 nl c20] rfl rfl H27.out hin hsz hone ?_)
                refine ⟨fun h => absurd h (by decide), ?_⟩
                have hg5 := setRow_heap w26 g25 _ #[.slice A7 nf c8, .slice A19 nl c20] _ _ H27.out
                have ho5 : Only (fun k => k = g25) w26 (w26.setRow g25 #[.slice A7 nf c8, .slice A19 nl c20]) := Only.of_grown (grown_block w26 _ _) (fun k e => by injection e with e; exact e.symm)
                unfold wpPlan
                go_wp2_with fail
                go_meet
                exact ⟨g25, A7, c8, A19, c20, rfl, hg5, (H32.out.keep9 (grown_block w26 g25 _) (fun k hk e => by injection e with e; exact H28.out k hk e)).stAt HSF.out, (H33.out.keep9 (grown_block w26 g25 _) (fun k hk e => by injection e with e; exact H29.out k hk e)).stAt HSL.out, H34.out, ho5.ext H30.out (fun k hk => by rw [hk]; exact H34.out)⟩
              · skip
                have hx := (Ext.refl w18).alloc (.cells #[.slice none 0 0, .slice none 0 0] 30)
                obtain ⟨g35, hg⟩ : ∃ b, w18.heap.size = b := ⟨_, rfl⟩
                have H37 := Lib.hid (show (w18.alloc (.cells #[.slice none 0 0, .slice none 0 0] 30)).heap[g35]? = some (.cells #[.slice none 0 0, .slice none 0 0] 30 (0, 0)) from by rw [← hg]; exact heap_alloc_new _ _)
                have H38 := Lib.hid (fun q (hq : (Value.slice A7 nf c8).ownBlock = some q) => show q ≠ g35 from by have := (H24.out.block q hq).2; omega)
                have H39 := Lib.hid (fun q (hq : (Value.slice A19 nl c20).ownBlock = some q) => show q ≠ g35 from by have := (H21.out.block q hq).2; omega)
                have H40 := Lib.hid (H22.out.trans hx)
                have H41 := Lib.hid (H23.out.ext hx)
                have H42 := Lib.hid (mine_ext H24.out hx)
                have H43 := Lib.hid (mine_ext H21.out hx)
                have H44 := Lib.hid (show v1.heap.size ≤ g35 from by rw [← hg]; exact H22.out.size)
                go_wp2
                refine ⟨by first | exact H41.out | exact fun _ => H41.out, ?_⟩
                try rw [hg]
                clear hx hg
                generalize w18.alloc (.cells #[.slice none 0 0, .slice none 0 0] 30) = w36 at H40 H41 H42 H43 H37 ⊢
                refine plan_one rfl (fun K hK => ?_)
                go_wp2
                refine ⟨by first | exact H41.out | exact fun _ => H41.out, ?_⟩
                refine plan_one rfl (fun K hK => ?_)
                have hin := disk30_in (.slice A7 nf c8) (.slice A19 nl c20)
                have hsz : (#[.slice none 0 0, .slice none 0 0] : Array Value).size = (#[.slice A7 nf c8, .slice A19 nl c20] : Array Value).size := rfl
                have hone := disk24_one A7 A19 nf nl c8 c20
                go_wp2_with (with_reducible refine wpList_store_all rfl 30 (.tmp 9) (.tmp 47) rfl g35 _ #[.slice A7 nf c8, .slice A19 nl c20] rfl rfl H37.out hin hsz hone ?_)
                refine ⟨fun h => absurd h (by decide), ?_⟩
                have hg5 := setRow_heap w36 g35 _ #[.slice A7 nf c8, .slice A19 nl c20] _ _ H37.out
                have ho5 : Only (fun k => k = g35) w36 (w36.setRow g35 #[.slice A7 nf c8, .slice A19 nl c20]) := Only.of_grown (grown_block w36 _ _) (fun k e => by injection e with e; exact e.symm)
                unfold wpPlan
                go_wp2_with fail
                go_meet
                exact ⟨g35, A7, c8, A19, c20, rfl, hg5, (H42.out.keep9 (grown_block w36 g35 _) (fun k hk e => by injection e with e; exact H38.out k hk e)).stAt HSF.out, (H43.out.keep9 (grown_block w36 g35 _) (fun k hk e => by injection e with e; exact H39.out k hk e)).stAt HSL.out, H44.out, ho5.ext H40.out (fun k hk => by rw [hk]; exact H44.out)⟩
            · skip
              have hx := (Ext.refl w14).alloc (.cells #[.slice none 0 0, .slice none 0 0] 30)
              obtain ⟨g45, hg⟩ : ∃ b, w14.heap.size = b := ⟨_, rfl⟩
              have H47 := Lib.hid (show (w14.alloc (.cells #[.slice none 0 0, .slice none 0 0] 30)).heap[g45]? = some (.cells #[.slice none 0 0, .slice none 0 0] 30 (0, 0)) from by rw [← hg]; exact heap_alloc_new _ _)
              have H48 := Lib.hid (show b12 ≠ g45 from by have := (H13.out.block b12 rfl).2; omega)
              have H49 := Lib.hid (fun q (hq : (Value.slice A7 nf c8).ownBlock = some q) => show q ≠ g45 from by have := (H17.out.block q hq).2; omega)
              have H50 := Lib.hid (H15.out.trans hx)
              have H51 := Lib.hid (H16.out.ext hx)
              have H52 := Lib.hid (mine_ext H17.out hx)
              have H53 := Lib.hid (mine_ext H13.out hx)
              have H54 := Lib.hid (show v1.heap.size ≤ g45 from by rw [← hg]; exact H15.out.size)
              go_wp2
              refine ⟨by first | exact H51.out | exact fun _ => H51.out, ?_⟩
              try rw [hg]
              clear hx hg
              generalize w14.alloc (.cells #[.slice none 0 0, .slice none 0 0] 30) = w46 at H50 H51 H52 H53 H47 ⊢
              refine plan_one rfl (fun K hK => ?_)
              go_wp2_with (at_builtin; refine wpList_append_new rfl (.tmp 43) (.tmp 45) rfl v1.heap.size b12 L rfl H53.out B nl cb rfl HL.out (HRL.out.ext (HX1.out.trans H50.out)) (by have := HL.out; have := HLE.out; omega) H50.out.size ?_; intro vv w55 hm hx hq; obtain ⟨A56, nn, c57, ev, hst⟩ := hm.st HSL.out; have en := HL.out.symm.trans hst.len; subst en; subst ev; have H58 := Lib.hid hm; have H63 := Lib.hid (fun q (hq2 : (Value.slice A56 nl c57).ownBlock = some q) => show q ≠ g45 from by have h1 := H48.out; have h2 := row_lt H47.out; rcases hq q hq2 with h3 | h3 <;> omega); have H59 := Lib.hid (H50.out.trans hx); have H60 := Lib.hid (H51.out.ext hx); have H61 := Lib.hid (mine_ext H52.out hx); have H62 := Lib.hid (Ext.row hx H47.out); clear hm hx hq hst)
              refine ⟨by first | exact H60.out | exact fun _ => H60.out, ?_⟩
              refine plan_one rfl (fun K hK => ?_)
              go_wp2
              refine ⟨by first | exact H60.out | exact fun _ => H60.out, ?_⟩
              refine plan_one rfl (fun K hK => ?_)
              have hin := disk30_in (.slice A7 nf c8) (.slice A56 nl c57)
              have hsz : (#[.slice none 0 0, .slice none 0 0] : Array Value).size = (#[.slice A7 nf c8, .slice A56 nl c57] : Array Value).size := rfl
              have hone := disk24_one A7 A56 nf nl c8 c57
              go_wp2_with (with_reducible refine wpList_store_all rfl 30 (.tmp 9) (.tmp 47) rfl g45 _ #[.slice A7 nf c8, .slice A56 nl c57] rfl rfl H62.out hin hsz hone ?_)
              refine ⟨fun h => absurd h (by decide), ?_⟩
              have hg5 := setRow_heap w55 g45 _ #[.slice A7 nf c8, .slice A56 nl c57] _ _ H62.out
              have ho5 : Only (fun k => k = g45) w55 (w55.setRow g45 #[.slice A7 nf c8, .slice A56 nl c57]) := Only.of_grown (grown_block w55 _ _) (fun k e => by injection e with e; exact e.symm)
              unfold wpPlan
              go_wp2_with fail
              go_meet
              exact ⟨g45, A7, c8, A56, c57, rfl, hg5, (H61.out.keep9 (grown_block w55 g45 _) (fun k hk e => by injection e with e; exact H49.out k hk e)).stAt HSF.out, (H58.out.keep9 (grown_block w55 g45 _) (fun k hk e => by injection e with e; exact H63.out k hk e)).stAt HSL.out, H54.out, ho5.ext H59.out (fun k hk => by rw [hk]; exact H54.out)⟩
          · skip
            have hx := (Ext.refl w6).alloc (.cells #[.slice none 0 0, .slice none 0 0] 30)
            obtain ⟨g64, hg⟩ : ∃ b, w6.heap.size = b := ⟨_, rfl⟩
            have H66 := Lib.hid (show (w6.alloc (.cells #[.slice none 0 0, .slice none 0 0] 30)).heap[g64]? = some (.cells #[.slice none 0 0, .slice none 0 0] 30 (0, 0)) from by rw [← hg]; exact heap_alloc_new _ _)
            have H67 := Lib.hid (fun q (hq : (Value.slice A7 nf c8).ownBlock = some q) => show q ≠ g64 from by have := (H9.out.block q hq).2; omega)
            have H68 := Lib.hid (H10.out.trans hx)
            have H69 := Lib.hid (H11.out.ext hx)
            have H70 := Lib.hid (mine_ext H9.out hx)
            have H71 := Lib.hid (show v1.heap.size ≤ g64 from by rw [← hg]; exact H10.out.size)
            go_wp2
            refine ⟨by first | exact H69.out | exact fun _ => H69.out, ?_⟩
            try rw [hg]
            clear hx hg
            generalize w6.alloc (.cells #[.slice none 0 0, .slice none 0 0] 30) = w65 at H68 H69 H70 H66 ⊢
            refine plan_one rfl (fun K hK => ?_)
            have H73 := Lib.hid ((mine_empty w65).down (base' := v1.heap.size) H68.out.size)
            have hx := (Ext.refl w65).alloc (.cells #[] 5)
            obtain ⟨b72, hb⟩ : ∃ b, w65.heap.size = b := ⟨_, rfl⟩
            have H75 := Lib.hid (show b72 ≠ g64 from by rw [← hb]; have := row_lt H66.out; omega)
            have H76 := Lib.hid (H68.out.trans hx)
            have H77 := Lib.hid (H69.out.ext hx)
            have H78 := Lib.hid (mine_ext H70.out hx)
            have H79 := Lib.hid (Ext.row hx H66.out)
            rw [hb] at H73
            go_wp2
            refine ⟨by first | exact H77.out | exact fun _ => H77.out, ?_⟩
            try rw [hb]
            clear hx hb
            generalize w65.alloc (.cells #[] 5) = w74 at H76 H77 H78 H79 H73 ⊢
            refine plan_one rfl (fun K hK => ?_)
            go_wp2_with (at_builtin; refine wpList_append_new rfl (.tmp 43) (.tmp 45) rfl v1.heap.size b72 L rfl H73.out B nl cb rfl HL.out (HRL.out.ext (HX1.out.trans H76.out)) (by have := HL.out; have := HLE.out; omega) H76.out.size ?_; intro vv w80 hm hx hq; obtain ⟨A81, nn, c82, ev, hst⟩ := hm.st HSL.out; have en := HL.out.symm.trans hst.len; subst en; subst ev; have H83 := Lib.hid hm; have H88 := Lib.hid (fun q (hq2 : (Value.slice A81 nl c82).ownBlock = some q) => show q ≠ g64 from by have h1 := H75.out; have h2 := row_lt H79.out; rcases hq q hq2 with h3 | h3 <;> omega); have H84 := Lib.hid (H76.out.trans hx); have H85 := Lib.hid (H77.out.ext hx); have H86 := Lib.hid (mine_ext H78.out hx); have H87 := Lib.hid (Ext.row hx H79.out); clear hm hx hq hst)
            refine ⟨by first | exact H85.out | exact fun _ => H85.out, ?_⟩
            refine plan_one rfl (fun K hK => ?_)
            go_wp2
            refine ⟨by first | exact H85.out | exact fun _ => H85.out, ?_⟩
            refine plan_one rfl (fun K hK => ?_)
            have hin := disk30_in (.slice A7 nf c8) (.slice A81 nl c82)
            have hsz : (#[.slice none 0 0, .slice none 0 0] : Array Value).size = (#[.slice A7 nf c8, .slice A81 nl c82] : Array Value).size := rfl
            have hone := disk24_one A7 A81 nf nl c8 c82
            go_wp2_with (with_reducible refine wpList_store_all rfl 30 (.tmp 9) (.tmp 47) rfl g64 _ #[.slice A7 nf c8, .slice A81 nl c82] rfl rfl H87.out hin hsz hone ?_)
            refine ⟨fun h => absurd h (by decide), ?_⟩
            have hg5 := setRow_heap w80 g64 _ #[.slice A7 nf c8, .slice A81 nl c82] _ _ H87.out
            have ho5 : Only (fun k => k = g64) w80 (w80.setRow g64 #[.slice A7 nf c8, .slice A81 nl c82]) := Only.of_grown (grown_block w80 _ _) (fun k e => by injection e with e; exact e.symm)
            unfold wpPlan
            go_wp2_with fail
            go_meet
            exact ⟨g64, A7, c8, A81, c82, rfl, hg5, (H86.out.keep9 (grown_block w80 g64 _) (fun k hk e => by injection e with e; exact H67.out k hk e)).stAt HSF.out, (H83.out.keep9 (grown_block w80 g64 _) (fun k hk e => by injection e with e; exact H88.out k hk e)).stAt HSL.out, H71.out, ho5.ext H84.out (fun k hk => by rw [hk]; exact H71.out)⟩
        · skip
          have H90 := Lib.hid ((mine_empty w3).down (base' := v1.heap.size) H4.out.size)
          have hx := (Ext.refl w3).alloc (.cells #[] 5)
          obtain ⟨b89, hb⟩ : ∃ b, w3.heap.size = b := ⟨_, rfl⟩
          have H92 := Lib.hid (H4.out.trans hx)
          have H93 := Lib.hid (H5.out.ext hx)
          have H94 := Lib.hid (mine_ext H2.out hx)
          rw [hb] at H90
          go_wp2
          refine ⟨by first | exact H93.out | exact fun _ => H93.out, ?_⟩
          try rw [hb]
          clear hx hb
          generalize w3.alloc (.cells #[] 5) = w91 at H92 H93 H94 H90 ⊢
          refine plan_two rfl rfl (fun K hK => ?_) (fun K hK => ?_)
          · skip
            go_wp2_with (at_builtin; refine wpList_append_new rfl (.tmp 39) (.tmp 41) rfl v1.heap.size b1 F rfl H94.out A nf ca rfl HF.out (HRF.out.ext (HX1.out.trans H92.out)) (by have := HF.out; have := HLE.out; omega) H92.out.size ?_; intro vv w95 hm hx hq; obtain ⟨A96, nn, c97, ev, hst⟩ := hm.st HSF.out; have en := HF.out.symm.trans hst.len; subst en; subst ev; have H98 := Lib.hid hm; have H99 := Lib.hid (H92.out.trans hx); have H100 := Lib.hid (H93.out.ext hx); have H101 := Lib.hid (mine_ext H90.out hx); clear hm hx hq hst)
            refine ⟨by first | exact H100.out | exact fun _ => H100.out, ?_⟩
            refine plan_two rfl rfl (fun K hK => ?_) (fun K hK => ?_)
            · skip
              go_wp2_with (at_builtin; refine wpList_append_new rfl (.tmp 43) (.tmp 45) rfl v1.heap.size b89 L rfl H101.out B nl cb rfl HL.out (HRL.out.ext (HX1.out.trans H99.out)) (by have := HL.out; have := HLE.out; omega) H99.out.size ?_; intro vv w102 hm hx hq; obtain ⟨A103, nn, c104, ev, hst⟩ := hm.st HSL.out; have en := HL.out.symm.trans hst.len; subst en; subst ev; have H105 := Lib.hid hm; have H106 := Lib.hid (H99.out.trans hx); have H107 := Lib.hid (H100.out.ext hx); have H108 := Lib.hid (mine_ext H98.out hx); clear hm hx hq hst)
              refine ⟨by first | exact H107.out | exact fun _ => H107.out, ?_⟩
              refine plan_two rfl rfl (fun K hK => ?_) (fun K hK => ?_)
              · skip
                go_wp2
                refine ⟨by first | exact H107.out | exact fun _ => H107.out, ?_⟩
                refine plan_one rfl (fun K hK => ?_)
                have hx := (Ext.refl w102).alloc (.cells #[.slice none 0 0, .slice none 0 0] 30)
                obtain ⟨g109, hg⟩ : ∃ b, w102.heap.size = b := ⟨_, rfl⟩
                have H111 := Lib.hid (show (w102.alloc (.cells #[.slice none 0 0, .slice none 0 0] 30)).heap[g109]? = some (.cells #[.slice none 0 0, .slice none 0 0] 30 (0, 0)) from by rw [← hg]; exact heap_alloc_new _ _)
                have H112 := Lib.hid (fun q (hq : (Value.slice A96 nf c97).ownBlock = some q) => show q ≠ g109 from by have := (H108.out.block q hq).2; omega)
                have H113 := Lib.hid (fun q (hq : (Value.slice A103 nl c104).ownBlock = some q) => show q ≠ g109 from by have := (H105.out.block q hq).2; omega)
                have H114 := Lib.hid (H106.out.trans hx)
                have H115 := Lib.hid (H107.out.ext hx)
                have H116 := Lib.hid (mine_ext H108.out hx)
                have H117 := Lib.hid (mine_ext H105.out hx)
                have H118 := Lib.hid (show v1.heap.size ≤ g109 from by rw [← hg]; exact H106.out.size)
                go_wp2
                refine ⟨by first | exact H115.out | exact fun _ => H115.out, ?_⟩
                try rw [hg]
                clear hx hg
                generalize w102.alloc (.cells #[.slice none 0 0, .slice none 0 0] 30) = w110 at H114 H115 H116 H117 H111 ⊢
                refine plan_one rfl (fun K hK => ?_)
                have hin := disk30_in (.slice A96 nf c97) (.slice A103 nl c104)
                have hsz : (#[.slice none 0 0, .slice none 0 0] : Array Value).size = (#[.slice A96 nf c97, .slice A103 nl c104] : Array Value).size := rfl
                have hone := disk24_one A96 A103 nf nl c97 c104
                go_wp2_with (with_reducible refine wpList_store_all rfl 30 (.tmp 9) (.tmp 47) rfl g109 _ #[.slice A96 nf c97, .slice A103 nl c104] rfl rfl H111.out hin hsz hone ?_)
                refine ⟨fun h => absurd h (by decide), ?_⟩
                have hg5 := setRow_heap w110 g109 _ #[.slice A96 nf c97, .slice A103 nl c104] _ _ H111.out
                have ho5 : Only (fun k => k = g109) w110 (w110.setRow g109 #[.slice A96 nf c97, .slice A103 nl c104]) := Only.of_grown (grown_block w110 _ _) (fun k e => by injection e with e; exact e.symm)
                unfold wpPlan
                go_wp2_with fail
                go_meet
                exact ⟨g109, A96, c97, A103, c104, rfl, hg5, (H116.out.keep9 (grown_block w110 g109 _) (fun k hk e => by injection e with e; exact H112.out k hk e)).stAt HSF.out, (H117.out.keep9 (grown_block w110 g109 _) (fun k hk e => by injection e with e; exact H113.out k hk e)).stAt HSL.out, H118.out, ho5.ext H114.out (fun k hk => by rw [hk]; exact H118.out)⟩
              · skip
                have hx := (Ext.refl w102).alloc (.cells #[.slice none 0 0, .slice none 0 0] 30)
                obtain ⟨g119, hg⟩ : ∃ b, w102.heap.size = b := ⟨_, rfl⟩
                have H121 := Lib.hid (show (w102.alloc (.cells #[.slice none 0 0, .slice none 0 0] 30)).heap[g119]? = some (.cells #[.slice none 0 0, .slice none 0 0] 30 (0, 0)) from by rw [← hg]; exact heap_alloc_new _ _)
                have H122 := Lib.hid (fun q (hq : (Value.slice A96 nf c97).ownBlock = some q) => show q ≠ g119 from by have := (H108.out.block q hq).2; omega)
                have H123 := Lib.hid (fun q (hq : (Value.slice A103 nl c104).ownBlock = some q) => show q ≠ g119 from by have := (H105.out.block q hq).2; omega)
                have H124 := Lib.hid (H106.out.trans hx)
                have H125 := Lib.hid (H107.out.ext hx)
                have H126 := Lib.hid (mine_ext H108.out hx)
                have H127 := Lib.hid (mine_ext H105.out hx)
                have H128 := Lib.hid (show v1.heap.size ≤ g119 from by rw [← hg]; exact H106.out.size)
                go_wp2
                refine ⟨by first | exact H125.out | exact fun _ => H125.out, ?_⟩
                try rw [hg]
                clear hx hg
                generalize w102.alloc (.cells #[.slice none 0 0, .slice none 0 0] 30) = w120 at H124 H125 H126 H127 H121 ⊢
                refine plan_one rfl (fun K hK => ?_)
                go_wp2
                refine ⟨by first | exact H125.out | exact fun _ => H125.out, ?_⟩
                refine plan_one rfl (fun K hK => ?_)
                have hin := disk30_in (.slice A96 nf c97) (.slice A103 nl c104)
                have hsz : (#[.slice none 0 0, .slice none 0 0] : Array Value).size = (#[.slice A96 nf c97, .slice A103 nl c104] : Array Value).size := rfl
                have hone := disk24_one A96 A103 nf nl c97 c104
                go_wp2_with (with_reducible refine wpList_store_all rfl 30 (.tmp 9) (.tmp 47) rfl g119 _ #[.slice A96 nf c97, .slice A103 nl c104] rfl rfl H121.out hin hsz hone ?_)
                refine ⟨fun h => absurd h (by decide), ?_⟩
                have hg5 := setRow_heap w120 g119 _ #[.slice A96 nf c97, .slice A103 nl c104] _ _ H121.out
                have ho5 : Only (fun k => k = g119) w120 (w120.setRow g119 #[.slice A96 nf c97, .slice A103 nl c104]) := Only.of_grown (grown_block w120 _ _) (fun k e => by injection e with e; exact e.symm)
                unfold wpPlan
                go_wp2_with fail
                go_meet
                exact ⟨g119, A96, c97, A103, c104, rfl, hg5, (H126.out.keep9 (grown_block w120 g119 _) (fun k hk e => by injection e with e; exact H122.out k hk e)).stAt HSF.out, (H127.out.keep9 (grown_block w120 g119 _) (fun k hk e => by injection e with e; exact H123.out k hk e)).stAt HSL.out, H128.out, ho5.ext H124.out (fun k hk => by rw [hk]; exact H128.out)⟩
            · skip
              have hx := (Ext.refl w95).alloc (.cells #[.slice none 0 0, .slice none 0 0] 30)
              obtain ⟨g129, hg⟩ : ∃ b, w95.heap.size = b := ⟨_, rfl⟩
              have H131 := Lib.hid (show (w95.alloc (.cells #[.slice none 0 0, .slice none 0 0] 30)).heap[g129]? = some (.cells #[.slice none 0 0, .slice none 0 0] 30 (0, 0)) from by rw [← hg]; exact heap_alloc_new _ _)
              have H132 := Lib.hid (show b89 ≠ g129 from by have := (H101.out.block b89 rfl).2; omega)
              have H133 := Lib.hid (fun q (hq : (Value.slice A96 nf c97).ownBlock = some q) => show q ≠ g129 from by have := (H98.out.block q hq).2; omega)
              have H134 := Lib.hid (H99.out.trans hx)
              have H135 := Lib.hid (H100.out.ext hx)
              have H136 := Lib.hid (mine_ext H101.out hx)
              have H137 := Lib.hid (mine_ext H98.out hx)
              have H138 := Lib.hid (show v1.heap.size ≤ g129 from by rw [← hg]; exact H99.out.size)
              go_wp2
              refine ⟨by first | exact H135.out | exact fun _ => H135.out, ?_⟩
              try rw [hg]
              clear hx hg
              generalize w95.alloc (.cells #[.slice none 0 0, .slice none 0 0] 30) = w130 at H134 H135 H136 H137 H131 ⊢
              refine plan_one rfl (fun K hK => ?_)
              go_wp2_with (at_builtin; refine wpList_append_new rfl (.tmp 43) (.tmp 45) rfl v1.heap.size b89 L rfl H136.out B nl cb rfl HL.out (HRL.out.ext (HX1.out.trans H134.out)) (by have := HL.out; have := HLE.out; omega) H134.out.size ?_; intro vv w139 hm hx hq; obtain ⟨A140, nn, c141, ev, hst⟩ := hm.st HSL.out; have en := HL.out.symm.trans hst.len; subst en; subst ev; have H142 := Lib.hid hm; have H147 := Lib.hid (fun q (hq2 : (Value.slice A140 nl c141).ownBlock = some q) => show q ≠ g129 from by have h1 := H132.out; have h2 := row_lt H131.out; rcases hq q hq2 with h3 | h3 <;> omega); have H143 := Lib.hid (H134.out.trans hx); have H144 := Lib.hid (H135.out.ext hx); have H145 := Lib.hid (mine_ext H137.out hx); have H146 := Lib.hid (Ext.row hx H131.out); clear hm hx hq hst)
              refine ⟨by first | exact H144.out | exact fun _ => H144.out, ?_⟩
              refine plan_one rfl (fun K hK => ?_)
              go_wp2
              refine ⟨by first | exact H144.out | exact fun _ => H144.out, ?_⟩
              refine plan_one rfl (fun K hK => ?_)
              have hin := disk30_in (.slice A96 nf c97) (.slice A140 nl c141)
              have hsz : (#[.slice none 0 0, .slice none 0 0] : Array Value).size = (#[.slice A96 nf c97, .slice A140 nl c141] : Array Value).size := rfl
              have hone := disk24_one A96 A140 nf nl c97 c141
              go_wp2_with (with_reducible refine wpList_store_all rfl 30 (.tmp 9) (.tmp 47) rfl g129 _ #[.slice A96 nf c97, .slice A140 nl c141] rfl rfl H146.out hin hsz hone ?_)
              refine ⟨fun h => absurd h (by decide), ?_⟩
              have hg5 := setRow_heap w139 g129 _ #[.slice A96 nf c97, .slice A140 nl c141] _ _ H146.out
              have ho5 : Only (fun k => k = g129) w139 (w139.setRow g129 #[.slice A96 nf c97, .slice A140 nl c141]) := Only.of_grown (grown_block w139 _ _) (fun k e => by injection e with e; exact e.symm)
              unfold wpPlan
              go_wp2_with fail
              go_meet
              exact ⟨g129, A96, c97, A140, c141, rfl, hg5, (H145.out.keep9 (grown_block w139 g129 _) (fun k hk e => by injection e with e; exact H133.out k hk e)).stAt HSF.out, (H142.out.keep9 (grown_block w139 g129 _) (fun k hk e => by injection e with e; exact H147.out k hk e)).stAt HSL.out, H138.out, ho5.ext H143.out (fun k hk => by rw [hk]; exact H138.out)⟩
          · skip
            have hx := (Ext.refl w91).alloc (.cells #[.slice none 0 0, .slice none 0 0] 30)
            obtain ⟨g148, hg⟩ : ∃ b, w91.heap.size = b := ⟨_, rfl⟩
            have H150 := Lib.hid (show (w91.alloc (.cells #[.slice none 0 0, .slice none 0 0] 30)).heap[g148]? = some (.cells #[.slice none 0 0, .slice none 0 0] 30 (0, 0)) from by rw [← hg]; exact heap_alloc_new _ _)
            have H151 := Lib.hid (show b1 ≠ g148 from by have := (H94.out.block b1 rfl).2; omega)
            have H152 := Lib.hid (show b89 ≠ g148 from by have := (H90.out.block b89 rfl).2; omega)
            have H153 := Lib.hid (H92.out.trans hx)
            have H154 := Lib.hid (H93.out.ext hx)
            have H155 := Lib.hid (mine_ext H94.out hx)
            have H156 := Lib.hid (mine_ext H90.out hx)
            have H157 := Lib.hid (show v1.heap.size ≤ g148 from by rw [← hg]; exact H92.out.size)
            go_wp2
            refine ⟨by first | exact H154.out | exact fun _ => H154.out, ?_⟩
            try rw [hg]
            clear hx hg
            generalize w91.alloc (.cells #[.slice none 0 0, .slice none 0 0] 30) = w149 at H153 H154 H155 H156 H150 ⊢
            refine plan_one rfl (fun K hK => ?_)
            go_wp2_with (at_builtin; refine wpList_append_new rfl (.tmp 39) (.tmp 41) rfl v1.heap.size b1 F rfl H155.out A nf ca rfl HF.out (HRF.out.ext (HX1.out.trans H153.out)) (by have := HF.out; have := HLE.out; omega) H153.out.size ?_; intro vv w158 hm hx hq; obtain ⟨A159, nn, c160, ev, hst⟩ := hm.st HSF.out; have en := HF.out.symm.trans hst.len; subst en; subst ev; have H161 := Lib.hid hm; have H166 := Lib.hid (fun q (hq2 : (Value.slice A159 nf c160).ownBlock = some q) => show q ≠ g148 from by have h1 := H151.out; have h2 := row_lt H150.out; rcases hq q hq2 with h3 | h3 <;> omega); have H162 := Lib.hid (H153.out.trans hx); have H163 := Lib.hid (H154.out.ext hx); have H164 := Lib.hid (mine_ext H156.out hx); have H165 := Lib.hid (Ext.row hx H150.out); clear hm hx hq hst)
            refine ⟨by first | exact H163.out | exact fun _ => H163.out, ?_⟩
            refine plan_one rfl (fun K hK => ?_)
            go_wp2_with (at_builtin; refine wpList_append_new rfl (.tmp 43) (.tmp 45) rfl v1.heap.size b89 L rfl H164.out B nl cb rfl HL.out (HRL.out.ext (HX1.out.trans H162.out)) (by have := HL.out; have := HLE.out; omega) H162.out.size ?_; intro vv w167 hm hx hq; obtain ⟨A168, nn, c169, ev, hst⟩ := hm.st HSL.out; have en := HL.out.symm.trans hst.len; subst en; subst ev; have H170 := Lib.hid hm; have H175 := Lib.hid (fun q (hq2 : (Value.slice A168 nl c169).ownBlock = some q) => show q ≠ g148 from by have h1 := H152.out; have h2 := row_lt H165.out; rcases hq q hq2 with h3 | h3 <;> omega); have H171 := Lib.hid (H162.out.trans hx); have H172 := Lib.hid (H163.out.ext hx); have H173 := Lib.hid (Ext.row hx H165.out); have H174 := Lib.hid (mine_ext H161.out hx); clear hm hx hq hst)
            refine ⟨by first | exact H172.out | exact fun _ => H172.out, ?_⟩
            refine plan_one rfl (fun K hK => ?_)
            go_wp2
            refine ⟨by first | exact H172.out | exact fun _ => H172.out, ?_⟩
            refine plan_one rfl (fun K hK => ?_)
            have hin := disk30_in (.slice A159 nf c160) (.slice A168 nl c169)
            have hsz : (#[.slice none 0 0, .slice none 0 0] : Array Value).size = (#[.slice A159 nf c160, .slice A168 nl c169] : Array Value).size := rfl
            have hone := disk24_one A159 A168 nf nl c160 c169
            go_wp2_with (with_reducible refine wpList_store_all rfl 30 (.tmp 9) (.tmp 47) rfl g148 _ #[.slice A159 nf c160, .slice A168 nl c169] rfl rfl H173.out hin hsz hone ?_)
            refine ⟨fun h => absurd h (by decide), ?_⟩
            have hg5 := setRow_heap w167 g148 _ #[.slice A159 nf c160, .slice A168 nl c169] _ _ H173.out
            have ho5 : Only (fun k => k = g148) w167 (w167.setRow g148 #[.slice A159 nf c160, .slice A168 nl c169]) := Only.of_grown (grown_block w167 _ _) (fun k e => by injection e with e; exact e.symm)
            unfold wpPlan
            go_wp2_with fail
            go_meet
            exact ⟨g148, A159, c160, A168, c169, rfl, hg5, (H174.out.keep9 (grown_block w167 g148 _) (fun k hk e => by injection e with e; exact H166.out k hk e)).stAt HSF.out, (H170.out.keep9 (grown_block w167 g148 _) (fun k hk e => by injection e with e; exact H175.out k hk e)).stAt HSL.out, H157.out, ho5.ext H171.out (fun k hk => by rw [hk]; exact H157.out)⟩
        · skip
          have hx := (Ext.refl w3).alloc (.cells #[.slice none 0 0, .slice none 0 0] 30)
          obtain ⟨g176, hg⟩ : ∃ b, w3.heap.size = b := ⟨_, rfl⟩
          have H178 := Lib.hid (show (w3.alloc (.cells #[.slice none 0 0, .slice none 0 0] 30)).heap[g176]? = some (.cells #[.slice none 0 0, .slice none 0 0] 30 (0, 0)) from by rw [← hg]; exact heap_alloc_new _ _)
          have H179 := Lib.hid (show b1 ≠ g176 from by have := (H2.out.block b1 rfl).2; omega)
          have H180 := Lib.hid (H4.out.trans hx)
          have H181 := Lib.hid (H5.out.ext hx)
          have H182 := Lib.hid (mine_ext H2.out hx)
          have H183 := Lib.hid (show v1.heap.size ≤ g176 from by rw [← hg]; exact H4.out.size)
          go_wp2
          refine ⟨by first | exact H181.out | exact fun _ => H181.out, ?_⟩
          try rw [hg]
          clear hx hg
          generalize w3.alloc (.cells #[.slice none 0 0, .slice none 0 0] 30) = w177 at H180 H181 H182 H178 ⊢
          refine plan_two rfl rfl (fun K hK => ?_) (fun K hK => ?_)
          · skip
            go_wp2_with (at_builtin; refine wpList_append_new rfl (.tmp 39) (.tmp 41) rfl v1.heap.size b1 F rfl H182.out A nf ca rfl HF.out (HRF.out.ext (HX1.out.trans H180.out)) (by have := HF.out; have := HLE.out; omega) H180.out.size ?_; intro vv w184 hm hx hq; obtain ⟨A185, nn, c186, ev, hst⟩ := hm.st HSF.out; have en := HF.out.symm.trans hst.len; subst en; subst ev; have H187 := Lib.hid hm; have H191 := Lib.hid (fun q (hq2 : (Value.slice A185 nf c186).ownBlock = some q) => show q ≠ g176 from by have h1 := H179.out; have h2 := row_lt H178.out; rcases hq q hq2 with h3 | h3 <;> omega); have H188 := Lib.hid (H180.out.trans hx); have H189 := Lib.hid (H181.out.ext hx); have H190 := Lib.hid (Ext.row hx H178.out); clear hm hx hq hst)
            refine ⟨by first | exact H189.out | exact fun _ => H189.out, ?_⟩
            refine plan_one rfl (fun K hK => ?_)
            have H193 := Lib.hid ((mine_empty w184).down (base' := v1.heap.size) H188.out.size)
            have hx := (Ext.refl w184).alloc (.cells #[] 5)
            obtain ⟨b192, hb⟩ : ∃ b, w184.heap.size = b := ⟨_, rfl⟩
            have H195 := Lib.hid (show b192 ≠ g176 from by rw [← hb]; have := row_lt H190.out; omega)
            have H196 := Lib.hid (H188.out.trans hx)
            have H197 := Lib.hid (H189.out.ext hx)
            have H198 := Lib.hid (Ext.row hx H190.out)
            have H199 := Lib.hid (mine_ext H187.out hx)
            rw [hb] at H193
            go_wp2
            refine ⟨by first | exact H197.out | exact fun _ => H197.out, ?_⟩
            try rw [hb]
            clear hx hb
            generalize w184.alloc (.cells #[] 5) = w194 at H196 H197 H198 H199 H193 ⊢
            refine plan_one rfl (fun K hK => ?_)
            go_wp2_with (at_builtin; refine wpList_append_new rfl (.tmp 43) (.tmp 45) rfl v1.heap.size b192 L rfl H193.out B nl cb rfl HL.out (HRL.out.ext (HX1.out.trans H196.out)) (by have := HL.out; have := HLE.out; omega) H196.out.size ?_; intro vv w200 hm hx hq; obtain ⟨A201, nn, c202, ev, hst⟩ := hm.st HSL.out; have en := HL.out.symm.trans hst.len; subst en; subst ev; have H203 := Lib.hid hm; have H208 := Lib.hid (fun q (hq2 : (Value.slice A201 nl c202).ownBlock = some q) => show q ≠ g176 from by have h1 := H195.out; have h2 := row_lt H198.out; rcases hq q hq2 with h3 | h3 <;> omega); have H204 := Lib.hid (H196.out.trans hx); have H205 := Lib.hid (H197.out.ext hx); have H206 := Lib.hid (Ext.row hx H198.out); have H207 := Lib.hid (mine_ext H199.out hx); clear hm hx hq hst)
            refine ⟨by first | exact H205.out | exact fun _ => H205.out, ?_⟩
            refine plan_one rfl (fun K hK => ?_)
            go_wp2
            refine ⟨by first | exact H205.out | exact fun _ => H205.out, ?_⟩
            refine plan_one rfl (fun K hK => ?_)
            have hin := disk30_in (.slice A185 nf c186) (.slice A201 nl c202)
            have hsz : (#[.slice none 0 0, .slice none 0 0] : Array Value).size = (#[.slice A185 nf c186, .slice A201 nl c202] : Array Value).size := rfl
            have hone := disk24_one A185 A201 nf nl c186 c202
            go_wp2_with (with_reducible refine wpList_store_all rfl 30 (.tmp 9) (.tmp 47) rfl g176 _ #[.slice A185 nf c186, .slice A201 nl c202] rfl rfl H206.out hin hsz hone ?_)
            refine ⟨fun h => absurd h (by decide), ?_⟩
            have hg5 := setRow_heap w200 g176 _ #[.slice A185 nf c186, .slice A201 nl c202] _ _ H206.out
            have ho5 : Only (fun k => k = g176) w200 (w200.setRow g176 #[.slice A185 nf c186, .slice A201 nl c202]) := Only.of_grown (grown_block w200 _ _) (fun k e => by injection e with e; exact e.symm)
            unfold wpPlan
            go_wp2_with fail
            go_meet
            exact ⟨g176, A185, c186, A201, c202, rfl, hg5, (H207.out.keep9 (grown_block w200 g176 _) (fun k hk e => by injection e with e; exact H191.out k hk e)).stAt HSF.out, (H203.out.keep9 (grown_block w200 g176 _) (fun k hk e => by injection e with e; exact H208.out k hk e)).stAt HSL.out, H183.out, ho5.ext H204.out (fun k hk => by rw [hk]; exact H183.out)⟩
          · skip
            have H210 := Lib.hid ((mine_empty w177).down (base' := v1.heap.size) H180.out.size)
            have hx := (Ext.refl w177).alloc (.cells #[] 5)
            obtain ⟨b209, hb⟩ : ∃ b, w177.heap.size = b := ⟨_, rfl⟩
            have H212 := Lib.hid (show b209 ≠ g176 from by rw [← hb]; have := row_lt H178.out; omega)
            have H213 := Lib.hid (H180.out.trans hx)
            have H214 := Lib.hid (H181.out.ext hx)
            have H215 := Lib.hid (mine_ext H182.out hx)
            have H216 := Lib.hid (Ext.row hx H178.out)
            rw [hb] at H210
            go_wp2
            refine ⟨by first | exact H214.out | exact fun _ => H214.out, ?_⟩
            try rw [hb]
            clear hx hb
            generalize w177.alloc (.cells #[] 5) = w211 at H213 H214 H215 H216 H210 ⊢
            refine plan_one rfl (fun K hK => ?_)
            go_wp2_with (at_builtin; refine wpList_append_new rfl (.tmp 39) (.tmp 41) rfl v1.heap.size b1 F rfl H215.out A nf ca rfl HF.out (HRF.out.ext (HX1.out.trans H213.out)) (by have := HF.out; have := HLE.out; omega) H213.out.size ?_; intro vv w217 hm hx hq; obtain ⟨A218, nn, c219, ev, hst⟩ := hm.st HSF.out; have en := HF.out.symm.trans hst.len; subst en; subst ev; have H220 := Lib.hid hm; have H225 := Lib.hid (fun q (hq2 : (Value.slice A218 nf c219).ownBlock = some q) => show q ≠ g176 from by have h1 := H179.out; have h2 := row_lt H216.out; rcases hq q hq2 with h3 | h3 <;> omega); have H221 := Lib.hid (H213.out.trans hx); have H222 := Lib.hid (H214.out.ext hx); have H223 := Lib.hid (Ext.row hx H216.out); have H224 := Lib.hid (mine_ext H210.out hx); clear hm hx hq hst)
            refine ⟨by first | exact H222.out | exact fun _ => H222.out, ?_⟩
            refine plan_one rfl (fun K hK => ?_)
            go_wp2_with (at_builtin; refine wpList_append_new rfl (.tmp 43) (.tmp 45) rfl v1.heap.size b209 L rfl H224.out B nl cb rfl HL.out (HRL.out.ext (HX1.out.trans H221.out)) (by have := HL.out; have := HLE.out; omega) H221.out.size ?_; intro vv w226 hm hx hq; obtain ⟨A227, nn, c228, ev, hst⟩ := hm.st HSL.out; have en := HL.out.symm.trans hst.len; subst en; subst ev; have H229 := Lib.hid hm; have H234 := Lib.hid (fun q (hq2 : (Value.slice A227 nl c228).ownBlock = some q) => show q ≠ g176 from by have h1 := H212.out; have h2 := row_lt H223.out; rcases hq q hq2 with h3 | h3 <;> omega); have H230 := Lib.hid (H221.out.trans hx); have H231 := Lib.hid (H222.out.ext hx); have H232 := Lib.hid (Ext.row hx H223.out); have H233 := Lib.hid (mine_ext H220.out hx); clear hm hx hq hst)
            refine ⟨by first | exact H231.out | exact fun _ => H231.out, ?_⟩
            refine plan_one rfl (fun K hK => ?_)
            go_wp2
            refine ⟨by first | exact H231.out | exact fun _ => H231.out, ?_⟩
            refine plan_one rfl (fun K hK => ?_)
            have hin := disk30_in (.slice A218 nf c219) (.slice A227 nl c228)
            have hsz : (#[.slice none 0 0, .slice none 0 0] : Array Value).size = (#[.slice A218 nf c219, .slice A227 nl c228] : Array Value).size := rfl
            have hone := disk24_one A218 A227 nf nl c219 c228
            go_wp2_with (with_reducible refine wpList_store_all rfl 30 (.tmp 9) (.tmp 47) rfl g176 _ #[.slice A218 nf c219, .slice A227 nl c228] rfl rfl H232.out hin hsz hone ?_)
            refine ⟨fun h => absurd h (by decide), ?_⟩
            have hg5 := setRow_heap w226 g176 _ #[.slice A218 nf c219, .slice A227 nl c228] _ _ H232.out
            have ho5 : Only (fun k => k = g176) w226 (w226.setRow g176 #[.slice A218 nf c219, .slice A227 nl c228]) := Only.of_grown (grown_block w226 _ _) (fun k e => by injection e with e; exact e.symm)
            unfold wpPlan
            go_wp2_with fail
            go_meet
            exact ⟨g176, A218, c219, A227, c228, rfl, hg5, (H233.out.keep9 (grown_block w226 g176 _) (fun k hk e => by injection e with e; exact H225.out k hk e)).stAt HSF.out, (H229.out.keep9 (grown_block w226 g176 _) (fun k hk e => by injection e with e; exact H234.out k hk e)).stAt HSL.out, H183.out, ho5.ext H230.out (fun k hk => by rw [hk]; exact H183.out)⟩
      · skip
        have H236 := Lib.hid ((mine_empty ws).down (base' := v1.heap.size) HXs.out.size)
        have hx := (Ext.refl ws).alloc (.cells #[] 5)
        obtain ⟨b235, hb⟩ : ∃ b, ws.heap.size = b := ⟨_, rfl⟩
        have H238 := Lib.hid (HXs.out.trans hx)
        have H239 := Lib.hid (HTs.out.ext hx)
        rw [hb] at H236
        go_wp2
        refine ⟨by first | exact H239.out | exact fun _ => H239.out, ?_⟩
        try rw [hb]
        clear hx hb
        generalize ws.alloc (.cells #[] 5) = w237 at H238 H239 H236 ⊢
        refine plan_two rfl rfl (fun K hK => ?_) (fun K hK => ?_)
        · skip
          have H241 := Lib.hid ((mine_empty w237).down (base' := v1.heap.size) H238.out.size)
          have hx := (Ext.refl w237).alloc (.cells #[] 5)
          obtain ⟨b240, hb⟩ : ∃ b, w237.heap.size = b := ⟨_, rfl⟩
          have H243 := Lib.hid (H238.out.trans hx)
          have H244 := Lib.hid (H239.out.ext hx)
          have H245 := Lib.hid (mine_ext H236.out hx)
          rw [hb] at H241
          go_wp2
          refine ⟨by first | exact H244.out | exact fun _ => H244.out, ?_⟩
          try rw [hb]
          clear hx hb
          generalize w237.alloc (.cells #[] 5) = w242 at H243 H244 H245 H241 ⊢
          refine plan_two rfl rfl (fun K hK => ?_) (fun K hK => ?_)
          · skip
            go_wp2_with (at_builtin; refine wpList_append_new rfl (.tmp 39) (.tmp 41) rfl v1.heap.size b240 F rfl H241.out A nf ca rfl HF.out (HRF.out.ext (HX1.out.trans H243.out)) (by have := HF.out; have := HLE.out; omega) H243.out.size ?_; intro vv w246 hm hx hq; obtain ⟨A247, nn, c248, ev, hst⟩ := hm.st HSF.out; have en := HF.out.symm.trans hst.len; subst en; subst ev; have H249 := Lib.hid hm; have H250 := Lib.hid (H243.out.trans hx); have H251 := Lib.hid (H244.out.ext hx); have H252 := Lib.hid (mine_ext H245.out hx); clear hm hx hq hst)
            refine ⟨by first | exact H251.out | exact fun _ => H251.out, ?_⟩
            refine plan_two rfl rfl (fun K hK => ?_) (fun K hK => ?_)
            · skip
              go_wp2_with (at_builtin; refine wpList_append_new rfl (.tmp 43) (.tmp 45) rfl v1.heap.size b235 L rfl H252.out B nl cb rfl HL.out (HRL.out.ext (HX1.out.trans H250.out)) (by have := HL.out; have := HLE.out; omega) H250.out.size ?_; intro vv w253 hm hx hq; obtain ⟨A254, nn, c255, ev, hst⟩ := hm.st HSL.out; have en := HL.out.symm.trans hst.len; subst en; subst ev; have H256 := Lib.hid hm; have H257 := Lib.hid (H250.out.trans hx); have H258 := Lib.hid (H251.out.ext hx); have H259 := Lib.hid (mine_ext H249.out hx); clear hm hx hq hst)
              refine ⟨by first | exact H258.out | exact fun _ => H258.out, ?_⟩
              refine plan_two rfl rfl (fun K hK => ?_) (fun K hK => ?_)
              · skip
                go_wp2
                refine ⟨by first | exact H258.out | exact fun _ => H258.out, ?_⟩
                refine plan_one rfl (fun K hK => ?_)
                have hx := (Ext.refl w253).alloc (.cells #[.slice none 0 0, .slice none 0 0] 30)
                obtain ⟨g260, hg⟩ : ∃ b, w253.heap.size = b := ⟨_, rfl⟩
                have H262 := Lib.hid (show (w253.alloc (.cells #[.slice none 0 0, .slice none 0 0] 30)).heap[g260]? = some (.cells #[.slice none 0 0, .slice none 0 0] 30 (0, 0)) from by rw [← hg]; exact heap_alloc_new _ _)
                have H263 := Lib.hid (fun q (hq : (Value.slice A247 nf c248).ownBlock = some q) => show q ≠ g260 from by have := (H259.out.block q hq).2; omega)
                have H264 := Lib.hid (fun q (hq : (Value.slice A254 nl c255).ownBlock = some q) => show q ≠ g260 from by have := (H256.out.block q hq).2; omega)
                have H265 := Lib.hid (H257.out.trans hx)
                have H266 := Lib.hid (H258.out.ext hx)
                have H267 := Lib.hid (mine_ext H259.out hx)
                have H268 := Lib.hid (mine_ext H256.out hx)
                have H269 := Lib.hid (show v1.heap.size ≤ g260 from by rw [← hg]; exact H257.out.size)
                go_wp2
                refine ⟨by first | exact H266.out | exact fun _ => H266.out, ?_⟩
                try rw [hg]
                clear hx hg
                generalize w253.alloc (.cells #[.slice none 0 0, .slice none 0 0] 30) = w261 at H265 H266 H267 H268 H262 ⊢
                refine plan_one rfl (fun K hK => ?_)
                have hin := disk30_in (.slice A247 nf c248) (.slice A254 nl c255)
                have hsz : (#[.slice none 0 0, .slice none 0 0] : Array Value).size = (#[.slice A247 nf c248, .slice A254 nl c255] : Array Value).size := rfl
                have hone := disk24_one A247 A254 nf nl c248 c255
                go_wp2_with (with_reducible refine wpList_store_all rfl 30 (.tmp 9) (.tmp 47) rfl g260 _ #[.slice A247 nf c248, .slice A254 nl c255] rfl rfl H262.out hin hsz hone ?_)
                refine ⟨fun h => absurd h (by decide), ?_⟩
                have hg5 := setRow_heap w261 g260 _ #[.slice A247 nf c248, .slice A254 nl c255] _ _ H262.out
                have ho5 : Only (fun k => k = g260) w261 (w261.setRow g260 #[.slice A247 nf c248, .slice A254 nl c255]) := Only.of_grown (grown_block w261 _ _) (fun k e => by injection e with e; exact e.symm)
                unfold wpPlan
                go_wp2_with fail
                go_meet
                exact ⟨g260, A247, c248, A254, c255, rfl, hg5, (H267.out.keep9 (grown_block w261 g260 _) (fun k hk e => by injection e with e; exact H263.out k hk e)).stAt HSF.out, (H268.out.keep9 (grown_block w261 g260 _) (fun k hk e => by injection e with e; exact H264.out k hk e)).stAt HSL.out, H269.out, ho5.ext H265.out (fun k hk => by rw [hk]; exact H269.out)⟩
              · skip
                have hx := (Ext.refl w253).alloc (.cells #[.slice none 0 0, .slice none 0 0] 30)
                obtain ⟨g270, hg⟩ : ∃ b, w253.heap.size = b := ⟨_, rfl⟩
                have H272 := Lib.hid (show (w253.alloc (.cells #[.slice none 0 0, .slice none 0 0] 30)).heap[g270]? = some (.cells #[.slice none 0 0, .slice none 0 0] 30 (0, 0)) from by rw [← hg]; exact heap_alloc_new _ _)
                have H273 := Lib.hid (fun q (hq : (Value.slice A247 nf c248).ownBlock = some q) => show q ≠ g270 from by have := (H259.out.block q hq).2; omega)
                have H274 := Lib.hid (fun q (hq : (Value.slice A254 nl c255).ownBlock = some q) => show q ≠ g270 from by have := (H256.out.block q hq).2; omega)
                have H275 := Lib.hid (H257.out.trans hx)
                have H276 := Lib.hid (H258.out.ext hx)
                have H277 := Lib.hid (mine_ext H259.out hx)
                have H278 := Lib.hid (mine_ext H256.out hx)
                have H279 := Lib.hid (show v1.heap.size ≤ g270 from by rw [← hg]; exact H257.out.size)
                go_wp2
                refine ⟨by first | exact H276.out | exact fun _ => H276.out, ?_⟩
                try rw [hg]
                clear hx hg
                generalize w253.alloc (.cells #[.slice none 0 0, .slice none 0 0] 30) = w271 at H275 H276 H277 H278 H272 ⊢
                refine plan_one rfl (fun K hK => ?_)
                go_wp2
                refine ⟨by first | exact H276.out | exact fun _ => H276.out, ?_⟩
                refine plan_one rfl (fun K hK => ?_)
                have hin := disk30_in (.slice A247 nf c248) (.slice A254 nl c255)
                have hsz : (#[.slice none 0 0, .slice none 0 0] : Array Value).size = (#[.slice A247 nf c248, .slice A254 nl c255] : Array Value).size := rfl
                have hone := disk24_one A247 A254 nf nl c248 c255
                go_wp2_with (with_reducible refine wpList_store_all rfl 30 (.tmp 9) (.tmp 47) rfl g270 _ #[.slice A247 nf c248, .slice A254 nl c255] rfl rfl H272.out hin hsz hone ?_)
                refine ⟨fun h => absurd h (by decide), ?_⟩
                have hg5 := setRow_heap w271 g270 _ #[.slice A247 nf c248, .slice A254 nl c255] _ _ H272.out
                have ho5 : Only (fun k => k = g270) w271 (w271.setRow g270 #[.slice A247 nf c248, .slice A254 nl c255]) := Only.of_grown (grown_block w271 _ _) (fun k e => by injection e with e; exact e.symm)
                unfold wpPlan
                go_wp2_with fail
                go_meet
                exact ⟨g270, A247, c248, A254, c255, rfl, hg5, (H277.out.keep9 (grown_block w271 g270 _) (fun k hk e => by injection e with e; exact H273.out k hk e)).stAt HSF.out, (H278.out.keep9 (grown_block w271 g270 _) (fun k hk e => by injection e with e; exact H274.out k hk e)).stAt HSL.out, H279.out, ho5.ext H275.out (fun k hk => by rw [hk]; exact H279.out)⟩
            · skip
              have hx := (Ext.refl w246).alloc (.cells #[.slice none 0 0, .slice none 0 0] 30)
              obtain ⟨g280, hg⟩ : ∃ b, w246.heap.size = b := ⟨_, rfl⟩
              have H282 := Lib.hid (show (w246.alloc (.cells #[.slice none 0 0, .slice none 0 0] 30)).heap[g280]? = some (.cells #[.slice none 0 0, .slice none 0 0] 30 (0, 0)) from by rw [← hg]; exact heap_alloc_new _ _)
              have H283 := Lib.hid (show b235 ≠ g280 from by have := (H252.out.block b235 rfl).2; omega)
              have H284 := Lib.hid (fun q (hq : (Value.slice A247 nf c248).ownBlock = some q) => show q ≠ g280 from by have := (H249.out.block q hq).2; omega)
              have H285 := Lib.hid (H250.out.trans hx)
              have H286 := Lib.hid (H251.out.ext hx)
              have H287 := Lib.hid (mine_ext H252.out hx)
              have H288 := Lib.hid (mine_ext H249.out hx)
              have H289 := Lib.hid (show v1.heap.size ≤ g280 from by rw [← hg]; exact H250.out.size)
              go_wp2
              refine ⟨by first | exact H286.out | exact fun _ => H286.out, ?_⟩
              try rw [hg]
              clear hx hg
              generalize w246.alloc (.cells #[.slice none 0 0, .slice none 0 0] 30) = w281 at H285 H286 H287 H288 H282 ⊢
              refine plan_one rfl (fun K hK => ?_)
              go_wp2_with (at_builtin; refine wpList_append_new rfl (.tmp 43) (.tmp 45) rfl v1.heap.size b235 L rfl H287.out B nl cb rfl HL.out (HRL.out.ext (HX1.out.trans H285.out)) (by have := HL.out; have := HLE.out; omega) H285.out.size ?_; intro vv w290 hm hx hq; obtain ⟨A291, nn, c292, ev, hst⟩ := hm.st HSL.out; have en := HL.out.symm.trans hst.len; subst en; subst ev; have H293 := Lib.hid hm; have H298 := Lib.hid (fun q (hq2 : (Value.slice A291 nl c292).ownBlock = some q) => show q ≠ g280 from by have h1 := H283.out; have h2 := row_lt H282.out; rcases hq q hq2 with h3 | h3 <;> omega); have H294 := Lib.hid (H285.out.trans hx); have H295 := Lib.hid (H286.out.ext hx); have H296 := Lib.hid (mine_ext H288.out hx); have H297 := Lib.hid (Ext.row hx H282.out); clear hm hx hq hst)
              refine ⟨by first | exact H295.out | exact fun _ => H295.out, ?_⟩
              refine plan_one rfl (fun K hK => ?_)
              go_wp2
              refine ⟨by first | exact H295.out | exact fun _ => H295.out, ?_⟩
              refine plan_one rfl (fun K hK => ?_)
              have hin := disk30_in (.slice A247 nf c248) (.slice A291 nl c292)
              have hsz : (#[.slice none 0 0, .slice none 0 0] : Array Value).size = (#[.slice A247 nf c248, .slice A291 nl c292] : Array Value).size := rfl
              have hone := disk24_one A247 A291 nf nl c248 c292
              go_wp2_with (with_reducible refine wpList_store_all rfl 30 (.tmp 9) (.tmp 47) rfl g280 _ #[.slice A247 nf c248, .slice A291 nl c292] rfl rfl H297.out hin hsz hone ?_)
              refine ⟨fun h => absurd h (by decide), ?_⟩
              have hg5 := setRow_heap w290 g280 _ #[.slice A247 nf c248, .slice A291 nl c292] _ _ H297.out
              have ho5 : Only (fun k => k = g280) w290 (w290.setRow g280 #[.slice A247 nf c248, .slice A291 nl c292]) := Only.of_grown (grown_block w290 _ _) (fun k e => by injection e with e; exact e.symm)
              unfold wpPlan
              go_wp2_with fail
              go_meet
              exact ⟨g280, A247, c248, A291, c292, rfl, hg5, (H296.out.keep9 (grown_block w290 g280 _) (fun k hk e => by injection e with e; exact H284.out k hk e)).stAt HSF.out, (H293.out.keep9 (grown_block w290 g280 _) (fun k hk e => by injection e with e; exact H298.out k hk e)).stAt HSL.out, H289.out, ho5.ext H294.out (fun k hk => by rw [hk]; exact H289.out)⟩
          · skip
            have hx := (Ext.refl w242).alloc (.cells #[.slice none 0 0, .slice none 0 0] 30)
            obtain ⟨g299, hg⟩ : ∃ b, w242.heap.size = b := ⟨_, rfl⟩
            have H301 := Lib.hid (show (w242.alloc (.cells #[.slice none 0 0, .slice none 0 0] 30)).heap[g299]? = some (.cells #[.slice none 0 0, .slice none 0 0] 30 (0, 0)) from by rw [← hg]; exact heap_alloc_new _ _)
            have H302 := Lib.hid (show b240 ≠ g299 from by have := (H241.out.block b240 rfl).2; omega)
            have H303 := Lib.hid (show b235 ≠ g299 from by have := (H245.out.block b235 rfl).2; omega)
            have H304 := Lib.hid (H243.out.trans hx)
            have H305 := Lib.hid (H244.out.ext hx)
            have H306 := Lib.hid (mine_ext H245.out hx)
            have H307 := Lib.hid (mine_ext H241.out hx)
            have H308 := Lib.hid (show v1.heap.size ≤ g299 from by rw [← hg]; exact H243.out.size)
            go_wp2
            refine ⟨by first | exact H305.out | exact fun _ => H305.out, ?_⟩
            try rw [hg]
            clear hx hg
            generalize w242.alloc (.cells #[.slice none 0 0, .slice none 0 0] 30) = w300 at H304 H305 H306 H307 H301 ⊢
            refine plan_one rfl (fun K hK => ?_)
            go_wp2_with (at_builtin; refine wpList_append_new rfl (.tmp 39) (.tmp 41) rfl v1.heap.size b240 F rfl H307.out A nf ca rfl HF.out (HRF.out.ext (HX1.out.trans H304.out)) (by have := HF.out; have := HLE.out; omega) H304.out.size ?_; intro vv w309 hm hx hq; obtain ⟨A310, nn, c311, ev, hst⟩ := hm.st HSF.out; have en := HF.out.symm.trans hst.len; subst en; subst ev; have H312 := Lib.hid hm; have H317 := Lib.hid (fun q (hq2 : (Value.slice A310 nf c311).ownBlock = some q) => show q ≠ g299 from by have h1 := H302.out; have h2 := row_lt H301.out; rcases hq q hq2 with h3 | h3 <;> omega); have H313 := Lib.hid (H304.out.trans hx); have H314 := Lib.hid (H305.out.ext hx); have H315 := Lib.hid (mine_ext H306.out hx); have H316 := Lib.hid (Ext.row hx H301.out); clear hm hx hq hst)
            refine ⟨by first | exact H314.out | exact fun _ => H314.out, ?_⟩
            refine plan_one rfl (fun K hK => ?_)
            go_wp2_with (at_builtin; refine wpList_append_new rfl (.tmp 43) (.tmp 45) rfl v1.heap.size b235 L rfl H315.out B nl cb rfl HL.out (HRL.out.ext (HX1.out.trans H313.out)) (by have := HL.out; have := HLE.out; omega) H313.out.size ?_; intro vv w318 hm hx hq; obtain ⟨A319, nn, c320, ev, hst⟩ := hm.st HSL.out; have en := HL.out.symm.trans hst.len; subst en; subst ev; have H321 := Lib.hid hm; have H326 := Lib.hid (fun q (hq2 : (Value.slice A319 nl c320).ownBlock = some q) => show q ≠ g299 from by have h1 := H303.out; have h2 := row_lt H316.out; rcases hq q hq2 with h3 | h3 <;> omega); have H322 := Lib.hid (H313.out.trans hx); have H323 := Lib.hid (H314.out.ext hx); have H324 := Lib.hid (Ext.row hx H316.out); have H325 := Lib.hid (mine_ext H312.out hx); clear hm hx hq hst)
            refine ⟨by first | exact H323.out | exact fun _ => H323.out, ?_⟩
            refine plan_one rfl (fun K hK => ?_)
            go_wp2
            refine ⟨by first | exact H323.out | exact fun _ => H323.out, ?_⟩
            refine plan_one rfl (fun K hK => ?_)
            have hin := disk30_in (.slice A310 nf c311) (.slice A319 nl c320)
            have hsz : (#[.slice none 0 0, .slice none 0 0] : Array Value).size = (#[.slice A310 nf c311, .slice A319 nl c320] : Array Value).size := rfl
            have hone := disk24_one A310 A319 nf nl c311 c320
            go_wp2_with (with_reducible refine wpList_store_all rfl 30 (.tmp 9) (.tmp 47) rfl g299 _ #[.slice A310 nf c311, .slice A319 nl c320] rfl rfl H324.out hin hsz hone ?_)
            refine ⟨fun h => absurd h (by decide), ?_⟩
            have hg5 := setRow_heap w318 g299 _ #[.slice A310 nf c311, .slice A319 nl c320] _ _ H324.out
            have ho5 : Only (fun k => k = g299) w318 (w318.setRow g299 #[.slice A310 nf c311, .slice A319 nl c320]) := Only.of_grown (grown_block w318 _ _) (fun k e => by injection e with e; exact e.symm)
            unfold wpPlan
            go_wp2_with fail
            go_meet
            exact ⟨g299, A310, c311, A319, c320, rfl, hg5, (H325.out.keep9 (grown_block w318 g299 _) (fun k hk e => by injection e with e; exact H317.out k hk e)).stAt HSF.out, (H321.out.keep9 (grown_block w318 g299 _) (fun k hk e => by injection e with e; exact H326.out k hk e)).stAt HSL.out, H308.out, ho5.ext H322.out (fun k hk => by rw [hk]; exact H308.out)⟩
        · skip
          have hx := (Ext.refl w237).alloc (.cells #[.slice none 0 0, .slice none 0 0] 30)
          obtain ⟨g327, hg⟩ : ∃ b, w237.heap.size = b := ⟨_, rfl⟩
          have H329 := Lib.hid (show (w237.alloc (.cells #[.slice none 0 0, .slice none 0 0] 30)).heap[g327]? = some (.cells #[.slice none 0 0, .slice none 0 0] 30 (0, 0)) from by rw [← hg]; exact heap_alloc_new _ _)
          have H330 := Lib.hid (show b235 ≠ g327 from by have := (H236.out.block b235 rfl).2; omega)
          have H331 := Lib.hid (H238.out.trans hx)
          have H332 := Lib.hid (H239.out.ext hx)
          have H333 := Lib.hid (mine_ext H236.out hx)
          have H334 := Lib.hid (show v1.heap.size ≤ g327 from by rw [← hg]; exact H238.out.size)
          go_wp2
          refine ⟨by first | exact H332.out | exact fun _ => H332.out, ?_⟩
          try rw [hg]
          clear hx hg
          generalize w237.alloc (.cells #[.slice none 0 0, .slice none 0 0] 30) = w328 at H331 H332 H333 H329 ⊢
          refine plan_one rfl (fun K hK => ?_)
          have H336 := Lib.hid ((mine_empty w328).down (base' := v1.heap.size) H331.out.size)
          have hx := (Ext.refl w328).alloc (.cells #[] 5)
          obtain ⟨b335, hb⟩ : ∃ b, w328.heap.size = b := ⟨_, rfl⟩
          have H338 := Lib.hid (show b335 ≠ g327 from by rw [← hb]; have := row_lt H329.out; omega)
          have H339 := Lib.hid (H331.out.trans hx)
          have H340 := Lib.hid (H332.out.ext hx)
          have H341 := Lib.hid (mine_ext H333.out hx)
          have H342 := Lib.hid (Ext.row hx H329.out)
          rw [hb] at H336
          go_wp2
          refine ⟨by first | exact H340.out | exact fun _ => H340.out, ?_⟩
          try rw [hb]
          clear hx hb
          generalize w328.alloc (.cells #[] 5) = w337 at H339 H340 H341 H342 H336 ⊢
          refine plan_one rfl (fun K hK => ?_)
          go_wp2_with (at_builtin; refine wpList_append_new rfl (.tmp 39) (.tmp 41) rfl v1.heap.size b335 F rfl H336.out A nf ca rfl HF.out (HRF.out.ext (HX1.out.trans H339.out)) (by have := HF.out; have := HLE.out; omega) H339.out.size ?_; intro vv w343 hm hx hq; obtain ⟨A344, nn, c345, ev, hst⟩ := hm.st HSF.out; have en := HF.out.symm.trans hst.len; subst en; subst ev; have H346 := Lib.hid hm; have H351 := Lib.hid (fun q (hq2 : (Value.slice A344 nf c345).ownBlock = some q) => show q ≠ g327 from by have h1 := H338.out; have h2 := row_lt H342.out; rcases hq q hq2 with h3 | h3 <;> omega); have H347 := Lib.hid (H339.out.trans hx); have H348 := Lib.hid (H340.out.ext hx); have H349 := Lib.hid (mine_ext H341.out hx); have H350 := Lib.hid (Ext.row hx H342.out); clear hm hx hq hst)
          refine ⟨by first | exact H348.out | exact fun _ => H348.out, ?_⟩
          refine plan_one rfl (fun K hK => ?_)
          go_wp2_with (at_builtin; refine wpList_append_new rfl (.tmp 43) (.tmp 45) rfl v1.heap.size b235 L rfl H349.out B nl cb rfl HL.out (HRL.out.ext (HX1.out.trans H347.out)) (by have := HL.out; have := HLE.out; omega) H347.out.size ?_; intro vv w352 hm hx hq; obtain ⟨A353, nn, c354, ev, hst⟩ := hm.st HSL.out; have en := HL.out.symm.trans hst.len; subst en; subst ev; have H355 := Lib.hid hm; have H360 := Lib.hid (fun q (hq2 : (Value.slice A353 nl c354).ownBlock = some q) => show q ≠ g327 from by have h1 := H330.out; have h2 := row_lt H350.out; rcases hq q hq2 with h3 | h3 <;> omega); have H356 := Lib.hid (H347.out.trans hx); have H357 := Lib.hid (H348.out.ext hx); have H358 := Lib.hid (Ext.row hx H350.out); have H359 := Lib.hid (mine_ext H346.out hx); clear hm hx hq hst)
          refine ⟨by first | exact H357.out | exact fun _ => H357.out, ?_⟩
          refine plan_one rfl (fun K hK => ?_)
          go_wp2
          refine ⟨by first | exact H357.out | exact fun _ => H357.out, ?_⟩
          refine plan_one rfl (fun K hK => ?_)
          have hin := disk30_in (.slice A344 nf c345) (.slice A353 nl c354)
          have hsz : (#[.slice none 0 0, .slice none 0 0] : Array Value).size = (#[.slice A344 nf c345, .slice A353 nl c354] : Array Value).size := rfl
          have hone := disk24_one A344 A353 nf nl c345 c354
          go_wp2_with (with_reducible refine wpList_store_all rfl 30 (.tmp 9) (.tmp 47) rfl g327 _ #[.slice A344 nf c345, .slice A353 nl c354] rfl rfl H358.out hin hsz hone ?_)
          refine ⟨fun h => absurd h (by decide), ?_⟩
          have hg5 := setRow_heap w352 g327 _ #[.slice A344 nf c345, .slice A353 nl c354] _ _ H358.out
          have ho5 : Only (fun k => k = g327) w352 (w352.setRow g327 #[.slice A344 nf c345, .slice A353 nl c354]) := Only.of_grown (grown_block w352 _ _) (fun k e => by injection e with e; exact e.symm)
          unfold wpPlan
          go_wp2_with fail
          go_meet
          exact ⟨g327, A344, c345, A353, c354, rfl, hg5, (H359.out.keep9 (grown_block w352 g327 _) (fun k hk e => by injection e with e; exact H351.out k hk e)).stAt HSF.out, (H355.out.keep9 (grown_block w352 g327 _) (fun k hk e => by injection e with e; exact H360.out k hk e)).stAt HSL.out, H334.out, ho5.ext H356.out (fun k hk => by rw [hk]; exact H334.out)⟩
      · skip
        have hx := (Ext.refl ws).alloc (.cells #[.slice none 0 0, .slice none 0 0] 30)
        obtain ⟨g361, hg⟩ : ∃ b, ws.heap.size = b := ⟨_, rfl⟩
        have H363 := Lib.hid (show (ws.alloc (.cells #[.slice none 0 0, .slice none 0 0] 30)).heap[g361]? = some (.cells #[.slice none 0 0, .slice none 0 0] 30 (0, 0)) from by rw [← hg]; exact heap_alloc_new _ _)
        have H364 := Lib.hid (HXs.out.trans hx)
        have H365 := Lib.hid (HTs.out.ext hx)
        have H366 := Lib.hid (show v1.heap.size ≤ g361 from by rw [← hg]; exact HXs.out.size)
        go_wp2
        refine ⟨by first | exact H365.out | exact fun _ => H365.out, ?_⟩
        try rw [hg]
        clear hx hg
        generalize ws.alloc (.cells #[.slice none 0 0, .slice none 0 0] 30) = w362 at H364 H365 H363 ⊢
        refine plan_two rfl rfl (fun K hK => ?_) (fun K hK => ?_)
        · skip
          have H368 := Lib.hid ((mine_empty w362).down (base' := v1.heap.size) H364.out.size)
          have hx := (Ext.refl w362).alloc (.cells #[] 5)
          obtain ⟨b367, hb⟩ : ∃ b, w362.heap.size = b := ⟨_, rfl⟩
          have H370 := Lib.hid (show b367 ≠ g361 from by rw [← hb]; have := row_lt H363.out; omega)
          have H371 := Lib.hid (H364.out.trans hx)
          have H372 := Lib.hid (H365.out.ext hx)
          have H373 := Lib.hid (Ext.row hx H363.out)
          rw [hb] at H368
          go_wp2
          refine ⟨by first | exact H372.out | exact fun _ => H372.out, ?_⟩
          try rw [hb]
          clear hx hb
          generalize w362.alloc (.cells #[] 5) = w369 at H371 H372 H373 H368 ⊢
          refine plan_two rfl rfl (fun K hK => ?_) (fun K hK => ?_)
          · skip
            go_wp2_with (at_builtin; refine wpList_append_new rfl (.tmp 39) (.tmp 41) rfl v1.heap.size b367 F rfl H368.out A nf ca rfl HF.out (HRF.out.ext (HX1.out.trans H371.out)) (by have := HF.out; have := HLE.out; omega) H371.out.size ?_; intro vv w374 hm hx hq; obtain ⟨A375, nn, c376, ev, hst⟩ := hm.st HSF.out; have en := HF.out.symm.trans hst.len; subst en; subst ev; have H377 := Lib.hid hm; have H381 := Lib.hid (fun q (hq2 : (Value.slice A375 nf c376).ownBlock = some q) => show q ≠ g361 from by have h1 := H370.out; have h2 := row_lt H373.out; rcases hq q hq2 with h3 | h3 <;> omega); have H378 := Lib.hid (H371.out.trans hx); have H379 := Lib.hid (H372.out.ext hx); have H380 := Lib.hid (Ext.row hx H373.out); clear hm hx hq hst)
            refine ⟨by first | exact H379.out | exact fun _ => H379.out, ?_⟩
            refine plan_one rfl (fun K hK => ?_)
            have H383 := Lib.hid ((mine_empty w374).down (base' := v1.heap.size) H378.out.size)
            have hx := (Ext.refl w374).alloc (.cells #[] 5)
            obtain ⟨b382, hb⟩ : ∃ b, w374.heap.size = b := ⟨_, rfl⟩
            have H385 := Lib.hid (show b382 ≠ g361 from by rw [← hb]; have := row_lt H380.out; omega)
            have H386 := Lib.hid (H378.out.trans hx)
            have H387 := Lib.hid (H379.out.ext hx)
            have H388 := Lib.hid (Ext.row hx H380.out)
            have H389 := Lib.hid (mine_ext H377.out hx)
            rw [hb] at H383
            go_wp2
            refine ⟨by first | exact H387.out | exact fun _ => H387.out, ?_⟩
            try rw [hb]
            clear hx hb
            generalize w374.alloc (.cells #[] 5) = w384 at H386 H387 H388 H389 H383 ⊢
            refine plan_one rfl (fun K hK => ?_)
            go_wp2_with (at_builtin; refine wpList_append_new rfl (.tmp 43) (.tmp 45) rfl v1.heap.size b382 L rfl H383.out B nl cb rfl HL.out (HRL.out.ext (HX1.out.trans H386.out)) (by have := HL.out; have := HLE.out; omega) H386.out.size ?_; intro vv w390 hm hx hq; obtain ⟨A391, nn, c392, ev, hst⟩ := hm.st HSL.out; have en := HL.out.symm.trans hst.len; subst en; subst ev; have H393 := Lib.hid hm; have H398 := Lib.hid (fun q (hq2 : (Value.slice A391 nl c392).ownBlock = some q) => show q ≠ g361 from by have h1 := H385.out; have h2 := row_lt H388.out; rcases hq q hq2 with h3 | h3 <;> omega); have H394 := Lib.hid (H386.out.trans hx); have H395 := Lib.hid (H387.out.ext hx); have H396 := Lib.hid (Ext.row hx H388.out); have H397 := Lib.hid (mine_ext H389.out hx); clear hm hx hq hst)
            refine ⟨by first | exact H395.out | exact fun _ => H395.out, ?_⟩
            refine plan_one rfl (fun K hK => ?_)
            go_wp2
            refine ⟨by first | exact H395.out | exact fun _ => H395.out, ?_⟩
            refine plan_one rfl (fun K hK => ?_)
            have hin := disk30_in (.slice A375 nf c376) (.slice A391 nl c392)
            have hsz : (#[.slice none 0 0, .slice none 0 0] : Array Value).size = (#[.slice A375 nf c376, .slice A391 nl c392] : Array Value).size := rfl
            have hone := disk24_one A375 A391 nf nl c376 c392
            go_wp2_with (with_reducible refine wpList_store_all rfl 30 (.tmp 9) (.tmp 47) rfl g361 _ #[.slice A375 nf c376, .slice A391 nl c392] rfl rfl H396.out hin hsz hone ?_)
            refine ⟨fun h => absurd h (by decide), ?_⟩
            have hg5 := setRow_heap w390 g361 _ #[.slice A375 nf c376, .slice A391 nl c392] _ _ H396.out
            have ho5 : Only (fun k => k = g361) w390 (w390.setRow g361 #[.slice A375 nf c376, .slice A391 nl c392]) := Only.of_grown (grown_block w390 _ _) (fun k e => by injection e with e; exact e.symm)
            unfold wpPlan
            go_wp2_with fail
            go_meet
            exact ⟨g361, A375, c376, A391, c392, rfl, hg5, (H397.out.keep9 (grown_block w390 g361 _) (fun k hk e => by injection e with e; exact H381.out k hk e)).stAt HSF.out, (H393.out.keep9 (grown_block w390 g361 _) (fun k hk e => by injection e with e; exact H398.out k hk e)).stAt HSL.out, H366.out, ho5.ext H394.out (fun k hk => by rw [hk]; exact H366.out)⟩
          · skip
            have H400 := Lib.hid ((mine_empty w369).down (base' := v1.heap.size) H371.out.size)
            have hx := (Ext.refl w369).alloc (.cells #[] 5)
            obtain ⟨b399, hb⟩ : ∃ b, w369.heap.size = b := ⟨_, rfl⟩
            have H402 := Lib.hid (show b399 ≠ g361 from by rw [← hb]; have := row_lt H373.out; omega)
            have H403 := Lib.hid (H371.out.trans hx)
            have H404 := Lib.hid (H372.out.ext hx)
            have H405 := Lib.hid (Ext.row hx H373.out)
            have H406 := Lib.hid (mine_ext H368.out hx)
            rw [hb] at H400
            go_wp2
            refine ⟨by first | exact H404.out | exact fun _ => H404.out, ?_⟩
            try rw [hb]
            clear hx hb
            generalize w369.alloc (.cells #[] 5) = w401 at H403 H404 H405 H406 H400 ⊢
            refine plan_one rfl (fun K hK => ?_)
            go_wp2_with (at_builtin; refine wpList_append_new rfl (.tmp 39) (.tmp 41) rfl v1.heap.size b367 F rfl H406.out A nf ca rfl HF.out (HRF.out.ext (HX1.out.trans H403.out)) (by have := HF.out; have := HLE.out; omega) H403.out.size ?_; intro vv w407 hm hx hq; obtain ⟨A408, nn, c409, ev, hst⟩ := hm.st HSF.out; have en := HF.out.symm.trans hst.len; subst en; subst ev; have H410 := Lib.hid hm; have H415 := Lib.hid (fun q (hq2 : (Value.slice A408 nf c409).ownBlock = some q) => show q ≠ g361 from by have h1 := H370.out; have h2 := row_lt H405.out; rcases hq q hq2 with h3 | h3 <;> omega); have H411 := Lib.hid (H403.out.trans hx); have H412 := Lib.hid (H404.out.ext hx); have H413 := Lib.hid (Ext.row hx H405.out); have H414 := Lib.hid (mine_ext H400.out hx); clear hm hx hq hst)
            refine ⟨by first | exact H412.out | exact fun _ => H412.out, ?_⟩
            refine plan_one rfl (fun K hK => ?_)
            go_wp2_with (at_builtin; refine wpList_append_new rfl (.tmp 43) (.tmp 45) rfl v1.heap.size b399 L rfl H414.out B nl cb rfl HL.out (HRL.out.ext (HX1.out.trans H411.out)) (by have := HL.out; have := HLE.out; omega) H411.out.size ?_; intro vv w416 hm hx hq; obtain ⟨A417, nn, c418, ev, hst⟩ := hm.st HSL.out; have en := HL.out.symm.trans hst.len; subst en; subst ev; have H419 := Lib.hid hm; have H424 := Lib.hid (fun q (hq2 : (Value.slice A417 nl c418).ownBlock = some q) => show q ≠ g361 from by have h1 := H402.out; have h2 := row_lt H413.out; rcases hq q hq2 with h3 | h3 <;> omega); have H420 := Lib.hid (H411.out.trans hx); have H421 := Lib.hid (H412.out.ext hx); have H422 := Lib.hid (Ext.row hx H413.out); have H423 := Lib.hid (mine_ext H410.out hx); clear hm hx hq hst)
            refine ⟨by first | exact H421.out | exact fun _ => H421.out, ?_⟩
            refine plan_one rfl (fun K hK => ?_)
            go_wp2
            refine ⟨by first | exact H421.out | exact fun _ => H421.out, ?_⟩
            refine plan_one rfl (fun K hK => ?_)
            have hin := disk30_in (.slice A408 nf c409) (.slice A417 nl c418)
            have hsz : (#[.slice none 0 0, .slice none 0 0] : Array Value).size = (#[.slice A408 nf c409, .slice A417 nl c418] : Array Value).size := rfl
            have hone := disk24_one A408 A417 nf nl c409 c418
            go_wp2_with (with_reducible refine wpList_store_all rfl 30 (.tmp 9) (.tmp 47) rfl g361 _ #[.slice A408 nf c409, .slice A417 nl c418] rfl rfl H422.out hin hsz hone ?_)
            refine ⟨fun h => absurd h (by decide), ?_⟩
            have hg5 := setRow_heap w416 g361 _ #[.slice A408 nf c409, .slice A417 nl c418] _ _ H422.out
            have ho5 : Only (fun k => k = g361) w416 (w416.setRow g361 #[.slice A408 nf c409, .slice A417 nl c418]) := Only.of_grown (grown_block w416 _ _) (fun k e => by injection e with e; exact e.symm)
            unfold wpPlan
            go_wp2_with fail
            go_meet
            exact ⟨g361, A408, c409, A417, c418, rfl, hg5, (H423.out.keep9 (grown_block w416 g361 _) (fun k hk e => by injection e with e; exact H415.out k hk e)).stAt HSF.out, (H419.out.keep9 (grown_block w416 g361 _) (fun k hk e => by injection e with e; exact H424.out k hk e)).stAt HSL.out, H366.out, ho5.ext H420.out (fun k hk => by rw [hk]; exact H366.out)⟩
        · skip
          have H426 := Lib.hid ((mine_empty w362).down (base' := v1.heap.size) H364.out.size)
          have hx := (Ext.refl w362).alloc (.cells #[] 5)
          obtain ⟨b425, hb⟩ : ∃ b, w362.heap.size = b := ⟨_, rfl⟩
          have H428 := Lib.hid (show b425 ≠ g361 from by rw [← hb]; have := row_lt H363.out; omega)
          have H429 := Lib.hid (H364.out.trans hx)
          have H430 := Lib.hid (H365.out.ext hx)
          have H431 := Lib.hid (Ext.row hx H363.out)
          rw [hb] at H426
          go_wp2
          refine ⟨by first | exact H430.out | exact fun _ => H430.out, ?_⟩
          try rw [hb]
          clear hx hb
          generalize w362.alloc (.cells #[] 5) = w427 at H429 H430 H431 H426 ⊢
          refine plan_one rfl (fun K hK => ?_)
          have H433 := Lib.hid ((mine_empty w427).down (base' := v1.heap.size) H429.out.size)
          have hx := (Ext.refl w427).alloc (.cells #[] 5)
          obtain ⟨b432, hb⟩ : ∃ b, w427.heap.size = b := ⟨_, rfl⟩
          have H435 := Lib.hid (show b432 ≠ g361 from by rw [← hb]; have := row_lt H431.out; omega)
          have H436 := Lib.hid (H429.out.trans hx)
          have H437 := Lib.hid (H430.out.ext hx)
          have H438 := Lib.hid (Ext.row hx H431.out)
          have H439 := Lib.hid (mine_ext H426.out hx)
          rw [hb] at H433
          go_wp2
          refine ⟨by first | exact H437.out | exact fun _ => H437.out, ?_⟩
          try rw [hb]
          clear hx hb
          generalize w427.alloc (.cells #[] 5) = w434 at H436 H437 H438 H439 H433 ⊢
          refine plan_one rfl (fun K hK => ?_)
          go_wp2_with (at_builtin; refine wpList_append_new rfl (.tmp 39) (.tmp 41) rfl v1.heap.size b432 F rfl H433.out A nf ca rfl HF.out (HRF.out.ext (HX1.out.trans H436.out)) (by have := HF.out; have := HLE.out; omega) H436.out.size ?_; intro vv w440 hm hx hq; obtain ⟨A441, nn, c442, ev, hst⟩ := hm.st HSF.out; have en := HF.out.symm.trans hst.len; subst en; subst ev; have H443 := Lib.hid hm; have H448 := Lib.hid (fun q (hq2 : (Value.slice A441 nf c442).ownBlock = some q) => show q ≠ g361 from by have h1 := H435.out; have h2 := row_lt H438.out; rcases hq q hq2 with h3 | h3 <;> omega); have H444 := Lib.hid (H436.out.trans hx); have H445 := Lib.hid (H437.out.ext hx); have H446 := Lib.hid (Ext.row hx H438.out); have H447 := Lib.hid (mine_ext H439.out hx); clear hm hx hq hst)
          refine ⟨by first | exact H445.out | exact fun _ => H445.out, ?_⟩
          refine plan_one rfl (fun K hK => ?_)
          go_wp2_with (at_builtin; refine wpList_append_new rfl (.tmp 43) (.tmp 45) rfl v1.heap.size b425 L rfl H447.out B nl cb rfl HL.out (HRL.out.ext (HX1.out.trans H444.out)) (by have := HL.out; have := HLE.out; omega) H444.out.size ?_; intro vv w449 hm hx hq; obtain ⟨A450, nn, c451, ev, hst⟩ := hm.st HSL.out; have en := HL.out.symm.trans hst.len; subst en; subst ev; have H452 := Lib.hid hm; have H457 := Lib.hid (fun q (hq2 : (Value.slice A450 nl c451).ownBlock = some q) => show q ≠ g361 from by have h1 := H428.out; have h2 := row_lt H446.out; rcases hq q hq2 with h3 | h3 <;> omega); have H453 := Lib.hid (H444.out.trans hx); have H454 := Lib.hid (H445.out.ext hx); have H455 := Lib.hid (Ext.row hx H446.out); have H456 := Lib.hid (mine_ext H443.out hx); clear hm hx hq hst)
          refine ⟨by first | exact H454.out | exact fun _ => H454.out, ?_⟩
          refine plan_one rfl (fun K hK => ?_)
          go_wp2
          refine ⟨by first | exact H454.out | exact fun _ => H454.out, ?_⟩
          refine plan_one rfl (fun K hK => ?_)
          have hin := disk30_in (.slice A441 nf c442) (.slice A450 nl c451)
          have hsz : (#[.slice none 0 0, .slice none 0 0] : Array Value).size = (#[.slice A441 nf c442, .slice A450 nl c451] : Array Value).size := rfl
          have hone := disk24_one A441 A450 nf nl c442 c451
          go_wp2_with (with_reducible refine wpList_store_all rfl 30 (.tmp 9) (.tmp 47) rfl g361 _ #[.slice A441 nf c442, .slice A450 nl c451] rfl rfl H455.out hin hsz hone ?_)
          refine ⟨fun h => absurd h (by decide), ?_⟩
          have hg5 := setRow_heap w449 g361 _ #[.slice A441 nf c442, .slice A450 nl c451] _ _ H455.out
          have ho5 : Only (fun k => k = g361) w449 (w449.setRow g361 #[.slice A441 nf c442, .slice A450 nl c451]) := Only.of_grown (grown_block w449 _ _) (fun k e => by injection e with e; exact e.symm)
          unfold wpPlan
          go_wp2_with fail
          go_meet
          exact ⟨g361, A441, c442, A450, c451, rfl, hg5, (H456.out.keep9 (grown_block w449 g361 _) (fun k hk e => by injection e with e; exact H448.out k hk e)).stAt HSF.out, (H452.out.keep9 (grown_block w449 g361 _) (fun k hk e => by injection e with e; exact H457.out k hk e)).stAt HSL.out, H366.out, ho5.ext H453.out (fun k hk => by rw [hk]; exact H366.out)⟩
    case rest =>
      obtain ⟨g9, A9, c9, B9, d9, rfl, hr9, hsf, hsl, hg9, hxc⟩ := hcut
      have HXC := Lib.hid hxc
      have HXW := Lib.hid (HX1.out.trans hxc)
      have HT0 := Lib.hid (HT1.out.ext hxc)
      have HT9 := Lib.hid (twoR_of hr9)
      have HSF9 := Lib.hid hsf
      have HSL9 := Lib.hid hsl
      have HLT9 := Lib.hid (row_lt hr9)
      have HLE2 := HLE.out
      obtain ⟨q1, q2, q3⟩ := HLE2
      obtain ⟨k0, k1⟩ := twoR_of hr9
      clear hr9 hsf hsl hg9 hxc HX1 HT1
      go_wp2_with fail
      refine (dk_write HC.out _ HSF9.out.len HSL9.out.len HN.out HSF9.out.rd HSL9.out.rd (HRB.out.ext HXW.out) (by omega) (by omega) (by omega)).mono ?_
      rintro e w4 ⟨hx4, A10, n4, c10, B10, m4, d10, rfl, hs1, hs2⟩
      have en : nf = n4 := HF.out.symm.trans hs1.len
      have em : nl + n1 = m4 := by rw [← hs2.len, List.length_append, HL.out, HN.out]
      subst en; subst em
      clear k0 k1
      have HW10 := Lib.hid hs1.wbs
      have HS10F := Lib.hid hs1
      have HS10L := Lib.hid hs2
      have hy := (Ext.refl w4).alloc (.cells #[.slice A10 nf c10, .slice B10 (nl + n1) d10] 30)
      have HT10 := Lib.hid (twoR_of (heap_alloc_new w4 (.cells #[.slice A10 nf c10, .slice B10 (nl + n1) d10] 30)))
      have HZ10 := Lib.hid (show (w4.alloc (.cells #[.slice A10 nf c10, .slice B10 (nl + n1) d10] 30)).heap.size = w4.heap.size + 1 from by simp)
      have HX4 := Lib.hid (show Ext wc (w4.alloc (.cells #[.slice A10 nf c10, .slice B10 (nl + n1) d10] 30)) from hx4.trans hy)
      have HY10 := Lib.hid hy
      have HS4 := Lib.hid hx4.size
      clear hx4 hs1 hs2 hy
      go_wp2_with fail
      obtain ⟨g10, hg10⟩ : ∃ g, w4.heap.size = g := ⟨_, rfl⟩
      rw [hg10] at HT10 HZ10 HS4 HW10 ⊢
      have HE10 := Lib.hid hg10
      clear hg10
      generalize w4.alloc (.cells #[.slice A10 nf c10, .slice B10 (nl + n1) d10] 30) = w5 at HT10 HZ10 HX4 HY10 ⊢
      have HF11 := Lib.hid (HS10F.out.ext HY10.out)
      have HL11 := Lib.hid (HS10L.out.ext HY10.out)
      have HW10' := Lib.hid (HW10.out.only (Only.of_ext HY10.out) (fun _ _ _ h => h) (by rw [HE10.out]; exact Nat.le_refl _))
      refine (dk_sync HC.out _ HF11.out.len HL11.out.len HF11.out.rd HL11.out.rd (by omega) (by omega)).mono ?_
      rintro e w6 ⟨hx6, A11, n6, c11, B11, m6, d11, rfl, hs1, hs2⟩
      have em : nf + (nl + n1) = n6 := by rw [← hs1.len, List.length_append, List.length_append, HF.out, HL.out, HN.out]
      have em2 : m6 = 0 := by rw [← hs2.len]; rfl
      subst em; subst em2
      have HW11 := Lib.hid hs1.wbs
      have HS11F := Lib.hid hs1
      have HS11L := Lib.hid hs2
      have hy := (Ext.refl w6).alloc (.cells #[.slice A11 (nf + (nl + n1)) c11, .slice B11 0 d11] 30)
      have HT11 := Lib.hid (twoR_of (heap_alloc_new w6 (.cells #[.slice A11 (nf + (nl + n1)) c11, .slice B11 0 d11] 30)))
      have HZ11 := Lib.hid (show (w6.alloc (.cells #[.slice A11 (nf + (nl + n1)) c11, .slice B11 0 d11] 30)).heap.size = w6.heap.size + 1 from by simp)
      have HX6 := Lib.hid (show Ext w5 (w6.alloc (.cells #[.slice A11 (nf + (nl + n1)) c11, .slice B11 0 d11] 30)) from hx6.trans hy)
      have HY11 := Lib.hid hy
      have HS6 := Lib.hid hx6.size
      obtain ⟨k0, k1⟩ := HT9.out.ext (HX4.out.trans HX6.out)
      clear hx6 hs1 hs2 hy
      go_wp2_with fail
      clear k0 k1
      obtain ⟨g11, hg11⟩ : ∃ g, w6.heap.size = g := ⟨_, rfl⟩
      rw [hg11] at HT11 HZ11 HS6 HW11 ⊢
      have HE11 := Lib.hid hg11
      clear hg11
      generalize w6.alloc (.cells #[.slice A11 (nf + (nl + n1)) c11, .slice B11 0 d11] 30) = w7 at HT11 HZ11 HX6 HY11 ⊢
      have HX47 := Lib.hid (HX4.out.trans HX6.out)
      have HF12 := Lib.hid (HSF9.out.ext HX47.out)
      have HL12 := Lib.hid (HSL9.out.ext HX47.out)
      refine (dk_crash HC.out x2 x3 _ HF12.out.len HL12.out.len HF12.out.rd HL12.out.rd (by omega) (by omega) HL12.out.cap HX3B.out).mono ?_
      rintro e w8 ⟨hx8, A12, n8, c12, B12, m8, d12, rfl, hs1, hs2⟩
      have hn8 : n8 ≤ 400 := by rw [← hs1.len, List.length_append, crs_len _ _ _ (by rw [HL.out]; exact kept_le _ _), HF.out]; have := kept_le x2 nl; omega
      have em2 : m8 = 0 := by rw [← hs2.len]; rfl
      subst em2
      have HW12 := Lib.hid hs1.wbs
      have HS12F := Lib.hid hs1
      have HS12L := Lib.hid hs2
      have HN8 := Lib.hid hn8
      have hy := (Ext.refl w8).alloc (.cells #[.slice A12 n8 c12, .slice B12 0 d12] 30)
      have HT12 := Lib.hid (twoR_of (heap_alloc_new w8 (.cells #[.slice A12 n8 c12, .slice B12 0 d12] 30)))
      have HZ12 := Lib.hid (show (w8.alloc (.cells #[.slice A12 n8 c12, .slice B12 0 d12] 30)).heap.size = w8.heap.size + 1 from by simp)
      have HX8 := Lib.hid (show Ext w7 (w8.alloc (.cells #[.slice A12 n8 c12, .slice B12 0 d12] 30)) from hx8.trans hy)
      have HY12 := Lib.hid hy
      have HS8 := Lib.hid hx8.size
      obtain ⟨k0, k1⟩ := HT11.out.ext HX8.out
      clear hx8 hs1 hs2 hy
      go_wp2_with fail
      clear k0 k1
      obtain ⟨g12, hg12⟩ : ∃ g, w8.heap.size = g := ⟨_, rfl⟩
      rw [hg12] at HT12 HZ12 HS8 HW12 ⊢
      have HE12 := Lib.hid hg12
      clear hg12
      generalize w8.alloc (.cells #[.slice A12 n8 c12, .slice B12 0 d12] 30) = w9 at HT12 HZ12 HX8 HY12 ⊢
      have HF13 := Lib.hid (HS11F.out.ext (HY11.out.trans HX8.out))
      have HL13 := Lib.hid (HS11L.out.ext (HY11.out.trans HX8.out))
      refine (dk_crash HC.out x2 x3 _ HF13.out.len HL13.out.len HF13.out.rd HL13.out.rd (by omega) (by omega) HL13.out.cap HX3B.out).mono ?_
      rintro e w10 ⟨hx10, A13, n10, c13, B13, m10, d13, rfl, hs1, hs2⟩
      rw [show kept x2 0 = 0 from by have := kept_le x2 0; omega, crs_none, List.append_nil] at hs1
      have em : nf + (nl + n1) = n10 := by rw [← hs1.len, List.length_append, List.length_append, HF.out, HL.out, HN.out]
      have em2 : m10 = 0 := by rw [← hs2.len]; rfl
      subst em; subst em2
      have HS13F := Lib.hid hs1
      have HS13L := Lib.hid hs2
      have hy := (Ext.refl w10).alloc (.cells #[.slice A13 (nf + (nl + n1)) c13, .slice B13 0 d13] 30)
      have HT13 := Lib.hid (twoR_of (heap_alloc_new w10 (.cells #[.slice A13 (nf + (nl + n1)) c13, .slice B13 0 d13] 30)))
      have HX10 := Lib.hid (show Ext w9 (w10.alloc (.cells #[.slice A13 (nf + (nl + n1)) c13, .slice B13 0 d13] 30)) from hx10.trans hy)
      have HY13 := Lib.hid hy
      have hym := (Ext.refl (w10.alloc (.cells #[.slice A13 (nf + (nl + n1)) c13, .slice B13 0 d13] 30))).alloc (.cells #[] 5)
      have HYM := Lib.hid hym
      have hme := mine_empty (w10.alloc (.cells #[.slice A13 (nf + (nl + n1)) c13, .slice B13 0 d13] 30))
      rw [show (w10.alloc (.cells #[.slice A13 (nf + (nl + n1)) c13, .slice B13 0 d13] 30)).heap.size = w10.heap.size + 1 from by simp] at hme
      have HME := Lib.hid hme
      have HZ13 := Lib.hid (show (w10.alloc (.cells #[.slice A13 (nf + (nl + n1)) c13, .slice B13 0 d13] 30)).heap.size = w10.heap.size + 1 from by simp)
      clear hme
      obtain ⟨k0, k1⟩ := HT0.out.ext (((HX47.out.trans HX8.out).trans HX10.out).trans hym)
      clear hx10 hs1 hs2 hy hym
      go_wp2_with fail
      clear k0 k1
      obtain ⟨g13, hg13⟩ : ∃ g, w10.heap.size = g := ⟨_, rfl⟩
      rw [hg13] at HT13 HME HZ13 ⊢
      clear hg13
      generalize w10.alloc (.cells #[.slice A13 (nf + (nl + n1)) c13, .slice B13 0 d13] 30) = w11 at HT13 HX10 HY13 HYM HME HZ13 ⊢
      have HX11 := Lib.hid ((HX47.out.trans HX8.out).trans HX10.out)
      have HXW11 := Lib.hid (HXW.out.trans HX11.out)
      refine (ref12_all _ HF.out HL.out (HRF.out.ext (HXW11.out.trans HYM.out)) (HRL.out.ext (HXW11.out.trans HYM.out)) (by omega) (by omega)).mono ?_
      rintro e w12 ⟨hx12, v12, rfl, hm12⟩
      have HSMA := Lib.hid (show Sm (F ++ L) from sm12_app HSF.out HSL.out)
      have HSMB := Lib.hid (show Sm ((F ++ L) ++ b) from sm12_app (sm12_app HSF.out HSL.out) HSB.out)
      obtain ⟨A14, n14, c14, ev, hst⟩ := hm12.st HSMA.out
      have en : nf + nl = n14 := by rw [← hst.len, List.length_append, HF.out, HL.out]
      subst en; subst ev
      have HST14 := Lib.hid hst
      have HME12 := Lib.hid (mine_ext HME.out hx12)
      have HX12 := Lib.hid (show Ext w11 w12 from HYM.out.trans hx12)
      clear hx12 hm12 hst
      go_wp2_with (first | (at_builtin; refine wpList_append_new rfl (.tmp 61) (.tmp 63) rfl (g13 + 1) (g13 + 1) (F ++ L) rfl HME12.out A14 (nf + nl) c14 rfl HST14.out.len HST14.out.rd (by rw [HST14.out.len]; omega) (by rw [← HZ13.out]; exact HX12.out.size) ?_; intro v15 w15 hm hx hq; obtain ⟨A15, n15, c15, ev, hst⟩ := hm.st HSMA.out; have en := HST14.out.len.symm.trans hst.len; subst en; subst ev; have HM15 := Lib.hid hm; have HX15 := Lib.hid (show Ext w11 w15 from HX12.out.trans hx); clear hm hx hq hst) | (at_builtin; refine wpList_append_rd rfl (.tmp 64) (.tmp 65) rfl (g13 + 1) (.slice A15 (nf + nl) c15) (F ++ L) b rfl HM15.out E n1 c1 rfl HN.out (HRB.out.ext (HXW11.out.trans HX15.out)) (by rw [HST14.out.len, HN.out]; omega) (by rw [← HZ13.out]; exact HX15.out.size) ?_; intro v16 w16 hm hg _; have hx16 : Ext w11 w16 := HX15.out.more hg (fun q hq => by rw [HZ13.out]; exact (HM15.out.block q hq).1); obtain ⟨A16, n16, c16, ev, hst⟩ := hm.st HSMB.out; have en : nf + (nl + n1) = n16 := (by rw [← hst.len, List.length_append, List.length_append, HF.out, HL.out, HN.out]; omega); subst en; subst ev; have HX16 := Lib.hid hx16; have HST16 := Lib.hid hst; clear hm hg hx16 hst))
      have HX5E := Lib.hid ((HX6.out.trans HX8.out).trans (HX10.out.trans HX16.out))
      have HX7E := Lib.hid (HX8.out.trans (HX10.out.trans HX16.out))
      have HX9E := Lib.hid (HX10.out.trans HX16.out)
      have HXCE := Lib.hid (HX11.out.trans HX16.out)
      have HU10 := Lib.hid (HT10.out.ext HX5E.out)
      have HU11 := Lib.hid (HT11.out.ext HX7E.out)
      have HU12 := Lib.hid (HT12.out.ext HX9E.out)
      have HU13 := Lib.hid (HT13.out.ext HX16.out)
      have HU0 := Lib.hid (HT0.out.ext HXCE.out)
      have HU9 := Lib.hid (HT9.out.ext HXCE.out)
      have HV10F := Lib.hid (HS10F.out.ext (HY10.out.trans HX5E.out))
      have HV10L := Lib.hid (HS10L.out.ext (HY10.out.trans HX5E.out))
      have HV11F := Lib.hid (HS11F.out.ext (HY11.out.trans HX7E.out))
      have HV11L := Lib.hid (HS11L.out.ext (HY11.out.trans HX7E.out))
      have HV12F := Lib.hid (HS12F.out.ext (HY12.out.trans HX9E.out))
      have HV12L := Lib.hid (HS12L.out.ext (HY12.out.trans HX9E.out))
      have HV13F := Lib.hid (HS13F.out.ext (HY13.out.trans HX16.out))
      have HV13L := Lib.hid (HS13L.out.ext (HY13.out.trans HX16.out))
      have HV9F := Lib.hid (HSF9.out.ext HXCE.out)
      have HV9L := Lib.hid (HSL9.out.ext HXCE.out)
      have hst16 := HST16.out
      rw [List.append_assoc] at hst16
      have HV16 := Lib.hid hst16
      have HWE := Lib.hid (HXW11.out.trans HX16.out)
      have HRBE := Lib.hid (HRB.out.ext HWE.out)
      have HRFE := Lib.hid (HRF.out.ext HWE.out)
      have HRLE := Lib.hid (HRL.out.ext HWE.out)
      have HNLB := Lib.hid (show (L ++ b).length = nl + n1 from by rw [List.length_append, HL.out, HN.out])
      have HNA := Lib.hid (show (F ++ (L ++ b)).length = (nf + (nl + n1)) from by rw [List.length_append, HF.out, HNLB.out])
      have HW10E := Lib.hid (HW10.out.only (Only.of_ext (HY10.out.trans HX5E.out)) (fun _ _ _ h => h) (by rw [HE10.out]; exact Nat.le_refl _))
      have HW11E := Lib.hid (HW11.out.only (Only.of_ext (HY11.out.trans HX7E.out)) (fun _ _ _ h => h) (by rw [HE11.out]; exact Nat.le_refl _))
      have HW12E := Lib.hid (HW12.out.only (Only.of_ext (HY12.out.trans HX9E.out)) (fun _ _ _ h => h) (by rw [HE12.out]; exact Nat.le_refl _))
      have HSZ := Lib.hid (show wc.heap.size ≤ g10 ∧ g10 < w5.heap.size ∧ w5.heap.size ≤ g11 ∧ g11 < w7.heap.size ∧ w7.heap.size ≤ g12 ∧ g12 < w16.heap.size from ⟨HS4.out, by rw [HZ10.out]; omega, HS6.out, by rw [HZ11.out]; omega, HS8.out, Nat.lt_of_lt_of_le (by rw [HZ12.out]; omega) (Ext.size HX9E.out)⟩)
      clear hst16 HME12 HM15 HX15 HST14 HX12 HT10 HT11 HT12 HT13 HS10F HS10L HS11F HS11L HS12F HS12L HS13F HS13L HF11 HL11 HF12 HL12 HF13 HL13 HYM HME
      have HFV := Lib.hid (show Five g10 (.slice A10 nf c10) (.slice B10 (nl + n1) d10) g11 (.slice A11 (nf + (nl + n1)) c11) (.slice B11 0 d11) g12 (.slice A12 n8 c12) (.slice B12 0 d12) g13 (.slice A13 (nf + (nl + n1)) c13) (.slice B13 0 d13) g0 (.slice A nf ca) (.slice B nl cb) w16 from ⟨HU10.out, HU11.out, HU12.out, HU13.out, HU0.out⟩)
      have HXA := Lib.hid (Ext.refl w16)
      go_upto_region 9 with (fail)
      refine wp_region_plan (Five g10 (.slice A10 nf c10) (.slice B10 (nl + n1) d10) g11 (.slice A11 (nf + (nl + n1)) c11) (.slice B11 0 d11) g12 (.slice A12 n8 c12) (.slice B12 0 d12) g13 (.slice A13 (nf + (nl + n1)) c13) (.slice B13 0 d13) g0 (.slice A nf ca) (.slice B nl cb)) [0, 1, 2, 3, 4, 5, 6, 7, 8, 9, 10, 11, 12, 13, 14, 15, 16, 17, 18, 19, 20, 21, 22, 23, 24, 25, 26, 27, 28, 29, 30] (.yes 0 (.yes 1 (.yes 2 (.yes 4 (.yes 5 (.yes 7 (.one 3 (.one 6 (.one 8 (.one 9 (.one 10 (.one 11 (.yes 12 (.yes 13 (.yes 14 (.one 15 (.one 16 (.one 17 (.yes 18 (.yes 19 (.yes 20 (.yes 21 (.one 22 (.one 23 (.one 24 (.one 25 (.yes 26 (.yes 27 (.yes 28 (.one 29 (.one 30 (.one 31 .done)))))))))))))))))))))))))))))))) (by kernel_rfl) (fun c a a' w e h => ⟨e ▸ h.1, h.2⟩) (by kernel_rfl) (HFV.out.ext ((Ext.refl w16).drew)) ?_
      refine plan_yes rfl (fun K hK => ?_); go_simp; refine ⟨.agg #[.slice A10 nf c10, .slice B10 (nl + n1) d10], fun W hW => ?_, hK _ ?_⟩
      · obtain ⟨k0, k1⟩ := hW.a
        go_simp
      clear hK K
      refine plan_yes rfl (fun K hK => ?_); go_simp; refine ⟨_, fun _ _ => rfl, hK _ ?_⟩; clear hK K
      refine plan_yes rfl (fun K hK => ?_); go_simp; refine ⟨.slice A nf ca, fun W hW => ?_, hK _ ?_⟩
      · obtain ⟨k0, k1⟩ := hW.e
        go_simp
      clear hK K
      refine plan_yes rfl (fun K hK => ?_); go_simp; refine ⟨_, fun _ _ => rfl, hK _ ?_⟩; clear hK K
      refine plan_yes rfl (fun K hK => ?_); go_simp; refine ⟨.slice B nl cb, fun W hW => ?_, hK _ ?_⟩
      · obtain ⟨k0, k1⟩ := hW.e
        go_simp
      clear hK K
      refine plan_yes rfl (fun K hK => ?_); go_simp; refine ⟨_, fun _ _ => rfl, hK _ ?_⟩; clear hK K
      have HXs := Lib.hid (show Ext w16 w16.drew from (Ext.refl w16).drew)
      have HFs := Lib.hid (HFV.out.ext HXs.out)
      generalize w16.drew = u0 at HXs HFs ⊢
      have HM0 := Lib.hid (mine_empty u0)
      have HXz := Lib.hid ((Ext.refl u0).alloc (.cells #[] 5))
      refine plan_one rfl (fun K hK => ?_)
      go_wp2
      refine ⟨fun _ => HFs.out.ext HXz.out, ?_⟩
      refine plan_one rfl (fun K hK => ?_)
      go_wp2_with (at_builtin; refine wpList_append_new rfl (.tmp 70) (.tmp 72) rfl u0.heap.size u0.heap.size L rfl HM0.out B nl cb rfl HL.out (HRLE.out.ext (HXs.out.trans HXz.out)) (by have := HL.out; omega) HXz.out.size ?_; intro vv u1 hm hx hq; obtain ⟨A20, n20, c20, ev, hst⟩ := hm.st HSL.out; have en := HL.out.symm.trans hst.len; subst en; subst ev; have HM1 := Lib.hid hm; have HX1' := Lib.hid (HXs.out.trans (HXz.out.trans hx)); have HS1' := Lib.hid (HXz.out.trans hx).size; clear hm hx hq hst)
      refine ⟨fun _ => HFV.out.ext HX1'.out, ?_⟩
      refine plan_one rfl (fun K hK => ?_)
      go_wp2_with (at_builtin; refine wpList_append_rd rfl (.tmp 73) (.tmp 74) rfl u0.heap.size (.slice A20 nl c20) L b rfl HM1.out E n1 c1 rfl HN.out (HRBE.out.ext HX1'.out) (by have := HL.out; have := HN.out; omega) HS1'.out ?_; intro vv u2 hm hg _; have hx2 : Ext w16 u2 := HX1'.out.more hg (fun q hq => Nat.le_trans HXs.out.size (HM1.out.block q hq).1); obtain ⟨A21, n21, c21, ev, hst⟩ := hm.st (sm12_app HSL.out HSB.out); have en := HNLB.out.symm.trans hst.len; subst en; subst ev; have HX2' := Lib.hid hx2; have HST2 := Lib.hid hst; clear hm hg hx2 hst)
      refine ⟨fun _ => HFV.out.ext HX2'.out, ?_⟩
      refine plan_one rfl (fun K hK => ?_)
      go_wp2
      refine ⟨fun _ => HFV.out.ext HX2'.out, ?_⟩
      refine plan_one rfl (fun K hK => ?_)
      go_wp2_with fail
      refine (same12 _ HF.out HNLB.out (HV10F.out.rd.ext HX2'.out) (HV10L.out.rd.ext HX2'.out) (HRFE.out.ext HX2'.out) HST2.out.rd (by omega) (by omega)).mono ?_
      rintro e u3 ⟨rfl, hx⟩
      have HX3' := Lib.hid (HX2'.out.trans hx)
      clear hx
      go_wp2
      refine ⟨fun _ => HFV.out.ext HX3'.out, ?_⟩
      refine plan_one rfl (fun K hK => ?_)
      go_wp2
      refine ⟨fun _ => HFV.out.ext HX3'.out, ?_⟩
      refine plan_yes rfl (fun K hK => ?_); go_simp; refine ⟨.agg #[.slice A11 (nf + (nl + n1)) c11, .slice B11 0 d11], fun W hW => ?_, hK _ ?_⟩
      · obtain ⟨k0, k1⟩ := hW.b
        go_simp
      clear hK K
      refine plan_yes rfl (fun K hK => ?_); go_simp; refine ⟨_, fun _ _ => rfl, hK _ ?_⟩; clear hK K
      refine plan_yes rfl (fun K hK => ?_); go_simp; refine ⟨_, fun _ _ => rfl, hK _ ?_⟩; clear hK K
      refine plan_one rfl (fun K hK => ?_)
      go_wp2_with fail
      refine (same12 _ HNA.out (l_nil12) (HV11F.out.rd.ext HX3'.out) (Rd.nil _ _) (HV16.out.rd.ext HX3'.out) (Rd.nil _ _) (by omega) (by omega)).mono ?_
      rintro e u4 ⟨rfl, hx⟩
      have HX4' := Lib.hid (HX3'.out.trans hx)
      clear hx
      go_wp2
      refine ⟨fun _ => HFV.out.ext HX4'.out, ?_⟩
      refine plan_one rfl (fun K hK => ?_)
      go_wp2
      refine ⟨fun _ => HFV.out.ext HX4'.out, ?_⟩
      refine plan_one rfl (fun K hK => ?_)
      go_wp2
      refine ⟨fun _ => HFV.out.ext HX4'.out, ?_⟩
      refine plan_yes rfl (fun K hK => ?_); go_simp; refine ⟨.agg #[.slice A12 n8 c12, .slice B12 0 d12], fun W hW => ?_, hK _ ?_⟩
      · obtain ⟨k0, k1⟩ := hW.c
        go_simp
      clear hK K
      refine plan_yes rfl (fun K hK => ?_); go_simp; refine ⟨.agg #[.slice A nf ca, .slice B nl cb], fun W hW => ?_, hK _ ?_⟩
      · obtain ⟨k0, k1⟩ := hW.e
        go_simp
      clear hK K
      refine plan_yes rfl (fun K hK => ?_); go_simp; refine ⟨_, fun _ _ => rfl, hK _ ?_⟩; clear hK K
      refine plan_yes rfl (fun K hK => ?_); go_simp; refine ⟨_, fun _ _ => rfl, hK _ ?_⟩; clear hK K
      refine plan_one rfl (fun K hK => ?_)
      go_wp2_with fail
      refine (ref12_crash x2 x3 _ HF.out HL.out (HRFE.out.ext HX4'.out) (HRLE.out.ext HX4'.out) (by omega) (by omega) HCP.out.2.1 HX3B.out).mono ?_
      rintro e u5 ⟨hx, A22, n22, c22, rfl, hst⟩
      have en : n8 = n22 := HV12F.out.len.symm.trans hst.len
      subst en
      have HX5' := Lib.hid (HX4'.out.trans hx)
      have HST5 := Lib.hid hst
      clear hx hst
      go_wp2
      refine ⟨fun _ => HFV.out.ext HX5'.out, ?_⟩
      refine plan_one rfl (fun K hK => ?_)
      go_wp2_with fail
      refine (same12 _ HV12F.out.len (l_nil12) (HV12F.out.rd.ext HX5'.out) (Rd.nil _ _) HST5.out.rd (Rd.nil _ _) (by omega) (by omega)).mono ?_
      rintro e u6 ⟨rfl, hx⟩
      have HX6' := Lib.hid (HX5'.out.trans hx)
      clear hx
      go_wp2
      refine ⟨fun _ => HFV.out.ext HX6'.out, ?_⟩
      refine plan_one rfl (fun K hK => ?_)
      go_wp2
      refine ⟨fun _ => HFV.out.ext HX6'.out, ?_⟩
      refine plan_one rfl (fun K hK => ?_)
      go_wp2
      refine ⟨fun _ => HFV.out.ext HX6'.out, ?_⟩
      refine plan_yes rfl (fun K hK => ?_); go_simp; refine ⟨.agg #[.slice A13 (nf + (nl + n1)) c13, .slice B13 0 d13], fun W hW => ?_, hK _ ?_⟩
      · obtain ⟨k0, k1⟩ := hW.d
        go_simp
      clear hK K
      refine plan_yes rfl (fun K hK => ?_); go_simp; refine ⟨_, fun _ _ => rfl, hK _ ?_⟩; clear hK K
      refine plan_yes rfl (fun K hK => ?_); go_simp; refine ⟨_, fun _ _ => rfl, hK _ ?_⟩; clear hK K
      refine plan_one rfl (fun K hK => ?_)
      go_wp2_with fail
      refine (same12 _ HNA.out (l_nil12) (HV13F.out.rd.ext HX6'.out) (Rd.nil _ _) (HV16.out.rd.ext HX6'.out) (Rd.nil _ _) (by omega) (by omega)).mono ?_
      rintro e u7 ⟨rfl, hx⟩
      have HX7' := Lib.hid (HX6'.out.trans hx)
      clear hx
      go_wp2
      refine ⟨fun _ => HFV.out.ext HX7'.out, ?_⟩
      refine plan_one rfl (fun K hK => ?_)
      go_wp2
      refine ⟨fun _ => HFV.out.ext HX7'.out, ?_⟩
      refine plan_one rfl (fun K hK => ?_)
      go_wp2
      refine ⟨fun h => absurd h (by decide), ?_⟩
      unfold wpPlan
      have HF7 := Lib.hid (HFV.out.ext HX7'.out)
      have HU9E := Lib.hid (HU9.out.ext HX7'.out)
      have HXCF := Lib.hid (HXCE.out.trans HX7'.out)
      have HW10F := Lib.hid (HW10E.out.only (Only.of_ext HX7'.out) (fun _ _ _ h => h) (by have := HSZ.out; omega))
      have HW11F := Lib.hid (HW11E.out.only (Only.of_ext HX7'.out) (fun _ _ _ h => h) (by have := HSZ.out; omega))
      have HW12F := Lib.hid (HW12E.out.only (Only.of_ext HX7'.out) (fun _ _ _ h => h) (by have := HSZ.out; omega))
      have HSU := Lib.hid (HX7'.out.size)
      have HWU := Lib.hid (HWE.out.trans HX7'.out)
      obtain ⟨k0, k1⟩ := HF7.out.c
      clear k1
      go_wp2
      have HK12 := Lib.hid k0
      clear k0
      go_loopg [101] n8 (fun gg s wx => ∃ i : Nat, i + gg = n8 ∧ s = .int .i64 (i : Int) ∧ WBs w7.heap.size g12 wx A12 n8 ∧ Only (fun k => w7.heap.size ≤ k ∧ k < g12) u7 wx)
      case atStart => exact ⟨0, by omega, rfl, HW12F.out, Only.refl _ _⟩
      case round =>
        obtain ⟨i, hig, rfl, hwr, ho⟩ := hrel
        have HWR101 := Lib.hid hwr
        have HO101 := Lib.hid ho
        have hcd := ho.cell HK12.out (by have := HSZ.out; omega)
        clear hwr ho
        cases gk with
        | succ gk =>
          have hlt : i < n8 := by omega
          have hltI : (i : Int) < (n8 : Int) := by omega
          have hnn : n8 ≤ 600 := by have := HN8.out; omega
          obtain ⟨g, o, y, rfl, hlo, hhi, hy, hcl, hfz⟩ := HWR101.out i hlt
          have ex : bits .xor .u8 (y : Int) 1 = ((y ^^^ 1 : Nat) : Int) := u8_xor_nat y 1 hy (by decide)
          go_wp2
          go_roundg gk
          case measure => omega
          case rel => exact ⟨i + 1, by omega, by go_num, HWR101.out.set _ _ (Nat.xor_lt_two_pow (n := 8) hy (by decide)), HO101.out.trans (Only.of_grown (grown_set9 wr g (o + i) _) (fun k e => by injection e with e; subst e; exact ⟨hlo, hhi⟩))⟩
        | zero =>
          have hin : n8 = i := by omega
          subst hin
          clear hig hcd
          obtain ⟨wl, hwl⟩ : ∃ q, q = wr := ⟨_, rfl⟩
          subst hwl
          have HK10 := Lib.hid (HO101.out.cell HF7.out.a.1 (by have := HSZ.out; omega))
          have HW10G := Lib.hid (HW10F.out.only HO101.out (fun b h1 h2 h3 => by have := HSZ.out; omega) (by have := HSZ.out; have := HSU.out; omega))
          have HSU2 := Lib.hid HO101.out.size
          have k0 := HK10.out
          go_wp2
          clear k0
          go_loopg [115] nf (fun gg s wx => ∃ i : Nat, i + gg = nf ∧ s = .int .i64 (i : Int) ∧ WBs wc.heap.size g10 wx A10 nf ∧ Only (fun k => wc.heap.size ≤ k ∧ k < g10) wl wx)
          case atStart => exact ⟨0, by omega, rfl, HW10G.out, Only.refl _ _⟩
          case round =>
            obtain ⟨i, hig, rfl, hwr, ho⟩ := hrel
            have HWR115 := Lib.hid hwr
            have HO115 := Lib.hid ho
            have hcd := ho.cell HK10.out (by have := HSZ.out; omega)
            clear hwr ho
            cases gk with
            | succ gk =>
              have hlt : i < nf := by omega
              have hltI : (i : Int) < (nf : Int) := by omega
              have hnn : nf ≤ 600 := by have := HN8.out; omega
              obtain ⟨g, o, y, rfl, hlo, hhi, hy, hcl, hfz⟩ := HWR115.out i hlt
              have ex : bits .xor .u8 (y : Int) 1 = ((y ^^^ 1 : Nat) : Int) := u8_xor_nat y 1 hy (by decide)
              go_wp2
              go_roundg gk
              case measure => omega
              case rel => exact ⟨i + 1, by omega, by go_num, HWR115.out.set _ _ (Nat.xor_lt_two_pow (n := 8) hy (by decide)), HO115.out.trans (Only.of_grown (grown_set9 wr g (o + i) _) (fun k e => by injection e with e; subst e; exact ⟨hlo, hhi⟩))⟩
            | zero =>
              have hin : nf = i := by omega
              subst hin
              clear hig hcd
              obtain ⟨wm, hwm⟩ : ∃ q, q = wr := ⟨_, rfl⟩
              subst hwm
              have HK11 := Lib.hid (HO115.out.cell (HO101.out.cell HF7.out.b.1 (by have := HSZ.out; omega)) (by have := HSZ.out; omega))
              have HW11G := Lib.hid ((HW11F.out.only HO101.out (fun b h1 h2 h3 => by have := HSZ.out; omega) (by have := HSZ.out; have := HSU.out; omega)).only HO115.out (fun b h1 h2 h3 => by have := HSZ.out; omega) (by have := HSZ.out; have := HSU.out; have := HSU2.out; omega))
              have k0 := HK11.out
              go_wp2
              clear k0
              go_loopg [129] (nf + (nl + n1)) (fun gg s wx => ∃ i : Nat, i + gg = (nf + (nl + n1)) ∧ s = .int .i64 (i : Int) ∧ WBs w5.heap.size g11 wx A11 (nf + (nl + n1)) ∧ Only (fun k => w5.heap.size ≤ k ∧ k < g11) wm wx)
              case atStart => exact ⟨0, by omega, rfl, HW11G.out, Only.refl _ _⟩
              case round =>
                obtain ⟨i, hig, rfl, hwr, ho⟩ := hrel
                have HWR129 := Lib.hid hwr
                have HO129 := Lib.hid ho
                have hcd := ho.cell HK11.out (by have := HSZ.out; omega)
                clear hwr ho
                cases gk with
                | succ gk =>
                  have hlt : i < (nf + (nl + n1)) := by omega
                  have hltI : (i : Int) < ((nf + (nl + n1)) : Int) := by omega
                  have hnn : (nf + (nl + n1)) ≤ 600 := by have := HN8.out; omega
                  obtain ⟨g, o, y, rfl, hlo, hhi, hy, hcl, hfz⟩ := HWR129.out i hlt
                  have ex : bits .xor .u8 (y : Int) 1 = ((y ^^^ 1 : Nat) : Int) := u8_xor_nat y 1 hy (by decide)
                  go_wp2
                  go_roundg gk
                  case measure => omega
                  case rel => exact ⟨i + 1, by omega, by go_num, HWR129.out.set _ _ (Nat.xor_lt_two_pow (n := 8) hy (by decide)), HO129.out.trans (Only.of_grown (grown_set9 wr g (o + i) _) (fun k e => by injection e with e; subst e; exact ⟨hlo, hhi⟩))⟩
                | zero =>
                  have hin : (nf + (nl + n1)) = i := by omega
                  subst hin
                  clear hig hcd
                  have HOA := Lib.hid ((HO101.out.mono (Y := fun k => wc.heap.size ≤ k) (fun k _ h => by have := HSZ.out; omega)).trans ((HO115.out.mono (Y := fun k => wc.heap.size ≤ k) (fun k _ h => by have := HSZ.out; omega)).trans (HO129.out.mono (Y := fun k => wc.heap.size ≤ k) (fun k _ h => by have := HSZ.out; omega))))
                  have HXEND := Lib.hid (HOA.out.ext HXCF.out (fun k h => h))
                  obtain ⟨k0, k1⟩ := HT9.out.ext HXEND.out
                  obtain ⟨k2, k3⟩ := HT0.out.ext HXEND.out
                  have HWEND := Lib.hid (HXW.out.trans HXEND.out)
                  go_wp2_with fail
                  refine (same12 _ HF.out HL.out (HSF9.out.rd.ext HXEND.out) (HSL9.out.rd.ext HXEND.out) (HRF.out.ext HWEND.out) (HRL.out.ext HWEND.out) (by omega) (by omega)).mono ?_
                  rintro e wz ⟨rfl, hx⟩
                  have HXZ := Lib.hid (HWEND.out.trans hx)
                  clear hx k0 k1 k2 k3
                  go_wp2
                  go_ret
                  exact ⟨rfl, HXZ.out⟩
  · skip
    by_cases qa : 200 < (nf : Int)
    · have da : decide (200 < (nf : Int)) = true := decide_eq_true qa
      clear hbig hf hl hn rf rl rb hca hcb hc1 hx3 HG0
      go_enter Try.func4, Try.ntmps4
      go_wp2_with fail
      obtain ⟨g0, hg0⟩ : ∃ g, w.heap.size = g := ⟨_, rfl⟩
      rw [hg0] at HT0 ⊢
      clear hg0
      generalize w.alloc (.cells #[.slice A nf ca, .slice B nl cb] 24) = w0 at HX0 HT0 ⊢
      refine (HAW.out w0).mono ?_
      rintro e v1 ⟨rfl, hv1⟩
      have HX1 := Lib.hid (HX0.out.trans hv1)
      obtain ⟨k0, k1⟩ := HT0.out.ext hv1
      clear hv1
      go_wp2_with fail
      refine (HAW.out v1).mono ?_
      rintro e v2 ⟨rfl, hv2⟩
      have HX2 := Lib.hid (HX1.out.trans hv2)
      clear hv2 k0 k1
      go_wp2
      go_ret
      exact ⟨rfl, HX2.out⟩
    · have da : decide (200 < (nf : Int)) = false := decide_eq_false qa
      by_cases qb : 200 < (nl : Int)
      · have db : decide (200 < (nl : Int)) = true := decide_eq_true qb
        clear hbig hf hl hn rf rl rb hca hcb hc1 hx3 HG0
        go_enter Try.func4, Try.ntmps4
        go_wp2_with fail
        obtain ⟨g0, hg0⟩ : ∃ g, w.heap.size = g := ⟨_, rfl⟩
        rw [hg0] at HT0 ⊢
        clear hg0
        generalize w.alloc (.cells #[.slice A nf ca, .slice B nl cb] 24) = w0 at HX0 HT0 ⊢
        refine (HAW.out w0).mono ?_
        rintro e v1 ⟨rfl, hv1⟩
        have HX1 := Lib.hid (HX0.out.trans hv1)
        obtain ⟨k0, k1⟩ := HT0.out.ext hv1
        clear hv1
        go_wp2_with fail
        refine (HAW.out v1).mono ?_
        rintro e v2 ⟨rfl, hv2⟩
        have HX2 := Lib.hid (HX1.out.trans hv2)
        clear hv2 k0 k1
        go_wp2
        go_ret
        exact ⟨rfl, HX2.out⟩
      · have db : decide (200 < (nl : Int)) = false := decide_eq_false qb
        by_cases qc : 200 < (n1 : Int)
        · have dc : decide (200 < (n1 : Int)) = true := decide_eq_true qc
          clear hbig hf hl hn rf rl rb hca hcb hc1 hx3 HG0
          go_enter Try.func4, Try.ntmps4
          go_wp2_with fail
          obtain ⟨g0, hg0⟩ : ∃ g, w.heap.size = g := ⟨_, rfl⟩
          rw [hg0] at HT0 ⊢
          clear hg0
          generalize w.alloc (.cells #[.slice A nf ca, .slice B nl cb] 24) = w0 at HX0 HT0 ⊢
          refine (HAW.out w0).mono ?_
          rintro e v1 ⟨rfl, hv1⟩
          have HX1 := Lib.hid (HX0.out.trans hv1)
          obtain ⟨k0, k1⟩ := HT0.out.ext hv1
          clear hv1
          go_wp2_with fail
          refine (HAW.out v1).mono ?_
          rintro e v2 ⟨rfl, hv2⟩
          have HX2 := Lib.hid (HX1.out.trans hv2)
          clear hv2 k0 k1
          go_wp2
          go_ret
          exact ⟨rfl, HX2.out⟩
        · exact absurd ⟨by omega, by omega, by omega⟩ hbig
end Go.Proofs.Ytfbnckecfapakaa

/-
  What remainders of layer 9 does: of each four bits what dividing them leaves. Conditions: none.
-/
namespace Go.Proofs.Ytfbnckecfapakaa
open Go.RowKit
open Pol (co Sm)

/-- Numbers of 32 bits as cells, by a function of the place. -/
def dt (n : Nat) (f : Nat → Nat) : Array Value := Array.ofFn (n := n) fun i => Value.int .u32 ((f i.val : Nat) : Int)
theorem dt_size (n : Nat) (f : Nat → Nat) : (dt n f).size = n := by simp [dt]
theorem dt_at (n : Nat) (f : Nat → Nat) (i : Nat) (h : i < n) : (dt n f)[i]? = some (.int .u32 ((f i : Nat) : Int)) := by simp [dt, h]
theorem dt_set (n : Nat) (f : Nat → Nat) (k v : Nat) : (dt n f).setIfInBounds k (.int .u32 (v : Int)) = dt n (upd f k v) := by
  apply Array.ext (by simp [dt])
  intro i h1 h2
  have hi : i < (dt n f).size := by simpa using h1
  rw [Array.getElem_setIfInBounds hi]
  simp only [dt, Array.getElem_ofFn, upd]
  by_cases e : k = i
  · subst e; simp
  · rw [if_neg e, if_neg (fun h => e h.symm)]
theorem dt_congr (n : Nat) {f g : Nat → Nat} (h : ∀ i, i < n → f i = g i) : dt n f = dt n g := by
  apply Array.ext (by simp [dt])
  intro i h1 h2
  have hi : i < n := by simpa [dt] using h1
  simp only [dt, Array.getElem_ofFn, h i hi]
/-- The block of a table of sixteen. -/
def TBk (w : World) (g : Nat) (f : Nat → Nat) : Prop := w.heap[g]? = some (.cells (dt 16 f) 81 (0, 0))
theorem TBk.cell {w : World} {g : Nat} {f : Nat → Nat} (h : TBk w g f) (i : Nat) (hi : i < 16) : w.cell? ⟨g, i, none⟩ = some (.int .u32 ((f i : Nat) : Int)) := by rw [cell_of_row w g i _ _ _ h, dt_at 16 f i hi]
theorem TBk.frozen {w : World} {g : Nat} {f : Nat → Nat} (h : TBk w g f) (i : Nat) : w.frozen? ⟨g, i, none⟩ = false := frozen_of_row w g i _ _ h
theorem TBk.store {w : World} {g : Nat} {f : Nat → Nat} (h : TBk w g f) (k v : Nat) : TBk (w.setCell ⟨g, k, none⟩ (.int .u32 (v : Int))) g (upd f k v) := by
  unfold TBk
  rw [heap_setCell_same w g k _ _ _ h, dt_set]
theorem TBk.congr {w : World} {g : Nat} {f f' : Nat → Nat} (h : TBk w g f) (hf : ∀ i, i < 16 → f i = f' i) : TBk w g f' := by
  unfold TBk at *
  rw [h, dt_congr 16 hf]
theorem TBk.lt {w : World} {g : Nat} {f : Nat → Nat} (h : TBk w g f) : g < w.heap.size := by
  rcases Nat.lt_or_ge g w.heap.size with hlt | hge
  · exact hlt
  · unfold TBk at h; rw [Array.getElem?_eq_none hge] at h; cases h
theorem TBk.ext {w w' : World} {g : Nat} {f : Nat → Nat} (h : TBk w g f) (hx : Ext w w') : TBk w' g f := (hx.below.block g h.lt).trans h
theorem zero_table : (∀ w, (zeroValue 81).run Try.prog w = .ok (.agg (dt 16 fun _ => 0)) w) ∧ (Try.prog.info? 81).map (·.size) = some 16 := by
  have e : dt 16 (fun _ => 0) = Array.replicate 16 (.int .u32 0) := by
    apply Array.ext (by simp [dt])
    intro i h1 h2
    simp [dt]
  rw [e]
  exact zero_of_info (by kernel_rfl)
theorem crz_mul (d : Nat) : crz d = d / 2 ^^^ (d % 2 * 3988292384) := by
  unfold crz
  split
  · rename_i h; rw [h, Nat.zero_mul, Nat.xor_zero]
  · rename_i h; rw [show d % 2 = 1 by omega, Nat.one_mul]
theorem dt_one (n : Nat) (f : Nat → Nat) : (dt n f).all (·.oneCell') = true := by
  rw [Array.all_eq_true]; intro i h; simp [dt, Value.oneCell']
theorem info16 (f : Nat → Nat) : (Try.prog.info? 81).map (·.size) = some (dt 16 f).size := by rw [dt_size]; exact zero_table.2
/-- The table as far as it is filled. -/
def rt (k : Nat) : Nat → Nat := fun i => if i < k then czn 4 i else 0
theorem rt_zero : dt 16 (rt 0) = #[.int .u32 0, .int .u32 0, .int .u32 0, .int .u32 0, .int .u32 0, .int .u32 0, .int .u32 0, .int .u32 0, .int .u32 0, .int .u32 0, .int .u32 0, .int .u32 0, .int .u32 0, .int .u32 0, .int .u32 0, .int .u32 0] := by
  have e : dt 16 (rt 0) = Array.replicate 16 (.int .u32 0) := by
    apply Array.ext (by simp [dt])
    intro i h1 h2
    simp [dt, rt]
  rw [e]
  rfl
theorem rt_succ (k i : Nat) : upd (rt k) k (czn 4 k) i = rt (k + 1) i := by
  unfold upd rt
  by_cases h : i = k
  · subst h; rw [if_pos rfl, if_pos (by omega)]
  · rw [if_neg h]
    by_cases h2 : i < k
    · rw [if_pos h2, if_pos (by omega)]
    · rw [if_neg h2, if_neg (by omega)]

set_option maxHeartbeats 800000 in
set_option maxRecDepth 100000 in
theorem cr_remainders (w : World) : Calls Try.prog 47 #[] w (Tells (.agg (dt 16 fun i => czn 4 i)) w) := by
  have HZ := Lib.hid rt_zero
  go_enter Try.func47, Try.ntmps47
  go_wp2
  go_loopg [6] 16 (fun g s wx => ∃ k : Nat, k + g = 16 ∧ s = .int .i64 (k : Int) ∧ TBk wx w.heap.size (rt 0) ∧ TBk wx (w.heap.size + 1) (rt k) ∧ Ext w wx)
  case atStart =>
    refine ⟨0, by omega, rfl, ?_, ?_, ((Ext.refl w).alloc _).alloc _⟩
    · unfold TBk; rw [HZ.out]; exact (heap_alloc_old (w.alloc _) _ (r := w.heap.size) (by simp)).trans (heap_alloc_new w _)
    · unfold TBk; rw [HZ.out]; have h := heap_alloc_new (w.alloc (.cells (dt 16 (rt 0)) 81)) (.cells (dt 16 (rt 0)) 81)
      rw [show (w.alloc (.cells (dt 16 (rt 0)) 81)).heap.size = w.heap.size + 1 from by simp, HZ.out] at h
      exact h
  case round =>
    obtain ⟨k, hkg, rfl, h0, h1, hx⟩ := hrel
    have H0 := Lib.hid h0
    have H1 := Lib.hid h1
    have HX := Lib.hid hx
    clear h0 h1 hx
    cases gk with
    | zero =>
      have hk16 : k = 16 := by omega
      have hkI : ¬ (k : Int) < 16 := by omega
      have d1 : decide ((k : Int) < 16) = false := decide_eq_false hkI
      have hg : wr.heap[w.heap.size + 1]? = some (.cells (dt 16 (rt k)) 81 (0, 0)) := H1.out
      rw [dt_congr 16 (f := rt k) (g := fun i => czn 4 i) (fun i hi => if_pos (by omega))] at hg
      have hin := info16 (fun i => czn 4 i)
      have hsz : (dt 16 (rt 0)).size = (dt 16 fun i => czn 4 i).size := by rw [dt_size, dt_size]
      have hon := dt_one 16 (fun i => czn 4 i)
      generalize hV : (dt 16 fun i => czn 4 i) = V at *
      have hg3 := setRow_heap wr w.heap.size _ V _ _ H0.out
      have HG0 := Lib.hid (show wr.heap[w.heap.size]? = some (.cells (dt 16 (rt 0)) 81 (0, 0)) from H0.out)
      have HVE := Lib.hid hV
      have HG := Lib.hid hg
      have HIN := Lib.hid hin
      have HSZ := Lib.hid hsz
      have HON := Lib.hid hon
      have HG3 := Lib.hid hg3
      have HX3 := Lib.hid (HX.out.setRow (Nat.le_refl _) V)
      clear hkg hk16 hg hin hsz hon hg3 hV
      go_wp2_with (first | (with_reducible refine wpList_load_row rfl 81 (.tmp 1) rfl (w.heap.size + 1) rfl 81 V (0, 0) _ HG.out Try.underlying81 rfl HIN.out ?_) | (with_reducible refine wpList_store_all rfl 81 (.tmp 0) (.tmp 25) rfl w.heap.size (dt 16 (rt 0)) V rfl rfl HG0.out HIN.out HSZ.out HON.out ?_))
      exact ⟨rfl, .agg V, results_cell_row Try.results47 _ _ w.heap.size 81 V (0, 0) _ rfl HG3.out Try.underlying81 rfl HIN.out, by rw [HVE.out], HX3.out⟩
    | succ g =>
      have hk : k < 16 := by omega
      have hkI : (k : Int) < 16 := by omega
      have HKG := Lib.hid hkg
      clear hkg
      obtain ⟨wo, hwo⟩ : ∃ wo, wo = wr := ⟨_, rfl⟩
      subst hwo
      go_wp2
      go_loopg [3, 11] 4 (fun g s3 s11 wx => ∃ j d : Nat, j + g = 4 ∧ s3 = .int .u32 (d : Int) ∧ s11 = .int .i64 (j : Int) ∧ d = czn j k ∧ wx = wo)
      case atStart => exact ⟨0, k, by omega, by go_num, rfl, rfl, rfl⟩
      case round =>
        obtain ⟨j, d, hjg, rfl, rfl, hd, rfl⟩ := hrel
        have hd32 : d < 4294967296 := by rw [hd]; exact czn_lt j (by omega)
        cases gk with
        | zero =>
          have hj4 : j = 4 := by omega
          have hjI : ¬ (j : Int) < 4 := by omega
          have d1 : decide ((j : Int) < 4) = false := decide_eq_false hjI
          rw [hj4] at hd
          have hfz := H1.out.frozen k
          have hc := H1.out.cell k hk
          have H0' := Lib.hid (show TBk (wr.setCell ⟨w.heap.size + 1, k, none⟩ (.int .u32 (d : Int))) w.heap.size (rt 0) from (heap_setCell_other wr ⟨w.heap.size + 1, k, none⟩ w.heap.size _ (by simp)).trans H0.out)
          have H1' := Lib.hid (show TBk (wr.setCell ⟨w.heap.size + 1, k, none⟩ (.int .u32 (d : Int))) (w.heap.size + 1) (rt (k + 1)) from by
            have h := H1.out.store k d
            rw [hd] at h ⊢
            exact h.congr (fun i _ => rt_succ k i))
          have HX' := Lib.hid (HX.out.setCell (p := ⟨w.heap.size + 1, k, none⟩) (by simp) (.int .u32 (d : Int)))
          clear hd hjg hj4
          go_wp2
          go_roundg g
          case measure => omega
          case rel => exact ⟨k + 1, by have := HKG.out; omega, by go_num, H0'.out, H1'.out, HX'.out⟩
        | succ g2 =>
          have hj : j < 4 := by omega
          have hjI : (j : Int) < 4 := by omega
          obtain ⟨u, hu⟩ : ∃ u, d % 2 = u := ⟨_, rfl⟩
          obtain ⟨h, hh⟩ : ∃ h, d / 2 = h := ⟨_, rfl⟩
          obtain ⟨p, hp⟩ : ∃ p, u * 3988292384 = p := ⟨_, rfl⟩
          obtain ⟨X, hX⟩ : ∃ X, h ^^^ p = X := ⟨_, rfl⟩
          have hu2 : u < 2 := by omega
          have hp32 : p < 4294967296 := by omega
          have HN := Lib.hid (show X = czn (j + 1) k from by rw [czn_succ, ← hd, crz_mul, hu, hh, hp, hX])
          have da : bits .and .u32 (d : Int) 1 = (u : Int) := by rw [← hu, ← Nat.and_one_is_mod]; exact u32_and_nat d 1 hd32 (by decide)
          have ds : (d : Int).tdiv 2 = (h : Int) := by rw [Int.tdiv_eq_ediv_of_nonneg (by omega)]; omega
          have ds' : (d : Int) / 2 = (h : Int) := by omega
          have dm : (u : Int) * 3988292384 = (p : Int) := by omega
          have hh32 : h < 4294967296 := by omega
          have dx : bits .xor .u32 (h : Int) (p : Int) = (X : Int) := by rw [← hX]; exact u32_xor_nat h p hh32 hp32
          have hX32 : X < 4294967296 := by rw [HN.out]; exact czn_lt _ (by omega)
          clear hd hu hh hp hX
          go_wp2
          go_roundg g2
          case measure => omega
          case rel => exact ⟨j + 1, X, by omega, by go_num, by go_num, HN.out, rfl⟩
end Go.Proofs.Ytfbnckecfapakaa

/-
  What More and Of of layer 9 do: the bytes' state by groups of four bits. Conditions: no more than 2^16 bytes.
-/
namespace Go.Proofs.Ytfbnckecfapakaa
open Go.RowKit
open Pol (co Sm)

/-- By a table of sixteen: four bits at once. -/
theorem czn_nib (r : Nat) : czn 4 r = r / 16 ^^^ czn 4 (r % 16) := by
  have h2 : r = 2 ^ 4 * (r / 16) ^^^ r % 16 := by
    rw [← add_xor 4 _ _ (Nat.mod_lt _ (by decide)), show (2 : Nat) ^ 4 = 16 from rfl]
    omega
  conv => lhs; rw [h2]
  rw [czn_lin, czn_pow]
theorem czn_four (r m : Nat) : czn (4 * (m + 1)) r = czn (4 * m) r / 16 ^^^ czn 4 (czn (4 * m) r % 16) := by
  rw [Nat.mul_succ, czn_add, czn_nib]
theorem not_u32 {x : Nat} (h : x < 4294967296) : bits .xor .u32 IntKind.u32.max (x : Int) = ((x ^^^ 4294967295 : Nat) : Int) := by
  have h1 := u32_xor_nat 4294967295 x (by decide) h
  rw [Nat.xor_comm] at h1
  exact h1

set_option maxHeartbeats 1600000 in
set_option maxRecDepth 100000 in
theorem cr_more (s : Nat) (l : List Nat) (A : Option Addr) (ca : Nat) (w : World) (hs : s < 4294967296) (hr : Rd w A l) (hl : l.length ≤ 65536) :
    Calls Try.prog 46 #[.int .u32 (s : Int), .slice A l.length ca] w (Tells (.int .u32 ((crf (s ^^^ 4294967295) (co l) l.length ^^^ 4294967295 : Nat) : Int)) w) := by
  obtain ⟨s0, hs0⟩ : ∃ s0, s ^^^ 4294967295 = s0 := ⟨_, rfl⟩
  have hs32 : s0 < 4294967296 := by rw [← hs0]; exact Nat.xor_lt_two_pow (n := 32) hs (by decide)
  have hs1 : bits .xor .u32 IntKind.u32.max (s : Int) = (s0 : Int) := by rw [not_u32 hs, hs0]
  rw [hs0]
  obtain ⟨n, hn⟩ : ∃ n, l.length = n := ⟨_, rfl⟩
  have HCR := Lib.hid (fun j => crf_lt (c := s0) (f := co l) hs32 hr.1 j)
  have HSM := Lib.hid hr.1
  have HR := Lib.hid hr
  have HN := Lib.hid hn
  obtain ⟨V, hV⟩ : ∃ V, crf s0 (co l) n ^^^ 4294967295 = V := ⟨_, rfl⟩
  rw [hn] at hl ⊢
  rw [hV]
  have HV := Lib.hid (show bits .xor .u32 IntKind.u32.max ((crf s0 (co l) n : Nat) : Int) = (V : Int) from by rw [not_u32 (HCR.out n), hV])
  have HRM := Lib.hid (cr_remainders w)
  clear hr hs0 hn hV
  go_enter Try.func46, Try.ntmps46
  go_wp2_with fail
  refine HRM.out.mono ?_
  rintro e w1 ⟨rfl, hx1⟩
  have hz := zero_table.1
  have h0 := heap_alloc_new w1 (.cells (dt 16 fun _ => 0) 81)
  have hx2 := hx1.alloc (.cells (dt 16 fun _ => 0) 81)
  have hin := info16 (fun i => czn 4 i)
  have hsz : (dt 16 fun _ => 0).size = (dt 16 fun i => czn 4 i).size := by rw [dt_size, dt_size]
  have hon := dt_one 16 (fun i => czn 4 i)
  have ht := fun (w : World) (g : Nat) (h : w.heap[g]? = some (.cells (dt 16 fun i => czn 4 i) 81 (0, 0))) => (show TBk w g (fun i => czn 4 i) from h)
  generalize (dt 16 fun i => czn 4 i) = V2 at *
  have hb := ht _ _ (setRow_heap _ _ _ V2 _ _ h0)
  have hx3 := hx2.setRow (g := w1.heap.size) hx1.size V2
  obtain ⟨w2, hw2⟩ : ∃ w2, (w1.alloc (Obj.cells (dt 16 fun _ => 0) 81)).setRow w1.heap.size V2 = w2 := ⟨_, rfl⟩
  rw [hw2] at hb hx3
  have HW2 := Lib.hid hw2
  have HG0 := Lib.hid h0
  have HIN := Lib.hid hin
  have HSZ := Lib.hid hsz
  have HON := Lib.hid hon
  have HB := Lib.hid hb
  have HX := Lib.hid hx3
  clear hw2 h0 hx1 hx2 hin hsz hon ht hb hx3
  go_wp2_with (first | (with_reducible refine wpList_alloc_zero rfl 81 rfl (dt 16 fun _ => 0) hz ?_) | (with_reducible refine wpList_store_all rfl 81 (.tmp 5) (.tmp 10) rfl w1.heap.size (dt 16 fun _ => 0) V2 rfl rfl HG0.out HIN.out HSZ.out HON.out ?_; rw [HW2.out]))
  clear hz
  clear hs1
  generalize w1.heap.size = tb at HB ⊢
  have HR2 := Lib.hid (HR.out.ext HX.out)
  go_loopg [6, 15] n (fun g s6 s15 wx => ∃ j c : Nat, j + g = n ∧ c = crf s0 (co l) j ∧ s6 = .int .u32 (c : Int) ∧ s15 = .int .i64 (j : Int) ∧ w2 = wx)
  case atStart => exact ⟨0, s0, by omega, rfl, rfl, rfl, rfl⟩
  case round =>
    obtain ⟨j, c, hjg, hc, rfl, rfl, rfl⟩ := hrel
    have hc32 : c < 4294967296 := by rw [hc]; exact HCR.out j
    cases gk with
    | zero =>
      have hjn : j = n := by omega
      have hv : bits .xor .u32 IntKind.u32.max (c : Int) = (V : Int) := by rw [hc, hjn]; exact HV.out
      have hjI : ¬ (j : Int) < (n : Int) := by omega
      have d1 : decide ((j : Int) < (n : Int)) = false := decide_eq_false hjI
      clear hc hjg hjn
      go_wp2
      go_ret
      exact ⟨rfl, HX.out⟩
    | succ g =>
      have hj : j < n := by omega
      have hjI : (j : Int) < (n : Int) := by omega
      obtain ⟨b0, o, rfl, hcb⟩ := HR2.out.2 j (by rw [HN.out]; exact hj)
      have hb256 : co l j < 256 := HSM.out j
      have hb32 : co l j < 4294967296 := by omega
      obtain ⟨x, hx⟩ : ∃ x, c ^^^ co l j = x := ⟨_, rfl⟩
      have HC := Lib.hid (show crf s0 (co l) (j + 1) = czn (4 * 2) x from by
        rw [crf, ← hc, hx])
      have hx32 : x < 4294967296 := by rw [← hx]; exact Nat.xor_lt_two_pow (n := 32) hc32 hb32
      obtain ⟨b, hb⟩ : ∃ b, co l j = b := ⟨_, rfl⟩
      rw [hb] at hcb hb256 hb32 hx
      have q1 : IntKind.u32.wrap (b : Int) = (b : Int) := by rw [IntKind.wrap_u32]; omega
      have ex : bits .xor .u32 (c : Int) (b : Int) = (x : Int) := by rw [← hx]; exact u32_xor_nat c b hc32 hb32
      have HJG := Lib.hid hjg
      clear hc hb hjg hx
      go_wp2
      go_loopg [6, 23] 2 (fun g s6 s23 wx => ∃ m r : Nat, m + g = 2 ∧ r = czn (4 * m) x ∧ s6 = .int .u32 (r : Int) ∧ s23 = .int .i64 (m : Int) ∧ w2 = wx)
      case atStart => exact ⟨0, x, by omega, rfl, rfl, rfl, rfl⟩
      case round =>
        obtain ⟨m, r, hmg, hr, rfl, rfl, rfl⟩ := hrel
        have hr32 : r < 4294967296 := by rw [hr]; exact czn_lt _ hx32
        cases gk with
        | zero =>
          have hm2 : m = 2 := by omega
          have hmI : ¬ (m : Int) < 2 := by omega
          have d1 : decide ((m : Int) < 2) = false := decide_eq_false hmI
          have HF := Lib.hid (show r = crf s0 (co l) (j + 1) from by rw [HC.out, hr, hm2])
          clear hr hmg hm2
          go_wp2
          go_roundg g
          case measure => omega
          case rel => exact ⟨j + 1, r, by have := HJG.out; omega, HF.out, rfl, by go_num, rfl⟩
        | succ g2 =>
          have hm : m < 2 := by omega
          have hmI : (m : Int) < 2 := by omega
          obtain ⟨u, hu⟩ : ∃ u, r % 16 = u := ⟨_, rfl⟩
          obtain ⟨h, hh⟩ : ∃ h, r / 16 = h := ⟨_, rfl⟩
          obtain ⟨p, hp⟩ : ∃ p, czn 4 u = p := ⟨_, rfl⟩
          obtain ⟨X, hX⟩ : ∃ X, h ^^^ p = X := ⟨_, rfl⟩
          have hu16 : u < 16 := by omega
          have huI : (u : Int) < 16 := by omega
          have hp32 : p < 4294967296 := by rw [← hp]; exact czn_lt 4 (by omega)
          have hct := HB.out.cell u hu16
          rw [hp] at hct
          have HN2 := Lib.hid (show X = czn (4 * (m + 1)) x from by rw [czn_four, ← hr, hu, hh, hp, hX])
          have hh32 : h < 4294967296 := by omega
          have e1 : (r : Int).tmod 16 = (u : Int) := by rw [Int.tmod_eq_emod_of_nonneg (by omega)]; omega
          have e1' : (r : Int) % 16 = (u : Int) := by omega
          have e2 : (r : Int).tdiv 16 = (h : Int) := by rw [Int.tdiv_eq_ediv_of_nonneg (by omega)]; omega
          have e2' : (r : Int) / 16 = (h : Int) := by omega
          have dx : bits .xor .u32 (h : Int) (p : Int) = (X : Int) := by rw [← hX]; exact u32_xor_nat h p hh32 hp32
          clear hr hu hh hp hX
          go_wp2
          go_roundg g2
          case measure => omega
          case rel => exact ⟨m + 1, X, by omega, HN2.out, by go_num, by go_num, rfl⟩
theorem cr_of (l : List Nat) (A : Option Addr) (ca : Nat) (w : World) (hr : Rd w A l) (hl : l.length ≤ 65536) :
    Calls Try.prog 44 #[.slice A l.length ca] w (Tells (.int .u32 ((crcl l : Nat) : Int)) w) := by
  have HM := Lib.hid (cr_more 0 l A ca w (by decide) hr hl)
  rw [Nat.zero_xor] at HM
  obtain ⟨v, hv⟩ : ∃ v, crcl l = v := ⟨_, rfl⟩
  rw [show crf 4294967295 (co l) l.length ^^^ 4294967295 = crcl l from rfl, hv] at HM
  rw [hv]
  clear hr hl hv
  go_enter Try.func44, Try.ntmps44
  go_wp2_with fail
  refine HM.out.mono ?_
  rintro e w1 ⟨rfl, hx1⟩
  have HX := Lib.hid hx1
  clear hx1
  go_wp2
  go_ret
  exact ⟨rfl, HX.out⟩
end Go.Proofs.Ytfbnckecfapakaa

/-
  What bytes.Clone does. Conditions: no more than 2^16 bytes.
-/
namespace Go.Proofs.Ytfbnckecfapakaa
open Go.RowKit
open Pol (co Sm)

/-- Bytes of a call's own that read as these. -/
def CloneS (t : List Nat) (w : World) (e : Ending) (w' : World) : Prop := Ext w w' ∧ ∃ v, e = .returned v ∧ Mine w' w.heap.size v t
set_option maxHeartbeats 800000 in
set_option maxRecDepth 100000 in
theorem cr_clone (t : List Nat) (A : Option Addr) (c : Nat) (w : World) (hr : Rd w A t) (hl : t.length ≤ 65536) : Calls Try.prog 39 #[.slice A t.length c] w (CloneS t w) := by
  unfold CloneS
  have HR := Lib.hid hr
  obtain ⟨n, hn⟩ : ∃ n, t.length = n := ⟨_, rfl⟩
  have HN := Lib.hid hn
  rw [hn] at hl ⊢
  have qn : ∀ (W : World) (B : Option Addr) (n c : Nat), (binOp .eql 22 (.slice B n c) (.slice none 0 0)).run Try.prog W = .ok (.bool B.isNone) W := fun W B n c => Lib.run_eql_slice_nil W _ _ B n c 0 0 Try.underlying22
  cases A with
  | none =>
    have ht : t = [] := by
      rcases Nat.eq_zero_or_pos t.length with h | h
      · exact List.eq_nil_of_length_eq_zero h
      · obtain ⟨_, _, e, _⟩ := hr.2 0 h; cases e
    have HT := Lib.hid ht
    clear hr hn ht
    go_enter Try.func39, Try.ntmps39
    go_wp2
    skip
    go_ret
    exact ⟨Ext.refl _, _, rfl, by rw [HT.out]; exact Mine.nil _ _⟩
  | some a =>
    have hx := (Ext.refl w).alloc (.cells #[] 5)
    have HX := Lib.hid hx
    have HM := Lib.hid (mine_empty w)
    clear hr hn hx
    go_enter Try.func39, Try.ntmps39
    go_wp2_with (at_builtin; refine wpList_append_rd rfl (.tmp 5) (.tmp 6) rfl w.heap.size (.slice (some ⟨w.heap.size, 0, none⟩) 0 0) [] t rfl HM.out (some a) n c rfl HN.out (HR.out.ext HX.out) (by rw [HN.out]; simp; omega) HX.out.size ?_; intro v' w3 hown' hg' hat'; rw [List.nil_append] at hown'; have HM2 := Lib.hid hown'; have HX2 := Lib.hid (HX.out.more hg' (fun k e => (HM.out.block k e).1)); clear hown' hg' hat')
    go_ret
    exact ⟨HX2.out, _, rfl, HM2.out⟩
end Go.Proofs.Ytfbnckecfapakaa

/-
  What fits, header of layer 9 and bytes.Clone do. Conditions: no more than 2^16 bytes for header.
-/
namespace Go.Proofs.Ytfbnckecfapakaa
open Go.RowKit
open Pol (co Sm)

theorem cr_fits_yes (n : Nat) (h1 : 1 ≤ n) (h2 : n ≤ 1000) (w : World) : Calls Try.prog 41 #[.int .i64 (n : Int)] w (fun e w' => e = .returned (.bool true) ∧ w = w') := by
  have d1 : decide ((n : Int) < 1) = false := decide_eq_false (by omega)
  have d1' : decide (1 ≤ (n : Int)) = true := decide_eq_true (by omega)
  have d2 : decide ((n : Int) ≤ 1000) = true := decide_eq_true (by omega)
  have d2' : decide (1000 < (n : Int)) = false := decide_eq_false (by omega)
  go_enter Try.func41, Try.ntmps41
  go_wp2
  go_ret
  exact ⟨rfl, rfl⟩
theorem cr_fits_no (n : Nat) (h : ¬ (1 ≤ n ∧ n ≤ 1000)) (w : World) : Calls Try.prog 41 #[.int .i64 (n : Int)] w (fun e w' => e = .returned (.bool false) ∧ w = w') := by
  by_cases h1 : 1 ≤ n
  · have d1 : decide ((n : Int) < 1) = false := decide_eq_false (by omega)
    have d1' : decide (1 ≤ (n : Int)) = true := decide_eq_true (by omega)
    have d2 : decide ((n : Int) ≤ 1000) = false := decide_eq_false (by omega)
    have d2' : decide (1000 < (n : Int)) = true := decide_eq_true (by omega)
    clear h
    go_enter Try.func41, Try.ntmps41
    go_wp2
    go_ret
    exact ⟨rfl, rfl⟩
  · have d1 : decide ((n : Int) < 1) = true := decide_eq_true (by omega)
    have d1' : decide (1 ≤ (n : Int)) = false := decide_eq_false (by omega)
    clear h
    go_enter Try.func41, Try.ntmps41
    go_wp2
    go_ret
    exact ⟨rfl, rfl⟩
def Z6 : Array Value := #[.int .u8 0, .int .u8 0, .int .u8 0, .int .u8 0, .int .u8 0, .int .u8 0]
theorem zero6 : (Try.prog.info? 72).map (·.size) = some 6 := (zero_of_info (v := .agg (Array.replicate 6 (.int .u8 0))) (by kernel_rfl)).2
theorem header_cells (t : List Nat) : (bv (t.length / 256 :: t.length % 256 :: cbs (crcl t))).toArray = #[.int .u8 ((t.length / 256 : Nat) : Int), .int .u8 ((t.length % 256 : Nat) : Int), .int .u8 ((crcl t / 16777216 : Nat) : Int), .int .u8 ((crcl t / 65536 % 256 : Nat) : Int), .int .u8 ((crcl t / 256 % 256 : Nat) : Int), .int .u8 ((crcl t % 256 : Nat) : Int)] := rfl
set_option maxHeartbeats 800000 in
set_option maxRecDepth 100000 in
theorem cr_header (t : List Nat) (A : Option Addr) (c : Nat) (w : World) (hr : Rd w A t) (hl : t.length ≤ 65535) :
    Calls Try.prog 42 #[.slice A t.length c] w (Tells (.agg (bv (t.length / 256 :: t.length % 256 :: cbs (crcl t))).toArray) w) := by
  have HO0 := Lib.hid (fun W (hx : Ext w W) => cr_of t A c W (hr.ext hx) (by omega))
  have hcl := crcl_lt hr.1
  rw [header_cells]
  obtain ⟨C, hC⟩ : ∃ C, crcl t = C := ⟨_, rfl⟩
  obtain ⟨n, hn⟩ : ∃ n, t.length = n := ⟨_, rfl⟩
  rw [hn, hC] at HO0 ⊢
  rw [hC] at hcl
  rw [hn] at hl
  obtain ⟨x0, hx0⟩ : ∃ x, n / 256 = x := ⟨_, rfl⟩
  obtain ⟨x1, hx1⟩ : ∃ x, n % 256 = x := ⟨_, rfl⟩
  obtain ⟨y0, hy0⟩ : ∃ x, C / 16777216 = x := ⟨_, rfl⟩
  obtain ⟨y1, hy1⟩ : ∃ x, C / 65536 = x := ⟨_, rfl⟩
  obtain ⟨y2, hy2⟩ : ∃ x, C / 256 = x := ⟨_, rfl⟩
  obtain ⟨z1, hz1⟩ : ∃ x, y1 % 256 = x := ⟨_, rfl⟩
  obtain ⟨z2, hz2⟩ : ∃ x, y2 % 256 = x := ⟨_, rfl⟩
  obtain ⟨z3, hz3⟩ : ∃ x, C % 256 = x := ⟨_, rfl⟩
  rw [hx0, hx1, hy0, hy1, hy2, hz1, hz2, hz3]
  have e0 : (n : Int).tdiv 256 = (x0 : Int) := by rw [Int.tdiv_eq_ediv_of_nonneg (by omega)]; omega
  have e0' : (n : Int) / 256 = (x0 : Int) := by omega
  have e2 : (C : Int) / 16777216 = (y0 : Int) := by omega
  have e3 : (C : Int) / 65536 = (y1 : Int) := by omega
  have e4 : (C : Int) / 256 = (y2 : Int) := by omega
  have w0 : IntKind.u8.wrap (x0 : Int) = (x0 : Int) := IntWalk.u8_in _ (by omega)
  have w1 : IntKind.u8.wrap (n : Int) = (x1 : Int) := by rw [IntKind.wrap_u8]; omega
  have w2 : IntKind.u8.wrap (y0 : Int) = (y0 : Int) := IntWalk.u8_in _ (by omega)
  have w3 : IntKind.u8.wrap (y1 : Int) = (z1 : Int) := by rw [IntKind.wrap_u8]; omega
  have w4 : IntKind.u8.wrap (y2 : Int) = (z2 : Int) := by rw [IntKind.wrap_u8]; omega
  have w5 : IntKind.u8.wrap (C : Int) = (z3 : Int) := by rw [IntKind.wrap_u8]; omega
  have hbx : x0 < 256 ∧ x1 < 256 ∧ y0 < 256 := by omega
  have hby : y1 < 4294967296 ∧ y2 < 4294967296 ∧ z1 < 256 ∧ z2 < 256 ∧ z3 < 256 := by omega
  obtain ⟨hb1, hb2, hb3⟩ := hbx
  obtain ⟨hb4, hb5, hb6, hb7, hb8⟩ := hby
  clear hx0 hx1 hy0 hy1 hy2 hz1 hz2 hz3 hC hn hr
  have HX0 := Lib.hid ((Ext.refl w).alloc (.cells #[.int .u8 0, .int .u8 0, .int .u8 0, .int .u8 0, .int .u8 0, .int .u8 0] 72))
  have HO2 := Lib.hid (fun W (hx : Ext w W) => show Calls Try.prog 44 #[.slice A n c] W (Tells (.int .u32 (C : Int)) W) from HO0.out W hx)
  go_enter Try.func42, Try.ntmps42
  go_wp2_with fail
  refine (HO2.out _ HX0.out).mono ?_
  rintro e w1 ⟨rfl, hx1⟩
  have hg := (hx1.below.block w.heap.size (by simp)).trans (heap_alloc_new w (.cells Z6 72))
  have hin : (Try.prog.info? 72).map (·.size) = some (#[.int .u8 (x0 : Int), .int .u8 (x1 : Int), .int .u8 (y0 : Int), .int .u8 (z1 : Int), .int .u8 (z2 : Int), .int .u8 (z3 : Int)] : Array Value).size := zero6
  have hon : (#[.int .u8 (x0 : Int), .int .u8 (x1 : Int), .int .u8 (y0 : Int), .int .u8 (z1 : Int), .int .u8 (z2 : Int), .int .u8 (z3 : Int)] : Array Value).all (·.oneCell') = true := by simp [Value.oneCell']
  have hsz : Z6.size = (#[.int .u8 (x0 : Int), .int .u8 (x1 : Int), .int .u8 (y0 : Int), .int .u8 (z1 : Int), .int .u8 (z2 : Int), .int .u8 (z3 : Int)] : Array Value).size := rfl
  obtain ⟨V, hV⟩ : ∃ V, (#[.int .u8 (x0 : Int), .int .u8 (x1 : Int), .int .u8 (y0 : Int), .int .u8 (z1 : Int), .int .u8 (z2 : Int), .int .u8 (z3 : Int)] : Array Value) = V := ⟨_, rfl⟩
  rw [hV] at hin hon hsz ⊢
  have hg3 := setRow_heap w1 w.heap.size Z6 V _ _ hg
  have HV := Lib.hid hV
  have HG := Lib.hid hg
  have HIN := Lib.hid hin
  have HON := Lib.hid hon
  have HSZ := Lib.hid hsz
  have HG3 := Lib.hid hg3
  have HX3 := Lib.hid ((HX0.out.trans hx1).setRow (g := w.heap.size) (Nat.le_refl _) V)
  clear hx1 hg hin hon hsz hV hg3
  go_wp2_with (first | (rw [HV.out]; with_reducible refine wpList_store_all rfl 72 (.tmp 2) (.tmp 25) rfl w.heap.size Z6 V rfl rfl HG.out HIN.out HSZ.out HON.out ?_))
  exact ⟨rfl, .agg V, results_cell_row Try.results42 _ _ w.heap.size 72 V (0, 0) _ rfl HG3.out Try.underlying72 rfl HIN.out, by rw [HV.out], HX3.out⟩
end Go.Proofs.Ytfbnckecfapakaa

/-
  What Frame of layer 9 does. Conditions: none.
-/
namespace Go.Proofs.Ytfbnckecfapakaa
open Go.RowKit
open Pol (co Sm)

/-- A frame's head. -/
def hd6 (t : List Nat) : List Nat := t.length / 256 :: t.length % 256 :: cbs (crcl t)
theorem hd6_len (t : List Nat) : (hd6 t).length = 6 := rfl
theorem fr_hd6 (t : List Nat) : fr t = hd6 t ++ t := rfl
theorem hd6_sm {t : List Nat} (h : Sm t) (hl : t.length ≤ 65535) : Sm (hd6 t) := by
  have hc := crcl_lt h
  exact Sm.cons (by omega) (Sm.cons (by omega) (cbs_sm hc))
theorem Mine.ownT {w : World} {base : Nat} {v : Value} {t : List Nat} (h : Mine w base v t) (hs : Sm t) : OwnT base v w t := by
  obtain ⟨B, c, rfl, hc, hr⟩ := h.slice hs
  exact ⟨B, c, rfl, hc, hr, fun b o e _ => (h.block b (by rw [e]; rfl)).1⟩
theorem Mine.ownW {w : World} {base : Nat} {v : Value} {t : List Nat} (h : Mine w base v t) (hs : Sm t) : OwnW base v w t := by
  obtain ⟨B, c, rfl, hc, hr⟩ := h.slice hs
  refine ⟨B, c, rfl, hc, hr, fun b o e _ => ⟨(h.block b (by rw [e]; rfl)).1, fun i _ => ?_⟩⟩
  subst e
  rcases h.2 with ⟨e, _⟩ | ⟨g, cap, cur, e, _, hg, _⟩
  · cases e
  · injection e with e1 e2 e3
    injection e1 with e1
    injection e1 with e1 e2
    subst e1; subst e2
    rw [Nat.zero_add]
    exact frozen_of_row w b i cur _ hg
set_option maxHeartbeats 800000 in
set_option maxRecDepth 100000 in
theorem cr_frame_m (l : List Nat) (A : Option Addr) (c : Nat) (w : World) (hr : Rd w A l) :
    Calls Try.prog 34 #[.slice A l.length c] w (FrameE .i64 l w) := by
  unfold FrameE
  by_cases hf : FrOk l
  · obtain ⟨hf1, hf2⟩ := hf
    have HF := Lib.hid (cr_fits_yes l.length hf1 hf2 w)
    have HH := Lib.hid (cr_header l A c w hr (by omega))
    obtain ⟨a, ha⟩ : ∃ a, A = some a := by
      obtain ⟨b, o, e, _⟩ := hr.addr (by omega)
      exact ⟨_, e⟩
    subst ha
    have HR := Lib.hid hr
    have HS := Lib.hid (hd6_sm hr.1 (by omega))
    have HFO := Lib.hid (show FrOk l from ⟨hf1, hf2⟩)
    have HFH := Lib.hid (fr_hd6 l)
    have hv : (bv (hd6 l)).toArray.size = 6 := by simp [bv_len, hd6_len]
    have hone : (bv (hd6 l)).toArray.all (·.oneCell') = true := by
      rw [Array.all_eq_true]; intro i h; exact bv_one (hd6 l) _ (by simp)
    have HRD := Lib.hid (fun (W : World) (g : Nat) (h : W.heap[g]? = some (.cells (bv (hd6 l)).toArray 72 (0, 0))) => show Rd W (some ⟨g, 0, none⟩) (hd6 l) from
      ⟨hd6_sm hr.1 (by omega), fun i hi => ⟨g, 0, rfl, by rw [Nat.zero_add, cell_of_row W g i _ _ _ h]; simpa using bv_at (hd6 l) i hi⟩⟩)
    rw [show (bv (l.length / 256 :: l.length % 256 :: cbs (crcl l))).toArray = (bv (hd6 l)).toArray from rfl] at HH
    obtain ⟨V, hV⟩ : ∃ V, (bv (hd6 l)).toArray = V := ⟨_, rfl⟩
    rw [hV] at HH HRD hv hone
    obtain ⟨H6, hH6⟩ : ∃ H, hd6 l = H := ⟨_, rfl⟩
    have h6 : H6.length = 6 := by rw [← hH6]; rfl
    rw [hH6] at HFH HS HRD
    have H6L := Lib.hid h6
    have HVS := Lib.hid hv
    have HON := Lib.hid hone
    obtain ⟨n, hn⟩ : ∃ n, l.length = n := ⟨_, rfl⟩
    have HN := Lib.hid hn
    rw [hn] at HF HH hf1 hf2 ⊢
    clear hr hV hH6 hn hv hone h6
    go_enter Try.func34, Try.ntmps34
    go_wp2_with fail
    refine HF.out.mono ?_
    rintro e w1 ⟨rfl, rfl⟩
    go_wp2_with fail
    refine HH.out.mono ?_
    rintro e w1 ⟨rfl, hx1⟩
    have hg := heap_alloc_new w1 (.cells Z6 72)
    have hg3 := setRow_heap _ w1.heap.size Z6 V _ _ hg
    have hx3 := (hx1.alloc (.cells Z6 72)).setRow (g := w1.heap.size) hx1.size V
    have hin : (Try.prog.info? 72).map (·.size) = some V.size := by rw [HVS.out]; exact zero6
    have hsz : Z6.size = V.size := by rw [HVS.out]; rfl
    obtain ⟨w2, hw2⟩ : ∃ w2, (w1.alloc (.cells Z6 72)).setRow w1.heap.size V = w2 := ⟨_, rfl⟩
    rw [hw2] at hg3 hx3
    unfold Z6 at hg hw2 hsz
    have HW2 := Lib.hid hw2
    have HG := Lib.hid hg
    have HIN := Lib.hid hin
    have HSZ := Lib.hid hsz
    have HX := Lib.hid hx3
    have HR6 := Lib.hid (HRD.out _ _ hg3)
    have HRW := Lib.hid (HR.out.ext hx3)
    clear hx1 hg hg3 hx3 hin hsz hw2
    go_wp2_with (first | (with_reducible refine wpList_store_all rfl 72 (.tmp 4) (.tmp 10) rfl w1.heap.size _ V rfl rfl HG.out HIN.out HSZ.out HON.out ?_; rw [HW2.out]) | (at_builtin; refine wpList_append_full9 rfl (.tmp 11) (.tmp 12) rfl w1.heap.size 0 6 H6 l rfl H6L.out HR6.out a c n rfl HN.out HRW.out (by rw [HN.out]; omega) (by rw [H6L.out, HN.out]; omega) ?_; intro v3 w3 hm3 hx3; rw [← HFH.out] at hm3; have HM3 := Lib.hid hm3; have HX3 := Lib.hid (HX.out.trans hx3); clear hm3 hx3))
    go_ret2
    exact ⟨HX3.out, .inl ⟨HFO.out, _, rfl, HM3.out.down HX.out.size⟩⟩
  · have HF := Lib.hid (cr_fits_no l.length hf w)
    have HNO := Lib.hid hf
    generalize l.length = n at *
    clear hr hf
    go_enter Try.func34, Try.ntmps34
    go_wp2_with fail
    refine HF.out.mono ?_
    rintro e w1 ⟨rfl, rfl⟩
    go_wp2
    go_ret2
    exact ⟨Ext.refl _, .inr ⟨HNO.out, none, 0, rfl⟩⟩
theorem cr_frame (l : List Nat) (A : Option Addr) (c : Nat) (w : World) (hr : Rd w A l) :
    Calls Try.prog 34 #[.slice A l.length c] w (FrameS l w) := (cr_frame_m l A c w hr).mono fun _ _ ⟨hx, h⟩ => ⟨hx, h.imp (fun ⟨hf, v, e, hm⟩ => ⟨hf, v, e, hm.ownT (fr_sm hr.1 hf)⟩) id⟩
end Go.Proofs.Ytfbnckecfapakaa
