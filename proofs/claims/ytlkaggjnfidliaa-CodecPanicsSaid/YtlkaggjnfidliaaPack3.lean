/-
  Part 3 of the texts that the seat's proofs stand on; each part of it begins with its own sentence and conditions. Conditions: those that each theorem names.
-/
import Derived.Test.YtlkaggjnfidliaaPack2
import Derived.Defers
import Derived.Recover
import Derived.Laws.Pointers
import Derived.Laws.Cover3
import Derived.ProofKit
import Derived.OpenShut
import Derived.Deep.Slices
import Derived.Deep.SlicePairs
import Derived.ChangeSame

/-
  The law CodecReads itself, walked, under what layer 8's functions are to do. Conditions: none.
-/
namespace Go.Proofs.Ytlkaggjnfidliaa
open Go.RowKit
open Pol (co Sm)

theorem four_blocks (w : World) (o1 o2 o3 o4 : Obj) : ((((w.alloc o1).alloc o2).alloc o3).alloc o4).heap[w.heap.size]? = some o1 ∧ ((((w.alloc o1).alloc o2).alloc o3).alloc o4).heap[w.heap.size + 1]? = some o2 ∧ ((((w.alloc o1).alloc o2).alloc o3).alloc o4).heap[w.heap.size + 2]? = some o3 ∧ ((((w.alloc o1).alloc o2).alloc o3).alloc o4).heap[w.heap.size + 3]? = some o4 ∧ ((((w.alloc o1).alloc o2).alloc o3).alloc o4).heap.size = w.heap.size + 4 := by
  have h1 := heap_alloc_new w o1
  have h2 := heap_alloc_new (w.alloc o1) o2
  have h3 := heap_alloc_new ((w.alloc o1).alloc o2) o3
  have h4 := heap_alloc_new (((w.alloc o1).alloc o2).alloc o3) o4
  have s1 : (w.alloc o1).heap.size = w.heap.size + 1 := by simp
  have s2 : ((w.alloc o1).alloc o2).heap.size = w.heap.size + 2 := by simp
  have s3 : (((w.alloc o1).alloc o2).alloc o3).heap.size = w.heap.size + 3 := by simp
  rw [s1] at h2
  rw [s2] at h3
  rw [s3] at h4
  refine ⟨?_, ?_, ?_, h4, by simp⟩
  · exact (((((Ext.refl (w.alloc o1)).alloc o2).alloc o3).alloc o4).below.block _ (by omega)).trans h1
  · exact ((((Ext.refl ((w.alloc o1).alloc o2)).alloc o3).alloc o4).below.block _ (by omega)).trans h2
  · exact (((Ext.refl (((w.alloc o1).alloc o2).alloc o3)).alloc o4).below.block _ (by omega)).trans h3

set_option maxHeartbeats 6400000 in
set_option maxRecDepth 100000 in
theorem reads8_walk (I : Rdr) (C : CodecSaid I) (b : List Nat) (B : Option Addr) (cb : Nat) (l : List (Int × Nat × List Nat)) (A : Option Addr) (ca : Nat) (w : World) (hr : Rd w B b) (hcb : b.length ≤ cb) (hT : TRd w A l) (hla : l.length ≤ 9223372036854775807) :
    Calls Try.prog 3 #[.slice B b.length cb, .slice A l.length ca] w (Holds w) := by
  have hmf : ∀ (fn : Fn) (first cap : Array Value) (w : World), (Instr.makeFunc fn first cap).run Try.prog w = .ok (.func fn first cap) w := fun _ _ _ _ => rfl
  have HAW := Lib.hid (fun u => awake8 I C u)
  have HFE := Lib.hid (fun u (hx : Ext w u) => law8_few l A ca u (hT.ext hx) hla)
  have HRD := Lib.hid (fun g gW (u : World) (hx : Ext w u) (hb : b.length ≤ 400) (hl : l.length ≤ 30) (hg0 : w.heap.size ≤ g) (hg1 : g < gW) (hg2 : gW + 3 < u.heap.size) (cg : u.cell? ⟨g, 0, none⟩ = some (.slice A l.length ca)) (rr : RR u gW B b.length cb 0 0) (cp : u.cell? ⟨gW + 1, 0, none⟩ = some (.pointer (some ⟨gW, 0, none⟩))) (ck : u.cell? ⟨gW + 2, 0, none⟩ = some (.bool true)) (zk : u.frozen? ⟨gW + 2, 0, none⟩ = false) (cd : u.cell? ⟨gW + 3, 0, none⟩ = some (.int .i64 0)) (zd : u.frozen? ⟨gW + 3, 0, none⟩ = false) =>
    show Calls Try.prog 10 #[.slice B b.length cb, .func (.func 11) #[] #[.pointer (some ⟨g, 0, none⟩), .pointer (some ⟨gW + 3, 0, none⟩), .pointer (some ⟨gW + 2, 0, none⟩), .pointer (some ⟨gW + 1, 0, none⟩)]] u (ReadE (fun _ w' y => CrJ l b g (.slice A l.length ca) gW B cb w w' y) u) from
    C.read b B cb _ _ u _ ⟨_, _, Try.func11, rfl, by kernel_rfl⟩ (hr.ext hx) hcb (by omega) (fun hi ρ w1 hx1 hlo hhi hI =>
      reads8_by I C u.heap.size hi g gW (nz b B) B A ρ b cb l ca 0 w w1 ⟨hg0, hg1, hg2, hlo, fun k o e => hr.block' k o (nz_some e).1 (nz_some e).2⟩
        ⟨hI, (hx1.below.cell (p := ⟨g, 0, none⟩) (block_lt_of_cell cg)).trans cg, by rw [Nat.sub_self]; exact rr.ext hx1, (hx1.below.cell (p := ⟨gW + 1, 0, none⟩) (block_lt_of_cell cp)).trans cp, (hx1.below.cell (p := ⟨gW + 2, 0, none⟩) (block_lt_of_cell ck)).trans ck, (hx1.below.frozen (p := ⟨gW + 2, 0, none⟩) (block_lt_of_cell ck)).trans zk, (hx1.below.cell (p := ⟨gW + 3, 0, none⟩) (block_lt_of_cell cd)).trans cd, (hx1.below.frozen (p := ⟨gW + 3, 0, none⟩) (block_lt_of_cell cd)).trans zd, hx.trans hx1, hhi⟩ hr hcb hb hT hl))
  have HR := Lib.hid hr
  have HT := Lib.hid hT
  have HCB := Lib.hid hcb
  clear C hT hr hcb
  unfold FewE at HFE
  generalize hlb : b.length = nbb at *
  have HLB := Lib.hid hlb
  clear hlb
  generalize hn : l.length = n at *
  have HN := Lib.hid hn
  clear hn
  generalize FewS l n = FS at *
  have HX0 := Lib.hid (show Ext w (w.alloc (.cells #[.slice A n ca] 23)) from (Ext.refl w).alloc _)
  have HC0 := Lib.hid (show (w.alloc (.cells #[.slice A n ca] 23)).cell? ⟨w.heap.size, 0, none⟩ = some (.slice A n ca) from by rw [cell_of_row _ _ _ _ _ _ (heap_alloc_new w _)]; rfl)
  go_enter Try.func3, Try.ntmps3
  go_wp2_with fail
  refine (HAW.out _).mono ?_
  rintro e w1 ⟨rfl, hx1⟩
  have HX1 := Lib.hid (HX0.out.trans hx1)
  have HC1 := Lib.hid ((hx1.below.cell (p := ⟨w.heap.size, 0, none⟩) (block_lt_of_cell HC0.out)).trans HC0.out)
  have c1 := HC1.out
  have hgs : w.heap.size < w1.heap.size := block_lt_of_cell HC1.out
  clear hx1 HC0
  obtain ⟨g0, hg0⟩ : ∃ g0, w.heap.size = g0 := ⟨_, rfl⟩
  rw [hg0] at c1 hgs HC1 ⊢
  go_wp2_with fail
  refine (HFE.out w1 HX1.out).mono ?_
  rintro e w2 (⟨⟨hfs, h30⟩, rfl, rfl⟩ | ⟨hno, rfl, rfl⟩)
  · by_cases h400 : nbb ≤ 400
    · have d1 : decide (400 < (nbb : Int)) = false := decide_eq_false (by omega)
      clear hfs c1
      go_wp2_with fail
      obtain ⟨f1, f2, f3, f4, f5⟩ := four_blocks w1 (.cells #[.slice B nbb cb, .int .i64 0, .int .i64 0] 28) (.cells #[.pointer (some ⟨w1.heap.size, 0, none⟩)] 26) (.cells #[.bool true] 4) (.cells #[.int .i64 0] 3)
      have hxu : Ext w1 ((((w1.alloc (.cells #[.slice B nbb cb, .int .i64 0, .int .i64 0] 28)).alloc (.cells #[.pointer (some ⟨w1.heap.size, 0, none⟩)] 26)).alloc (.cells #[.bool true] 4)).alloc (.cells #[.int .i64 0] 3)) := ((((Ext.refl w1).alloc _).alloc _).alloc _).alloc _
      generalize (((w1.alloc (.cells #[.slice B nbb cb, .int .i64 0, .int .i64 0] 28)).alloc (.cells #[.pointer (some ⟨w1.heap.size, 0, none⟩)] 26)).alloc (.cells #[.bool true] 4)).alloc (.cells #[.int .i64 0] 3) = u at f1 f2 f3 f4 f5 hxu ⊢
      rw [show w1.heap.size + 1 + 1 + 1 = w1.heap.size + 3 from rfl, show w1.heap.size + 1 + 1 = w1.heap.size + 2 from rfl]
      obtain ⟨gW, hgW⟩ : ∃ gW, w1.heap.size = gW := ⟨_, rfl⟩
      rw [hgW] at f1 f2 f3 f4 f5 hgs ⊢
      have hrd := HRD.out g0 gW u (HX1.out.trans hxu) h400 h30 (by omega) hgs (by omega) ((hxu.below.cell (p := ⟨g0, 0, none⟩) (block_lt_of_cell HC1.out)).trans HC1.out)
        ⟨by rw [cell_of_row _ _ _ _ _ _ f1]; rfl, by rw [cell_of_row _ _ _ _ _ _ f1]; rfl, by rw [cell_of_row _ _ _ _ _ _ f1]; rfl, frozen_of_row _ _ _ _ _ f1, frozen_of_row _ _ _ _ _ f1⟩
        (by rw [cell_of_row _ _ _ _ _ _ f2]; rfl) (by rw [cell_of_row _ _ _ _ _ _ f3]; rfl) (frozen_of_row _ _ _ _ _ f3) (by rw [cell_of_row _ _ _ _ _ _ f4]; rfl) (frozen_of_row _ _ _ _ _ f4)
      have hxw : Ext w u := HX1.out.trans hxu
      have husz := f5
      clear f1 f2 f3 f4 f5 hxu hgW
      refine hrd.mono ?_
      rintro e w3 ⟨hi, w4, y, hhi, ⟨hx4, cg4, cp4, ck4, hcase⟩, ho, he⟩
      have hnb : ∀ k, k < u.heap.size → ¬ Btw u.heap.size hi k := fun k hk h => by have := h.1; omega
      have hx3 : Ext w w3 := only_btw_ext ho hx4 hxw.size
      have cg3 := ho.cell cg4 (hnb g0 (by omega))
      have cp3 := ho.cell cp4 (hnb (gW + 1) (by omega))
      have ck3 := ho.cell ck4 (hnb (gW + 2) (by omega))
      have HX3 := Lib.hid hx3
      have HCP := Lib.hid cp3
      have HCK := Lib.hid ck3
      have hg00 : g0 < gW := hgs
      rcases hcase with ⟨r, rfl, hpre, hrr, hcd⟩ | ⟨m, k, r, rfl, hkn, hpre, hstp, hrr, hcd⟩
      · obtain rfl : e = .returned (.int .i64 (if r = [] then 0 else 3)) := he
        have cd3 := ho.cell hcd (hnb (gW + 3) (by omega))
        rw [HLB.out] at hrr
        rw [HN.out] at cd3
        have HEN := Lib.hid (ref8r_end r gW B nbb cb w3 (hrr.only ho (hnb gW (by omega))) (by obtain ⟨pre, hp⟩ := hpre; rw [← HLB.out, hp, List.length_append]; omega))
        generalize (if r = [] then (0 : Int) else 3) = z at HEN ⊢
        clear hrd ho hx4 cg4 cp4 ck4 hrr hcd hpre hnb hx3
        go_wp2_with fail
        refine HEN.out.mono ?_
        rintro e w5 ⟨rfl, ho5⟩
        have HX5 := Lib.hid (ho5.ext HX3.out (fun k hk => by have : k = gW := hk; omega))
        clear ho5
        go_wp2
        go_ret
        exact ⟨rfl, HX5.out⟩
      · obtain rfl : e = .returned (.int .i64 (m : Int)) := he
        have cd3 := ho.cell hcd (hnb (gW + 3) (by omega))
        rw [HN.out] at hkn
        rw [HLB.out] at hrr
        have hkI : (k : Int) < (n : Int) := by omega
        have HRR := Lib.hid (hrr.only ho (hnb gW (by omega)))
        have HPRE := Lib.hid hpre
        obtain ⟨b1, o1, B1, c1, e1, hc1, hc2, hc3, hcc, hr1, hnb1, _⟩ := HT.out.at HX3.out k (by rw [HN.out]; exact hkn)
        subst e1
        unfold crStep at hstp
        obtain ⟨q, hq⟩ : ∃ q, kd l k = q := ⟨_, rfl⟩
        obtain ⟨x, hxx⟩ : ∃ x, nb l k = x := ⟨_, rfl⟩
        obtain ⟨tl, htl⟩ : ∃ tl, (sb l k).length = tl := ⟨_, rfl⟩
        rw [hq] at hc1 hstp
        rw [hxx] at hc2 hnb1 hstp
        rw [htl] at hc3 hcc
        have hgw3 : gW + 3 < w3.heap.size := block_lt_of_cell cd3
        have HXA := Lib.hid (HX3.out.alloc (.cells #[.int .i64 q, .int .u64 (x : Int), .slice B1 tl c1] 34))
        have HXS := Lib.hid ((Ext.refl w3).alloc (.cells #[.int .i64 q, .int .u64 (x : Int), .slice B1 tl c1] 34))
        have HKA := Lib.hid (show (w3.alloc (.cells #[.int .i64 q, .int .u64 (x : Int), .slice B1 tl c1] 34)).cell? ⟨gW + 2, 0, none⟩ = some (.bool true) ∧ (w3.alloc (.cells #[.int .i64 q, .int .u64 (x : Int), .slice B1 tl c1] 34)).cell? ⟨gW + 1, 0, none⟩ = some (.pointer (some ⟨gW, 0, none⟩)) from ⟨(HXS.out.below.cell (p := ⟨gW + 2, 0, none⟩) (block_lt_of_cell HCK.out)).trans HCK.out, (HXS.out.below.cell (p := ⟨gW + 1, 0, none⟩) (block_lt_of_cell HCP.out)).trans HCP.out⟩)
        have HRA := Lib.hid (HRR.out.ext HXS.out)
        have hrow := heap_alloc_new w3 (.cells #[.int .i64 q, .int .u64 (x : Int), .slice B1 tl c1] 34)
        have HS1 := Lib.hid (show (w3.alloc (.cells #[.int .i64 q, .int .u64 (x : Int), .slice B1 tl c1] 34)).cell? ⟨w3.heap.size, 1, none⟩ = some (.int .u64 (x : Int)) from by rw [cell_of_row _ _ _ _ _ _ hrow]; rfl)
        have HFAR := Lib.hid (fun bb o (e : B = some ⟨bb, o, none⟩) (h : 0 < b.length) => show bb ≠ gW from by have h1 := HR.out.block' bb o e h; omega)
        have hm0 : 0 < m ∧ m < 17 := by
          split at hstp
          · cases hh : rdN x r with
            | ok a b => rw [hh] at hstp; cases hstp
            | er e => rw [hh] at hstp; injection hstp with hstp; rw [← hstp]; exact rdN_er hh
          · split at hstp
            · cases hh : rdT (x % 5000) r with
              | ok a b => rw [hh] at hstp; cases hstp
              | er e => rw [hh] at hstp; injection hstp with hstp; rw [← hstp]; exact rdT_er hh
            · split at hstp
              · cases hh : rdB 32 r with
                | ok a b => rw [hh] at hstp; cases hstp
                | er e => rw [hh] at hstp; injection hstp with hstp; rw [← hstp]; exact rdB_er hh
              · split at hstp
                · cases hh : rdN (x % 5000) r with
                  | ok a b => rw [hh] at hstp; cases hstp
                  | er e => rw [hh] at hstp; injection hstp with hstp; rw [← hstp]; exact rdN_er hh
                · split at hstp
                  · injection hstp with hstp; split at hstp <;> omega
                  · cases hstp
        have tm : ((m : Int) != 0) = true := by simp; omega
        clear hrd ho hx4 cg4 cp4 ck4 hrr hcd hpre hnb hx3 hq hxx htl hcc hr1 hrow
        by_cases h1 : q = 1
        · rw [if_pos h1] at hstp
          subst h1
          have hres : rdN x r = .er m := by
            cases hh : rdN x r with
            | ok a b => rw [hh] at hstp; cases hstp
            | er e => rw [hh] at hstp; injection hstp with hstp; rw [← hstp]
          have hrf := ref8r_number b r gW B cb x _ (HR.out.ext HXA.out) HFAR.out (by rw [HLB.out]; omega) HPRE.out (by rw [HLB.out]; exact HRA.out) hnb1
          rw [hres] at hrf
          have HRF := Lib.hid hrf
          have ca2 := HKA.out.2
          have s1 := HS1.out
          clear hstp hres hrf
          go_wp2_with fail
          clear ca2 s1
          refine HRF.out.mono ?_
          rintro e w9 ⟨ho9, v9, a9, rfl, rfl, hrr9⟩
          have HX5 := Lib.hid (show Ext w w9 from (ho9.ext HXA.out (fun k hk => by have : k = gW := hk; omega)))
          have HRR5 := Lib.hid hrr9
          have HW5 := Lib.hid (show w9.cell? ⟨gW + 2, 0, none⟩ = some (.bool true) ∧ w9.cell? ⟨gW + 1, 0, none⟩ = some (.pointer (some ⟨gW, 0, none⟩)) from ⟨ho9.cell HKA.out.1 (show ¬ gW + 2 = gW by omega), ho9.cell HKA.out.2 (show ¬ gW + 1 = gW by omega)⟩)
          clear ho9 hrr9
          have c5 := HW5.out.1
          have c6 := HW5.out.2
          have c7 := HRR5.out.c2
          go_wp2
          go_ret
          exact ⟨rfl, HX5.out⟩
        rw [if_neg h1] at hstp
        have t1 : (q == 1) = false := beq_eq_false_iff_ne.2 h1
        by_cases h2 : q = 2
        · rw [if_pos h2] at hstp
          subst h2
          have hres : rdT (x % 5000) r = .er m := by
            cases hh : rdT (x % 5000) r with
            | ok a b => rw [hh] at hstp; cases hstp
            | er e => rw [hh] at hstp; injection hstp with hstp; rw [← hstp]
          have HHE := Lib.hid (fun W => law8_held x W hnb1)
          obtain ⟨h, hh5⟩ : ∃ h, x % 5000 = h := ⟨_, rfl⟩
          rw [hh5] at HHE hres
          have hh6 : h < 5000 := by omega
          clear hh5
          have e5 : IntKind.u64.wrap (h : Int) = (h : Int) := by rw [IntKind.wrap_u64]; omega
          have HRF := Lib.hid (fun W (hx : Ext (w3.alloc (.cells #[.int .i64 2, .int .u64 (x : Int), .slice B1 tl c1] 34)) W) => hres ▸ ref8r_text b r gW B cb h W (HR.out.ext (HXA.out.trans hx)) (by rw [HLB.out]; exact HCB.out) HFAR.out (by rw [HLB.out]; omega) HPRE.out (by rw [HLB.out]; exact HRA.out.ext hx) (by omega))
          clear hstp hres
          go_wp2
          generalize (w3.alloc (.cells #[.int .i64 2, .int .u64 (x : Int), .slice B1 tl c1] 34)) = WA at HXA HKA HRA HS1 HRF ⊢
          refine wp_region_stab (Two ⟨gW + 1, 0, none⟩ (.pointer (some ⟨gW, 0, none⟩)) ⟨w3.heap.size, 1, none⟩ (.int .u64 (x : Int))) [0, 1, 2, 3] [(0, true), (1, true), (2, true), (3, false), (4, false)] (by kernel_rfl) (fun c a a' w e h => ⟨e ▸ h.1, h.2⟩) (by kernel_rfl) ⟨HKA.out.2, HS1.out⟩ ?_
          refine stab_yes rfl (fun K hK => ?_)
          go_simp
          refine ⟨(.pointer (some ⟨gW, 0, none⟩)), fun W hW => ?_, hK _ ?_⟩
          focus (have h1 := hW.1; go_simp; done)
          clear hK K
          refine stab_yes rfl (fun K hK => ?_)
          go_simp
          refine ⟨_, fun _ _ => rfl, hK _ ?_⟩
          clear hK K
          refine stab_yes rfl (fun K hK => ?_)
          go_simp
          refine ⟨(.int .u64 (x : Int)), fun W hW => ?_, hK _ ?_⟩
          focus (have h1 := hW.2; go_simp; done)
          clear hK K
          refine stab_one rfl (fun K hK => ?_)
          go_wp2_with fail
          refine (HHE.out _).mono ?_
          rintro e w8 ⟨rfl, q8, rfl⟩
          go_wp2
          have HX7 := Lib.hid ((Ext.refl WA).drewN (1 + q8))
          have HK7 := Lib.hid (show Two ⟨gW + 1, 0, none⟩ (.pointer (some ⟨gW, 0, none⟩)) ⟨w3.heap.size, 1, none⟩ (.int .u64 (x : Int)) (WA.drewN (1 + q8)) from ⟨HKA.out.2, HS1.out⟩)
          generalize WA.drewN (1 + q8) = w7 at HX7 HK7 ⊢
          refine ⟨fun _ => HK7.out, ?_⟩
          refine stab_one rfl (fun K hK => ?_)
          go_wp2_with fail
          refine (HRF.out w7 HX7.out).mono ?_
          rintro e w9 ⟨ho9', v9, a9, rfl, ⟨B9, c9, rfl, _, _, _⟩, hrr9⟩
          have ho9 := (Only.of_ext (X := fun k => k = gW) HX7.out).trans ho9'
          clear ho9'
          have HX5 := Lib.hid (show Ext w w9 from (ho9.ext HXA.out (fun k hk => by have : k = gW := hk; omega)))
          have HRR5 := Lib.hid hrr9
          have HW5 := Lib.hid (show w9.cell? ⟨gW + 2, 0, none⟩ = some (.bool true) ∧ w9.cell? ⟨gW + 1, 0, none⟩ = some (.pointer (some ⟨gW, 0, none⟩)) from ⟨ho9.cell HKA.out.1 (show ¬ gW + 2 = gW by omega), ho9.cell HKA.out.2 (show ¬ gW + 1 = gW by omega)⟩)
          clear ho9 hrr9
          go_wp2
          refine ⟨fun h => absurd h (by decide), ?_⟩
          unfold wpStab
          have c5 := HW5.out.1
          have c6 := HW5.out.2
          have c7 := HRR5.out.c2
          go_wp2
          go_ret
          exact ⟨rfl, HX5.out⟩
        rw [if_neg h2] at hstp
        have t2 : (q == 2) = false := beq_eq_false_iff_ne.2 h2
        by_cases h3 : q = 3
        · rw [if_pos h3] at hstp
          subst h3
          have hres : rdB 32 r = .er m := by
            cases hh : rdB 32 r with
            | ok a b => rw [hh] at hstp; cases hstp
            | er e => rw [hh] at hstp; injection hstp with hstp; rw [← hstp]
          have hrf := ref8r_bytes b r gW B cb 32 _ (HR.out.ext HXA.out) (by rw [HLB.out]; exact HCB.out) (by rw [HLB.out]; omega) HPRE.out (by rw [HLB.out]; exact HRA.out) (by omega)
          rw [hres] at hrf
          have HRF := Lib.hid hrf
          have ca2 := HKA.out.2
          clear hstp hres hrf
          go_wp2_with fail
          clear ca2
          refine HRF.out.mono ?_
          rintro e w9 ⟨ho9, v9, a9, rfl, ⟨B9, c9, rfl, _, _, _⟩, hrr9⟩
          have HX5 := Lib.hid (show Ext w w9 from (ho9.ext HXA.out (fun k hk => by have : k = gW := hk; omega)))
          have HRR5 := Lib.hid hrr9
          have HW5 := Lib.hid (show w9.cell? ⟨gW + 2, 0, none⟩ = some (.bool true) ∧ w9.cell? ⟨gW + 1, 0, none⟩ = some (.pointer (some ⟨gW, 0, none⟩)) from ⟨ho9.cell HKA.out.1 (show ¬ gW + 2 = gW by omega), ho9.cell HKA.out.2 (show ¬ gW + 1 = gW by omega)⟩)
          clear ho9 hrr9
          have c5 := HW5.out.1
          have c6 := HW5.out.2
          have c7 := HRR5.out.c2
          go_wp2
          go_ret
          exact ⟨rfl, HX5.out⟩
        rw [if_neg h3] at hstp
        have t3 : (q == 3) = false := beq_eq_false_iff_ne.2 h3
        by_cases h4 : q = 4
        · rw [if_pos h4] at hstp
          subst h4
          have hres : rdN (x % 5000) r = .er m := by
            cases hh : rdN (x % 5000) r with
            | ok a b => rw [hh] at hstp; cases hstp
            | er e => rw [hh] at hstp; injection hstp with hstp; rw [← hstp]
          have HHE := Lib.hid (fun W => law8_held x W hnb1)
          obtain ⟨h, hh5⟩ : ∃ h, x % 5000 = h := ⟨_, rfl⟩
          rw [hh5] at HHE hres
          have hh6 : h < 5000 := by omega
          clear hh5
          have e5 : IntKind.u64.wrap (h : Int) = (h : Int) := by rw [IntKind.wrap_u64]; omega
          have HRF := Lib.hid (fun W (hx : Ext (w3.alloc (.cells #[.int .i64 4, .int .u64 (x : Int), .slice B1 tl c1] 34)) W) => hres ▸ ref8r_number b r gW B cb h W (HR.out.ext (HXA.out.trans hx)) HFAR.out (by rw [HLB.out]; omega) HPRE.out (by rw [HLB.out]; exact HRA.out.ext hx) (by omega))
          clear hstp hres
          go_wp2
          generalize (w3.alloc (.cells #[.int .i64 4, .int .u64 (x : Int), .slice B1 tl c1] 34)) = WA at HXA HKA HRA HS1 HRF ⊢
          refine wp_region_stab (Two ⟨gW + 1, 0, none⟩ (.pointer (some ⟨gW, 0, none⟩)) ⟨w3.heap.size, 1, none⟩ (.int .u64 (x : Int))) [0, 1, 2, 3, 4] [(0, true), (1, true), (2, true), (3, false), (4, false), (5, false)] (by kernel_rfl) (fun c a a' w e h => ⟨e ▸ h.1, h.2⟩) (by kernel_rfl) ⟨HKA.out.2, HS1.out⟩ ?_
          refine stab_yes rfl (fun K hK => ?_)
          go_simp
          refine ⟨(.pointer (some ⟨gW, 0, none⟩)), fun W hW => ?_, hK _ ?_⟩
          focus (have h1 := hW.1; go_simp; done)
          clear hK K
          refine stab_yes rfl (fun K hK => ?_)
          go_simp
          refine ⟨_, fun _ _ => rfl, hK _ ?_⟩
          clear hK K
          refine stab_yes rfl (fun K hK => ?_)
          go_simp
          refine ⟨(.int .u64 (x : Int)), fun W hW => ?_, hK _ ?_⟩
          focus (have h1 := hW.2; go_simp; done)
          clear hK K
          refine stab_one rfl (fun K hK => ?_)
          go_wp2_with fail
          refine (HHE.out _).mono ?_
          rintro e w8 ⟨rfl, q8, rfl⟩
          go_wp2
          have HX7 := Lib.hid ((Ext.refl WA).drewN (1 + q8))
          have HK7 := Lib.hid (show Two ⟨gW + 1, 0, none⟩ (.pointer (some ⟨gW, 0, none⟩)) ⟨w3.heap.size, 1, none⟩ (.int .u64 (x : Int)) (WA.drewN (1 + q8)) from ⟨HKA.out.2, HS1.out⟩)
          generalize WA.drewN (1 + q8) = w7 at HX7 HK7 ⊢
          refine ⟨fun _ => HK7.out, ?_⟩
          refine stab_one rfl (fun K hK => ?_)
          go_wp2
          refine ⟨fun _ => HK7.out, ?_⟩
          refine stab_one rfl (fun K hK => ?_)
          go_wp2_with fail
          refine (HRF.out w7 HX7.out).mono ?_
          rintro e w9 ⟨ho9', v9, a9, rfl, rfl, hrr9⟩
          have ho9 := (Only.of_ext (X := fun k => k = gW) HX7.out).trans ho9'
          clear ho9'
          have HX5 := Lib.hid (show Ext w w9 from (ho9.ext HXA.out (fun k hk => by have : k = gW := hk; omega)))
          have HRR5 := Lib.hid hrr9
          have HW5 := Lib.hid (show w9.cell? ⟨gW + 2, 0, none⟩ = some (.bool true) ∧ w9.cell? ⟨gW + 1, 0, none⟩ = some (.pointer (some ⟨gW, 0, none⟩)) from ⟨ho9.cell HKA.out.1 (show ¬ gW + 2 = gW by omega), ho9.cell HKA.out.2 (show ¬ gW + 1 = gW by omega)⟩)
          clear ho9 hrr9
          go_wp2
          refine ⟨fun h => absurd h (by decide), ?_⟩
          unfold wpStab
          have c5 := HW5.out.1
          have c6 := HW5.out.2
          have c7 := HRR5.out.c2
          go_wp2
          go_ret
          exact ⟨rfl, HX5.out⟩
        rw [if_neg h4] at hstp
        have t4 : (q == 4) = false := beq_eq_false_iff_ne.2 h4
        by_cases h5 : q = 5
        · rw [if_pos h5] at hstp
          subst h5
          injection hstp with hstp
          obtain ⟨y, hy⟩ : ∃ y, x % 17 = y := ⟨_, rfl⟩
          rw [hy] at hstp
          have e1 : (x : Int) % 17 = (y : Int) := by omega
          have e1' : (x : Int).tmod 17 = (y : Int) := by rw [Int.tmod_eq_emod_of_nonneg (by omega)]; exact e1
          have e2 : IntKind.u64.wrap (y : Int) = (y : Int) := by rw [IntKind.wrap_u64]; omega
          have e3 : IntKind.i64.wrap (y : Int) = (y : Int) := IntWalk.i64_in _ (by omega)
          have ca2 := HKA.out.2
          have s1 := HS1.out
          have r2 := HRA.out.c2
          have z2 := HRA.out.z2
          by_cases hy1 : 1 < y
          · have hyI : (1 : Int) < (y : Int) := by omega
            obtain rfl : y = m := by rw [if_neg (by omega)] at hstp; exact hstp
            have ho9 := Only.of_grown (X := fun k => k = gW) (grown_set' (w3.alloc (.cells #[.int .i64 5, .int .u64 (x : Int), .slice B1 tl c1] 34)) gW 2 (.int .i64 (y : Int))) (fun k e => by cases e; rfl)
            have c5 := ho9.cell HKA.out.1 (show ¬ gW + 2 = gW by omega)
            have c6 := ho9.cell HKA.out.2 (show ¬ gW + 1 = gW by omega)
            have c7 := (HRA.out.set2 y).c2
            have HX5 := Lib.hid (ho9.ext HXA.out (fun k hk => by have : k = gW := hk; omega))
            clear hstp hy ho9
            go_wp2
            go_ret
            exact ⟨rfl, HX5.out⟩
          · have hyI : ¬ (1 : Int) < (y : Int) := by omega
            obtain rfl : m = 1 := by split at hstp <;> omega
            have ho9 := Only.of_grown (X := fun k => k = gW) (grown_set' (w3.alloc (.cells #[.int .i64 5, .int .u64 (x : Int), .slice B1 tl c1] 34)) gW 2 (.int .i64 1)) (fun k e => by cases e; rfl)
            have c5 := ho9.cell HKA.out.1 (show ¬ gW + 2 = gW by omega)
            have c6 := ho9.cell HKA.out.2 (show ¬ gW + 1 = gW by omega)
            have c7 := (HRA.out.set2 1).c2
            have HX5 := Lib.hid (ho9.ext HXA.out (fun k hk => by have : k = gW := hk; omega))
            clear hstp hy ho9
            go_wp2
            go_ret
            exact ⟨rfl, HX5.out⟩
        rw [if_neg h5] at hstp
        cases hstp
    · have d1 : decide (400 < (nbb : Int)) = true := decide_eq_true (by omega)
      clear hfs
      go_wp2_with fail
      refine (HAW.out _).mono ?_
      rintro e w2 ⟨rfl, hx2⟩
      have HX2 := Lib.hid (HX1.out.trans hx2)
      clear hx2
      go_wp2
      go_ret
      exact ⟨rfl, HX2.out⟩
  · clear hno c1
    go_wp2_with fail
    refine (HAW.out _).mono ?_
    rintro e w2 ⟨rfl, hx2⟩
    have HX2 := Lib.hid (HX1.out.trans hx2)
    clear hx2
    go_wp2
    go_ret
    exact ⟨rfl, HX2.out⟩
end Go.Proofs.Ytlkaggjnfidliaa

/-
  What a reader of layer 8 is in memory, and what its small functions do: running, fail, limit. Conditions: none.
-/
namespace Go.Proofs.Ytlkaggjnfidliaa
open Go.RowKit
open Pol (co Sm)

/-- A decoding that goes on: l is left. -/
def Dc (lo hi db rb : Nat) (w : World) (l : List Nat) : Prop :=
  ∃ A c, w.heap[db]? = some (.cells #[.pointer (some ⟨rb, 0, none⟩), .slice A l.length c, .int .i64 0] 59 (0, 0)) ∧ Rd w A l ∧ l.length ≤ c ∧ (∀ b o, A = some ⟨b, o, none⟩ → 0 < l.length → Btw lo hi b ∧ b ≠ db)
/-- One that has ended with error n. -/
def Fl (db rb : Nat) (w : World) (n : Nat) : Prop :=
  w.heap[db]? = some (.cells #[.pointer (some ⟨rb, 0, none⟩), .slice none 0 0, .int .i64 (n : Int)] 59 (0, 0))
/-- The panic that ends it. -/
def En (db : Nat) : List PanicEntry := [{ v := .iface 66 (.agg #[.pointer (some ⟨db, 0, none⟩)]), recovered := false }]
/-- A reader. -/
def Rp (rb db : Nat) (w : World) : Prop := w.heap[rb]? = some (.cells #[.pointer (some ⟨db, 0, none⟩)] 61 (0, 0))
/-- Where the reading's own variables lie: behind the decoding its variable, behind that the reader; first of all the error that is told. -/
def Fr (lo hi rb db : Nat) (w : World) : Prop :=
  rb + 1 = hi ∧ db + 2 = rb ∧ lo < db ∧ w.heap[db + 1]? = some (.cells #[.pointer (some ⟨db, 0, none⟩)] 57 (0, 0)) ∧ w.heap[lo]? = some (.cells #[.int .i64 0] 29 (0, 0))
/-- What a call at a decoding does. -/
def DReads {α : Type} (lo hi db rb : Nat) (V : Value → World → α → Prop) (r : Rs α) (w : World) (e : Ending) (w' : World) : Prop :=
  Only (fun k => k = db) w w' ∧ match r with
    | .ok a rest => ∃ v, e = .returned v ∧ V v w' a ∧ Dc lo hi db rb w' rest
    | .er n => e = .panicked (En db) ∧ Fl db rb w' n
def rdr : Rdr where
  RI := fun lo hi _ ρ w l => ∃ rb db, ρ = ⟨rb, 0, none⟩ ∧ Btw lo hi rb ∧ Btw lo hi db ∧ rb ≠ db ∧ hi ≤ w.heap.size ∧ (Rp rb db w ∧ Fr lo hi rb db w) ∧ Dc lo hi db rb w l ∧ l.length ≤ 65536
  St := fun lo hi _ ρ w n ch => ∃ rb db, ρ = ⟨rb, 0, none⟩ ∧ Btw lo hi rb ∧ Btw lo hi db ∧ rb ≠ db ∧ hi ≤ w.heap.size ∧ Fr lo hi rb db w ∧ Fl db rb w n ∧ ch = En db ∧ 0 < n

theorem Dc.keep {lo hi db rb : Nat} {w w' : World} {l : List Nat} (h : Dc lo hi db rb w l) (hd : w'.heap[db]? = w.heap[db]?) (hk : ∀ k, Btw lo hi k → w'.heap[k]? = w.heap[k]?) : Dc lo hi db rb w' l := by
  obtain ⟨A, c, h1, h2, h3, h4⟩ := h
  refine ⟨A, c, hd.trans h1, ⟨h2.1, fun i hi => ?_⟩, h3, h4⟩
  obtain ⟨b, o, e, hc⟩ := h2.2 i hi
  exact ⟨b, o, e, (World.cell?_of_block (a := ⟨b, o + i, none⟩) (hk b (h4 b o e (by omega)).1)).trans hc⟩
theorem Fr.keep {lo hi rb db : Nat} {w w' : World} (h : Fr lo hi rb db w) (hk : ∀ k, Btw lo hi k → k ≠ db → w'.heap[k]? = w.heap[k]?) : Fr lo hi rb db w' := by
  obtain ⟨h1, h2, h3, h4, h5⟩ := h
  exact ⟨h1, h2, h3, (hk (db + 1) ⟨by omega, by omega⟩ (by omega)).trans h4, (hk lo ⟨by omega, by omega⟩ (by omega)).trans h5⟩
theorem cd_keep (lo hi : Nat) (B : Option Addr) (ρ : Addr) (w w' : World) (l : List Nat) (h : rdr.RI lo hi B ρ w l) (hk : ∀ k, Btw lo hi k → w'.heap[k]? = w.heap[k]?) : rdr.RI lo hi B ρ w' l := by
  obtain ⟨rb, db, h1, h2, h3, h4, h5, h6, h7, h8⟩ := h
  refine ⟨rb, db, h1, h2, h3, h4, ?_, ⟨(hk _ h2).trans h6.1, h6.2.keep fun k h _ => hk k h⟩, h7.keep (hk _ h3) hk, h8⟩
  have hp : ∀ k, Btw lo hi k → k < w'.heap.size := fun k hb => by
    have e := hk k hb
    rcases Nat.lt_or_ge k w'.heap.size with h | h
    · exact h
    · rw [Array.getElem?_eq_none h] at e
      have := Array.getElem?_eq_none_iff.1 e.symm
      have := hb.2
      omega
  have := hp (hi - 1) ⟨by have := h2.1; have := h2.2; omega, by have := h2.2; omega⟩
  omega

theorem run_equalIn_same (d : Nat) (t e : TypeId) (p : Addr) (w : World) (h : Try.prog.underlying t = some (.pointer e)) (hi : (Try.prog.info? e).isSome = true) : (Op.equalIn (d + 1) t (.pointer (some p)) (.pointer (some p))).run Try.prog w = .ok true w := by
  obtain ⟨i, hi⟩ := Option.isSome_iff_exists.1 hi
  simp [Op.equalIn, run_underlying h, sizeOf, typeInfo, hi, sameAddr]
theorem run_neq_same (p : Addr) (w : World) : (binOp .neq 31 (.pointer (some p)) (.pointer (some p))).run Try.prog w = .ok (.bool false) w := by
  have h := run_equalIn_same 9999 31 61 p w Try.underlying31 (by kernel_rfl)
  have h' : (Op.equal 31 (.pointer (some p)) (.pointer (some p))).run Try.prog w = .ok true w := h
  simp only [binOp]
  simp [h']
theorem run_eql_same (p : Addr) (w : World) : (binOp .eql 57 (.pointer (some p)) (.pointer (some p))).run Try.prog w = .ok (.bool true) w := by
  have h := run_equalIn_same 9999 57 59 p w Try.underlying57 (by kernel_rfl)
  have h' : (Op.equal 57 (.pointer (some p)) (.pointer (some p))).run Try.prog w = .ok true w := h
  simp only [binOp]
  simp [h']

set_option maxHeartbeats 800000 in
theorem cd_running (rb db lo hi : Nat) (l : List Nat) (w : World) (h1 : Rp rb db w) (h2 : Dc lo hi db rb w l) :
    Calls Try.prog 38 #[.pointer (some ⟨rb, 0, none⟩)] w (fun e w' => e = .returned (.pointer (some ⟨db, 0, none⟩)) ∧ w = w') := by
  obtain ⟨A, c, h3, _⟩ := h2
  have a1 : w.cell? ⟨rb, 0, none⟩ = some (.pointer (some ⟨db, 0, none⟩)) := by rw [cell_of_row w _ 0 _ _ _ h1]; rfl
  have a2 : w.cell? ⟨db, 0, none⟩ = some (.pointer (some ⟨rb, 0, none⟩)) := by rw [cell_of_row w _ 0 _ _ _ h3]; rfl
  clear h1 h3
  have hne := fun W => run_neq_same ⟨rb, 0, none⟩ W
  go_enter Try.func38, Try.ntmps38
  go_wp2
  go_ret
  exact ⟨rfl, rfl⟩

set_option maxHeartbeats 800000 in
theorem cd_limit (m : Nat) (w : World) (hm : m < 9223372036854775808) :
    Calls Try.prog 40 #[.int .i64 (m : Int)] w (fun e w' => e = .returned (.int .u64 (m : Int)) ∧ w = w') := by
  have e1 : IntKind.u64.wrap (m : Int) = (m : Int) := by rw [IntKind.wrap_u64]; omega
  have d1 : (if (m : Int) < 0 then (0 : Int) else (m : Int)) = (m : Int) := if_neg (by omega)
  go_enter Try.func40, Try.ntmps40
  go_wp2
  all_goals go_ret
  all_goals first | exact ⟨rfl, rfl⟩ | skip

set_option maxHeartbeats 1600000 in
theorem cd_fail (rb db lo hi n : Nat) (l : List Nat) (w : World) (h2 : Dc lo hi db rb w l) :
    Calls Try.prog 42 #[.pointer (some ⟨db, 0, none⟩), .int .i64 (n : Int)] w (fun e w' => e = .returned (.agg #[.pointer (some ⟨db, 0, none⟩)]) ∧ Only (fun k => k = db) w w' ∧ Fl db rb w' n) := by
  obtain ⟨A, c, h3, _⟩ := h2
  have hlt : db < w.heap.size := (Array.getElem?_eq_some_iff.1 h3).1
  obtain ⟨S, hS⟩ : ∃ S, Value.slice A l.length c = S := ⟨_, rfl⟩
  rw [hS] at h3
  clear hS
  have c1 : w.cell? ⟨db, 1, none⟩ = some S := by rw [cell_of_row w _ 1 _ _ _ h3]; rfl
  have c2 : w.cell? ⟨db, 2, none⟩ = some (.int .i64 0) := by rw [cell_of_row w _ 2 _ _ _ h3]; rfl
  have z1 : w.frozen? ⟨db, 1, none⟩ = false := frozen_of_row w _ 1 _ _ h3
  have z2 : w.frozen? ⟨db, 2, none⟩ = false := frozen_of_row w _ 2 _ _ h3
  go_enter Try.func42, Try.ntmps42
  go_wp2
  have h5 := heap_setCell_same _ db 1 _ _ (.slice none 0 0) (heap_setCell_same w db 2 _ _ (.int .i64 (n : Int)) h3)
  have hsz : ((w.setCell ⟨db, 2, none⟩ (.int .i64 (n : Int))).setCell ⟨db, 1, none⟩ (.slice none 0 0)).heap.size = w.heap.size := by simp [World.setCell]
  have h6 := heap_alloc_new ((w.setCell ⟨db, 2, none⟩ (.int .i64 (n : Int))).setCell ⟨db, 1, none⟩ (.slice none 0 0)) (.cells #[.pointer (some ⟨db, 0, none⟩)] 66)
  rw [hsz] at h6
  refine bodyPost_ret (results_cell_row Try.results42 _ _ w.heap.size _ _ _ _ rfl h6 Try.underlying66 rfl (by kernel_rfl)) rfl ⟨rfl, ?_, ?_⟩
  · exact ((Only.of_grown (grown_set' w db 2 _) (fun k e => by injection e with e; exact e.symm)).trans (Only.of_grown (grown_set' _ db 1 _) (fun k e => by injection e with e; exact e.symm))).trans (Only.of_ext ((Ext.refl _).alloc _))
  · exact (heap_alloc_old _ _ (by rw [hsz]; exact hlt)).trans h5
end Go.Proofs.Ytlkaggjnfidliaa

/-
  What take of layer 8 does. Conditions: no more than 2^16 bytes are left.
-/
namespace Go.Proofs.Ytlkaggjnfidliaa
open Go.RowKit
open Pol (co Sm)

/-- Bytes of the decoding's own. -/
def InB (v : Value) (w : World) (t : List Nat) : Prop := ∃ A c, v = .slice A t.length c ∧ Rd w A t ∧ t.length ≤ c
theorem tab_drop (l : List Nat) (k : Nat) (h : k ≤ l.length) : tab (l.length - k) (fun j => co l (k + j)) = l.drop k := by
  apply List.ext_getElem?
  intro i
  unfold tab
  rw [List.getElem?_map, List.getElem?_drop]
  by_cases hi : i < l.length - k
  · rw [List.getElem?_range hi]
    have : k + i < l.length := by omega
    simp [co, List.getElem?_eq_getElem this]
  · rw [List.getElem?_eq_none (by simp; omega), List.getElem?_eq_none (by omega)]
    rfl

/-- s[:h], s[l:] of bytes, the bound of any kind. -/
theorem run_to_k (k : IntKind) (A : Option Addr) (len cap h : Nat) (hh : h ≤ cap) (W : World) :
    (Instr.slice 22 (.slice A len cap) none (some (.int k (h : Int))) none).run Try.prog W = .ok (.slice A h cap) W := by
  obtain ⟨i0, hi, hz0, hz1, hz2⟩ := info_parts u8_info
  have he : Try.prog.elem 22 = 5 := by kernel_rfl
  rw [run_slice_h W 22 _ len cap (by rw [he]; exact Try.underlying22) k (h : Int) (by omega) (by omega), he]
  cases A <;> simp [sizeOf, typeInfo, hi, hz1, Result.andThen, sliced, Addr.add]
theorem run_rest_k (k : IntKind) (A : Option Addr) (len cap l : Nat) (hl : l ≤ len) (hc : len ≤ cap) : ∃ X : Option Addr, (∀ W, (Instr.slice 22 (.slice A len cap) (some (.int k (l : Int))) none none).run Try.prog W = .ok (.slice X (len - l) (cap - l)) W) ∧
    (∀ w L, Rd w A L → L.length = len → Rd w X (L.drop l)) ∧ (∀ w L b o, Rd w A L → L.length = len → 0 < len - l → X = some ⟨b, o, none⟩ → ∃ o', A = some ⟨b, o', none⟩) := by
  obtain ⟨i0, hi, hz0, hz1, hz2⟩ := info_parts u8_info
  have he : Try.prog.elem 22 = 5 := by kernel_rfl
  refine ⟨if cap = l then A else A.map (·.add l), fun W => ?_, fun w L h hL => ?_, fun w L b o h hL h0 e => ?_⟩
  · rw [run_slice_l W 22 _ len cap (by rw [he]; exact Try.underlying22) k (l : Int) (by omega) (by omega), he]
    cases A <;> simp [sizeOf, typeInfo, hi, hz1, Result.andThen, sliced]
  · subst hL
    rw [← tab_drop L l hl]
    refine ⟨tab_sm _ _ fun _ _ => h.1 _, fun i hi => ?_⟩
    rw [tab_len] at hi
    obtain ⟨b', o', e, hc⟩ := h.2 (l + i) (by omega)
    subst e
    refine ⟨b', o' + l, by rw [if_neg (by omega)]; simp [addr_add], ?_⟩
    rw [co_tab, if_pos hi, Nat.add_assoc]
    exact hc
  · obtain ⟨b', o', e', _⟩ := h.2 0 (by omega)
    subst e'
    rw [if_neg (by omega)] at e
    simp [addr_add] at e
    exact ⟨o', by rw [e.1]⟩
theorem Only.put (w : World) (db o : Nat) (v : Value) : Only (fun k => k = db) w (w.setCell ⟨db, o, none⟩ v) := Only.of_grown (grown_set' w db o _) (fun k e => by injection e with e; exact e.symm)
/-- What is left now lies at X. -/
theorem Dc.cut {lo hi db rb : Nat} {w : World} {l : List Nat} {A X : Option Addr} {c c' n : Nat} (h3 : w.heap[db]? = some (.cells #[.pointer (some ⟨rb, 0, none⟩), .slice A l.length c, .int .i64 0] 59 (0, 0))) (hr : Rd w A l)
    (hb : ∀ b o, A = some ⟨b, o, none⟩ → 0 < l.length → Btw lo hi b ∧ b ≠ db) (hX : ∀ w L, Rd w A L → L.length = l.length → Rd w X (L.drop n))
    (hXA : ∀ w L b o, Rd w A L → L.length = l.length → 0 < l.length - n → X = some ⟨b, o, none⟩ → ∃ o', A = some ⟨b, o', none⟩) (hc : l.length - n ≤ c') :
    Dc lo hi db rb (w.setCell ⟨db, 1, none⟩ (.slice X (l.length - n) c')) (l.drop n) := by
  refine ⟨X, c', ?_, ?_, by rw [List.length_drop]; exact hc, fun b o e h => ?_⟩
  · rw [heap_setCell_same w db 1 _ _ _ h3, List.length_drop]; rfl
  · have h := hX w l hr rfl
    refine ⟨h.1, fun i hi => ?_⟩
    obtain ⟨b, o, e, hc⟩ := h.2 i hi
    rw [List.length_drop] at hi
    obtain ⟨o', e'⟩ := hXA w l b o hr rfl (by omega) e
    have := (hb b o' e' (by omega)).2
    exact ⟨b, o, e, (World.cell?_of_block (a := ⟨b, o + i, none⟩) (heap_setCell_other w ⟨db, 1, none⟩ b _ this)).trans hc⟩
  · rw [List.length_drop] at h
    obtain ⟨o', e'⟩ := hXA w l b o hr rfl h e
    exact hb b o' e' (by omega)

set_option maxHeartbeats 1600000 in
theorem cd_take (rb db lo hi n : Nat) (l : List Nat) (w : World) (hd : Dc lo hi db rb w l) (hl : l.length ≤ 65536) :
    Calls Try.prog 41 #[.pointer (some ⟨db, 0, none⟩), .int .u64 (n : Int)] w (DReads lo hi db rb InB (rdB n l) w) := by
  have HF := Lib.hid (cd_fail rb db lo hi 2 l w hd)
  obtain ⟨A, c, h3, hr, hlc, hAb⟩ := hd
  have hlt : db < w.heap.size := (Array.getElem?_eq_some_iff.1 h3).1
  obtain ⟨L, hL⟩ : ∃ L, l.length = L := ⟨_, rfl⟩
  rw [hL] at h3 hlc hl hAb
  have HL := Lib.hid hL
  have HAB := Lib.hid hAb
  clear hAb
  have c1 : w.cell? ⟨db, 1, none⟩ = some (.slice A L c) := by rw [cell_of_row w _ 1 _ _ _ h3]; rfl
  have z1 : w.frozen? ⟨db, 1, none⟩ = false := frozen_of_row w _ 1 _ _ h3
  have H3 := Lib.hid h3
  have HR := Lib.hid hr
  have e1 : IntKind.u64.wrap (L : Int) = (L : Int) := by rw [IntKind.wrap_u64]; omega
  clear hL h3 hr
  by_cases hc : L < n
  · have d1 : decide ((L : Int) < (n : Int)) = true := decide_eq_true (by omega)
    have hrd : rdB n l = .er 2 := by unfold rdB; rw [if_pos (by rw [HL.out]; exact hc)]
    rw [hrd]
    go_enter Try.func41, Try.ntmps41
    go_wp2_with fail
    refine HF.out.mono ?_
    rintro e w1 ⟨rfl, ho, hfl⟩
    have HO := Lib.hid ho
    have HFL := Lib.hid hfl
    clear ho hfl
    go_wp2
    exact ⟨rfl, HO.out, rfl, HFL.out⟩
  · have d1 : decide ((L : Int) < (n : Int)) = false := decide_eq_false (by omega)
    have hrd : rdB n l = .ok (l.take n) (l.drop n) := by unfold rdB; rw [if_neg (by rw [HL.out]; exact hc)]
    rw [hrd]
    have s1 := fun W => run_to_k .u64 A L c n (by omega) W
    obtain ⟨X, s2, hX, hXa⟩ := run_rest_k .u64 A L c n (by omega) hlc
    have hdc : Dc lo hi db rb (w.setCell ⟨db, 1, none⟩ (.slice X (L - n) (c - n))) (l.drop n) := by
      have hlL := HL.out
      subst hlL
      exact Dc.cut H3.out HR.out HAB.out hX hXa (by omega)
    have hrt : Rd (w.setCell ⟨db, 1, none⟩ (.slice X (L - n) (c - n))) A (l.take n) := by
      have h := HR.out.take n
      refine ⟨h.1, fun i hi => ?_⟩
      obtain ⟨b, o, e, hc⟩ := h.2 i hi
      rw [List.length_take] at hi
      have := (HAB.out b o e (by have := HL.out; omega)).2
      exact ⟨b, o, e, (World.cell?_of_block (a := ⟨b, o + i, none⟩) (heap_setCell_other w ⟨db, 1, none⟩ b _ this)).trans hc⟩
    have HDC := Lib.hid hdc
    have HRT := Lib.hid hrt
    have HN := Lib.hid (show (l.take n).length = n by rw [List.length_take, HL.out]; omega)
    clear hX hXa HF hdc hrt
    go_enter Try.func41, Try.ntmps41
    go_wp2
    go_ret
    exact ⟨Only.put _ _ _ _, _, rfl, ⟨A, c, by rw [HN.out]; rfl, HRT.out, by rw [HN.out]; omega⟩, HDC.out⟩
end Go.Proofs.Ytlkaggjnfidliaa

/-
  What the deferred function of layer 8's Read does: where the decoding has ended by an error it recovers and tells it; else it lets everything be. Conditions: none.
-/
namespace Go.Proofs.Ytlkaggjnfidliaa
open Go.RowKit
open Pol (co Sm)

set_option maxHeartbeats 800000 in
theorem cd_ends (db : Nat) (w : World) :
    Calls Try.prog 37 #[.pointer (some ⟨db, 0, none⟩), .iface 66 (.agg #[.pointer (some ⟨db, 0, none⟩)])] w (Tells (.bool true) w) := by
  have hta : ∀ (v : Value) (W : World), (Instr.typeAssert (.iface 66 v) 20 66 true).run Try.prog W = .ok (.tuple #[v, .bool true]) W := fun v W => by kernel_rfl
  have heq := fun W => run_eql_same ⟨db, 0, none⟩ W
  have HX := Lib.hid ((Ext.refl w).alloc (.cells #[.pointer (some ⟨db, 0, none⟩)] 66))
  go_enter Try.func37, Try.ntmps37
  go_wp2
  go_ret
  exact ⟨rfl, HX.out⟩


set_option maxHeartbeats 1600000 in
theorem cd_end_quiet (db rb g dv : Nat) (S : Value) (u : FrameMode) (w : World) (hd : w.heap[db]? = some (.cells #[.pointer (some ⟨rb, 0, none⟩), S, .int .i64 0] 59 (0, 0)))
    (hv : w.cell? ⟨dv, 0, none⟩ = some (.pointer (some ⟨db, 0, none⟩))) :
    CallsD Try.prog 36 #[.pointer (some ⟨dv, 0, none⟩), .pointer (some ⟨g, 0, none⟩)] u w fun e u' w' => u' = u ∧ (e = .returned (.tuple #[]) ∧ Only (fun k => k = db) w w') := by
  have c0 : w.cell? ⟨db, 0, none⟩ = some (.pointer (some ⟨rb, 0, none⟩)) := by rw [cell_of_row w _ 0 _ _ _ hd]; rfl
  have c1 : w.cell? ⟨db, 1, none⟩ = some S := by rw [cell_of_row w _ 1 _ _ _ hd]; rfl
  have c2 : w.cell? ⟨db, 2, none⟩ = some (.int .i64 0) := by rw [cell_of_row w _ 2 _ _ _ hd]; rfl
  have z0 : w.frozen? ⟨db, 0, none⟩ = false := frozen_of_row w _ 0 _ _ hd
  have z1 : w.frozen? ⟨db, 1, none⟩ = false := frozen_of_row w _ 1 _ _ hd
  have z2 : w.frozen? ⟨db, 2, none⟩ = false := frozen_of_row w _ 2 _ _ hd
  have HO := Lib.hid (((Only.put w db 0 (.pointer none)).trans (Only.put _ db 1 (.slice none 0 0))).trans (Only.put _ db 2 (.int .i64 0)))
  clear hd
  refine callsD_of_wp Try.func36 rfl ?_
  simp only [Try.ntmps36, List.size_toArray, List.length_cons, List.length_nil, Nat.reduceAdd, Nat.reduceSub, Array.replicate_succ, Array.replicate_zero, List.push_toArray, List.append_toArray, List.nil_append, List.cons_append]
  go_wp2
  exact ⟨rfl, .tuple #[], by simp [results, Try.results36], rfl, HO.out⟩

set_option maxHeartbeats 3200000 in
theorem cd_end_tells (db rb g dv n : Nat) (S : Value) (w : World) (hd : w.heap[db]? = some (.cells #[.pointer (some ⟨rb, 0, none⟩), S, .int .i64 (n : Int)] 59 (0, 0)))
    (hv : w.cell? ⟨dv, 0, none⟩ = some (.pointer (some ⟨db, 0, none⟩))) (hg : w.heap[g]? = some (.cells #[.int .i64 0] 29 (0, 0))) (hgd : g ≠ db) (hvd : dv ≠ db) (hn : 0 < n) :
    CallsD Try.prog 36 #[.pointer (some ⟨dv, 0, none⟩), .pointer (some ⟨g, 0, none⟩)] (.panicking (En db)) w fun e u' w' =>
      e = .returned (.tuple #[]) ∧ u' = .panicking [{ v := .iface 66 (.agg #[.pointer (some ⟨db, 0, none⟩)]), recovered := true }] ∧ Only (fun k => k = db ∨ k = g) w w' ∧ w'.cell? ⟨g, 0, none⟩ = some (.int .i64 (n : Int)) := by
  have c0 : w.cell? ⟨db, 0, none⟩ = some (.pointer (some ⟨rb, 0, none⟩)) := by rw [cell_of_row w _ 0 _ _ _ hd]; rfl
  have c1 : w.cell? ⟨db, 1, none⟩ = some S := by rw [cell_of_row w _ 1 _ _ _ hd]; rfl
  have c2 : w.cell? ⟨db, 2, none⟩ = some (.int .i64 (n : Int)) := by rw [cell_of_row w _ 2 _ _ _ hd]; rfl
  have z0 : w.frozen? ⟨db, 0, none⟩ = false := frozen_of_row w _ 0 _ _ hd
  have z1 : w.frozen? ⟨db, 1, none⟩ = false := frozen_of_row w _ 1 _ _ hd
  have z2 : w.frozen? ⟨db, 2, none⟩ = false := frozen_of_row w _ 2 _ _ hd
  obtain ⟨W, hW⟩ : ∃ W, ((w.setCell ⟨db, 0, none⟩ (.pointer none)).setCell ⟨db, 1, none⟩ (.slice none 0 0)).setCell ⟨db, 2, none⟩ (.int .i64 0) = W := ⟨_, rfl⟩
  have ho : Only (fun k => k = db) w W := by rw [← hW]; exact ((Only.put w db 0 _).trans (Only.put _ db 1 _)).trans (Only.put _ db 2 _)
  have d1 : decide (n = 0) = false := decide_eq_false (by omega)
  have d2 : ((n : Int) == 0) = false := by simp; omega
  refine callsD_of_wpS Try.func36 rfl fun c₀ cs hu => ?_
  simp only [Try.ntmps36, List.size_toArray, List.length_cons, List.length_nil, Nat.reduceAdd, Nat.reduceSub, Array.replicate_succ, Array.replicate_zero, List.push_toArray, List.append_toArray, List.nil_append, List.cons_append]
  refine wpS_seq (wpS_of_wp ?_)
  go_wp2
  simp only [Exit.thenS]
  refine wpS_seq (wpS_of_wp ?_)
  go_wp2
  simp only [Exit.thenS]
  have hvW := ho.cell hv hvd
  have hgW : W.heap[g]? = some (.cells #[.int .i64 0] 29 (0, 0)) := (ho.block g (Array.getElem?_eq_some_iff.1 hg).1 hgd).trans hg
  have HGW := Lib.hid hgW
  have HO := Lib.hid ho
  clear c0 c1 c2 z0 z1 z2 hd hg hgW ho hW
  refine wpS_seq (wpS_of_wp ?_)
  go_wp2
  simp only [Exit.thenS]
  refine wpS_seq (wpS_seq ?_)
  apply wpS_region
  simp [wpOpsS, go_sem, recoverD, hu, Exit.thenS, En]
  refine wpS_of_wp ?_
  have HE := Lib.hid (cd_ends db W)
  go_wp2_with fail
  refine HE.out.mono ?_
  rintro e w1 ⟨rfl, hx⟩
  have hg1 : w1.heap[g]? = some (.cells #[.int .i64 0] 29 (0, 0)) := (hx.below.block g (Array.getElem?_eq_some_iff.1 HGW.out).1).trans HGW.out
  have c1 : w1.cell? ⟨g, 0, none⟩ = some (.int .i64 0) := by rw [cell_of_row w1 _ 0 _ _ _ hg1]; rfl
  have z1 : w1.frozen? ⟨g, 0, none⟩ = false := frozen_of_row w1 _ 0 _ _ hg1
  have HO1 := Lib.hid (((HO.out.trans (Only.of_ext hx)).mono (Y := fun k => k = db ∨ k = g) (fun _ _ h => .inl h)).trans ((Only.put w1 g 0 (.int .i64 (n : Int))).mono fun _ _ h => .inr h))
  have HC1 := Lib.hid (World.cell?_setCell_same' w1 ⟨g, 0, none⟩ (.int .i64 (n : Int)) (by rw [c1]; rfl))
  clear hx hg1 hv hvW
  go_wp2
  simp only [Exit.thenS]
  refine wpS_of_wp ?_
  go_wp2
  exact ⟨rfl, _, rfl, .tuple #[], by simp [results, Try.results36], rfl, rfl, HO1.out, HC1.out⟩
end Go.Proofs.Ytlkaggjnfidliaa

/-
  What Number of layer 8 lays behind bytes. Conditions: no more than 2^20 bytes.
-/
namespace Go.Proofs.Ytlkaggjnfidliaa
open Go.RowKit
open Pol (co Sm)

/-- From v in world w on, vx has come in world wx. -/
def LayS (w wx : World) (v vx : Value) : Prop := w.grownBy wx v.ownBlock ∧ (vx.ownBlock = v.ownBlock ∨ ∃ k, vx.ownBlock = some k ∧ w.heap.size ≤ k)
theorem LayS.refl (w : World) (v : Value) : LayS w w v v := ⟨⟨rfl, rfl, rfl, Nat.le_refl _, fun _ _ _ => rfl⟩, .inl rfl⟩
theorem LayS.step {w wx w' : World} {v vx v' : Value} (h : LayS w wx v vx) (hg : wx.grownBy w' vx.ownBlock) (ha : v'.ownBlock = vx.ownBlock ∨ v'.ownBlock = some wx.heap.size) : LayS w w' v v' := by
  refine ⟨⟨hg.os.trans h.1.os, hg.tape.trans h.1.tape, hg.output.trans h.1.output, Nat.le_trans h.1.size hg.size, fun k hk hne => (hg.block k (Nat.lt_of_lt_of_le hk h.1.size) ?_).trans (h.1.block k hk hne)⟩, ?_⟩
  · intro e
    rcases h.2 with e' | ⟨b, e', hb⟩
    · exact hne (e.trans e')
    · rw [e'] at e
      injection e with e
      omega
  · rcases ha with e | e
    · rcases h.2 with e' | ⟨b, e', hb⟩
      · exact .inl (e.trans e')
      · exact .inr ⟨b, e.trans e', hb⟩
    · exact .inr ⟨_, e, h.1.size⟩
theorem LayS.alloc {w wx : World} {v vx : Value} (h : LayS w wx v vx) (o : Obj) : LayS w (wx.alloc o) v vx :=
  ⟨⟨h.1.os, h.1.tape, h.1.output, by simp; have := h.1.size; omega, fun k hk hne => (heap_alloc_old _ _ (Nat.lt_of_lt_of_le hk h.1.size)).trans (h.1.block k hk hne)⟩, h.2⟩
theorem LayS.lays {w w' : World} {base : Nat} {v v' : Value} {l : List Nat} (h : LayS w w' v v') (hm : Mine w' base v' l) : Lays base v l w (.returned v') w' := ⟨v', rfl, hm, h.1, h.2⟩

set_option maxRecDepth 100000 in
theorem or8_128 : ∀ b : Nat, b < 256 → bits .or .u8 (b : Int) 128 = ((b % 128 + 128 : Nat) : Int) := by decide

set_option maxHeartbeats 1600000 in
set_option maxRecDepth 100000 in
theorem cd_layN (base : Nat) (v : Value) (l : List Nat) (n : Nat) (w : World) (hm : Mine w base v l) (hs : Sm l) (hl : l.length ≤ 1048576) (hn : n < 18446744073709551616) (hb : base ≤ w.heap.size) :
    Calls Try.prog 29 #[v, .int .u64 (n : Int)] w (Lays base v (l ++ vn n) w) := by
  have HSM := Lib.hid (sm_app hs (vn_sm n))
  have HTEN := Lib.hid (vn_ten hn)
  have hn10 : n < 128 ^ (9 + 1) := by omega
  obtain ⟨V, hV⟩ : ∃ V, l ++ vn n = V := ⟨_, rfl⟩
  have HVL := Lib.hid (show V.length ≤ 1048586 by rw [← hV, List.length_append]; have := HTEN.out; omega)
  rw [hV] at HSM
  rw [hV]
  have HV := Lib.hid hV
  clear hV
  obtain ⟨B0, c0, rfl, hc0, _⟩ := hm.slice hs
  have HM0 := Lib.hid hm
  have HB := Lib.hid hb
  obtain ⟨l0, hl0⟩ : ∃ l0, l.length = l0 := ⟨_, rfl⟩
  have HL0 := Lib.hid hl0
  obtain ⟨v0, hv0⟩ : ∃ v0, Value.slice B0 l.length c0 = v0 := ⟨_, rfl⟩
  rw [hv0] at HM0 ⊢
  rw [hl0] at hv0 hc0 hl
  have HV0 := Lib.hid hv0
  rw [← hv0]
  clear hm hb hl0 hv0
  go_enter Try.func29, Try.ntmps29
  go_wp2
  go_loopg [0, 1] 9 (fun g s0 s1 wx => ∃ (m : Nat) (acc : List Nat) (B : Option Addr) (c : Nat), m < 128 ^ (g + 1) ∧ s1 = .int .u64 (m : Int) ∧ m < 18446744073709551616 ∧ acc ++ vn m = V ∧ s0 = .slice B acc.length c ∧ Mine wx base (.slice B acc.length c) acc ∧ LayS w wx v0 (.slice B acc.length c))
  case atStart => exact ⟨n, l, B0, c0, hn10, rfl, hn, HV.out, by rw [HL0.out], by rw [HL0.out, HV0.out]; exact HM0.out, by rw [HL0.out, HV0.out]; exact LayS.refl _ _⟩
  case round =>
    obtain ⟨m, acc, B, c, hmg, rfl, hm64, hac, rfl, hmi, hx⟩ := hrel
    have HM := Lib.hid hmi
    have HX := Lib.hid hx
    have hlen : acc.length ≤ 1048586 := by have := HVL.out; rw [← hac, List.length_append] at this; omega
    have hsz : w.heap.size ≤ wr.heap.size := hx.1.size
    have HSZ := Lib.hid (Nat.le_trans HB.out hsz)
    obtain ⟨la, hla⟩ : ∃ la, acc.length = la := ⟨_, rfl⟩
    have HLA := Lib.hid hla
    rw [hla] at HM HX hlen ⊢
    clear hmi hx hla hsz
    by_cases h128 : m < 128
    · have d1 : decide (128 ≤ (m : Int)) = false := decide_eq_false (by omega)
      have e1 : IntKind.u8.wrap (m : Int) = (m : Int) := IntWalk.u8_in _ (by omega)
      have HAV := Lib.hid (show acc ++ [m] = V from by rw [← hac, vn_lt h128])
      have hm256 : m < 256 := by omega
      clear hac hmg
      go_wp2_with (at_builtin; refine wpList_append_rd rfl (.tmp 15) (.tmp 18) rfl base _ acc [m] rfl (mine_ext HM.out ((Ext.refl _).alloc _)) (some ⟨wr.heap.size, 0, none⟩) 1 1 rfl rfl (rd_one wr m hm256) (by rw [HLA.out]; simp; omega) (by simp; have := HSZ.out; omega) ?_; intro v' w3 hown' hg' hat'; rw [HAV.out] at hown'; have hx3 := (HX.out.alloc (.cells #[.int .u8 (m : Int)] 5)).step hg' hat'; have HO := Lib.hid (hx3.lays hown'); clear hown' hg' hat' hx3)
      go_ret
      rw [HV0.out]
      exact HO.out
    · cases gk with
      | zero => omega
      | succ g =>
        have d1 : decide (128 ≤ (m : Int)) = true := decide_eq_true (by omega)
        obtain ⟨q, hq⟩ : ∃ q, m % 256 = q := ⟨_, rfl⟩
        obtain ⟨y, hy⟩ : ∃ y, q % 128 + 128 = y := ⟨_, rfl⟩
        obtain ⟨m2, hm2⟩ : ∃ m2, m / 128 = m2 := ⟨_, rfl⟩
        have e1 : IntKind.u8.wrap (m : Int) = (q : Int) := by rw [IntKind.wrap_u8]; omega
        have e2 : bits .or .u8 (q : Int) 128 = (y : Int) := by rw [or8_128 q (by omega), hy]
        have e5 : (m : Int) / 128 = (m2 : Int) := by omega
        have hy256 : y < 256 := by omega
        have HAV := Lib.hid (show (acc ++ [y]) ++ vn m2 = V from by
          rw [← hac, vn_ge h128, List.append_assoc, hm2, show m % 128 + 128 = y from by omega]; rfl)
        have HS9 := Lib.hid (show Sm (acc ++ [y]) from (sm_split (b := vn m2) (by rw [HAV.out]; exact HSM.out)).1)
        have HL9 := Lib.hid (show (acc ++ [y]).length = la + 1 by rw [List.length_append, HLA.out]; rfl)
        have hm2b : m2 < 128 ^ (g + 1) := by rw [← hm2]; rw [Nat.pow_succ] at hmg; omega
        have hm2c : m2 < 18446744073709551616 := by omega
        clear hac hq hy hm2 hmg
        go_wp2_with (at_builtin; refine wpList_append_rd rfl (.tmp 7) (.tmp 11) rfl base _ acc [y] rfl (mine_ext HM.out ((Ext.refl _).alloc _)) (some ⟨wr.heap.size, 0, none⟩) 1 1 rfl rfl (rd_one wr y hy256) (by rw [HLA.out]; simp; omega) (by simp; have := HSZ.out; omega) ?_; intro v' w3 hown' hg' hat'; have hx3 := (HX.out.alloc (.cells #[.int .u8 (y : Int)] 5)).step hg' hat'; obtain ⟨Bv, cv, ev', hcv, _⟩ := hown'.slice HS9.out; rw [HL9.out] at ev'; subst ev'; have HO := Lib.hid hown'; have HX3 := Lib.hid hx3; clear hown' hg' hat' hx3)
        go_roundg g
        case measure => omega
        case rel => exact ⟨m2, acc ++ [y], Bv, cv, hm2b, rfl, hm2c, HAV.out, by rw [HL9.out], by rw [HL9.out]; exact HO.out, by rw [HL9.out]; exact HX3.out⟩
end Go.Proofs.Ytlkaggjnfidliaa

/-
  What number of layer 8's decoding does. Conditions: no more than 2^16 bytes are left.
-/
namespace Go.Proofs.Ytlkaggjnfidliaa
open Go.RowKit
open Pol (co Sm)

set_option maxRecDepth 100000 in
theorem andNot_128 : ∀ b : Nat, b < 256 → bits .andNot .u8 (b : Int) 128 = ((b % 128 : Nat) : Int) := by decide
theorem or_128 (a c k : Nat) (h : a < 128 ^ k) : a ||| c * 2 ^ (7 * k) = a + c * 128 ^ k := by
  rw [show (128 : Nat) ^ k = 2 ^ (7 * k) from by rw [Nat.pow_mul]] at *
  rw [Nat.or_comm, Nat.mul_comm, ← Nat.two_pow_add_eq_or_of_lt h, Nat.add_comm, Nat.mul_comm]
/-- One byte more. -/
theorem num_step {i acc b : Nat} (ha : acc < 128 ^ i) (hi : i ≤ 9) (hb : i = 9 → b ≤ 1) : acc + b % 128 * 128 ^ i < 128 ^ (i + 1) ∧ acc + b % 128 * 128 ^ i < 18446744073709551616 ∧ b % 128 * 128 ^ i < 18446744073709551616 := by
  have h1 : b % 128 ≤ 127 := by omega
  have h2 : b % 128 * 128 ^ i ≤ 127 * 128 ^ i := Nat.mul_le_mul_right _ h1
  have h3 : 128 ^ (i + 1) = 128 * 128 ^ i := by rw [Nat.pow_succ, Nat.mul_comm]
  refine ⟨by omega, ?_, ?_⟩
  all_goals
    rcases Nat.lt_or_ge i 9 with h9 | h9
    · have h4 : 128 ^ (i + 1) ≤ 128 ^ 9 := Nat.pow_le_pow_right (by omega) h9
      have h5 : (128 : Nat) ^ 9 = 9223372036854775808 := by decide
      omega
    · obtain rfl : i = 9 := by omega
      have h5 : (128 : Nat) ^ 9 = 9223372036854775808 := by decide
      rw [h5] at *
      have := hb rfl
      omega
theorem rv_drop (m i acc : Nat) (l : List Nat) (h : i < l.length) : rv m i acc (l.drop i) =
    if i = 9 ∧ 1 < co l i ∨ 0 < i ∧ co l i = 0 then .er 14 else if co l i < 128 then (if m < acc + co l i % 128 * 128 ^ i then .er 10 else .ok (acc + co l i % 128 * 128 ^ i) (l.drop (i + 1))) else rv m (i + 1) (acc + co l i % 128 * 128 ^ i) (l.drop (i + 1)) := by
  rw [List.drop_eq_getElem_cons h, rv, show co l i = l[i] from by simp [co, List.getElem?_eq_getElem h]]

set_option maxHeartbeats 3200000 in
set_option maxRecDepth 100000 in
theorem cd_number (rb db lo hi m : Nat) (l : List Nat) (w : World) (hd : Dc lo hi db rb w l) (hl : l.length ≤ 65536) :
    Calls Try.prog 39 #[.pointer (some ⟨db, 0, none⟩), .int .u64 (m : Int)] w (DReads lo hi db rb (fun v _ (n : Nat) => v = .int .u64 (n : Int)) (rdN m l) w) := by
  have HF := Lib.hid (fun n => cd_fail rb db lo hi n l w hd)
  obtain ⟨A, c, h3, hr, hlc, hAb⟩ := hd
  obtain ⟨L, hL⟩ : ∃ L, l.length = L := ⟨_, rfl⟩
  have HDC := Lib.hid (fun (X : Option Addr) (c' n : Nat) (hX : ∀ w M, Rd w A M → M.length = L → Rd w X (M.drop n)) (hXA : ∀ w M b o, Rd w A M → M.length = L → 0 < L - n → X = some ⟨b, o, none⟩ → ∃ o', A = some ⟨b, o', none⟩) (hc : L - n ≤ c') =>
    show Dc lo hi db rb (w.setCell ⟨db, 1, none⟩ (.slice X (L - n) c')) (l.drop n) from by subst hL; exact Dc.cut h3 hr hAb hX hXA hc)
  rw [hL] at h3 hlc hl
  have HL := Lib.hid hL
  have c1 : w.cell? ⟨db, 1, none⟩ = some (.slice A L c) := by rw [cell_of_row w _ 1 _ _ _ h3]; rfl
  have z1 : w.frozen? ⟨db, 1, none⟩ = false := frozen_of_row w _ 1 _ _ h3
  have HR := Lib.hid hr
  obtain ⟨T, hT⟩ : ∃ T, rdN m l = T := ⟨_, rfl⟩
  have HT0 := Lib.hid (show rv m 0 0 (l.drop 0) = T from hT)
  rw [hT]
  clear hL h3 hr hAb hT
  go_enter Try.func39, Try.ntmps39
  go_wp2
  go_loopg [5, 13] L (fun g v s wx => ∃ i acc : Nat, i + g = L ∧ i ≤ 9 + 0 * g ∧ s = .int .i64 (i : Int) ∧ v = .int .u64 (acc : Int) ∧ acc < 128 ^ i ∧ rv m i acc (l.drop i) = T ∧ w = wx)
  case atStart => exact ⟨0, 0, by omega, by omega, rfl, rfl, by decide, HT0.out, rfl⟩
  case round =>
    obtain ⟨i, acc, hig, hi9, rfl, rfl, hac, hrv, rfl⟩ := hrel
    cases gk with
    | zero =>
      obtain rfl : i = L := by omega
      have hrt : Rs.er 2 = T := by
        rw [← hrv, List.drop_eq_nil_of_le (by rw [HL.out]; omega), rv]
      subst hrt
      clear hrv hig
      go_wp2_with fail
      refine (HF.out 2).mono ?_
      rintro e w1 ⟨rfl, ho, hfl⟩
      have HO := Lib.hid ho
      have HFL := Lib.hid hfl
      clear ho hfl
      go_wp2
      exact ⟨rfl, HO.out, rfl, HFL.out⟩
    | succ g =>
      have hi : i < L := by omega
      have hil : i < l.length := by rw [HL.out]; exact hi
      have hiI : (i : Int) < (L : Int) := by omega
      obtain ⟨bk, o, rfl, hcb⟩ := HR.out.2 i hil
      have hb256 : co l i < 256 := HR.out.1 i
      rw [rv_drop m i acc l hil] at hrv
      obtain ⟨b, hb⟩ : ∃ b, co l i = b := ⟨_, rfl⟩
      rw [hb] at hrv hb256 hcb
      have HIG := Lib.hid hig
      clear hil hb hig
      by_cases hk1 : i = 9 ∧ 1 < b
      · have d1 : ((i : Int) == 9) = true := by simp; omega
        have d2 : decide (1 < (b : Int)) = true := decide_eq_true (by omega)
        rw [if_pos (.inl hk1)] at hrv
        subst hrv
        clear hk1 hac
        go_wp2_with fail
        refine (HF.out 14).mono ?_
        rintro e w1 ⟨rfl, ho, hfl⟩
        have HO := Lib.hid ho
        have HFL := Lib.hid hfl
        clear ho hfl
        go_wp2
        exact ⟨rfl, HO.out, rfl, HFL.out⟩
      · have hst := num_step hac (b := b) (by omega) (by omega)
        obtain ⟨q, hq⟩ : ∃ q, b % 128 = q := ⟨_, rfl⟩
        have ean : bits .andNot .u8 (b : Int) 128 = (q : Int) := by rw [andNot_128 b hb256, hq]
        have hq128 : q < 128 := by omega
        have hor := or_128 acc q i hac
        rw [hq] at hst hrv
        obtain ⟨t, ht⟩ : ∃ t, q * 128 ^ i = t := ⟨_, rfl⟩
        obtain ⟨X, hX⟩ : ∃ X, acc + t = X := ⟨_, rfl⟩
        rw [ht] at hst hrv hor
        rw [hX] at hst hrv hor
        have hac64 : acc < 18446744073709551616 := by omega
        have esh : IntKind.u64.wrap ((q : Int) * 2 ^ (7 * i)) = (t : Int) := by
          rw [show (2 : Int) ^ (7 * i) = ((128 ^ i : Nat) : Int) from by rw [Int.natCast_pow, Int.pow_mul]; rfl, ← Int.natCast_mul, ht]
          exact IntWalk.u64_in _ (by omega)
        have eor : bits .or .u64 (acc : Int) (t : Int) = (X : Int) := by
          rw [u64_or_nat _ _ hac64 hst.2.2]
          rw [show q * 2 ^ (7 * i) = t from by rw [← ht, Nat.pow_mul]] at hor
          rw [hor]
        have hX64 : X < 18446744073709551616 := hst.2.1
        have HXB := Lib.hid hst.1
        clear hor hst ht hX hac hq
        have hcase : (((i : Int) == 9) = false) ∨ (((i : Int) == 9) = true ∧ decide (1 < (b : Int)) = false) := by
          by_cases h9 : i = 9
          · exact .inr ⟨by simp; omega, decide_eq_false (by omega)⟩
          · exact .inl (by simp; omega)
        have hi9' : b < 128 ∨ i + 1 ≤ 9 + 0 * g := by omega
        by_cases h128 : b < 128
        · have d3 : decide (128 ≤ (b : Int)) = false := decide_eq_false (by omega)
          clear hi9'
          by_cases hz : 0 < i ∧ b = 0
          · rw [if_pos (.inr hz)] at hrv
            subst hrv
            obtain ⟨hz1, rfl⟩ := hz
            have d4 : decide (0 < i) = true := decide_eq_true hz1
            rcases hcase with d1 | ⟨d1, d2⟩
            all_goals
              clear hk1
              go_wp2_with fail
              refine (HF.out 14).mono ?_
              rintro e w1 ⟨rfl, ho, hfl⟩
              have HO := Lib.hid ho
              have HFL := Lib.hid hfl
              clear ho hfl
              go_wp2
              exact ⟨rfl, HO.out, rfl, HFL.out⟩
          · rw [if_neg (by omega), if_pos h128] at hrv
            have hcz : (((b : Int) == 0) = false) ∨ (((b : Int) == 0) = true ∧ decide (0 < i) = false) := by
              by_cases h9 : b = 0
              · exact .inr ⟨by simp; omega, decide_eq_false (by omega)⟩
              · exact .inl (by simp; omega)
            clear hz
            by_cases hmX : m < X
            · rw [if_pos hmX] at hrv
              subst hrv
              have d5 : decide ((m : Int) < (X : Int)) = true := decide_eq_true (by omega)
              rcases hcase with d1 | ⟨d1, d2⟩
              all_goals
                rcases hcz with d4 | ⟨d4, d6⟩
              all_goals
                clear hk1
                go_wp2_with fail
                refine (HF.out 10).mono ?_
                rintro e w1 ⟨rfl, ho, hfl⟩
                have HO := Lib.hid ho
                have HFL := Lib.hid hfl
                clear ho hfl
                go_wp2
                exact ⟨rfl, HO.out, rfl, HFL.out⟩
            · obtain ⟨k, hk⟩ : ∃ k, i + 1 = k := ⟨_, rfl⟩
              rw [if_neg hmX, hk] at hrv
              subst hrv
              have d5 : decide ((m : Int) < (X : Int)) = false := decide_eq_false (by omega)
              obtain ⟨Z, s2, hZ, hZA⟩ := run_rest_k .i64 (some ⟨bk, o, none⟩) L c k (by omega) hlc
              have HD := Lib.hid (HDC.out Z (c - k) k hZ hZA (by omega))
              have ek' : (i : Int) + 1 = (k : Int) := by omega
              clear hZ hZA hk HDC
              rcases hcase with d1 | ⟨d1, d2⟩
              all_goals
                rcases hcz with d4 | ⟨d4, d6⟩
              all_goals
                clear hk1
                go_wp2
                go_ret
                exact ⟨Only.put _ _ _ _, _, rfl, rfl, HD.out⟩
        · have d3 : decide (128 ≤ (b : Int)) = true := decide_eq_true (by omega)
          rw [if_neg (by omega), if_neg h128] at hrv
          have hi2 : i + 1 ≤ 9 + 0 * g := by omega
          rcases hcase with d1 | ⟨d1, d2⟩
          all_goals
            clear hk1
            go_wp2
            go_roundg g
            case measure => omega
            case rel => exact ⟨i + 1, X, by have := HIG.out; omega, hi2, by go_num, rfl, HXB.out, hrv, rfl⟩
end Go.Proofs.Ytlkaggjnfidliaa

/-
  What the reader's methods of layer 8 do. Conditions: none beyond what a reader is.
-/
namespace Go.Proofs.Ytlkaggjnfidliaa
open Go.RowKit
open Pol (co Sm)

/-- A call at the decoding is a call at the reader. -/
theorem DReads.reads {α : Type} {lo hi db rb : Nat} {B : Option Addr} {V : Value → World → α → Prop} {r : Rs α} {w w' : World} {e : Ending} (h : DReads lo hi db rb V r w e w')
    (h2 : Btw lo hi rb) (h3 : Btw lo hi db) (h4 : rb ≠ db) (h5 : hi ≤ w.heap.size) (h6 : Rp rb db w ∧ Fr lo hi rb db w) (hok : ∀ a rest, r = .ok a rest → rest.length ≤ 65536) (her : ∀ n, r = .er n → 0 < n) :
    Reads rdr lo hi B ⟨rb, 0, none⟩ V r w e w' := by
  obtain ⟨ho, h⟩ := h
  refine ⟨ho.mono fun k _ hk => by subst hk; exact h3, ?_⟩
  have h5' : hi ≤ w'.heap.size := Nat.le_trans h5 ho.size
  have h6' : Rp rb db w' := (ho.block rb (Nat.lt_of_lt_of_le h2.2 h5) (fun e => h4 e)).trans h6.1
  have h6f : Fr lo hi rb db w' := h6.2.keep fun k hk hne => ho.block k (Nat.lt_of_lt_of_le hk.2 h5) hne
  cases r with
  | ok a rest =>
    obtain ⟨v, he, hv, hd⟩ := h
    exact ⟨v, he, hv, rb, db, rfl, h2, h3, h4, h5', ⟨h6', h6f⟩, hd, hok a rest rfl⟩
  | er n => exact ⟨_, h.1, rb, db, rfl, h2, h3, h4, h5', h6f, h.2, rfl, her n rfl⟩
theorem Dc.sm {lo hi db rb : Nat} {w : World} {l : List Nat} (h : Dc lo hi db rb w l) : Sm l := by
  obtain ⟨_, _, _, h, _⟩ := h
  exact h.1
theorem rdN_len {m n : Nat} {l rest : List Nat} (hs : Sm l) (h : rdN m l = .ok n rest) : rest.length ≤ l.length := by
  rw [(vn_rdN hs h).1, List.length_append]
  omega

set_option maxHeartbeats 1600000 in
theorem cd_Number (lo hi : Nat) (B : Option Addr) (ρ : Addr) (w : World) (l : List Nat) (m : Nat) (h : rdr.RI lo hi B ρ w l) :
    Calls Try.prog 12 #[.pointer (some ρ), .int .u64 (m : Int)] w (Reads rdr lo hi B ρ (fun v _ (n : Nat) => v = .int .u64 (n : Int)) (rdN m l) w) := by
  obtain ⟨rb, db, rfl, h2, h3, h4, h5, h6, h7, h8⟩ := h
  have HR := Lib.hid (cd_running rb db lo hi l w h6.1 h7)
  have HN := Lib.hid ((cd_number rb db lo hi m l w h7 h8).mono fun e w' h => h.reads (B := B) h2 h3 h4 h5 h6 (fun a rest e => Nat.le_trans (rdN_len h7.sm e) h8) (fun n e => (rdN_er e).1))
  clear h2 h3 h4 h5 h6 h7 h8
  generalize rdN m l = r at *
  go_enter Try.func12, Try.ntmps12
  go_wp2_with fail
  refine HR.out.mono ?_
  rintro e w1 ⟨rfl, rfl⟩
  go_wp2_with fail
  refine HN.out.mono ?_
  rintro e w1 ⟨ho, h⟩
  cases r with
  | ok a rest =>
    obtain ⟨v, rfl, rfl, hi1⟩ := h
    have HO := Lib.hid ho
    have HI := Lib.hid hi1
    clear ho hi1
    go_wp2
    go_ret
    exact ⟨HO.out, _, rfl, rfl, HI.out⟩
  | er n =>
    obtain ⟨ch, rfl, hst⟩ := h
    exact ⟨rfl, ho, ch, rfl, hst⟩

set_option maxHeartbeats 1600000 in
theorem cd_Count (lo hi : Nat) (B : Option Addr) (ρ : Addr) (w : World) (l : List Nat) (m : Nat) (h : rdr.RI lo hi B ρ w l) (hm : m < 9223372036854775808) :
    Calls Try.prog 21 #[.pointer (some ρ), .int .i64 (m : Int)] w (Reads rdr lo hi B ρ (fun v _ (n : Nat) => v = .int .i64 (n : Int)) (rdN m l) w) := by
  have hle : ∀ n rest, rdN m l = .ok n rest → n ≤ m := fun n rest e => by
    obtain ⟨rb, db, _, _, _, _, _, _, h7, _⟩ := h
    exact (vn_rdN h7.sm e).2.2
  have HL := Lib.hid (cd_limit m w hm)
  have HN := Lib.hid (cd_Number lo hi B ρ w l m h)
  clear h
  generalize rdN m l = r at *
  go_enter Try.func21, Try.ntmps21
  go_wp2_with fail
  refine HL.out.mono ?_
  rintro e w1 ⟨rfl, rfl⟩
  go_wp2_with fail
  refine HN.out.mono ?_
  rintro e w1 ⟨ho, h⟩
  cases r with
  | ok a rest =>
    obtain ⟨v, rfl, rfl, hi1⟩ := h
    have HO := Lib.hid ho
    have HI := Lib.hid hi1
    have ha := hle a rest rfl
    have e1 : IntKind.i64.wrap (a : Int) = (a : Int) := by rw [IntKind.wrap_i64]; omega
    clear ho hi1
    go_wp2
    go_ret
    exact ⟨HO.out, _, rfl, rfl, HI.out⟩
  | er n =>
    obtain ⟨ch, rfl, hst⟩ := h
    exact ⟨rfl, ho, ch, rfl, hst⟩

set_option maxHeartbeats 1600000 in
theorem cd_Fail (lo hi : Nat) (B : Option Addr) (ρ : Addr) (w : World) (l : List Nat) (n : Nat) (h : rdr.RI lo hi B ρ w l) :
    Calls Try.prog 22 #[.pointer (some ρ), .int .i64 (n : Int)] w (Reads rdr lo hi B ρ (fun _ _ (_ : Nat) => True) (.er (if n = 0 then 1 else n)) w) := by
  obtain ⟨rb, db, rfl, h2, h3, h4, h5, h6, h7, h8⟩ := h
  obtain ⟨k, hk⟩ : ∃ k, (if n = 0 then 1 else n) = k := ⟨_, rfl⟩
  have hk0 : 0 < k := by rw [← hk]; split <;> omega
  rw [hk]
  have HR := Lib.hid (cd_running rb db lo hi l w h6.1 h7)
  have HF := Lib.hid ((cd_fail rb db lo hi k l w h7).mono fun e w' h => show e = .returned (.agg #[.pointer (some ⟨db, 0, none⟩)]) ∧ Reads rdr lo hi B ⟨rb, 0, none⟩ (fun _ _ (_ : Nat) => True) (.er k) w (.panicked (En db)) w' from
    ⟨h.1, DReads.reads ⟨h.2.1, rfl, h.2.2⟩ h2 h3 h4 h5 h6 (fun a rest e => by cases e) (fun n e => by cases e; exact hk0)⟩)
  clear h2 h3 h4 h5 h6 h7 h8
  by_cases hn : n = 0
  · subst hn
    obtain rfl : 1 = k := by simpa using hk
    clear hk
    go_enter Try.func22, Try.ntmps22
    go_wp2_with fail
    refine HR.out.mono ?_
    rintro e w1 ⟨rfl, rfl⟩
    go_wp2_with fail
    refine HF.out.mono ?_
    rintro e w1 ⟨rfl, h⟩
    have HH := Lib.hid h
    clear h
    go_wp2
    exact ⟨rfl, HH.out⟩
  · obtain rfl : n = k := by rw [if_neg hn] at hk; exact hk
    have d1 : decide (n = 0) = false := decide_eq_false hn
    have d2 : ((n : Int) == 0) = false := by simp; omega
    clear hk
    go_enter Try.func22, Try.ntmps22
    go_wp2_with fail
    refine HR.out.mono ?_
    rintro e w1 ⟨rfl, rfl⟩
    go_wp2_with fail
    refine HF.out.mono ?_
    rintro e w1 ⟨rfl, h⟩
    have HH := Lib.hid h
    clear h
    go_wp2
    exact ⟨rfl, HH.out⟩
end Go.Proofs.Ytlkaggjnfidliaa

/-
  What Text of layer 8's reader does. Conditions: none beyond what a reader is.
-/
namespace Go.Proofs.Ytlkaggjnfidliaa
open Go.RowKit
open Pol (co Sm)

theorem rdT_ok {m n : Nat} {l r1 : List Nat} (h : rdN m l = .ok n r1) : rdT m l = rdB n r1 := by unfold rdT; rw [h]; rfl
theorem rdT_er' {m n : Nat} {l : List Nat} (h : rdN m l = .er n) : rdT m l = .er n := by unfold rdT; rw [h]; rfl
theorem Dc.ext {lo hi db rb : Nat} {w w' : World} {l : List Nat} (h : Dc lo hi db rb w l) (h3 : Btw lo hi db) (h5 : hi ≤ w.heap.size) (hx : Ext w w') : Dc lo hi db rb w' l :=
  h.keep (hx.below.block _ (Nat.lt_of_lt_of_le h3.2 h5)) (fun _ hk => hx.below.block _ (Nat.lt_of_lt_of_le hk.2 h5))
theorem rdB_len {n : Nat} {l t rest : List Nat} (h : rdB n l = .ok t rest) : rest.length ≤ l.length := by
  rw [(rdB_ok h).1, List.length_append]
  omega
theorem OwnB.of_mine {w : World} {base : Nat} {v : Value} {t : List Nat} (h : Mine w base v t) (hs : Sm t) : OwnB base v w t := by
  obtain ⟨B, c, rfl, hc, hr⟩ := h.slice hs
  exact ⟨B, c, rfl, hc, hr, fun b o e _ => (h.block b (by rw [e]; rfl)).1⟩

set_option maxHeartbeats 1600000 in
theorem cd_Text (lo hi : Nat) (B : Option Addr) (ρ : Addr) (w : World) (l : List Nat) (m : Nat) (h : rdr.RI lo hi B ρ w l) (hm : m < 9223372036854775808) :
    Calls Try.prog 14 #[.pointer (some ρ), .int .i64 (m : Int)] w (Reads rdr lo hi B ρ (OwnB w.heap.size) (rdT m l) w) := by
  obtain ⟨rb, db, rfl, h2, h3, h4, h5, h6, h7, h8⟩ := h
  have HR := Lib.hid (cd_running rb db lo hi l w h6.1 h7)
  have HL := Lib.hid (cd_limit m w hm)
  have HN := Lib.hid (cd_number rb db lo hi m l w h7 h8)
  have HRD := Lib.hid (fun (w' : World) (e : Ending) (h : DReads lo hi db rb (OwnB w.heap.size) (rdT m l) w e w') => h.reads (B := B) h2 h3 h4 h5 h6
    (fun a rest e => Nat.le_trans (by have := (vt_rdT h7.sm e).1; rw [this, List.length_append]; omega) h8) (fun n e => (rdT_er e).1))
  have HS := Lib.hid h7.sm
  have H3 := Lib.hid h3
  have H5 := Lib.hid h5
  have H8 := Lib.hid h8
  clear h2 h4 h6 h7 h3 h5 h8
  go_enter Try.func14, Try.ntmps14
  go_wp2_with fail
  refine HR.out.mono ?_
  rintro e w1 ⟨rfl, rfl⟩
  go_wp2_with fail
  refine HL.out.mono ?_
  rintro e w1 ⟨rfl, rfl⟩
  go_wp2_with fail
  refine HN.out.mono ?_
  rintro e w1 ⟨ho, h⟩
  cases hr : rdN m l with
  | er n =>
    rw [hr] at h
    obtain ⟨rfl, hf⟩ := h
    exact ⟨rfl, HRD.out _ _ (by rw [rdT_er' hr]; exact ⟨ho, rfl, hf⟩)⟩
  | ok n r1 =>
    rw [hr] at h
    obtain ⟨v, rfl, rfl, hd1⟩ := h
    have e1 := rdT_ok hr
    have hl1 := Nat.le_trans (rdN_len HS.out hr) H8.out
    have h51 := Nat.le_trans H5.out ho.size
    have E1 := Lib.hid e1
    have HT := Lib.hid (cd_take rb db lo hi n r1 w1 hd1 hl1)
    have HO := Lib.hid ho
    have HD := Lib.hid hd1
    have HL1 := Lib.hid hl1
    have H51 := Lib.hid h51
    clear ho hd1 hl1 h51 e1 HN HL HR hr
    go_wp2_with fail
    refine HT.out.mono ?_
    rintro e w2 ⟨ho2, h⟩
    cases hr2 : rdB n r1 with
    | er k =>
      rw [hr2] at h
      obtain ⟨rfl, hf⟩ := h
      exact ⟨rfl, HRD.out _ _ (by rw [E1.out, hr2]; exact ⟨HO.out.trans ho2, rfl, hf⟩)⟩
    | ok t rest =>
      rw [hr2] at h
      have E2 := Lib.hid (E1.out.trans hr2)
      obtain ⟨v, rfl, ⟨A, c, rfl, hrt, htc⟩, hd2⟩ := h
      have htl : t.length ≤ 65536 := by
        have := (rdB_ok hr2).1
        have h := HL1.out
        rw [this, List.length_append] at h
        omega
      have h52 := Nat.le_trans H51.out ho2.size
      have hsz := Nat.le_trans HO.out.size ho2.size
      have HRT := Lib.hid hrt
      have HD2 := Lib.hid hd2
      have HO2 := Lib.hid (HO.out.trans ho2)
      have H52 := Lib.hid h52
      have HSZ := Lib.hid hsz
      clear hrt hd2 ho2 h52 hr2 HT HD HO hsz
      obtain ⟨T, hT⟩ : ∃ T, t.length = T := ⟨_, rfl⟩
      have HTE := Lib.hid hT
      rw [hT] at htc htl ⊢
      clear hT
      go_wp2_with (at_builtin; refine wpList_append_rd rfl (.const (.slice none 0 0)) (.tmp 17) rfl w.heap.size (.slice none 0 0) [] t rfl (Mine.nil _ _) A T c rfl HTE.out HRT.out (by have := HTE.out; simp; omega) HSZ.out ?_; intro v' w3 hown' hg' hat'; have hx3 := (Ext.refl w2).more hg' (fun r e => by simp [Value.ownBlock] at e); have HM := Lib.hid (OwnB.of_mine hown' HRT.out.1); have HX3 := Lib.hid hx3; clear hown' hg' hat' hx3)
      go_ret
      exact HRD.out _ _ (by rw [E2.out]; exact ⟨HO2.out.trans (Only.of_ext HX3.out), _, rfl, HM.out, HD2.out.ext H3.out H52.out HX3.out⟩)
end Go.Proofs.Ytlkaggjnfidliaa

/-
  What Digest of layer 8's reader does. Conditions: none beyond what a reader is.
-/
namespace Go.Proofs.Ytlkaggjnfidliaa
open Go.RowKit
open Pol (co Sm)

section
variable {P : Program} {ops : Array Oper}
theorem wpList_load_of {rest : List Oper} {o : Oper} {a : Act} {w : World} {Q : Exit → Act → World → Prop} (hgd : o.guard = none) (ty : TypeId) (x : Operand) (ho : o.op = .load ty x) (p v : Value) (hx : a.eval x = p)
    (hrun : (Instr.loadAt ty p).run P w = .ok v w) (h : wpList P ops Q rest (a.put o.dst v) w) : wpList P ops Q (o :: rest) a w :=
  wpList_plain hgd fun _ hK => by
    unfold Oper.wp execOp
    simp only [ho, hx, Sem.run_bind, hrun, Result.andThen_ok, Sem.run_pure]
    exact hK _ _ h
end
/-- Thirty-two bytes, loaded as an array. -/
theorem load_arr (w : World) (A : Option Addr) (t : List Nat) (hr : Rd w A t) (hl : t.length = 32) : (Instr.loadAt 40 (.pointer A)).run Try.prog w = .ok (.agg (bv t).toArray) w := by
  obtain ⟨b, o, rfl, _⟩ := hr.addr (by omega)
  have hc := run_loadCells_list (P := Try.prog) w ⟨b, o, none⟩ (bv t) (fun j v hv => by
    have hj : j < t.length := by
      have := (List.getElem?_eq_some_iff.1 hv).1
      rwa [bv_len] at this
    obtain ⟨b', o', e, hc⟩ := hr.2 j hj
    injection e with e
    rw [e, addr_add, hc, ← bv_at t j hj, hv])
  rw [bv_len, hl] at hc
  have hi := zero_digest.2
  cases hq : Try.prog.info? 40 with
  | none => simp [hq] at hi
  | some i =>
    rw [hq] at hi
    have hs : i.size = 32 := by simpa using hi
    simp [Instr.loadAt, Instr.sureAddr, loadVar, isAgg, run_underlying Try.underlying40, sizeOf, typeInfo, hq, hs, hc]
theorem rdB_32 {l t rest : List Nat} (h : rdB 32 l = .ok t rest) : t.length = 32 := (rdB_ok h).2
theorem bv_dg (t : List Nat) (ht : t.length = 32) : (bt 32 fun _ => 0).size = (bv t).toArray.size ∧ (Try.prog.info? 40).map (·.size) = some (bv t).toArray.size ∧ (bv t).toArray.all (·.oneCell') = true := by
  have e : (bv t).toArray.size = 32 := by simp [bv_len, ht]
  refine ⟨by rw [bt_size, e], by rw [e]; exact zero_digest.2, ?_⟩
  rw [Array.all_eq_true]
  intro i h
  exact bv_one t _ (by simp)

set_option maxHeartbeats 1600000 in
set_option maxRecDepth 100000 in
theorem cd_Digest (lo hi : Nat) (B : Option Addr) (ρ : Addr) (w : World) (l : List Nat) (h : rdr.RI lo hi B ρ w l) :
    Calls Try.prog 18 #[.pointer (some ρ)] w (Reads rdr lo hi B ρ (fun v _ (t : List Nat) => v = dg t) (rdB 32 l) w) := by
  obtain ⟨rb, db, rfl, h2, h3, h4, h5, h6, h7, h8⟩ := h
  have hz := zero_digest.1
  obtain ⟨w0, hw0⟩ : ∃ w0, w.alloc (.cells (bt 32 fun _ => 0) 40) = w0 := ⟨_, rfl⟩
  have hx0 : Ext w w0 := by rw [← hw0]; exact (Ext.refl w).alloc _
  have hg0 : w0.heap[w.heap.size]? = some (.cells (bt 32 fun _ => 0) 40 (0, 0)) := by rw [← hw0]; exact heap_alloc_new w _
  have h70 := h7.ext h3 h5 hx0
  have h60 : Rp rb db w0 := (hx0.below.block rb (Nat.lt_of_lt_of_le h2.2 h5)).trans h6.1
  have HR := Lib.hid (cd_running rb db lo hi l w0 h60 h70)
  have HT := Lib.hid (cd_take rb db lo hi 32 l w0 h70 h8)
  have HRD := Lib.hid (fun (w' : World) (e : Ending) (h : DReads lo hi db rb (fun v _ (t : List Nat) => v = dg t) (rdB 32 l) w e w') => h.reads (B := B) h2 h3 h4 h5 h6
    (fun a rest e => Nat.le_trans (rdB_len e) h8) (fun n e => (rdB_er e).1))
  have hdw : db < w.heap.size := Nat.lt_of_lt_of_le h3.2 h5
  have H3 := Lib.hid h3
  have H5 := Lib.hid h5
  have HX0 := Lib.hid hx0
  have HG0 := Lib.hid hg0
  have HW0 := Lib.hid hw0
  clear h2 h4 h6 h7 h3 h5 h8 hx0 hg0 hw0 h70 h60
  go_enter Try.func18, Try.ntmps18
  go_wp2_with fail
  rw [HW0.out]
  refine HR.out.mono ?_
  rintro e w1 ⟨rfl, rfl⟩
  go_wp2_with fail
  refine HT.out.mono ?_
  rintro e w1 ⟨ho, h⟩
  cases hr : rdB 32 l with
  | er n =>
    rw [hr] at h
    obtain ⟨rfl, hf⟩ := h
    exact ⟨rfl, HRD.out _ _ (by rw [hr]; exact ⟨(Only.of_ext HX0.out).trans ho, rfl, hf⟩)⟩
  | ok t rest =>
    rw [hr] at h
    obtain ⟨v, rfl, ⟨A, c, rfl, hrt, htc⟩, hd2⟩ := h
    have ht32 := rdB_32 hr
    have hat : ∀ W, (Instr.arrayAt 40 (.slice A 32 c)).run Try.prog W = .ok (.pointer A) W := fun W => run_arrayAt W 40 _ 32 A 32 c Try.underlying40 (Nat.le_refl _)
    have hg1 : w1.heap[w.heap.size]? = some (.cells (bt 32 fun _ => 0) 40 (0, 0)) := (ho.block _ (by have := (Array.getElem?_eq_some_iff.1 HG0.out).1; exact this) (fun e => by have e : w.heap.size = db := e; omega)).trans HG0.out
    have HLD := Lib.hid (load_arr w1 A t hrt ht32)
    obtain ⟨b1, b2, b3⟩ := bv_dg t ht32
    have hg2 := setRow_heap w1 w.heap.size _ (bv t).toArray _ _ hg1
    have hfin : DReads lo hi db rb (fun v _ (t : List Nat) => v = dg t) (.ok t rest) w (.returned (dg t)) (w1.setRow w.heap.size (bv t).toArray) := by
      refine ⟨⟨?_, ?_, ?_, ?_, ?_⟩, _, rfl, rfl, ?_⟩
      · exact (ho.os).trans HX0.out.below.os
      · exact (ho.tape).trans HX0.out.below.tape
      · exact (ho.output).trans HX0.out.below.output
      · simp; exact Nat.le_trans HX0.out.size ho.size
      · intro k hk hkd
        rw [setRow_other w1 _ k _ (by omega)]
        exact (ho.block k (Nat.lt_of_lt_of_le hk HX0.out.size) hkd).trans (HX0.out.below.block k hk)
      · exact hd2.keep (setRow_other w1 _ db _ (by omega)) (fun k hk => setRow_other w1 _ k _ (by have := hk.2; have := H5.out; omega))
    have hfin' := HRD.out _ _ (by rw [hr]; exact hfin)
    rw [ht32]
    generalize hV : (bv t).toArray = V at *
    have HV := Lib.hid hV
    have HG1 := Lib.hid hg1
    have HG2 := Lib.hid hg2
    have HB := Lib.hid (show _ ∧ _ ∧ _ from ⟨b1, b2, b3⟩)
    have HFI := Lib.hid hfin'
    clear hrt hd2 hr ho hg1 hg2 b1 b2 b3 hfin hfin' hV
    go_wp2_with (first | (with_reducible refine wpList_load_of rfl 40 (.tmp 11) rfl (.pointer A) (.agg V) rfl HLD.out ?_) | (with_reducible refine wpList_store_all rfl 40 (.tmp 2) (.tmp 12) rfl w.heap.size (bt 32 fun _ => 0) V rfl rfl HG1.out HB.out.2.1 HB.out.1 HB.out.2.2 ?_))
    have hdg : dg t = .agg V := by unfold dg; rw [HV.out]
    have hfi := HFI.out
    rw [hdg] at hfi
    exact ⟨rfl, .agg V, results_cell_row Try.results18 _ _ w.heap.size 40 V (0, 0) _ rfl HG2.out Try.underlying40 rfl HB.out.2.1, hfi⟩
end Go.Proofs.Ytlkaggjnfidliaa

/-
  What Text and Digest of layer 8 lay behind bytes. Conditions: no more than 2^20 bytes each.
-/
namespace Go.Proofs.Ytlkaggjnfidliaa
open Go.RowKit
open Pol (co Sm)

theorem LayS.ext {w wx wy : World} {v vx : Value} (h : LayS w wx v vx) (hx : Ext wx wy) : LayS w wy v vx :=
  ⟨⟨hx.below.os.trans h.1.os, hx.below.tape.trans h.1.tape, hx.below.output.trans h.1.output, Nat.le_trans h.1.size hx.size, fun k hk hne => (hx.below.block k (Nat.lt_of_lt_of_le hk h.1.size)).trans (h.1.block k hk hne)⟩, h.2⟩

set_option maxHeartbeats 1600000 in
theorem cd_layT (base : Nat) (v : Value) (l t : List Nat) (A : Option Addr) (ca : Nat) (w : World) (hm : Mine w base v l) (hs : Sm l) (hr : Rd w A t) (hl : l.length ≤ 1048576) (ht : t.length ≤ 1048576) (hb : base ≤ w.heap.size) :
    Calls Try.prog 30 #[v, .slice A t.length ca] w (Lays base v (l ++ vt t) w) := by
  have HN := Lib.hid (cd_layN w.heap.size (.slice none 0 0) [] t.length w (Mine.nil _ _) Sm.nil (by decide) (by omega) (Nat.le_refl _))
  have HR := Lib.hid hr
  have HM := Lib.hid hm
  have HB := Lib.hid hb
  have HS := Lib.hid (vt_sm hr.1)
  have HSN := Lib.hid (vn_sm t.length)
  have HTEN := Lib.hid (vn_ten (n := t.length) (by omega))
  have HVT := Lib.hid (show vn t.length ++ t = vt t from rfl)
  have HVL := Lib.hid (show (vt t).length ≤ 1048586 by rw [← HVT.out, List.length_append]; have := HTEN.out; omega)
  rw [List.nil_append] at HN
  obtain ⟨B0, c0, ev0, hc0, _⟩ := hm.slice hs
  have HV0 := Lib.hid ev0
  rw [ev0]
  clear hr hm hb
  generalize hn : t.length = n at *
  have HL := Lib.hid hn
  clear hn
  have e1 : IntKind.u64.wrap (n : Int) = (n : Int) := by rw [IntKind.wrap_u64]; omega
  generalize vn n = V at *
  obtain ⟨V2, hV2⟩ : ∃ V2, vt t = V2 := ⟨_, rfl⟩
  rw [hV2] at HS HVT HVL ⊢
  clear hV2 ev0
  go_enter Try.func30, Try.ntmps30
  go_wp2_with fail
  refine HN.out.mono ?_
  rintro e w1 ⟨v1, rfl, hm1, hg1, _⟩
  have HX1 := Lib.hid ((Ext.refl w).more hg1 (fun r e => by simp [Value.ownBlock] at e))
  obtain ⟨B, c, ev, hc, _⟩ := hm1.slice HSN.out
  subst ev
  have HM1 := Lib.hid hm1
  clear hm1 hg1
  obtain ⟨lv, hlv⟩ : ∃ lv, V.length = lv := ⟨_, rfl⟩
  have HLV := Lib.hid hlv
  rw [hlv] at HM1 hc HTEN ⊢
  clear hlv
  go_wp2_with (at_builtin; first | (refine wpList_append_rd rfl (.tmp 9) (.tmp 10) rfl w.heap.size _ V t rfl HM1.out A n ca rfl HL.out (HR.out.ext HX1.out) (by rw [HLV.out, HL.out]; have := HTEN.out; omega) (by have := HX1.out.size; omega) ?_; intro v2 w3 hown' hg' hat'; rw [HVT.out] at hown'; have hx3 := HX1.out.more hg' (fun r e => (HM1.out.block r e).1); obtain ⟨Bv, cv, ev', hcv, hrv⟩ := hown'.slice HS.out; subst ev'; have HR3 := Lib.hid hrv; have HX3 := Lib.hid hx3; clear hown' hg' hat' hx3 hrv) | (refine wpList_append_rd rfl (.tmp 12) (.tmp 13) rfl base _ l V2 rfl (HV0.out ▸ mine_ext HM.out HX3.out) Bv V2.length cv rfl rfl HR3.out (by have := HVL.out; omega) (by have := HX3.out.size; have := HB.out; omega) ?_; intro v4 w5 hown5 hg5 hat5; have HO := Lib.hid ((((LayS.refl w (.slice B0 l.length c0)).ext HX3.out).step hg5 hat5).lays hown5); clear hown5 hg5 hat5))
  go_ret
  exact HO.out

theorem rd_box (w : World) (l : List Nat) (T : TypeId) (h : Sm l) : Rd (w.alloc (.cells (bv l).toArray T)) (some ⟨w.heap.size, 0, none⟩) l :=
  ⟨h, fun i hi => ⟨w.heap.size, 0, rfl, by
    rw [cell_of_row _ _ _ _ _ _ (heap_alloc_new w _), Nat.zero_add]
    simpa using bv_at l i hi⟩⟩

set_option maxHeartbeats 1600000 in
theorem cd_layD (base : Nat) (v : Value) (l t : List Nat) (w : World) (hm : Mine w base v l) (hs : Sm l) (hst : Sm t) (ht : t.length = 32) (hl : l.length ≤ 1048576) (hb : base ≤ w.heap.size) :
    Calls Try.prog 31 #[v, dg t] w (Lays base v (l ++ t) w) := by
  have HM := Lib.hid hm
  have HB := Lib.hid hb
  have HR := Lib.hid (rd_box w t 40 hst)
  have HT := Lib.hid ht
  obtain ⟨B0, c0, ev0, hc0, _⟩ := hm.slice hs
  have HV0 := Lib.hid ev0
  rw [ev0]
  unfold dg
  generalize hV : (bv t).toArray = V at *
  clear hm hb hst ev0 hV
  go_enter Try.func31, Try.ntmps31
  have HX := Lib.hid ((Ext.refl w).alloc (.cells V 40))
  go_wp2_with (at_builtin; refine wpList_append_rd rfl (.tmp 5) (.tmp 6) rfl base _ l t rfl (HV0.out ▸ mine_ext HM.out HX.out) (some ⟨w.heap.size, 0, none⟩) 32 32 rfl HT.out HR.out (by omega) (by have := HX.out.size; have := HB.out; omega) ?_; intro v4 w5 hown5 hg5 hat5; have HO := Lib.hid ((((LayS.refl w (.slice B0 l.length c0)).ext HX.out).step hg5 hat5).lays hown5); clear hown5 hg5 hat5)
  go_ret
  exact HO.out
end Go.Proofs.Ytlkaggjnfidliaa

/-
  What Read of layer 8 does; with it the layer's own functions do what the laws ask of them. Conditions: no more than 2^16 bytes.
-/
namespace Go.Proofs.Ytlkaggjnfidliaa
open Go.RowKit
open Pol (co Sm)

theorem old3 (w : World) (A B C : Obj) : (((w.alloc A).alloc B).alloc C).heap[w.heap.size]? = some A :=
  (heap_alloc_old _ _ (by simp; omega)).trans (heap_alloc2_old _ _ _)
theorem mid3 (w : World) (A B C : Obj) : (((w.alloc A).alloc B).alloc C).heap[w.heap.size + 1]? = some B :=
  (heap_alloc_old _ _ (by simp)).trans (heap_alloc2_new _ _ _)
theorem run_func_not_nil (fn : FuncId) (caps : Array Value) (w : World) : (binOp .neq 45 (.func (.func fn) #[] caps) .nilFunc).run Try.prog w = .ok (.bool true) w := by
  have h : ∀ d, (Op.equalIn (d + 1) 45 (.func (.func fn) #[] caps) .nilFunc).run Try.prog w = .ok false w := fun d => by
    simp [Op.equalIn, run_underlying Try.underlying45]
  have h' : (Op.equal 45 (.func (.func fn) #[] caps) .nilFunc).run Try.prog w = .ok false w := h 9999
  simp only [binOp]
  simp [h']

theorem read_results (tmps : Array Value) (w : World) (g : Nat) (n : Int) (ht : tmps.getD 4 undef = .pointer (some ⟨g, 0, none⟩)) (hc : w.cell? ⟨g, 0, none⟩ = some (.int .i64 n)) :
    (results Try.f10 tmps).run Try.prog w = .ok (.int .i64 n) w := by
  have ht' : tmps[4]?.getD undef = .pointer (some ⟨g, 0, none⟩) := by simpa using ht
  simp [results, Try.results10, go_sem, ht', hc]
theorem only_done {lo db : Nat} {w w' : World} (h : Only (fun k => k = db ∨ k = lo) w w') (h1 : lo < db) : Only (Btw lo (db + 3)) w w' := h.mono fun k _ hk => by
  rcases hk with rfl | rfl
  · exact ⟨by omega, by omega⟩
  · exact ⟨by omega, by omega⟩
/-- What comes behind the function that reads: the deferred one, which lets be; which recovers. -/
theorem leaves_quiet (tmps : Array Value) (R : Ending → World → Prop) (lo db rb : Nat) (S : Value) (r : Int) (w : World) (ht : tmps.getD 4 undef = .pointer (some ⟨lo, 0, none⟩)) (h1 : lo < db)
    (hd : w.heap[db]? = some (.cells #[.pointer (some ⟨rb, 0, none⟩), S, .int .i64 0] 59 (0, 0))) (hv : w.cell? ⟨db + 1, 0, none⟩ = some (.pointer (some ⟨db, 0, none⟩))) (hg : w.cell? ⟨lo, 0, none⟩ = some (.int .i64 0))
    (hR : ∀ w', Only (Btw lo (db + 3)) w w' → R (.returned (.int .i64 r)) w') :
    Leaves Try.prog Try.f10 tmps R [{ target := .fn (.func 36) #[.pointer (some ⟨db + 1, 0, none⟩), .pointer (some ⟨lo, 0, none⟩)], args := #[] }] .returning (w.setCell ⟨lo, 0, none⟩ (.int .i64 r)) := by
  refine leaves_cons (f := 36) (args := #[.pointer (some ⟨db + 1, 0, none⟩), .pointer (some ⟨lo, 0, none⟩)]) (by simp) (by simp [go_sem]) ?_
  refine (cd_end_quiet db rb lo (db + 1) S _ _ ((heap_setCell_other w ⟨lo, 0, none⟩ db _ (by show db ≠ lo; omega)).trans hd) ((Only.put w lo 0 _).cell hv (by omega))).mono ?_
  rintro e u' w' ⟨rfl, rfl, ho⟩
  have hs : settle .returning = .returning := rfl
  simp only [hs, Leaves]
  have hc := ho.cell (World.cell?_setCell_same' w ⟨lo, 0, none⟩ (.int .i64 r) (by rw [hg]; rfl)) (by omega)
  exact ⟨_, read_results tmps w' lo r ht hc, hR w' (only_done (((Only.put w lo 0 _).mono fun _ _ h => .inr h).trans (ho.mono fun _ _ h => .inl h)) h1)⟩
theorem leaves_dies (tmps : Array Value) (R : Ending → World → Prop) (lo db rb : Nat) (S : Value) (x : Int) (w : World) (h1 : lo < db)
    (hd : w.heap[db]? = some (.cells #[.pointer (some ⟨rb, 0, none⟩), S, .int .i64 0] 59 (0, 0))) (hv : w.cell? ⟨db + 1, 0, none⟩ = some (.pointer (some ⟨db, 0, none⟩)))
    (hR : ∀ w', Only (Btw lo (db + 3)) w w' → R (.panicked [{ v := .iface 3 (.int .i64 x), recovered := false }]) w') :
    Leaves Try.prog Try.f10 tmps R [{ target := .fn (.func 36) #[.pointer (some ⟨db + 1, 0, none⟩), .pointer (some ⟨lo, 0, none⟩)], args := #[] }] (.panicking [{ v := .iface 3 (.int .i64 x), recovered := false }]) w := by
  refine leaves_cons (f := 36) (args := #[.pointer (some ⟨db + 1, 0, none⟩), .pointer (some ⟨lo, 0, none⟩)]) (by simp) (by simp [go_sem]) ?_
  refine (cd_end_quiet db rb lo (db + 1) S _ _ hd hv).mono ?_
  rintro e u' w' ⟨rfl, rfl, ho⟩
  have hs : settle (.panicking [{ v := .iface 3 (.int .i64 x), recovered := false }]) = .panicking [{ v := .iface 3 (.int .i64 x), recovered := false }] := rfl
  simp only [hs, Leaves]
  exact hR w' (only_done (ho.mono fun _ _ h => .inl h) h1)
theorem leaves_tells (tmps : Array Value) (R : Ending → World → Prop) (lo db rb n : Nat) (S : Value) (w : World) (ht : tmps.getD 4 undef = .pointer (some ⟨lo, 0, none⟩)) (h1 : lo < db) (hn : 0 < n)
    (hd : w.heap[db]? = some (.cells #[.pointer (some ⟨rb, 0, none⟩), S, .int .i64 (n : Int)] 59 (0, 0))) (hv : w.cell? ⟨db + 1, 0, none⟩ = some (.pointer (some ⟨db, 0, none⟩))) (hg : w.heap[lo]? = some (.cells #[.int .i64 0] 29 (0, 0)))
    (hR : ∀ w', Only (Btw lo (db + 3)) w w' → R (.returned (.int .i64 (n : Int))) w') :
    Leaves Try.prog Try.f10 tmps R [{ target := .fn (.func 36) #[.pointer (some ⟨db + 1, 0, none⟩), .pointer (some ⟨lo, 0, none⟩)], args := #[] }] (.panicking (En db)) w := by
  refine leaves_cons (f := 36) (args := #[.pointer (some ⟨db + 1, 0, none⟩), .pointer (some ⟨lo, 0, none⟩)]) (by simp) (by simp [go_sem]) ?_
  refine (cd_end_tells db rb lo (db + 1) n S _ hd hv hg (by omega) (by omega) hn).mono ?_
  rintro e u' w' ⟨rfl, rfl, ho, hc⟩
  have hs : settle (.panicking [{ v := .iface 66 (.agg #[.pointer (some ⟨db, 0, none⟩)]), recovered := true }]) = .returning := rfl
  simp only [hs, Leaves]
  exact ⟨_, read_results tmps w' lo n ht hc, hR w' (only_done ho h1)⟩

set_option maxHeartbeats 3200000 in
theorem cd_Read (b : List Nat) (B : Option Addr) (cb : Nat) (fn : FuncId) (caps : Array Value) (w : World) (J : Nat → World → By → Prop) (hfn : HasBody fn) (hr : Rd w B b) (hl : b.length ≤ 65536)
    (hby : ∀ hi ρ w1, Ext w w1 → w.heap.size ≤ hi → hi ≤ w1.heap.size → rdr.RI w.heap.size hi (nz b B) ρ w1 b → Calls Try.prog fn (#[.pointer (some ρ)] ++ caps) w1 (ByE rdr w.heap.size hi (nz b B) ρ J)) :
    Calls Try.prog 10 #[.slice B b.length cb, .func (.func fn) #[] caps] w (ReadE J w) := by
  have hmf : ∀ (fn : Fn) (first cap : Array Value) (w : World), (Instr.makeFunc fn first cap).run Try.prog w = .ok (.func fn first cap) w := fun _ _ _ _ => rfl
  obtain ⟨F, cF, hF1, hF2, hF3⟩ := hfn
  have hcf : ∀ (args : Array Value) (W : World), (callFunc fn args).run Try.prog W = .ok (.enter fn args) W := fun args W => by
    have h1 : F.name ≠ "runtime.NumGoroutine" := by simpa using hF3
    simp [callFunc, hF1, h1, hF2]
  have HR := Lib.hid hr
  have HBY := Lib.hid hby
  obtain ⟨L, hL⟩ : ∃ L, b.length = L := ⟨_, rfl⟩
  have HL := Lib.hid hL
  rw [hL] at hl ⊢
  clear hr hby hL
  have hx0 : Ext w (w.alloc (.cells #[.int .i64 0] 29)) := (Ext.refl w).alloc _
  have hg0 := heap_alloc_new w (.cells #[.int .i64 0] 29)
  have hs0 : (w.alloc (.cells #[.int .i64 0] 29)).heap.size = w.heap.size + 1 := by simp
  go_enter_defers Try.func10, Try.ntmps10
  go_wp2_with (at_builtin; refine wpList_append_rd rfl (.const (.slice none 0 0)) (.tmp 6) rfl (w.heap.size + 1) (.slice none 0 0) [] b rfl (Mine.nil _ _) B L cb rfl HL.out (HR.out.ext hx0) (by have := HL.out; simp; omega) (by rw [hs0]; omega) ?_; intro v' w2 hown hg hat; obtain ⟨A, c, ev, hlc, hra⟩ := hown.slice HR.out.1; have HOB := Lib.hid (fun k (h : v'.ownBlock = some k) => hown.block k h); have HX2 := Lib.hid ((Ext.refl _).more hg (fun r e => by simp [Value.ownBlock] at e)); have hev : v' = .slice A L c := (by rw [ev, List.nil_append, HL.out]); subst hev; have HRA := Lib.hid hra; have hnf := fun W => run_func_not_nil fn caps W; clear hown hg hat ev hra)
  have hs2 := HX2.out.size
  rw [hs0] at hs2
  obtain ⟨db, hdb⟩ : ∃ db, w2.heap.size = db := ⟨_, rfl⟩
  obtain ⟨W, hW⟩ : ∃ W, (((w2.alloc (.cells #[.pointer (some ⟨w2.heap.size + 1 + 1, 0, none⟩), .slice A L c, .int .i64 0] 59)).alloc (.cells #[.pointer (some ⟨w2.heap.size, 0, none⟩)] 57)).alloc (.cells #[.pointer (some ⟨w2.heap.size, 0, none⟩)] 61)) = W := ⟨_, rfl⟩
  have hxW : Ext w2 W := by rw [← hW]; exact ((((Ext.refl w2).alloc _).alloc _).alloc _)
  have hsW : W.heap.size = db + 3 := by rw [← hW, ← hdb]; simp
  have hrow : W.heap[db]? = some (.cells #[.pointer (some ⟨db + 1 + 1, 0, none⟩), .slice A L c, .int .i64 0] 59 (0, 0)) ∧ W.heap[db + 1]? = some (.cells #[.pointer (some ⟨db, 0, none⟩)] 57 (0, 0)) ∧ W.heap[db + 2]? = some (.cells #[.pointer (some ⟨db, 0, none⟩)] 61 (0, 0)) := by
    rw [← hW, ← hdb]
    refine ⟨old3 w2 _ _ _, mid3 w2 _ _ _, ?_⟩
    have h := heap_alloc_new ((w2.alloc (.cells #[.pointer (some ⟨w2.heap.size + 1 + 1, 0, none⟩), .slice A L c, .int .i64 0] 59)).alloc (.cells #[.pointer (some ⟨w2.heap.size, 0, none⟩)] 57)) (.cells #[.pointer (some ⟨w2.heap.size, 0, none⟩)] 61)
    simpa using h
  have hi0 : W.heap[w.heap.size]? = some (.cells #[.int .i64 0] 29 (0, 0)) := (hxW.below.block _ (by omega)).trans ((HX2.out.below.block _ (by rw [hs0]; omega)).trans hg0)
  have hext : Ext w W := (hx0.trans HX2.out).trans hxW
  have hRI : rdr.RI w.heap.size (db + 3) (nz b B) ⟨db + 2, 0, none⟩ W b := by
    refine ⟨db + 2, db, rfl, ⟨by omega, by omega⟩, ⟨by omega, by omega⟩, by omega, by omega, ⟨hrow.2.2, by omega, by omega, by omega, hrow.2.1, hi0⟩, ⟨A, c, ?_, HRA.out.ext hxW, by rw [← List.nil_append b]; exact hlc, fun k o e h => ?_⟩, by rw [HL.out]; exact hl⟩
    · rw [HL.out]; exact hrow.1
    · have := HOB.out k (by rw [e]; rfl)
      exact ⟨⟨by omega, by omega⟩, by omega⟩
  have HC := Lib.hid (HBY.out (db + 3) ⟨db + 2, 0, none⟩ W hext (by omega) (by omega) hRI)
  have HLT := Lib.hid (show w.heap.size < db by omega)
  rw [hW, hdb]
  clear hRI hext hi0 hrow hsW hxW hW hdb HBY HR HRA HOB HX2 hg0 hs0 hx0 hs2 hF1 hF2 hF3 hlc
  refine HC.out.mono ?_
  have HLTv := HLT.out
  have hne1 : w.heap.size ≠ db := by omega
  rintro e w3 (⟨l, v, rfl, ⟨rb, db', hρ, _, _, _, h5, ⟨_, f1, f2, _, f4, f5⟩, ⟨A', c', h7, hrd, hlc', _⟩, h8⟩, hJ⟩ | ⟨n, ch, rfl, ⟨rb, db', hρ, _, _, _, h5, ⟨f1, f2, _, f4, f5⟩, h7, rfl, hn0⟩, hJ⟩ | ⟨x, rfl, ⟨l, rb, db', hρ, _, _, _, h5, ⟨_, f1, f2, _, f4, f5⟩, ⟨A', c', h7, _⟩, _⟩, hJ⟩)
  · obtain rfl : db' = db := by omega
    obtain ⟨M, hM⟩ : ∃ M, l.length = M := ⟨_, rfl⟩
    rw [hM] at h7 hlc' h8
    have hz : (l = [] ↔ M = 0) := by rw [← hM]; exact List.length_eq_zero_iff.symm
    have c1 : w3.cell? ⟨db' + 1, 0, none⟩ = some (.pointer (some ⟨db', 0, none⟩)) := by rw [cell_of_row w3 _ 0 _ _ _ f4]; rfl
    have c2 : w3.cell? ⟨db', 1, none⟩ = some (.slice A' M c') := by rw [cell_of_row w3 _ 1 _ _ _ h7]; rfl
    have c3 : w3.cell? ⟨w.heap.size, 0, none⟩ = some (.int .i64 0) := by rw [cell_of_row w3 _ 0 _ _ _ f5]; rfl
    have z3 : w3.frozen? ⟨w.heap.size, 0, none⟩ = false := frozen_of_row w3 _ 0 _ _ f5
    have H7 := Lib.hid h7
    have HJ := Lib.hid hJ
    have H5 := Lib.hid h5
    have HQ := Lib.hid (fun tmps (r : Int) ht hR => leaves_quiet tmps (ReadE J w) w.heap.size db' rb (.slice A' M c') r w3 ht HLT.out h7 c1 c3 hR)
    clear h7 hJ h5 f4 f5 hrd hlc'
    by_cases hM0 : M = 0
    · have d1 : decide (0 < M) = false := decide_eq_false (by omega)
      have d2 : decide ((0 : Int) < (M : Int)) = false := decide_eq_false (by omega)
      have hl0 : l = [] := hz.2 hM0
      go_wp2
      exact HQ.out _ 0 rfl (fun w' ho => ⟨_, w3, .done l, by omega, HJ.out, ho, by rw [hl0]; rfl⟩)
    · have d1 : decide (0 < M) = true := decide_eq_true (by omega)
      have d2 : decide ((0 : Int) < (M : Int)) = true := decide_eq_true (by omega)
      have hl0 : l ≠ [] := fun h => hM0 (hz.1 h)
      go_wp2
      exact HQ.out _ 3 rfl (fun w' ho => ⟨_, w3, .done l, by omega, HJ.out, ho, by show _ = _; rw [if_neg hl0]⟩)
  · obtain rfl : db' = db := by omega
    have c1 : w3.cell? ⟨db' + 1, 0, none⟩ = some (.pointer (some ⟨db', 0, none⟩)) := by rw [cell_of_row w3 _ 0 _ _ _ f4]; rfl
    exact leaves_tells _ (ReadE J w) w.heap.size db' rb n _ w3 rfl HLT.out hn0 h7 c1 f5 (fun w' ho => ⟨_, w3, .fails n, by omega, hJ, ho, rfl⟩)
  · obtain rfl : db' = db := by omega
    have c1 : w3.cell? ⟨db' + 1, 0, none⟩ = some (.pointer (some ⟨db', 0, none⟩)) := by rw [cell_of_row w3 _ 0 _ _ _ f4]; rfl
    exact leaves_dies _ (ReadE J w) w.heap.size db' rb _ x w3 HLT.out h7 c1 (fun w' ho => ⟨_, w3, .dies x, by omega, hJ, ho, [], rfl, by simp⟩)

theorem codecSaid : CodecSaid rdr where
  keep := fun lo hi B ρ w w' l h hk _ => cd_keep lo hi B ρ w w' l h hk
  sm := fun _ _ _ _ _ _ ⟨_, _, _, _, _, _, _, _, h7, h8⟩ => ⟨h7.sm, h8⟩
  number := fun lo hi B ρ w l m h _ => cd_Number lo hi B ρ w l m h
  count := fun lo hi B ρ w l m h hm => cd_Count lo hi B ρ w l m h hm
  text := fun lo hi B ρ w l m h hm => cd_Text lo hi B ρ w l m h hm
  digest := fun lo hi B ρ w l h => cd_Digest lo hi B ρ w l h
  fail := fun lo hi B ρ w l n h _ => cd_Fail lo hi B ρ w l n h
  read := fun b B cb fn caps w J hF hr _ hl hby => cd_Read b B cb fn caps w J hF hr hl hby
  layN := fun base v l n w hm hs hl hn hb => cd_layN base v l n w hm hs hl hn hb
  layT := fun base v l t A ca w hm hs hr _ hl ht _ hb => cd_layT base v l t A ca w hm hs hr hl ht hb
  layD := fun base v l t w hm hs hst ht hl hb => cd_layD base v l t w hm hs hst ht hl hb
end Go.Proofs.Ytlkaggjnfidliaa

/-
  An argument that is a slice of bytes, or of points, reads as a list. Conditions: none.
-/
namespace Go.Proofs.Ytlkaggjnfidliaa
open Go.RowKit
open Go.ChangeShapes Go.WideShapes Go.ChangeAt
open Pol (co Sm)

section
variable {H : Type} {enc : TypeId × Value → H} {w : World} {base : Nat} {spare : Nat → Bool} {held : Bool}
theorem open_bytes {fuel len cap : Nat} {a : Option Addr} {x : DataW H × List MemPlace} (h : DataW.trod enc Try.prog w base spare held fuel 22 [.slice a len cap] = some x) :
    ∃ l : List Nat, l.length = len ∧ len ≤ cap ∧ Rd w a l := by
  rcases open_ints Try.underlying22 Try.underlying5 (by kernel_rfl) h with ⟨hcs, _⟩ | ⟨a', len', cap', zs, hcs, _, hl, _, hz, _, hcell, hwz⟩
  · simp at hcs
    obtain ⟨rfl, rfl, rfl⟩ := hcs
    exact ⟨[], rfl, Nat.le_refl _, Rd.nil _ _⟩
  · simp at hcs
    obtain ⟨rfl, rfl, rfl⟩ := hcs
    have hlz : len ≤ zs.length := by rw [hz]; split <;> omega
    have hnat : ∀ i, i < zs.length → ∃ n : Nat, zs.getD i 0 = (n : Int) ∧ n < 256 := fun i hi => by
      have hm : zs.getD i 0 ∈ zs := by rw [List.getD_eq_getElem?_getD, List.getElem?_eq_getElem hi]; exact List.getElem_mem hi
      exact nat_u8 (hwz _ hm)
    refine ⟨(List.range len).map (fun i => (zs.getD i 0).toNat), by simp, hl, ?_, fun i hi => ?_⟩
    · refine Pol.co_lt_of (fun v hv => ?_)
      obtain ⟨i, hi, rfl⟩ := List.mem_map.1 hv
      obtain ⟨n, hn, hn'⟩ := hnat i (by have := List.mem_range.1 hi; omega)
      show (zs.getD i 0).toNat < 256
      rw [hn]; omega
    · have hi' : i < len := by simpa using hi
      obtain ⟨b, o, rfl, hc⟩ := ints_at hcell (by omega)
      refine ⟨b, o, rfl, ?_⟩
      rw [hc i (by omega)]
      obtain ⟨n, hn, _⟩ := hnat i (by omega)
      congr 2
      unfold co
      rw [List.getElem?_map, List.getElem?_range hi']
      show zs.getD i 0 = (((zs.getD i 0).toNat : Nat) : Int)
      rw [hn]; omega
end
end Go.Proofs.Ytlkaggjnfidliaa

/-
  An argument that is a slice of steps reads as a list of steps. Conditions: none.
-/
namespace Go.Proofs.Ytlkaggjnfidliaa
open Go.RowKit
open Go.ChangeShapes Go.WideShapes Go.ChangeAt
open Pol (co Sm)

/-- Steps as they come in. -/
def AStp (w : World) (A : Option Addr) (l : List (Int × Nat × List Nat)) : Prop := TRd w A l ∧ l.length ≤ maxLen
section
variable {H : Type} {enc : TypeId × Value → H} {w : World} {base : Nat} {spare : Nat → Bool} {held : Bool}
theorem step_bytes {fuel : Nat} {v : Value} {x : DataW H × List MemPlace} (h : DataW.trod enc Try.prog w base spare held fuel 22 [v] = some x) :
    ∃ (q : List Nat) (B : Option Addr) (c : Nat), v = .slice B q.length c ∧ q.length ≤ c ∧ Rd w B q := by
  obtain ⟨B, n, c, hv⟩ : ∃ B n c, v = .slice B n c := by
    rcases Go.Deep.open_slice Try.underlying22 h with ⟨e, _⟩ | ⟨a2, l2, c2, _, _, _, _, e, _⟩
    · exact ⟨none, 0, 0, by simpa using e⟩
    · exact ⟨some a2, l2, c2, by simpa using e⟩
  subst hv
  obtain ⟨q, hq, hqc, hqr⟩ := open_bytes h
  exact ⟨q, B, c, by rw [hq], by rw [hq]; exact hqc, hqr⟩
/-- One step, by its three cells. -/
theorem open_step {fuel : Nat} {cs : List Value} {x : DataW H × List MemPlace} (h : DataW.trod enc Try.prog w base spare held fuel 34 cs = some x) :
    ∃ (k : Int) (n : Nat) (q : List Nat) (B : Option Addr) (c : Nat), cs = [.int .i64 k, .int .u64 (n : Int), .slice B q.length c] ∧ n < 18446744073709551616 ∧ q.length ≤ c ∧ Rd w B q := by
  obtain ⟨xs, m, _, _, hl, hxl, hf⟩ := DataW.trod_struct Try.underlying34 h
  have hc : cs.length = 3 := by rw [hl]; kernel_rfl
  have ci : Try.prog.cellsOf 3 = 1 := by kernel_rfl
  have cu : Try.prog.cellsOf 32 = 1 := by kernel_rfl
  have cb : Try.prog.cellsOf 22 = 1 := by kernel_rfl
  match cs, hc with
  | [v0, v1, v2], _ =>
    match xs, hxl with
    | [y0, y1, y2], _ =>
      have g0 := hf 0 _ rfl
      have g1 := hf 1 _ rfl
      have g2 := hf 2 _ rfl
      simp [ci, cu, cb] at g0 g1 g2
      obtain ⟨k, e0, _, _⟩ := DataW.trod_int Try.underlying3 g0
      obtain ⟨z, e1, _, w1⟩ := DataW.trod_int Try.underlying32 g1
      obtain ⟨q, B, c, e2, h1, h2⟩ := step_bytes g2
      obtain ⟨n, rfl, hn⟩ := nat_u64 w1
      simp only [List.cons.injEq, and_true] at e0 e1
      subst e0; subst e1; subst e2
      exact ⟨k, n, q, B, c, rfl, hn, h1, h2⟩
theorem open_steps {fuel len cap : Nat} {a : Option Addr} {x : DataW H × List MemPlace} (h : DataW.trod enc Try.prog w base spare held fuel 23 [.slice a len cap] = some x) :
    ∃ l : List (Int × Nat × List Nat), l.length = len ∧ len ≤ cap ∧ AStp w a l := by
  rcases Go.Deep.open_slice Try.underlying23 h with ⟨hcs, _⟩ | ⟨a', len', cap', m, n, D, Pl, hcs, _, hl, hcm, hm, _, hall⟩
  · simp at hcs
    obtain ⟨rfl, rfl, rfl⟩ := hcs
    exact ⟨[], rfl, Nat.le_refl _, TRd.nil _ _, Nat.zero_le _⟩
  · simp at hcs
    obtain ⟨rfl, rfl, rfl⟩ := hcs
    have hlm : len ≤ m := by rw [hm]; split <;> omega
    have ce : Try.prog.cellsOf 34 = 3 := by kernel_rfl
    rw [ce] at hall
    have each : ∀ i, i < len → ∃ q : Int × Nat × List Nat, q.2.1 < 18446744073709551616 ∧ w.cell? (a'.add (i * 3)) = some (.int .i64 q.1) ∧ w.cell? (a'.add (i * 3 + 1)) = some (.int .u64 (q.2.1 : Int)) ∧ ∃ B c, w.cell? (a'.add (i * 3 + 2)) = some (.slice B q.2.2.length c) ∧ q.2.2.length ≤ c ∧ Rd w B q.2.2 := fun i hi => by
      obtain ⟨cs', h1, h2⟩ := hall i (by omega)
      obtain ⟨_, hlen, hcell⟩ := World.cells?_some h1
      obtain ⟨k, n, q, B, c, rfl, h3, h4, h5⟩ := open_step h2
      have e0 := hcell 0 (by omega)
      have e1 := hcell 1 (by omega)
      have e2 := hcell 2 (by omega)
      rw [Go.Deep.add_add] at e0 e1 e2
      exact ⟨(k, n, q), h3, by simpa using e0, by simpa using e1, B, c, by simpa using e2, h4, h5⟩
    obtain ⟨q, hq⟩ := Go.Deep.choose_lt each
    have hat : ∀ i, i < len → ((List.range len).map q)[i]? = some (q i) := fun i hi => by rw [List.getElem?_map, List.getElem?_range hi]; rfl
    have hw : ∀ i, i < len → kd ((List.range len).map q) i = (q i).1 ∧ nb ((List.range len).map q) i = (q i).2.1 ∧ sb ((List.range len).map q) i = (q i).2.2 := fun i hi => by
      unfold kd nb sb
      rw [hat i hi]
      exact ⟨rfl, rfl, rfl⟩
    refine ⟨(List.range len).map q, by simp, hl, fun i hi => ?_, by simp; omega⟩
    have hi' : i < len := by simpa using hi
    obtain ⟨h0, h1, h2, B, c, h3, h4, h5⟩ := hq i hi'
    obtain ⟨b, o, spot⟩ := a'
    have hspot : spot = none := by
      have h0 := (hq 0 (by omega)).2.1
      simpa [Addr.add] using World.cell?_spot h0
    subst hspot
    rw [(hw i hi').1, (hw i hi').2.1, (hw i hi').2.2]
    exact ⟨b, o, B, c, rfl, by rw [← Addr.add_mid]; exact h1, by rw [Nat.add_assoc, ← Addr.add_mid]; exact h2, by rw [Nat.add_assoc, ← Addr.add_mid]; exact h3, h4, h5, h0⟩
end
end Go.Proofs.Ytlkaggjnfidliaa

/-
  The law CodecPanics, walked, under what layer 8's functions are to do. Conditions: none.
-/
namespace Go.Proofs.Ytlkaggjnfidliaa
open Go.RowKit
open Pol (co Sm)

theorem drop_stays : ∀ (l : List PanicEntry), (∀ p ∈ l, p.goexit = false) → l.dropWhile (fun p => !p.goexit) = []
  | [], _ => rfl
  | p :: l, h => by
    rw [List.dropWhile_cons, h p (by simp)]
    exact drop_stays l (fun q hq => h q (by simp [hq]))
set_option maxHeartbeats 800000 in
theorem pan8_by (I : Rdr) (lo hi g : Nat) (B : Option Addr) (ρ : Addr) (x : Int) (b : List Nat) (w : World) (hI : I.RI lo hi B ρ w b) (h0 : w.cell? ⟨g, 0, none⟩ = some (.int .i64 x)) :
    Calls Try.prog 44 #[.pointer (some ρ), .pointer (some ⟨g, 0, none⟩)] w (ByE I lo hi B ρ (fun _ w' y => y = .dies x ∧ w = w')) := by
  have HI := Lib.hid hI
  clear hI
  go_enter Try.func44, Try.ntmps44
  go_wp2
  exact ⟨rfl, .inr (.inr ⟨x, rfl, ⟨b, HI.out⟩, rfl, rfl⟩)⟩

set_option maxHeartbeats 800000 in
theorem pan8_catch (g r : Nat) (x : Int) (older : List PanicEntry) (w : World) (h0 : w.cell? ⟨g, 0, none⟩ = some (.int .i64 x)) (h1 : w.cell? ⟨r, 0, none⟩ = some (.bool false)) (hz : w.frozen? ⟨r, 0, none⟩ = false) :
    CallsD Try.prog 43 #[.pointer (some ⟨g, 0, none⟩), .pointer (some ⟨r, 0, none⟩)] (.panicking ({ v := .iface 3 (.int .i64 x), recovered := false } :: older)) w fun e u' w' =>
      e = .returned (.tuple #[]) ∧ u' = .panicking ({ v := .iface 3 (.int .i64 x), recovered := true } :: older) ∧ w' = w.setCell ⟨r, 0, none⟩ (.bool true) := by
  refine callsD_of_wpS Try.func43 rfl fun c₀ cs hu => ?_
  apply wpS_seq
  apply wpS_region
  simp [wpOpsS, go_sem, recoverD, hu, Try.ntmps43, Exit.thenS]
  rw [show (#[Value.pointer (some ⟨g, 0, none⟩), Value.pointer (some ⟨r, 0, none⟩)] ++ (((Array.replicate 15 undef).setIfInBounds 3 (Value.iface 3 (Value.int IntKind.i64 x))).setIfInBounds 0 (Value.iface 3 (Value.int IntKind.i64 x)))) = #[Value.pointer (some ⟨g, 0, none⟩), Value.pointer (some ⟨r, 0, none⟩), Value.iface 3 (Value.int IntKind.i64 x), undef, undef, Value.iface 3 (Value.int IntKind.i64 x), undef, undef, undef, undef, undef, undef, undef, undef, undef, undef, undef] from rfl]
  refine wpS_of_wp ?_
  have hta : ∀ (v : Value) (W : World), (Instr.typeAssert (.iface 3 v) 20 3 true).run Try.prog W = .ok (.tuple #[v, .bool true]) W := fun v W => by kernel_rfl
  go_wp2
  simp [bodyPostS, results, Try.results43]

set_option maxHeartbeats 1600000 in
set_option maxRecDepth 100000 in
theorem pan8_walk (I : Rdr) (C : CodecSaid I) (b : List Nat) (B : Option Addr) (cb : Nat) (x : Int) (w : World) (hr : Rd w B b) (hc : b.length ≤ cb) (hl : b.length ≤ 400) :
    Calls Try.prog 33 #[.slice B b.length cb, .int .i64 x] w (Holds w) := by
  have hmf : ∀ (fn : Fn) (first cap : Array Value) (w : World), (Instr.makeFunc fn first cap).run Try.prog w = .ok (.func fn first cap) w := fun _ _ _ _ => rfl
  have HR := Lib.hid hr
  have HC := Lib.hid C
  have HL := Lib.hid hl
  clear hr C
  go_enter_defers Try.func33, Try.ntmps33
  go_wp2_with fail
  have hx : Ext w ((w.alloc (.cells #[.int .i64 x] 3)).alloc (.cells #[.bool false] 4)) := ((Ext.refl w).alloc _).alloc _
  have hsz : ((w.alloc (.cells #[.int .i64 x] 3)).alloc (.cells #[.bool false] 4)).heap.size = w.heap.size + 1 + 1 := by simp
  have h0 : ((w.alloc (.cells #[.int .i64 x] 3)).alloc (.cells #[.bool false] 4)).cell? ⟨w.heap.size, 0, none⟩ = some (.int .i64 x) :=
    (((Ext.refl (w.alloc (.cells #[.int .i64 x] 3))).alloc (.cells #[.bool false] 4)).below.cell (p := ⟨w.heap.size, 0, none⟩) (by simp)).trans (by rw [cell_of_row _ _ _ _ _ _ (heap_alloc_new w _)]; rfl)
  have h1 : ((w.alloc (.cells #[.int .i64 x] 3)).alloc (.cells #[.bool false] 4)).cell? ⟨w.heap.size + 1, 0, none⟩ = some (.bool false) := by
    have h := heap_alloc_new (w.alloc (.cells #[.int .i64 x] 3)) (.cells #[.bool false] 4)
    rw [show (w.alloc (.cells #[.int .i64 x] 3)).heap.size = w.heap.size + 1 from by simp] at h
    rw [cell_of_row _ _ _ _ _ _ h]
    rfl
  have h2 : ((w.alloc (.cells #[.int .i64 x] 3)).alloc (.cells #[.bool false] 4)).frozen? ⟨w.heap.size + 1, 0, none⟩ = false := by
    have h := heap_alloc_new (w.alloc (.cells #[.int .i64 x] 3)) (.cells #[.bool false] 4)
    rw [show (w.alloc (.cells #[.int .i64 x] 3)).heap.size = w.heap.size + 1 from by simp] at h
    exact frozen_of_row _ _ _ _ _ h
  generalize (w.alloc (.cells #[.int .i64 x] 3)).alloc (.cells #[.bool false] 4) = u at hx hsz h0 h1 h2 ⊢
  have hrd := HC.out.read b B cb 44 #[.pointer (some ⟨w.heap.size, 0, none⟩)] u (fun _ w' y => y = .dies x ∧ Ext u w') ⟨_, _, Try.func44, rfl, by kernel_rfl⟩ (HR.out.ext hx) hc (by have := HL.out; omega) (fun hi ρ w1 hx1 _ _ hI =>
    (pan8_by I _ hi w.heap.size _ ρ x b w1 hI ((hx1.below.cell (p := ⟨w.heap.size, 0, none⟩) (block_lt_of_cell h0)).trans h0)).mono fun e w2 h => ByE.mono h (fun w3 y hJ => ⟨hJ.1, by rw [← hJ.2]; exact hx1⟩))
  refine hrd.mono ?_
  rintro e w2 ⟨hi, w3, y, hhi, ⟨rfl, hx3⟩, ho, older, rfl, hgo⟩
  have hx2 : Ext u w2 := ho.ext hx3 (fun k h => h.1)
  refine leaves_cons (f := 43) (args := #[.pointer (some ⟨w.heap.size, 0, none⟩), .pointer (some ⟨w.heap.size + 1, 0, none⟩)]) (by simp) (by simp [go_sem]) ?_
  have c1 := (hx2.below.cell (p := ⟨w.heap.size + 1, 0, none⟩) (block_lt_of_cell h1)).trans h1
  refine (pan8_catch w.heap.size (w.heap.size + 1) x older w2 ((hx2.below.cell (p := ⟨w.heap.size, 0, none⟩) (block_lt_of_cell h0)).trans h0) c1 ((hx2.below.frozen (p := ⟨w.heap.size + 1, 0, none⟩) (block_lt_of_cell h1)).trans h2)).mono ?_
  rintro e u' w4 ⟨rfl, rfl, rfl⟩
  have hdw : older.dropWhile (fun p => !p.goexit) = [] := drop_stays older hgo
  have hs : settle (.panicking ({ v := .iface 3 (.int .i64 x), recovered := true } :: older)) = .returning := by
    unfold settle
    simp [hdw]
  have cf := World.cell?_setCell_same' w2 ⟨w.heap.size + 1, 0, none⟩ (.bool true) (by rw [c1]; rfl)
  simp only [hs, Leaves]
  refine ⟨.bool true, by simp [results, Try.results33, go_sem, cf], rfl, ?_⟩
  exact (hx.trans hx2).setCell (p := ⟨w.heap.size + 1, 0, none⟩) (Nat.le_succ _) _

set_option maxHeartbeats 1600000 in
theorem panics8_walk (I : Rdr) (C : CodecSaid I) (b : List Nat) (B : Option Addr) (cb : Nat) (x : Int) (w : World) (hr : Rd w B b) (hc : b.length ≤ cb) :
    Calls Try.prog 7 #[.slice B b.length cb, .int .i64 x] w (Holds w) := by
  have HAW := Lib.hid (awake8 I C w)
  have HP := Lib.hid (fun W (hx : Ext w W) (hl : b.length ≤ 400) => pan8_walk I C b B cb x W (hr.ext hx) hc hl)
  clear C hr
  generalize b.length = n at *
  by_cases hn : n ≤ 400
  · have d1 : decide (400 < (n : Int)) = false := decide_eq_false (by omega)
    go_enter Try.func7, Try.ntmps7
    go_wp2_with fail
    refine HAW.out.mono ?_
    rintro e w1 ⟨rfl, hx1⟩
    have HX1 := Lib.hid hx1
    clear hx1
    go_wp2_with fail
    refine (HP.out w1 HX1.out hn).mono ?_
    rintro e w2 ⟨rfl, hx2⟩
    have HX2 := Lib.hid (HX1.out.trans hx2)
    clear hx2
    go_wp2
    go_ret
    exact ⟨rfl, HX2.out⟩
  · have d1 : decide (400 < (n : Int)) = true := decide_eq_true (by omega)
    go_enter Try.func7, Try.ntmps7
    go_wp2_with fail
    refine HAW.out.mono ?_
    rintro e w1 ⟨rfl, hx1⟩
    have HX1 := Lib.hid hx1
    clear hx1
    go_wp2
    go_ret
    exact ⟨rfl, HX1.out⟩
end Go.Proofs.Ytlkaggjnfidliaa
