/-
  Part 3 of the texts that the seat's proofs stand on; each part of it begins with its own sentence and conditions. Conditions: those that each theorem names.
-/
import Derived.Test.YtnfgokbopndmgaaTellsPack2
import Derived.Defers
import Derived.Recover
import Derived.Laws.Pointers
import Derived.Lib.Hide
import Derived.ArgAppend
import Derived.StillTail
import Derived.Deep.Quiet
import Derived.Deep.QuietTactic
import Derived.BigQuiet
import Derived.KernelRfl
import Derived.Maps.RangeWalk

/-
  What the deferred function of layer 8's Read does: where the decoding has ended by an error it recovers and tells it; else it lets everything be. Conditions: none.
-/
namespace Go.Proofs.Ytnfgokbopndmgaa
open Go.RowKit
open Pol (co Sm)

set_option maxHeartbeats 800000 in
theorem cd_ends (db : Nat) (w : World) :
    Calls Try.prog 48 #[.pointer (some ⟨db, 0, none⟩), .iface 95 (.agg #[.pointer (some ⟨db, 0, none⟩)])] w (Tells (.bool true) w) := by
  have hta : ∀ (v : Value) (W : World), (Instr.typeAssert (.iface 95 v) 20 95 true).run Try.prog W = .ok (.tuple #[v, .bool true]) W := fun v W => by kernel_rfl
  have heq := fun W => run_eql_same ⟨db, 0, none⟩ W
  have HX := Lib.hid ((Ext.refl w).alloc (.cells #[.pointer (some ⟨db, 0, none⟩)] 95))
  go_enter Try.func48, Try.ntmps48
  go_wp2
  go_ret
  exact ⟨rfl, HX.out⟩


set_option maxHeartbeats 1600000 in
theorem cd_end_quiet (db rb g dv : Nat) (S : Value) (u : FrameMode) (w : World) (hd : w.heap[db]? = some (.cells #[.pointer (some ⟨rb, 0, none⟩), S, .int .i64 0] 89 (0, 0)))
    (hv : w.cell? ⟨dv, 0, none⟩ = some (.pointer (some ⟨db, 0, none⟩))) :
    CallsD Try.prog 47 #[.pointer (some ⟨dv, 0, none⟩), .pointer (some ⟨g, 0, none⟩)] u w fun e u' w' => u' = u ∧ (e = .returned (.tuple #[]) ∧ Only (fun k => k = db) w w') := by
  have c0 : w.cell? ⟨db, 0, none⟩ = some (.pointer (some ⟨rb, 0, none⟩)) := by rw [cell_of_row w _ 0 _ _ _ hd]; rfl
  have c1 : w.cell? ⟨db, 1, none⟩ = some S := by rw [cell_of_row w _ 1 _ _ _ hd]; rfl
  have c2 : w.cell? ⟨db, 2, none⟩ = some (.int .i64 0) := by rw [cell_of_row w _ 2 _ _ _ hd]; rfl
  have z0 : w.frozen? ⟨db, 0, none⟩ = false := frozen_of_row w _ 0 _ _ hd
  have z1 : w.frozen? ⟨db, 1, none⟩ = false := frozen_of_row w _ 1 _ _ hd
  have z2 : w.frozen? ⟨db, 2, none⟩ = false := frozen_of_row w _ 2 _ _ hd
  have HO := Lib.hid (((Only.put w db 0 (.pointer none)).trans (Only.put _ db 1 (.slice none 0 0))).trans (Only.put _ db 2 (.int .i64 0)))
  clear hd
  refine callsD_of_wp Try.func47 rfl ?_
  simp only [Try.ntmps47, List.size_toArray, List.length_cons, List.length_nil, Nat.reduceAdd, Nat.reduceSub, Array.replicate_succ, Array.replicate_zero, List.push_toArray, List.append_toArray, List.nil_append, List.cons_append]
  go_wp2
  exact ⟨rfl, .tuple #[], by simp [results, Try.results47], rfl, HO.out⟩

set_option maxHeartbeats 3200000 in
theorem cd_end_tells (db rb g dv n : Nat) (S : Value) (w : World) (hd : w.heap[db]? = some (.cells #[.pointer (some ⟨rb, 0, none⟩), S, .int .i64 (n : Int)] 89 (0, 0)))
    (hv : w.cell? ⟨dv, 0, none⟩ = some (.pointer (some ⟨db, 0, none⟩))) (hg : w.heap[g]? = some (.cells #[.int .i64 0] 27 (0, 0))) (hgd : g ≠ db) (hvd : dv ≠ db) (hn : 0 < n) :
    CallsD Try.prog 47 #[.pointer (some ⟨dv, 0, none⟩), .pointer (some ⟨g, 0, none⟩)] (.panicking (En db)) w fun e u' w' =>
      e = .returned (.tuple #[]) ∧ u' = .panicking [{ v := .iface 95 (.agg #[.pointer (some ⟨db, 0, none⟩)]), recovered := true }] ∧ Only (fun k => k = db ∨ k = g) w w' ∧ w'.cell? ⟨g, 0, none⟩ = some (.int .i64 (n : Int)) := by
  have c0 : w.cell? ⟨db, 0, none⟩ = some (.pointer (some ⟨rb, 0, none⟩)) := by rw [cell_of_row w _ 0 _ _ _ hd]; rfl
  have c1 : w.cell? ⟨db, 1, none⟩ = some S := by rw [cell_of_row w _ 1 _ _ _ hd]; rfl
  have c2 : w.cell? ⟨db, 2, none⟩ = some (.int .i64 (n : Int)) := by rw [cell_of_row w _ 2 _ _ _ hd]; rfl
  have z0 : w.frozen? ⟨db, 0, none⟩ = false := frozen_of_row w _ 0 _ _ hd
  have z1 : w.frozen? ⟨db, 1, none⟩ = false := frozen_of_row w _ 1 _ _ hd
  have z2 : w.frozen? ⟨db, 2, none⟩ = false := frozen_of_row w _ 2 _ _ hd
  obtain ⟨W, hW⟩ : ∃ W, ((w.setCell ⟨db, 0, none⟩ (.pointer none)).setCell ⟨db, 1, none⟩ (.slice none 0 0)).setCell ⟨db, 2, none⟩ (.int .i64 0) = W := ⟨_, rfl⟩
  have ho : Only (fun k => k = db) w W := by rw [← hW]; exact ((Only.put w db 0 _).trans (Only.put _ db 1 _)).trans (Only.put _ db 2 _)
  have d1 : decide (n = 0) = false := decide_eq_false (by omega)
  have d2 : ((n : Int) == 0) = false := by simp; omega
  refine callsD_of_wpS Try.func47 rfl fun c₀ cs hu => ?_
  simp only [Try.ntmps47, List.size_toArray, List.length_cons, List.length_nil, Nat.reduceAdd, Nat.reduceSub, Array.replicate_succ, Array.replicate_zero, List.push_toArray, List.append_toArray, List.nil_append, List.cons_append]
  refine wpS_seq (wpS_of_wp ?_)
  go_wp2
  simp only [Exit.thenS]
  refine wpS_seq (wpS_of_wp ?_)
  go_wp2
  simp only [Exit.thenS]
  have hvW := ho.cell hv hvd
  have hgW : W.heap[g]? = some (.cells #[.int .i64 0] 27 (0, 0)) := (ho.block g (Array.getElem?_eq_some_iff.1 hg).1 hgd).trans hg
  have HGW := Lib.hid hgW
  have HO := Lib.hid ho
  clear c0 c1 c2 z0 z1 z2 hd hg hgW ho hW
  refine wpS_seq (wpS_of_wp ?_)
  go_wp2
  simp only [Exit.thenS]
  refine wpS_seq (wpS_seq ?_)
  apply wpS_region
  simp [wpOpsS, go_sem, recoverD, hu, Exit.thenS, En]
  refine wpS_of_wp ?_
  have HE := Lib.hid (cd_ends db W)
  go_wp2_with fail
  refine HE.out.mono ?_
  rintro e w1 ⟨rfl, hx⟩
  have hg1 : w1.heap[g]? = some (.cells #[.int .i64 0] 27 (0, 0)) := (hx.below.block g (Array.getElem?_eq_some_iff.1 HGW.out).1).trans HGW.out
  have c1 : w1.cell? ⟨g, 0, none⟩ = some (.int .i64 0) := by rw [cell_of_row w1 _ 0 _ _ _ hg1]; rfl
  have z1 : w1.frozen? ⟨g, 0, none⟩ = false := frozen_of_row w1 _ 0 _ _ hg1
  have HO1 := Lib.hid (((HO.out.trans (Only.of_ext hx)).mono (Y := fun k => k = db ∨ k = g) (fun _ _ h => .inl h)).trans ((Only.put w1 g 0 (.int .i64 (n : Int))).mono fun _ _ h => .inr h))
  have HC1 := Lib.hid (World.cell?_setCell_same' w1 ⟨g, 0, none⟩ (.int .i64 (n : Int)) (by rw [c1]; rfl))
  clear hx hg1 hv hvW
  go_wp2
  simp only [Exit.thenS]
  refine wpS_of_wp ?_
  go_wp2
  exact ⟨rfl, _, rfl, .tuple #[], by simp [results, Try.results47], rfl, rfl, HO1.out, HC1.out⟩
end Go.Proofs.Ytnfgokbopndmgaa

/-
  What Read of layer 8 does. Conditions: no more than 2^16 bytes.
-/
namespace Go.Proofs.Ytnfgokbopndmgaa
open Go.RowKit
open Pol (co Sm)

theorem old3 (w : World) (A B C : Obj) : (((w.alloc A).alloc B).alloc C).heap[w.heap.size]? = some A :=
  (heap_alloc_old _ _ (by simp; omega)).trans (heap_alloc2_old _ _ _)
theorem mid3 (w : World) (A B C : Obj) : (((w.alloc A).alloc B).alloc C).heap[w.heap.size + 1]? = some B :=
  (heap_alloc_old _ _ (by simp)).trans (heap_alloc2_new _ _ _)
theorem run_func_not_nil (fn : FuncId) (caps : Array Value) (w : World) : (binOp .neq 68 (.func (.func fn) #[] caps) .nilFunc).run Try.prog w = .ok (.bool true) w := by
  have h : ∀ d, (Op.equalIn (d + 1) 68 (.func (.func fn) #[] caps) .nilFunc).run Try.prog w = .ok false w := fun d => by
    simp [Op.equalIn, run_underlying Try.underlying68]
  have h' : (Op.equal 68 (.func (.func fn) #[] caps) .nilFunc).run Try.prog w = .ok false w := h 9999
  simp only [binOp]
  simp [h']

theorem read_results (tmps : Array Value) (w : World) (g : Nat) (n : Int) (ht : tmps.getD 4 undef = .pointer (some ⟨g, 0, none⟩)) (hc : w.cell? ⟨g, 0, none⟩ = some (.int .i64 n)) :
    (results Try.f33 tmps).run Try.prog w = .ok (.int .i64 n) w := by
  have ht' : tmps[4]?.getD undef = .pointer (some ⟨g, 0, none⟩) := by simpa using ht
  simp [results, Try.results33, go_sem, ht', hc]
theorem only_done {lo db : Nat} {w w' : World} (h : Only (fun k => k = db ∨ k = lo) w w') (h1 : lo < db) : Only (Btw lo (db + 3)) w w' := h.mono fun k _ hk => by
  rcases hk with rfl | rfl
  · exact ⟨by omega, by omega⟩
  · exact ⟨by omega, by omega⟩
/-- What comes behind the function that reads: the deferred one, which lets be; which recovers. -/
theorem leaves_quiet (tmps : Array Value) (R : Ending → World → Prop) (lo db rb : Nat) (S : Value) (r : Int) (w : World) (ht : tmps.getD 4 undef = .pointer (some ⟨lo, 0, none⟩)) (h1 : lo < db)
    (hd : w.heap[db]? = some (.cells #[.pointer (some ⟨rb, 0, none⟩), S, .int .i64 0] 89 (0, 0))) (hv : w.cell? ⟨db + 1, 0, none⟩ = some (.pointer (some ⟨db, 0, none⟩))) (hg : w.cell? ⟨lo, 0, none⟩ = some (.int .i64 0))
    (hR : ∀ w', Only (Btw lo (db + 3)) w w' → R (.returned (.int .i64 r)) w') :
    Leaves Try.prog Try.f33 tmps R [{ target := .fn (.func 47) #[.pointer (some ⟨db + 1, 0, none⟩), .pointer (some ⟨lo, 0, none⟩)], args := #[] }] .returning (w.setCell ⟨lo, 0, none⟩ (.int .i64 r)) := by
  refine leaves_cons (f := 47) (args := #[.pointer (some ⟨db + 1, 0, none⟩), .pointer (some ⟨lo, 0, none⟩)]) (by simp) (by simp [go_sem]) ?_
  refine (cd_end_quiet db rb lo (db + 1) S _ _ ((heap_setCell_other w ⟨lo, 0, none⟩ db _ (by show db ≠ lo; omega)).trans hd) ((Only.put w lo 0 _).cell hv (by omega))).mono ?_
  rintro e u' w' ⟨rfl, rfl, ho⟩
  have hs : settle .returning = .returning := rfl
  simp only [hs, Leaves]
  have hc := ho.cell (World.cell?_setCell_same' w ⟨lo, 0, none⟩ (.int .i64 r) (by rw [hg]; rfl)) (by omega)
  exact ⟨_, read_results tmps w' lo r ht hc, hR w' (only_done (((Only.put w lo 0 _).mono fun _ _ h => .inr h).trans (ho.mono fun _ _ h => .inl h)) h1)⟩
theorem leaves_dies (tmps : Array Value) (R : Ending → World → Prop) (lo db rb : Nat) (S : Value) (x : Int) (w : World) (h1 : lo < db)
    (hd : w.heap[db]? = some (.cells #[.pointer (some ⟨rb, 0, none⟩), S, .int .i64 0] 89 (0, 0))) (hv : w.cell? ⟨db + 1, 0, none⟩ = some (.pointer (some ⟨db, 0, none⟩)))
    (hR : ∀ w', Only (Btw lo (db + 3)) w w' → R (.panicked [{ v := .iface 3 (.int .i64 x), recovered := false }]) w') :
    Leaves Try.prog Try.f33 tmps R [{ target := .fn (.func 47) #[.pointer (some ⟨db + 1, 0, none⟩), .pointer (some ⟨lo, 0, none⟩)], args := #[] }] (.panicking [{ v := .iface 3 (.int .i64 x), recovered := false }]) w := by
  refine leaves_cons (f := 47) (args := #[.pointer (some ⟨db + 1, 0, none⟩), .pointer (some ⟨lo, 0, none⟩)]) (by simp) (by simp [go_sem]) ?_
  refine (cd_end_quiet db rb lo (db + 1) S _ _ hd hv).mono ?_
  rintro e u' w' ⟨rfl, rfl, ho⟩
  have hs : settle (.panicking [{ v := .iface 3 (.int .i64 x), recovered := false }]) = .panicking [{ v := .iface 3 (.int .i64 x), recovered := false }] := rfl
  simp only [hs, Leaves]
  exact hR w' (only_done (ho.mono fun _ _ h => .inl h) h1)
theorem leaves_tells (tmps : Array Value) (R : Ending → World → Prop) (lo db rb n : Nat) (S : Value) (w : World) (ht : tmps.getD 4 undef = .pointer (some ⟨lo, 0, none⟩)) (h1 : lo < db) (hn : 0 < n)
    (hd : w.heap[db]? = some (.cells #[.pointer (some ⟨rb, 0, none⟩), S, .int .i64 (n : Int)] 89 (0, 0))) (hv : w.cell? ⟨db + 1, 0, none⟩ = some (.pointer (some ⟨db, 0, none⟩))) (hg : w.heap[lo]? = some (.cells #[.int .i64 0] 27 (0, 0)))
    (hR : ∀ w', Only (Btw lo (db + 3)) w w' → R (.returned (.int .i64 (n : Int))) w') :
    Leaves Try.prog Try.f33 tmps R [{ target := .fn (.func 47) #[.pointer (some ⟨db + 1, 0, none⟩), .pointer (some ⟨lo, 0, none⟩)], args := #[] }] (.panicking (En db)) w := by
  refine leaves_cons (f := 47) (args := #[.pointer (some ⟨db + 1, 0, none⟩), .pointer (some ⟨lo, 0, none⟩)]) (by simp) (by simp [go_sem]) ?_
  refine (cd_end_tells db rb lo (db + 1) n S _ hd hv hg (by omega) (by omega) hn).mono ?_
  rintro e u' w' ⟨rfl, rfl, ho, hc⟩
  have hs : settle (.panicking [{ v := .iface 95 (.agg #[.pointer (some ⟨db, 0, none⟩)]), recovered := true }]) = .returning := rfl
  simp only [hs, Leaves]
  exact ⟨_, read_results tmps w' lo n ht hc, hR w' (only_done ho h1)⟩

set_option maxHeartbeats 3200000 in
theorem cd_Read (b : List Nat) (B : Option Addr) (cb : Nat) (fn : FuncId) (caps : Array Value) (w : World) (J : Nat → World → By → Prop) (hfn : HasBody fn) (hr : Rd w B b) (hl : b.length ≤ 65536)
    (hby : ∀ hi ρ w1, Ext w w1 → w.heap.size ≤ hi → hi ≤ w1.heap.size → rdr.RI w.heap.size hi (nz b B) ρ w1 b → Calls Try.prog fn (#[.pointer (some ρ)] ++ caps) w1 (ByE rdr w.heap.size hi (nz b B) ρ J)) :
    Calls Try.prog 33 #[.slice B b.length cb, .func (.func fn) #[] caps] w (ReadE J w) := by
  have hmf : ∀ (fn : Fn) (first cap : Array Value) (w : World), (Instr.makeFunc fn first cap).run Try.prog w = .ok (.func fn first cap) w := fun _ _ _ _ => rfl
  obtain ⟨F, cF, hF1, hF2, hF3⟩ := hfn
  have hcf : ∀ (args : Array Value) (W : World), (callFunc fn args).run Try.prog W = .ok (.enter fn args) W := fun args W => by
    have h1 : F.name ≠ "runtime.NumGoroutine" := by simpa using hF3
    simp [callFunc, hF1, h1, hF2]
  have HR := Lib.hid hr
  have HBY := Lib.hid hby
  obtain ⟨L, hL⟩ : ∃ L, b.length = L := ⟨_, rfl⟩
  have HL := Lib.hid hL
  rw [hL] at hl ⊢
  clear hr hby hL
  have hx0 : Ext w (w.alloc (.cells #[.int .i64 0] 27)) := (Ext.refl w).alloc _
  have hg0 := heap_alloc_new w (.cells #[.int .i64 0] 27)
  have hs0 : (w.alloc (.cells #[.int .i64 0] 27)).heap.size = w.heap.size + 1 := by simp
  go_enter_defers Try.func33, Try.ntmps33
  go_wp2_with (at_builtin; refine wpList_append_rd rfl (.const (.slice none 0 0)) (.tmp 6) rfl (w.heap.size + 1) (.slice none 0 0) [] b rfl (Mine.nil _ _) B L cb rfl HL.out (HR.out.ext hx0) (by have := HL.out; simp; omega) (by rw [hs0]; omega) ?_; intro v' w2 hown hg hat; obtain ⟨A, c, ev, hlc, hra⟩ := hown.slice HR.out.1; have HOB := Lib.hid (fun k (h : v'.ownBlock = some k) => hown.block k h); have HX2 := Lib.hid ((Ext.refl _).more hg (fun r e => by simp [Value.ownBlock] at e)); have hev : v' = .slice A L c := (by rw [ev, List.nil_append, HL.out]); subst hev; have HRA := Lib.hid hra; have hnf := fun W => run_func_not_nil fn caps W; clear hown hg hat ev hra)
  have hs2 := HX2.out.size
  rw [hs0] at hs2
  obtain ⟨db, hdb⟩ : ∃ db, w2.heap.size = db := ⟨_, rfl⟩
  obtain ⟨W, hW⟩ : ∃ W, (((w2.alloc (.cells #[.pointer (some ⟨w2.heap.size + 1 + 1, 0, none⟩), .slice A L c, .int .i64 0] 89)).alloc (.cells #[.pointer (some ⟨w2.heap.size, 0, none⟩)] 87)).alloc (.cells #[.pointer (some ⟨w2.heap.size, 0, none⟩)] 91)) = W := ⟨_, rfl⟩
  have hxW : Ext w2 W := by rw [← hW]; exact ((((Ext.refl w2).alloc _).alloc _).alloc _)
  have hsW : W.heap.size = db + 3 := by rw [← hW, ← hdb]; simp
  have hrow : W.heap[db]? = some (.cells #[.pointer (some ⟨db + 1 + 1, 0, none⟩), .slice A L c, .int .i64 0] 89 (0, 0)) ∧ W.heap[db + 1]? = some (.cells #[.pointer (some ⟨db, 0, none⟩)] 87 (0, 0)) ∧ W.heap[db + 2]? = some (.cells #[.pointer (some ⟨db, 0, none⟩)] 91 (0, 0)) := by
    rw [← hW, ← hdb]
    refine ⟨old3 w2 _ _ _, mid3 w2 _ _ _, ?_⟩
    have h := heap_alloc_new ((w2.alloc (.cells #[.pointer (some ⟨w2.heap.size + 1 + 1, 0, none⟩), .slice A L c, .int .i64 0] 89)).alloc (.cells #[.pointer (some ⟨w2.heap.size, 0, none⟩)] 87)) (.cells #[.pointer (some ⟨w2.heap.size, 0, none⟩)] 91)
    simpa using h
  have hi0 : W.heap[w.heap.size]? = some (.cells #[.int .i64 0] 27 (0, 0)) := (hxW.below.block _ (by omega)).trans ((HX2.out.below.block _ (by rw [hs0]; omega)).trans hg0)
  have hext : Ext w W := (hx0.trans HX2.out).trans hxW
  have hRI : rdr.RI w.heap.size (db + 3) (nz b B) ⟨db + 2, 0, none⟩ W b := by
    refine ⟨db + 2, db, rfl, ⟨by omega, by omega⟩, ⟨by omega, by omega⟩, by omega, by omega, ⟨hrow.2.2, by omega, by omega, by omega, hrow.2.1, hi0⟩, ⟨A, c, ?_, HRA.out.ext hxW, by rw [← List.nil_append b]; exact hlc, fun k o e h => ?_⟩, by rw [HL.out]; exact hl⟩
    · rw [HL.out]; exact hrow.1
    · have := HOB.out k (by rw [e]; rfl)
      exact ⟨⟨by omega, by omega⟩, by omega⟩
  have HC := Lib.hid (HBY.out (db + 3) ⟨db + 2, 0, none⟩ W hext (by omega) (by omega) hRI)
  have HLT := Lib.hid (show w.heap.size < db by omega)
  rw [hW, hdb]
  clear hRI hext hi0 hrow hsW hxW hW hdb HBY HR HRA HOB HX2 hg0 hs0 hx0 hs2 hF1 hF2 hF3 hlc
  refine HC.out.mono ?_
  have HLTv := HLT.out
  have hne1 : w.heap.size ≠ db := by omega
  rintro e w3 (⟨l, v, rfl, ⟨rb, db', hρ, _, _, _, h5, ⟨_, f1, f2, _, f4, f5⟩, ⟨A', c', h7, hrd, hlc', _⟩, h8⟩, hJ⟩ | ⟨n, ch, rfl, ⟨rb, db', hρ, _, _, _, h5, ⟨f1, f2, _, f4, f5⟩, h7, rfl, hn0⟩, hJ⟩ | ⟨x, rfl, ⟨l, rb, db', hρ, _, _, _, h5, ⟨_, f1, f2, _, f4, f5⟩, ⟨A', c', h7, _⟩, _⟩, hJ⟩)
  · obtain rfl : db' = db := by omega
    obtain ⟨M, hM⟩ : ∃ M, l.length = M := ⟨_, rfl⟩
    rw [hM] at h7 hlc' h8
    have hz : (l = [] ↔ M = 0) := by rw [← hM]; exact List.length_eq_zero_iff.symm
    have c1 : w3.cell? ⟨db' + 1, 0, none⟩ = some (.pointer (some ⟨db', 0, none⟩)) := by rw [cell_of_row w3 _ 0 _ _ _ f4]; rfl
    have c2 : w3.cell? ⟨db', 1, none⟩ = some (.slice A' M c') := by rw [cell_of_row w3 _ 1 _ _ _ h7]; rfl
    have c3 : w3.cell? ⟨w.heap.size, 0, none⟩ = some (.int .i64 0) := by rw [cell_of_row w3 _ 0 _ _ _ f5]; rfl
    have z3 : w3.frozen? ⟨w.heap.size, 0, none⟩ = false := frozen_of_row w3 _ 0 _ _ f5
    have H7 := Lib.hid h7
    have HJ := Lib.hid hJ
    have H5 := Lib.hid h5
    have HQ := Lib.hid (fun tmps (r : Int) ht hR => leaves_quiet tmps (ReadE J w) w.heap.size db' rb (.slice A' M c') r w3 ht HLT.out h7 c1 c3 hR)
    clear h7 hJ h5 f4 f5 hrd hlc'
    by_cases hM0 : M = 0
    · have d1 : decide (0 < M) = false := decide_eq_false (by omega)
      have d2 : decide ((0 : Int) < (M : Int)) = false := decide_eq_false (by omega)
      have hl0 : l = [] := hz.2 hM0
      go_wp2
      exact HQ.out _ 0 rfl (fun w' ho => ⟨_, w3, .done l, by omega, HJ.out, ho, by rw [hl0]; rfl⟩)
    · have d1 : decide (0 < M) = true := decide_eq_true (by omega)
      have d2 : decide ((0 : Int) < (M : Int)) = true := decide_eq_true (by omega)
      have hl0 : l ≠ [] := fun h => hM0 (hz.1 h)
      go_wp2
      exact HQ.out _ 3 rfl (fun w' ho => ⟨_, w3, .done l, by omega, HJ.out, ho, by show _ = _; rw [if_neg hl0]⟩)
  · obtain rfl : db' = db := by omega
    have c1 : w3.cell? ⟨db' + 1, 0, none⟩ = some (.pointer (some ⟨db', 0, none⟩)) := by rw [cell_of_row w3 _ 0 _ _ _ f4]; rfl
    exact leaves_tells _ (ReadE J w) w.heap.size db' rb n _ w3 rfl HLT.out hn0 h7 c1 f5 (fun w' ho => ⟨_, w3, .fails n, by omega, hJ, ho, rfl⟩)
  · obtain rfl : db' = db := by omega
    have c1 : w3.cell? ⟨db' + 1, 0, none⟩ = some (.pointer (some ⟨db', 0, none⟩)) := by rw [cell_of_row w3 _ 0 _ _ _ f4]; rfl
    exact leaves_dies _ (ReadE J w) w.heap.size db' rb _ x w3 HLT.out h7 c1 (fun w' ho => ⟨_, w3, .dies x, by omega, hJ, ho, [], rfl, by simp⟩)

end Go.Proofs.Ytnfgokbopndmgaa

/-
  What the code's own Decode of layer 14 reads. Conditions: no more than 2^16 bytes.
-/
namespace Go.Proofs.Ytnfgokbopndmgaa
open Go.RowKit
open Pol (co Sm)

/-- What holds while an order is read into block g. -/
structure TS (lo hi g : Nat) (B : Option Addr) (ρ : Addr) (w : World) (v0 v1 v2 v3 : Value) (rest : List Nat) (w' : World) : Prop where
  ri : rdr.RI lo hi B ρ w' rest
  row : w'.heap[g]? = some (.cells #[v0, v1, v2, v3] 30)
  only : Only (fun k => Btw lo hi k ∨ k = g) w w'
  size : hi ≤ w'.heap.size
  far : g < lo
section
variable {lo hi g : Nat} {B : Option Addr} {ρ : Addr} {w w1 w2 : World} {v0 v1 v2 v3 : Value} {rest rest' : List Nat}
theorem TS.reads (h : TS lo hi g B ρ w v0 v1 v2 v3 rest w1) (ho : Only (Btw lo hi) w1 w2) (hr : rdr.RI lo hi B ρ w2 rest') : TS lo hi g B ρ w v0 v1 v2 v3 rest' w2 :=
  ⟨hr, (ho.block g (row_lt h.row) (fun hb => by have h1 := hb.1; have h2 := h.far; omega)).trans h.row, h.only.trans (ho.mono fun _ _ hb => .inl hb), Nat.le_trans h.size ho.size, h.far⟩
theorem TS.keepR (h : TS lo hi g B ρ w v0 v1 v2 v3 rest w1) (o : Nat) (v : Value) : rdr.RI lo hi B ρ (w1.setCell ⟨g, o, none⟩ v) rest :=
  cd_keep lo hi B ρ w1 _ rest h.ri (fun k hk => Below.heap_setCell _ _ _ k (fun e => by have e : k = g := e; have h1 := hk.1; have h2 := h.far; omega))
theorem TS.keepO (h : TS lo hi g B ρ w v0 v1 v2 v3 rest w1) (o : Nat) (v : Value) : Only (fun k => Btw lo hi k ∨ k = g) w (w1.setCell ⟨g, o, none⟩ v) :=
  h.only.trans (Only.of_grown (grown_set' w1 g o v) (fun k e => by injection e with e; exact .inr e.symm))
theorem TS.keepS (h : TS lo hi g B ρ w v0 v1 v2 v3 rest w1) (o : Nat) (v : Value) : hi ≤ (w1.setCell ⟨g, o, none⟩ v).heap.size := Nat.le_trans h.size (grown_set' w1 g o v).size
theorem TS.set0 (h : TS lo hi g B ρ w v0 v1 v2 v3 rest w1) (v : Value) : TS lo hi g B ρ w v v1 v2 v3 rest (w1.setCell ⟨g, 0, none⟩ v) := ⟨h.keepR 0 v, heap_setCell_same w1 g 0 _ _ v h.row, h.keepO 0 v, h.keepS 0 v, h.far⟩
theorem TS.set1 (h : TS lo hi g B ρ w v0 v1 v2 v3 rest w1) (v : Value) : TS lo hi g B ρ w v0 v v2 v3 rest (w1.setCell ⟨g, 1, none⟩ v) := ⟨h.keepR 1 v, heap_setCell_same w1 g 1 _ _ v h.row, h.keepO 1 v, h.keepS 1 v, h.far⟩
theorem TS.set2 (h : TS lo hi g B ρ w v0 v1 v2 v3 rest w1) (v : Value) : TS lo hi g B ρ w v0 v1 v v3 rest (w1.setCell ⟨g, 2, none⟩ v) := ⟨h.keepR 2 v, heap_setCell_same w1 g 2 _ _ v h.row, h.keepO 2 v, h.keepS 2 v, h.far⟩
theorem TS.set3 (h : TS lo hi g B ρ w v0 v1 v2 v3 rest w1) (v : Value) : TS lo hi g B ρ w v0 v1 v2 v rest (w1.setCell ⟨g, 3, none⟩ v) := ⟨h.keepR 3 v, heap_setCell_same w1 g 3 _ _ v h.row, h.keepO 3 v, h.keepS 3 v, h.far⟩
end
/-- What the reading leaves. -/
def TxJ (lo g : Nat) (b : List Nat) (w : World) (hi : Nat) (w' : World) (y : By) : Prop :=
  Only (fun k => Btw lo hi k ∨ k = g) w w' ∧ match rdO b with
    | .ok o rest => y = .done rest ∧ ∃ D n c, w'.heap[g]? = some (.cells #[.int .i64 o.k, .int .i64 o.t, .int .u64 ((o.a : Nat) : Int), .slice D n c] 30) ∧ o.m.length = n ∧ n ≤ c ∧ Rd w' D o.m ∧ ∀ q p, D = some ⟨q, p, none⟩ → 0 < n → hi ≤ q
    | .er n => y = .fails n
set_option maxHeartbeats 3200000 in
theorem tx_by (lo hi g : Nat) (B : Option Addr) (ρ : Addr) (w : World) (b : List Nat) (hI : rdr.RI lo hi B ρ w b) (hrow : w.heap[g]? = some (.cells #[.int .i64 0, .int .i64 0, .int .u64 0, .slice none 0 0] 30)) (hg : g < lo) (hs : hi ≤ w.heap.size) (hsm : Sm b) :
    Calls Try.prog 34 #[.pointer (some ρ), .pointer (some ⟨g, 0, none⟩)] w (ByE rdr lo hi B ρ (TxJ lo g b w)) := by
  have H0 := Lib.hid (show TS lo hi g B ρ w (.int .i64 0) (.int .i64 0) (.int .u64 0) (.slice none 0 0) b w from ⟨hI, hrow, ⟨rfl, rfl, rfl, Nat.le_refl _, fun _ _ _ => rfl⟩, hs, hg⟩)
  have HSB := Lib.hid hsm
  clear hI hrow hg hs hsm
  go_enter Try.func34, Try.ntmps34
  go_wp2_with fail
  refine (cd_Count lo hi B ρ w b 2 H0.out.ri (by decide)).mono ?_
  rintro e w1 ⟨ho, h⟩
  cases e1 : rdN 2 b with
  | er n1 =>
    rw [e1] at h
    obtain ⟨ch, rfl, hst⟩ := h
    have hd : rdO b = .er n1 := by unfold rdO; rw [e1]; rfl
    exact ⟨rfl, .inr (.inl ⟨n1, ch, rfl, hst, ho.mono fun _ _ h => .inl h, by rw [hd]⟩)⟩
  | ok k1 b1 =>
    rw [e1] at h
    obtain ⟨v, rfl, rfl, hi1⟩ := h
    obtain ⟨q1, f1, _⟩ := vn_rdN HSB.out e1
    have hs1 : Sm b1 := (sm_split (q1 ▸ HSB.out)).2
    have H1 := Lib.hid (H0.out.reads ho hi1)
    have HS1 := Lib.hid hs1
    have HE1 := Lib.hid e1
    have c1 := cell_of_row _ g 0 _ _ _ H1.out.row
    have z1 := frozen_of_row _ g 0 _ _ H1.out.row
    have x1 : IntKind.i64.wrap (k1 : Int) = (k1 : Int) := by rw [IntKind.wrap_i64]; omega
    have H1' := Lib.hid (H1.out.set0 (.int .i64 (k1 : Int)))
    clear ho hi1 hs1 q1 f1 e1
    go_wp2_with fail
    generalize w1.setCell ⟨g, 0, none⟩ (.int .i64 (k1 : Int)) = wa at H1' ⊢
    clear c1 z1 x1 H1
    refine (cd_Count lo hi B ρ wa b1 5 H1'.out.ri (by decide)).mono ?_
    rintro e w2 ⟨ho, h⟩
    cases e2 : rdN 5 b1 with
    | er n2 =>
      rw [e2] at h
      obtain ⟨ch, rfl, hst⟩ := h
      have hd : rdO b = .er n2 := by unfold rdO; rw [HE1.out]; show ((rdN 5 b1).bind _ : Rs Od) = _; rw [e2]; rfl
      exact ⟨rfl, .inr (.inl ⟨n2, ch, rfl, hst, H1'.out.only.trans (ho.mono fun _ _ h => .inl h), by rw [hd]⟩)⟩
    | ok k2 b2 =>
      rw [e2] at h
      obtain ⟨v, rfl, rfl, hi2⟩ := h
      obtain ⟨q2, f2, _⟩ := vn_rdN HS1.out e2
      have hs2 : Sm b2 := (sm_split (q2 ▸ HS1.out)).2
      have H2 := Lib.hid (H1'.out.reads ho hi2)
      have HS2 := Lib.hid hs2
      have HE2 := Lib.hid e2
      have c1 := cell_of_row _ g 1 _ _ _ H2.out.row
      have z1 := frozen_of_row _ g 1 _ _ H2.out.row
      have x1 : IntKind.i64.wrap (k2 : Int) = (k2 : Int) := by rw [IntKind.wrap_i64]; omega
      have H2' := Lib.hid (H2.out.set1 (.int .i64 (k2 : Int)))
      clear ho hi2 hs2 q2 f2 e2
      go_wp2_with fail
      generalize w2.setCell ⟨g, 1, none⟩ (.int .i64 (k2 : Int)) = wb at H2' ⊢
      clear c1 z1 x1 H2 H1'
      refine (cd_Number lo hi B ρ wb b2 18446744073709551615 H2'.out.ri).mono ?_
      rintro e w3 ⟨ho, h⟩
      cases e3 : rdN 18446744073709551615 b2 with
      | er n3 =>
        rw [e3] at h
        obtain ⟨ch, rfl, hst⟩ := h
        have hd : rdO b = .er n3 := by unfold rdO; rw [HE1.out]; show ((rdN 5 b1).bind _ : Rs Od) = _; rw [HE2.out]; show ((rdN _ b2).bind _ : Rs Od) = _; rw [e3]; rfl
        exact ⟨rfl, .inr (.inl ⟨n3, ch, rfl, hst, H2'.out.only.trans (ho.mono fun _ _ h => .inl h), by rw [hd]⟩)⟩
      | ok k3 b3 =>
        rw [e3] at h
        obtain ⟨v, rfl, rfl, hi3⟩ := h
        have H3 := Lib.hid (H2'.out.reads ho hi3)
        have HE3 := Lib.hid e3
        have c1 := cell_of_row _ g 2 _ _ _ H3.out.row
        have z1 := frozen_of_row _ g 2 _ _ H3.out.row
        have H3' := Lib.hid (H3.out.set2 (.int .u64 (k3 : Int)))
        clear ho hi3 e3
        go_wp2_with fail
        generalize w3.setCell ⟨g, 2, none⟩ (.int .u64 (k3 : Int)) = wc at H3' ⊢
        clear c1 z1 H3 H2'
        refine (cd_Text lo hi B ρ wc b3 16 H3'.out.ri (by decide)).mono ?_
        rintro e w4 ⟨ho, h⟩
        cases e4 : rdT 16 b3 with
        | er n4 =>
          rw [e4] at h
          obtain ⟨ch, rfl, hst⟩ := h
          have hd : rdO b = .er n4 := by unfold rdO; rw [HE1.out]; show ((rdN 5 b1).bind _ : Rs Od) = _; rw [HE2.out]; show ((rdN _ b2).bind _ : Rs Od) = _; rw [HE3.out]; show ((rdT _ b3).bind _ : Rs Od) = _; rw [e4]; rfl
          exact ⟨rfl, .inr (.inl ⟨n4, ch, rfl, hst, H3'.out.only.trans (ho.mono fun _ _ h => .inl h), by rw [hd]⟩)⟩
        | ok m4 b4 =>
          rw [e4] at h
          obtain ⟨v, rfl, ⟨D, c4, rfl, hc4, hD, hDb⟩, hi4⟩ := h
          have H4 := Lib.hid (H3'.out.reads ho hi4)
          have hd : rdO b = .ok ⟨(k1 : Int), (k2 : Int), k3, m4⟩ b4 := by unfold rdO; rw [HE1.out]; show ((rdN 5 b1).bind _ : Rs Od) = _; rw [HE2.out]; show ((rdN _ b2).bind _ : Rs Od) = _; rw [HE3.out]; show ((rdT _ b3).bind _ : Rs Od) = _; rw [e4]; rfl
          have HDD := Lib.hid hd
          obtain ⟨n4, hn4⟩ : ∃ n4, m4.length = n4 := ⟨_, rfl⟩
          rw [hn4] at hc4 hDb ⊢
          have c1 := cell_of_row _ g 3 _ _ _ H4.out.row
          have z1 := frozen_of_row _ g 3 _ _ H4.out.row
          have H4' := Lib.hid (H4.out.set3 (.slice D n4 c4))
          have HFR := Lib.hid (show ∀ q p, D = some ⟨q, p, none⟩ → 0 < n4 → hi ≤ q from fun q p e h0 => Nat.le_trans H3'.out.size (hDb q p e h0))
          have HD := Lib.hid (show Rd (w4.setCell ⟨g, 3, none⟩ (.slice D n4 c4)) D m4 from hD.keep (grown_set' w4 g 3 _) (fun q p e h0 e2 => by
            injection e2 with e2
            have h1 := hDb q p e (by omega)
            have h2 := row_lt H3'.out.row
            omega))
          have HN := Lib.hid (And.intro hn4 hc4)
          clear ho hi4 hD hDb hd e4 hn4 hc4
          go_wp2
          go_end0
          exact .inl ⟨b4, _, rfl, H4'.out.ri, H4'.out.only, by rw [HDD.out]; exact ⟨rfl, D, n4, c4, H4'.out.row, HN.out.1, HN.out.2, HD.out, HFR.out⟩⟩
end Go.Proofs.Ytnfgokbopndmgaa

/-
  The code's own Decode of layer 14. Conditions: no more than 2^16 bytes.
-/
namespace Go.Proofs.Ytnfgokbopndmgaa
open Go.RowKit
open Pol (co Sm)

theorem results_tx14x {fn : Func} {p u : Tmp} (h : fn.results = #[.cell p 30, .tmp u]) (tmps : Array Value) (w : World) (g : Nat) (t : TypeId) (cs : Array Value) (fr : Nat × Nat)
    (hp : tmps.getD p undef = .pointer (some ⟨g, 0, none⟩)) (hg : w.heap[g]? = some (.cells cs t fr)) (hi : (Try.prog.info? 30).map (·.size) = some cs.size) :
    (results fn tmps).run Try.prog w = .ok (.tuple #[.agg cs, tmps.getD u undef]) w := by
  have hl := run_loadVar_row w g t 30 cs fr _ hg Try.underlying30 rfl hi
  rw [results_cell_tmp h, hp]
  simp [asAddr, Result.andThen, hl]
theorem dec14_pos {b : List Nat} {n : Nat} (hs : Sm b) (h : rdO b = .er n) : n ≠ 0 := by
  intro h0
  have hd : dec14 b = (n, Od.zero) := by unfold dec14; rw [h]
  have h1 := (dec_ok hs (by rw [hd]; exact h0)).1
  rw [hd] at h1
  exact absurd (show Od.zero.right from h1) (by decide)
theorem rd_only14 {X : Nat → Prop} {w w' : World} {A : Option Addr} {l : List Nat} (h : Rd w A l) (ho : Only X w w') (hne : ∀ b o, A = some ⟨b, o, none⟩ → 0 < l.length → ¬ X b) : Rd w' A l :=
  ⟨h.1, fun i hi => by
    obtain ⟨b, o, e, hc⟩ := h.2 i hi
    exact ⟨b, o, e, ho.cell hc (hne b o e (by omega))⟩⟩
theorem decR_no {b : List Nat} {w w' : World} {n : Nat} (h : dec14 b = (n, Od.zero)) (hx : Ext w w') : DecR b w (.returned (.tuple #[.agg #[.int .i64 0, .int .i64 0, .int .u64 0, .slice none 0 0], .int .i64 (n : Int)])) w' := by
  unfold DecR
  rw [h]
  exact ⟨hx, none, 0, 0, rfl, rfl, Nat.le_refl _, Rd.nil _ _⟩
set_option maxHeartbeats 6400000 in
set_option maxRecDepth 100000 in
theorem tx_decode (b : List Nat) (A : Option Addr) (n c : Nat) (w : World) (hn : b.length = n) (hr : Rd w A b) (hl : n ≤ 65536) :
    Calls Try.prog 12 #[.slice A n c] w (DecR b w) := by
  have hmf : ∀ (fn : Fn) (first cap : Array Value) (w : World), (Instr.makeFunc fn first cap).run Try.prog w = .ok (.func fn first cap) w := fun _ _ _ _ => rfl
  have HSB := Lib.hid hr.1
  have hx2 := ((Ext.refl w).alloc (.cells #[.int .i64 0, .int .i64 0, .int .u64 0, .slice none 0 0] 30)).alloc (.cells #[.int .i64 0, .int .i64 0, .int .u64 0, .slice none 0 0] 30)
  have hr0 : ((w.alloc (.cells #[.int .i64 0, .int .i64 0, .int .u64 0, .slice none 0 0] 30)).alloc (.cells #[.int .i64 0, .int .i64 0, .int .u64 0, .slice none 0 0] 30)).heap[w.heap.size]? = some (.cells #[.int .i64 0, .int .i64 0, .int .u64 0, .slice none 0 0] 30) := by
    rw [heap_alloc_old _ _ (by simp)]
    exact heap_alloc_new w _
  have hg0 : ((w.alloc (.cells #[.int .i64 0, .int .i64 0, .int .u64 0, .slice none 0 0] 30)).alloc (.cells #[.int .i64 0, .int .i64 0, .int .u64 0, .slice none 0 0] 30)).heap[w.heap.size + 1]? = some (.cells #[.int .i64 0, .int .i64 0, .int .u64 0, .slice none 0 0] 30) := by
    have h := heap_alloc_new (w.alloc (.cells #[.int .i64 0, .int .i64 0, .int .u64 0, .slice none 0 0] 30)) (.cells #[.int .i64 0, .int .i64 0, .int .u64 0, .slice none 0 0] 30)
    rwa [show (w.alloc (.cells #[.int .i64 0, .int .i64 0, .int .u64 0, .slice none 0 0] 30)).heap.size = w.heap.size + 1 from by simp] at h
  have hsz : ((w.alloc (.cells #[.int .i64 0, .int .i64 0, .int .u64 0, .slice none 0 0] 30)).alloc (.cells #[.int .i64 0, .int .i64 0, .int .u64 0, .slice none 0 0] 30)).heap.size = w.heap.size + 1 + 1 := by simp
  have hrd : Calls Try.prog 33 #[.slice A n c, .func (.func 34) #[] #[.pointer (some ⟨w.heap.size + 1, 0, none⟩)]] ((w.alloc (.cells #[.int .i64 0, .int .i64 0, .int .u64 0, .slice none 0 0] 30)).alloc (.cells #[.int .i64 0, .int .i64 0, .int .u64 0, .slice none 0 0] 30))
      (ReadE (fun hi w' y => TxJ (w.heap.size + 1 + 1) (w.heap.size + 1) b ((w.alloc (.cells #[.int .i64 0, .int .i64 0, .int .u64 0, .slice none 0 0] 30)).alloc (.cells #[.int .i64 0, .int .i64 0, .int .u64 0, .slice none 0 0] 30)) hi w' y) ((w.alloc (.cells #[.int .i64 0, .int .i64 0, .int .u64 0, .slice none 0 0] 30)).alloc (.cells #[.int .i64 0, .int .i64 0, .int .u64 0, .slice none 0 0] 30))) := by
    rw [← hn]
    refine cd_Read b A c _ _ _ _ ⟨_, _, Try.func34, rfl, by kernel_rfl⟩ (hr.ext hx2) (by omega) (fun hi ρ w1 hx hlo hhi hI => ?_)
    rw [hsz] at hI ⊢
    refine (tx_by (w.heap.size + 1 + 1) hi (w.heap.size + 1) _ ρ w1 b hI (hx.row hg0) (by omega) hhi HSB.out).mono fun e w2 h => ByE.mono h (fun w3 y hJ => ⟨(Only.of_ext hx).trans hJ.1, hJ.2⟩)
  have HRD := Lib.hid hrd
  have HX2 := Lib.hid hx2
  have HR0 := Lib.hid hr0
  have HSZ := Lib.hid hsz
  clear hrd hx2 hr0 hg0 hsz hr
  go_enter Try.func12, Try.ntmps12
  go_wp2_with fail
  refine HRD.out.mono ?_
  rintro e w3 ⟨hi, w2, y, hhi, ⟨ho, hm⟩, ho2, he⟩
  rw [HSZ.out] at hhi ho2
  have hb : ∀ k, (Btw (w.heap.size + 1 + 1) hi k ∨ k = w.heap.size + 1) → w.heap.size < k := fun k h => by rcases h with h | h; have := h.1; omega; omega
  have HX3 := Lib.hid ((ho.trans (ho2.mono fun _ _ h => .inl h)).ext HX2.out (fun k h => Nat.le_of_lt (hb k h)))
  have HR3 := Lib.hid ((ho.trans (ho2.mono fun _ _ h => .inl h)).row HR0.out (fun h => absurd (hb _ h) (by omega)))
  cases e1 : rdO b with
  | er n1 =>
    rw [e1] at hm
    subst hm
    obtain rfl : e = .returned (.int .i64 (n1 : Int)) := he
    have h0 := dec14_pos HSB.out e1
    have HDN := Lib.hid (fun w' (hx : Ext w w') => decR_no (show dec14 b = (n1, Od.zero) from by unfold dec14; rw [e1]) hx)
    have d1 : ((n1 : Int) == 0) = false := by simp; omega
    have d2 : ((n1 : Int) != 0) = true := by simp; omega
    have d3 : decide ((n1 : Int) = 0) = false := decide_eq_false (by omega)
    have d4 : decide (n1 = 0) = false := decide_eq_false h0
    clear ho ho2 hb e1 hhi
    have hone : (#[.int .i64 0, .int .i64 0, .int .u64 0, .slice none 0 0] : Array Value).all (·.oneCell') = true := by simp [Value.oneCell']
    have HXF := Lib.hid (HX3.out.setRow (Nat.le_refl _) #[.int .i64 0, .int .i64 0, .int .u64 0, .slice none 0 0])
    have HGF := Lib.hid (setRow_heap w3 w.heap.size _ #[.int .i64 0, .int .i64 0, .int .u64 0, .slice none 0 0] _ _ HR3.out)
    go_wp2_with (with_reducible refine wpList_store_all rfl 30 (.tmp 2) (.tmp 12) rfl w.heap.size _ #[.int .i64 0, .int .i64 0, .int .u64 0, .slice none 0 0] rfl rfl HR3.out tx_in14x tx_size14 hone ?_)
    refine bodyPost_ret (results_tx14x Try.results12 _ _ w.heap.size 30 _ (0, 0) rfl HGF.out tx_in14x) rfl ?_
    exact HDN.out _ HXF.out
  | ok o rest =>
    rw [e1] at hm
    obtain ⟨rfl, D, n4, c4, hrow, hn4, hc4, hD, hDb⟩ := hm
    obtain rfl : e = .returned (.int .i64 (if rest = [] then 0 else 3)) := he
    by_cases hrest : rest = []
    · rw [if_pos hrest]
      have hd : dec14 b = if o.right then (0, o) else (14, Od.zero) := by unfold dec14; rw [e1]; dsimp only; rw [if_neg (by simpa using hrest)]
      obtain ⟨ok, ot, oa, om⟩ := o
      dsimp only at hrow hn4 hD
      have hrow3 := ho2.row hrow (fun h => by have := h.1; omega)
      have HG3 := Lib.hid hrow3
      have HD3 := Lib.hid (rd_only14 hD ho2 (fun q p e h0 h => by have h1 := hDb q p e (by omega); have h2 := h.2; omega))
      have HN4 := Lib.hid (And.intro hn4 hc4)
      have HDF := Lib.hid (show ∀ q p, D = some ⟨q, p, none⟩ → 0 < om.length → q ≠ w.heap.size from fun q p e h0 => by have h1 := hDb q p e (by omega); omega)
      have HV := Lib.hid (fun u => tx_valid ok ot oa n4 c4 D u)
      rw [right_is hn4] at HV
      clear ho ho2 hb e1 hhi hrow hrow3 hD hDb hn4 hc4
      go_wp2_with (with_reducible refine wpList_load_row rfl 30 (.tmp 4) rfl (w.heap.size + 1) rfl 30 #[.int .i64 ok, .int .i64 ot, .int .u64 (oa : Int), .slice D n4 c4] (0, 0) _ HG3.out Try.underlying30 rfl tx_in14x ?_)
      refine (HV.out w3).mono ?_
      rintro e w4 ⟨rfl, hx4⟩
      have HX4 := Lib.hid (HX3.out.trans hx4)
      have HR4 := Lib.hid (hx4.row HR3.out)
      have HG4 := Lib.hid (hx4.row HG3.out)
      have HD4 := Lib.hid (HD3.out.ext hx4)
      clear hx4
      by_cases ho : Od.right ⟨ok, ot, oa, om⟩
      · rw [if_pos ho] at hd
        rw [decide_eq_true ho]
        have HDEC := Lib.hid hd
        clear hd
        have HSV := Lib.hid (show (#[.int .i64 0, .int .i64 0, .int .u64 0, .slice none 0 0] : Array Value).size = (#[.int .i64 ok, .int .i64 ot, .int .u64 (oa : Int), .slice D n4 c4] : Array Value).size from rfl)
        have hone : (#[.int .i64 ok, .int .i64 ot, .int .u64 (oa : Int), .slice D n4 c4] : Array Value).all (·.oneCell') = true := by simp [Value.oneCell']
        have HXF := Lib.hid (HX4.out.setRow (Nat.le_refl _) #[.int .i64 ok, .int .i64 ot, .int .u64 (oa : Int), .slice D n4 c4])
        have HGF := Lib.hid (setRow_heap w4 w.heap.size _ #[.int .i64 ok, .int .i64 ot, .int .u64 (oa : Int), .slice D n4 c4] _ _ HR4.out)
        go_wp2_with (first | (with_reducible refine wpList_load_row rfl 30 (.tmp 4) rfl (w.heap.size + 1) rfl 30 #[.int .i64 ok, .int .i64 ot, .int .u64 (oa : Int), .slice D n4 c4] (0, 0) _ HG4.out Try.underlying30 rfl tx_in14x ?_) | (with_reducible refine wpList_store_all rfl 30 (.tmp 2) (.tmp 18) rfl w.heap.size _ #[.int .i64 ok, .int .i64 ot, .int .u64 (oa : Int), .slice D n4 c4] rfl rfl HR4.out tx_in14x HSV.out hone ?_))
        refine bodyPost_ret (results_tx14x Try.results12 _ _ w.heap.size 30 _ (0, 0) rfl HGF.out tx_in14x) rfl ?_
        unfold DecR
        rw [HDEC.out]
        exact ⟨HXF.out, D, n4, c4, rfl, HN4.out.1, HN4.out.2, HD4.out.keep (grown_block w4 w.heap.size #[.int .i64 ok, .int .i64 ot, .int .u64 (oa : Int), .slice D n4 c4]) (fun q p e h0 e2 => by injection e2 with e2; exact HDF.out q p e h0 e2)⟩
      · rw [if_neg ho] at hd
        rw [decide_eq_false ho]
        have HDN := Lib.hid (fun w' (hx : Ext w w') => decR_no hd hx)
        clear hd
        have hone : (#[.int .i64 0, .int .i64 0, .int .u64 0, .slice none 0 0] : Array Value).all (·.oneCell') = true := by simp [Value.oneCell']
        have HXF := Lib.hid (HX4.out.setRow (Nat.le_refl _) #[.int .i64 0, .int .i64 0, .int .u64 0, .slice none 0 0])
        have HGF := Lib.hid (setRow_heap w4 w.heap.size _ #[.int .i64 0, .int .i64 0, .int .u64 0, .slice none 0 0] _ _ HR4.out)
        go_wp2_with (with_reducible refine wpList_store_all rfl 30 (.tmp 2) (.tmp 17) rfl w.heap.size _ #[.int .i64 0, .int .i64 0, .int .u64 0, .slice none 0 0] rfl rfl HR4.out tx_in14x tx_size14 hone ?_)
        refine bodyPost_ret (results_tx14x Try.results12 _ _ w.heap.size 30 _ (0, 0) rfl HGF.out tx_in14x) rfl ?_
        exact HDN.out _ HXF.out
    · rw [if_neg hrest]
      have hd : dec14 b = (3, Od.zero) := by unfold dec14; rw [e1]; dsimp only; rw [if_pos hrest]
      have HDN := Lib.hid (fun w' (hx : Ext w w') => decR_no hd hx)
      clear ho ho2 hb e1 hhi hrow hD hDb hn4 hc4 hd hrest
      have hone : (#[.int .i64 0, .int .i64 0, .int .u64 0, .slice none 0 0] : Array Value).all (·.oneCell') = true := by simp [Value.oneCell']
      have HXF := Lib.hid (HX3.out.setRow (Nat.le_refl _) #[.int .i64 0, .int .i64 0, .int .u64 0, .slice none 0 0])
      have HGF := Lib.hid (setRow_heap w3 w.heap.size _ #[.int .i64 0, .int .i64 0, .int .u64 0, .slice none 0 0] _ _ HR3.out)
      go_wp2_with (with_reducible refine wpList_store_all rfl 30 (.tmp 2) (.tmp 12) rfl w.heap.size _ #[.int .i64 0, .int .i64 0, .int .u64 0, .slice none 0 0] rfl rfl HR3.out tx_in14x tx_size14 hone ?_)
      refine bodyPost_ret (results_tx14x Try.results12 _ _ w.heap.size 30 _ (0, 0) rfl HGF.out tx_in14x) rfl ?_
      exact HDN.out _ HXF.out
end Go.Proofs.Ytnfgokbopndmgaa

/-
  Slices of uint64 that read as a list; of a call's own: appended to, written. Conditions: the lengths add up to no more than 2^40.
-/
namespace Go.Proofs.Ytnfgokbopndmgaa
open Go.RowKit
open Pol (co)

theorem u64_info : (Try.prog.info? 22).map (fun i => (i.zero, i.size, i.bytes)) = some (some (.int .u64 0), 1, 8) := by kernel_rfl
def uv (l : List Nat) : List Value := l.map fun x : Nat => Value.int .u64 (x : Int)
theorem uv_len (l : List Nat) : (uv l).length = l.length := by simp [uv]
theorem uv_at (l : List Nat) (i : Nat) (h : i < l.length) : (uv l)[i]? = some (.int .u64 ((co l i : Nat) : Int)) := by simp [uv, co, List.getElem?_eq_getElem h]
theorem uv_one (l : List Nat) : ∀ u ∈ uv l, u.oneCell' = true := by
  intro u hu
  obtain ⟨x, _, rfl⟩ := List.mem_map.1 hu
  rfl
theorem uv_append (l m : List Nat) : uv (l ++ m) = uv l ++ uv m := by simp [uv]
/-- Each is a number of 64 bits. -/
def U64 (l : List Nat) : Prop := ∀ i, co l i < 18446744073709551616
/-- From address A on lie the numbers l. -/
def URd (w : World) (A : Option Addr) (l : List Nat) : Prop := U64 l ∧ ∀ i, i < l.length → ∃ b o, A = some ⟨b, o, none⟩ ∧ w.cell? ⟨b, o + i, none⟩ = some (.int .u64 ((co l i : Nat) : Int))
theorem URd.ext {w w' : World} {A : Option Addr} {l : List Nat} (h : URd w A l) (hx : Ext w w') : URd w' A l := ⟨h.1, fun i hi => by
  obtain ⟨b, o, e, hc⟩ := h.2 i hi
  exact ⟨b, o, e, hx.at hc⟩⟩
theorem URd.nil (w : World) (A : Option Addr) : URd w A [] := ⟨fun i => by unfold co; simp, fun i hi => absurd hi (by simp)⟩
/-- A slice of numbers of the call's own. -/
def UMine (w : World) (base : Nat) (v : Value) (l : List Nat) : Prop := w.ownsRow base 22 1 v l.length (uv l)
theorem UMine.nil (w : World) (base : Nat) : UMine w base (.slice none 0 0) [] := World.ownsRow_nil w base _ _
theorem umine_empty (w : World) : UMine (w.alloc (.cells #[] 22)) w.heap.size (.slice (some ⟨w.heap.size, 0, none⟩) 0 0) [] := World.ownsRow_lit w #[] 0 (Nat.le_refl _) (Nat.zero_le _) rfl
theorem UMine.slice {w : World} {base : Nat} {v : Value} {l : List Nat} (h : UMine w base v l) (hu : U64 l) : ∃ B c, v = .slice B l.length c ∧ l.length ≤ c ∧ URd w B l := by
  rcases h.2 with ⟨rfl, hn⟩ | ⟨g, cap, cur, rfl, _, hg, hnc, _, _, htake⟩
  · have : l = [] := List.eq_nil_of_length_eq_zero hn
    subst this
    exact ⟨none, 0, rfl, Nat.le_refl _, URd.nil _ _⟩
  · refine ⟨_, cap, rfl, hnc, hu, fun i hi => ⟨g, 0, rfl, ?_⟩⟩
    rw [Nat.zero_add, cell_of_row w g i cur _ _ hg, ← uv_at l i hi, ← htake, List.getElem?_take, if_pos (by omega)]
    simp
theorem UMine.ext {w w' : World} {base : Nat} {v : Value} {l : List Nat} (h : UMine w base v l) (hx : Ext w w') : UMine w' base v l :=
  World.ownsRow.kept h (row := none) ⟨hx.below.os, hx.below.tape, hx.below.output, hx.below.size, fun k hk _ => hx.below.block k hk⟩ (by
    cases hb : v.ownBlock with
    | none => exact .inl rfl
    | some k => exact .inr (by simp))
theorem UMine.keep {w w' : World} {base : Nat} {v : Value} {l : List Nat} {row : Option Nat} (h : UMine w base v l) (hg : w.grownBy w' row) (hne : ∀ k, v.ownBlock = some k → some k ≠ row) : UMine w' base v l :=
  World.ownsRow.kept h hg (by
    cases hb : v.ownBlock with
    | none => exact .inl rfl
    | some k => exact .inr (hne k hb))
theorem UMine.block {w : World} {base : Nat} {v : Value} {l : List Nat} (h : UMine w base v l) : ∀ k, v.ownBlock = some k → base ≤ k ∧ k < w.heap.size := fun k hk => World.ownsRow.lt h k hk
theorem UMine.down {w : World} {base base' : Nat} {v : Value} {l : List Nat} (h : UMine w base v l) (hb : base' ≤ base) : UMine w base' v l :=
  ⟨h.1, h.2.imp id fun ⟨g, cap, cur, h1, h2, h3⟩ => ⟨g, cap, cur, h1, Nat.le_trans hb h2, h3⟩⟩
/-- A number is put into numbers of a call's own. -/
theorem UMine.put {w : World} {base g n c i x : Nat} {l : List Nat} (h : UMine w base (.slice (some ⟨g, 0, none⟩) n c) l) : UMine (w.setCell ⟨g, i, none⟩ (.int .u64 (x : Int))) base (.slice (some ⟨g, 0, none⟩) n c) (l.set i x) := by
  rcases h.2 with ⟨e, _⟩ | ⟨g', cap, cur, e, hb, hg, hnc, hcm, hcs, ht⟩
  · cases e
  · injection e with e1 e2 e3
    injection e1 with e1
    injection e1 with e1
    subst e1; subst e3
    refine ⟨by rw [uv_len, List.length_set, Nat.mul_one], .inr ⟨g, c, cur.setIfInBounds i (.int .u64 (x : Int)), by rw [List.length_set, e2], hb, heap_setCell_same w g i cur _ _ hg, by rw [List.length_set]; exact hnc, hcm, by simpa using hcs, ?_⟩⟩
    rw [List.length_set, Array.toList_setIfInBounds, List.take_set, ht]
    unfold uv
    rw [List.map_set]
theorem UMine.spot {w : World} {base : Nat} {v : Value} {l : List Nat} (h : UMine w base v l) {i : Nat} (hi : i < l.length) : ∃ g n c, v = .slice (some ⟨g, 0, none⟩) n c ∧ base ≤ g ∧ w.cell? ⟨g, i, none⟩ = some (.int .u64 ((co l i : Nat) : Int)) ∧ w.frozen? ⟨g, i, none⟩ = false := by
  rcases h.2 with ⟨rfl, hn⟩ | ⟨g, cap, cur, rfl, hb, hg, hnc, _, _, htake⟩
  · omega
  · refine ⟨g, _, cap, rfl, hb, ?_, frozen_of_row w g i cur _ hg⟩
    rw [cell_of_row w g i cur _ _ hg, ← uv_at l i hi, ← htake, List.getElem?_take, if_pos (by omega)]
    simp
set_option maxRecDepth 100000 in
theorem run_append_u64 (w : World) (base : Nat) (ty : TypeId) (v : Value) (l m : List Nat) (hown : UMine w base v l) (A : Option Addr) (c : Nat) (hr : URd w A m)
    (hlen : l.length + m.length ≤ 1099511627776) (hbase : base ≤ w.heap.size) :
    ∃ v' w', (Builtin.append_ #[40, 40] ty #[v, .slice A m.length c]).run Try.prog w = .ok v' w' ∧ UMine w' base v' (l ++ m) ∧ w.grownBy w' v.ownBlock ∧ (v'.ownBlock = v.ownBlock ∨ v'.ownBlock = some w.heap.size) := by
  obtain ⟨i0, hi, hz0, hz1, hz2⟩ := info_parts u64_info
  cases A with
  | none =>
    have hm : m = [] := by
      rcases Nat.eq_zero_or_pos m.length with h | h
      · exact List.eq_nil_of_length_eq_zero h
      · obtain ⟨_, _, e, _⟩ := hr.2 0 h; cases e
    subst hm
    refine ⟨v, w, ?_, by simpa using hown, ⟨rfl, rfl, rfl, Nat.le_refl _, fun _ _ _ => rfl⟩, .inl rfl⟩
    rcases hown.2 with ⟨rfl, _⟩ | ⟨g, cap, cur, rfl, _, _, hnc, _⟩
    · simp [Builtin.append_, run_underlying Try.underlying40, sizeOf, typeInfo, hi, Builtin.lenOf, Builtin.firstCells]
    · simp [Builtin.append_, run_underlying Try.underlying40, sizeOf, typeInfo, hi, Builtin.lenOf, Builtin.firstCells, hnc, storeCells]
  | some a =>
    have hcells : ∀ j u, (uv m)[j]? = some u → w.cell? (a.add j) = some u := by
      intro j u hu
      have hj : j < m.length := by
        have := (List.getElem?_eq_some_iff.1 hu).1
        rwa [uv_len] at this
      obtain ⟨b, o, e, hc⟩ := hr.2 j hj
      injection e with e
      subst e
      rw [addr_add, hc, ← uv_at m j hj, hu]
    obtain ⟨v', w', h1, h2, h3, _, h5⟩ := run_append_own_at (P := Try.prog) w base 40 ty 22 i0 (.int .u64 0) 1 8 Try.underlying40 hi hz0 hz1 hz2 rfl (by omega) v l.length (uv l) hown a m.length c (uv m) (by rw [uv_len, Nat.mul_one]) hcells (uv_one m)
      (by unfold maxLen; omega) (by omega) hbase
    exact ⟨v', w', h1, by unfold UMine; rw [List.length_append, uv_append]; exact h2, h3, h5⟩
/-- At the operation, for the walk. -/
theorem wpList_append_u64 {ops : Array Oper} {rest : List Oper} {o : Oper} {a : Act} {w : World} {Q : Exit → Act → World → Prop} (hgd : o.guard = none) (s x : Operand)
    (ho : o.op = .call { callee := .builtin .append, args := #[s, x], argTypes := #[40, 40] })
    (base : Nat) (v : Value) (l m : List Nat) (hs : a.eval s = v) (hown : UMine w base v l) (A : Option Addr) (n c : Nat) (hx : a.eval x = .slice A n c) (hn : m.length = n) (hr : URd w A m)
    (hlen : l.length + m.length ≤ 1099511627776) (hbase : base ≤ w.heap.size)
    (h : ∀ v' w', UMine w' base v' (l ++ m) → w.grownBy w' v.ownBlock → (v'.ownBlock = v.ownBlock ∨ v'.ownBlock = some w.heap.size) → wpList Try.prog ops Q rest (a.put o.dst v') w') :
    wpList Try.prog ops Q (o :: rest) a w := by
  subst hn
  refine wpList_plain hgd fun K hK => ?_
  obtain ⟨v', w', hrun, h2, h3, h4⟩ := run_append_u64 w base o.type v l m hown A c hr hlen hbase
  unfold Oper.wp execOp
  simp only [ho, resolve, invoke, builtin, Sem.run_bind, Sem.run_pure, Result.andThen_ok, List.map_toArray, List.map_cons, List.map_nil, hs, hx, hrun]
  exact hK _ _ (h v' w' h2 h3 h4)
end Go.Proofs.Ytnfgokbopndmgaa

/-
  A ledger in plain numbers: what is held back, freed, paid, slashed, moved, turned; that the total stays. Conditions: none; no function is named here.
-/
namespace Go.Proofs.Ytnfgokbopndmgaa
open Pol (co)

/-- Of each account the balance, the nonce, the fees and the deposits that are held back; the treasury. -/
structure Lgr where
  b : List Nat
  n : List Nat
  f : List Nat
  d : List Nat
  t : Nat
theorem co_set13 (l : List Nat) (i j x : Nat) : co (l.set i x) j = if i = j ∧ i < l.length then x else co l j := by
  unfold co
  rw [List.getElem?_set]
  by_cases h : i = j
  · subst h
    by_cases h2 : i < l.length
    · simp [h2]
    · simp [h2]
  · simp [h]
theorem co_le_sum13 : ∀ (l : List Nat) (i : Nat), co l i ≤ l.sum
  | [], i => by unfold co; simp
  | x :: l, 0 => by unfold co; simp
  | x :: l, i + 1 => by
    have := co_le_sum13 l i
    unfold co at this ⊢
    simp at this ⊢
    omega
theorem sum_set13 : ∀ (l : List Nat) (i x : Nat), i < l.length → (l.set i x).sum + co l i = l.sum + x
  | [], i, x, h => by simp at h
  | y :: l, 0, x, _ => by unfold co; simp; omega
  | y :: l, i + 1, x, h => by
    have := sum_set13 l i x (by simpa using h)
    unfold co at this ⊢
    simp at this ⊢
    omega
theorem co_two_sum13 : ∀ (l : List Nat) (i j : Nat), i ≠ j → co l i + co l j ≤ l.sum
  | [], i, j, _ => by unfold co; simp
  | x :: l, 0, 0, h => absurd rfl h
  | x :: l, 0, j + 1, _ => by
    have := co_le_sum13 l j
    unfold co at this ⊢
    simp at this ⊢
    omega
  | x :: l, i + 1, 0, _ => by
    have := co_le_sum13 l i
    unfold co at this ⊢
    simp at this ⊢
    omega
  | x :: l, i + 1, j + 1, h => by
    have := co_two_sum13 l i j (fun e => h (by rw [e]))
    unfold co at this ⊢
    simp at this ⊢
    omega

/-- A ledger of m accounts whose total is M; what is held back in deposits is a number of whole ones. -/
structure Lgr.ok (s : Lgr) (m M : Nat) : Prop where
  lb : s.b.length = m
  ln : s.n.length = m
  lf : s.f.length = m
  ld : s.d.length = m
  sum : s.b.sum + s.f.sum + s.d.sum + s.t = M
  dep : ∀ i, co s.d i % 50 = 0
def Lgr.hold (s : Lgr) (i fee : Nat) : Nat × Lgr :=
  if co s.b i < 50 ∨ co s.b i - 50 < fee then (9, s) else (0, { s with b := s.b.set i (co s.b i - fee - 50), f := s.f.set i (co s.f i + fee), d := s.d.set i (co s.d i + 50) })
def Lgr.back (s : Lgr) (i fee : Nat) (u v : Bool) : Nat × Lgr :=
  if co s.f i < fee ∨ co s.d i = 0 then (9, s) else
    (0, { s with b := s.b.set i (co s.b i + (if u then fee else 0) + (if v then 50 else 0)), f := s.f.set i (co s.f i - fee), d := s.d.set i (co s.d i - 50), t := s.t + (if u then 0 else fee) + (if v then 0 else 50) })
def Lgr.move (s : Lgr) (i j x : Nat) : Nat × Lgr :=
  if co s.b i < x then (9, s) else (0, { s with b := (s.b.set i (co s.b i - x)).set j (co (s.b.set i (co s.b i - x)) j + x) })
def Lgr.turn (s : Lgr) (i x : Nat) : Nat × Lgr :=
  if co s.n i ≠ x then (11, s) else if x = 18446744073709551615 then (10, s) else (0, { s with n := s.n.set i (x + 1) })
theorem Lgr.hold_ok {s : Lgr} {m M i fee : Nat} (h : s.ok m M) (hi : i < m) : (s.hold i fee).2.ok m M := by
  unfold Lgr.hold
  split
  · exact h
  · rename_i hc
    have h1 := sum_set13 s.b i (co s.b i - fee - 50) (by rw [h.lb]; exact hi)
    have h2 := sum_set13 s.f i (co s.f i + fee) (by rw [h.lf]; exact hi)
    have h3 := sum_set13 s.d i (co s.d i + 50) (by rw [h.ld]; exact hi)
    have h4 := h.sum
    refine ⟨by simp [h.lb], h.ln, by simp [h.lf], by simp [h.ld], ?_, fun j => ?_⟩
    · show (s.b.set i _).sum + (s.f.set i _).sum + (s.d.set i _).sum + s.t = M
      omega
    · show co (s.d.set i _) j % 50 = 0
      rw [co_set13]
      have := h.dep i
      have := h.dep j
      split <;> omega
theorem Lgr.back_ok {s : Lgr} {m M i fee : Nat} {u v : Bool} (h : s.ok m M) (hi : i < m) : (s.back i fee u v).2.ok m M := by
  unfold Lgr.back
  split
  · exact h
  · rename_i hc
    have h0 := h.dep i
    have h1 := sum_set13 s.b i (co s.b i + (if u then fee else 0) + (if v then 50 else 0)) (by rw [h.lb]; exact hi)
    have h2 := sum_set13 s.f i (co s.f i - fee) (by rw [h.lf]; exact hi)
    have h3 := sum_set13 s.d i (co s.d i - 50) (by rw [h.ld]; exact hi)
    have h4 := h.sum
    refine ⟨by simp [h.lb], h.ln, by simp [h.lf], by simp [h.ld], ?_, fun j => ?_⟩
    · show (s.b.set i _).sum + (s.f.set i _).sum + (s.d.set i _).sum + (s.t + _ + _) = M
      cases u <;> cases v <;> simp at h1 ⊢ <;> omega
    · show co (s.d.set i _) j % 50 = 0
      rw [co_set13]
      have := h.dep j
      split <;> omega
theorem Lgr.move_ok {s : Lgr} {m M i j x : Nat} (h : s.ok m M) (hi : i < m) (hj : j < m) : (s.move i j x).2.ok m M := by
  unfold Lgr.move
  split
  · exact h
  · rename_i hc
    have h1 := sum_set13 s.b i (co s.b i - x) (by rw [h.lb]; exact hi)
    have h2 := sum_set13 (s.b.set i (co s.b i - x)) j (co (s.b.set i (co s.b i - x)) j + x) (by simp [h.lb]; exact hj)
    have h4 := h.sum
    refine ⟨by simp [h.lb], h.ln, h.lf, h.ld, ?_, h.dep⟩
    show ((s.b.set i _).set j _).sum + s.f.sum + s.d.sum + s.t = M
    omega
theorem Lgr.turn_ok {s : Lgr} {m M i x : Nat} (h : s.ok m M) : (s.turn i x).2.ok m M := by
  unfold Lgr.turn
  split
  · exact h
  · split
    · exact h
    · exact ⟨h.lb, by simp [h.ln], h.lf, h.ld, h.sum, h.dep⟩
/-- Each of its numbers is no more than the total. -/
theorem Lgr.ok.le {s : Lgr} {m M : Nat} (h : s.ok m M) (i : Nat) : co s.b i ≤ M ∧ co s.f i ≤ M ∧ co s.d i ≤ M ∧ s.t ≤ M := by
  have h1 := co_le_sum13 s.b i
  have h2 := co_le_sum13 s.f i
  have h3 := co_le_sum13 s.d i
  have h4 := h.sum
  omega
end Go.Proofs.Ytnfgokbopndmgaa

/-
  What the document's own Sum and Is of layer 13 do. Conditions: no more than 2^20 numbers, whose sum is one of 64 bits.
-/
namespace Go.Proofs.Ytnfgokbopndmgaa
open Go.RowKit
open Pol (co)

theorem take_sum13 (l : List Nat) (i : Nat) (h : i < l.length) : (l.take (i + 1)).sum = (l.take i).sum + co l i := by
  rw [List.take_succ_eq_append_getElem h, List.sum_append]
  unfold co
  rw [List.getElem?_eq_getElem h]
  simp
theorem take_sum_le13 (l : List Nat) (i : Nat) : (l.take i).sum ≤ l.sum := by
  have h := congrArg List.sum (List.take_append_drop i l)
  rw [List.sum_append] at h
  omega
theorem u64_of (z : Int) (m : Nat) (hz : z = (m : Int)) (h : m < 18446744073709551616) : Value.int .u64 (IntKind.u64.wrap z) = Value.int .u64 (m : Int) := by
  subst hz
  congr 1
  rw [IntKind.wrap_u64]
  omega
set_option maxHeartbeats 800000 in
theorem ref13_sum (l : List Nat) (A : Option Addr) (n c : Nat) (w : World) (hn : l.length = n) (hr : URd w A l) (hl : n ≤ 1048576) (hs : l.sum < 18446744073709551616) :
    Calls Try.prog 45 #[.slice A n c] w (fun e w' => e = .returned (.int .u64 ((l.sum : Nat) : Int)) ∧ w = w') := by
  have HR := Lib.hid hr
  have HN := Lib.hid hn
  have HS := Lib.hid hs
  have HT := Lib.hid (fun i (hi : i < l.length) => take_sum13 l i hi)
  have HTL := Lib.hid (fun i => take_sum_le13 l i)
  have HF := Lib.hid (show l.take n = l from by rw [← hn, List.take_length])
  clear hr hn hs
  go_enter Try.func45, Try.ntmps45
  go_wp2
  go_loopg [3, 7] n (fun g s3 s7 wx => ∃ i t : Nat, i + g = n ∧ (l.take i).sum = t ∧ s3 = .int .u64 (t : Int) ∧ s7 = .int .i64 (i : Int) ∧ w = wx)
  case atStart => exact ⟨0, 0, by omega, by simp, rfl, rfl, rfl⟩
  case round =>
    obtain ⟨i, t, hig, ht, rfl, rfl, rfl⟩ := hrel
    cases gk with
    | zero =>
      obtain rfl : i = n := by omega
      have HV := Lib.hid (show l.sum = t by rw [← ht, HF.out])
      have d1 : decide ((i : Int) < (i : Int)) = false := decide_eq_false (by omega)
      clear ht
      go_wp2
      go_ret
      exact ⟨by rw [HV.out]; rfl, rfl⟩
    | succ g =>
      have hi : i < n := by omega
      have hiI : (i : Int) < (n : Int) := by omega
      obtain ⟨b0, o, rfl, hcb⟩ := HR.out.2 i (by rw [HN.out]; exact hi)
      have e1 := HT.out i (by rw [HN.out]; exact hi)
      have e2 := HTL.out (i + 1)
      have e3 := HS.out
      obtain ⟨x, hx⟩ : ∃ x, co l i = x := ⟨_, rfl⟩
      rw [hx] at hcb e1
      have HE := Lib.hid (show (l.take (i + 1)).sum = t + x by rw [e1, ht])
      have hb : t + x < 18446744073709551616 := by rw [← HE.out]; omega
      clear e1 e2 e3 ht hx
      go_wp2
      go_roundg g
      case measure => omega
      case rel => exact ⟨i + 1, t + x, by omega, HE.out, by go_num, by go_num, rfl⟩
end Go.Proofs.Ytnfgokbopndmgaa

/-
  The document's own ledger of layer 13 in memory, and what its Is does. Conditions: no more than 2^20 accounts.
-/
namespace Go.Proofs.Ytnfgokbopndmgaa
open Go.RowKit
open Pol (co)

/-- Block g holds the numbers l, n of them, with room for c. -/
structure RowU (w : World) (g n c : Nat) (l : List Nat) : Prop where
  len : l.length = n
  cap : n ≤ c
  num : U64 l
  row : ∃ cur, w.heap[g]? = some (.cells cur 22) ∧ c ≤ cur.size ∧ cur.toList.take n = uv l
theorem RowU.stay {w w' : World} {g n c : Nat} {l : List Nat} (h : RowU w g n c l) (hk : w'.heap[g]? = w.heap[g]?) : RowU w' g n c l := ⟨h.len, h.cap, h.num, by
  obtain ⟨cur, h1, h2, h3⟩ := h.row
  exact ⟨cur, hk.trans h1, h2, h3⟩⟩
theorem RowU.rd {w : World} {g n c : Nat} {l : List Nat} (h : RowU w g n c l) : URd w (some ⟨g, 0, none⟩) l := ⟨h.num, fun i hi => by
  obtain ⟨cur, h1, h2, h3⟩ := h.row
  have hl := h.len
  refine ⟨g, 0, rfl, ?_⟩
  rw [Nat.zero_add, cell_of_row w g i cur _ _ h1, ← uv_at l i hi, ← h3, List.getElem?_take, if_pos (by omega)]
  simp⟩
theorem RowU.at {w : World} {g n c i : Nat} {l : List Nat} (h : RowU w g n c l) (hi : i < n) : w.cell? ⟨g, i, none⟩ = some (.int .u64 ((co l i : Nat) : Int)) := by
  obtain ⟨b, o, e, hc⟩ := h.rd.2 i (by rw [h.len]; exact hi)
  injection e with e
  injection e with e1 e2
  subst e1; subst e2
  rwa [Nat.zero_add] at hc
theorem RowU.free {w : World} {g n c : Nat} {l : List Nat} (h : RowU w g n c l) (i : Nat) : w.frozen? ⟨g, i, none⟩ = false := by
  obtain ⟨cur, h1, _⟩ := h.row
  exact frozen_of_row w g i cur _ h1
theorem RowU.put {w : World} {g n c i x : Nat} {l : List Nat} (h : RowU w g n c l) (hx : x < 18446744073709551616) : RowU (w.setCell ⟨g, i, none⟩ (.int .u64 (x : Int))) g n c (l.set i x) := by
  obtain ⟨cur, h1, h2, h3⟩ := h.row
  refine ⟨by rw [List.length_set]; exact h.len, h.cap, fun j => ?_, cur.setIfInBounds i (.int .u64 (x : Int)), heap_setCell_same w g i cur _ _ h1, by simpa using h2, ?_⟩
  · rw [co_set13]
    split
    · exact hx
    · exact h.num j
  · rw [Array.toList_setIfInBounds, List.take_set, h3]
    unfold uv
    rw [List.map_set]
/-- The blocks that the four slices of a document's ledger lie in, and their room. -/
structure Gb where
  b : Nat
  n : Nat
  f : Nat
  d : Nat
  cb : Nat
  cn : Nat
  cf : Nat
  cd : Nat
/-- The document's ledger at block σ, in blocks of Y. -/
structure RG (Y : Nat → Prop) (σ : Nat) (G : Gb) (w : World) (m : Nat) (s : Lgr) : Prop where
  head : w.heap[σ]? = some (.cells #[.slice (some ⟨G.b, 0, none⟩) m G.cb, .slice (some ⟨G.n, 0, none⟩) m G.cn, .slice (some ⟨G.f, 0, none⟩) m G.cf, .slice (some ⟨G.d, 0, none⟩) m G.cd, .int .u64 ((s.t : Nat) : Int)] 52)
  rb : RowU w G.b m G.cb s.b
  rn : RowU w G.n m G.cn s.n
  rf : RowU w G.f m G.cf s.f
  rd : RowU w G.d m G.cd s.d
  t : s.t < 18446744073709551616
  yσ : Y σ
  yb : Y G.b
  yn : Y G.n
  yf : Y G.f
  yd : Y G.d
  far : σ ≠ G.b ∧ σ ≠ G.n ∧ σ ≠ G.f ∧ σ ≠ G.d ∧ G.b ≠ G.n ∧ G.b ≠ G.f ∧ G.b ≠ G.d ∧ G.n ≠ G.f ∧ G.n ≠ G.d ∧ G.f ≠ G.d
theorem RG.stay {Y : Nat → Prop} {σ m : Nat} {G : Gb} {w w' : World} {s : Lgr} (h : RG Y σ G w m s) (hk : ∀ b, Y b → w'.heap[b]? = w.heap[b]?) : RG Y σ G w' m s :=
  ⟨(hk σ h.yσ).trans h.head, h.rb.stay (hk _ h.yb), h.rn.stay (hk _ h.yn), h.rf.stay (hk _ h.yf), h.rd.stay (hk _ h.yd), h.t, h.yσ, h.yb, h.yn, h.yf, h.yd, h.far⟩
theorem RG.c0 {Y : Nat → Prop} {σ m : Nat} {G : Gb} {w : World} {s : Lgr} (h : RG Y σ G w m s) : w.cell? ⟨σ, 0, none⟩ = some (.slice (some ⟨G.b, 0, none⟩) m G.cb) := by rw [cell_of_row w σ 0 _ _ _ h.head]; rfl
theorem RG.c1 {Y : Nat → Prop} {σ m : Nat} {G : Gb} {w : World} {s : Lgr} (h : RG Y σ G w m s) : w.cell? ⟨σ, 1, none⟩ = some (.slice (some ⟨G.n, 0, none⟩) m G.cn) := by rw [cell_of_row w σ 1 _ _ _ h.head]; rfl
theorem RG.c2 {Y : Nat → Prop} {σ m : Nat} {G : Gb} {w : World} {s : Lgr} (h : RG Y σ G w m s) : w.cell? ⟨σ, 2, none⟩ = some (.slice (some ⟨G.f, 0, none⟩) m G.cf) := by rw [cell_of_row w σ 2 _ _ _ h.head]; rfl
theorem RG.c3 {Y : Nat → Prop} {σ m : Nat} {G : Gb} {w : World} {s : Lgr} (h : RG Y σ G w m s) : w.cell? ⟨σ, 3, none⟩ = some (.slice (some ⟨G.d, 0, none⟩) m G.cd) := by rw [cell_of_row w σ 3 _ _ _ h.head]; rfl
theorem RG.c4 {Y : Nat → Prop} {σ m : Nat} {G : Gb} {w : World} {s : Lgr} (h : RG Y σ G w m s) : w.cell? ⟨σ, 4, none⟩ = some (.int .u64 ((s.t : Nat) : Int)) := by rw [cell_of_row w σ 4 _ _ _ h.head]; rfl
set_option maxHeartbeats 800000 in
theorem ref13_is {Y : Nat → Prop} {σ m : Nat} {G : Gb} {s : Lgr} (w : World) (h : RG Y σ G w m s) (who : Int) :
    Calls Try.prog 43 #[.pointer (some ⟨σ, 0, none⟩), .int .i64 who] w (fun e w' => e = .returned (.bool (decide (0 ≤ who ∧ who < (m : Int)))) ∧ w = w') := by
  have c0 := h.c0
  clear h
  by_cases h1 : 0 ≤ who
  · have d1 : decide (who ≥ 0) = true := decide_eq_true (by omega)
    have d1' : decide (0 ≤ who) = true := decide_eq_true (by omega)
    rw [show decide (0 ≤ who ∧ who < (m : Int)) = decide (who < (m : Int)) by simp [h1]]
    go_enter Try.func43, Try.ntmps43
    go_wp2
    go_ret
    exact ⟨rfl, rfl⟩
  · have d1 : decide (who ≥ 0) = false := decide_eq_false (by omega)
    have d1' : decide (0 ≤ who) = false := decide_eq_false (by omega)
    rw [show decide (0 ≤ who ∧ who < (m : Int)) = false from decide_eq_false (by omega)]
    go_enter Try.func43, Try.ntmps43
    go_wp2
    go_ret
    exact ⟨rfl, rfl⟩
set_option maxHeartbeats 1600000 in
theorem ref13_total {Y : Nat → Prop} {σ m M : Nat} {G : Gb} {s : Lgr} (w : World) (h : RG Y σ G w m s) (hk : s.ok m M) (hm : m ≤ 1048576) (hM : M < 18446744073709551616) :
    Calls Try.prog 22 #[.pointer (some ⟨σ, 0, none⟩)] w (Hands (.int .u64 (M : Int)) w) := by
  have c0 := h.c0
  have c2 := h.c2
  have c3 := h.c3
  have c4 := h.c4
  have hs := hk.sum
  have HB := Lib.hid (fun q => ref13_sum s.b (some ⟨G.b, 0, none⟩) m G.cb (w.drewN q) h.rb.len ⟨h.rb.rd.1, h.rb.rd.2⟩ hm (by omega))
  have HF := Lib.hid (fun q => ref13_sum s.f (some ⟨G.f, 0, none⟩) m G.cf (w.drewN q) h.rf.len ⟨h.rf.rd.1, h.rf.rd.2⟩ hm (by omega))
  have HD := Lib.hid (fun q => ref13_sum s.d (some ⟨G.d, 0, none⟩) m G.cd (w.drewN q) h.rd.len ⟨h.rd.rd.1, h.rd.rd.2⟩ hm (by omega))
  clear h hk
  obtain ⟨t, ht⟩ : ∃ t, s.t = t := ⟨_, rfl⟩
  obtain ⟨b, hb⟩ : ∃ b, s.b.sum = b := ⟨_, rfl⟩
  obtain ⟨f, hf⟩ : ∃ f, s.f.sum = f := ⟨_, rfl⟩
  obtain ⟨d, hd⟩ : ∃ d, s.d.sum = d := ⟨_, rfl⟩
  rw [ht] at c4 hs
  rw [hb] at HB hs
  rw [hf] at HF hs
  rw [hd] at HD hs
  clear ht hb hf hd
  obtain ⟨bf, hbf⟩ : ∃ x, b + f = x := ⟨_, rfl⟩
  obtain ⟨bd, hbd⟩ : ∃ x, bf + d = x := ⟨_, rfl⟩
  have e1 : IntKind.u64.wrap ((b : Int) + (f : Int)) = (bf : Int) := by rw [IntKind.wrap_u64]; omega
  have e2 : IntKind.u64.wrap ((bf : Int) + (d : Int)) = (bd : Int) := by rw [IntKind.wrap_u64]; omega
  have e3 : IntKind.u64.wrap ((bd : Int) + (t : Int)) = (M : Int) := by rw [IntKind.wrap_u64]; omega
  clear hs hbf hbd hM hm
  obtain ⟨gb, gn, gf, gd, cb, cn, cf, cd⟩ := G
  go_enter Try.func22, Try.ntmps22
  go_wp2
  go_quiet (first | (go_at_call 45; with_reducible first | exact quiet_same (HB.out _) | exact quiet_same (HF.out _) | exact quiet_same (HD.out _)))
  go_wp2
  go_ret
  exact ⟨rfl, nq, rfl⟩
end Go.Proofs.Ytnfgokbopndmgaa

/-
  Several slices of numbers that a call makes, each in a block of its own, in whatever order. Conditions: lengths up to 2^40.
-/
namespace Go.Proofs.Ytnfgokbopndmgaa
open Go.RowKit
open Pol (co)

/-- A slice of n numbers, the first of its block, which lies from base on. -/
def MadeU (w : World) (base : Nat) (v : Value) (n : Nat) (l : List Nat) : Prop := ∃ g c, v = .slice (some ⟨g, 0, none⟩) n c ∧ base ≤ g ∧ RowU w g n c l
theorem RowU.lt {w : World} {g n c : Nat} {l : List Nat} (h : RowU w g n c l) : g < w.heap.size := by
  obtain ⟨cur, h1, _⟩ := h.row
  exact row_lt h1
theorem RowU.ext {w w' : World} {g n c : Nat} {l : List Nat} (h : RowU w g n c l) (hx : Ext w w') : RowU w' g n c l := h.stay (hx.below.block g h.lt)
theorem MadeU.ext {w w' : World} {base n : Nat} {v : Value} {l : List Nat} (h : MadeU w base v n l) (hx : Ext w w') : MadeU w' base v n l := by
  obtain ⟨g, c, h1, h2, h3⟩ := h
  exact ⟨g, c, h1, h2, h3.ext hx⟩
theorem MadeU.down {w : World} {base base' n : Nat} {v : Value} {l : List Nat} (h : MadeU w base v n l) (hb : base' ≤ base) : MadeU w base' v n l := by
  obtain ⟨g, c, h1, h2, h3⟩ := h
  exact ⟨g, c, h1, Nat.le_trans hb h2, h3⟩
theorem UMine.made {w : World} {base n : Nat} {v : Value} {l : List Nat} (h : UMine w base v l) (hn : l.length = n) (h0 : 0 < n) (hu : U64 l) : MadeU w base v n l := by
  rcases h.2 with ⟨_, e⟩ | ⟨g, cap, cur, rfl, hb, hg, hnc, _, hcs, htake⟩
  · omega
  · refine ⟨g, cap, by rw [hn], hb, hn, by omega, hu, cur, hg, by omega, ?_⟩
    rw [← hn, ← htake]
    simp
/-- What has been made so far (K), by number (S): numbers T, no two in one block. -/
structure Fam (w : World) (base n : Nat) (T : Nat → List Nat) (K : Nat → Bool) (S : Nat → Value) : Prop where
  made : ∀ k, k < 4 → K k = true → MadeU w base (S k) n (T k)
  far : ∀ j k, j < 4 → k < 4 → j ≠ k → K j = true → K k = true → (S j).ownBlock ≠ (S k).ownBlock
theorem Fam.next {w w' : World} {base n i : Nat} {T : Nat → List Nat} {K K' : Nat → Bool} {S S' : Nat → Value} (h : Fam w base n T K S) (hx : Ext w w') (hb : base ≤ w.heap.size) (hm : MadeU w' w.heap.size (S' i) n (T i))
    (hK : ∀ k, k < 4 → K' k = true → k ≠ i → K k = true) (hS : ∀ k, k < 4 → k ≠ i → S' k = S k) : Fam w' base n T K' S' := by
  have hold : ∀ k, k < 4 → k ≠ i → K' k = true → ∃ g, (S' k).ownBlock = some g ∧ g < w.heap.size := fun k hk hne hk' => by
    obtain ⟨g, c, e, _, hr⟩ := h.made k hk (hK k hk hk' hne)
    exact ⟨g, by rw [hS k hk hne, e]; rfl, hr.lt⟩
  have hnew : ∃ g, (S' i).ownBlock = some g ∧ w.heap.size ≤ g := by
    obtain ⟨g, c, e, hg, _⟩ := hm
    exact ⟨g, by rw [e]; rfl, hg⟩
  refine ⟨fun k hk hk' => ?_, fun j k hj hk hne hj' hk' => ?_⟩
  · by_cases e : k = i
    · subst e; exact hm.down hb
    · rw [hS k hk e]; exact (h.made k hk (hK k hk hk' e)).ext hx
  · obtain ⟨g, hg, hg2⟩ := hnew
    by_cases ej : j = i
    · subst ej
      obtain ⟨g', e', hlt⟩ := hold k hk (fun e => hne e.symm) hk'
      rw [hg, e']
      intro e
      injection e with e
      omega
    · by_cases ek : k = i
      · subst ek
        obtain ⟨g', e', hlt⟩ := hold j hj ej hj'
        rw [hg, e']
        intro e
        injection e with e
        omega
      · rw [hS j hj ej, hS k hk ek]
        exact h.far j k hj hk hne (hK j hj hj' ej) (hK k hk hk' ek)
theorem Fam.same {w w' : World} {base n : Nat} {T : Nat → List Nat} {K K' : Nat → Bool} {S S' : Nat → Value} (h : Fam w base n T K S) (hx : Ext w w') (hK : ∀ k, k < 4 → K' k = true → K k = true) (hS : ∀ k, k < 4 → S' k = S k) : Fam w' base n T K' S' :=
  ⟨fun k hk hk' => by rw [hS k hk]; exact (h.made k hk (hK k hk hk')).ext hx, fun j k hj hk hne hj' hk' => by rw [hS j hj, hS k hk]; exact h.far j k hj hk hne (hK j hj hj') (hK k hk hk')⟩
theorem row_zeros (w : World) (n : Nat) : RowU (w.alloc (.cells (madeCells #[.int .u64 0] n) 22)) w.heap.size n n (List.replicate n 0) := by
  refine ⟨by simp, Nat.le_refl _, fun i => ?_, _, heap_alloc_new w _, by simp [size_madeCells], ?_⟩
  · unfold co
    rw [List.getElem?_replicate]
    split <;> decide
  · apply List.ext_getElem?
    intro i
    unfold uv
    rw [List.getElem?_take]
    by_cases h : i < n
    · simp [h, madeCells, Nat.mod_one]
    · simp [h]
theorem run_make_u64 (n : Nat) (hn : n ≤ 1099511627776) (w : World) :
    (Instr.makeSlice 40 (.int .i64 (n : Int)) (.int .i64 (n : Int))).run Try.prog w = .ok (.slice (some ⟨w.heap.size, 0, none⟩) n n) (w.alloc (.cells (madeCells #[.int .u64 0] n) 22)) := by
  obtain ⟨i0, hi, hz0, hz1, hz2⟩ := info_parts u64_info
  have h := run_make (P := Try.prog) w 40 22 i0 (.int .u64 0) Try.underlying40 hi hz0 .i64 .i64 n n (by omega) (by omega) (by rw [hz2]; omega) (by omega)
  simp only [Int.toNat_natCast, hz1, Nat.mul_one] at h
  rw [h]
  rfl
set_option maxRecDepth 100000 in
/-- An append to a literal of no numbers. -/
theorem run_append_new64 (w : World) (ty : TypeId) (g : Nat) (m : List Nat) (A : Option Addr) (c : Nat) (hm : URd w A m) (h0 : 0 < m.length) (hlen : m.length ≤ 1099511627776) :
    ∃ v' w', (Builtin.append_ #[40, 40] ty #[.slice (some ⟨g, 0, none⟩) 0 0, .slice A m.length c]).run Try.prog w = .ok v' w' ∧ MadeU w' w.heap.size v' m.length m ∧ Ext w w' := by
  obtain ⟨i0, hi, hz0, hz1, hz2⟩ := info_parts u64_info
  obtain ⟨b, o, rfl, _⟩ := hm.2 0 h0
  have hcells : ∀ j u, (uv m)[j]? = some u → w.cell? ((⟨b, o, none⟩ : Addr).add j) = some u := fun j u hu => by
    have hj : j < m.length := by
      have := (List.getElem?_eq_some_iff.1 hu).1
      rwa [uv_len] at this
    obtain ⟨b', o', e, hc⟩ := hm.2 j hj
    injection e with e
    injection e with e1 e2
    subst e1; subst e2
    rw [addr_add, hc, ← uv_at m j hj, hu]
  obtain ⟨v', w', h1, h2, h3⟩ := run_append_arg_grows (P := Try.prog) w 40 ty 22 i0 (.int .u64 0) 1 8 Try.underlying40 hi hz0 hz1 hz2 rfl (by omega) ⟨g, 0, none⟩ 0 0 [] rfl (fun j u hu => by simp at hu)
    ⟨b, o, none⟩ m.length c (uv m) (by rw [uv_len, Nat.mul_one]) hcells (by omega) (by unfold maxLen; omega) (by omega)
  refine ⟨v', w', h1, UMine.made (l := m) ?_ rfl h0 hm.1, (Ext.refl w).more h3 (fun k e => by cases e)⟩
  unfold UMine
  simpa using h2
theorem wpList_append_new64 {ops : Array Oper} {rest : List Oper} {op : Oper} {a : Act} {w : World} {Q : Exit → Act → World → Prop} (hgd : op.guard = none) (s x : Operand)
    (ho : op.op = .call { callee := .builtin .append, args := #[s, x], argTypes := #[40, 40] })
    (g : Nat) (m : List Nat) (hs : a.eval s = .slice (some ⟨g, 0, none⟩) 0 0) (A : Option Addr) (n c : Nat) (hx : a.eval x = .slice A n c) (hn : m.length = n) (h0 : 0 < n) (hr : URd w A m) (hlen : n ≤ 1099511627776)
    (h : ∀ v' w', MadeU w' w.heap.size v' n m → Ext w w' → wpList Try.prog ops Q rest (a.put op.dst v') w') : wpList Try.prog ops Q (op :: rest) a w := by
  subst hn
  refine wpList_plain hgd fun K hK => ?_
  obtain ⟨v', w', hrun, h2, h3⟩ := run_append_new64 w op.type g m A c hr h0 hlen
  unfold Oper.wp execOp
  simp only [ho, resolve, invoke, builtin, Sem.run_bind, Sem.run_pure, Result.andThen_ok, List.map_toArray, List.map_cons, List.map_nil, hs, hx, hrun]
  exact hK _ _ (h v' w' h2 h3)
end Go.Proofs.Ytnfgokbopndmgaa

/-
  The document's own ledger of layer 13, a number of which is written; what a call of it leaves. Conditions: none.
-/
namespace Go.Proofs.Ytnfgokbopndmgaa
open Go.RowKit
open Pol (co)

theorem RG.set_n {Y : Nat → Prop} {σ m i x : Nat} {G : Gb} {w : World} {s : Lgr} (h : RG Y σ G w m s) (hx : x < 18446744073709551616) :
    RG Y σ G (w.setCell ⟨G.n, i, none⟩ (.int .u64 (x : Int))) m { s with n := s.n.set i x } := by
  obtain ⟨f1, f2, f3, f4, f5, f6, f7, f8, f9, f10⟩ := h.far
  exact ⟨(heap_setCell_other w ⟨G.n, i, none⟩ σ _ f2).trans h.head, h.rb.stay (heap_setCell_other w ⟨G.n, i, none⟩ G.b _ f5), h.rn.put hx, h.rf.stay (heap_setCell_other w ⟨G.n, i, none⟩ G.f _ f8.symm), h.rd.stay (heap_setCell_other w ⟨G.n, i, none⟩ G.d _ f9.symm), h.t, h.yσ, h.yb, h.yn, h.yf, h.yd, h.far⟩
theorem RG.set_b {Y : Nat → Prop} {σ m i x : Nat} {G : Gb} {w : World} {s : Lgr} (h : RG Y σ G w m s) (hx : x < 18446744073709551616) :
    RG Y σ G (w.setCell ⟨G.b, i, none⟩ (.int .u64 (x : Int))) m { s with b := s.b.set i x } := by
  obtain ⟨f1, f2, f3, f4, f5, f6, f7, f8, f9, f10⟩ := h.far
  exact ⟨(heap_setCell_other w ⟨G.b, i, none⟩ σ _ f1).trans h.head, h.rb.put hx, h.rn.stay (heap_setCell_other w ⟨G.b, i, none⟩ G.n _ f5.symm), h.rf.stay (heap_setCell_other w ⟨G.b, i, none⟩ G.f _ f6.symm), h.rd.stay (heap_setCell_other w ⟨G.b, i, none⟩ G.d _ f7.symm), h.t, h.yσ, h.yb, h.yn, h.yf, h.yd, h.far⟩
theorem RG.set_f {Y : Nat → Prop} {σ m i x : Nat} {G : Gb} {w : World} {s : Lgr} (h : RG Y σ G w m s) (hx : x < 18446744073709551616) :
    RG Y σ G (w.setCell ⟨G.f, i, none⟩ (.int .u64 (x : Int))) m { s with f := s.f.set i x } := by
  obtain ⟨f1, f2, f3, f4, f5, f6, f7, f8, f9, f10⟩ := h.far
  exact ⟨(heap_setCell_other w ⟨G.f, i, none⟩ σ _ f3).trans h.head, h.rb.stay (heap_setCell_other w ⟨G.f, i, none⟩ G.b _ f6), h.rn.stay (heap_setCell_other w ⟨G.f, i, none⟩ G.n _ f8), h.rf.put hx, h.rd.stay (heap_setCell_other w ⟨G.f, i, none⟩ G.d _ f10.symm), h.t, h.yσ, h.yb, h.yn, h.yf, h.yd, h.far⟩
theorem RG.set_d {Y : Nat → Prop} {σ m i x : Nat} {G : Gb} {w : World} {s : Lgr} (h : RG Y σ G w m s) (hx : x < 18446744073709551616) :
    RG Y σ G (w.setCell ⟨G.d, i, none⟩ (.int .u64 (x : Int))) m { s with d := s.d.set i x } := by
  obtain ⟨f1, f2, f3, f4, f5, f6, f7, f8, f9, f10⟩ := h.far
  exact ⟨(heap_setCell_other w ⟨G.d, i, none⟩ σ _ f4).trans h.head, h.rb.stay (heap_setCell_other w ⟨G.d, i, none⟩ G.b _ f7), h.rn.stay (heap_setCell_other w ⟨G.d, i, none⟩ G.n _ f9), h.rf.stay (heap_setCell_other w ⟨G.d, i, none⟩ G.f _ f10), h.rd.put hx, h.t, h.yσ, h.yb, h.yn, h.yf, h.yd, h.far⟩
/-- The blocks of a document's ledger. -/
def Gb.has (G : Gb) (σ b : Nat) : Prop := b = σ ∨ b = G.b ∨ b = G.n ∨ b = G.f ∨ b = G.d
/-- What a call of the document's ledger leaves: the error's number, the ledger. -/
def LedP (Y : Nat → Prop) (σ m : Nat) (G : Gb) (w : World) (r : Nat × Lgr) (e : Ending) (w' : World) : Prop :=
  e = .returned (.int .i64 ((r.1 : Nat) : Int)) ∧ Only (G.has σ) w w' ∧ RG Y σ G w' m r.2
end Go.Proofs.Ytnfgokbopndmgaa

/-
  A region that draws its order, whose first operations leave every world of a class in that class and yield the same values in all of them, and whose last operations follow in a forced order: one walk of the text's order serves every order. Conditions: none; of no program in particular.
-/
namespace Go.Proofs.Ytnfgokbopndmgaa
open Go

section
variable {P : Program} {ops : Array Oper} {md : Region.Mode} {C : World → Prop}

/-- f operations below n come up in whatever order, each quiet in the class; then L. -/
def ahead (P : Program) (md : Region.Mode) (ops : Array Oper) (C : World → Prop) (n : Nat) (L : Array Bool → Act → Prop) : Nat → Array Bool → Act → Prop
  | 0, listed, a => L listed a
  | f + 1, listed, a => Region.ready md ops listed ≠ [] ∧ ∀ i, i ∈ Region.ready md ops listed → i < n ∧ qOp P ops C i (ahead P md ops C n L f (listed.setIfInBounds i true)) a

theorem wpAny_of_ahead {n g : Nat} {L : Array Bool → Act → Prop} {Q' : Exit → Act → World → Prop} (hL : ∀ listed a w, C w → L listed a → wpAny P md ops Q' g listed a w) (f : Nat) :
    ∀ (listed : Array Bool) (a : Act) (w : World), C w → ahead P md ops C n L f listed a → wpAny P md ops Q' (f + g) listed a w := by
  induction f with
  | zero => intro listed a w hw h; rw [Nat.zero_add]; exact hL _ _ _ hw h
  | succ f ih =>
    intro listed a w hw h
    rw [Nat.succ_add]
    exact ⟨fun h0 => absurd h0 h.1, fun i hi => wpOp_of_qOp hw (fun a' w' hw' h' => ih _ a' w' hw' h') (h.2 i hi).2⟩

/-- What may come up now may be taken first. -/
theorem ahead_first {n i : Nat} {oi : Oper} {v : Value} {L : Array Bool → Act → Prop} (hi : ops[i]? = some oi) (hsel : ∀ (j : Nat) (o : Oper) cs b, ops[j]? = some o → o.op ≠ .select cs b)
    (hs : Region.sinkB md ops n = true) (hc : Region.chainB md ops n = true) (hn : n < ops.size) (hin : i < n)
    (hdone : ∀ listed a, L listed a → ∀ j ∈ Region.ready md ops listed, n ≤ j) (f : Nat) :
    ∀ (listed : Array Bool) (a : Act), HeadInv md ops n listed →
      (∀ j oj, ops[j]? = some oj → j ≠ i → listed.getD j true = false → (∀ e ∈ oj.after, Region.binds md e = true → e.on ≠ i) → oi.apart ops oj = true) →
      i ∈ Region.ready md ops listed → YieldsIn P ops C oi v a →
      ahead P md ops C n L f (listed.setIfInBounds i true) (a.put oi.dst v) → ahead P md ops C n L (f + 1) listed a := by
  induction f with
  | zero =>
    intro listed a inv _ hr hy H
    refine ⟨List.ne_nil_of_mem hr, fun j hj => ?_⟩
    have hjn : j < n := Nat.lt_of_not_le fun h => tail_waits hs hc hn inv _ i rfl hin (mem_ready.1 hr).1 j h hj
    by_cases hji : j = i
    · subst hji; exact ⟨hjn, hy.qOp hi H⟩
    · exact absurd (hdone _ _ H j (ready_mono hj hji)) (by omega)
  | succ f ih =>
    intro listed a inv hfree hr hy H
    have hun := (mem_ready.1 hr).1
    refine ⟨List.ne_nil_of_mem hr, fun j hj => ?_⟩
    have hjn : j < n := Nat.lt_of_not_le fun h => tail_waits hs hc hn inv _ i rfl hin hun j h hj
    by_cases hji : j = i
    · subst hji; exact ⟨hjn, hy.qOp hi H⟩
    obtain ⟨hjun, oj, hoj, hall⟩ := mem_ready.1 hj
    have hap := hfree j oj hoj hji hjun fun e he hb heq => by
      have h1 := hall e he hb
      rw [heq, getD_both hun] at h1
      cases h1
    refine ⟨hjn, qOp_mono (fun a' h3 => ih (listed.setIfInBounds j true) a' (inv.set hj hjn) ?_ (ready_mono hr (Ne.symm hji)) h3.1 ?_)
      (qOp_put hoj hap (fun cs b => hsel i oi cs b hi) (fun cs b => hsel j oj cs b hoj) hy (H.2 j (ready_mono hj hji)).2)⟩
    · intro k ok hk hki hu hno
      refine hfree k ok hk hki ?_ hno
      by_cases hjk : j = k
      · subst hjk; exact hjun
      · rwa [getD_set_ne true hjk] at hu
    · rw [Array.setIfInBounds_comm _ _ hji]; exact h3.2

theorem ahead_lex {n g : Nat} {Lq : Act → Prop} (hsel : Region.noSelect ops = true) (hs : Region.sinkB md ops n = true) (hc : Region.chainB md ops n = true) (hn : n < ops.size) (l : List Oper) :
    ∀ (k : Nat) (listed : Array Bool) (a : Act), (∀ j, j < l.length → l[j]? = ops[k + j]?) → k + l.length = n → HeadInv md ops n listed →
    Region.lexHead md ops g l.length k listed = true → wpQuiet P ops C Lq l a →
    ahead P md ops C n (fun listed' a' => Region.seqB md ops g n listed' = true ∧ Lq a') l.length listed a := by
  induction l with
  | nil =>
    intro k listed a _ hk _ hB h
    obtain rfl : k = n := by simpa using hk
    exact ⟨by simpa [Region.lexHead] using hB, h⟩
  | cons o l ih =>
    intro k listed a hl hk inv hB h
    have h0 : ops[k]? = some o := by simpa using (hl 0 (by simp)).symm
    simp only [List.length_cons, Region.lexHead, Bool.and_eq_true] at hB hk
    have hr : k ∈ Region.ready md ops listed := by simpa using hB.1.1
    obtain ⟨v, hy, hK⟩ := yieldsIn_of_qOp (C := C) (K := wpQuiet P ops C Lq l) h0 (by unfold qOp; simp only [h0]; exact h)
    refine ahead_first h0 (Region.noSelect_spec hsel) hs hc hn (by omega) (fun _ _ hL => seqB_ready hL.1) l.length listed a inv (Region.free_spec h0 hB.1.2) hr hy ?_
    exact ih (k + 1) _ _ (fun j hj => by have := hl (j + 1) (by simp; omega); simpa [Nat.add_assoc, Nat.add_comm 1 j] using this) (by omega) (inv.set hr (by omega)) hB.2 hK

theorem any_quiet_tail {Q : Exit → Act → World → Prop} {a : Act} {w : World} {l : List Oper} (n : Nat) (C : World → Prop) (hB : Region.lexTailB .any l.toArray n = true) (hC : C w.drew)
    (h : wpQuiet P l.toArray C (fun a' => ∀ w', C w' → wpList P l.toArray Q (l.drop n) a' w') (l.take n) a) : wpAny P .any l.toArray Q l.toArray.size (Array.replicate l.toArray.size false) a w.drew := by
  simp only [Region.lexTailB, Bool.and_eq_true, decide_eq_true_eq] at hB
  obtain ⟨⟨⟨⟨hsel, hn⟩, hs⟩, hc⟩, hlex⟩ := hB
  have hn' : n < l.length := by simpa using hn
  have htl : (l.take n).length = n := by rw [List.length_take]; omega
  have hdl : (l.drop n).length = l.toArray.size - n := by simp
  have inv0 : HeadInv .any l.toArray n (Array.replicate l.toArray.size false) :=
    ⟨by simp, fun j oj _ hl => (by rw [getD_replicate_false] at hl; cases hl), fun t _ ht => getD_in (by simpa using ht) (getD_replicate_false _ _)⟩
  have H := ahead_lex (md := .any) (g := l.toArray.size - n) (C := C) hsel hs hc hn (l.take n) 0 _ a (fun j hj => by
    have hj' : j < n := by rwa [htl] at hj
    simp [hj']) (by rw [htl]; exact Nat.zero_add n) inv0 (by rw [htl]; exact hlex) h
  have key := wpAny_of_ahead (C := C) (Q' := Q) (g := l.toArray.size - n) (fun listed a' w' hw' hL => by
    have := wpAny_of_seq (md := .any) (Q' := Q) (l.drop n) n listed a' w' (fun j => by simp [List.getElem?_drop]) (by rw [hdl]; exact hL.1) (hL.2 w' hw')
    rwa [hdl] at this) _ _ _ _ hC H
  rw [htl, show n + (l.toArray.size - n) = l.toArray.size by omega] at key
  exact key
theorem wp_region_quiet_tail {id : Nat} {Q : Exit → Act → World → Prop} {a : Act} {w : World} {l : List Oper} (n : Nat) (C : World → Prop) (hm : P.follows .mixedOrders = true) (hB : Region.lexTailB .any l.toArray n = true) (hC : C w.drew)
    (h : wpQuiet P l.toArray C (fun a' => ∀ w', C w' → wpList P l.toArray Q (l.drop n) a' w') (l.take n) a) : (Code.region id l.toArray true).wp P Q a w :=
  wp_region_any hm (any_quiet_tail n C hB hC h)
end
end Go.Proofs.Ytnfgokbopndmgaa

/-
  A region that draws its order, by an invariant, whose last operations follow in a forced order: the invariant speaks of the operations ahead of these alone. Conditions: a check of the region's text (by the kernel); of no program in particular.
-/
namespace Go.Proofs.Ytnfgokbopndmgaa
open Go

section
variable {P : Program} {Q : Exit → Act → World → Prop}

theorem wpAny_inv_tail {l : List Oper} (n : Nat) (I : (Nat → Bool) → Act → World → Prop) (hD : depsB l = true) (hss : Region.sinkB .any l.toArray n = true) (hc : Region.chainB .any l.toArray n = true) (hn : n < l.toArray.size)
    (hq : Region.seqB .any l.toArray (l.toArray.size - n) n (Array.replicate n true ++ Array.replicate (l.toArray.size - n) false) = true)
    (hs : ∀ i o, l[i]? = some o → i < n → ∀ L a w, I L a w → L i = false → (∀ e ∈ o.after, Region.binds .any e = true → L e.on = true) → wpList P l.toArray (Exit.then (fun a' w' => I (fun j => j == i || L j) a' w') Q) [o] a w)
    (he : ∀ L a w, (∀ i, i < n → L i = true) → I L a w → wpList P l.toArray Q (l.drop n) a w) :
    ∀ (f : Nat) (L : Array Bool) (a : Act) (w : World) (U : List Nat), HeadInv .any l.toArray n L → U.length = f → U.Nodup → (∀ i, i ∈ U ↔ i < n ∧ L.getD i true = false) → I (fun i => L.getD i true) a w → wpAny P .any l.toArray Q (f + (l.toArray.size - n)) L a w := by
  have hsz0 : l.toArray.size = l.length := by simp
  intro f
  induction f with
  | zero =>
    intro L a w U inv hU _ hin hI
    have hU0 : U = [] := List.eq_nil_of_length_eq_zero hU
    subst hU0
    have hL : ∀ i, i < n → L.getD i true = true := fun i hi => by
      cases hb : L.getD i true with
      | true => rfl
      | false => exact absurd ((hin i).2 ⟨hi, hb⟩) (by simp)
    have hLe : L = Array.replicate n true ++ Array.replicate (l.toArray.size - n) false := by
      apply Array.ext
      · simp [inv.size]; omega
      · intro i h1 h2
        have hi : i < l.toArray.size := by rw [← inv.size]; exact h1
        by_cases hin' : i < n
        · have := hL i hin'
          rw [Array.getD_eq_getD_getElem?, Array.getElem?_eq_getElem h1] at this
          rw [Array.getElem_append_left (by simpa using hin')]
          simpa using this
        · have := inv.tail i (by omega) hi
          rw [Array.getD_eq_getD_getElem?, Array.getElem?_eq_getElem h1] at this
          rw [Array.getElem_append_right (by simpa using hin')]
          simpa using this
    have hdl : (l.drop n).length = l.toArray.size - n := by simp
    have := wpAny_of_seq (md := .any) (Q' := Q) (l.drop n) n L a w (fun j => by simp [List.getElem?_drop]) (by rw [hdl, hLe]; exact hq) (he _ a w hL hI)
    rw [Nat.zero_add]
    rwa [hdl] at this
  | succ f ih =>
    intro L a w U inv hU hnd hin hI
    obtain ⟨i0, hi0⟩ : ∃ i0, i0 ∈ U := List.exists_mem_of_length_pos (by omega)
    obtain ⟨hi0n, hi0u⟩ := (hin i0).1 hi0
    rw [show f + 1 + (l.toArray.size - n) = (f + (l.toArray.size - n)) + 1 by omega]
    refine ⟨fun hr => ?_, fun i hi => ?_⟩
    · have hall : ∀ i, i < n → L.getD i true = true := fun i => by
        induction i using Nat.strongRecOn with
        | _ i ih =>
          intro hi
          cases hb : L.getD i true with
          | true => rfl
          | false =>
            have hil : i < l.length := by omega
            have hoi : l.toArray[i]? = some l[i] := by simp [hil]
            have hm : i ∈ Region.ready .any l.toArray L := mem_ready.2 ⟨hb, _, hoi, fun e hee _ => by
              have hlt := depsB_spec hD (i := i) (o := l[i]) (by simp [hil]) e hee
              exact getD_false_of (by rw [inv.size]; omega) (ih e.on hlt (by omega))⟩
            rw [hr] at hm
            cases hm
      rw [hall i0 hi0n] at hi0u
      cases hi0u
    · have hin' : i < n := Nat.lt_of_not_le fun h => tail_waits hss hc hn inv _ i0 rfl hi0n hi0u i h hi
      obtain ⟨hun, o, ho, haft⟩ := mem_ready.1 hi
      have ho' : l[i]? = some o := by simpa using ho
      have h1 := hs i o ho' hin' _ a w hI hun (fun e hee hb => getD_true_of (haft e hee hb))
      have hmU := (hin i).2 ⟨hin', hun⟩
      have hU' : (U.erase i).length = f := by rw [List.length_erase_of_mem hmU]; omega
      refine wpOp_mono (fun a' w' hI' => ?_) (wpOp_of_one ho h1)
      refine ih _ a' w' (U.erase i) (inv.set hi hin') hU' (hnd.erase i) (fun j => ?_) ?_
      · rw [hnd.mem_erase_iff, hin j, getD_listed, Bool.or_eq_false_iff]
        constructor
        · rintro ⟨h1, h2, h3⟩; exact ⟨h2, by simpa using h1, h3⟩
        · rintro ⟨h2, h1, h3⟩; exact ⟨by simpa using h1, h2, h3⟩
      · simp only [getD_listed]
        exact hI'
theorem wp_region_inv_tail {id : Nat} {a : Act} {w : World} {l : List Oper} (n : Nat) (I : (Nat → Bool) → Act → World → Prop) (hm : P.follows .mixedOrders = true) (hD : depsB l = true) (hB : Region.lexTailB .any l.toArray n = true)
    (hq : Region.seqB .any l.toArray (l.toArray.size - n) n (Array.replicate n true ++ Array.replicate (l.toArray.size - n) false) = true)
    (h0 : ∀ L, (∀ i, i < n → L i = false) → I L a w.drew)
    (hs : ∀ i o, l[i]? = some o → i < n → ∀ L a w, I L a w → L i = false → (∀ e ∈ o.after, Region.binds .any e = true → L e.on = true) → wpList P l.toArray (Exit.then (fun a' w' => I (fun j => j == i || L j) a' w') Q) [o] a w)
    (he : ∀ L a w, (∀ i, i < n → L i = true) → I L a w → wpList P l.toArray Q (l.drop n) a w) : (Code.region id l.toArray true).wp P Q a w := by
  simp only [Region.lexTailB, Bool.and_eq_true, decide_eq_true_eq] at hB
  obtain ⟨⟨⟨⟨hsel, hn⟩, hss⟩, hc⟩, hlex⟩ := hB
  have e0 : ∀ i, i < l.toArray.size → (Array.replicate l.toArray.size false).getD i true = false := fun i hi => getD_in (by simpa using hi) (getD_replicate_false _ _)
  have inv0 : HeadInv .any l.toArray n (Array.replicate l.toArray.size false) :=
    ⟨by simp, fun j oj _ hl => (by rw [getD_replicate_false] at hl; cases hl), fun t _ ht => e0 t ht⟩
  refine wp_region_any hm ?_
  have key := wpAny_inv_tail n I hD hss hc hn hq hs he n _ a w.drew (List.range n) inv0 (by simp) List.nodup_range (fun i => by
    rw [List.mem_range]
    exact ⟨fun h => ⟨h, e0 i (by omega)⟩, fun h => h.1⟩) (h0 _ (fun i hi => e0 i (by omega)))
  rwa [show n + (l.toArray.size - n) = l.toArray.size by omega] at key
end
end Go.Proofs.Ytnfgokbopndmgaa

/-
  What the document's own New of layer 13 does. Conditions: none.
-/
namespace Go.Proofs.Ytnfgokbopndmgaa
open Go.RowKit
open Pol (co)

/-- The blocks that were laid since. -/
def Fresh (w w' : World) (b : Nat) : Prop := w.heap.size ≤ b ∧ b < w'.heap.size
/-- The error's number that New answers. -/
def newc (l : List Nat) : Nat := if l.length < 1 ∨ 6 < l.length then 1 else if 1152921504606846976 < l.sum then 10 else 0
def Lgr.new (l : List Nat) : Lgr := ⟨l, List.replicate l.length 0, List.replicate l.length 0, List.replicate l.length 0, 0⟩
theorem sum_zeros13 (n : Nat) : (List.replicate n 0).sum = 0 := by
  induction n with
  | zero => rfl
  | succ n ih => rw [List.replicate_succ, List.sum_cons, ih]
theorem co_zeros13 (n i : Nat) : co (List.replicate n 0) i = 0 := by
  unfold co
  rw [List.getElem?_replicate]
  split <;> rfl
theorem Lgr.new_ok (l : List Nat) : (Lgr.new l).ok l.length l.sum :=
  ⟨rfl, by simp [Lgr.new], by simp [Lgr.new], by simp [Lgr.new], by simp [Lgr.new], fun i => by simp [Lgr.new, co_zeros13]⟩
/-- What New of the document's ledger leaves. -/
def NewR (l : List Nat) (w : World) (e : Ending) (w' : World) : Prop :=
  Ext w w' ∧ ((newc l = 0 ∧ ∃ σ G, e = .returned (.tuple #[.pointer (some ⟨σ, 0, none⟩), .int .i64 0]) ∧ RG (Fresh w w') σ G w' l.length (Lgr.new l)) ∨
    (newc l ≠ 0 ∧ e = .returned (.tuple #[.pointer none, .int .i64 ((newc l : Nat) : Int)])))
/-- What has been made by the region that lays the ledger. -/
structure NwI (u : World) (n : Nat) (A : Option Addr) (c : Nat) (l : List Nat) (L : Nat → Bool) (x0 x1 x2 x3 x4 x5 x6 x7 x8 : Value) (w : World) : Prop where
  ext : Ext u w
  p0 : L 0 = true → ∃ g, x0 = .slice (some ⟨g, 0, none⟩) 0 0
  p1 : L 1 = true → x1 = .slice A n c
  p3 : L 3 = true → x3 = .int .i64 (n : Int)
  p5 : L 5 = true → x5 = .int .i64 (n : Int)
  p7 : L 7 = true → x7 = .int .i64 (n : Int)
  fam : Fam w u.heap.size n (fun k => if k = 0 then l else List.replicate n 0) (fun k => L (2 * k + 2)) (fun k => if k = 0 then x2 else if k = 1 then x4 else if k = 2 then x6 else x8)
section
variable {u : World} {n : Nat} {A : Option Addr} {c : Nat} {l : List Nat} {L : Nat → Bool} {x0 x1 x2 x3 x4 x5 x6 x7 x8 : Value} {w : World}
theorem NwI.set0 {w' : World} (h : NwI u n A c l L x0 x1 x2 x3 x4 x5 x6 x7 x8 w) (g : Nat) (hx : Ext w w') : NwI u n A c l (fun j => j == 0 || L j) (.slice (some ⟨g, 0, none⟩) 0 0) x1 x2 x3 x4 x5 x6 x7 x8 w' :=
  ⟨h.ext.trans hx, fun _ => ⟨g, rfl⟩, fun e => h.p1 (by simpa using e), fun e => h.p3 (by simpa using e), fun e => h.p5 (by simpa using e), fun e => h.p7 (by simpa using e), h.fam.same hx (fun k _ e => by simpa using e) (fun k _ => rfl)⟩
theorem NwI.set1 (h : NwI u n A c l L x0 x1 x2 x3 x4 x5 x6 x7 x8 w) : NwI u n A c l (fun j => j == 1 || L j) x0 (.slice A n c) x2 x3 x4 x5 x6 x7 x8 w :=
  ⟨h.ext, fun e => h.p0 (by simpa using e), fun _ => rfl, fun e => h.p3 (by simpa using e), fun e => h.p5 (by simpa using e), fun e => h.p7 (by simpa using e), h.fam.same (Ext.refl _) (fun k _ e => by
    simp only [Bool.or_eq_true, beq_iff_eq] at e
    rcases e with e | e
    · omega
    · exact e) (fun k _ => rfl)⟩
theorem NwI.set3 (h : NwI u n A c l L x0 x1 x2 x3 x4 x5 x6 x7 x8 w) : NwI u n A c l (fun j => j == 3 || L j) x0 x1 x2 (.int .i64 (n : Int)) x4 x5 x6 x7 x8 w :=
  ⟨h.ext, fun e => h.p0 (by simpa using e), fun e => h.p1 (by simpa using e), fun _ => rfl, fun e => h.p5 (by simpa using e), fun e => h.p7 (by simpa using e), h.fam.same (Ext.refl _) (fun k _ e => by
    simp only [Bool.or_eq_true, beq_iff_eq] at e
    rcases e with e | e
    · omega
    · exact e) (fun k _ => rfl)⟩
theorem NwI.set5 (h : NwI u n A c l L x0 x1 x2 x3 x4 x5 x6 x7 x8 w) : NwI u n A c l (fun j => j == 5 || L j) x0 x1 x2 x3 x4 (.int .i64 (n : Int)) x6 x7 x8 w :=
  ⟨h.ext, fun e => h.p0 (by simpa using e), fun e => h.p1 (by simpa using e), fun e => h.p3 (by simpa using e), fun _ => rfl, fun e => h.p7 (by simpa using e), h.fam.same (Ext.refl _) (fun k _ e => by
    simp only [Bool.or_eq_true, beq_iff_eq] at e
    rcases e with e | e
    · omega
    · exact e) (fun k _ => rfl)⟩
theorem NwI.set7 (h : NwI u n A c l L x0 x1 x2 x3 x4 x5 x6 x7 x8 w) : NwI u n A c l (fun j => j == 7 || L j) x0 x1 x2 x3 x4 x5 x6 (.int .i64 (n : Int)) x8 w :=
  ⟨h.ext, fun e => h.p0 (by simpa using e), fun e => h.p1 (by simpa using e), fun e => h.p3 (by simpa using e), fun e => h.p5 (by simpa using e), fun _ => rfl, h.fam.same (Ext.refl _) (fun k _ e => by
    simp only [Bool.or_eq_true, beq_iff_eq] at e
    rcases e with e | e
    · omega
    · exact e) (fun k _ => rfl)⟩
theorem NwI.set2 {w' : World} {v : Value} (h : NwI u n A c l L x0 x1 x2 x3 x4 x5 x6 x7 x8 w) (hm : MadeU w' w.heap.size v n l) (hx : Ext w w') : NwI u n A c l (fun j => j == 2 || L j) x0 x1 v x3 x4 x5 x6 x7 x8 w' :=
  ⟨h.ext.trans hx, fun e => h.p0 (by simpa using e), fun e => h.p1 (by simpa using e), fun e => h.p3 (by simpa using e), fun e => h.p5 (by simpa using e), fun e => h.p7 (by simpa using e),
    h.fam.next (i := 0) hx h.ext.size (by simpa using hm) (fun k _ e hne => by
      simp only [Bool.or_eq_true, beq_iff_eq] at e
      rcases e with e | e
      · omega
      · exact e) (fun k _ hne => by simp [hne])⟩
theorem NwI.set4 {w' : World} {v : Value} (h : NwI u n A c l L x0 x1 x2 x3 x4 x5 x6 x7 x8 w) (hm : MadeU w' w.heap.size v n (List.replicate n 0)) (hx : Ext w w') : NwI u n A c l (fun j => j == 4 || L j) x0 x1 x2 x3 v x5 x6 x7 x8 w' :=
  ⟨h.ext.trans hx, fun e => h.p0 (by simpa using e), fun e => h.p1 (by simpa using e), fun e => h.p3 (by simpa using e), fun e => h.p5 (by simpa using e), fun e => h.p7 (by simpa using e),
    h.fam.next (i := 1) hx h.ext.size (by simpa using hm) (fun k _ e hne => by
      simp only [Bool.or_eq_true, beq_iff_eq] at e
      rcases e with e | e
      · omega
      · exact e) (fun k _ hne => by simp [hne])⟩
theorem NwI.set6 {w' : World} {v : Value} (h : NwI u n A c l L x0 x1 x2 x3 x4 x5 x6 x7 x8 w) (hm : MadeU w' w.heap.size v n (List.replicate n 0)) (hx : Ext w w') : NwI u n A c l (fun j => j == 6 || L j) x0 x1 x2 x3 x4 x5 v x7 x8 w' :=
  ⟨h.ext.trans hx, fun e => h.p0 (by simpa using e), fun e => h.p1 (by simpa using e), fun e => h.p3 (by simpa using e), fun e => h.p5 (by simpa using e), fun e => h.p7 (by simpa using e),
    h.fam.next (i := 2) hx h.ext.size (by simpa using hm) (fun k _ e hne => by
      simp only [Bool.or_eq_true, beq_iff_eq] at e
      rcases e with e | e
      · omega
      · exact e) (fun k _ hne => by simp [hne])⟩
theorem NwI.set8 {w' : World} {v : Value} (h : NwI u n A c l L x0 x1 x2 x3 x4 x5 x6 x7 x8 w) (hm : MadeU w' w.heap.size v n (List.replicate n 0)) (hx : Ext w w') : NwI u n A c l (fun j => j == 8 || L j) x0 x1 x2 x3 x4 x5 x6 x7 v w' :=
  ⟨h.ext.trans hx, fun e => h.p0 (by simpa using e), fun e => h.p1 (by simpa using e), fun e => h.p3 (by simpa using e), fun e => h.p5 (by simpa using e), fun e => h.p7 (by simpa using e),
    h.fam.next (i := 3) hx h.ext.size (by simpa using hm) (fun k _ e hne => by
      simp only [Bool.or_eq_true, beq_iff_eq] at e
      rcases e with e | e
      · omega
      · exact e) (fun k hk hne => by
      have : k < 3 := by omega
      match k, this with
      | 0, _ => rfl
      | 1, _ => rfl
      | 2, _ => rfl)⟩
end
set_option maxHeartbeats 3200000 in
set_option maxRecDepth 100000 in
theorem ref13_new (l : List Nat) (A : Option Addr) (n c : Nat) (w : World) (hn : l.length = n) (hr : URd w A l) :
    Calls Try.prog 17 #[.slice A n c] w (NewR l w) := by
  unfold NewR
  have HR := Lib.hid hr
  have HN := Lib.hid hn
  have HT := Lib.hid (fun i (hi : i < l.length) => take_sum13 l i hi)
  have HTL := Lib.hid (fun i => take_sum_le13 l i)
  have HF := Lib.hid (show l.take n = l from by rw [← hn, List.take_length])
  by_cases h1 : n < 1
  · have hc : newc l = 1 := by unfold newc; rw [if_pos (Or.inl (by omega))]
    rw [hc]
    have d1 : decide ((n : Int) < 1) = true := decide_eq_true (by omega)
    clear hr hn
    go_enter Try.func17, Try.ntmps17
    go_wp2
    go_ret2
    exact ⟨Ext.refl _, .inr ⟨by decide, rfl⟩⟩
  · have d1 : decide ((n : Int) < 1) = false := decide_eq_false (by omega)
    by_cases h2 : 6 < n
    · have hc : newc l = 1 := by unfold newc; rw [if_pos (Or.inr (by omega))]
      rw [hc]
      have d2 : decide ((n : Int) > 6) = true := decide_eq_true (by omega)
      have d2' : decide (6 < (n : Int)) = true := decide_eq_true (by omega)
      clear hr hn
      go_enter Try.func17, Try.ntmps17
      go_wp2
      go_ret2
      exact ⟨Ext.refl _, .inr ⟨by decide, rfl⟩⟩
    · have d2 : decide ((n : Int) > 6) = false := decide_eq_false (by omega)
      have d2' : decide (6 < (n : Int)) = false := decide_eq_false (by omega)
      have HC := Lib.hid (show newc l = if 1152921504606846976 < l.sum then 10 else 0 from by unfold newc; rw [if_neg (by omega)])
      clear hr hn
      go_enter Try.func17, Try.ntmps17
      go_wp2
      go_loopg [4, 17] n (fun g s4 s17 wx => ∃ i t : Nat, i + g = n ∧ (l.take i).sum + t = 1152921504606846976 ∧ s4 = .int .u64 (t : Int) ∧ s17 = .int .i64 (i : Int) ∧ w = wx)
      case atStart => exact ⟨0, 1152921504606846976, by omega, by simp, rfl, rfl, rfl⟩
      case round =>
        obtain ⟨i, t, hig, ht, rfl, rfl, rfl⟩ := hrel
        cases gk with
        | zero =>
          obtain rfl : i = n := by omega
          have HV := Lib.hid (show newc l = 0 by rw [HC.out, if_neg]; rw [HF.out] at ht; omega)
          have d3 : decide ((i : Int) < (i : Int)) = false := decide_eq_false (by omega)
          clear ht
          go_wp2
          have HRA := Lib.hid (fun w' (h : Ext w w') => HR.out.ext h)
          have hpos : 0 < i := by omega
          have hle : i ≤ 6 := by omega
          have hmk := run_make_u64 i (by omega)
          refine wp_region_inv_tail 9 (fun L a w' => ∃ x0 x1 x2 x3 x4 x5 x6 x7 x8, a = ⟨#[.slice A i c, undef, u2, u3, .int .u64 (t : Int), u5, .int .i64 (i : Int), .slice A i c,
            .int .i64 (i : Int), .bool false, .bool false, .slice A i c, .int .i64 (i : Int),
            .bool false, .bool false, .slice A i c, .int .i64 (i : Int), .int .i64 (i : Int),
            .bool false, u19, u20, u21, u22, u23, u24, u25, u26, u27, u28, u29, u30, u31, u32, .slice A i c,
            .int .i64 (i : Int), x0, x1, x2, x3, x4, x5, x6, x7, x8, undef, undef], []⟩ ∧ NwI w i A c l L x0 x1 x2 x3 x4 x5 x6 x7 x8 w') (by kernel_rfl) (by kernel_rfl) (by kernel_rfl) (by kernel_rfl) ?_ ?_ ?_
          · intro L hL
            refine ⟨_, _, _, _, _, _, _, _, _, rfl, (Ext.refl w).drew, fun e => ?_, fun e => ?_, fun e => ?_, fun e => ?_, fun e => ?_, ⟨fun k hk e => ?_, fun j k hj hk hne e e2 => ?_⟩⟩
            all_goals (rw [hL _ (by omega)] at e; cases e)
          · intro i0 o ho hi9 L a w2 hI hL haft
            obtain ⟨x0, x1, x2, x3, x4, x5, x6, x7, x8, rfl, h⟩ := hI
            have HH := Lib.hid h
            clear h
            match i0, ho, hi9, hL with
            | 0, ho, hi9, hL =>
              obtain rfl : _ = o := Option.some.inj ho
              clear ho haft hL hi9
              go_wp2
              exact ⟨_, _, _, _, _, _, _, _, _, rfl, HH.out.set0 _ ((Ext.refl _).alloc _)⟩
            | 1, ho, hi9, hL =>
              obtain rfl : _ = o := Option.some.inj ho
              clear ho haft hL hi9
              go_wp2
              exact ⟨_, _, _, _, _, _, _, _, _, rfl, HH.out.set1⟩
            | 3, ho, hi9, hL =>
              obtain rfl : _ = o := Option.some.inj ho
              clear ho haft hL hi9
              go_wp2
              exact ⟨_, _, _, _, _, _, _, _, _, rfl, HH.out.set3⟩
            | 5, ho, hi9, hL =>
              obtain rfl : _ = o := Option.some.inj ho
              clear ho haft hL hi9
              go_wp2
              exact ⟨_, _, _, _, _, _, _, _, _, rfl, HH.out.set5⟩
            | 7, ho, hi9, hL =>
              obtain rfl : _ = o := Option.some.inj ho
              clear ho haft hL hi9
              go_wp2
              exact ⟨_, _, _, _, _, _, _, _, _, rfl, HH.out.set7⟩
            | 2, ho, hi9, hL =>
              obtain rfl : _ = o := Option.some.inj ho
              have l0 := haft ⟨0, .data⟩ (by simp) (by kernel_rfl)
              have l1 := haft ⟨1, .data⟩ (by simp) (by kernel_rfl)
              obtain ⟨g, rfl⟩ := HH.out.p0 l0
              obtain rfl := HH.out.p1 l1
              clear ho haft hL hi9 l0 l1
              have HU := Lib.hid (HRA.out w2 HH.out.ext)
              go_wp2_with (first | (at_builtin; refine wpList_append_new64 rfl (.tmp 35) (.tmp 36) rfl g l rfl A i c rfl HN.out hpos HU.out (by omega) ?_; rintro v w3 hm hx) | fail)
              have HM := Lib.hid hm
              have HX := Lib.hid hx
              clear hm hx
              go_wp2
              exact ⟨_, _, _, _, _, _, _, _, _, rfl, HH.out.set2 HM.out HX.out⟩
            | 4, ho, hi9, hL =>
              obtain rfl : _ = o := Option.some.inj ho
              have l0 := haft ⟨3, .data⟩ (by simp) (by kernel_rfl)
              obtain rfl := HH.out.p3 l0
              clear ho haft hL hi9 l0
              go_wp2
              exact ⟨_, _, _, _, _, _, _, _, _, rfl, HH.out.set4 ⟨_, _, rfl, Nat.le_refl _, row_zeros w2 i⟩ ((Ext.refl _).alloc _)⟩
            | 6, ho, hi9, hL =>
              obtain rfl : _ = o := Option.some.inj ho
              have l0 := haft ⟨5, .data⟩ (by simp) (by kernel_rfl)
              obtain rfl := HH.out.p5 l0
              clear ho haft hL hi9 l0
              go_wp2
              exact ⟨_, _, _, _, _, _, _, _, _, rfl, HH.out.set6 ⟨_, _, rfl, Nat.le_refl _, row_zeros w2 i⟩ ((Ext.refl _).alloc _)⟩
            | 8, ho, hi9, hL =>
              obtain rfl : _ = o := Option.some.inj ho
              have l0 := haft ⟨7, .data⟩ (by simp) (by kernel_rfl)
              obtain rfl := HH.out.p7 l0
              clear ho haft hL hi9 l0
              go_wp2
              exact ⟨_, _, _, _, _, _, _, _, _, rfl, HH.out.set8 ⟨_, _, rfl, Nat.le_refl _, row_zeros w2 i⟩ ((Ext.refl _).alloc _)⟩
            | i0 + 9, ho, hi9, hL => omega
          · intro L a w2 hL hI
            obtain ⟨x0, x1, x2, x3, x4, x5, x6, x7, x8, rfl, h⟩ := hI
            have m2 := h.fam.made 0 (by omega) (hL 2 (by omega))
            have m4 := h.fam.made 1 (by omega) (hL 4 (by omega))
            have m6 := h.fam.made 2 (by omega) (hL 6 (by omega))
            have m8 := h.fam.made 3 (by omega) (hL 8 (by omega))
            have f01 := h.fam.far 0 1 (by omega) (by omega) (by omega) (hL 2 (by omega)) (hL 4 (by omega))
            have f02 := h.fam.far 0 2 (by omega) (by omega) (by omega) (hL 2 (by omega)) (hL 6 (by omega))
            have f03 := h.fam.far 0 3 (by omega) (by omega) (by omega) (hL 2 (by omega)) (hL 8 (by omega))
            have f12 := h.fam.far 1 2 (by omega) (by omega) (by omega) (hL 4 (by omega)) (hL 6 (by omega))
            have f13 := h.fam.far 1 3 (by omega) (by omega) (by omega) (hL 4 (by omega)) (hL 8 (by omega))
            have f23 := h.fam.far 2 3 (by omega) (by omega) (by omega) (hL 6 (by omega)) (hL 8 (by omega))
            have HX := Lib.hid h.ext
            clear h hL
            simp only [if_pos, reduceIte, Nat.reduceEqDiff, Nat.succ_ne_zero] at m2 m4 m6 m8 f01 f02 f03 f12 f13 f23
            obtain ⟨g2, c2, rfl, b2, r2⟩ := m2
            obtain ⟨g4, c4, rfl, b4, r4⟩ := m4
            obtain ⟨g6, c6, rfl, b6, r6⟩ := m6
            obtain ⟨g8, c8, rfl, b8, r8⟩ := m8
            have HG := Lib.hid (show g2 ≠ g4 ∧ g2 ≠ g6 ∧ g2 ≠ g8 ∧ g4 ≠ g6 ∧ g4 ≠ g8 ∧ g6 ≠ g8 from ⟨fun e => f01 (by rw [e]; rfl), fun e => f02 (by rw [e]; rfl), fun e => f03 (by rw [e]; rfl), fun e => f12 (by rw [e]; rfl), fun e => f13 (by rw [e]; rfl), fun e => f23 (by rw [e]; rfl)⟩)
            have HB := Lib.hid (And.intro b2 (And.intro b4 (And.intro b6 b8)))
            have R2 := Lib.hid r2
            have R4 := Lib.hid r4
            have R6 := Lib.hid r6
            have R8 := Lib.hid r8
            clear f01 f02 f03 f12 f13 f23 b2 b4 b6 b8 r2 r4 r6 r8
            simp only [List.drop_succ_cons, List.drop_zero]
            go_wp2
            go_ret2
            have hx : Ext w2 (w2.alloc (.cells #[.slice (some ⟨g2, 0, none⟩) i c2, .slice (some ⟨g4, 0, none⟩) i c4, .slice (some ⟨g6, 0, none⟩) i c6, .slice (some ⟨g8, 0, none⟩) i c8, .int .u64 0] 52)) := (Ext.refl _).alloc _
            obtain ⟨b2, b4, b6, b8⟩ := HB.out
            obtain ⟨f1, f2, f3, f4, f5, f6⟩ := HG.out
            have l2 := R2.out.lt
            have l4 := R4.out.lt
            have l6 := R6.out.lt
            have l8 := R8.out.lt
            have hs := HX.out.size
            have hz : (w2.alloc (.cells #[.slice (some ⟨g2, 0, none⟩) i c2, .slice (some ⟨g4, 0, none⟩) i c4, .slice (some ⟨g6, 0, none⟩) i c6, .slice (some ⟨g8, 0, none⟩) i c8, .int .u64 0] 52)).heap.size = w2.heap.size + 1 := by simp
            refine ⟨HX.out.trans hx, .inl ⟨HV.out, w2.heap.size, ⟨g2, g4, g6, g8, c2, c4, c6, c8⟩, rfl, ?_⟩⟩
            rw [HN.out]
            exact ⟨heap_alloc_new _ _, R2.out.ext hx, by rw [show (Lgr.new l).n = List.replicate i 0 from by rw [← HN.out]; rfl]; exact R4.out.ext hx, by rw [show (Lgr.new l).f = List.replicate i 0 from by rw [← HN.out]; rfl]; exact R6.out.ext hx, by rw [show (Lgr.new l).d = List.replicate i 0 from by rw [← HN.out]; rfl]; exact R8.out.ext hx, (by decide : (0 : Nat) < 18446744073709551616),
              ⟨hs, by omega⟩, ⟨b2, by dsimp only; omega⟩, ⟨b4, by dsimp only; omega⟩, ⟨b6, by dsimp only; omega⟩, ⟨b8, by dsimp only; omega⟩, by dsimp only; omega, by dsimp only; omega, by dsimp only; omega, by dsimp only; omega, f1, f2, f3, f4, f5, f6⟩
        | succ g =>
          have hi : i < n := by omega
          have hiI : (i : Int) < (n : Int) := by omega
          obtain ⟨b0, o, rfl, hcb⟩ := HR.out.2 i (by rw [HN.out]; exact hi)
          have e1 := HT.out i (by rw [HN.out]; exact hi)
          have e2 := HTL.out (i + 1)
          obtain ⟨x, hx⟩ : ∃ x, co l i = x := ⟨_, rfl⟩
          rw [hx] at hcb e1
          by_cases hxt : t < x
          · have HV := Lib.hid (show newc l = 10 by rw [HC.out, if_pos]; omega)
            have d4 : decide ((x : Int) > (t : Int)) = true := decide_eq_true (by omega)
            have d4' : decide ((t : Int) < (x : Int)) = true := decide_eq_true (by omega)
            have d4'' : decide (t < x) = true := decide_eq_true hxt
            clear e1 e2 ht hx
            go_wp2
            go_ret2
            rw [HV.out]
            exact ⟨Ext.refl _, .inr ⟨by decide, rfl⟩⟩
          · have d4 : decide ((x : Int) > (t : Int)) = false := decide_eq_false (by omega)
            have d4' : decide ((t : Int) < (x : Int)) = false := decide_eq_false (by omega)
            have d4'' : decide (t < x) = false := decide_eq_false hxt
            obtain ⟨y, hy⟩ : ∃ y, t - x = y := ⟨_, rfl⟩
            have e3 : IntKind.u64.wrap ((t : Int) - (x : Int)) = (y : Int) := by rw [IntKind.wrap_u64]; omega
            have HE := Lib.hid (show (l.take (i + 1)).sum + y = 1152921504606846976 by omega)
            clear e1 e2 ht hx hy
            go_wp2
            go_roundg g
            case measure => omega
            case rel => exact ⟨i + 1, y, by omega, HE.out, rfl, by go_num, rfl⟩
end Go.Proofs.Ytnfgokbopndmgaa

/-
  What a ledger's calls leave, over a predicate that the code's proof chooses: what a ledger is in memory. Conditions: none.
-/
namespace Go.Proofs.Ytnfgokbopndmgaa
open Go.RowKit
open Pol (co)

abbrev LgrP := (Nat → Prop) → Nat → World → Nat → Lgr → Prop
/-- An account that is there. -/
def Inn (m : Nat) (who : Int) : Prop := 0 ≤ who ∧ who < (m : Int)
instance (m : Nat) (who : Int) : Decidable (Inn m who) := inferInstanceAs (Decidable (_ ∧ _))
/-- What a call of a ledger leaves: the error's number, the ledger. -/
def OpP (I : LgrP) (X : Nat → Prop) (σ m : Nat) (w : World) (r : Nat × Lgr) (e : Ending) (w' : World) : Prop :=
  e = .returned (.int .i64 ((r.1 : Nat) : Int)) ∧ Only X w w' ∧ I X σ w' m r.2
def NewP (I : LgrP) (l : List Nat) (w : World) (e : Ending) (w' : World) : Prop :=
  Ext w w' ∧ ((newc l = 0 ∧ ∃ σ, e = .returned (.tuple #[.pointer (some ⟨σ, 0, none⟩), .int .i64 0]) ∧ I (Fresh w w') σ w' l.length (Lgr.new l)) ∨
    (newc l ≠ 0 ∧ e = .returned (.tuple #[.pointer none, .int .i64 ((newc l : Nat) : Int)])))
/-- A ledger of m accounts and the total M. -/
structure Good (s : Lgr) (m M : Nat) : Prop where
  ok : s.ok m M
  tot : M ≤ 1152921504606846976
  few : m ≤ 6
/-- What a ledger is in memory stays while its blocks do. -/
structure Keeps (I : LgrP) : Prop where
  keep : ∀ {X : Nat → Prop} {σ m : Nat} {w w' : World} {s : Lgr}, I X σ w m s → (∀ b, X b → w'.heap[b]? = w.heap[b]?) → I X σ w' m s
end Go.Proofs.Ytnfgokbopndmgaa

/-
  A ledger with the blocks that are its own; what its calls leave of it. Conditions: none.
-/
namespace Go.Proofs.Ytnfgokbopndmgaa
open Go.RowKit
open Pol (co)

theorem Good.hold {s : Lgr} {m M i x : Nat} (h : Good s m M) (hi : i < m) : Good (s.hold i x).2 m M := ⟨Lgr.hold_ok h.ok hi, h.tot, h.few⟩
theorem Good.back {s : Lgr} {m M i x : Nat} {u v : Bool} (h : Good s m M) (hi : i < m) : Good (s.back i x u v).2 m M := ⟨Lgr.back_ok h.ok hi, h.tot, h.few⟩
theorem Good.move {s : Lgr} {m M i j x : Nat} (h : Good s m M) (hi : i < m) (hj : j < m) : Good (s.move i j x).2 m M := ⟨Lgr.move_ok h.ok hi hj, h.tot, h.few⟩
theorem Good.turn {s : Lgr} {m M i x : Nat} (h : Good s m M) : Good (s.turn i x).2 m M := ⟨Lgr.turn_ok h.ok, h.tot, h.few⟩
theorem Inn.lt {m : Nat} {who : Int} (h : Inn m who) : who.toNat < m := by
  obtain ⟨h1, h2⟩ := h
  omega
/-- A ledger, whose blocks are those of X, which lie between base and the world's end. -/
structure Lq (I : LgrP) (X : Nat → Prop) (σ : Nat) (w : World) (m : Nat) (s : Lgr) (M base : Nat) : Prop where
  mem : I X σ w m s
  good : Good s m M
  own : ∀ b, X b → base ≤ b ∧ b < w.heap.size
/-- What an operation of the code's leaves. -/
def LqP (I : LgrP) (X : Nat → Prop) (σ m M base : Nat) (w : World) (r : Nat × Lgr) (e : Ending) (w' : World) : Prop :=
  e = .returned (.int .i64 ((r.1 : Nat) : Int)) ∧ Only X w w' ∧ Lq I X σ w' m r.2 M base
section
variable {I : LgrP} (C : Keeps I)
include C
theorem Lq.only {X Y : Nat → Prop} {σ m M base : Nat} {w w' : World} {s : Lgr} (h : Lq I X σ w m s M base) (ho : Only Y w w') (hxy : ∀ b, X b → ¬ Y b) : Lq I X σ w' m s M base :=
  ⟨C.keep h.mem (fun b hb => ho.block b (h.own b hb).2 (hxy b hb)), h.good, fun b hb => ⟨(h.own b hb).1, Nat.lt_of_lt_of_le (h.own b hb).2 ho.size⟩⟩
theorem Lq.ext {X : Nat → Prop} {σ m M base : Nat} {w w' : World} {s : Lgr} (h : Lq I X σ w m s M base) (hx : Ext w w') : Lq I X σ w' m s M base := h.only C (Y := fun _ => False) (Only.of_ext hx) (fun _ _ h => h)
omit C in
theorem Lq.down {X : Nat → Prop} {σ m M base base' : Nat} {w : World} {s : Lgr} (h : Lq I X σ w m s M base) (hb : base' ≤ base) : Lq I X σ w m s M base' := ⟨h.mem, h.good, fun b hb' => ⟨Nat.le_trans hb (h.own b hb').1, (h.own b hb').2⟩⟩
omit C in
theorem OpP.lq {X : Nat → Prop} {σ m M base : Nat} {w : World} {s : Lgr} {r : Nat × Lgr} {e : Ending} {w' : World} (h : OpP I X σ m w r e w') (hq : Lq I X σ w m s M base) (hg : Good r.2 m M) : LqP I X σ m M base w r e w' :=
  ⟨h.1, h.2.1, h.2.2, hg, fun b hb => ⟨(hq.own b hb).1, Nat.lt_of_lt_of_le (hq.own b hb).2 h.2.1.size⟩⟩
end
end Go.Proofs.Ytnfgokbopndmgaa

/-
  What the document's own Move of layer 13 does. Conditions: a total of 64 bits.
-/
namespace Go.Proofs.Ytnfgokbopndmgaa
open Go.RowKit
open Pol (co)

theorem RG.drewN {Y : Nat → Prop} {σ m : Nat} {G : Gb} {w : World} {s : Lgr} (h : RG Y σ G w m s) (q : Nat) : RG Y σ G (w.drewN q) m s := h.stay fun _ _ => rfl
set_option maxHeartbeats 1600000 in
theorem ref13_move {Y : Nat → Prop} {σ m M x : Nat} {G : Gb} {s : Lgr} (w : World) (h : RG Y σ G w m s) (hk : s.ok m M) (hM : M < 18446744073709551616) (a b : Int) (hx : x < 18446744073709551616) :
    Calls Try.prog 42 #[.pointer (some ⟨σ, 0, none⟩), .int .i64 a, .int .i64 b, .int .u64 (x : Int)] w
      (LedP Y σ m G w (if (0 ≤ a ∧ a < (m : Int)) ∧ 0 ≤ b ∧ b < (m : Int) then s.move a.toNat b.toNat x else (1, s))) := by
  have HIA := Lib.hid (ref13_is w h a)
  have HIB := Lib.hid (ref13_is w h b)
  have HR := Lib.hid h
  have c0 := h.c0
  by_cases ha : 0 ≤ a ∧ a < (m : Int)
  · by_cases hb : 0 ≤ b ∧ b < (m : Int)
    · rw [if_pos ⟨ha, hb⟩]
      obtain ⟨i, rfl⟩ : ∃ i : Nat, (i : Int) = a := ⟨a.toNat, by omega⟩
      obtain ⟨j, rfl⟩ : ∃ j : Nat, (j : Int) = b := ⟨b.toNat, by omega⟩
      rw [decide_eq_true ha] at HIA
      rw [decide_eq_true hb] at HIB
      rw [Int.toNat_natCast, Int.toNat_natCast]
      have hi : i < m := by omega
      have hj : j < m := by omega
      have ci := h.rb.at hi
      have zi := h.rb.free i
      obtain ⟨v, hv⟩ : ∃ v, co s.b i = v := ⟨_, rfl⟩
      rw [hv] at ci
      have HT := Lib.hid (show s.move i j x = if v < x then (9, s) else (0, { s with b := (s.b.set i (v - x)).set j (co (s.b.set i (v - x)) j + x) }) by rw [← hv]; rfl)
      have hiI : (i : Int) < (m : Int) := by omega
      have hi0 : (0 : Int) ≤ (i : Int) := by omega
      have hjI : (j : Int) < (m : Int) := by omega
      have hj0 : (0 : Int) ≤ (j : Int) := by omega
      by_cases h1 : v < x
      · rw [HT.out, if_pos h1]
        have d1 : decide ((v : Int) < (x : Int)) = true := decide_eq_true (by omega)
        have d2 : decide (v < x) = true := decide_eq_true h1
        clear h hk ha hb hv
        obtain ⟨gb, gn, gf, gd, cb, cn', cf, cd⟩ := G
        go_enter Try.func42, Try.ntmps42
        go_wp2_with fail
        refine HIA.out.mono ?_
        rintro e w1 ⟨rfl, rfl⟩
        go_wp2_with fail
        refine HIB.out.mono ?_
        rintro e w1 ⟨rfl, rfl⟩
        go_wp2
        go_ret
        exact ⟨rfl, Only.refl _ _, HR.out⟩
      · rw [HT.out, if_neg h1]
        have d1 : decide ((v : Int) < (x : Int)) = false := decide_eq_false (by omega)
        have d2 : decide (v < x) = false := decide_eq_false h1
        have hle := hk.le i
        rw [hv] at hle
        have HB := Lib.hid (fun (c : Nat) (hc : co (s.b.set i (v - x)) j = c) => show c + x < 18446744073709551616 from by
          have h1 := sum_set13 s.b i (v - x) (by rw [hk.lb]; exact hi)
          have h2 := co_le_sum13 (s.b.set i (v - x)) j
          have h3 := hk.sum
          rw [hv] at h1
          omega)
        obtain ⟨y, hy⟩ : ∃ y, v - x = y := ⟨_, rfl⟩
        have e1 : IntKind.u64.wrap ((v : Int) - (x : Int)) = (y : Int) := by rw [IntKind.wrap_u64]; omega
        have hys : y < 18446744073709551616 := by omega
        rw [hy] at HB ⊢
        have H1 := Lib.hid (fun q => (h.drewN q).set_b (i := i) (x := y) hys)
        clear h hk ha hb hv hle hy HT
        obtain ⟨gb, gn, gf, gd, cb, cn', cf, cd⟩ := G
        go_enter Try.func42, Try.ntmps42
        go_wp2_with fail
        refine HIA.out.mono ?_
        rintro e w1 ⟨rfl, rfl⟩
        go_wp2_with fail
        refine HIB.out.mono ?_
        rintro e w1 ⟨rfl, rfl⟩
        go_wp2
        refine wp_region_quiet_tail 15 (fun w' => ∃ q, w' = w.drewN q) (by kernel_rfl) (by kernel_rfl) ⟨1, rfl⟩ ?_
        simp only [List.take_succ_cons, List.take_zero, List.drop_succ_cons, List.drop_zero]
        repeat (quiet_step (fail))
        refine wpQuiet_nil ?_
        rintro _ ⟨q, rfl⟩
        go_wp2
        obtain ⟨u, hu⟩ : ∃ u, co (s.b.set i y) j = u := ⟨_, rfl⟩
        have hux := HB.out u hu
        have H2 := H1.out q
        have c0' := H2.c0
        have cj := H2.rb.at hj
        have zj := H2.rb.free j
        change World.cell? _ _ = some (.int .u64 ((co (s.b.set i y) j : Nat) : Int)) at cj
        rw [hu] at cj
        obtain ⟨z, hz⟩ : ∃ z, u + x = z := ⟨_, rfl⟩
        have HZ := Lib.hid (show co (s.b.set i y) j + x = z by rw [hu]; exact hz)
        have e2 : IntKind.u64.wrap ((u : Int) + (x : Int)) = (z : Int) := by rw [IntKind.wrap_u64]; omega
        rw [hz] at hux
        have HO := Lib.hid (show Only (Gb.has ⟨gb, gn, gf, gd, cb, cn', cf, cd⟩ σ) w ((w.drewN q).setCell ⟨gb, i, none⟩ (.int .u64 (y : Int))) from ((Only.refl _ w).drewN q).trans (Only.of_grown (grown_set _ gb i _) (fun k e => by injection e with e; exact .inr (.inl e.symm))))
        have HH2 := Lib.hid (fun q2 => (H2.drewN q2).set_b (i := j) (x := z) hux)
        clear H2 hu H1 HB hz
        generalize ((w.drewN q).setCell ⟨gb, i, none⟩ (.int .u64 (y : Int))) = wa at *
        refine wp_region_quiet_tail 15 (fun w' => ∃ q, w' = wa.drewN q) (by kernel_rfl) (by kernel_rfl) ⟨1, rfl⟩ ?_
        simp only [List.take_succ_cons, List.take_zero, List.drop_succ_cons, List.drop_zero]
        repeat (quiet_step (fail))
        refine wpQuiet_nil ?_
        rintro _ ⟨q2, rfl⟩
        go_wp2
        go_ret
        exact ⟨rfl, HO.out.trans (((Only.refl _ wa).drewN q2).trans (Only.of_grown (grown_set _ gb j _) (fun k e => by injection e with e; exact .inr (.inl e.symm)))), by rw [HZ.out]; exact HH2.out q2⟩
    · rw [if_neg (by omega)]
      rw [decide_eq_true ha] at HIA
      rw [decide_eq_false hb] at HIB
      clear h hk ha hb
      go_enter Try.func42, Try.ntmps42
      go_wp2_with fail
      refine HIA.out.mono ?_
      rintro e w1 ⟨rfl, rfl⟩
      go_wp2_with fail
      refine HIB.out.mono ?_
      rintro e w1 ⟨rfl, rfl⟩
      go_wp2
      go_ret
      exact ⟨rfl, Only.refl _ _, HR.out⟩
  · rw [if_neg (by omega)]
    rw [decide_eq_false ha] at HIA
    clear h hk ha HIB
    go_enter Try.func42, Try.ntmps42
    go_wp2_with fail
    refine HIA.out.mono ?_
    rintro e w1 ⟨rfl, rfl⟩
    go_wp2
    go_ret
    exact ⟨rfl, Only.refl _ _, HR.out⟩
end Go.Proofs.Ytnfgokbopndmgaa

/-
  The document's own ledger of layer 13 beside other blocks; its New of a list that may be. Conditions: none.
-/
namespace Go.Proofs.Ytnfgokbopndmgaa
open Go.RowKit
open Pol (co)

theorem RG.ext {Y : Nat → Prop} {σ m : Nat} {G : Gb} {w w' : World} {s : Lgr} (h : RG Y σ G w m s) (hx : Ext w w') : RG Y σ G w' m s :=
  ⟨(hx.below.block σ (row_lt h.head)).trans h.head, h.rb.ext hx, h.rn.ext hx, h.rf.ext hx, h.rd.ext hx, h.t, h.yσ, h.yb, h.yn, h.yf, h.yd, h.far⟩
theorem RG.only {X Y : Nat → Prop} {τ m : Nat} {G : Gb} {w w' : World} {s : Lgr} (h : RG Y τ G w m s) (ho : Only X w w') (hd : ∀ b, X b → ¬ G.has τ b) : RG Y τ G w' m s :=
  ⟨(ho.block τ (row_lt h.head) (fun e => hd _ e (.inl rfl))).trans h.head, h.rb.stay (ho.block _ h.rb.lt (fun e => hd _ e (.inr (.inl rfl)))), h.rn.stay (ho.block _ h.rn.lt (fun e => hd _ e (.inr (.inr (.inl rfl))))),
    h.rf.stay (ho.block _ h.rf.lt (fun e => hd _ e (.inr (.inr (.inr (.inl rfl)))))), h.rd.stay (ho.block _ h.rd.lt (fun e => hd _ e (.inr (.inr (.inr (.inr rfl)))))), h.t, h.yσ, h.yb, h.yn, h.yf, h.yd, h.far⟩
theorem RG.has {Y : Nat → Prop} {τ m b : Nat} {G : Gb} {w : World} {s : Lgr} (h : RG Y τ G w m s) (hb : G.has τ b) : Y b := by
  rcases hb with rfl | rfl | rfl | rfl | rfl
  · exact h.yσ
  · exact h.yb
  · exact h.yn
  · exact h.yf
  · exact h.yd
/-- The document's New of a list that may be. -/
theorem ref13_new_ok {l : List Nat} {A : Option Addr} {n c : Nat} (w : World) (hn : l.length = n) (hr : URd w A l) (h0 : newc l = 0) : Calls Try.prog 17 #[.slice A n c] w (fun e w' => Ext w w' ∧
    ∃ τ G, e = .returned (.tuple #[.pointer (some ⟨τ, 0, none⟩), .int .i64 0]) ∧ RG (Fresh w w') τ G w' n (Lgr.new l)) := by
  refine (ref13_new l A n c w hn hr).mono ?_
  rintro e w' ⟨hx, (⟨_, τ, G, h1, h2⟩ | ⟨h, _⟩)⟩
  · exact ⟨hx, τ, G, h1, by rw [hn] at h2; exact h2⟩
  · exact absurd h0 h
theorem ref13_new_no {l : List Nat} {A : Option Addr} {n c : Nat} (w : World) (hn : l.length = n) (hr : URd w A l) (h0 : newc l ≠ 0) : Calls Try.prog 17 #[.slice A n c] w (fun e w' => Ext w w' ∧
    e = .returned (.tuple #[.pointer none, .int .i64 ((newc l : Nat) : Int)])) := by
  refine (ref13_new l A n c w hn hr).mono ?_
  rintro e w' ⟨hx, (⟨h, _⟩ | ⟨_, h⟩)⟩
  · exact absurd h h0
  · exact ⟨hx, h⟩
end Go.Proofs.Ytnfgokbopndmgaa

/-
  What the document's own Run of layer 14 does. Conditions: a total of 64 bits.
-/
namespace Go.Proofs.Ytnfgokbopndmgaa
open Go.RowKit
open Pol (co Sm)

/-- What comes of an order that is done. -/
def Lgr.run (s : Lgr) (m : Nat) (who : Int) (o : Od) : Nat × Lgr :=
  if o.right then (if o.k = 1 then (if Inn m who ∧ Inn m o.t then s.move who.toNat o.t.toNat o.a else (1, s)) else if Inn m who then (0, s) else (1, s)) else (1, s)
set_option maxHeartbeats 3200000 in
theorem ref14_run {Y : Nat → Prop} {τ mm M : Nat} {G : Gb} {s : Lgr} (who k t : Int) (a n c : Nat) (m : List Nat) (A : Option Addr) (w : World) (h : RG Y τ G w mm s) (hk : s.ok mm M) (hM : M < 18446744073709551616) (hn : m.length = n) (ha : a < 18446744073709551616) :
    Calls Try.prog 19 #[.pointer (some ⟨τ, 0, none⟩), .int .i64 who, .agg #[.int .i64 k, .int .i64 t, .int .u64 (a : Int), .slice A n c]] w (LedP Y τ mm G w (s.run mm who ⟨k, t, a, m⟩)) := by
  have HRI := Lib.hid (fun u => ref14_right k t a n c A u)
  rw [right_is hn] at HRI
  have hx0 := (Ext.refl w).alloc (.cells #[.int .i64 k, .int .i64 t, .int .u64 (a : Int), .slice A n c] 25)
  have HX0 := Lib.hid hx0
  have HG := Lib.hid h
  have b0 := cell_of_row _ w.heap.size 0 _ _ _ (heap_alloc_new w (.cells #[.int .i64 k, .int .i64 t, .int .u64 (a : Int), .slice A n c] 25))
  have b1 := cell_of_row _ w.heap.size 1 _ _ _ (heap_alloc_new w (.cells #[.int .i64 k, .int .i64 t, .int .u64 (a : Int), .slice A n c] 25))
  have b2 := cell_of_row _ w.heap.size 2 _ _ _ (heap_alloc_new w (.cells #[.int .i64 k, .int .i64 t, .int .u64 (a : Int), .slice A n c] 25))
  simp only [List.getElem?_toArray, List.getElem?_cons_zero, List.getElem?_cons_succ] at b0 b1 b2
  have HB := Lib.hid (And.intro b0 (And.intro b1 b2))
  clear b0 b1 b2 hn
  by_cases ho : Od.right ⟨k, t, a, m⟩
  · rw [decide_eq_true ho] at HRI
    by_cases h1 : k = 1
    · have HE := Lib.hid (show s.run mm who ⟨k, t, a, m⟩ = if Inn mm who ∧ Inn mm t then s.move who.toNat t.toNat a else (1, s) from by unfold Lgr.run; rw [if_pos ho]; dsimp only; rw [if_pos h1])
      subst h1
      have HMV := Lib.hid (fun u (hu : Ext w u) => show Calls Try.prog 42 #[.pointer (some ⟨τ, 0, none⟩), .int .i64 who, .int .i64 t, .int .u64 (a : Int)] u (LedP Y τ mm G u (s.run mm who ⟨1, t, a, m⟩)) from by
        rw [HE.out]
        exact ref13_move u (h.ext hu) hk hM who t ha)
      clear h hk ho hx0 HE
      generalize s.run mm who ⟨1, t, a, m⟩ = r at HMV ⊢
      go_enter Try.func19, Try.ntmps19
      go_wp2_with fail
      refine (HRI.out _).mono ?_
      rintro e w1 ⟨rfl, hx1⟩
      obtain ⟨q0, q1, q2⟩ := HB.out
      have c0 := hx1.at q0
      have c1 := hx1.at q1
      have c2 := hx1.at q2
      have HX1 := Lib.hid (HX0.out.trans hx1)
      clear hx1 q0 q1 q2
      go_wp2_with fail
      refine (HMV.out _ HX1.out).mono ?_
      rintro e w2 ⟨rfl, ho2, hg2⟩
      have HO2 := Lib.hid ((Only.of_ext HX1.out).trans ho2)
      have HG2 := Lib.hid hg2
      clear ho2 hg2
      go_wp2
      go_ret
      exact ⟨rfl, HO2.out, HG2.out⟩
    · have d1 : (k == 1) = false := by simp; omega
      have d1' : decide (k = 1) = false := decide_eq_false h1
      have HIS := Lib.hid (fun u (hu : Ext w u) => ref13_is u (h.ext hu) who)
      have HE := Lib.hid (show s.run mm who ⟨k, t, a, m⟩ = if Inn mm who then (0, s) else (1, s) from by unfold Lgr.run; rw [if_pos ho]; dsimp only; rw [if_neg h1])
      clear hk ho hx0
      by_cases hin : Inn mm who
      · rw [HE.out, if_pos hin]
        have hd : decide (0 ≤ who ∧ who < (mm : Int)) = true := decide_eq_true hin
        rw [hd] at HIS
        clear h hin HE hd
        go_enter Try.func19, Try.ntmps19
        go_wp2_with fail
        refine (HRI.out _).mono ?_
        rintro e w1 ⟨rfl, hx1⟩
        obtain ⟨q0, q1, q2⟩ := HB.out
        have c0 := hx1.at q0
        have HX1 := Lib.hid (HX0.out.trans hx1)
        clear hx1 q0 q1 q2
        go_wp2_with fail
        refine (HIS.out _ HX1.out).mono ?_
        rintro e w2 ⟨rfl, rfl⟩
        go_wp2
        go_ret
        exact ⟨rfl, Only.of_ext HX1.out, HG.out.ext HX1.out⟩
      · rw [HE.out, if_neg hin]
        have hd : decide (0 ≤ who ∧ who < (mm : Int)) = false := decide_eq_false hin
        rw [hd] at HIS
        clear h hin HE hd
        go_enter Try.func19, Try.ntmps19
        go_wp2_with fail
        refine (HRI.out _).mono ?_
        rintro e w1 ⟨rfl, hx1⟩
        obtain ⟨q0, q1, q2⟩ := HB.out
        have c0 := hx1.at q0
        have HX1 := Lib.hid (HX0.out.trans hx1)
        clear hx1 q0 q1 q2
        go_wp2_with fail
        refine (HIS.out _ HX1.out).mono ?_
        rintro e w2 ⟨rfl, rfl⟩
        go_wp2
        go_ret
        exact ⟨rfl, Only.of_ext HX1.out, HG.out.ext HX1.out⟩
  · rw [decide_eq_false ho] at HRI
    rw [show s.run mm who ⟨k, t, a, m⟩ = (1, s) from by unfold Lgr.run; rw [if_neg ho]]
    clear h hk ho hx0
    go_enter Try.func19, Try.ntmps19
    go_wp2_with fail
    refine (HRI.out _).mono ?_
    rintro e w1 ⟨rfl, hx1⟩
    have HX1 := Lib.hid (HX0.out.trans hx1)
    clear hx1
    go_wp2
    go_ret
    exact ⟨rfl, Only.of_ext HX1.out, HG.out.ext HX1.out⟩
end Go.Proofs.Ytnfgokbopndmgaa

/-
  Layer 14: what a ledger's calls, and an order that is done, are to leave. Conditions: no more than 6 accounts, a total of no more than 2^60.
-/
namespace Go.Proofs.Ytnfgokbopndmgaa
open Go.RowKit
open Pol (co Sm)

structure LedQ (I : LgrP) : Prop where
  keeps : Keeps I
  new : ∀ (l : List Nat) (A : Option Addr) (n c : Nat) (w : World), l.length = n → URd w A l → Calls Try.prog 16 #[.slice A n c] w (fun e w' => Ext w w' ∧
    ((newc l = 0 ∧ ∃ σ X, e = .returned (.tuple #[.pointer (some ⟨σ, 0, none⟩), .int .i64 0]) ∧ Lq I X σ w' n (Lgr.new l) l.sum w.heap.size) ∨ (newc l ≠ 0 ∧ e = .returned (.tuple #[.pointer none, .int .i64 ((newc l : Nat) : Int)]))))
  run : ∀ {X : Nat → Prop} {σ m M base : Nat} {s : Lgr} (who k t : Int) (a n c : Nat) (l : List Nat) (A : Option Addr) (w : World), Lq I X σ w m s M base → l.length = n → Rd w A l → n ≤ c → n ≤ 65536 → a < 18446744073709551616 →
    Calls Try.prog 18 #[.pointer (some ⟨σ, 0, none⟩), .int .i64 who, .agg #[.int .i64 k, .int .i64 t, .int .u64 (a : Int), .slice A n c]] w (LqP I X σ m M base w (s.run m who ⟨k, t, a, l⟩))
  balance : ∀ {X : Nat → Prop} {σ m M base : Nat} {s : Lgr} (who : Int) (w : World), Lq I X σ w m s M base →
    Calls Try.prog 20 #[.pointer (some ⟨σ, 0, none⟩), .int .i64 who] w (Tells (.int .u64 (((if Inn m who then co s.b who.toNat else 0) : Nat) : Int)) w)
  nonce : ∀ {X : Nat → Prop} {σ m M base : Nat} {s : Lgr} (who : Int) (w : World), Lq I X σ w m s M base →
    Calls Try.prog 23 #[.pointer (some ⟨σ, 0, none⟩), .int .i64 who] w (Tells (.int .u64 (((if Inn m who then co s.n who.toNat else 0) : Nat) : Int)) w)
  fees : ∀ {X : Nat → Prop} {σ m M base : Nat} {s : Lgr} (w : World), Lq I X σ w m s M base → Calls Try.prog 24 #[.pointer (some ⟨σ, 0, none⟩)] w (Tells (.int .u64 ((s.f.sum : Nat) : Int)) w)
  deposits : ∀ {X : Nat → Prop} {σ m M base : Nat} {s : Lgr} (w : World), Lq I X σ w m s M base → Calls Try.prog 25 #[.pointer (some ⟨σ, 0, none⟩)] w (Tells (.int .u64 ((s.d.sum : Nat) : Int)) w)
  treasury : ∀ {X : Nat → Prop} {σ m M base : Nat} {s : Lgr} (w : World), Lq I X σ w m s M base → Calls Try.prog 26 #[.pointer (some ⟨σ, 0, none⟩)] w (Tells (.int .u64 ((s.t : Nat) : Int)) w)
  total : ∀ {X : Nat → Prop} {σ m M base : Nat} {s : Lgr} (w : World), Lq I X σ w m s M base → Calls Try.prog 21 #[.pointer (some ⟨σ, 0, none⟩)] w (Tells (.int .u64 (M : Int)) w)
theorem Lgr.run_good {s : Lgr} {m M : Nat} {who : Int} {o : Od} (h : Good s m M) : Good (s.run m who o).2 m M := by
  unfold Lgr.run
  split
  · split
    · split
      · rename_i hin
        exact h.move hin.1.lt hin.2.lt
      · exact h
    · split
      · exact h
      · exact h
  · exact h
end Go.Proofs.Ytnfgokbopndmgaa

/-
  A map by account of two numbers each, as a call has it in memory: looked up, stored into, made, cloned, ranged over. Conditions: no more accounts than 2^20.
-/
namespace Go.Proofs.Ytnfgokbopndmgaa
open Go.RowKit
open Pol (co)
open Go.Maps (Keyed)

abbrev KI : Keyed Try.prog 3 := Maps.int_keyed Try.underlying3
/-- What an element reads as. -/
def amt (f d : Int) : DataW Unit := .agg [.lit (.int .u64 f), .lit (.int .u64 d)]
def RA : Value → Option (DataW Unit × List MemPlace)
  | .agg cs => match cs.toList with
    | [.int .u64 f, .int .u64 d] => some (amt f d, [])
    | _ => none
  | _ => none
theorem RA_mk (f d : Int) : RA (.agg #[.int .u64 f, .int .u64 d]) = some (amt f d, []) := rfl
theorem RA_inv {v : Value} {y : DataW Unit × List MemPlace} (h : RA v = some y) : ∃ f d, v = .agg #[.int .u64 f, .int .u64 d] ∧ y = (amt f d, []) := by
  unfold RA at h
  split at h
  · rename_i cs
    split at h
    · rename_i f d hc
      injection h with h
      refine ⟨f, d, ?_, h.symm⟩
      congr 1
      exact Array.ext' hc
    · cases h
  · cases h
theorem amt_inj {a b c d : Int} (h : amt a b = amt c d) : a = c ∧ b = d := by
  unfold amt at h
  simp at h
  exact h
/-- The key of an account. -/
def ak (i : Nat) : Lit := .int .i64 (i : Int)
theorem ak_ne {i j : Nat} (h : i ≠ j) : ak i ≠ ak j := fun e => h (by unfold ak at e; injection e with _ e; omega)
theorem ak_key (i : Nat) : WideAt.IsKeyLit (ak i) := trivial
theorem ak_of {i : Nat} (h : i < 1048576) : keyOf Try.prog 3 (.int .i64 (i : Int)) = some (ak i) := Maps.keyOf_int_mk Try.underlying3 (by simp [Lit.wf, IntKind.min, IntKind.max, IntKind.signed, IntKind.bits]; omega)
/-- Block b is a map that has, of each of m accounts, the fees f and the deposits d. -/
def Hm (w : World) (b m : Nat) (f d : List Nat) : Prop :=
  ∃ D : DataW Unit, w.ownsMap Try.prog 3 RA b m D ∧ (∀ kl, Maps.has D kl = true → ∃ i : Nat, i < m ∧ kl = ak i) ∧ ∀ i, i < m → D.atKey (ak i) (amt 0 0) = amt ((co f i : Nat) : Int) ((co d i : Nat) : Int)
theorem nodup_le13 : ∀ (m : Nat) (l : List Nat), l.Nodup → (∀ x ∈ l, x < m) → l.length ≤ m
  | 0, l, _, h => by
    cases l with
    | nil => exact Nat.le_refl _
    | cons x l => exact absurd (h x (by simp)) (by omega)
  | m + 1, l, hn, h => by
    have h1 := nodup_le13 m (l.erase m) (hn.erase m) (fun x hx => by
      rw [hn.mem_erase_iff] at hx
      have := h x hx.2
      omega)
    rw [List.length_erase] at h1
    split at h1 <;> omega
theorem owns_tight {w : World} {b n : Nat} {D : DataW Unit} {k : TypeId} {P : Program} (h : w.ownsMap P k RA b n D) : w.ownsMap P k RA b (Maps.size D) D := by
  obtain ⟨es, clock, hb, F, _, rfl⟩ := h
  exact ⟨es, clock, hb, F, by simp [Maps.size, length_sorted], rfl⟩
theorem owns_le {w : World} {b n m : Nat} {D : DataW Unit} (h : w.ownsMap Try.prog 3 RA b n D) (hk : ∀ kl, Maps.has D kl = true → ∃ i : Nat, i < m ∧ kl = ak i) : w.ownsMap Try.prog 3 RA b m D := by
  refine (owns_tight h).mono ?_
  obtain ⟨es, rfl, hp, hl⟩ := World.ownsMap.entries h KI
  show es.length ≤ m
  have hin : ∀ p ∈ es, ∃ i : Nat, i < m ∧ p.1 = ak i := fun p hp' => hk p.1 (List.any_eq_true.2 ⟨p, hp', WideAt.sameKey_self (hl p hp')⟩)
  have h1 : ∀ l : List (Lit × DataW Unit), l.Pairwise (fun p q => p.1 ≠ q.1) → (∀ p ∈ l, ∃ i : Nat, i < m ∧ p.1 = ak i) → ∃ l' : List Nat, l'.length = l.length ∧ l'.Nodup ∧ (∀ x ∈ l', x < m) ∧ ∀ x ∈ l', ∃ p ∈ l, p.1 = ak x := fun l => by
    induction l with
    | nil => intro _ _; exact ⟨[], rfl, List.nodup_nil, by simp, by simp⟩
    | cons p l ih =>
      intro hp hin
      obtain ⟨hp1, hp2⟩ := List.pairwise_cons.1 hp
      obtain ⟨l', e1, e2, e3, e4⟩ := ih hp2 (fun q hq => hin q (List.mem_cons.2 (.inr hq)))
      obtain ⟨i, hi, he⟩ := hin p (List.mem_cons.2 (.inl rfl))
      refine ⟨i :: l', by simp [e1], List.nodup_cons.2 ⟨fun hm => ?_, e2⟩, fun x hx => ?_, fun x hx => ?_⟩
      · obtain ⟨q, hq, hq2⟩ := e4 i hm
        exact hp1 q hq (by rw [he, hq2])
      · rcases List.mem_cons.1 hx with e | e
        · rw [e]; exact hi
        · exact e3 x e
      · rcases List.mem_cons.1 hx with e | e
        · exact ⟨p, List.mem_cons.2 (.inl rfl), by rw [e]; exact he⟩
        · obtain ⟨q, hq, hq2⟩ := e4 x e
          exact ⟨q, List.mem_cons.2 (.inr hq), hq2⟩
  obtain ⟨l', e1, e2, e3, _⟩ := h1 es hp hin
  rw [← e1]
  exact nodup_le13 m l' e2 e3
theorem Hm.lt {w : World} {b m : Nat} {f d : List Nat} (h : Hm w b m f d) : b < w.heap.size := by
  obtain ⟨D, h1, _⟩ := h
  exact h1.lt
theorem Hm.stay {w w' : World} {b m : Nat} {f d : List Nat} (h : Hm w b m f d) (hk : w'.heap[b]? = w.heap[b]?) : Hm w' b m f d := by
  obtain ⟨D, ⟨es, clock, hb, F, hs, hD⟩, h2⟩ := h
  exact ⟨D, ⟨es, clock, hk.trans hb, F, hs, hD⟩, h2⟩
theorem amts_zero (w : World) : (zeroValue 84).run Try.prog w = .ok (.agg #[.int .u64 0, .int .u64 0]) w := rfl
/-- A look-up. -/
theorem Hm.look {w : World} {b m i : Nat} {f d : List Nat} (h : Hm w b m f d) (hi : i < m) (hm : m ≤ 1048576) :
    (Instr.lookup 73 (.map (some b)) (.int .i64 (i : Int)) false).run Try.prog w = .ok (.agg #[.int .u64 ((co f i : Nat) : Int), .int .u64 ((co d i : Nat) : Int)]) w := by
  obtain ⟨D, ho, _, hat⟩ := h
  obtain ⟨v, ps, hrun, hv⟩ := ho.lookup KI Try.underlying73 (amts_zero w) (RA_mk 0 0) (ak_of (i := i) (by omega))
  obtain ⟨a, c, rfl, hy⟩ := RA_inv hv
  rw [hat i hi] at hy
  obtain ⟨e1, e2⟩ := amt_inj (congrArg Prod.fst hy)
  rw [hrun, e1, e2]
/-- A store. -/
theorem Hm.store {w : World} {b m i x y : Nat} {f d : List Nat} (h : Hm w b m f d) (hi : i < m) (hm : m ≤ 1048576) (hf : f.length = m) (hd : d.length = m) :
    ∃ w', (Instr.mapUpdate 73 (.map (some b)) (.int .i64 (i : Int)) (.agg #[.int .u64 (x : Int), .int .u64 (y : Int)])).run Try.prog w = .ok () w' ∧ Hm w' b m (f.set i x) (d.set i y) ∧ w.grownBy w' (some b) ∧ w'.heap.size = w.heap.size := by
  obtain ⟨D, ho, hhas, hat⟩ := h
  obtain ⟨w', hrun, ho', ht⟩ := ho.store KI Try.underlying73 (by unfold maxLen; omega) (ak_of (i := i) (by omega)) (RA_mk (x : Int) (y : Int))
  have hM := ho.isMap
  have hhas' : ∀ kl, Maps.has (D.put (ak i) (amt (x : Int) (y : Int))) kl = true → ∃ j : Nat, j < m ∧ kl = ak j := fun kl hkl => by
    by_cases e : kl = ak i
    · exact ⟨i, hi, e⟩
    · rw [Maps.has_put_other e] at hkl
      exact hhas kl hkl
  refine ⟨w', hrun, ⟨_, owns_le ho' hhas', hhas', fun j hj => ?_⟩, ht.grown, ?_⟩
  · by_cases e : j = i
    · subst e
      rw [Maps.atKey_put_same hM (ak_key j), co_set13, co_set13, if_pos ⟨rfl, by omega⟩, if_pos ⟨rfl, by omega⟩]
    · rw [Maps.atKey_put_other (ak_ne e), hat j hj, co_set13, co_set13, if_neg (fun h => e h.1.symm), if_neg (fun h => e h.1.symm)]
  · obtain ⟨es, clock, es', clock', _, rfl⟩ := ht
    simp [Go.ChangeMaps.setBlock]
theorem Hm.made (w : World) (m : Nat) : Hm (w.alloc (.map #[] 0)) w.heap.size m (List.replicate m 0) (List.replicate m 0) := by
  refine ⟨.map [], (World.ownsMap_made w _ _ _).mono (Nat.zero_le _), fun kl h => by simp [Maps.has] at h, fun i _ => ?_⟩
  have e : co (List.replicate m 0) i = 0 := by
    unfold co
    rw [List.getElem?_replicate]
    split <;> rfl
  rw [e]
  rfl
/-- A clone. -/
theorem Hm.clone {w : World} {b m : Nat} {f d : List Nat} (h : Hm w b m f d) : ∃ es clock, w.heap[b]? = some (.map es clock) ∧ ∀ w' b', w'.heap[b']? = some (.map es clock) → Hm w' b' m f d := by
  obtain ⟨D, ⟨es, clock, hb, F, hs, hD⟩, h2⟩ := h
  exact ⟨es, clock, hb, fun w' b' hb' => ⟨D, ⟨es, clock, hb', F, hs, hD⟩, h2⟩⟩
end Go.Proofs.Ytnfgokbopndmgaa

/-
  Accounts, a balance and a nonce each, in a block of a call's own: read, written, appended to, cloned. Conditions: no more of them than 2^20.
-/
namespace Go.Proofs.Ytnfgokbopndmgaa
open Go.RowKit
open Pol (co)

theorem acc_info : (Try.prog.info? 78).map (fun i => (i.zero, i.size, i.bytes)) = some (some (.agg #[.int .u64 0, .int .u64 0]), 2, 16) := by kernel_rfl
def av : List Nat → List Nat → List Value
  | x :: b, y :: d => .int .u64 (x : Int) :: .int .u64 (y : Int) :: av b d
  | _, _ => []
theorem av_len : ∀ (b d : List Nat), b.length = d.length → (av b d).length = b.length * 2
  | [], [], _ => rfl
  | [], _ :: _, h => by simp at h
  | _ :: _, [], h => by simp at h
  | x :: b, y :: d, h => by
    have := av_len b d (by simpa using h)
    simp only [av, List.length_cons, this]
    omega
theorem av_append : ∀ (b d : List Nat) (x y : Nat), b.length = d.length → av (b ++ [x]) (d ++ [y]) = av b d ++ [.int .u64 (x : Int), .int .u64 (y : Int)]
  | [], [], _, _, _ => rfl
  | [], _ :: _, _, _, h => by simp at h
  | _ :: _, [], _, _, h => by simp at h
  | u :: b, v :: d, x, y, h => by
    have := av_append b d x y (by simpa using h)
    simp only [List.cons_append, av, this]
theorem av_one : ∀ (b d : List Nat), ∀ u ∈ av b d, u.oneCell' = true
  | [], _, u, h => by simp [av] at h
  | _ :: _, [], u, h => by simp [av] at h
  | x :: b, y :: d, u, h => by
    simp only [av, List.mem_cons] at h
    rcases h with rfl | rfl | h
    · rfl
    · rfl
    · exact av_one b d u h
theorem av_at : ∀ (b d : List Nat) (i : Nat), b.length = d.length → i < b.length → (av b d)[i * 2]? = some (.int .u64 ((co b i : Nat) : Int)) ∧ (av b d)[i * 2 + 1]? = some (.int .u64 ((co d i : Nat) : Int))
  | [], _, _, _, h => by simp at h
  | _ :: _, [], _, h, _ => by simp at h
  | x :: b, y :: d, 0, _, _ => by simp [av, co]
  | x :: b, y :: d, i + 1, h, hi => by
    have := av_at b d i (by simpa using h) (by simpa using hi)
    rw [show (i + 1) * 2 = i * 2 + 2 by omega]
    simp only [av, co, List.getElem?_cons_succ] at this ⊢
    exact this
theorem av_set_b : ∀ (b d : List Nat) (i x : Nat), b.length = d.length → av (b.set i x) d = (av b d).set (i * 2) (.int .u64 (x : Int))
  | [], [], _, _, _ => rfl
  | [], _ :: _, _, _, h => by simp at h
  | _ :: _, [], _, _, h => by simp at h
  | u :: b, v :: d, 0, x, _ => rfl
  | u :: b, v :: d, i + 1, x, h => by
    have := av_set_b b d i x (by simpa using h)
    rw [show (i + 1) * 2 = i * 2 + 2 by omega]
    simp only [List.set_cons_succ, av, this]
theorem av_set_d : ∀ (b d : List Nat) (i x : Nat), b.length = d.length → av b (d.set i x) = (av b d).set (i * 2 + 1) (.int .u64 (x : Int))
  | [], [], _, _, _ => rfl
  | [], _ :: _, _, _, h => by simp at h
  | _ :: _, [], _, _, h => by simp at h
  | u :: b, v :: d, 0, x, _ => rfl
  | u :: b, v :: d, i + 1, x, h => by
    have := av_set_d b d i x (by simpa using h)
    rw [show (i + 1) * 2 + 1 = i * 2 + 1 + 2 by omega]
    simp only [List.set_cons_succ, av, this]
/-- Block g holds n accounts, of the balances b and the nonces d, with room for c. -/
structure RowA (w : World) (g n c : Nat) (b d : List Nat) : Prop where
  lb : b.length = n
  ld : d.length = n
  cap : n ≤ c
  num : U64 d
  row : ∃ cur, w.heap[g]? = some (.cells cur 78) ∧ c * 2 ≤ cur.size ∧ cur.toList.take (n * 2) = av b d
theorem RowA.stay {w w' : World} {g n c : Nat} {b d : List Nat} (h : RowA w g n c b d) (hk : w'.heap[g]? = w.heap[g]?) : RowA w' g n c b d := ⟨h.lb, h.ld, h.cap, h.num, by
  obtain ⟨cur, h1, h2, h3⟩ := h.row
  exact ⟨cur, hk.trans h1, h2, h3⟩⟩
theorem RowA.lt {w : World} {g n c : Nat} {b d : List Nat} (h : RowA w g n c b d) : g < w.heap.size := by
  obtain ⟨cur, h1, _⟩ := h.row
  exact row_lt h1
theorem RowA.cell {w : World} {g n c : Nat} {b d : List Nat} (h : RowA w g n c b d) {j : Nat} (hj : j < n * 2) : w.cell? ⟨g, j, none⟩ = (av b d)[j]? := by
  obtain ⟨cur, h1, h2, h3⟩ := h.row
  rw [cell_of_row w g j cur _ _ h1, ← h3, List.getElem?_take, if_pos hj]
  simp
theorem RowA.at_b {w : World} {g n c i : Nat} {b d : List Nat} (h : RowA w g n c b d) (hi : i < n) : w.cell? ⟨g, i * 2, none⟩ = some (.int .u64 ((co b i : Nat) : Int)) := by
  have hl := h.lb
  rw [h.cell (by omega), (av_at b d i (by rw [h.lb, h.ld]) (by omega)).1]
theorem RowA.at_d {w : World} {g n c i : Nat} {b d : List Nat} (h : RowA w g n c b d) (hi : i < n) : w.cell? ⟨g, i * 2 + 1, none⟩ = some (.int .u64 ((co d i : Nat) : Int)) := by
  have hl := h.lb
  rw [h.cell (by omega), (av_at b d i (by rw [h.lb, h.ld]) (by omega)).2]
theorem RowA.free {w : World} {g n c : Nat} {b d : List Nat} (h : RowA w g n c b d) (i : Nat) : w.frozen? ⟨g, i, none⟩ = false := by
  obtain ⟨cur, h1, _⟩ := h.row
  exact frozen_of_row w g i cur _ h1
theorem RowA.set_b {w : World} {g n c i x : Nat} {b d : List Nat} (h : RowA w g n c b d) : RowA (w.setCell ⟨g, i * 2, none⟩ (.int .u64 (x : Int))) g n c (b.set i x) d := by
  obtain ⟨cur, h1, h2, h3⟩ := h.row
  refine ⟨by rw [List.length_set]; exact h.lb, h.ld, h.cap, h.num, cur.setIfInBounds (i * 2) (.int .u64 (x : Int)), heap_setCell_same w g (i * 2) cur _ _ h1, by simpa using h2, ?_⟩
  rw [Array.toList_setIfInBounds, List.take_set, h3, av_set_b b d i x (by rw [h.lb, h.ld])]
theorem RowA.set_d {w : World} {g n c i x : Nat} {b d : List Nat} (h : RowA w g n c b d) (hx : x < 18446744073709551616) : RowA (w.setCell ⟨g, i * 2 + 1, none⟩ (.int .u64 (x : Int))) g n c b (d.set i x) := by
  obtain ⟨cur, h1, h2, h3⟩ := h.row
  refine ⟨h.lb, by rw [List.length_set]; exact h.ld, h.cap, fun j => ?_, cur.setIfInBounds (i * 2 + 1) (.int .u64 (x : Int)), heap_setCell_same w g (i * 2 + 1) cur _ _ h1, by simpa using h2, ?_⟩
  · rw [co_set13]
    split
    · exact hx
    · exact h.num j
  · rw [Array.toList_setIfInBounds, List.take_set, h3, av_set_d b d i x (by rw [h.lb, h.ld])]
/-- Accounts of a call's own. -/
def AMine (w : World) (base : Nat) (v : Value) (b d : List Nat) : Prop := w.ownsRow base 78 2 v b.length (av b d)
theorem AMine.nil (w : World) (base : Nat) : AMine w base (.slice none 0 0) [] [] := World.ownsRow_nil w base _ _
theorem AMine.block {w : World} {base : Nat} {v : Value} {b d : List Nat} (h : AMine w base v b d) : ∀ k, v.ownBlock = some k → base ≤ k ∧ k < w.heap.size := fun k hk => World.ownsRow.lt h k hk
theorem AMine.keep {w w' : World} {base : Nat} {v : Value} {b d : List Nat} {row : Option Nat} (h : AMine w base v b d) (hg : w.grownBy w' row) (hne : ∀ k, v.ownBlock = some k → some k ≠ row) : AMine w' base v b d :=
  World.ownsRow.kept h hg (by
    cases hb : v.ownBlock with
    | none => exact .inl rfl
    | some k => exact .inr (hne k hb))
theorem AMine.row {w : World} {base n : Nat} {v : Value} {b d : List Nat} (h : AMine w base v b d) (hb : b.length = n) (hd : d.length = n) (h0 : 0 < n) (hu : U64 d) : ∃ g c, v = .slice (some ⟨g, 0, none⟩) n c ∧ base ≤ g ∧ RowA w g n c b d := by
  rcases h.2 with ⟨_, e⟩ | ⟨g, cap, cur, rfl, hbg, hg, hnc, _, hcs, htake⟩
  · omega
  · refine ⟨g, cap, by rw [hb], hbg, hb, hd, by omega, hu, cur, hg, by omega, ?_⟩
    rw [← hb, ← htake]
theorem acc_new (w : World) (x y : Nat) : ∀ j u, [Value.int .u64 (x : Int), .int .u64 (y : Int)][j]? = some u → (w.alloc (.cells #[.int .u64 (x : Int), .int .u64 (y : Int)] 78)).cell? ((⟨w.heap.size, 0, none⟩ : Addr).add j) = some u := by
  intro j u hj
  rw [addr_add, cell_of_row _ _ _ _ _ _ (heap_alloc_new w _), ← hj, Nat.zero_add]
  simp
/-- An account is appended to accounts of a call's own. -/
theorem wpList_append_acc {ops : Array Oper} {rest : List Oper} {o : Oper} {a : Act} {w : World} {Q : Exit → Act → World → Prop} (hgd : o.guard = none) (s x : Operand)
    (ho : o.op = .call { callee := .builtin .append, args := #[s, x], argTypes := #[74, 74] })
    (base : Nat) (v : Value) (b d : List Nat) (y z : Nat) (hs : a.eval s = v) (hown : AMine w base v b d) (hl : b.length = d.length) (A : Addr) (c : Nat) (hx : a.eval x = .slice (some A) 1 c)
    (hc : ∀ j u, [Value.int .u64 (y : Int), .int .u64 (z : Int)][j]? = some u → w.cell? (A.add j) = some u) (hlen : b.length ≤ 1048576) (hbase : base ≤ w.heap.size)
    (h : ∀ v' w', AMine w' base v' (b ++ [y]) (d ++ [z]) → w.grownBy w' v.ownBlock → (v'.ownBlock = v.ownBlock ∨ v'.ownBlock = some w.heap.size) → wpList Try.prog ops Q rest (a.put o.dst v') w') :
    wpList Try.prog ops Q (o :: rest) a w := by
  refine wpList_plain hgd fun K hK => ?_
  obtain ⟨i0, hi, hz0, hz1, hz2⟩ := info_parts acc_info
  obtain ⟨v', w', hrun, h2, h3, _, h4⟩ := run_append_own_at (P := Try.prog) w base 74 o.type 78 i0 (.agg #[.int .u64 0, .int .u64 0]) 2 16 Try.underlying74 hi hz0 hz1 hz2 rfl (by omega) v b.length (av b d) hown A 1 c [.int .u64 (y : Int), .int .u64 (z : Int)] rfl hc
    (by intro u hu; simp at hu; rcases hu with rfl | rfl <;> rfl) (by unfold maxLen; omega) (by omega) hbase
  unfold Oper.wp execOp
  simp only [ho, resolve, invoke, builtin, Sem.run_bind, Sem.run_pure, Result.andThen_ok, List.map_toArray, List.map_cons, List.map_nil, hs, hx, hrun]
  exact hK _ _ (h v' w' (by unfold AMine; rw [List.length_append, av_append b d y z hl]; exact h2) h3 h4)
/-- An append to a literal of no accounts. -/
theorem wpList_append_accs {ops : Array Oper} {rest : List Oper} {o : Oper} {a : Act} {w : World} {Q : Exit → Act → World → Prop} (hgd : o.guard = none) (s x : Operand)
    (ho : o.op = .call { callee := .builtin .append, args := #[s, x], argTypes := #[74, 74] })
    (g g' n c c' : Nat) (b d : List Nat) (hs : a.eval s = .slice (some ⟨g, 0, none⟩) 0 0) (hx : a.eval x = .slice (some ⟨g', 0, none⟩) n c') (hr : RowA w g' n c b d) (h0 : 0 < n) (hlen : n ≤ 1048576)
    (h : ∀ v' w', (∃ g c, v' = .slice (some ⟨g, 0, none⟩) n c ∧ w.heap.size ≤ g ∧ RowA w' g n c b d) → Ext w w' → wpList Try.prog ops Q rest (a.put o.dst v') w') : wpList Try.prog ops Q (o :: rest) a w := by
  refine wpList_plain hgd fun K hK => ?_
  obtain ⟨i0, hi, hz0, hz1, hz2⟩ := info_parts acc_info
  have hlb := hr.lb
  have hcells : ∀ j u, (av b d)[j]? = some u → w.cell? ((⟨g', 0, none⟩ : Addr).add j) = some u := fun j u hu => by
    have hj : j < n * 2 := by
      have := (List.getElem?_eq_some_iff.1 hu).1
      rwa [av_len b d (by rw [hr.lb, hr.ld]), hlb] at this
    rw [addr_add, Nat.zero_add, hr.cell hj, hu]
  obtain ⟨v', w', h1, h2, h3⟩ := run_append_arg_grows (P := Try.prog) w 74 o.type 78 i0 (.agg #[.int .u64 0, .int .u64 0]) 2 16 Try.underlying74 hi hz0 hz1 hz2 rfl (by omega) ⟨g, 0, none⟩ 0 0 [] rfl (fun j u hu => by simp at hu)
    ⟨g', 0, none⟩ n c' (av b d) (by rw [av_len b d (by rw [hr.lb, hr.ld]), hlb]) hcells (by omega) (by unfold maxLen; omega) (by omega)
  unfold Oper.wp execOp
  simp only [ho, resolve, invoke, builtin, Sem.run_bind, Sem.run_pure, Result.andThen_ok, List.map_toArray, List.map_cons, List.map_nil, hs, hx, h1]
  exact hK _ _ (h v' w' (AMine.row (by unfold AMine; rw [hlb]; simpa using h2) hr.lb hr.ld h0 hr.num) ((Ext.refl w).more h3 (fun k e => by cases e)))
end Go.Proofs.Ytnfgokbopndmgaa
