/-
  Part 10 of the texts that the seat's proofs stand on; each part of it begins with its own sentence and conditions. Conditions: those that each theorem names.
-/
import Derived.Test.YtjifionpblpfoaaDoorTellsPack9
import Derived.Deep.DeepCutAuto
import Derived.Maps.AppendAt
import Derived.Test.YtjifionpblpfoaaDoorRows
import Derived.LaidMore
import Derived.MakeChecks
import Derived.OpenShut
import Derived.Stop.Joined
import Derived.ProofKit
import Derived.Deep.Slices
import Derived.Deep.SlicePairs
import Derived.ChangeSame
import Derived.Lib.SmallJoins

/-
  What the document's own Of of layer 10 does. Conditions: no more than 2^18 bytes.
-/
namespace Go.Proofs.YtjifionpblpfoaaDoor
open Go.RowKit
open Pol (co Sm)

set_option maxHeartbeats 64000000 in
set_option maxRecDepth 100000 in
theorem ref10_of_gen (Hv Kv : List Nat) (hHl : Hv.length = 8) (hKl : Kv.length = 64) (hHS : ∀ i, i < 8 → Hv.take (i + 1) = Hv.take i ++ [rtx 2 (co PR i) 37 0 % 4294967296]) (hKS : ∀ i, i < 64 → Kv.take (i + 1) = Kv.take i ++ [rtx 3 (co PR i) 37 0 % 4294967296])
    (hHW : W32 Hv) (hKW : W32 Kv) (b : List Nat) (A : Option Addr) (cb : Nat) (w : World) (hr : Rd w A b) (hl : b.length ≤ 262144) :
    Calls Tryd.prog 37 #[.slice A b.length cb] w (fun e w' => ∃ c, e = .returned (.agg c) ∧ Dgc c (shaK Hv Kv b) ∧ Ext w w') := by
  have HR := Lib.hid hr
  have HP := Lib.hid ref10_primes
  have HSQ := Lib.hid ref10_square
  have HCU := Lib.hid ref10_cube
  have HPL := Lib.hid PR_len
  have HPT := Lib.hid PR_lt
  have HTU := Lib.hid (fun x n W hx hn => ref10_turn x n W hx hn)
  have HHS := Lib.hid hHS
  have HKS := Lib.hid hKS
  have HHL := Lib.hid hHl
  have HKL := Lib.hid hKl
  have HHW := Lib.hid hHW
  have HKW := Lib.hid hKW
  clear hHl hKl hHS hKS hHW hKW
  generalize PR = Pv at *
  obtain ⟨n, hn⟩ : ∃ n, b.length = n := ⟨_, rfl⟩
  have HN := Lib.hid hn
  unfold GivesN at HP
  have HD0 := Lib.hid (fun (c : Array Value) (T : TypeId) => show (w.alloc (.cells c T)).heap[w.heap.size]? = some (.cells c T (0, 0)) from heap_alloc_new w _)
  rw [hn] at hl ⊢
  clear hr hn
  go_enter Tryd.func37, Tryd.ntmps37
  go_wp2_with fail
  refine (HP.out _).mono ?_
  rintro e w1 ⟨v1, rfl, hm1, hx1⟩
  obtain ⟨B1, c1, rfl, hc1, hr1⟩ := hm1.slice
  have hs1 := hx1.size
  have hsz : (w.heap.size + 1) ≤ w1.heap.size := by simpa using hs1
  have HM1 := Lib.hid (show NMine 22 .u64 w1 (w.heap.size + 1) (.slice B1 Pv.length c1) Pv from by simpa using hm1)
  have HX1 := Lib.hid (((Ext.refl w).alloc _).trans hx1)
  have HR1 := Lib.hid hr1
  obtain ⟨Z, hZ0, hZ⟩ : ∃ Z : Array Value, Z.size = 32 ∧ w1.heap[w.heap.size]? = some (.cells Z 39 (0, 0)) := ⟨_, rfl, (hx1.below.block w.heap.size (by simp)).trans (heap_alloc_new w _)⟩
  have HZ0 := Lib.hid (fun (_ : Unit) => hZ0)
  have HRES := Lib.hid hZ
  rw [HPL.out] at hc1 HM1 ⊢
  clear hm1 hx1 hr1 hs1 HD0 hZ hZ0
  obtain ⟨g0, hg0⟩ : ∃ g, w.heap.size = g := ⟨_, rfl⟩
  rw [hg0] at hsz HM1 HRES ⊢
  go_wp2_with fail
  obtain ⟨u1, hu1⟩ : ∃ u, w1 = u := ⟨_, rfl⟩
  subst hu1
  go_loopg [4, 5, 29] 64 (fun gk s4 s5 s29 wx => ∃ i : Nat, i + gk = 64 ∧ s29 = .int .i64 (i : Int) ∧ NMine 72 .u32 wx w1.heap.size s4 (Hv.take (min i 8)) ∧ NMine 72 .u32 wx w1.heap.size s5 (Kv.take i) ∧ (∀ q, s4.ownBlock = some q → s5.ownBlock ≠ some q) ∧ Ext w1 wx)
  case atStart => exact ⟨0, by omega, rfl, NMine.nil _ _, NMine.nil _ _, (fun q h => by cases h), Ext.refl _⟩
  case round =>
    obtain ⟨i, hig, rfl, hmh, hmk, hap, hx⟩ := hrel
    have HMH := Lib.hid hmh
    have HMK := Lib.hid hmk
    have HAP := Lib.hid hap
    have HX := Lib.hid hx
    have HIG := Lib.hid hig
    have hs := hx.size
    clear hmh hmk hap hx
    cases gk with
    | zero =>
      obtain rfl : i = 64 := by omega
      have eh : Hv.take (min 64 8) = Hv := List.take_of_length_le (by rw [HHL.out]; omega)
      have ek : Kv.take 64 = Kv := List.take_of_length_le (by rw [HKL.out]; omega)
      rw [eh] at HMH
      rw [ek] at HMK
      clear eh ek HIG HSQ HCU HPT HHS HKS HPL hig HP
      have HW1 := Lib.hid hsz
      clear hsz hc1
      obtain ⟨wq, hwq⟩ : ∃ q, q = wr := ⟨_, rfl⟩
      subst hwq
      go_wp2_with (first
        | (at_builtin; refine wpList_append_rd rfl (.tmp 51) (.tmp 52) rfl wq.heap.size (.slice (some ⟨wq.heap.size, 0, none⟩) 0 0) [] b rfl (mine_empty wq) A n cb rfl HN.out ((((HR.out.ext HX1.out).ext HX.out)).ext ((Ext.refl _).alloc _)) (by rw [HN.out]; simp; omega) (by simp) ?_; intro v7 w7 hown7 hg7 hat7; rw [List.nil_append] at hown7; have HX7 := Lib.hid (((Ext.refl wq).alloc (.cells #[] 5)).more hg7 (fun q hq => ((mine_empty wq).block q hq).1)); have HM7 := Lib.hid hown7; clear hown7 hg7 hat7)
        | (at_builtin; refine wpList_append_rd rfl (.tmp 53) (.tmp 54) rfl wq.heap.size v7 b [128] rfl (mine_ext HM7.out ((Ext.refl _).alloc _)) (some ⟨w7.heap.size, 0, none⟩) 1 1 rfl rfl (rd_one w7 128 (by omega)) (by rw [HN.out]; simp; omega) (by have := HX7.out.size; simp; omega) ?_; intro v8 w8 hown8 hg8 hat8; have HX8 := Lib.hid ((HX7.out.alloc (.cells #[.int .u8 128] 5)).more hg8 (fun q hq => (HM7.out.block q hq).1)); have HM8 := Lib.hid hown8; clear hown8 hg8 hat8))
      have HS8 := Lib.hid (show Sm (b ++ [128]) from sm_app HR.out.1 (Sm.cons (by omega) Sm.nil))
      obtain ⟨pz, hpz⟩ : ∃ pz, padz n = pz := ⟨_, rfl⟩
      have hpz64 : pz < 64 := by rw [← hpz]; unfold padz; omega
      have HPZ := Lib.hid (fun j (h : j ≤ pz) => show (n + 1 + j) % 64 = 56 ↔ j = pz from by rw [← hpz] at h ⊢; exact padz_stop n j h)
      have HZP := Lib.hid (fun (_ : Unit) => hpz)
      have HLZ := Lib.hid (fun j => show (b ++ [128] ++ List.replicate j 0).length = n + 1 + j from by simp [HN.out]; omega)
      have HZS := Lib.hid (fun j => show b ++ [128] ++ List.replicate (j + 1) 0 = b ++ [128] ++ List.replicate j 0 ++ [0] from by rw [List.replicate_succ', ← List.append_assoc])
      have HSZ := Lib.hid (fun j => show Sm (b ++ [128] ++ List.replicate j 0) from sm_app HS8.out (Pol.co_lt_of fun x hx => by rw [(List.mem_replicate.1 hx).2]; omega))
      have HM8' := Lib.hid (show Mine w8 wq.heap.size v8 (b ++ [128] ++ List.replicate 0 0) from by rw [List.replicate_zero, List.append_nil]; exact HM8.out)
      clear hpz
      go_loopg [7] pz (fun gk s7 wx => ∃ j : Nat, j + gk = pz ∧ Mine wx wq.heap.size s7 (b ++ [128] ++ List.replicate j 0) ∧ Ext wq wx)
      case atStart => exact ⟨0, by omega, HM8'.out, HX8.out⟩
      case round =>
        obtain ⟨j, hjg, hm, hx⟩ := hrel
        have HM := Lib.hid hm
        have HXX := Lib.hid hx
        obtain ⟨B7, c7, rfl, hc7, _⟩ := hm.slice (HSZ.out j)
        rw [HLZ.out] at hc7 HM ⊢
        have hs7 := hx.size
        have HJG := Lib.hid hjg
        clear hm hx
        obtain ⟨L, hL⟩ : ∃ L, n + 1 + j = L := ⟨_, rfl⟩
        have HL := Lib.hid hL
        have hz := HPZ.out j (by omega)
        rw [hL] at hc7 HM hz ⊢
        have hLb : L < 1048576 := by omega
        have em : (L : Int) % 64 = ((L % 64 : Nat) : Int) := by omega
        clear hL
        cases gk with
        | zero =>
          obtain rfl : j = pz := by omega
          have hz' : L % 64 = 56 := hz.2 rfl
          have em' : (L : Int) % 64 = 56 := by omega
          clear hz hjg em hz'
          go_wp2_with fail
          rw [(HZP.out ()).symm] at HM
          have HMT := Lib.hid (show Mine wr wq.heap.size (.slice B7 L c7) (b ++ [128] ++ List.replicate (padz n) 0 ++ (List.range 0).map (len8 n)) from by rw [List.range_zero, List.map_nil, List.append_nil]; exact HM.out)
          have HXT := HXX
          have HST := Lib.hid (fun j => show Sm (b ++ [128] ++ List.replicate (padz n) 0 ++ (List.range j).map (len8 n)) from sm_app (HSZ.out _) (Pol.co_lt_of fun x hx => by
            obtain ⟨q, _, rfl⟩ := List.mem_map.1 hx
            exact Nat.mod_lt _ (by decide)))
          have HLT := Lib.hid (fun j => show (b ++ [128] ++ List.replicate (padz n) 0 ++ (List.range j).map (len8 n)).length = n + 1 + padz n + j from by rw [List.length_append, HLZ.out, List.length_map, List.length_range])
          have HTS := Lib.hid (fun j => show b ++ [128] ++ List.replicate (padz n) 0 ++ (List.range (j + 1)).map (len8 n) = b ++ [128] ++ List.replicate (padz n) 0 ++ (List.range j).map (len8 n) ++ [len8 n j] from by rw [List.range_succ, List.map_append, ← List.append_assoc]; rfl)
          have HV := Lib.hid (fun j => len8_at n j)
          have hp64 : padz n < 64 := by unfold padz; omega
          clear HM HXX hc7 hs7 hLb HL em' hpz64
          obtain ⟨wt, hwt⟩ : ∃ q, q = wr := ⟨_, rfl⟩
          subst hwt
          go_loopg [7, 9] 8 (fun gk s7 s9 wx => ∃ j : Nat, j + gk = 8 ∧ s9 = .int .i64 (56 - 8 * (j : Int)) ∧ Mine wx wq.heap.size s7 (b ++ [128] ++ List.replicate (padz n) 0 ++ (List.range j).map (len8 n)) ∧ Ext wq wx)
          case atStart => exact ⟨0, by omega, rfl, HMT.out, HXT.out⟩
          case round =>
            obtain ⟨j, hjg, rfl, hm, hx⟩ := hrel
            have HM := Lib.hid hm
            have HXX := Lib.hid hx
            obtain ⟨B7, c7, rfl, hc7, _⟩ := hm.slice (HST.out j)
            rw [HLT.out] at hc7 HM ⊢
            have hs7 := hx.size
            have HJG := Lib.hid hjg
            clear hm hx
            cases gk with
            | zero =>
              obtain rfl : j = 8 := by omega
              go_wp2_with fail
              obtain ⟨LL, hLL⟩ : ∃ LL, n + 1 + padz n + 8 = LL := ⟨_, rfl⟩
              have HLL := Lib.hid hLL
              rw [hLL] at hc7 HM ⊢
              obtain ⟨TX, hTX⟩ : ∃ TX, b ++ [128] ++ List.replicate (padz n) 0 ++ (List.range 8).map (len8 n) = TX := ⟨_, rfl⟩
              have HTX := Lib.hid (fun (_ : Unit) => (show padded b = TX from by rw [← hTX]; unfold padded; rw [HN.out]))
              have HLX := Lib.hid (fun (_ : Unit) => (show TX.length = LL from by rw [← hTX, HLT.out, hLL]))
              have HSX := Lib.hid (show Sm TX from by rw [← hTX]; exact HST.out 8)
              rw [hTX] at HM
              have hm64 : LL % 64 = 0 := by rw [← hLL]; unfold padz; omega
              obtain ⟨MM, hMM⟩ : ∃ MM, LL / 64 = MM := ⟨_, rfl⟩
              have hMI : LL = 64 * MM := by omega
              have hMb : LL ≤ 300000 := by rw [← hLL]; omega
              have HMI := Lib.hid hMI
              clear hMI hm64
              obtain ⟨Ah, ch, gh, rfl, hch, hAh, hcl⟩ := HMH.out.cells
              obtain ⟨rfl, hgh⟩ := hAh (by rw [HHL.out]; omega)
              rw [HHL.out] at hch hcl ⊢
              obtain ⟨Ak, ck, rfl, hck, hrk⟩ := HMK.out.slice
              rw [HKL.out] at hck ⊢
              have hghl : gh < wq.heap.size := block_lt_of_cell (hcl 0 (by omega)).1
              have HNC := Lib.hid ((hcl.ext HXX.out))
              have HRK := Lib.hid (hrk.ext HXX.out)
              rw [HHL.out, HKL.out] at HAP
              have HKB := Lib.hid (fun o (h : Ak = some ⟨gh, o, none⟩) => HAP.out gh rfl (by rw [h]; rfl))
              obtain ⟨B8, c8, e8, _, hrx⟩ := HM.out.slice HSX.out
              have HRX := Lib.hid hrx
              have HE8 := Lib.hid e8
              clear e8
              clear hLL hTX hMM hcl hrk hrx HMT HXT HST HLT HTS HV HZP HZS HLZ HSZ HPZ HM8 HM8' HX8 HX7 HM7 HS8 hp64 hAh
              obtain ⟨wu, hwu⟩ : ∃ q, q = wr := ⟨_, rfl⟩
              subst hwu
              have HB0 := Lib.hid (show NCells .u32 wu gh 8 (co (hsh Hv Kv TX 0)) from by rw [hsh]; exact HNC.out)
              go_loopg [10] MM (fun gk s10 wx => ∃ m a : Nat, m + gk = MM ∧ a = 64 * m ∧ s10 = .int .i64 (a : Int) ∧ NCells .u32 wx gh 8 (co (hsh Hv Kv TX m)) ∧ wu.grownBy wx (some gh))
              case atStart => exact ⟨0, 0, by omega, rfl, rfl, HB0.out, ⟨rfl, rfl, rfl, Nat.le_refl _, fun _ _ _ => rfl⟩⟩
              case round =>
                obtain ⟨m, a, hmg, hma, rfl, hnc, hg⟩ := hrel
                have HG := Lib.hid hg
                have HC := Lib.hid hnc
                have HMG := Lib.hid hmg
                have HMA := Lib.hid hma
                have hsg := hg.size
                clear hnc hg
                cases gk with
                | zero =>
                  as_aux_lemma =>
                    have haL : a = LL := by have := HMI.out; omega
                    have HMDIV := Lib.hid (fun (_ : Unit) => (show LL / 64 = m by have := HMI.out; omega))
                    clear hmg hma
                    subst haL
                    have d1 : decide ((a : Int) < (a : Int)) = false := decide_eq_false (by omega)
                    have hz := zero_digest.1
                    have hbs : (bt 32 fun _ => 0).size = 32 := bt_size _ _
                    have hbo : (bt 32 fun _ => 0).all (·.oneCell') = true := bt_one _ _
                    have g1 := heap_alloc_new wr (.cells (bt 32 fun _ => 0) 39)
                    have hst := store32 _ _ (fun _ => 0) (fun _ => 0) g1
                    rw [setRow_same _ _ _ _ g1] at hst
                    have HG1 := Lib.hid (show DBlk (wr.alloc (.cells (bt 32 fun _ => 0) 39)) wr.heap.size (fun _ => 0) from g1)
                    have HXD := Lib.hid ((Ext.refl wr).alloc (.cells (bt 32 fun _ => 0) 39))
                    clear g1
                    go_wp2_with fail
                    clear hz hst hbs hbo
                    have hgb : g0 < gh := by have := HW1.out; omega
                    have hE2 : Ext w wr := ((HX1.out.trans HX.out).trans HXX.out).more HG.out (fun k e => by injection e with e; rw [← e]; omega)
                    have hR1 := (HX.out.trans HXX.out).below.block g0 (by have := HW1.out; omega)
                    have hR2 := HG.out.block g0 (by have := HW1.out; have := HX.out.size; have := HXX.out.size; omega) (fun e => by injection e with e; omega)
                    have hg0w : g0 < wr.heap.size := by have := HW1.out; have := HX.out.size; have := HXX.out.size; have := HG.out.size; omega
                    have HRW := Lib.hid ((HXD.out.below.block g0 hg0w).trans (hR2.trans (hR1.trans HRES.out)))
                    have HE2 := Lib.hid (hE2.trans HXD.out)
                    have HG0D := Lib.hid hg0w
                    have HWL := Lib.hid (show w.heap.size = g0 from hg0)
                    clear hgb hE2 hR1 hR2 hg0w
                    generalize wr.alloc (.cells (bt 32 fun _ => 0) 39) = W at HG1 HXD HRW HE2 ⊢
                    have hdbw : gh < wr.heap.size := block_lt_of_cell (HC.out 0 (by omega)).1
                    have HXW := Lib.hid hdbw
                    have hne : gh ≠ wr.heap.size := by omega
                    have HNE := Lib.hid hne
                    clear hdbw hne
                    have HC1 := Lib.hid (HC.out.ext HXD.out)
                    have HGW := Lib.hid (show hsh Hv Kv TX m = hsh Hv Kv TX m ∧ (hsh Hv Kv TX m).length = 8 ∧ W32 (hsh Hv Kv TX m) from ⟨rfl, hsh_len _ _ _ HHL.out _, hsh_w32 _ _ _ HHW.out _⟩)
                    obtain ⟨G, hG⟩ : ∃ G, hsh Hv Kv TX m = G := ⟨_, rfl⟩
                    rw [hG] at HC1 HGW
                    have HGE := Lib.hid (fun (_ : Unit) => hG)
                    clear hG
                    obtain ⟨db, hdb⟩ : ∃ db, wr.heap.size = db := ⟨_, rfl⟩
                    have HDB := Lib.hid hdb
                    rw [hdb] at HG1 HNE HG0D ⊢
                    clear hdb
                    go_loopg [293] 32 (fun gk s293 wx => ∃ k : Nat, k + gk = 32 ∧ s293 = .int .i64 (k : Int) ∧ DBlk wx db (fun i => if i < k then digB G i else 0) ∧ W.grownBy wx (some db))
                    case atStart => exact ⟨0, by omega, rfl, HG1.out.congr (fun i _ => by rw [if_neg (by omega)]), ⟨rfl, rfl, rfl, Nat.le_refl _, fun _ _ _ => rfl⟩⟩
                    case round =>
                      obtain ⟨k, hkg, rfl, hb, hg2⟩ := hrel
                      have HB2 := Lib.hid hb
                      have HG2 := Lib.hid hg2
                      have HKG := Lib.hid hkg
                      clear hb hg2 hkg
                      cases gk with
                      | zero =>
                        have hk32 : 32 ≤ k := by have := HKG.out; omega
                        have hk : ¬ ((k : Int) < 32) := by omega
                        have d1 : decide ((k : Int) < 32) = false := decide_eq_false hk
                        have hbl := HB2.out.congr (f' := digB G) (fun i hi => by rw [if_pos (by omega)])
                        have hrw := (HG2.out.block g0 (by have := (Array.getElem?_eq_some_iff.1 HRW.out).1; exact this) (fun e => by injection e with e; have := HG0D.out; omega)).trans HRW.out
                        have HBL := Lib.hid hbl
                        have HRR := Lib.hid hrw
                        have HG3 := Lib.hid (setRow_heap _ _ _ (bt 32 (digB G)) _ _ hrw)
                        have HX3 := Lib.hid ((HE2.out.more HG2.out (fun q e => by injection e with e; rw [← e, HWL.out]; exact Nat.le_of_lt HG0D.out)).setRow (g := g0) (by rw [HWL.out]; exact Nat.le_refl _) (bt 32 (digB G)))
                        have HIN := Lib.hid (info32 (digB G))
                        have HSZ := Lib.hid (show Z.size = (bt 32 (digB G)).size by rw [bt_size, (HZ0.out ())])
                        have HON := Lib.hid (fun (_ : Unit) => (bt_one 32 (digB G)))
                        have HV := Lib.hid (show Dgc (bt 32 (digB G)) (shaK Hv Kv b) from ⟨bt_size _ _, fun i hi => by
                          rw [bt_at 32 _ i hi]
                          unfold shaK
                          rw [(HTX.out ()), (HLX.out ()), co_map _ _ _ (by rw [List.length_range]; exact hi), show co (List.range 32) i = i from by unfold co; rw [List.getElem?_range hi]; rfl, (HMDIV.out ()), (HGE.out ())]⟩)
                        clear hk hk32 hbl hrw
                        unfold DBlk at HBL
                        generalize bt 32 (digB G) = V at HBL HG3 HX3 HIN HSZ HON HV
                        go_wp2_with (first | (with_reducible refine wpList_load_row rfl 39 (.tmp 24) rfl db rfl 39 V (0, 0) _ HBL.out Tryd.underlying39 rfl HIN.out ?_) | (with_reducible refine wpList_store_all rfl 39 (.tmp 2) (.tmp 311) rfl g0 Z V rfl rfl HRR.out HIN.out HSZ.out (HON.out ()) ?_))
                        exact ⟨rfl, .agg V, results_cell_row Tryd.results37 _ _ g0 39 V (0, 0) _ rfl HG3.out Tryd.underlying39 rfl HIN.out, V, rfl, HV.out, HX3.out⟩
                      | succ gk =>
                        have hk : k < 32 := by have := HKG.out; omega
                        have hkI : (k : Int) < 32 := by omega
                        obtain ⟨q, hq⟩ : ∃ q, k / 4 = q := ⟨_, rfl⟩
                        obtain ⟨r, hr⟩ : ∃ r, k % 4 = r := ⟨_, rfl⟩
                        obtain ⟨v, hv⟩ : ∃ v, 24 - 8 * r = v := ⟨_, rfl⟩
                        have hq8 : q < 8 := by omega
                        have hcq := ((HC1.out q hq8).1)
                        have hcq2 := HG2.out.cell hcq (fun e => HNE.out (by injection e))
                        obtain ⟨x, hx⟩ : ∃ x, co G q = x := ⟨_, rfl⟩
                        rw [hx] at hcq2
                        have hx32 : x < 4294967296 := by rw [← hx]; exact HGW.out.2.2.at q
                        have e1 : (k : Int) / 4 = (q : Int) := by omega
                        have e1' : (k : Int).tdiv 4 = (q : Int) := by rw [Int.tdiv_eq_ediv_of_nonneg (by omega)]; omega
                        have e2 : (k : Int) % 4 = (r : Int) := by omega
                        have e2' : (k : Int).tmod 4 = (r : Int) := by rw [Int.tmod_eq_emod_of_nonneg (by omega)]; omega
                        have e3 : 24 - 8 * (r : Int) = (v : Int) := by omega
                        have hr4 : r < 4 := by omega
                        have hqI : (q : Int) < 8 := by omega
                        have hv24 : v ≤ 24 := by omega
                        have hfz := HB2.out.frozen k
                        have hck := HB2.out.cell k hk
                        have HQ := Lib.hid (fun (_ : Unit) => (show digB G k = x / 2 ^ v % 256 from by unfold digB; rw [hq, hr, hv, hx]))
                        clear hq hr hv hx hcq
                        go_wp2_with fail
                        go_roundg gk
                        case measure => omega
                        case rel =>
                          have ev : (x : Int) / 2 ^ v % 256 = ((digB G k : Nat) : Int) := by rw [(HQ.out ())]; simp
                          refine ⟨k + 1, by have := HKG.out; omega, by go_num, ?_, HG2.out.trans (grown_set _ _ _ _)⟩
                          rw [ev]
                          exact (HB2.out.store k (digB G k)).congr (fun i _ => by
                            unfold upd
                            by_cases h : i = k
                            · subst h; rw [if_pos rfl, if_pos (by omega)]
                            · rw [if_neg h]
                              show (if i < k then digB G i else 0) = if i < k + 1 then digB G i else 0
                              by_cases h2 : i < k
                              · rw [if_pos h2, if_pos (by omega)]
                              · rw [if_neg h2, if_neg (by omega)])
                | succ gkB =>
                  as_aux_lemma =>
                    have hatb : a + 64 ≤ LL := by have := HMI.out; omega
                    have d1 : (a : Int) < (LL : Int) := by omega
                    have HAT := Lib.hid hatb
                    have haLL : a < 1048576 := by omega
                    clear hmg hma hatb
                    obtain ⟨wv, hwv⟩ : ∃ q, q = wr := ⟨_, rfl⟩
                    subst hwv
                    have HRXV := Lib.hid (HRX.out.keep HG.out (fun b o e h0 e2 => by
                      obtain ⟨q1, q2⟩ := HM.out.block b (by have e9 := HE8.out; injection e9 with e9; rw [e9, e]; rfl)
                      injection e2 with e2
                      omega))
                    have HRKV := Lib.hid (HRK.out.keep HG.out (fun b o e h0 e2 => HKB.out o (by injection e2 with e2; rw [e, e2])))
                    obtain ⟨G, hG⟩ : ∃ G, hsh Hv Kv TX m = G := ⟨_, rfl⟩
                    have HGL := Lib.hid (fun (_ : Unit) => (show G.length = 8 from by rw [← hG]; exact hsh_len _ _ _ HHL.out _))
                    have HGW := Lib.hid (show W32 G from by rw [← hG]; exact hsh_w32 _ _ _ HHW.out _)
                    obtain ⟨F, hF⟩ : ∃ F : Nat → Nat, (fun i => word TX (64 * m + 4 * i)) = F := ⟨_, rfl⟩
                    have HFA := Lib.hid (fun i => show F i = word TX (a + 4 * i) from by rw [← hF, HMA.out])
                    have HGN := Lib.hid (fun (_ : Unit) => (show hsh Hv Kv TX (m + 1) = blk Kv F G from by rw [hsh, hF, hG]))
                    have HFW := Lib.hid (show ∀ i, F i < 4294967296 from fun i => by rw [HFA.out]; exact word_lt HSX.out _)
                    rw [hG] at HC
                    have HGE := Lib.hid (fun (_ : Unit) => hG)
                    clear hG hF
                    go_wp2_with fail
                    go_loopg [11, 12] 16 (fun gk s11 s12 wx => ∃ i : Nat, i + gk = 16 ∧ s12 = .int .i64 (i : Int) ∧ NMine 72 .u32 wx wv.heap.size s11 (wl F i) ∧ Ext wv wx)
                    case atStart => exact ⟨0, by omega, rfl, NMine.nil _ _, Ext.refl _⟩
                    case round =>
                      obtain ⟨i, hig, rfl, hm, hx⟩ := hrel
                      have HMW := Lib.hid hm
                      have HXW := Lib.hid hx
                      obtain ⟨Bw, cw, rfl, hcw, _⟩ := hm.slice
                      rw [wl_len] at hcw HMW ⊢
                      have hsw := hx.size
                      clear hm hx
                      cases gk with
                      | zero =>
                        have hi16 : i = 16 := by omega
                        have hiI : ¬ ((i : Int) < 16) := by omega
                        have d2 : decide ((i : Int) < 16) = false := decide_eq_false hiI
                        subst hi16
                        clear hig hiI
                        go_wp2_with fail
                        have HMW2 := HMW
                        clear hcw
                        obtain ⟨wx0, hwx0⟩ : ∃ q, q = wr := ⟨_, rfl⟩
                        subst hwx0
                        go_loopg [11, 14] 48 (fun gk s11 s14 wx => ∃ i : Nat, i + gk = 64 ∧ 16 ≤ i ∧ s14 = .int .i64 (i : Int) ∧ NMine 72 .u32 wx wv.heap.size s11 (wl F i) ∧ Ext wv wx)
                        case atStart => exact ⟨16, by omega, by omega, rfl, HMW2.out, HXW.out⟩
                        case round =>
                          obtain ⟨i, hig, hi16, rfl, hm, hx⟩ := hrel
                          have HMW := Lib.hid hm
                          have HXW := Lib.hid hx
                          obtain ⟨Bw, cw, rfl, hcw, hrw⟩ := hm.slice
                          rw [wl_len] at hcw HMW ⊢
                          have HRW := Lib.hid hrw
                          have hsw := hx.size
                          clear hm hx hrw
                          cases gk with
                          | zero =>
                            have hi64 : i = 64 := by omega
                            have hiI : ¬ ((i : Int) < 64) := by omega
                            have d2 : decide ((i : Int) < 64) = false := decide_eq_false hiI
                            subst hi64
                            clear hig hi16 hiI
                            obtain ⟨wy, hwy⟩ : ∃ q, q = wr := ⟨_, rfl⟩
                            subst hwy
                            as_aux_lemma =>
                              go_wp2_with (at_builtin; refine wpList_append_nums nt32 rfl (.tmp 171) (.tmp 172) rfl wy.heap.size (.slice (some ⟨wy.heap.size, 0, none⟩) 0 0) [] G rfl (show NMine 72 .u32 (wy.alloc (.cells #[] 72)) wy.heap.size (.slice (some ⟨wy.heap.size, 0, none⟩) 0 0) [] from nmine_lit wy [] (by simp)) gh 0 8 ch rfl (HGL.out ()) (fun j hj => by rw [Nat.zero_add]; exact ((HC.out.ext (HXW.out.alloc _)) j (by rw [← (HGL.out ())]; exact hj)).1) (by rw [(HGL.out ())]; simp) (by simp) ?_; intro v7 w7 hown7 hg7 hat7; rw [List.nil_append] at hown7; have HS7 := Lib.hid hown7; have HX7 := Lib.hid (((Ext.refl wy).alloc (.cells #[] 72)).more hg7 (fun q hq => by simp [Value.ownBlock] at hq; omega)); clear hown7 hg7 hat7)
                              obtain ⟨WL, hWL⟩ : ∃ l, wl F 64 = l := ⟨_, rfl⟩
                              have HWLE := Lib.hid (fun (_ : Unit) => hWL)
                              have HWLL := Lib.hid (fun (_ : Unit) => (show WL.length = 64 from by rw [← hWL]; exact wl_len F 64))
                              have HWLW := Lib.hid (show W32 WL from by rw [← hWL]; exact wl_w32 F HFW.out 64)
                              rw [hWL] at HRW
                              clear hWL
                              obtain ⟨Bs, cs, rfl, hcs, hrs⟩ := HS7.out.slice
                              rw [(HGL.out ())] at hcs ⊢
                              have HRS := Lib.hid hrs
                              have hsy : wv.heap.size ≤ wy.heap.size := HXW.out.size
                              have HSB := Lib.hid (show ∀ b o, Bs = some ⟨b, o, none⟩ → wv.heap.size ≤ b from fun b o e => Nat.le_trans hsy (HS7.out.block b (by rw [e]; rfl)).1)
                              have HXV := Lib.hid (HXW.out.trans HX7.out)
                              clear hrs hsy
                              go_wp2_with fail
                              go_loopg [17, 18] 64 (fun gk s17 s18 wx => ∃ (i : Nat) (B : Option Addr) (c : Nat), i + gk = 64 ∧ s18 = .int .i64 (i : Int) ∧ s17 = .slice B 8 c ∧ 8 ≤ c ∧ NRd .u32 wx B (rds Kv WL G i) ∧ (∀ b o, B = some ⟨b, o, none⟩ → wv.heap.size ≤ b) ∧ Ext w7 wx)
                              case atStart => exact ⟨0, Bs, cs, by omega, rfl, rfl, hcs, HRS.out, HSB.out, Ext.refl _⟩
                              case round =>
                                obtain ⟨i, B, c, hig, rfl, rfl, hc8, hrd, hnb, hx⟩ := hrel
                                obtain ⟨S, hS⟩ : ∃ l, rds Kv WL G i = l := ⟨_, rfl⟩
                                have HSL := Lib.hid (fun (_ : Unit) => (show S.length = 8 from by rw [← hS]; exact rds_len _ _ _ (HGL.out ()) _))
                                have HSW := Lib.hid (show W32 S from by rw [← hS]; exact rds_w32 _ _ _ HGW.out _)
                                have HSE := Lib.hid (fun (_ : Unit) => hS)
                                have HNB := Lib.hid hnb
                                have HXR := Lib.hid hx
                                rw [hS] at hrd
                                obtain ⟨bs, os, eB, _⟩ := hrd 0 (by rw [(HSL.out ())]; decide)
                                subst eB
                                have HSC := Lib.hid (show ∀ W, AfterS wr W → ∀ j, j < 8 → W.cell? ⟨bs, os + j, none⟩ = some (.int .u32 ((co S j : Nat) : Int)) from fun W hW j hj => NRd.fix (NRd.ext hrd hW) j (by rw [(HSL.out ())]; exact hj))
                                clear hS hrd hnb hx
                                cases gk with
                                | zero =>
                                  have hi64 : i = 64 := by omega
                                  have hiI : ¬ ((i : Int) < 64) := by omega
                                  have d2 : decide ((i : Int) < 64) = false := decide_eq_false hiI
                                  subst hi64
                                  clear hig hiI
                                  obtain ⟨wz, hwz⟩ : ∃ q, q = wr := ⟨_, rfl⟩
                                  subst hwz
                                  have HZ0 := Lib.hid (fun (_ : Unit) => (show NCells .u32 wz gh 8 (fun j => if j < 0 then sumw G S j else co G j) from (HC.out.ext (HXV.out.trans HXR.out)).congr (fun j _ => by rw [if_neg (by omega)])))
                                  have HBN := Lib.hid (show bs ≠ gh from fun e => by have := HNB.out bs os rfl; have := block_lt_of_cell (HC.out 0 (by omega)).1; omega)
                                  go_wp2_with fail
                                  go_loopg [276] 8 (fun gk s276 wx => ∃ i : Nat, i + gk = 8 ∧ s276 = .int .i64 (i : Int) ∧ NCells .u32 wx gh 8 (fun j => if j < i then sumw G S j else co G j) ∧ wz.grownBy wx (some gh))
                                  case atStart => exact ⟨0, by omega, rfl, (HZ0.out ()), ⟨rfl, rfl, rfl, Nat.le_refl _, fun _ _ _ => rfl⟩⟩
                                  case round =>
                                    obtain ⟨i, hig, rfl, hnc, hg⟩ := hrel
                                    have HNC2 := Lib.hid hnc
                                    have HG3 := Lib.hid hg
                                    have HIG := Lib.hid hig
                                    clear hnc hg
                                    cases gk with
                                    | zero =>
                                      have hi8 : ¬ ((i : Int) < 8) := by omega
                                      have d2 : decide ((i : Int) < 8) = false := decide_eq_false hi8
                                      obtain ⟨a2, ha2⟩ : ∃ q, a + 64 = q := ⟨_, rfl⟩
                                      have ea : IntKind.i64.wrap ((a : Int) + 64) = (a2 : Int) := by rw [IntWalk.i64_in _ (by omega)]; omega
                                      have ea2 : (a : Int) + 64 = (a2 : Int) := by omega
                                      have HA2 := Lib.hid ha2
                                      have HFN := Lib.hid (show NCells .u32 wr gh 8 (co (hsh Hv Kv TX (m + 1))) from HNC2.out.congr (fun j hj => by
                                        rw [if_pos (by omega), (HGN.out ())]
                                        unfold blk
                                        rw [co_map _ _ _ (by rw [List.length_range]; exact hj), show co (List.range 8) j = j from by unfold co; rw [List.getElem?_range hj]; rfl, (HWLE.out ()), (HSE.out ())]))
                                      have HGG := Lib.hid (HG.out.trans (((HXV.out.trans HXR.out).grown (some gh)).trans HG3.out))
                                      clear hig hi8 ha2
                                      go_wp2_with fail
                                      go_roundg gkB
                                      case measure => omega
                                      case rel => exact ⟨m + 1, a2, by have := HMG.out; omega, by have := HMA.out; have := HA2.out; omega, by go_num, HFN.out, HGG.out⟩
                                    | succ gk =>
                                      as_aux_lemma =>
                                        have hi8 : i < 8 := by omega
                                        have hiI : (i : Int) < 8 := by omega
                                        obtain ⟨g0', f1⟩ := HNC2.out i hi8
                                        have g1 : wr.cell? ⟨gh, i, none⟩ = some (.int .u32 ((co G i : Nat) : Int)) := by
                                          rw [g0']
                                          show some (Value.int .u32 (((if i < i then sumw G S i else co G i) : Nat) : Int)) = _
                                          rw [if_neg (by omega)]
                                        clear g0'
                                        have h1 := HSC.out wz (Ext.refl wz) i hi8
                                        have h2 := HG3.out.cell h1 (fun e => HBN.out (by injection e))
                                        obtain ⟨x, hx⟩ : ∃ x, co G i = x := ⟨_, rfl⟩
                                        obtain ⟨y, hy⟩ : ∃ x, co S i = x := ⟨_, rfl⟩
                                        rw [hx] at g1
                                        rw [hy] at h2
                                        obtain ⟨z, hz⟩ : ∃ z, (x + y) % 4294967296 = z := ⟨_, rfl⟩
                                        have HSU := Lib.hid (fun (_ : Unit) => (show sumw G S i = z from by unfold sumw; rw [hx, hy, hz]))
                                        have ez : IntKind.u32.wrap ((x : Int) + (y : Int)) = (z : Int) := by rw [IntKind.wrap_u32]; omega
                                        have HST := Lib.hid (fun q => (HNC2.out.drewN q).store i z)
                                        clear hx hy hz hig h1
                                        go_wp2
                                        refine wp_region_quiet_tail 12 (fun w' => ∃ q, w' = wr.drewN q) (by kernel_rfl) (by kernel_rfl) ⟨1, rfl⟩ ?_
                                        simp only [List.take_succ_cons, List.take_zero, List.drop_succ_cons, List.drop_zero]
                                        repeat (quiet_step (fail))
                                        refine wpQuiet_nil ?_
                                        rintro _ ⟨q2, rfl⟩
                                        go_wp2
                                        go_roundg gk
                                        case measure => omega
                                        case rel => exact ⟨i + 1, by have := HIG.out; omega, by go_num, (HST.out q2).congr (fun j _ => by
                                          unfold upd
                                          show (if j = i then z else if j < i then sumw G S j else co G j) = if j < i + 1 then sumw G S j else co G j
                                          by_cases h : j = i
                                          · subst h; rw [if_pos rfl, if_pos (by omega), (HSU.out ())]
                                          · rw [if_neg h]
                                            by_cases h2 : j < i
                                            · rw [if_pos h2, if_pos (by omega)]
                                            · rw [if_neg h2, if_neg (by omega)]), (HG3.out.trans (grown_drewN _ q2 _)).trans (grown_set _ _ _ _)⟩
                                | succ gk =>
                                  as_aux_lemma =>
                                    have hi64 : i < 64 := by omega
                                    have hiI : (i : Int) < 64 := by omega
                                    have HIG := Lib.hid hig
                                    have hxk := (HXV.out.trans HXR.out)
                                    obtain ⟨bk, ok, eK, hck⟩ := (HRKV.out.ext hxk) i (by rw [HKL.out]; exact hi64)
                                    subst eK
                                    obtain ⟨bw, ow, eW, hcw2⟩ := (HRW.out.ext (HX7.out.trans HXR.out)) i (by rw [(HWLL.out ())]; exact hi64)
                                    subst eW
                                    have HXS := Lib.hid (fun W (hW : AfterS wr W) => show Ext w7 W from HXR.out.trans hW)
                                    have hsv : wv.heap.size ≤ wr.heap.size := (HXV.out.trans HXR.out).size
                                    have HSV := Lib.hid hsv
                                    clear hig hsv hxk
                                    revert hck hcw2
                                    intro hck' hcw2'
                                    refine round_prep Kv WL G S i bs os bk ok bw ow wr HKW.out HWLW.out HSW.out (HSE.out ()) HSC.out hck' hcw2' (fun kk ww s0 s1 s2 s3 s4 s5 s6 s7 t6 t11 t25 t2 t13 t22 e1 e2 ne c1x c2x c3x d1x d2x m1x m2x m3x m4x m5x o1 o2 o3 o4 w2 n0 n4 HC0 HC1 HC2 HC3 HC4 HC5 HC6 hc0 hc4 hc5 hc6 hc7 hck hcw HT6 HT11 HT25 HT2 HT13 HT22 qe1 qe2 qc1x qc2x qc3x qd1x qd2x qm1x qm2x qm3x qm4x qm5x qne qo1 qo2 qo3 qo4 qw2 qn0 qn4 HNW => ?_)
                                    clear hck' hcw2'
                                    go_wp2
                                    go_quiet (first | (go_at_call 56; with_reducible exact quiet_same (HT6.out _)) | (go_at_call 56; with_reducible exact quiet_same (HT11.out _)) | (go_at_call 56; with_reducible exact quiet_same (HT25.out _)))
                                    obtain ⟨W, hW⟩ : ∃ W, wr.drewN nq = W := ⟨_, rfl⟩
                                    have hxW : AfterS wr W := by rw [← hW]; exact (Ext.refl wr).drewN nq
                                    have HXW3 := Lib.hid hxW
                                    have hd1 := HC1.out W hxW
                                    have hd2 := HC2.out W hxW
                                    rw [hW]
                                    clear hc0 hc4 hc5 hc6 hc7 hck hcw hW hxW
                                    go_wp2
                                    go_quiet (first | (go_at_call 56; with_reducible exact quiet_same (HT2.out _)) | (go_at_call 56; with_reducible exact quiet_same (HT13.out _)) | (go_at_call 56; with_reducible exact quiet_same (HT22.out _)))
                                    obtain ⟨W2, hW2⟩ : ∃ V, W.drewN nq = V := ⟨_, rfl⟩
                                    have hxW2 : AfterS wr W2 := by rw [← hW2]; exact Ext.drewN HXW3.out nq
                                    have HXW4 := Lib.hid hxW2
                                    have HDQ := Lib.hid (fun q => Ext.drewN hxW2 q)
                                    have hd0 := HC0.out W2 hxW2
                                    have hd1' := HC1.out W2 hxW2
                                    have hd2' := HC2.out W2 hxW2
                                    have hd3 := HC3.out W2 hxW2
                                    have hd4 := HC4.out W2 hxW2
                                    have hd5 := HC5.out W2 hxW2
                                    have hd6 := HC6.out W2 hxW2
                                    rw [hW2]
                                    clear hd1 hd2 hW2 hxW2
                                    go_wp2
                                    refine wp_region_quiet_tail 26 (fun w' => ∃ q, w' = W2.drewN q) (by kernel_rfl) (by kernel_rfl) ⟨1, rfl⟩ ?_
                                    simp only [List.take_succ_cons, List.take_zero, List.drop_succ_cons, List.drop_zero]
                                    repeat (quiet_step (fail))
                                    refine wpQuiet_nil ?_
                                    rintro _ ⟨q2, rfl⟩
                                    have HNL := Lib.hid (show NRd .u32 ((W2.drewN q2).alloc (.cells #[.int .u32 (n0 : Int), .int .u32 (s0 : Int), .int .u32 (s1 : Int), .int .u32 (s2 : Int), .int .u32 (n4 : Int), .int .u32 (s4 : Int), .int .u32 (s5 : Int), .int .u32 (s6 : Int)] 72)) (some ⟨W2.heap.size, 0, none⟩) (rds Kv WL G (i + 1)) from by
                                      rw [(HNW.out ())]
                                      exact nrd_lit (W2.drewN q2) [n0, s0, s1, s2, n4, s4, s5, s6])
                                    have HEW := Lib.hid (Ext.alloc (HXR.out.trans (HDQ.out q2)) (.cells #[.int .u32 (n0 : Int), .int .u32 (s0 : Int), .int .u32 (s1 : Int), .int .u32 (s2 : Int), .int .u32 (n4 : Int), .int .u32 (s4 : Int), .int .u32 (s5 : Int), .int .u32 (s6 : Int)] 72))
                                    have HSZ2 := Lib.hid (show wv.heap.size ≤ W2.heap.size from Nat.le_trans HSV.out (Ext.size HXW4.out))
                                    clear hd0 hd1' hd2' hd3 hd4 hd5 hd6
                                    refine wpList_build8 rfl (.tmp 249) (.tmp 252) (.tmp 255) (.tmp 258) (.tmp 263) (.tmp 266) (.tmp 269) (.tmp 272) rfl n0 s0 s1 s2 n4 s4 s5 s6 rfl rfl rfl rfl rfl rfl rfl rfl ?_
                                    go_wp2
                                    go_roundg gk
                                    case measure => omega
                                    case rel => exact ⟨i + 1, _, 8, by have := HIG.out; omega, by go_num, rfl, Nat.le_refl _, HNL.out, fun b o e => by injection e with e; injection e with e1 e2; rw [← e1]; exact HSZ2.out, HEW.out⟩
                          | succ gk =>
                            as_aux_lemma =>
                              have hi64 : i < 64 := by omega
                              have hiI : (i : Int) < 64 := by omega
                              have HSN := Lib.hid (fun (_ : Unit) => (show wl F (i + 1) = wl F i ++ [wnx (wl F i) i] from by rw [wl, if_neg (by omega)]))
                              have HW32 := Lib.hid (wl_w32 F HFW.out i)
                              obtain ⟨j15, h15⟩ : ∃ q, i - 15 = q := ⟨_, rfl⟩
                              obtain ⟨j2, h2⟩ : ∃ q, i - 2 = q := ⟨_, rfl⟩
                              obtain ⟨j16, h16⟩ : ∃ q, i - 16 = q := ⟨_, rfl⟩
                              obtain ⟨j7, h7⟩ : ∃ q, i - 7 = q := ⟨_, rfl⟩
                              obtain ⟨bw, ow, eW, hc15⟩ := HRW.out j15 (by rw [wl_len]; omega)
                              obtain ⟨b2, o2, eB2, hc2⟩ := HRW.out j2 (by rw [wl_len]; omega)
                              obtain ⟨b3, o3, eB3, hc16⟩ := HRW.out j16 (by rw [wl_len]; omega)
                              obtain ⟨b4, o4, eB4, hc7⟩ := HRW.out j7 (by rw [wl_len]; omega)
                              rw [eW] at eB2 eB3 eB4
                              injection eB2 with eB2; injection eB2 with eB2 eB2'; subst eB2; subst eB2'
                              injection eB3 with eB3; injection eB3 with eB3 eB3'; subst eB3; subst eB3'
                              injection eB4 with eB4; injection eB4 with eB4 eB4'; subst eB4; subst eB4'
                              subst eW
                              have HWN := Lib.hid (fun (_ : Unit) => (show wnx (wl F i) i = (co (wl F i) j16 + co (wl F i) j7 + sg0 (co (wl F i) j15) + sg1 (co (wl F i) j2)) % 4294967296 from by unfold wnx; rw [h15, h2, h16, h7]))
                              have hx32 := HW32.out.at j15
                              have hy32 := HW32.out.at j2
                              have hp32 := HW32.out.at j16
                              have hq32 := HW32.out.at j7
                              obtain ⟨x, hx⟩ : ∃ q, co (wl F i) j15 = q := ⟨_, rfl⟩
                              obtain ⟨y, hy⟩ : ∃ q, co (wl F i) j2 = q := ⟨_, rfl⟩
                              obtain ⟨p, hp⟩ : ∃ q, co (wl F i) j16 = q := ⟨_, rfl⟩
                              obtain ⟨q, hq⟩ : ∃ q, co (wl F i) j7 = q := ⟨_, rfl⟩
                              rw [hx] at hx32 hc15 HWN
                              rw [hy] at hy32 hc2 HWN
                              rw [hp] at hp32 hc16 HWN
                              rw [hq] at hq32 hc7 HWN
                              have HT7 := Lib.hid (fun W (_ : AfterS wr W) => show Calls Tryd.prog 56 #[.int .u32 (x : Int), .int .u64 7] W (fun e w' => e = .returned (.int .u32 ((tw x 7 : Nat) : Int)) ∧ W = w') from HTU.out x 7 W hx32 (by decide))
                              have HT18 := Lib.hid (fun W (_ : AfterS wr W) => show Calls Tryd.prog 56 #[.int .u32 (x : Int), .int .u64 18] W (fun e w' => e = .returned (.int .u32 ((tw x 18 : Nat) : Int)) ∧ W = w') from HTU.out x 18 W hx32 (by decide))
                              have HT17 := Lib.hid (fun W (_ : AfterS wr W) => show Calls Tryd.prog 56 #[.int .u32 (y : Int), .int .u64 17] W (fun e w' => e = .returned (.int .u32 ((tw y 17 : Nat) : Int)) ∧ W = w') from HTU.out y 17 W hy32 (by decide))
                              have HT19 := Lib.hid (fun W (_ : AfterS wr W) => show Calls Tryd.prog 56 #[.int .u32 (y : Int), .int .u64 19] W (fun e w' => e = .returned (.int .u32 ((tw y 19 : Nat) : Int)) ∧ W = w') from HTU.out y 19 W hy32 (by decide))
                              have l1 := tw_lt (n := 7) hx32
                              have l2 := tw_lt (n := 18) hx32
                              have l3 := tw_lt (n := 17) hy32
                              have l4 := tw_lt (n := 19) hy32
                              have hs0 : sg0 x = tw x 7 ^^^ tw x 18 ^^^ x / 8 := rfl
                              have hs1 : sg1 y = tw y 17 ^^^ tw y 19 ^^^ y / 1024 := rfl
                              obtain ⟨a7, ha7⟩ : ∃ q, tw x 7 = q := ⟨_, rfl⟩
                              obtain ⟨a18, ha18⟩ : ∃ q, tw x 18 = q := ⟨_, rfl⟩
                              obtain ⟨a17, ha17⟩ : ∃ q, tw y 17 = q := ⟨_, rfl⟩
                              obtain ⟨a19, ha19⟩ : ∃ q, tw y 19 = q := ⟨_, rfl⟩
                              obtain ⟨x8, hx8⟩ : ∃ q, x / 8 = q := ⟨_, rfl⟩
                              obtain ⟨y10, hy10⟩ : ∃ q, y / 1024 = q := ⟨_, rfl⟩
                              rw [ha7] at HT7 l1 hs0
                              rw [ha18] at HT18 l2 hs0
                              rw [ha17] at HT17 l3 hs1
                              rw [ha19] at HT19 l4 hs1
                              rw [hx8] at hs0
                              rw [hy10] at hs1
                              obtain ⟨m1, hm1⟩ : ∃ q, a7 ^^^ a18 = q := ⟨_, rfl⟩
                              obtain ⟨m2, hm2⟩ : ∃ q, a17 ^^^ a19 = q := ⟨_, rfl⟩
                              rw [hm1] at hs0
                              rw [hm2] at hs1
                              have n1 : m1 < 4294967296 := by rw [← hm1]; exact Nat.xor_lt_two_pow (n := 32) l1 l2
                              have n2 : m2 < 4294967296 := by rw [← hm2]; exact Nat.xor_lt_two_pow (n := 32) l3 l4
                              have hx8b : x8 < 4294967296 := by omega
                              have hy10b : y10 < 4294967296 := by omega
                              obtain ⟨sx, hsx⟩ : ∃ q, m1 ^^^ x8 = q := ⟨_, rfl⟩
                              obtain ⟨sy, hsy⟩ : ∃ q, m2 ^^^ y10 = q := ⟨_, rfl⟩
                              rw [hsx] at hs0
                              rw [hsy] at hs1
                              have n3 : sx < 4294967296 := by rw [← hsx]; exact Nat.xor_lt_two_pow (n := 32) n1 hx8b
                              have n4 : sy < 4294967296 := by rw [← hsy]; exact Nat.xor_lt_two_pow (n := 32) n2 hy10b
                              rw [hs0, hs1] at HWN
                              obtain ⟨k1, hk1⟩ : ∃ t, (p + q) % 4294967296 = t := ⟨_, rfl⟩
                              obtain ⟨k2, hk2⟩ : ∃ t, (k1 + sx) % 4294967296 = t := ⟨_, rfl⟩
                              obtain ⟨z3, hz3⟩ : ∃ t, (k2 + sy) % 4294967296 = t := ⟨_, rfl⟩
                              rw [show (p + q + sx + sy) % 4294967296 = z3 by omega] at HWN
                              rw [(HWN.out ())] at HSN
                              have f1 : IntKind.u32.wrap ((p : Int) + (q : Int)) = (k1 : Int) := by rw [IntKind.wrap_u32]; omega
                              have f2 : IntKind.u32.wrap ((k1 : Int) + (sx : Int)) = (k2 : Int) := by rw [IntKind.wrap_u32]; omega
                              have f3 : IntKind.u32.wrap ((k2 : Int) + (sy : Int)) = (z3 : Int) := by rw [IntKind.wrap_u32]; omega
                              have g1 : bits .xor .u32 (a7 : Int) (a18 : Int) = (m1 : Int) := by rw [← hm1]; exact u32_xor_nat a7 a18 l1 l2
                              have g2 : bits .xor .u32 (a17 : Int) (a19 : Int) = (m2 : Int) := by rw [← hm2]; exact u32_xor_nat a17 a19 l3 l4
                              have g3 : bits .xor .u32 (m1 : Int) (x8 : Int) = (sx : Int) := by rw [← hsx]; exact u32_xor_nat m1 x8 n1 hx8b
                              have g4 : bits .xor .u32 (m2 : Int) (y10 : Int) = (sy : Int) := by rw [← hsy]; exact u32_xor_nat m2 y10 n2 hy10b
                              have d8 : (x : Int) / 8 = (x8 : Int) := by omega
                              have d8' : (x : Int).tdiv 8 = (x8 : Int) := by rw [Int.tdiv_eq_ediv_of_nonneg (by omega)]; omega
                              have d10 : (y : Int) / 1024 = (y10 : Int) := by omega
                              have d10' : (y : Int).tdiv 1024 = (y10 : Int) := by rw [Int.tdiv_eq_ediv_of_nonneg (by omega)]; omega
                              have i15 : (i : Int) - 15 = (j15 : Int) := by omega
                              have i15' : IntKind.i64.wrap ((i : Int) - 15) = (j15 : Int) := by rw [IntWalk.i64_in _ (by omega)]; omega
                              have i2 : (i : Int) - 2 = (j2 : Int) := by omega
                              have i2' : IntKind.i64.wrap ((i : Int) - 2) = (j2 : Int) := by rw [IntWalk.i64_in _ (by omega)]; omega
                              have i16' : IntKind.i64.wrap ((i : Int) - 16) = (j16 : Int) := by rw [IntWalk.i64_in _ (by omega)]; omega
                              have i7' : IntKind.i64.wrap ((i : Int) - 7) = (j7 : Int) := by rw [IntWalk.i64_in _ (by omega)]; omega
                              have v15 : (j15 : Int) < (i : Int) := by omega
                              have v2 : (j2 : Int) < (i : Int) := by omega
                              have v16 : (j16 : Int) < (i : Int) := by omega
                              have v7 : (j7 : Int) < (i : Int) := by omega
                              have HC16 := Lib.hid (show ∀ W, AfterS wr W → W.cell? ⟨bw, ow + j16, none⟩ = some (.int .u32 (p : Int)) from fun W hW => ((Ext.below hW).cell (p := ⟨bw, ow + j16, none⟩) (block_lt_of_cell hc16)).trans hc16)
                              have HC7 := Lib.hid (show ∀ W, AfterS wr W → W.cell? ⟨bw, ow + j7, none⟩ = some (.int .u32 (q : Int)) from fun W hW => ((Ext.below hW).cell (p := ⟨bw, ow + j7, none⟩) (block_lt_of_cell hc7)).trans hc7)
                              have HIG := Lib.hid (show i + (gk + 1) = 64 ∧ 16 ≤ i from ⟨hig, hi16⟩)
                              clear hx hy hp hq ha7 ha18 ha17 ha19 hx8 hy10 hs0 hs1 hm1 hm2 hsx hsy hk1 hk2 hz3 h15 h2 h16 h7 hig hi16 hc16 hc7
                              go_wp2
                              refine wp_region_stab (AfterS wr) [0, 1, 2, 3, 4, 5, 6, 7, 8, 9, 10, 11, 12, 13, 14, 15, 16, 17, 18, 19, 20, 21, 22, 23, 24, 25, 26, 27, 28, 29, 30] [(0, true), (1, true), (2, true), (3, true), (4, true), (5, true), (6, true), (7, true), (8, true), (9, true), (10, true), (11, true), (12, true), (13, true), (14, true), (15, true), (16, true), (17, true), (18, true), (19, true), (20, true), (21, true), (22, true), (23, true), (24, true), (25, true), (26, true), (27, true), (28, true), (29, true), (30, false), (31, false), (32, false)] (by kernel_rfl) (fun c a a' w e h => ⟨e ▸ h.1, h.2⟩) (by kernel_rfl) (show AfterS wr wr.drew from (Ext.refl wr).drew) ?_
                              refine stab_yes rfl (fun K hK => ?_); go_simp; refine ⟨_, fun _ _ => rfl, hK _ ?_⟩; clear hK K
                              refine stab_yes rfl (fun K hK => ?_); go_simp; refine ⟨_, fun _ _ => rfl, hK _ ?_⟩; clear hK K
                              refine stab_yes rfl (fun K hK => ?_); go_simp; refine ⟨_, fun _ _ => rfl, hK _ ?_⟩; clear hK K
                              refine stab_yes rfl (fun K hK => ?_); go_simp; refine ⟨_, fun _ _ => rfl, hK _ ?_⟩; clear hK K
                              refine stab_yes rfl (fun K hK => ?_); go_simp; refine ⟨_, fun _ _ => rfl, hK _ ?_⟩; clear hK K
                              refine stab_yes rfl (fun K hK => ?_); go_simp; refine ⟨.int .u32 (p : Int), fun W hW => ?_, hK _ ?_⟩; (focus (have h1 := HC16.out W hW; go_simp; done)); clear hK K
                              refine stab_yes rfl (fun K hK => ?_); go_simp; refine ⟨_, fun _ _ => rfl, hK _ ?_⟩; clear hK K
                              refine stab_yes rfl (fun K hK => ?_); go_simp; refine ⟨_, fun _ _ => rfl, hK _ ?_⟩; clear hK K
                              refine stab_yes rfl (fun K hK => ?_); go_simp; refine ⟨_, fun _ _ => rfl, hK _ ?_⟩; clear hK K
                              refine stab_yes rfl (fun K hK => ?_); go_simp; refine ⟨_, fun _ _ => rfl, hK _ ?_⟩; clear hK K
                              refine stab_yes rfl (fun K hK => ?_); go_simp; refine ⟨.int .u32 (q : Int), fun W hW => ?_, hK _ ?_⟩; (focus (have h1 := HC7.out W hW; go_simp; done)); clear hK K
                              refine stab_yes rfl (fun K hK => ?_); go_simp; refine ⟨_, fun _ _ => rfl, hK _ ?_⟩; clear hK K
                              refine stab_yes rfl (fun K hK => ?_); go_simp; refine ⟨_, fun _ _ => rfl, hK _ ?_⟩; clear hK K
                              refine stab_call rfl (fun K hK => ?_); go_simp; refine ⟨_, _, fun W _ => ⟨rfl, rfl⟩, _, HT7.out, hK _ ?_⟩; clear hK K
                              refine stab_yes rfl (fun K hK => ?_); go_simp; refine ⟨_, fun _ _ => rfl, hK _ ?_⟩; clear hK K
                              refine stab_call rfl (fun K hK => ?_); go_simp; refine ⟨_, _, fun W _ => ⟨rfl, rfl⟩, _, HT18.out, hK _ ?_⟩; clear hK K
                              refine stab_yes rfl (fun K hK => ?_); go_simp; refine ⟨_, fun _ _ => rfl, hK _ ?_⟩; clear hK K
                              refine stab_yes rfl (fun K hK => ?_); go_simp; refine ⟨_, fun _ _ => rfl, hK _ ?_⟩; clear hK K
                              refine stab_yes rfl (fun K hK => ?_); go_simp; refine ⟨_, fun _ _ => rfl, hK _ ?_⟩; clear hK K
                              refine stab_yes rfl (fun K hK => ?_); go_simp; refine ⟨_, fun _ _ => rfl, hK _ ?_⟩; clear hK K
                              refine stab_yes rfl (fun K hK => ?_); go_simp; refine ⟨_, fun _ _ => rfl, hK _ ?_⟩; clear hK K
                              refine stab_yes rfl (fun K hK => ?_); go_simp; refine ⟨_, fun _ _ => rfl, hK _ ?_⟩; clear hK K
                              refine stab_call rfl (fun K hK => ?_); go_simp; refine ⟨_, _, fun W _ => ⟨rfl, rfl⟩, _, HT17.out, hK _ ?_⟩; clear hK K
                              refine stab_yes rfl (fun K hK => ?_); go_simp; refine ⟨_, fun _ _ => rfl, hK _ ?_⟩; clear hK K
                              refine stab_call rfl (fun K hK => ?_); go_simp; refine ⟨_, _, fun W _ => ⟨rfl, rfl⟩, _, HT19.out, hK _ ?_⟩; clear hK K
                              refine stab_yes rfl (fun K hK => ?_); go_simp; refine ⟨_, fun _ _ => rfl, hK _ ?_⟩; clear hK K
                              refine stab_yes rfl (fun K hK => ?_); go_simp; refine ⟨_, fun _ _ => rfl, hK _ ?_⟩; clear hK K
                              refine stab_yes rfl (fun K hK => ?_); go_simp; refine ⟨_, fun _ _ => rfl, hK _ ?_⟩; clear hK K
                              refine stab_yes rfl (fun K hK => ?_); go_simp; refine ⟨_, fun _ _ => rfl, hK _ ?_⟩; clear hK K
                              refine stab_yes rfl (fun K hK => ?_); go_simp; refine ⟨_, fun _ _ => rfl, hK _ ?_⟩; clear hK K
                              refine stab_one rfl (fun K hK => ?_)
                              go_wp2
                              refine ⟨fun _ => (show AfterS wr _ from ((Ext.refl wr).drew).alloc _), ?_⟩
                              refine stab_one rfl (fun K hK => ?_)
                              go_wp2_with (at_builtin; refine wpList_append_nums nt32 rfl (.tmp 139) (.tmp 169) rfl wv.heap.size (.slice (some ⟨bw, ow, none⟩) i cw) (wl F i) [z3] rfl (HMW.out.ext (((Ext.refl wr).drew).alloc _)) wr.heap.size 0 1 1 rfl rfl (one_num (w := wr.drew)) (by rw [wl_len]; simp only [List.length_singleton]; omega) (by simp; omega) ?_; intro v9 w9 hown9 hg9 hat9; rw [← (HSN.out ())] at hown9; have HX9 := Lib.hid ((HXW.out.drew.alloc (.cells #[.int .u32 (z3 : Int)] 72)).more hg9 (fun q hq => (HMW.out.block q hq).1)); have HM9 := Lib.hid hown9; clear hown9 hg9 hat9)
                              refine ⟨fun h => absurd h (by decide), ?_⟩
                              refine stab_one rfl (fun K hK => ?_)
                              go_wp2
                              refine ⟨fun h => absurd h (by decide), ?_⟩
                              unfold wpStab
                              go_wp2
                              go_roundg gk
                              case measure => omega
                              case rel => exact ⟨i + 1, by have := HIG.out.1; omega, by have := HIG.out.2; omega, by go_num, HM9.out, HX9.out⟩
                      | succ gk =>
                        as_aux_lemma =>
                          have hi16 : i < 16 := by omega
                          have hiI : (i : Int) < 16 := by omega
                          have HSN := Lib.hid (fun (_ : Unit) => (show wl F (i + 1) = wl F i ++ [F i] from by rw [wl, if_pos hi16]))
                          have HFI := Lib.hid (fun (_ : Unit) => (HFA.out i))
                          obtain ⟨q4, hq4⟩ : ∃ q, 4 * i = q := ⟨_, rfl⟩
                          have eq4 : 4 * (i : Int) = (q4 : Int) := by omega
                          rw [hq4] at HFI
                          obtain ⟨p, hp⟩ : ∃ q, a + q4 = q := ⟨_, rfl⟩
                          have ep : (a : Int) + (q4 : Int) = (p : Int) := by omega
                          rw [hp] at HFI
                          have hpL : p + 3 < LL := by have := HAT.out; omega
                          have hRd := HRXV.out.ext HXW.out
                          obtain ⟨bt', ot, eB, hc0⟩ := hRd.2 p (by rw [(HLX.out ())]; omega)
                          obtain ⟨b2, o2, eB2, hc1⟩ := hRd.2 (p + 1) (by rw [(HLX.out ())]; omega)
                          obtain ⟨b3, o3, eB3, hc2⟩ := hRd.2 (p + 2) (by rw [(HLX.out ())]; omega)
                          obtain ⟨b4, o4, eB4, hc3⟩ := hRd.2 (p + 3) (by rw [(HLX.out ())]; omega)
                          rw [eB] at eB2 eB3 eB4
                          injection eB2 with eB2; injection eB2 with eB2 eB2'; subst eB2; subst eB2'
                          injection eB3 with eB3; injection eB3 with eB3 eB3'; subst eB3; subst eB3'
                          injection eB4 with eB4; injection eB4 with eB4 eB4'; subst eB4; subst eB4'
                          have hB7 : B7 = some ⟨bt', ot, none⟩ := by have e9 := HE8.out; injection e9 with e9; rw [e9, eB]
                          have hx0 := hRd.1 p
                          have hx1 := hRd.1 (p + 1)
                          have hx2 := hRd.1 (p + 2)
                          have hx3 := hRd.1 (p + 3)
                          have HFI2 := Lib.hid (fun (_ : Unit) => (show F i = co TX p * 16777216 + co TX (p + 1) * 65536 + co TX (p + 2) * 256 + co TX (p + 3) from (HFI.out ())))
                          obtain ⟨x0, hx0e⟩ : ∃ x, co TX p = x := ⟨_, rfl⟩
                          obtain ⟨x1, hx1e⟩ : ∃ x, co TX (p + 1) = x := ⟨_, rfl⟩
                          obtain ⟨x2, hx2e⟩ : ∃ x, co TX (p + 2) = x := ⟨_, rfl⟩
                          obtain ⟨x3, hx3e⟩ : ∃ x, co TX (p + 3) = x := ⟨_, rfl⟩
                          rw [hx0e] at hx0 hc0 HFI2
                          rw [hx1e] at hx1 hc1 HFI2
                          rw [hx2e] at hx2 hc2 HFI2
                          rw [hx3e] at hx3 hc3 HFI2
                          obtain ⟨ho1, ho2, ho3⟩ := or_word x0 x1 x2 x3 hx1 hx2 hx3
                          obtain ⟨y0, hy0⟩ : ∃ y, x0 * 16777216 = y := ⟨_, rfl⟩
                          obtain ⟨y1, hy1⟩ : ∃ y, x1 * 65536 = y := ⟨_, rfl⟩
                          obtain ⟨y2, hy2⟩ : ∃ y, x2 * 256 = y := ⟨_, rfl⟩
                          rw [hy0, hy1] at ho1 ho2 ho3
                          rw [hy2] at ho2 ho3
                          rw [hy0, hy1, hy2] at HFI2
                          obtain ⟨z1, hz1⟩ : ∃ y, y0 + y1 = y := ⟨_, rfl⟩
                          rw [hz1] at ho1 ho2 ho3 HFI2
                          obtain ⟨z2, hz2⟩ : ∃ y, z1 + y2 = y := ⟨_, rfl⟩
                          rw [hz2] at ho2 ho3 HFI2
                          obtain ⟨z3, hz3⟩ : ∃ y, z2 + x3 = y := ⟨_, rfl⟩
                          rw [hz3] at ho3 HFI2
                          have hb0 : y0 < 4294967296 ∧ y1 < 4294967296 ∧ y2 < 4294967296 ∧ z1 < 4294967296 ∧ z2 < 4294967296 ∧ z3 < 4294967296 := by omega
                          obtain ⟨l0, l1, l2, l3, l4, l5⟩ := hb0
                          have cx0 : IntKind.u32.wrap (x0 : Int) = (x0 : Int) := by rw [IntKind.wrap_u32]; omega
                          have cx1 : IntKind.u32.wrap (x1 : Int) = (x1 : Int) := by rw [IntKind.wrap_u32]; omega
                          have cx2 : IntKind.u32.wrap (x2 : Int) = (x2 : Int) := by rw [IntKind.wrap_u32]; omega
                          have cx3 : IntKind.u32.wrap (x3 : Int) = (x3 : Int) := by rw [IntKind.wrap_u32]; omega
                          have s0 : IntKind.u32.wrap ((x0 : Int) * 16777216) = (y0 : Int) := by rw [IntKind.wrap_u32]; omega
                          have s1 : IntKind.u32.wrap ((x1 : Int) * 65536) = (y1 : Int) := by rw [IntKind.wrap_u32]; omega
                          have s2 : IntKind.u32.wrap ((x2 : Int) * 256) = (y2 : Int) := by rw [IntKind.wrap_u32]; omega
                          have t0 : bits .or .u32 (y0 : Int) (y1 : Int) = (z1 : Int) := by rw [u32_or_nat y0 y1 l0 l1, ho1]
                          have t1 : bits .or .u32 (z1 : Int) (y2 : Int) = (z2 : Int) := by rw [u32_or_nat z1 y2 l3 l2, ho2]
                          have t2 : bits .or .u32 (z2 : Int) (x3 : Int) = (z3 : Int) := by rw [u32_or_nat z2 x3 l4 (by omega), ho3]
                          obtain ⟨p1, hp1⟩ : ∃ q, p + 1 = q := ⟨_, rfl⟩
                          obtain ⟨p2, hp2⟩ : ∃ q, p + 2 = q := ⟨_, rfl⟩
                          obtain ⟨p3, hp3⟩ : ∃ q, p + 3 = q := ⟨_, rfl⟩
                          rw [hp1] at hc1; rw [hp2] at hc2; rw [hp3] at hc3
                          have r1 : IntKind.i64.wrap ((p : Int) + 1) = (p1 : Int) := by rw [IntWalk.i64_in _ (by omega)]; omega
                          have r2 : IntKind.i64.wrap ((p : Int) + 2) = (p2 : Int) := by rw [IntWalk.i64_in _ (by omega)]; omega
                          have r3 : IntKind.i64.wrap ((p : Int) + 3) = (p3 : Int) := by rw [IntWalk.i64_in _ (by omega)]; omega
                          have i0 : (p : Int) < (LL : Int) := by omega
                          have i1 : (p1 : Int) < (LL : Int) := by omega
                          have i2 : (p2 : Int) < (LL : Int) := by omega
                          have i3 : (p3 : Int) < (LL : Int) := by omega
                          have hpb : p < 1048576 := by omega
                          subst hB7
                          have HIG := Lib.hid hig
                          rw [(HFI2.out ())] at HSN
                          have HC0 := Lib.hid (show ∀ W, AfterS wr W → W.cell? ⟨bt', ot + p, none⟩ = some (.int .u8 (x0 : Int)) from fun W hW => ((Ext.below hW).cell (p := ⟨bt', ot + p, none⟩) (block_lt_of_cell hc0)).trans hc0)
                          have HC1 := Lib.hid (show ∀ W, AfterS wr W → W.cell? ⟨bt', ot + p1, none⟩ = some (.int .u8 (x1 : Int)) from fun W hW => ((Ext.below hW).cell (p := ⟨bt', ot + p1, none⟩) (block_lt_of_cell hc1)).trans hc1)
                          have HC2 := Lib.hid (show ∀ W, AfterS wr W → W.cell? ⟨bt', ot + p2, none⟩ = some (.int .u8 (x2 : Int)) from fun W hW => ((Ext.below hW).cell (p := ⟨bt', ot + p2, none⟩) (block_lt_of_cell hc2)).trans hc2)
                          have HC3 := Lib.hid (show ∀ W, AfterS wr W → W.cell? ⟨bt', ot + p3, none⟩ = some (.int .u8 (x3 : Int)) from fun W hW => ((Ext.below hW).cell (p := ⟨bt', ot + p3, none⟩) (block_lt_of_cell hc3)).trans hc3)
                          clear hx0e hx1e hx2e hx3e hy0 hy1 hy2 hz1 hz2 hz3 hp hq4 hp1 hp2 hp3 eB ho1 ho2 ho3 hRd hig hc0 hc1 hc2 hc3
                          go_wp2
                          refine wp_region_stab (AfterS wr) [0, 1, 2, 3, 4, 5, 6, 7, 8, 9, 10, 11, 12, 13, 14, 15, 16, 17, 18, 19, 20, 21, 22, 23, 24, 25, 26, 27, 28, 29, 30] [(0, true), (1, true), (2, true), (3, true), (4, true), (5, true), (6, true), (7, true), (8, true), (9, true), (10, true), (11, true), (12, true), (13, true), (14, true), (15, true), (16, true), (17, true), (18, true), (19, true), (20, true), (21, true), (22, true), (23, true), (24, true), (25, true), (26, true), (27, true), (28, true), (29, true), (30, false), (31, false), (32, false)] (by kernel_rfl) (fun c a a' w e h => ⟨e ▸ h.1, h.2⟩) (by kernel_rfl) (show AfterS wr wr.drew from (Ext.refl wr).drew) ?_
                          refine stab_yes rfl (fun K hK => ?_); go_simp; refine ⟨_, fun _ _ => rfl, hK _ ?_⟩; clear hK K
                          refine stab_yes rfl (fun K hK => ?_); go_simp; refine ⟨_, fun _ _ => rfl, hK _ ?_⟩; clear hK K
                          refine stab_yes rfl (fun K hK => ?_); go_simp; refine ⟨_, fun _ _ => rfl, hK _ ?_⟩; clear hK K
                          refine stab_yes rfl (fun K hK => ?_); go_simp; refine ⟨_, fun _ _ => rfl, hK _ ?_⟩; clear hK K
                          refine stab_yes rfl (fun K hK => ?_); go_simp; refine ⟨.int .u8 (x0 : Int), fun W hW => ?_, hK _ ?_⟩; (focus (have h1 := HC0.out W hW; go_simp; done)); clear hK K
                          refine stab_yes rfl (fun K hK => ?_); go_simp; refine ⟨_, fun _ _ => rfl, hK _ ?_⟩; clear hK K
                          refine stab_yes rfl (fun K hK => ?_); go_simp; refine ⟨_, fun _ _ => rfl, hK _ ?_⟩; clear hK K
                          refine stab_yes rfl (fun K hK => ?_); go_simp; refine ⟨_, fun _ _ => rfl, hK _ ?_⟩; clear hK K
                          refine stab_yes rfl (fun K hK => ?_); go_simp; refine ⟨_, fun _ _ => rfl, hK _ ?_⟩; clear hK K
                          refine stab_yes rfl (fun K hK => ?_); go_simp; refine ⟨_, fun _ _ => rfl, hK _ ?_⟩; clear hK K
                          refine stab_yes rfl (fun K hK => ?_); go_simp; refine ⟨_, fun _ _ => rfl, hK _ ?_⟩; clear hK K
                          refine stab_yes rfl (fun K hK => ?_); go_simp; refine ⟨.int .u8 (x1 : Int), fun W hW => ?_, hK _ ?_⟩; (focus (have h1 := HC1.out W hW; go_simp; done)); clear hK K
                          refine stab_yes rfl (fun K hK => ?_); go_simp; refine ⟨_, fun _ _ => rfl, hK _ ?_⟩; clear hK K
                          refine stab_yes rfl (fun K hK => ?_); go_simp; refine ⟨_, fun _ _ => rfl, hK _ ?_⟩; clear hK K
                          refine stab_yes rfl (fun K hK => ?_); go_simp; refine ⟨_, fun _ _ => rfl, hK _ ?_⟩; clear hK K
                          refine stab_yes rfl (fun K hK => ?_); go_simp; refine ⟨_, fun _ _ => rfl, hK _ ?_⟩; clear hK K
                          refine stab_yes rfl (fun K hK => ?_); go_simp; refine ⟨_, fun _ _ => rfl, hK _ ?_⟩; clear hK K
                          refine stab_yes rfl (fun K hK => ?_); go_simp; refine ⟨_, fun _ _ => rfl, hK _ ?_⟩; clear hK K
                          refine stab_yes rfl (fun K hK => ?_); go_simp; refine ⟨_, fun _ _ => rfl, hK _ ?_⟩; clear hK K
                          refine stab_yes rfl (fun K hK => ?_); go_simp; refine ⟨.int .u8 (x2 : Int), fun W hW => ?_, hK _ ?_⟩; (focus (have h1 := HC2.out W hW; go_simp; done)); clear hK K
                          refine stab_yes rfl (fun K hK => ?_); go_simp; refine ⟨_, fun _ _ => rfl, hK _ ?_⟩; clear hK K
                          refine stab_yes rfl (fun K hK => ?_); go_simp; refine ⟨_, fun _ _ => rfl, hK _ ?_⟩; clear hK K
                          refine stab_yes rfl (fun K hK => ?_); go_simp; refine ⟨_, fun _ _ => rfl, hK _ ?_⟩; clear hK K
                          refine stab_yes rfl (fun K hK => ?_); go_simp; refine ⟨_, fun _ _ => rfl, hK _ ?_⟩; clear hK K
                          refine stab_yes rfl (fun K hK => ?_); go_simp; refine ⟨_, fun _ _ => rfl, hK _ ?_⟩; clear hK K
                          refine stab_yes rfl (fun K hK => ?_); go_simp; refine ⟨_, fun _ _ => rfl, hK _ ?_⟩; clear hK K
                          refine stab_yes rfl (fun K hK => ?_); go_simp; refine ⟨_, fun _ _ => rfl, hK _ ?_⟩; clear hK K
                          refine stab_yes rfl (fun K hK => ?_); go_simp; refine ⟨.int .u8 (x3 : Int), fun W hW => ?_, hK _ ?_⟩; (focus (have h1 := HC3.out W hW; go_simp; done)); clear hK K
                          refine stab_yes rfl (fun K hK => ?_); go_simp; refine ⟨_, fun _ _ => rfl, hK _ ?_⟩; clear hK K
                          refine stab_yes rfl (fun K hK => ?_); go_simp; refine ⟨_, fun _ _ => rfl, hK _ ?_⟩; clear hK K
                          refine stab_one rfl (fun K hK => ?_)
                          go_wp2
                          refine ⟨fun _ => (show AfterS wr _ from ((Ext.refl wr).drew).alloc _), ?_⟩
                          refine stab_one rfl (fun K hK => ?_)
                          go_wp2_with (at_builtin; refine wpList_append_nums nt32 rfl (.tmp 93) (.tmp 123) rfl wv.heap.size (.slice Bw i cw) (wl F i) [z3] rfl (HMW.out.ext (((Ext.refl wr).drew).alloc _)) wr.heap.size 0 1 1 rfl rfl (one_num (w := wr.drew)) (by rw [wl_len]; simp only [List.length_singleton]; omega) (by simp; omega) ?_; intro v9 w9 hown9 hg9 hat9; rw [← (HSN.out ())] at hown9; have HX9 := Lib.hid ((HXW.out.drew.alloc (.cells #[.int .u32 (z3 : Int)] 72)).more hg9 (fun q hq => (HMW.out.block q hq).1)); have HM9 := Lib.hid hown9; clear hown9 hg9 hat9)
                          refine ⟨fun h => absurd h (by decide), ?_⟩
                          refine stab_one rfl (fun K hK => ?_)
                          go_wp2
                          refine ⟨fun h => absurd h (by decide), ?_⟩
                          unfold wpStab
                          go_wp2
                          go_roundg gk
                          case measure => omega
                          case rel => exact ⟨i + 1, by have := HIG.out; omega, by go_num, HM9.out, HX9.out⟩
            | succ gk =>
              as_aux_lemma =>
                obtain ⟨v, hv⟩ : ∃ v, 56 - 8 * j = v := ⟨_, rfl⟩
                have hvI : 56 - 8 * (j : Int) = (v : Int) := by omega
                have hq2 := HV.out j v (by omega)
                obtain ⟨d, hd⟩ : ∃ d, len8 n j = d := ⟨_, rfl⟩
                have hd8 : d < 256 := by rw [← hd]; exact Nat.mod_lt _ (by decide)
                have HTJ := Lib.hid (fun (_ : Unit) => (HTS.out j))
                rw [hd] at HTJ hq2
                rw [hvI]
                obtain ⟨L, hL⟩ : ∃ L, n + 1 + padz n + j = L := ⟨_, rfl⟩
                have HL := Lib.hid hL
                rw [hL] at hc7 HM ⊢
                have hLb : L < 1048576 := by omega
                have HVI := Lib.hid (fun (_ : Unit) => hvI)
                clear hL hd hv hjg hvI
                go_wp2_with (at_builtin; refine wpList_append_rd rfl (.tmp 71) (.tmp 77) rfl wq.heap.size (.slice B7 L c7) (b ++ [128] ++ List.replicate (padz n) 0 ++ (List.range j).map (len8 n)) [d] rfl (mine_ext HM.out ((Ext.refl _).alloc _)) (some ⟨wr.heap.size, 0, none⟩) 1 1 rfl rfl (rd_one wr d hd8) (by rw [HLT.out, HL.out]; simp; omega) (by simp; omega) ?_; intro v9 w9 hown9 hg9 hat9; rw [← (HTJ.out ())] at hown9; have HX9 := Lib.hid ((HXX.out.alloc (.cells #[.int .u8 (d : Int)] 5)).more hg9 (fun q hq => (HM.out.block q hq).1)); have HM9 := Lib.hid hown9; clear hown9 hg9 hat9)
                go_roundg gk
                case measure => omega
                case rel => exact ⟨j + 1, by have := HJG.out; omega, by rw [show 56 - 8 * ((j + 1 : Nat) : Int) = (v : Int) - 8 from by have := (HVI.out ()); omega, show wrap64 ((v : Int) - 8) = (v : Int) - 8 from by have := (HVI.out ()); unfold wrap64; omega], HM9.out, HX9.out⟩
        | succ gk =>
          have hz' : L % 64 ≠ 56 := fun h => by have := hz.1 h; omega
          have em' : (L : Int) % 64 ≠ 56 := by omega
          clear hz hjg em hz'
          go_wp2_with (at_builtin; refine wpList_append_rd rfl (.tmp 60) (.tmp 61) rfl wq.heap.size (.slice B7 L c7) (b ++ [128] ++ List.replicate j 0) [0] rfl (mine_ext HM.out ((Ext.refl _).alloc _)) (some ⟨wr.heap.size, 0, none⟩) 1 1 rfl rfl (rd_one wr 0 (by omega)) (by rw [HLZ.out, HL.out]; simp; omega) (by simp; omega) ?_; intro v9 w9 hown9 hg9 hat9; rw [← HZS.out] at hown9; have HX9 := Lib.hid ((HXX.out.alloc (.cells #[.int .u8 0] 5)).more hg9 (fun q hq => (HM.out.block q hq).1)); have HM9 := Lib.hid hown9; clear hown9 hg9 hat9)
          go_roundg gk
          case measure => omega
          case rel => exact ⟨j + 1, by have := HJG.out; omega, HM9.out, HX9.out⟩
    | succ gk =>
      as_aux_lemma =>
        have hi : i < 64 := by omega
        have hiI : (i : Int) < 64 := by omega
        obtain ⟨b1, o1, rfl, hcp⟩ := (HR1.out.ext HX.out) i (by rw [HPL.out]; exact hi)
        have hpl := HPT.out i
        have HHI := Lib.hid (HHS.out i)
        have HKI := Lib.hid (HKS.out i hi)
        obtain ⟨p, hp⟩ : ∃ p, co Pv i = p := ⟨_, rfl⟩
        rw [hp] at hcp hpl HHI HKI
        have HCE := Lib.hid (fun (W : World) (hW : Ext w1 W) => show W.cell? ⟨b1, o1 + i, none⟩ = some (.int .u64 (p : Int)) from by
          obtain ⟨b', o', e, hc⟩ := (HR1.out.ext hW) i (by rw [HPL.out]; exact hi)
          injection e with e
          injection e with e1 e2
          subst e1; subst e2
          rw [hc, hp])
        have HSP := Lib.hid (fun W => HSQ.out p W hpl)
        have HCP := Lib.hid (fun W => HCU.out p W hpl)
        obtain ⟨y, hy⟩ : ∃ y, rtx 2 p 37 0 % 4294967296 = y := ⟨_, rfl⟩
        obtain ⟨z, hz⟩ : ∃ z, rtx 3 p 37 0 % 4294967296 = z := ⟨_, rfl⟩
        rw [hy] at HSP HHI
        rw [hz] at HCP HKI
        clear hp hy hz hig
        by_cases hi8 : i < 8
        · have hi8I : (i : Int) < 8 := by omega
          have hm8 : min i 8 = i := by omega
          have hm9 : min (i + 1) 8 = i + 1 := by omega
          rw [hm8] at HMH
          have HHI' := Lib.hid (HHI.out hi8)
          have hlh : (Hv.take i).length ≤ 8 := by rw [List.length_take]; omega
          go_wp2_with fail
          refine (HSP.out _).mono ?_
          rintro e w2 ⟨rfl, hx2⟩
          have HX2 := Lib.hid (HX.out.trans hx2)
          have HMH2 := Lib.hid ((HMH.out.ext hx2).ext ((Ext.refl _).alloc (.cells #[.int .u32 (y : Int)] 72)))
          have HMK2 := Lib.hid ((HMK.out.ext hx2).ext ((Ext.refl _).alloc (.cells #[.int .u32 (y : Int)] 72)))
          have hs2 := hx2.size
          clear hx2
          go_upto_region 9 with (at_builtin; refine wpList_append_nums nt32 rfl (.tmp 34) (.tmp 40) rfl w1.heap.size u4 (Hv.take i) [y] rfl HMH2.out w2.heap.size 0 1 1 rfl rfl one_num (by simp only [List.length_singleton]; omega) (by simp; omega) ?_; intro v7 w7 hown7 hg7 hat7; rw [← HHI'.out] at hown7; have HX7 := Lib.hid ((HX2.out.alloc (.cells #[.int .u32 (y : Int)] 72)).more hg7 (fun q hq => (HMH.out.block q hq).1)); have HM7 := Lib.hid hown7; have HK7 := Lib.hid (HMK2.out.keep hg7 (fun q hq e => HAP.out q e.symm hq)); have HA7 := Lib.hid (show ∀ q, v7.ownBlock = some q → u5.ownBlock ≠ some q from fun q hq he => hat7.elim (fun e => HAP.out q (e ▸ hq) he) (fun e => by have := (HMK.out.block q he).2; rw [e] at hq; injection hq with hq; simp at hq; omega)); clear hown7 hg7 hat7;)
          have hs7 := HX7.out.size
          have hcp7 := HCE.out w7 HX7.out
          have hlk : (Kv.take i).length ≤ 64 := by rw [List.length_take]; omega
          go_wp2_with fail
          refine (HCP.out _).mono ?_
          rintro e w3 ⟨rfl, hx3⟩
          have HX3 := Lib.hid (HX7.out.trans hx3)
          have HMH3 := Lib.hid ((HM7.out.ext hx3).ext ((Ext.refl _).alloc (.cells #[.int .u32 (z : Int)] 72)))
          have HMK3 := Lib.hid ((HK7.out.ext hx3).ext ((Ext.refl _).alloc (.cells #[.int .u32 (z : Int)] 72)))
          have hs3 := hx3.size
          clear hx3
          go_wp2_with (at_builtin; refine wpList_append_nums nt32 rfl (.tmp 42) (.tmp 48) rfl w1.heap.size u5 (Kv.take i) [z] rfl HMK3.out w3.heap.size 0 1 1 rfl rfl one_num (by simp only [List.length_singleton]; omega) (by simp; omega) ?_; intro v8 w8 hown8 hg8 hat8; rw [← HKI.out] at hown8; have HX8 := Lib.hid ((HX3.out.alloc (.cells #[.int .u32 (z : Int)] 72)).more hg8 (fun q hq => (HMK.out.block q hq).1)); have HK8 := Lib.hid hown8; have HH8 := Lib.hid (HMH3.out.keep hg8 (fun q hq e => HA7.out q hq e.symm)); have HA8 := Lib.hid (show ∀ q, v7.ownBlock = some q → v8.ownBlock ≠ some q from fun q hq he => hat8.elim (fun e => HA7.out q hq (e ▸ he)) (fun e => by have := (HM7.out.block q hq).2; rw [e] at he; injection he with he; simp at he; omega)); clear hown8 hg8 hat8)
          go_roundg gk
          case measure => omega
          case rel => exact ⟨i + 1, by have := HIG.out; omega, by go_num, by rw [hm9]; exact HH8.out, HK8.out, HA8.out, HX8.out⟩
        · have hi8I : ¬ (i : Int) < 8 := by omega
          have hm8 : min i 8 = 8 := by omega
          have hm9 : min (i + 1) 8 = 8 := by omega
          rw [hm8] at HMH
          have hs7 := HX.out.size
          have hlk : (Kv.take i).length ≤ 64 := by rw [List.length_take]; omega
          go_wp2_with fail
          refine (HCP.out _).mono ?_
          rintro e w3 ⟨rfl, hx3⟩
          have HX3 := Lib.hid (HX.out.trans hx3)
          have HMH3 := Lib.hid ((HMH.out.ext hx3).ext ((Ext.refl _).alloc (.cells #[.int .u32 (z : Int)] 72)))
          have HMK3 := Lib.hid ((HMK.out.ext hx3).ext ((Ext.refl _).alloc (.cells #[.int .u32 (z : Int)] 72)))
          have hs3 := hx3.size
          clear hx3
          go_wp2_with (at_builtin; refine wpList_append_nums nt32 rfl (.tmp 42) (.tmp 48) rfl w1.heap.size u5 (Kv.take i) [z] rfl HMK3.out w3.heap.size 0 1 1 rfl rfl one_num (by simp only [List.length_singleton]; omega) (by simp; omega) ?_; intro v8 w8 hown8 hg8 hat8; rw [← HKI.out] at hown8; have HX8 := Lib.hid ((HX3.out.alloc (.cells #[.int .u32 (z : Int)] 72)).more hg8 (fun q hq => (HMK.out.block q hq).1)); have HK8 := Lib.hid hown8; have HH8 := Lib.hid (HMH3.out.keep hg8 (fun q hq e => HAP.out q hq e.symm)); have HA8 := Lib.hid (show ∀ q, u4.ownBlock = some q → v8.ownBlock ≠ some q from fun q hq he => hat8.elim (fun e => HAP.out q hq (e ▸ he)) (fun e => by have := (HMH.out.block q hq).2; rw [e] at he; injection he with he; simp at he; omega)); clear hown8 hg8 hat8)
          go_roundg gk
          case measure => omega
          case rel => exact ⟨i + 1, by have := HIG.out; omega, by go_num, by rw [hm9]; exact HH8.out, HK8.out, HA8.out, HX8.out⟩
end Go.Proofs.YtjifionpblpfoaaDoor

/-
  The document's own Of of layer 10, with the constants that the document names. Conditions: no more than 2^18 bytes.
-/
namespace Go.Proofs.YtjifionpblpfoaaDoor
open Go.RowKit
open Pol (co Sm)

theorem ref10_of : RefOf := fun b A cb w hr hl => ref10_of_gen HH KK HH_len KK_len HH_snoc KK_snoc HH_w32 KK_w32 b A cb w hr hl
end Go.Proofs.YtjifionpblpfoaaDoor

/-
  What the listed variables of layer 10 are in memory. Conditions: none.
-/
namespace Go.Proofs.YtjifionpblpfoaaDoor
open Go.RowKit Go.ChangeShapes Go.WideShapes Go.ChangeAt
open Pol (co Sm)

def laid10 : List (String × DataW Unit) := [("shroud/sha.start", Rows.laid_shroud_sha_start), ("shroud/sha.constants", Rows.laid_shroud_sha_constants)]
set_option maxRecDepth 100000 in
theorem dt_of_trod {H : Type} {enc : TypeId × Value → H} {W : World} {base : Nat} {sp : Nat → Bool} {held : Bool} {fuel : Nat} {t e : TypeId} {n : Nat} {cs : Array Value} {l : List Nat} {p : List MemPlace}
    (ht : Tryd.prog.underlying t = some (.array n e)) (he : Tryd.prog.underlying e = some (.int .u32)) (hc : Tryd.prog.cellsOf e = 1) (hn : Tryd.prog.cellsOf t = n) (hl : l.length = n)
    (h : DataW.trod enc Tryd.prog W base sp held fuel t cs.toList = some (.agg (l.map fun x : Nat => .lit (.int .u32 ((x : Nat) : Int))), p)) : cs = dt n (co l) := by
  obtain ⟨xs, m1, rfl, hx1, hlen, hlx, hel⟩ := DataW.trod_array ht h
  injection hx1 with hx1 _
  injection hx1 with hx1
  rw [hn] at hlen
  have hsz : cs.size = n := by simpa using hlen
  apply Array.ext
  · rw [dt_size, hsz]
  · intro i h1 h2
    have hi : i < n := by omega
    have he' := hel i hi
    rw [hc, Nat.mul_one] at he'
    have e1 : (cs.toList.drop i).take 1 = [cs[i]] := by
      rw [List.drop_eq_getElem_cons (by simpa using h1)]
      simp
    rw [e1, List.getElem?_eq_getElem (by omega)] at he'
    obtain ⟨k, ek, ex, _⟩ := DataW.trod_int he he'
    have hm : (l.map fun x : Nat => DataW.lit (H := H) (.int .u32 ((x : Nat) : Int)))[i]? = (xs.map (·.1))[i]? := by rw [hx1]
    rw [List.getElem?_map, List.getElem?_map, List.getElem?_eq_getElem (by omega), List.getElem?_eq_getElem (by omega)] at hm
    simp only [Option.map_some, ex] at hm
    injection hm with hm
    injection hm with hm
    injection hm with _ hm
    injection ek with ek
    have hd := dt_at n (co l) i hi
    rw [Array.getElem?_eq_getElem h2] at hd
    injection hd with hd
    rw [ek, hd, ← hm]
    unfold co
    rw [List.getElem?_eq_getElem (by omega)]
    rfl
theorem start_is : (Rows.laid_shroud_sha_start : DataW Unit) = .agg (HH.map fun x : Nat => .lit (.int .u32 ((x : Nat) : Int))) := by rw [HH_is]; rfl
set_option maxRecDepth 100000 in
theorem constants_is : (Rows.laid_shroud_sha_constants : DataW Unit) = .agg (KK.map fun x : Nat => .lit (.int .u32 ((x : Nat) : Int))) := by rw [KK_is]; rfl
theorem row_of_cell {P : Program} {W : World} {g : Nat} {n : String} {cs : Array Value} (hg : P.globalNamed n = some g) (h : W.var? P n = some cs) (hk : ∃ c t, W.heap[g]? = some (.cells c t (0, 0))) : ∃ t, W.heap[g]? = some (.cells cs t (0, 0)) := by
  obtain ⟨c, t, hc⟩ := hk
  simp only [World.var?, hg, Option.bind_some, hc] at h
  injection h with h
  subst h
  exact ⟨t, hc⟩
theorem gl_of_laid {W : World} (h : laidMetH Tryd.prog laid10 W) : GL W := by
  rw [MakeChecks.laidMetH_plain _ _ _ (by kernel_rfl)] at h
  obtain ⟨ps, ⟨g0, t0, cs0, f0, p0, q0, hg0, ht0, hv0, hd0, ⟨g1, t1, cs1, f1, p1, q1, hg1, ht1, hv1, hd1, _, hq0⟩, hps⟩, _, hall⟩ := h
  obtain rfl := Option.some.inj ((show Tryd.prog.globalNamed "shroud/sha.start" = some 0 by kernel_rfl).symm.trans hg0)
  obtain rfl := Option.some.inj ((show Tryd.prog.globalNamed "shroud/sha.constants" = some 1 by kernel_rfl).symm.trans hg1)
  obtain rfl := Option.some.inj ((show (Tryd.prog.globals[0]?).map (·.type) = some 73 by kernel_rfl).symm.trans ht0)
  obtain rfl := Option.some.inj ((show (Tryd.prog.globals[1]?).map (·.type) = some 97 by kernel_rfl).symm.trans ht1)
  rw [start_is] at hd0
  rw [constants_is] at hd1
  have e0 := dt_of_trod Tryd.underlying73 Tryd.underlying72 (by kernel_rfl) (by kernel_rfl) (by rw [HH_is]; rfl) hd0
  have e1 := dt_of_trod Tryd.underlying97 Tryd.underlying72 (by kernel_rfl) (by kernel_rfl) (by rw [KK_is]; rfl) hd1
  have m0 : MemPlace.cell 0 0 ∈ ps := by
    rw [hps, e0, dt_size]
    simp [MemPlace.row]
  have m1 : MemPlace.cell 1 0 ∈ ps := by
    rw [hps, hq0, e1, dt_size]
    simp [MemPlace.row]
  have r0 := row_of_cell hg0 hv0 (hall _ _ m0).1
  have r1 := row_of_cell hg1 hv1 (hall _ _ m1).1
  rw [e0] at r0
  rw [e1] at r1
  exact ⟨r0, r1⟩
/-- The door's own heap meets the condition. -/
theorem door_met10 (os : Os) (args : Array Value) : laidMetH Tryd.prog laid10 ((World.doorLaid Tryd.prog 1000 os).forCall (fun _ _ => 0) ⟨#[], args, []⟩).memory :=
  laidMetH_of_parts3 (fuel := 8) (laidMet_of_run' 8 (by kernel_rfl) (by kernel_rfl)) (by kernel_rfl) (by kernel_rfl)
end Go.Proofs.YtjifionpblpfoaaDoor

/-
  An argument that is a slice of bytes, or of points, reads as a list. Conditions: none.
-/
namespace Go.Proofs.YtjifionpblpfoaaDoor
open Go.RowKit
open Go.ChangeShapes Go.WideShapes Go.ChangeAt
open Pol (co Sm)

section
variable {H : Type} {enc : TypeId × Value → H} {w : World} {base : Nat} {spare : Nat → Bool} {held : Bool}
theorem open_bytes {fuel len cap : Nat} {a : Option Addr} {x : DataW H × List MemPlace} (h : DataW.trod enc Tryd.prog w base spare held fuel 23 [.slice a len cap] = some x) :
    ∃ l : List Nat, l.length = len ∧ len ≤ cap ∧ Rd w a l := by
  rcases open_ints Tryd.underlying23 Tryd.underlying5 (by kernel_rfl) h with ⟨hcs, _⟩ | ⟨a', len', cap', zs, hcs, _, hl, _, hz, _, hcell, hwz⟩
  · simp at hcs
    obtain ⟨rfl, rfl, rfl⟩ := hcs
    exact ⟨[], rfl, Nat.le_refl _, Rd.nil _ _⟩
  · simp at hcs
    obtain ⟨rfl, rfl, rfl⟩ := hcs
    have hlz : len ≤ zs.length := by rw [hz]; split <;> omega
    have hnat : ∀ i, i < zs.length → ∃ n : Nat, zs.getD i 0 = (n : Int) ∧ n < 256 := fun i hi => by
      have hm : zs.getD i 0 ∈ zs := by rw [List.getD_eq_getElem?_getD, List.getElem?_eq_getElem hi]; exact List.getElem_mem hi
      exact nat_u8 (hwz _ hm)
    refine ⟨(List.range len).map (fun i => (zs.getD i 0).toNat), by simp, hl, ?_, fun i hi => ?_⟩
    · refine Pol.co_lt_of (fun v hv => ?_)
      obtain ⟨i, hi, rfl⟩ := List.mem_map.1 hv
      obtain ⟨n, hn, hn'⟩ := hnat i (by have := List.mem_range.1 hi; omega)
      show (zs.getD i 0).toNat < 256
      rw [hn]; omega
    · have hi' : i < len := by simpa using hi
      obtain ⟨b, o, rfl, hc⟩ := ints_at hcell (by omega)
      refine ⟨b, o, rfl, ?_⟩
      rw [hc i (by omega)]
      obtain ⟨n, hn, _⟩ := hnat i (by omega)
      congr 2
      unfold co
      rw [List.getElem?_map, List.getElem?_range hi']
      show zs.getD i 0 = (((zs.getD i 0).toNat : Nat) : Int)
      rw [hn]; omega
end
end Go.Proofs.YtjifionpblpfoaaDoor

/-
  An envelope that comes in by value. Conditions: none.
-/
namespace Go.Proofs.YtjifionpblpfoaaDoor
open Go.RowKit
open Go.ChangeShapes Go.WideShapes Go.ChangeAt
open Pol (co Sm)

section
variable {H : Type} {enc : TypeId × Value → H} {w : World} {base : Nat} {spare : Nat → Bool} {held : Bool}
theorem env_bytes {fuel : Nat} {v : Value} {x : DataW H × List MemPlace} (h : DataW.trod enc Tryd.prog w base spare held fuel 23 [v] = some x) :
    ∃ (q : List Nat) (B : Option Addr) (c : Nat), v = .slice B q.length c ∧ q.length ≤ c ∧ Rd w B q := by
  obtain ⟨B, n, c, hv⟩ : ∃ B n c, v = .slice B n c := by
    rcases Go.Deep.open_slice Tryd.underlying23 h with ⟨e, _⟩ | ⟨a2, l2, c2, _, _, _, _, e, _⟩
    · exact ⟨none, 0, 0, by simpa using e⟩
    · exact ⟨some a2, l2, c2, by simpa using e⟩
  subst hv
  obtain ⟨q, hq, hqc, hqr⟩ := open_bytes h
  exact ⟨q, B, c, by rw [hq], by rw [hq]; exact hqc, hqr⟩
set_option maxRecDepth 100000 in
/-- One envelope, by its five cells. -/
theorem open_envc {fuel : Nat} {cs : List Value} {x : DataW H × List MemPlace} (h : DataW.trod enc Tryd.prog w base spare held fuel 25 cs = some x) :
    ∃ (s : Int) (n f x k c : Nat) (m : List Nat) (B : Option Addr), cs = [.int .i64 s, .int .u64 (n : Int), .int .u64 (f : Int), .int .u64 (x : Int), .slice B k c] ∧ m.length = k ∧ k ≤ c ∧ n < 18446744073709551616 ∧ f < 18446744073709551616 ∧ x < 18446744073709551616 ∧ Rd w B m := by
  obtain ⟨xs, m, _, _, hl, hxl, hf⟩ := DataW.trod_struct Tryd.underlying25 h
  have hc : cs.length = 5 := by rw [hl]; kernel_rfl
  have ci : Tryd.prog.cellsOf 3 = 1 := by kernel_rfl
  have cu : Tryd.prog.cellsOf 22 = 1 := by kernel_rfl
  have cb : Tryd.prog.cellsOf 23 = 1 := by kernel_rfl
  match cs, hc with
  | [v0, v1, v2, v3, v4], _ =>
    match xs, hxl with
    | [y0, y1, y2, y3, y4], _ =>
      have g0 := hf 0 _ rfl
      have g1 := hf 1 _ rfl
      have g2 := hf 2 _ rfl
      have g3 := hf 3 _ rfl
      have g4 := hf 4 _ rfl
      simp [ci, cu, cb] at g0 g1 g2 g3 g4
      obtain ⟨s, e0, _, _⟩ := DataW.trod_int Tryd.underlying3 g0
      obtain ⟨z1, e1, _, w1⟩ := DataW.trod_int Tryd.underlying22 g1
      obtain ⟨z2, e2, _, w2⟩ := DataW.trod_int Tryd.underlying22 g2
      obtain ⟨z3, e3, _, w3⟩ := DataW.trod_int Tryd.underlying22 g3
      obtain ⟨n, rfl, hn⟩ := nat_u64 w1
      obtain ⟨f, rfl, hff⟩ := nat_u64 w2
      obtain ⟨x, rfl, hx⟩ := nat_u64 w3
      obtain ⟨q, B, c, rfl, h1, h2⟩ := env_bytes g4
      simp only [List.cons.injEq, and_true] at e0 e1 e2 e3
      subst e0; subst e1; subst e2; subst e3
      exact ⟨s, n, f, x, q.length, c, q, B, rfl, rfl, h1, hn, hff, hx, h2⟩
set_option maxRecDepth 100000 in
/-- An envelope by value. -/
theorem open_env {r : Reach} {b0 : Nat} {v : Value} {d : DataW H} {p : List MemPlace} (hv : Value.okWide Tryd.prog w r b0 25 v) (h : DataW.Trod enc Tryd.prog w base spare held 25 v d p) :
    ∃ (s : Int) (n f x k c : Nat) (m : List Nat) (B : Option Addr), v = .agg #[.int .i64 s, .int .u64 (n : Int), .int .u64 (f : Int), .int .u64 (x : Int), .slice B k c] ∧ m.length = k ∧ k ≤ c ∧ n < 18446744073709551616 ∧ f < 18446744073709551616 ∧ x < 18446744073709551616 ∧ Rd w B m := by
  obtain ⟨cs, rfl, _⟩ := okWide_struct Tryd.underlying25 hv
  obtain ⟨fuel, hf⟩ := h
  have hf' : DataW.trod enc Tryd.prog w base spare held fuel 25 cs.toList = some (d, p) := by simpa [Value.cells] using hf
  obtain ⟨s, n, f, x, k, c, m, B, e, hm, hk, hn, hff, hx, hr⟩ := open_envc hf'
  refine ⟨s, n, f, x, k, c, m, B, ?_, hm, hk, hn, hff, hx, hr⟩
  rw [← Array.toArray_toList (xs := cs), e]
end
end Go.Proofs.YtjifionpblpfoaaDoor
