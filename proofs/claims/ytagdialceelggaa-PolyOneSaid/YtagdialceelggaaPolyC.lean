/-
  What layer 2's own functions do, all together: what the laws ask of them. Conditions: a field that New made, no more than 2^16 coefficients, 2^12 points.
-/
import Derived.Test.YtagdialceelggaaPThr
import Derived.Test.YtagdialceelggaaPDiv
namespace Go.Proofs.Ytagdialceelggaa
open Go.RowKit
open Pol (co Sm px py Apart thr trim)

theorem polySaid : PolySaid where
  degree := pdegree
  trims := ptrim
  eval := peval
  add := fun a b A B c d w ha hb _ _ hla hlb => padd a b A B c d w ha hb hla hlb
  mul := pmul
  divZero := fun f a b A B c d w _ _ hb _ hcb _ hlb h0 => pdiv_zero f a b A B c d w hb hcb hlb h0
  div := pdiv_some
  through := fun f l A c w hf ha _ hl hd => (pthrough f l A c w hf ha hl).mono fun _ _ h => h.elim (fun h => h.2) (fun h => absurd hd h.1)
  twice := fun f l A c w hf ha _ hl hd => (pthrough f l A c w hf ha hl).mono fun _ _ h => h.elim (fun h => absurd h.1 hd) (fun h => h.2)
theorem atSaid : AtSaid where
  value := fun f l x A c w hf ha _ hl hx hd => pat_of f l x A c w hf ha hl hx hd
  twice := fun f l x A c w hf ha _ hl _ hd => pat_twice f l x A c w hf ha hl hd
end Go.Proofs.Ytagdialceelggaa
