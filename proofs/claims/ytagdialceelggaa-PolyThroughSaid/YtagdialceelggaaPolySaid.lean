/-
  What layer 2's own functions are to do, function by function, each as one statement: a degree, a trimmed list, a value, sums, products, quotients, the polynomial through some points and its values. Conditions: a field that New made, no more than 2^16 coefficients or points.
-/
import Derived.Test.YtagdialceelggaaBase
import Derived.Test.YtagdialceelggaaAppend
import Derived.Test.YtagdialceelggaaPts
namespace Go.Proofs.Ytagdialceelggaa
open Go.RowKit
open Pol (co Sm px py Apart thr trim)

/-- A quotient and a rest. -/
def Quots (a b : List Nat) (w : World) (e : Ending) (w' : World) : Prop :=
  ∃ (vq vr : Value) (q r : List Nat), e = .returned (.tuple #[vq, vr, .int .i64 0]) ∧ Sl w' vq q ∧ Sl w' vr r ∧ trim q = q ∧ trim r = r ∧ (∀ j, co (Pol.mulP q b) j ^^^ co r j = co a j) ∧ r.length < (trim b).length ∧ q.length ≤ a.length ∧ Ext w w'
/-- No quotient. -/
def NoQuots (w : World) (e : Ending) (w' : World) : Prop := ∃ vq vr : Value, e = .returned (.tuple #[vq, vr, .int .i64 1]) ∧ Sl w' vq [] ∧ Sl w' vr [] ∧ Ext w w'
/-- A list, and a number. -/
def GivesTo (l : List Nat) (n : Int) (w : World) (e : Ending) (w' : World) : Prop := ∃ v : Value, e = .returned (.tuple #[v, .int .i64 n]) ∧ Sl w' v l ∧ Ext w w'

structure PolySaid : Prop where
  degree : ∀ (l : List Nat) (A : Option Addr) (c : Nat) (w : World), Rd w A l → l.length ≤ 65536 →
    Calls Try.prog 13 #[.slice A l.length c] w (Tells (.int .i64 (((trim l).length : Int) - 1)) w)
  trims : ∀ (l : List Nat) (A : Option Addr) (c : Nat) (w : World), Rd w A l → l.length ≤ c → l.length ≤ 65536 →
    Calls Try.prog 15 #[.slice A l.length c] w (Gives (trim l) w)
  eval : ∀ (f : Nat) (l : List Nat) (x : Nat) (A : Option Addr) (c : Nat) (w : World), IsField w f → Rd w A l → x < 256 → l.length ≤ 65536 →
    Calls Try.prog 16 #[.pointer (some ⟨f, 0, none⟩), .slice A l.length c, .int .u8 (x : Int)] w (Tells (.int .u8 ((Pol.ev l x : Nat) : Int)) w)
  add : ∀ (a b : List Nat) (A B : Option Addr) (c d : Nat) (w : World), Rd w A a → Rd w B b → a.length ≤ c → b.length ≤ d → a.length ≤ 65536 → b.length ≤ 65536 →
    Calls Try.prog 18 #[.slice A a.length c, .slice B b.length d] w (Gives (trim (Pol.addP a b)) w)
  mul : ∀ (f : Nat) (a b : List Nat) (A B : Option Addr) (c d : Nat) (w : World), IsField w f → Rd w A a → Rd w B b → a.length ≤ c → b.length ≤ d → a.length ≤ 65536 → b.length ≤ 65536 →
    Calls Try.prog 20 #[.pointer (some ⟨f, 0, none⟩), .slice A a.length c, .slice B b.length d] w (Gives (trim (Pol.mulP a b)) w)
  divZero : ∀ (f : Nat) (a b : List Nat) (A B : Option Addr) (c d : Nat) (w : World), IsField w f → Rd w A a → Rd w B b → a.length ≤ c → b.length ≤ d → a.length ≤ 65536 → b.length ≤ 65536 → trim b = [] →
    Calls Try.prog 22 #[.pointer (some ⟨f, 0, none⟩), .slice A a.length c, .slice B b.length d] w (NoQuots w)
  div : ∀ (f : Nat) (a b : List Nat) (A B : Option Addr) (c d : Nat) (w : World), IsField w f → Rd w A a → Rd w B b → a.length ≤ c → b.length ≤ d → a.length ≤ 65536 → b.length ≤ 65536 → trim b ≠ [] →
    Calls Try.prog 22 #[.pointer (some ⟨f, 0, none⟩), .slice A a.length c, .slice B b.length d] w (Quots a b w)
  through : ∀ (f : Nat) (l : List (Nat × Nat)) (A : Option Addr) (c : Nat) (w : World), IsField w f → PRd w A l → l.length ≤ c → l.length ≤ 4096 → Apart l l.length →
    Calls Try.prog 23 #[.pointer (some ⟨f, 0, none⟩), .slice A l.length c] w (GivesTo (thr l l.length) 0 w)
  twice : ∀ (f : Nat) (l : List (Nat × Nat)) (A : Option Addr) (c : Nat) (w : World), IsField w f → PRd w A l → l.length ≤ c → l.length ≤ 4096 → ¬ Apart l l.length →
    Calls Try.prog 23 #[.pointer (some ⟨f, 0, none⟩), .slice A l.length c] w (GivesTo [] 1 w)

structure AtSaid : Prop where
  value : ∀ (f : Nat) (l : List (Nat × Nat)) (x : Nat) (A : Option Addr) (c : Nat) (w : World), IsField w f → PRd w A l → l.length ≤ c → l.length ≤ 4096 → x < 256 → Apart l l.length →
    Calls Try.prog 24 #[.pointer (some ⟨f, 0, none⟩), .slice A l.length c, .int .u8 (x : Int)] w (Tells (.tuple #[.int .u8 ((Pol.ev (thr l l.length) x : Nat) : Int), .int .i64 0]) w)
  twice : ∀ (f : Nat) (l : List (Nat × Nat)) (x : Nat) (A : Option Addr) (c : Nat) (w : World), IsField w f → PRd w A l → l.length ≤ c → l.length ≤ 4096 → x < 256 → ¬ Apart l l.length →
    Calls Try.prog 24 #[.pointer (some ⟨f, 0, none⟩), .slice A l.length c, .int .u8 (x : Int)] w (Tells (.tuple #[.int .u8 0, .int .i64 1]) w)
end Go.Proofs.Ytagdialceelggaa
