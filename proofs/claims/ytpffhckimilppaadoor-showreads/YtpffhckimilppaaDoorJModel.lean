/-
  What json.Parse answers, as a plain function of the bytes: the tree, or the first fault and its place; no program in it.
-/
import Derived.Test.YtpffhckimilppaaDoorJScanA
import Derived.Test.YtpffhckimilppaaDoorJText
import Derived.Lib.DecodeN
import Derived.Lib.RuneBytes
namespace Go.Proofs.YtpffhckimilppaaDoor.Js
open Go.RowKit

/-- A reading that goes on at a place, or its fault. -/
inductive Res (α : Type) where
  | ok (x : α) (a : Nat)
  | bad (a c : Nat)
def Res.andThen {α β : Type} (r : Res α) (f : α → Nat → Res β) : Res β :=
  match r with
  | .ok x a => f x a
  | .bad a c => .bad a c

def peekM (B : List UInt8) (a : Nat) : Res Nat := if a < B.length then .ok (byteAt B a) a else .bad a 21
def aheadM (B : List UInt8) (a : Nat) : Res Nat := peekM B (skip B a)
def wantM (B : List UInt8) (c a : Nat) : Res Unit := if a < B.length then (if byteAt B a = c then .ok () (a + 1) else .bad a 22) else .bad a 21
def wordM (B : List UInt8) : List UInt8 → Nat → Res Unit
  | [], a => .ok () a
  | c :: cs, a => (wantM B c.toNat a).andThen fun _ a' => wordM B cs a'

def numeralB (c : Nat) : Bool := digN c || c == 45 || c == 43 || c == 46 || c == 101 || c == 69
def numEnd (B : List UInt8) (a : Nat) : Nat := run numeralB B a
def numTxt (B : List UInt8) (a : Nat) : List UInt8 := (B.drop a).take (numEnd B a - a)
def numberM (B : List UInt8) (a : Nat) : Res Int := if parE (numTxt B a) = 0 then .ok (parV (numTxt B a)) (numEnd B a) else .bad a 25

def sixteenM (c : Nat) : Int := if digN c = true then (c : Int) - 48 else if 97 ≤ c ∧ c ≤ 102 then (c : Int) - 87 else if 65 ≤ c ∧ c ≤ 70 then (c : Int) - 55 else -1
def hexM (B : List UInt8) (f : Nat) : Nat → Nat → Nat → Res Nat
  | 0, l, a => .ok l a
  | k + 1, l, a => if a < B.length then (if sixteenM (byteAt B a) < 0 then .bad f 24 else hexM B f k (16 * l + (sixteenM (byteAt B a)).toNat) (a + 1)) else .bad a 21
def escapedB (B : List UInt8) (a : Nat) : Bool := decide (a + 1 < B.length) && byteAt B a == 92 && byteAt B (a + 1) == 117
def codedM (B : List UInt8) (f a : Nat) : Res Nat :=
  (hexM B f 4 0 a).andThen fun l a1 =>
    if l < 55296 ∨ 57344 ≤ l then .ok l a1
    else if 56320 ≤ l ∨ escapedB B a1 = false then .bad f 24
    else (hexM B f 4 0 (a1 + 2)).andThen fun s a2 =>
      if s < 56320 ∨ 57344 ≤ s then .bad f 24 else .ok (65536 + (l - 55296) * 1024 + (s - 56320)) a2
/-- The backslash stands at a. -/
def escapeM (B : List UInt8) (a : Nat) : Res Nat :=
  (peekM B (a + 1)).andThen fun c _ =>
    if c = 34 ∨ c = 92 ∨ c = 47 then .ok c (a + 2)
    else if c = 98 then .ok 8 (a + 2)
    else if c = 102 then .ok 12 (a + 2)
    else if c = 110 then .ok 10 (a + 2)
    else if c = 114 then .ok 13 (a + 2)
    else if c = 116 then .ok 9 (a + 2)
    else if c = 117 then codedM B a (a + 2)
    else .bad a 24
def decAt (B : List UInt8) (a : Nat) : Nat × Nat := Lib.decodeN (B.length - a) (byteAt B a) (byteAt B (a + 1)) (byteAt B (a + 2)) (byteAt B (a + 3))
def letterM (B : List UInt8) (a : Nat) : Res Nat :=
  (peekM B a).andThen fun c _ =>
    if c < 32 then .bad a 22
    else if c = 92 then escapeM B a
    else if (decAt B a).1 = 65533 ∧ (decAt B a).2 = 1 then .bad a 23
    else .ok (decAt B a).1 (a + (decAt B a).2)
def quotedL (B : List UInt8) : Nat → Nat → List UInt8 → Res (List UInt8)
  | 0, a, _ => .bad a 0
  | k + 1, a, s => (peekM B a).andThen fun c _ =>
    if c = 34 then .ok s (a + 1) else (letterM B a).andThen fun r a' => quotedL B k a' (s ++ Lib.encodeRune r)
/-- The quote stands at a. -/
def quotedM (B : List UInt8) (a : Nat) : Res (List UInt8) := quotedL B (B.length + 1) (a + 1) []

/-- A value of a tree. -/
structure V where
  kind : Nat := 0
  truth : Bool := false
  num : Int := 0
  text : List UInt8 := []
  names : List (List UInt8) := []
  kids : List Nat := []
/-- Kids, commas between, from the bracket at a on. -/
def eachL {σ : Type} (B : List UInt8) (close : Nat) (kid : σ → Nat → Res σ) : Nat → σ → Nat → Res σ
  | 0, _, a => .bad a 0
  | k + 1, s, a => (kid s a).andThen fun s' a' => (aheadM B a').andThen fun c p =>
    if c = close then .ok s' (p + 1) else (wantM B 44 p).andThen fun _ q => eachL B close kid k s' q
def eachM {σ : Type} (B : List UInt8) (close : Nat) (kid : σ → Nat → Res σ) (s : σ) (a : Nat) : Res σ :=
  (aheadM B (a + 1)).andThen fun c p => if c = close then .ok s (p + 1) else eachL B close kid (B.length + 1) s p
/-- A name that is new to its object. -/
def nameM (B : List UInt8) (ns : List (List UInt8)) (a : Nat) : Res (List UInt8) :=
  (aheadM B a).andThen fun c p => if c = 34 then (quotedM B p).andThen fun s q => if s ∈ ns then .bad p 28 else .ok s q else .bad p 22
abbrev Sub := List V → Nat → Res (Nat × List V)
def listK (sub : Sub) (s : List Nat × List V) (a : Nat) : Res (List Nat × List V) :=
  (sub s.2 a).andThen fun x a' => .ok (s.1 ++ [x.1], x.2) a'
def objK (B : List UInt8) (sub : Sub) (s : List (List UInt8) × List Nat × List V) (a : Nat) : Res (List (List UInt8) × List Nat × List V) :=
  (nameM B s.1 a).andThen fun n p => (wantM B 58 (skip B p)).andThen fun _ q => (sub s.2.2 q).andThen fun x a' => .ok (s.1 ++ [n], s.2.1 ++ [x.1], x.2) a'
def listM (B : List UInt8) (sub : Option Sub) (T : List V) (a : Nat) : Res (V × List V) :=
  match sub with
  | none => .bad a 26
  | some f => (eachM B 93 (listK f) ([], T) a).andThen fun s a' => .ok ({ kind := 5, kids := s.1 }, s.2) a'
def objectM (B : List UInt8) (sub : Option Sub) (T : List V) (a : Nat) : Res (V × List V) :=
  match sub with
  | none => .bad a 26
  | some f => (eachM B 125 (objK B f) ([], [], T) a).andThen fun s a' => .ok ({ kind := 6, names := s.1, kids := s.2.1 }, s.2.2) a'
def nullW : List UInt8 := [110, 117, 108, 108]
def trueW : List UInt8 := [116, 114, 117, 101]
def falseW : List UInt8 := [102, 97, 108, 115, 101]
/-- The value that begins at a with the byte c. -/
def begunM (B : List UInt8) (sub : Option Sub) (c : Nat) (T : List V) (a : Nat) : Res (V × List V) :=
  if c = 110 then (wordM B nullW a).andThen fun _ a' => .ok ({ kind := 1 }, T) a'
  else if c = 116 then (wordM B trueW a).andThen fun _ a' => .ok ({ kind := 2, truth := true }, T) a'
  else if c = 102 then (wordM B falseW a).andThen fun _ a' => .ok ({ kind := 2 }, T) a'
  else if c = 34 then (quotedM B a).andThen fun s a' => .ok ({ kind := 4, text := s }, T) a'
  else if c = 45 ∨ digN c = true then (numberM B a).andThen fun n a' => .ok ({ kind := 3, num := n }, T) a'
  else if c = 91 then listM B sub T a
  else if c = 123 then objectM B sub T a
  else .bad a 22
def valueS (B : List UInt8) (sub : Option Sub) : Sub := fun T a =>
  (aheadM B a).andThen fun c p => (begunM B sub c T p).andThen fun x a' =>
    if x.2.length = 8192 then .bad p 27 else .ok (x.2.length, x.2 ++ [x.1]) a'
/-- A value, with so many brackets still to be opened. -/
def valueM (B : List UInt8) : Nat → Sub
  | 0 => valueS B none
  | d + 1 => valueS B (some (valueM B d))
/-- The whole. -/
def readM (B : List UInt8) : Res (List V) :=
  (valueM B 16 [] 0).andThen fun x a => if skip B a < B.length then .bad (skip B a) 22 else .ok x.2 0
end Go.Proofs.YtpffhckimilppaaDoor.Js