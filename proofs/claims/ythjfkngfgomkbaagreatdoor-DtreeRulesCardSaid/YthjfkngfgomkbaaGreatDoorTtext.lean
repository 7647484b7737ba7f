/- The texts of terms, atoms, parts, rules, relations, programs, as plain functions. -/
import Derived.Test.YthjfkngfgomkbaaGreatDoorTsp
import Derived.Test.YthjfkngfgomkbaaGreatDoorQuote
namespace Go.Proofs.YthjfkngfgomkbaaGreatDoor
open Go.RowKit

/-! ### Texts -/
def sgnT (op : Int) : UInt8 := if op = 5 then 43 else if op = 6 then 45 else 42
def showT : Nat → Tm → List UInt8
  | 0, _ => []
  | h + 1, t =>
    if t.op = 1 then t.s.data.toList
    else if t.op = 2 then Lib.itoa t.n
    else if t.op = 3 then quoteL t.s.data.toList
    else if t.op = 4 then [95]
    else match t.l with
      | [a, b] => [40] ++ showT h a ++ [32] ++ [sgnT t.op] ++ [32] ++ showT h b ++ [41]
      | _ => []
def joinL (sep : List UInt8) : List (List UInt8) → List UInt8
  | [] => []
  | [x] => x
  | x :: y :: r => x ++ sep ++ joinL sep (y :: r)
def showA (a : Am) : List UInt8 := a.rel.data.toList ++ [40] ++ joinL [44, 32] (a.l.map (showT 20)) ++ [41]
def wordL (op : Int) : List UInt8 :=
  if op = 3 then [61] else if op = 4 then [33, 61] else if op = 5 then [60] else if op = 6 then [60, 61]
  else if op = 7 then [99, 111, 117, 110, 116] else if op = 8 then [115, 117, 109] else if op = 9 then [109, 105, 110] else [109, 97, 120]
def showL (l : Lt) : List UInt8 :=
  if l.op = 1 then showA l.a
  else if l.op = 2 then [33] ++ showA l.a
  else if l.op ≤ 6 then showT 20 l.x ++ [32] ++ wordL l.op ++ [32] ++ showT 20 l.y
  else showT 20 l.x ++ [32, 61, 32] ++ wordL l.op ++ (if l.op = 7 then [] else [32] ++ showT 20 l.y) ++ [32, 58, 32, 123, 32] ++ showA l.a ++ [32, 125]
def showR (r : Ru) : List UInt8 := showA r.head ++ (if r.body = [] then [] else [32, 58, 45, 32] ++ joinL [44, 32] (r.body.map showL)) ++ [46]
def typeL (n : Int) : List UInt8 := if n = 1 then [110, 117, 109, 98, 101, 114] else [115, 121, 109, 98, 111, 108]
def colL (x : ByteArray × Int) : List UInt8 := x.1.data.toList ++ [58, 32] ++ typeL x.2
def showD (d : De) : List UInt8 :=
  [46, 100, 101, 99, 108, 32] ++ d.rel.data.toList ++ [40] ++ joinL [44, 32] ((d.names.zip d.types).map colL) ++ [41, 10] ++
  (if d.inn = true then [46, 105, 110, 112, 117, 116, 32] ++ d.rel.data.toList ++ [10] else []) ++ (if d.out = true then [46, 111, 117, 116, 112, 117, 116, 32] ++ d.rel.data.toList ++ [10] else [])
def showP (p : Pg) : List UInt8 := p.decls.flatMap showD ++ p.rules.flatMap fun r => showR r ++ [10]
end Go.Proofs.YthjfkngfgomkbaaGreatDoor
