/- What is asked of programs as trees: alike, small, right, as plain functions. -/
import Derived.Test.YtbpdfmpfnbdeoaaDoorTm
namespace Go.Proofs.YtbpdfmpfnbdeoaaDoor
open Go.RowKit

/-! ### Alike -/
mutual
def sameT : Tm → Tm → Bool
  | .mk o s n l, u => (o == u.op) && (s.toList == u.s.toList) && (n == u.n) && sameTs l u.l
def sameTs : List Tm → List Tm → Bool
  | [], [] => true
  | t :: ts, u :: us => sameT t u && sameTs ts us
  | _, _ => false
end
def sameA (a b : Am) : Bool := (a.rel.toList == b.rel.toList) && sameTs a.l b.l
def sameL (a b : Lt) : Bool := (a.op == b.op) && sameA a.a b.a && sameT a.x b.x && sameT a.y b.y
def sameR (a b : Ru) : Bool := sameA a.head b.head && allS sameL a.body b.body
def strE (s t : ByteArray) : Bool := s.toList == t.toList
def intE (s t : Int) : Bool := s == t
def sameD (a b : De) : Bool := strE a.rel b.rel && (a.inn == b.inn) && (a.out == b.out) && allS strE a.names b.names && allS intE a.types b.types
def sameP (a b : Pg) : Bool := allS sameD a.decls b.decls && allS sameR a.rules b.rules

theorem sameTs_all : ∀ l m : List Tm, sameTs l m = allS sameT l m
  | [], [] => by simp [sameTs, allS]
  | [], _ :: _ => by simp [sameTs, allS]
  | _ :: _, [] => by simp [sameTs, allS]
  | t :: l, u :: m => by simp [sameTs, allS, sameTs_all l m]
theorem sameT_eq (t u : Tm) : sameT t u = ((t.op == u.op) && (t.s.toList == u.s.toList) && (t.n == u.n) && allS sameT t.l u.l) := by
  cases t
  unfold sameT
  rw [sameTs_all]
  rfl
/-! ### Small -/
mutual
def sizeT : Tm → Int → Int
  | .mk _ s _ l, left => if 1000 < s.size then -1 else sizeTs l (left - 1)
def sizeTs : List Tm → Int → Int
  | [], left => left
  | t :: ts, left => if left < 0 then left else sizeTs ts (sizeT t left)
end
def sizeA (a : Am) (left : Int) : Int := if 1000 < a.rel.size then -1 else sizeTs a.l left
def sizeL1 (l : Lt) (left : Int) : Int := if sizeA l.a (left - 1) < 0 then sizeA l.a (left - 1) else if sizeT l.x (sizeA l.a (left - 1)) < 0 then sizeT l.x (sizeA l.a (left - 1)) else sizeT l.y (sizeT l.x (sizeA l.a (left - 1)))
def foldS {α : Type} (f : α → Int → Int) : List α → Int → Int
  | [], left => left
  | t :: ts, left => if left < 0 then left else foldS f ts (f t left)
def sizeR (r : Ru) (left : Int) : Int := foldS sizeL1 r.body (sizeA r.head (left - 1))
def longB' (l : List ByteArray) : Bool := l.any fun s => decide (1000 < s.size)
def bigD (d : De) : Bool := decide (1000 < d.rel.size) || longB' d.names
def smallP (p : Pg) : Bool := !(p.decls.any bigD) && decide (0 ≤ foldS sizeR p.rules 2000) && decide (p.decls.length ≤ 100) && decide (p.rules.length ≤ 300)
theorem sizeTs_fold : ∀ (l : List Tm) (left : Int), sizeTs l left = foldS sizeT l left
  | [], _ => by simp [sizeTs, foldS]
  | t :: ts, left => by unfold sizeTs foldS; rw [sizeTs_fold ts]
theorem sizeT_eq (t : Tm) (left : Int) : sizeT t left = if 1000 < t.s.size then -1 else foldS sizeT t.l (left - 1) := by
  cases t
  unfold sizeT
  rw [sizeTs_fold]
  rfl
theorem sizeT_mk (op : Int) (s : ByteArray) (n : Int) (l : List Tm) (left : Int) : sizeT (.mk op s n l) left = if 1000 < s.size then -1 else foldS sizeT l (left - 1) := by
  unfold sizeT
  rw [sizeTs_fold]
theorem retI {k : IntKind} {a b : Int} (h : a = b) : Ending.returned (.int k a) = .returned (.int k b) := by rw [h]
theorem foldS_neg {α : Type} (f : α → Int → Int) (l : List α) {left : Int} (h : left < 0) : foldS f l left = left := by
  cases l with
  | nil => rfl
  | cons t ts => unfold foldS; rw [if_pos h]
theorem foldS_drop {α : Type} {f : α → Int → Int} {l : List α} {k : Nat} {t : α} {left : Int} (ht : l[k]? = some t) (h : 0 ≤ left) : foldS f (l.drop k) left = foldS f (l.drop (k + 1)) (f t left) := by
  have h1 : l.drop k = t :: l.drop (k + 1) := by rw [List.drop_eq_getElem_cons (List.getElem?_eq_some_iff.1 ht).1, (List.getElem?_eq_some_iff.1 ht).2]
  rw [h1]
  show (if left < 0 then left else _) = _
  rw [if_neg (by omega)]
/-- Counting down goes no further than one below nothing. -/
theorem sizeT_lo (t : Tm) : ∀ left : Int, 0 ≤ left → -1 ≤ sizeT t left ∧ sizeT t left ≤ left := by
  induction t using Tm.rec (motive_2 := fun l => ∀ left : Int, -1 ≤ left → -1 ≤ foldS sizeT l left ∧ foldS sizeT l left ≤ left) with
  | mk op s n l ih =>
    intro left h
    rw [sizeT_eq]
    split
    · omega
    · have := ih (left - 1) (by omega)
      simp only [Tm.l_mk]
      omega
  | nil left h => exact ⟨h, Int.le_refl _⟩
  | cons t ts ih ihs left h =>
    unfold foldS
    split
    · exact ⟨h, Int.le_refl _⟩
    · have h1 := ih left (by omega)
      have h2 := ihs _ h1.1
      omega
theorem foldS_lo {α : Type} {f : α → Int → Int} (hf : ∀ x left, 0 ≤ left → -1 ≤ f x left ∧ f x left ≤ left) : ∀ (l : List α) (left : Int), -1 ≤ left → -1 ≤ foldS f l left ∧ foldS f l left ≤ left
  | [], left, h => ⟨h, Int.le_refl _⟩
  | t :: ts, left, h => by
    unfold foldS
    split
    · exact ⟨h, Int.le_refl _⟩
    · have h1 := hf t left (by omega)
      have h2 := foldS_lo hf ts _ h1.1
      omega
theorem sizeA_lo (a : Am) (left : Int) (h : -1 ≤ left) : -1 ≤ sizeA a left ∧ sizeA a left ≤ left := by
  unfold sizeA
  split
  · omega
  · rw [sizeTs_fold]; exact foldS_lo sizeT_lo _ _ h
theorem sizeL1_lo (l : Lt) (left : Int) (h : 0 ≤ left) : -1 ≤ sizeL1 l left ∧ sizeL1 l left ≤ left := by
  have h1 := sizeA_lo l.a (left - 1) (by omega)
  unfold sizeL1
  split
  · omega
  · have h2 := sizeT_lo l.x (sizeA l.a (left - 1)) (by omega)
    split
    · omega
    · have h3 := sizeT_lo l.y (sizeT l.x (sizeA l.a (left - 1))) (by omega)
      omega
theorem sizeR_lo (r : Ru) (left : Int) (h : 0 ≤ left) : -1 ≤ sizeR r left ∧ sizeR r left ≤ left := by
  have h1 := sizeA_lo r.head (left - 1) (by omega)
  have h2 := foldS_lo sizeL1_lo r.body _ h1.1
  unfold sizeR
  omega

/-! ### Right -/
def twoB (op : Int) : Bool := (op == 5) || (op == 6) || (op == 7)
def recB (t : Tm) : Bool := (t.op != 3) && (t.op != 4)
def leafB (t : Tm) : Bool :=
  if t.op = 1 then nameB t.s.data.toList && (t.n == 0) && t.l.isEmpty
  else if t.op = 2 then t.s.toList.isEmpty && t.l.isEmpty
  else if t.op = 3 then (t.n == 0) && t.l.isEmpty
  else if t.op = 4 then t.s.toList.isEmpty && (t.n == 0) && t.l.isEmpty
  else false
def rightT : Nat → Tm → Bool
  | 0, _ => false
  | h + 1, t => if twoB t.op = true then t.s.toList.isEmpty && (t.n == 0) && (match t.l with | [a, b] => recB a && rightT h a && (recB b && rightT h b) | _ => false) else leafB t
def rightA (a : Am) : Bool := nameB a.rel.data.toList && decide (1 ≤ a.l.length) && decide (a.l.length ≤ 8) && a.l.all (rightT 20)
def noT (t : Tm) : Bool := (t.op == 0) && t.s.toList.isEmpty && (t.n == 0) && t.l.isEmpty
def noA (a : Am) : Bool := a.rel.toList.isEmpty && a.l.isEmpty
def rightL (l : Lt) : Bool :=
  if l.op = 1 ∨ l.op = 2 then rightA l.a && noT l.x && noT l.y
  else if 3 ≤ l.op ∧ l.op ≤ 6 then noA l.a && rightT 20 l.x && rightT 20 l.y && (l.x.op != 4) && (l.y.op != 4)
  else if l.op = 7 then rightA l.a && rightT 20 l.x && ((l.x.op == 1) || (l.x.op == 2)) && noT l.y
  else if 8 ≤ l.op ∧ l.op ≤ 10 then rightA l.a && rightT 20 l.x && ((l.x.op == 1) || (l.x.op == 2)) && rightT 20 l.y && (l.y.op == 1)
  else false
def headT (fact : Bool) (t : Tm) : Bool := !((t.op == 4) || twoB t.op || ((t.op == 1) && fact))
def rightR (r : Ru) : Bool := rightA r.head && decide (r.body.length ≤ 20) && r.head.l.all (headT r.body.isEmpty) && r.body.all rightL
def rightTy (n : Int) : Bool := (n == 1) || (n == 2)
def rightD (d : De) : Bool := nameB d.rel.data.toList && decide (1 ≤ d.names.length) && decide (d.names.length ≤ 8) && decide (d.types.length = d.names.length) && d.names.all (fun s => nameB s.data.toList) && d.types.all rightTy
def rightP (p : Pg) : Bool := decide (p.decls.length ≤ 60) && decide (p.rules.length ≤ 200) && p.decls.all rightD && p.rules.all rightR

/-- As the program goes: every node, with its level. -/
def shapeB (t : Tm) : Bool := if twoB t.op = true then t.s.toList.isEmpty && (t.n == 0) && (match t.l with | [a, b] => recB a && recB b | _ => false) else leafB t
mutual
def okT : Nat → Tm → Bool
  | lv, .mk o s n l => decide (lv ≤ 20) && shapeB (.mk o s n l) && okTs (lv + 1) l
def okTs : Nat → List Tm → Bool
  | _, [] => true
  | lv, t :: ts => okT lv t && okTs lv ts
end
theorem okT_eq (lv : Nat) (t : Tm) : okT lv t = (decide (lv ≤ 20) && shapeB t && okTs (lv + 1) t.l) := by cases t; unfold okT; rfl
theorem okTs_all (lv : Nat) : ∀ l : List Tm, okTs lv l = l.all (okT lv)
  | [] => by simp [okTs]
  | t :: ts => by unfold okTs; rw [okTs_all lv ts, List.all_cons]
theorem leaf_nil {t : Tm} (h : leafB t = true) : t.l = [] := by
  unfold leafB at h
  split at h
  · simp at h; exact h.2
  · split at h
    · simp at h; exact h.2
    · split at h
      · simp at h; exact h.2
      · split at h
        · simp at h; exact h.2
        · cases h
theorem ok_right : ∀ (h : Nat) (t : Tm), h ≤ 20 → okT (21 - h) t = rightT h t
  | 0, t, _ => by rw [okT_eq]; unfold rightT; simp
  | h + 1, t, hh => by
    have ih : ∀ u, okT (21 - h) u = rightT h u := fun u => ok_right h u (by omega)
    rw [okT_eq, show 21 - (h + 1) + 1 = 21 - h by omega]
    have hd : decide (21 - (h + 1) ≤ 20) = true := by simp
    rw [hd, Bool.true_and]
    unfold rightT shapeB
    by_cases h2 : twoB t.op = true
    · rw [if_pos h2, if_pos h2]
      match hl : t.l with
      | [] => simp
      | [a] => simp
      | [a, b] =>
        simp only [okTs, ih, Bool.and_true]
        cases t.s.toList.isEmpty <;> cases (t.n == 0) <;> cases recB a <;> cases recB b <;> cases rightT h a <;> cases rightT h b <;> rfl
      | a :: b :: c :: r => simp
    · rw [if_neg h2, if_neg h2]
      cases hf : leafB t with
      | false => rfl
      | true => rw [leaf_nil hf]; rfl

end Go.Proofs.YtbpdfmpfnbdeoaaDoor
