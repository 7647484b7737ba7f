/- Appends of whole lists, nil or not. Terms, atoms, parts, rules, relations, programs as plain data, and how they lie in memory. A program, a rule, a number among the arguments, opened. What is asked of programs as trees: alike, small, right, as plain functions. How atoms, parts, rules, relations lie in memory, cell by cell; what a walk reads of them; what a call keeps. -/
import Derived.WalkKit
import Derived.Below
import Derived.OwnWalk
import Derived.Deep.AppendLies
import Derived.Laws.OwnMore
import Derived.Test.YtfcfehflocglpaaDoorKAny
import Derived.Lib.Hide
import Derived.Deep.Slices
import Derived.Deep.Strs
import Derived.ChangeArms
import Derived.ChangeSame
namespace Go.Proofs.YtfcfehflocglpaaDoor
open Go.RowKit

/-- What is appended, cell by cell. -/
def Spread (w : World) (z : Nat) (v : Value) (m : Nat) (news : List Value) : Prop :=
  (v = .slice none 0 0 ∧ m = 0 ∧ news = []) ∨ ∃ (ad : Addr) (c : Nat), v = .slice (some ad) m c ∧ news.length = m * z ∧ (∀ j u, news[j]? = some u → w.cell? (ad.add j) = some u) ∧ ∀ u ∈ news, u.oneCell' = true
theorem Spread.len {w : World} {z : Nat} {v : Value} {m : Nat} {news : List Value} (h : Spread w z v m news) : news.length = m * z := by
  rcases h with ⟨_, rfl, rfl⟩ | ⟨_, _, _, h, _⟩
  · simp
  · exact h
theorem Spread.cells {w w' : World} {z : Nat} {v : Value} {m : Nat} {news : List Value} (h : Spread w z v m news) (hk : ∀ p c, w.cell? p = some c → w'.cell? p = some c) : Spread w' z v m news := by
  rcases h with h | ⟨ad, c, h1, h2, h3, h4⟩
  · exact .inl h
  · exact .inr ⟨ad, c, h1, h2, fun j u hu => hk _ _ (h3 j u hu), h4⟩
/-- What owns some row and no other turns. -/
theorem Spread.own {w : World} {base : Nat} {e : TypeId} {z : Nat} {v : Value} {n : Nat} {xs : List Value} (h : w.ownsRow base e z v n xs) (h1 : ∀ u ∈ xs, u.oneCell' = true) : Spread w z v n xs := by
  rcases h.2 with ⟨rfl, rfl⟩ | ⟨g, cap, cur, hv, hb, hg, _⟩
  · exact .inl ⟨rfl, rfl, List.eq_nil_of_length_eq_zero (by rw [h.1]; simp)⟩
  · refine .inr ⟨⟨g, 0, none⟩, cap, hv, h.1, fun j u hu => ?_, h1⟩
    exact h.cells (g := g) (by rw [hv]; rfl) j u hu
theorem own_below {w w' : World} {base : Nat} {e : TypeId} {z : Nat} {v : Value} {n : Nat} {xs : List Value} (h : w.ownsRow base e z v n xs) (hb : Below w.heap.size w w') : w'.ownsRow base e z v n xs :=
  h.kept (row := none) ⟨hb.os, hb.tape, hb.output, hb.size, fun i hi _ => hb.block i hi⟩ (by cases hv : v.ownBlock with | none => exact .inl rfl | some g => exact .inr (by simp))

section
variable {P : Program} (w : World)
theorem run_append_any (base : Nat) (t ty e : TypeId) (i : TypeInfo) (z : Value) (size bytes : Nat) (ht : P.underlying t = some (.slice e)) (hi : P.info? e = some i) (hz : i.zero = some z)
    (hsize : i.size = size) (hby : i.bytes = bytes) (hzs : z.cells.size = size) (hsz : 0 < size)
    (v : Value) (n : Nat) (xs : List Value) (hown : w.ownsRow base e size v n xs) (u : Value) (m : Nat) (news : List Value) (hu : Spread w size u m news)
    (h63 : n + m ≤ maxLen) (hbytes : (n + m) * bytes ≤ 140737488355328) (hbase : base ≤ w.heap.size) :
    ∃ v' w', (Builtin.append_ #[t, t] ty #[v, u]).run P w = .ok v' w' ∧ w'.ownsRow base e size v' (n + m) (xs ++ news) ∧ w.grownBy w' v.ownBlock ∧ (v'.ownBlock = v.ownBlock ∨ v'.ownBlock = some w.heap.size) := by
  rcases hu with ⟨rfl, rfl, rfl⟩ | ⟨ad, c, rfl, h2, h3, h4⟩
  · refine ⟨v, w, run_append_owned_none (P := P) w base t ty e i size ht hi v n xs hown, by simpa using hown, ⟨rfl, rfl, rfl, Nat.le_refl _, fun _ _ _ => rfl⟩, .inl rfl⟩
  · obtain ⟨v', w', hr, k1, k2, _, k3⟩ := run_append_own_at (P := P) w base t ty e i z size bytes ht hi hz hsize hby hzs hsz v n xs hown ad m c news h2 h3 h4 h63 hbytes hbase
    exact ⟨v', w', hr, k1, k2, k3⟩
theorem wp_append_any {o : Oper} {a : Act} {K : Act → World → Prop} {Q : Exit → Act → World → Prop} (s x : Operand) (t : TypeId)
    (ho : o.op = .call { callee := .builtin .append, args := #[s, x], argTypes := #[t, t] })
    (base : Nat) (e : TypeId) (i : TypeInfo) (z : Value) (size bytes : Nat) (ht : P.underlying t = some (.slice e)) (hi : P.info? e = some i) (hz : i.zero = some z)
    (hsize : i.size = size) (hby : i.bytes = bytes) (hzs : z.cells.size = size) (hsz : 0 < size)
    (v : Value) (n : Nat) (xs : List Value) (hs : a.eval s = v) (hown : w.ownsRow base e size v n xs) (u : Value) (m : Nat) (news : List Value) (hx : a.eval x = u) (hu : Spread w size u m news)
    (h63 : n + m ≤ maxLen) (hbytes : (n + m) * bytes ≤ 140737488355328) (hbase : base ≤ w.heap.size)
    (h : ∀ v' w', w'.ownsRow base e size v' (n + m) (xs ++ news) → w.grownBy w' v.ownBlock → (v'.ownBlock = v.ownBlock ∨ v'.ownBlock = some w.heap.size) → K (a.put o.dst v') w') : o.wp P a w K Q := by
  obtain ⟨v', w', hr, h2, h3, h4⟩ := run_append_any (P := P) w base t o.type e i z size bytes ht hi hz hsize hby hzs hsz v n xs hown u m news hu h63 hbytes hbase
  unfold Oper.wp execOp
  simp only [ho, resolve, invoke, builtin, Sem.run_bind, Sem.run_pure, Result.andThen_ok, List.map_toArray, List.map_cons, List.map_nil, hs, hx, hr]
  exact h v' w' h2 h3 h4
theorem wpList_append_any {ops : Array Oper} {rest : List Oper} {o : Oper} {a : Act} {Q : Exit → Act → World → Prop} (hgd : o.guard = none) (s x : Operand) (t : TypeId)
    (ho : o.op = .call { callee := .builtin .append, args := #[s, x], argTypes := #[t, t] })
    (base : Nat) (e : TypeId) (i : TypeInfo) (z : Value) (size bytes : Nat) (ht : P.underlying t = some (.slice e)) (hi : P.info? e = some i) (hz : i.zero = some z)
    (hsize : i.size = size) (hby : i.bytes = bytes) (hzs : z.cells.size = size) (hsz : 0 < size)
    (v : Value) (n : Nat) (xs : List Value) (hs : a.eval s = v) (hown : w.ownsRow base e size v n xs) (u : Value) (m : Nat) (news : List Value) (hx : a.eval x = u) (hu : Spread w size u m news)
    (h63 : n + m ≤ maxLen) (hbytes : (n + m) * bytes ≤ 140737488355328) (hbase : base ≤ w.heap.size)
    (h : ∀ v' w', w'.ownsRow base e size v' (n + m) (xs ++ news) → w.grownBy w' v.ownBlock → (v'.ownBlock = v.ownBlock ∨ v'.ownBlock = some w.heap.size) → wpList P ops Q rest (a.put o.dst v') w') : wpList P ops Q (o :: rest) a w :=
  wpList_plain hgd fun _ hK => wp_append_any w s x t ho base e i z size bytes ht hi hz hsize hby hzs hsz v n xs hs hown u m news hx hu h63 hbytes hbase fun v' w' h2 h3 h4 => hK _ _ (h v' w' h2 h3 h4)
theorem step_append_any {ops : Array Oper} {o : Oper} {a : Act} {K : Act → World → Prop} {Q : Exit → Act → World → Prop} {E : Prop} (hgd : o.guard = none) (s x : Operand) (t : TypeId)
    (ho : o.op = .call { callee := .builtin .append, args := #[s, x], argTypes := #[t, t] })
    (base : Nat) (e : TypeId) (i : TypeInfo) (z : Value) (size bytes : Nat) (ht : P.underlying t = some (.slice e)) (hi : P.info? e = some i) (hz : i.zero = some z)
    (hsize : i.size = size) (hby : i.bytes = bytes) (hzs : z.cells.size = size) (hsz : 0 < size)
    (v : Value) (n : Nat) (xs : List Value) (hs : a.eval s = v) (hown : w.ownsRow base e size v n xs) (u : Value) (m : Nat) (news : List Value) (hx : a.eval x = u) (hu : Spread w size u m news)
    (h63 : n + m ≤ maxLen) (hbytes : (n + m) * bytes ≤ 140737488355328) (hbase : base ≤ w.heap.size)
    (h : ∀ v' w', w'.ownsRow base e size v' (n + m) (xs ++ news) → w.grownBy w' v.ownBlock → (v'.ownBlock = v.ownBlock ∨ v'.ownBlock = some w.heap.size) → K (a.put o.dst v') w') :
    if Region.wanted o (yielded ops a.tmps) = true then Oper.wp P o a w K Q else E := by
  have hw : Region.wanted o (yielded ops a.tmps) = true := by simp [Region.wanted, hgd]
  rw [if_pos hw]
  exact wp_append_any w s x t ho base e i z size bytes ht hi hz hsize hby hzs hsz v n xs hs hown u m news hx hu h63 hbytes hbase h
end


theorem wp_make_any {P : Program} (w : World) {o : Oper} {a : Act} {K : Act → World → Prop} {Q : Exit → Act → World → Prop} (l c : Operand) (t : TypeId) (hop : o.op = Op.makeSlice t l c)
    (base : Nat) (e : TypeId) (i : TypeInfo) (z : Value) (size : Nat) (h1 : P.underlying t = some (.slice e)) (h2 : P.info? e = some i) (h3 : i.zero = some z) (h4 : i.size = size)
    (kl kc : IntKind) (n : Nat) (hl : a.eval l = .int kl 0) (hc : a.eval c = .int kc (n : Int)) (b2 : i.bytes * n ≤ 281474976710656) (b3 : n ≤ maxLen) (b4 : base ≤ w.heap.size)
    (hK : ∀ w', w'.ownsRow base e size (.slice (some ⟨w.heap.size, 0, none⟩) 0 n) 0 [] → w.grownBy w' none → K (a.put o.dst (.slice (some ⟨w.heap.size, 0, none⟩) 0 n)) w') : o.wp P a w K Q := by
  obtain ⟨w', hrun, r1, r2⟩ := run_make_own (P := P) w base t e i z size h1 h2 h3 h4 kl kc n b2 b3 b4
  unfold Oper.wp
  simp [execOp, hop, hl, hc, hrun, Result.andThen]
  exact hK w' r1 r2
end Go.Proofs.YtfcfehflocglpaaDoor
namespace Go.Proofs.YtfcfehflocglpaaDoor
open Go.RowKit

inductive Tm where
  | mk (op : Int) (s : ByteArray) (n : Int) (l : List Tm)
def Tm.op : Tm → Int | .mk o _ _ _ => o
def Tm.s : Tm → ByteArray | .mk _ s _ _ => s
def Tm.n : Tm → Int | .mk _ _ n _ => n
def Tm.l : Tm → List Tm | .mk _ _ _ l => l
@[simp] theorem Tm.op_mk (o : Int) (s : ByteArray) (n : Int) (l : List Tm) : (Tm.mk o s n l).op = o := rfl
@[simp] theorem Tm.s_mk (o : Int) (s : ByteArray) (n : Int) (l : List Tm) : (Tm.mk o s n l).s = s := rfl
@[simp] theorem Tm.n_mk (o : Int) (s : ByteArray) (n : Int) (l : List Tm) : (Tm.mk o s n l).n = n := rfl
@[simp] theorem Tm.l_mk (o : Int) (s : ByteArray) (n : Int) (l : List Tm) : (Tm.mk o s n l).l = l := rfl

structure Am where
  rel : ByteArray
  l : List Tm
structure Lt where
  op : Int
  a : Am
  x : Tm
  y : Tm
structure Ru where
  head : Am
  body : List Lt
  line : Int
structure De where
  rel : ByteArray
  names : List ByteArray
  types : List Int
  inn : Bool
  out : Bool
  line : Int
structure Pg where
  decls : List De
  rules : List Ru

inductive TmC (w : World) (B : Nat) : Tm → List Value → Prop where
  | nil (op : Int) (s : ByteArray) (n : Int) : I64 op → s.size ≤ maxLen → I64 n → TmC w B (.mk op s n []) [.int .i64 op, .string s, .int .i64 n, .slice none 0 0]
  | row (op : Int) (s : ByteArray) (n : Int) (l : List Tm) (a : Addr) (cap : Nat) (cs : Nat → List Value) : I64 op → s.size ≤ maxLen → I64 n → l.length ≤ cap → cap ≤ maxLen → (l ≠ [] → a.block < B) →
      (∀ i x, l[i]? = some x → TmC w B x (cs i)) → (∀ i x, l[i]? = some x → (cs i).length = 4 ∧ CellsAt w a (i * 4) (cs i)) →
      TmC w B (.mk op s n l) [.int .i64 op, .string s, .int .i64 n, .slice (some a) l.length cap]
abbrev TmS (w : World) (B : Nat) (l : List Tm) (v : Value) : Prop := SlOf w B 4 (TmC w B) l v

/-- What a term's cells are. -/
theorem TmC.parts {w : World} {B : Nat} {t : Tm} {cs : List Value} (h : TmC w B t cs) : ∃ v, cs = [.int .i64 t.op, .string t.s, .int .i64 t.n, v] ∧ I64 t.op ∧ t.s.size ≤ maxLen ∧ I64 t.n ∧ TmS w B t.l v := by
  cases h with
  | nil op s n h1 h2 h3 => exact ⟨_, rfl, h1, h2, h3, .inl ⟨rfl, rfl⟩⟩
  | row op s n l a cap cs h1 h2 h3 h4 h5 h6 h7 h8 => exact ⟨_, rfl, h1, h2, h3, .inr ⟨a, cap, rfl, h4, h5, h6, fun i x hx => ⟨cs i, (h8 i x hx).1, h7 i x hx, (h8 i x hx).2⟩⟩⟩
theorem TmC.of {w : World} {B : Nat} {op : Int} {s : ByteArray} {n : Int} {l : List Tm} {v : Value} (h1 : I64 op) (h2 : s.size ≤ maxLen) (h3 : I64 n) (h : TmS w B l v) : TmC w B (.mk op s n l) [.int .i64 op, .string s, .int .i64 n, v] := by
  rcases h with ⟨rfl, rfl⟩ | ⟨a, cap, rfl, h4, h5, h6, h7⟩
  · exact .nil op s n h1 h2 h3
  · let cs : Nat → List Value := fun i => if h : i < l.length then (h7 i l[i] (List.getElem?_eq_getElem h)).choose else []
    have hcs : ∀ i x, l[i]? = some x → (cs i).length = 4 ∧ TmC w B x (cs i) ∧ CellsAt w a (i * 4) (cs i) := by
      intro i x hx
      obtain ⟨hi, e⟩ := List.getElem?_eq_some_iff.1 hx
      subst e
      simp only [cs, dif_pos hi]
      exact (h7 i l[i] (List.getElem?_eq_getElem hi)).choose_spec
    exact .row op s n l a cap cs h1 h2 h3 h4 h5 h6 (fun i x hx => (hcs i x hx).2.1) (fun i x hx => ⟨(hcs i x hx).1, (hcs i x hx).2.2⟩)

theorem TmC.under {w w' : World} {B : Nat} {t : Tm} {cs : List Value} (h : TmC w B t cs) (hb : Below B w w') : TmC w' B t cs := by
  induction h with
  | nil op s n h1 h2 h3 => exact .nil op s n h1 h2 h3
  | row op s n l a cap cs h1 h2 h3 h4 h5 h6 _ h8 ih => exact .row op s n l a cap cs h1 h2 h3 h4 h5 h6 ih fun i x hx => ⟨(h8 i x hx).1, (h8 i x hx).2.below (h6 (by rintro rfl; simp at hx)) hb⟩
theorem TmC.more {w : World} {B B' : Nat} {t : Tm} {cs : List Value} (h : TmC w B t cs) (hB : B ≤ B') : TmC w B' t cs := by
  induction h with
  | nil op s n h1 h2 h3 => exact .nil op s n h1 h2 h3
  | row op s n l a cap cs h1 h2 h3 h4 h5 h6 _ h8 ih => exact .row op s n l a cap cs h1 h2 h3 h4 h5 (fun h => Nat.lt_of_lt_of_le (h6 h) hB) ih h8
theorem TmS.below {w w' : World} {B : Nat} {l : List Tm} {v : Value} (h : TmS w B l v) (hb : Below B w w') : TmS w' B l v := SlOf.below h hb fun _ _ _ h => TmC.under h hb
theorem TmS.more {w : World} {B B' : Nat} {l : List Tm} {v : Value} (h : TmS w B l v) (hB : B ≤ B') : TmS w B' l v := SlOf.more h hB fun _ _ _ h => h.more hB

/-- An atom's cells, a part's, a rule's, a relation's, a program's. -/
def AmC (w : World) (B : Nat) (a : Am) (cs : List Value) : Prop := ∃ v, cs = [.string a.rel, v] ∧ a.rel.size ≤ maxLen ∧ TmS w B a.l v
def LtC (w : World) (B : Nat) (t : Lt) (cs : List Value) : Prop := ∃ ca cx cy, cs = .int .i64 t.op :: (ca ++ cx ++ cy) ∧ I64 t.op ∧ AmC w B t.a ca ∧ TmC w B t.x cx ∧ TmC w B t.y cy
def RuC (w : World) (B : Nat) (r : Ru) (cs : List Value) : Prop := ∃ ca v, cs = ca ++ [v, .int .i64 r.line] ∧ I64 r.line ∧ AmC w B r.head ca ∧ SlOf w B 11 (LtC w B) r.body v
def DeC (w : World) (B : Nat) (d : De) (cs : List Value) : Prop := ∃ v u, cs = [.string d.rel, v, u, .bool d.inn, .bool d.out, .int .i64 d.line] ∧ d.rel.size ≤ maxLen ∧ I64 d.line ∧ SlOf w B 1 StrC d.names v ∧ SlOf w B 1 IntC d.types u
def PgC (w : World) (B : Nat) (p : Pg) (cs : List Value) : Prop := ∃ v u, cs = [v, u] ∧ SlOf w B 6 (DeC w B) p.decls v ∧ SlOf w B 4 (RuC w B) p.rules u

theorem AmC.below {w w' : World} {B : Nat} {t : Am} {cs : List Value} (h : AmC w B t cs) (hb : Below B w w') : AmC w' B t cs := by
  obtain ⟨v, h1, h2, h3⟩ := h
  exact ⟨v, h1, h2, TmS.below h3 hb⟩
theorem AmC.more {w : World} {B B' : Nat} {t : Am} {cs : List Value} (h : AmC w B t cs) (hB : B ≤ B') : AmC w B' t cs := by
  obtain ⟨v, h1, h2, h3⟩ := h
  exact ⟨v, h1, h2, TmS.more h3 hB⟩
theorem LtC.below {w w' : World} {B : Nat} {t : Lt} {cs : List Value} (h : LtC w B t cs) (hb : Below B w w') : LtC w' B t cs := by
  obtain ⟨ca, cx, cy, h1, h2, h3, h4, h5⟩ := h
  exact ⟨ca, cx, cy, h1, h2, h3.below hb, h4.under hb, h5.under hb⟩
theorem LtC.more {w : World} {B B' : Nat} {t : Lt} {cs : List Value} (h : LtC w B t cs) (hB : B ≤ B') : LtC w B' t cs := by
  obtain ⟨ca, cx, cy, h1, h2, h3, h4, h5⟩ := h
  exact ⟨ca, cx, cy, h1, h2, h3.more hB, h4.more hB, h5.more hB⟩
theorem RuC.below {w w' : World} {B : Nat} {t : Ru} {cs : List Value} (h : RuC w B t cs) (hb : Below B w w') : RuC w' B t cs := by
  obtain ⟨ca, v, h1, h2, h3, h4⟩ := h
  exact ⟨ca, v, h1, h2, h3.below hb, SlOf.below h4 hb fun _ _ _ h => h.below hb⟩
theorem RuC.more {w : World} {B B' : Nat} {t : Ru} {cs : List Value} (h : RuC w B t cs) (hB : B ≤ B') : RuC w B' t cs := by
  obtain ⟨ca, v, h1, h2, h3, h4⟩ := h
  exact ⟨ca, v, h1, h2, h3.more hB, SlOf.more h4 hB fun _ _ _ h => h.more hB⟩
theorem DeC.below {w w' : World} {B : Nat} {t : De} {cs : List Value} (h : DeC w B t cs) (hb : Below B w w') : DeC w' B t cs := by
  obtain ⟨v, u, h1, h2, h3, h4, h5⟩ := h
  exact ⟨v, u, h1, h2, h3, SlOf.below h4 hb fun _ _ _ h => h, SlOf.below h5 hb fun _ _ _ h => h⟩
theorem DeC.more {w : World} {B B' : Nat} {t : De} {cs : List Value} (h : DeC w B t cs) (hB : B ≤ B') : DeC w B' t cs := by
  obtain ⟨v, u, h1, h2, h3, h4, h5⟩ := h
  exact ⟨v, u, h1, h2, h3, SlOf.more h4 hB fun _ _ _ h => h, SlOf.more h5 hB fun _ _ _ h => h⟩
theorem PgC.below {w w' : World} {B : Nat} {t : Pg} {cs : List Value} (h : PgC w B t cs) (hb : Below B w w') : PgC w' B t cs := by
  obtain ⟨v, u, h1, h2, h3⟩ := h
  exact ⟨v, u, h1, SlOf.below h2 hb fun _ _ _ h => h.below hb, SlOf.below h3 hb fun _ _ _ h => h.below hb⟩
theorem PgC.more {w : World} {B B' : Nat} {t : Pg} {cs : List Value} (h : PgC w B t cs) (hB : B ≤ B') : PgC w B' t cs := by
  obtain ⟨v, u, h1, h2, h3⟩ := h
  exact ⟨v, u, h1, SlOf.more h2 hB fun _ _ _ h => h.more hB, SlOf.more h3 hB fun _ _ _ h => h.more hB⟩
theorem TmC.len {w : World} {B : Nat} {t : Tm} {cs : List Value} (h : TmC w B t cs) : cs.length = 4 := by obtain ⟨v, rfl, _⟩ := h.parts; rfl
theorem AmC.len {w : World} {B : Nat} {t : Am} {cs : List Value} (h : AmC w B t cs) : cs.length = 2 := by obtain ⟨v, rfl, _⟩ := h; rfl
theorem LtC.len {w : World} {B : Nat} {t : Lt} {cs : List Value} (h : LtC w B t cs) : cs.length = 11 := by
  obtain ⟨ca, cx, cy, rfl, _, h1, h2, h3⟩ := h
  simp [h1.len, h2.len, h3.len]
theorem RuC.len {w : World} {B : Nat} {t : Ru} {cs : List Value} (h : RuC w B t cs) : cs.length = 4 := by
  obtain ⟨ca, v, rfl, _, h1, _⟩ := h
  simp [h1.len]
theorem DeC.len {w : World} {B : Nat} {t : De} {cs : List Value} (h : DeC w B t cs) : cs.length = 6 := by obtain ⟨v, u, rfl, _⟩ := h; rfl

theorem TmC.look {w : World} {B : Nat} {t : Tm} {cs : List Value} (h : TmC w B t cs) : ∃ o cap, cs = [.int .i64 t.op, .string t.s, .int .i64 t.n, .slice o t.l.length cap] ∧ I64 t.op ∧ t.s.size ≤ maxLen ∧ I64 t.n ∧ TmS w B t.l (.slice o t.l.length cap) := by
  obtain ⟨v, rfl, h1, h2, h3, h4⟩ := h.parts
  obtain ⟨o, cap, rfl, _⟩ := SlOf.uni h4
  exact ⟨o, cap, rfl, h1, h2, h3, h4⟩
/-- A term in a slice, as a round of a walk reads it. -/
theorem tm_at {w wr : World} {l : List Tm} {o : Option Addr} {k : Nat} {t : Tm} (S : Hid (SlIn w w.heap.size 4 (TmC w w.heap.size) l o)) (hB : Below w.heap.size w wr) (ht : l[k]? = some t) :
    ∃ a o' cap', o = some a ∧ a.block < w.heap.size ∧ Hid (TmC wr wr.heap.size t [.int .i64 t.op, .string t.s, .int .i64 t.n, .slice o' t.l.length cap']) ∧
      wr.cell? (a.add (k * 4)) = some (.int .i64 t.op) ∧ wr.cell? ⟨(a.add (k * 4)).block, (a.add (k * 4)).off + 1, none⟩ = some (.string t.s) ∧ wr.cell? ⟨(a.add (k * 4)).block, (a.add (k * 4)).off + 2, none⟩ = some (.int .i64 t.n) ∧ wr.cell? ⟨(a.add (k * 4)).block, (a.add (k * 4)).off + 3, none⟩ = some (.slice o' t.l.length cap') := by
  obtain ⟨a, cs, rfl, ha, _, h1, h2⟩ := S.out k t ht
  obtain ⟨o', cap', rfl, _⟩ := h1.look
  exact ⟨a, o', cap', rfl, ha, Lib.hid ((h1.under hB).more hB.size), (h2.below ha hB).four⟩
end Go.Proofs.YtfcfehflocglpaaDoor
namespace Go.Proofs.YtfcfehflocglpaaDoor
open Go.RowKit Go.ChangeShapes Go.WideShapes Go.Deep

theorem parts2 {H : Type} {enc : TypeId × Value → H} {P : Program} {w : World} {base : Nat} {spare : Nat → Bool} {held : Bool} {t : TypeId} {f0 f1 : Field} {fuel : Nat} {cs : List Value} {x : DataW H × List MemPlace} (ht : P.underlying t = some (.struct #[f0, f1])) (h : DataW.trod enc P w base spare held fuel t cs = some x) :
    ∃ (y0 y1 : DataW H × List MemPlace) (n : Nat), fuel = n + 1 ∧ cs.length = P.cellsOf t ∧ DataW.trod enc P w base spare held n f0.type ((cs.drop f0.offset).take (P.cellsOf f0.type)) = some y0 ∧ DataW.trod enc P w base spare held n f1.type ((cs.drop f1.offset).take (P.cellsOf f1.type)) = some y1 := by
  obtain ⟨xs, n, hn, rfl, hl, hlen, hf⟩ := DataW.trod_struct ht h
  match xs, hlen with
  | [y0, y1], _ => exact ⟨y0, y1, n, hn, hl, by simpa using hf 0 f0 rfl, by simpa using hf 1 f1 rfl⟩

theorem parts3 {H : Type} {enc : TypeId × Value → H} {P : Program} {w : World} {base : Nat} {spare : Nat → Bool} {held : Bool} {t : TypeId} {f0 f1 f2 : Field} {fuel : Nat} {cs : List Value} {x : DataW H × List MemPlace} (ht : P.underlying t = some (.struct #[f0, f1, f2])) (h : DataW.trod enc P w base spare held fuel t cs = some x) :
    ∃ (y0 y1 y2 : DataW H × List MemPlace) (n : Nat), fuel = n + 1 ∧ cs.length = P.cellsOf t ∧ DataW.trod enc P w base spare held n f0.type ((cs.drop f0.offset).take (P.cellsOf f0.type)) = some y0 ∧ DataW.trod enc P w base spare held n f1.type ((cs.drop f1.offset).take (P.cellsOf f1.type)) = some y1 ∧ DataW.trod enc P w base spare held n f2.type ((cs.drop f2.offset).take (P.cellsOf f2.type)) = some y2 := by
  obtain ⟨xs, n, hn, rfl, hl, hlen, hf⟩ := DataW.trod_struct ht h
  match xs, hlen with
  | [y0, y1, y2], _ => exact ⟨y0, y1, y2, n, hn, hl, by simpa using hf 0 f0 rfl, by simpa using hf 1 f1 rfl, by simpa using hf 2 f2 rfl⟩

theorem parts4 {H : Type} {enc : TypeId × Value → H} {P : Program} {w : World} {base : Nat} {spare : Nat → Bool} {held : Bool} {t : TypeId} {f0 f1 f2 f3 : Field} {fuel : Nat} {cs : List Value} {x : DataW H × List MemPlace} (ht : P.underlying t = some (.struct #[f0, f1, f2, f3])) (h : DataW.trod enc P w base spare held fuel t cs = some x) :
    ∃ (y0 y1 y2 y3 : DataW H × List MemPlace) (n : Nat), fuel = n + 1 ∧ cs.length = P.cellsOf t ∧ DataW.trod enc P w base spare held n f0.type ((cs.drop f0.offset).take (P.cellsOf f0.type)) = some y0 ∧ DataW.trod enc P w base spare held n f1.type ((cs.drop f1.offset).take (P.cellsOf f1.type)) = some y1 ∧ DataW.trod enc P w base spare held n f2.type ((cs.drop f2.offset).take (P.cellsOf f2.type)) = some y2 ∧ DataW.trod enc P w base spare held n f3.type ((cs.drop f3.offset).take (P.cellsOf f3.type)) = some y3 := by
  obtain ⟨xs, n, hn, rfl, hl, hlen, hf⟩ := DataW.trod_struct ht h
  match xs, hlen with
  | [y0, y1, y2, y3], _ => exact ⟨y0, y1, y2, y3, n, hn, hl, by simpa using hf 0 f0 rfl, by simpa using hf 1 f1 rfl, by simpa using hf 2 f2 rfl, by simpa using hf 3 f3 rfl⟩

theorem parts6 {H : Type} {enc : TypeId × Value → H} {P : Program} {w : World} {base : Nat} {spare : Nat → Bool} {held : Bool} {t : TypeId} {f0 f1 f2 f3 f4 f5 : Field} {fuel : Nat} {cs : List Value} {x : DataW H × List MemPlace} (ht : P.underlying t = some (.struct #[f0, f1, f2, f3, f4, f5])) (h : DataW.trod enc P w base spare held fuel t cs = some x) :
    ∃ (y0 y1 y2 y3 y4 y5 : DataW H × List MemPlace) (n : Nat), fuel = n + 1 ∧ cs.length = P.cellsOf t ∧ DataW.trod enc P w base spare held n f0.type ((cs.drop f0.offset).take (P.cellsOf f0.type)) = some y0 ∧ DataW.trod enc P w base spare held n f1.type ((cs.drop f1.offset).take (P.cellsOf f1.type)) = some y1 ∧ DataW.trod enc P w base spare held n f2.type ((cs.drop f2.offset).take (P.cellsOf f2.type)) = some y2 ∧ DataW.trod enc P w base spare held n f3.type ((cs.drop f3.offset).take (P.cellsOf f3.type)) = some y3 ∧ DataW.trod enc P w base spare held n f4.type ((cs.drop f4.offset).take (P.cellsOf f4.type)) = some y4 ∧ DataW.trod enc P w base spare held n f5.type ((cs.drop f5.offset).take (P.cellsOf f5.type)) = some y5 := by
  obtain ⟨xs, n, hn, rfl, hl, hlen, hf⟩ := DataW.trod_struct ht h
  match xs, hlen with
  | [y0, y1, y2, y3, y4, y5], _ => exact ⟨y0, y1, y2, y3, y4, y5, n, hn, hl, by simpa using hf 0 f0 rfl, by simpa using hf 1 f1 rfl, by simpa using hf 2 f2 rfl, by simpa using hf 3 f3 rfl, by simpa using hf 4 f4 rfl, by simpa using hf 5 f5 rfl⟩

section
variable {H : Type} {enc : TypeId × Value → H} {w : World}

theorem cell_block {a : Addr} {v : Value} (h : w.cell? a = some v) : a.block < w.heap.size := by
  unfold World.cell? at h
  rcases Nat.lt_or_ge a.block w.heap.size with h' | h'
  · exact h'
  · simp [Array.getElem?_eq_none h'] at h

theorem open_sl {α : Type} {R : α → List Value → Prop} {z fuel : Nat} {t e : TypeId} {v : Value} {x : DataW H × List MemPlace} (ht : Tryd.prog.underlying t = some (.slice e)) (hz : Tryd.prog.cellsOf e = z) (hp : 0 < z)
    (hE : ∀ n cs y, n < fuel → DataW.trod enc Tryd.prog w 0 (fun _ => true) true n e cs = some y → ∃ b, R b cs)
    (h : DataW.trod enc Tryd.prog w 0 (fun _ => true) true fuel t [v] = some x) : ∃ l : List α, SlOf w w.heap.size z R l v := by
  rcases DataW.trod_slice ht h with ⟨hcs, _⟩ | ⟨a, len, cap, elems, rest, n, rfl, hcs, _, _, hl, hm, hlen, hel, _, _⟩
  · exact ⟨[], .inl ⟨(List.cons.inj hcs).1, rfl⟩⟩
  · rw [hz] at hel
    have each : ∀ i, i < len → ∃ b cs, cs.length = z ∧ R b cs ∧ CellsAt w a (i * z) cs := by
      intro i hi
      have h1 := hel i hi
      rw [List.getElem?_eq_getElem (by omega), Option.bind_eq_some_iff] at h1
      obtain ⟨cs, hc, htr⟩ := h1
      obtain ⟨b, hb⟩ := hE n cs _ (by omega) htr
      obtain ⟨_, hcl, hat⟩ := World.cells?_some hc
      refine ⟨b, cs, hcl, hb, fun j c hj => ?_⟩
      have hjz : j < z := by rw [← hcl]; exact (List.getElem?_eq_some_iff.1 hj).1
      have := hat j hjz
      rw [add_add] at this
      exact this.trans hj
    by_cases h0 : len = 0
    · subst h0
      exact ⟨[], .inr ⟨a, cap, (List.cons.inj hcs).1, hl, hm, fun h => absurd rfl h, fun i x hx => by simp at hx⟩⟩
    let f : (i : Nat) → i < len → α := fun i h => (each i h).choose
    have hf : ∀ i (h : i < len), ∃ cs, cs.length = z ∧ R (f i h) cs ∧ CellsAt w a (i * z) cs := fun i h => (each i h).choose_spec
    have hblk : a.block < w.heap.size := by
      obtain ⟨cs, hcl, _, hc⟩ := hf 0 (by omega)
      have := cell_block (hc 0 cs[0] (List.getElem?_eq_getElem (by omega)))
      rwa [addBlock] at this
    refine ⟨(List.finRange len).map fun i => f i.1 i.2, .inr ⟨a, cap, by rw [(List.cons.inj hcs).1]; simp, by simpa using hl, hm, fun _ => hblk, fun i y hy => ?_⟩⟩
    rw [List.getElem?_map, Option.map_eq_some_iff] at hy
    obtain ⟨j, hj, rfl⟩ := hy
    obtain ⟨hi, e⟩ := List.getElem?_eq_some_iff.1 hj
    simp only [List.getElem_finRange] at e
    subst e
    exact hf i (by simpa using hi)

theorem cTerm : Tryd.prog.cellsOf 43 = 4 := by kernel_rfl
theorem cAtom : Tryd.prog.cellsOf 24 = 2 := by kernel_rfl
theorem cLit : Tryd.prog.cellsOf 45 = 11 := by kernel_rfl
theorem cRule : Tryd.prog.cellsOf 27 = 4 := by kernel_rfl
theorem cDecl : Tryd.prog.cellsOf 71 = 6 := by kernel_rfl
theorem cProg : Tryd.prog.cellsOf 51 = 2 := by kernel_rfl
theorem cInt : Tryd.prog.cellsOf 3 = 1 := by kernel_rfl
theorem cInt64 : Tryd.prog.cellsOf 2 = 1 := by kernel_rfl
theorem cStr : Tryd.prog.cellsOf 9 = 1 := by kernel_rfl
theorem cBool : Tryd.prog.cellsOf 4 = 1 := by kernel_rfl
theorem cTerms : Tryd.prog.cellsOf 22 = 1 := by kernel_rfl
theorem cLits : Tryd.prog.cellsOf 25 = 1 := by kernel_rfl
theorem cRules : Tryd.prog.cellsOf 49 = 1 := by kernel_rfl
theorem cDecls : Tryd.prog.cellsOf 28 = 1 := by kernel_rfl
theorem cStrs : Tryd.prog.cellsOf 34 = 1 := by kernel_rfl
theorem cInts : Tryd.prog.cellsOf 37 = 1 := by kernel_rfl

theorem wf_i64 {n : Int} (h : (Lit.int .i64 n).wf = true) : I64 n := by
  simp only [Lit.wf, Bool.and_eq_true, decide_eq_true_eq] at h
  exact h

set_option maxRecDepth 100000 in
theorem open_term : ∀ (fuel : Nat) (cs : List Value) (x : DataW H × List MemPlace), DataW.trod enc Tryd.prog w 0 (fun _ => true) true fuel 43 cs = some x → ∃ t, TmC w w.heap.size t cs := by
  intro fuel
  induction fuel using Nat.strongRecOn with
  | _ fuel ih =>
    intro cs x h
    obtain ⟨y0, y1, y2, y3, n, rfl, hcl, h0, h1, h2, h3⟩ := parts4 Tryd.underlying43 h
    rw [cTerm] at hcl
    match cs, hcl with
    | [c0, c1, c2, c3], _ =>
      simp only [cInt, cInt64, cStr, cTerms, List.drop_zero, List.drop_succ_cons, List.take_succ_cons, List.take_zero] at h0 h1 h2 h3
      obtain ⟨k0, e0, _, w0⟩ := DataW.trod_int Tryd.underlying3 h0
      obtain ⟨s1, e1, _, z1⟩ := DataW.trod_string Tryd.underlying9 h1
      obtain ⟨k2, e2, _, w2⟩ := DataW.trod_int Tryd.underlying2 h2
      simp only [List.cons.injEq, and_true] at e0 e1 e2
      subst e0 e1 e2
      obtain ⟨l, hl⟩ := open_sl Tryd.underlying22 cTerm (by omega) (fun m cs y hm hy => ih m (by omega) cs y hy) h3
      exact ⟨.mk k0 s1 k2 l, TmC.of (wf_i64 w0) z1 (wf_i64 w2) hl⟩

set_option maxRecDepth 100000 in
theorem open_atom (fuel : Nat) (cs : List Value) (x : DataW H × List MemPlace) (h : DataW.trod enc Tryd.prog w 0 (fun _ => true) true fuel 24 cs = some x) : ∃ t, AmC w w.heap.size t cs := by
  obtain ⟨y0, y1, n, rfl, hcl, h0, h1⟩ := parts2 Tryd.underlying24 h
  rw [cAtom] at hcl
  match cs, hcl with
  | [c0, c1], _ =>
    simp only [cStr, cTerms, List.drop_zero, List.drop_succ_cons, List.take_succ_cons, List.take_zero] at h0 h1
    obtain ⟨s0, e0, _, z0⟩ := DataW.trod_string Tryd.underlying9 h0
    simp only [List.cons.injEq, and_true] at e0
    subst e0
    obtain ⟨l, hl⟩ := open_sl Tryd.underlying22 cTerm (by omega) (fun m cs y hm hy => open_term m cs y hy) h1
    exact ⟨⟨s0, l⟩, _, rfl, z0, hl⟩

set_option maxRecDepth 100000 in
theorem open_lit (fuel : Nat) (cs : List Value) (x : DataW H × List MemPlace) (h : DataW.trod enc Tryd.prog w 0 (fun _ => true) true fuel 45 cs = some x) : ∃ t, LtC w w.heap.size t cs := by
  obtain ⟨y0, y1, y2, y3, n, rfl, hcl, h0, h1, h2, h3⟩ := parts4 Tryd.underlying45 h
  rw [cLit] at hcl
  match cs, hcl with
  | [c0, c1, c2, c3, c4, c5, c6, c7, c8, c9, c10], _ =>
    simp only [cInt, cAtom, cTerm, List.drop_zero, List.drop_succ_cons, List.take_succ_cons, List.take_zero] at h0 h1 h2 h3
    obtain ⟨k0, e0, _, w0⟩ := DataW.trod_int Tryd.underlying3 h0
    simp only [List.cons.injEq, and_true] at e0
    subst e0
    obtain ⟨a, ha⟩ := open_atom _ _ _ h1
    obtain ⟨x, hx⟩ := open_term _ _ _ h2
    obtain ⟨y, hy⟩ := open_term _ _ _ h3
    exact ⟨⟨k0, a, x, y⟩, _, _, _, rfl, wf_i64 w0, ha, hx, hy⟩

set_option maxRecDepth 100000 in
theorem open_rule (fuel : Nat) (cs : List Value) (x : DataW H × List MemPlace) (h : DataW.trod enc Tryd.prog w 0 (fun _ => true) true fuel 27 cs = some x) : ∃ t, RuC w w.heap.size t cs := by
  obtain ⟨y0, y1, y2, n, rfl, hcl, h0, h1, h2⟩ := parts3 Tryd.underlying27 h
  rw [cRule] at hcl
  match cs, hcl with
  | [c0, c1, c2, c3], _ =>
    simp only [cInt, cAtom, cLits, List.drop_zero, List.drop_succ_cons, List.take_succ_cons, List.take_zero] at h0 h1 h2
    obtain ⟨k2, e2, _, w2⟩ := DataW.trod_int Tryd.underlying3 h2
    simp only [List.cons.injEq, and_true] at e2
    subst e2
    obtain ⟨a, ha⟩ := open_atom _ _ _ h0
    obtain ⟨l, hl⟩ := open_sl Tryd.underlying25 cLit (by omega) (fun m cs y hm hy => open_lit m cs y hy) h1
    exact ⟨⟨a, l, k2⟩, _, _, rfl, wf_i64 w2, ha, hl⟩

set_option maxRecDepth 100000 in
theorem open_decl (fuel : Nat) (cs : List Value) (x : DataW H × List MemPlace) (h : DataW.trod enc Tryd.prog w 0 (fun _ => true) true fuel 71 cs = some x) : ∃ t, DeC w w.heap.size t cs := by
  obtain ⟨y0, y1, y2, y3, y4, y5, n, rfl, hcl, h0, h1, h2, h3, h4, h5⟩ := parts6 Tryd.underlying71 h
  rw [cDecl] at hcl
  match cs, hcl with
  | [c0, c1, c2, c3, c4, c5], _ =>
    simp only [cInt, cStr, cStrs, cInts, cBool, List.drop_zero, List.drop_succ_cons, List.take_succ_cons, List.take_zero] at h0 h1 h2 h3 h4 h5
    obtain ⟨s0, e0, _, z0⟩ := DataW.trod_string Tryd.underlying9 h0
    obtain ⟨b3, e3, _⟩ := DataW.trod_bool Tryd.underlying4 h3
    obtain ⟨b4, e4, _⟩ := DataW.trod_bool Tryd.underlying4 h4
    obtain ⟨k5, e5, _, w5⟩ := DataW.trod_int Tryd.underlying3 h5
    simp only [List.cons.injEq, and_true] at e0 e3 e4 e5
    subst e0 e3 e4 e5
    obtain ⟨l, hl⟩ := open_sl (R := StrC) Tryd.underlying34 cStr (by omega) (fun m cs y hm hy => by obtain ⟨s, e, _, z⟩ := DataW.trod_string Tryd.underlying9 hy; exact ⟨s, e, z⟩) h1
    obtain ⟨m, hm⟩ := open_sl (R := IntC) Tryd.underlying37 cInt (by omega) (fun m cs y hm hy => by obtain ⟨s, e, _, z⟩ := DataW.trod_int Tryd.underlying3 hy; exact ⟨s, e, wf_i64 z⟩) h2
    exact ⟨⟨s0, l, m, b3, b4, k5⟩, _, _, rfl, z0, wf_i64 w5, hl, hm⟩

set_option maxRecDepth 100000 in
theorem open_prog (fuel : Nat) (cs : List Value) (x : DataW H × List MemPlace) (h : DataW.trod enc Tryd.prog w 0 (fun _ => true) true fuel 51 cs = some x) : ∃ t, PgC w w.heap.size t cs := by
  obtain ⟨y0, y1, n, rfl, hcl, h0, h1⟩ := parts2 Tryd.underlying51 h
  rw [cProg] at hcl
  match cs, hcl with
  | [c0, c1], _ =>
    simp only [cDecls, cRules, List.drop_zero, List.drop_succ_cons, List.take_succ_cons, List.take_zero] at h0 h1
    obtain ⟨l, hl⟩ := open_sl Tryd.underlying28 cDecl (by omega) (fun m cs y hm hy => open_decl m cs y hy) h0
    obtain ⟨m, hm⟩ := open_sl Tryd.underlying49 cRule (by omega) (fun m cs y hm hy => open_rule m cs y hy) h1
    exact ⟨⟨l, m⟩, _, _, rfl, hl, hm⟩
end
end Go.Proofs.YtfcfehflocglpaaDoor
namespace Go.Proofs.YtfcfehflocglpaaDoor
open Go.RowKit

/-! ### Alike -/
mutual
def sameT : Tm → Tm → Bool
  | .mk o s n l, u => (o == u.op) && (s.toList == u.s.toList) && (n == u.n) && sameTs l u.l
def sameTs : List Tm → List Tm → Bool
  | [], [] => true
  | t :: ts, u :: us => sameT t u && sameTs ts us
  | _, _ => false
end
def sameA (a b : Am) : Bool := (a.rel.toList == b.rel.toList) && sameTs a.l b.l
def sameL (a b : Lt) : Bool := (a.op == b.op) && sameA a.a b.a && sameT a.x b.x && sameT a.y b.y
def sameR (a b : Ru) : Bool := sameA a.head b.head && allS sameL a.body b.body
def strE (s t : ByteArray) : Bool := s.toList == t.toList
def intE (s t : Int) : Bool := s == t
def sameD (a b : De) : Bool := strE a.rel b.rel && (a.inn == b.inn) && (a.out == b.out) && allS strE a.names b.names && allS intE a.types b.types
def sameP (a b : Pg) : Bool := allS sameD a.decls b.decls && allS sameR a.rules b.rules

theorem sameTs_all : ∀ l m : List Tm, sameTs l m = allS sameT l m
  | [], [] => by simp [sameTs, allS]
  | [], _ :: _ => by simp [sameTs, allS]
  | _ :: _, [] => by simp [sameTs, allS]
  | t :: l, u :: m => by simp [sameTs, allS, sameTs_all l m]
theorem sameT_eq (t u : Tm) : sameT t u = ((t.op == u.op) && (t.s.toList == u.s.toList) && (t.n == u.n) && allS sameT t.l u.l) := by
  cases t
  unfold sameT
  rw [sameTs_all]
  rfl
/-! ### Small -/
mutual
def sizeT : Tm → Int → Int
  | .mk _ s _ l, left => if 1000 < s.size then -1 else sizeTs l (left - 1)
def sizeTs : List Tm → Int → Int
  | [], left => left
  | t :: ts, left => if left < 0 then left else sizeTs ts (sizeT t left)
end
def sizeA (a : Am) (left : Int) : Int := if 1000 < a.rel.size then -1 else sizeTs a.l left
def sizeL1 (l : Lt) (left : Int) : Int := if sizeA l.a (left - 1) < 0 then sizeA l.a (left - 1) else if sizeT l.x (sizeA l.a (left - 1)) < 0 then sizeT l.x (sizeA l.a (left - 1)) else sizeT l.y (sizeT l.x (sizeA l.a (left - 1)))
def foldS {α : Type} (f : α → Int → Int) : List α → Int → Int
  | [], left => left
  | t :: ts, left => if left < 0 then left else foldS f ts (f t left)
def sizeR (r : Ru) (left : Int) : Int := foldS sizeL1 r.body (sizeA r.head (left - 1))
def longB' (l : List ByteArray) : Bool := l.any fun s => decide (1000 < s.size)
def bigD (d : De) : Bool := decide (1000 < d.rel.size) || longB' d.names
def smallP (p : Pg) : Bool := !(p.decls.any bigD) && decide (0 ≤ foldS sizeR p.rules 2000) && decide (p.decls.length ≤ 100) && decide (p.rules.length ≤ 300)
theorem sizeTs_fold : ∀ (l : List Tm) (left : Int), sizeTs l left = foldS sizeT l left
  | [], _ => by simp [sizeTs, foldS]
  | t :: ts, left => by unfold sizeTs foldS; rw [sizeTs_fold ts]
theorem sizeT_eq (t : Tm) (left : Int) : sizeT t left = if 1000 < t.s.size then -1 else foldS sizeT t.l (left - 1) := by
  cases t
  unfold sizeT
  rw [sizeTs_fold]
  rfl
theorem sizeT_mk (op : Int) (s : ByteArray) (n : Int) (l : List Tm) (left : Int) : sizeT (.mk op s n l) left = if 1000 < s.size then -1 else foldS sizeT l (left - 1) := by
  unfold sizeT
  rw [sizeTs_fold]
theorem retI {k : IntKind} {a b : Int} (h : a = b) : Ending.returned (.int k a) = .returned (.int k b) := by rw [h]
theorem foldS_neg {α : Type} (f : α → Int → Int) (l : List α) {left : Int} (h : left < 0) : foldS f l left = left := by
  cases l with
  | nil => rfl
  | cons t ts => unfold foldS; rw [if_pos h]
theorem foldS_drop {α : Type} {f : α → Int → Int} {l : List α} {k : Nat} {t : α} {left : Int} (ht : l[k]? = some t) (h : 0 ≤ left) : foldS f (l.drop k) left = foldS f (l.drop (k + 1)) (f t left) := by
  have h1 : l.drop k = t :: l.drop (k + 1) := by rw [List.drop_eq_getElem_cons (List.getElem?_eq_some_iff.1 ht).1, (List.getElem?_eq_some_iff.1 ht).2]
  rw [h1]
  show (if left < 0 then left else _) = _
  rw [if_neg (by omega)]
/-- Counting down goes no further than one below nothing. -/
theorem sizeT_lo (t : Tm) : ∀ left : Int, 0 ≤ left → -1 ≤ sizeT t left ∧ sizeT t left ≤ left := by
  induction t using Tm.rec (motive_2 := fun l => ∀ left : Int, -1 ≤ left → -1 ≤ foldS sizeT l left ∧ foldS sizeT l left ≤ left) with
  | mk op s n l ih =>
    intro left h
    rw [sizeT_eq]
    split
    · omega
    · have := ih (left - 1) (by omega)
      simp only [Tm.l_mk]
      omega
  | nil left h => exact ⟨h, Int.le_refl _⟩
  | cons t ts ih ihs left h =>
    unfold foldS
    split
    · exact ⟨h, Int.le_refl _⟩
    · have h1 := ih left (by omega)
      have h2 := ihs _ h1.1
      omega
theorem foldS_lo {α : Type} {f : α → Int → Int} (hf : ∀ x left, 0 ≤ left → -1 ≤ f x left ∧ f x left ≤ left) : ∀ (l : List α) (left : Int), -1 ≤ left → -1 ≤ foldS f l left ∧ foldS f l left ≤ left
  | [], left, h => ⟨h, Int.le_refl _⟩
  | t :: ts, left, h => by
    unfold foldS
    split
    · exact ⟨h, Int.le_refl _⟩
    · have h1 := hf t left (by omega)
      have h2 := foldS_lo hf ts _ h1.1
      omega
theorem sizeA_lo (a : Am) (left : Int) (h : -1 ≤ left) : -1 ≤ sizeA a left ∧ sizeA a left ≤ left := by
  unfold sizeA
  split
  · omega
  · rw [sizeTs_fold]; exact foldS_lo sizeT_lo _ _ h
theorem sizeL1_lo (l : Lt) (left : Int) (h : 0 ≤ left) : -1 ≤ sizeL1 l left ∧ sizeL1 l left ≤ left := by
  have h1 := sizeA_lo l.a (left - 1) (by omega)
  unfold sizeL1
  split
  · omega
  · have h2 := sizeT_lo l.x (sizeA l.a (left - 1)) (by omega)
    split
    · omega
    · have h3 := sizeT_lo l.y (sizeT l.x (sizeA l.a (left - 1))) (by omega)
      omega
theorem sizeR_lo (r : Ru) (left : Int) (h : 0 ≤ left) : -1 ≤ sizeR r left ∧ sizeR r left ≤ left := by
  have h1 := sizeA_lo r.head (left - 1) (by omega)
  have h2 := foldS_lo sizeL1_lo r.body _ h1.1
  unfold sizeR
  omega

/-! ### Right -/
def twoB (op : Int) : Bool := (op == 5) || (op == 6) || (op == 7)
def recB (t : Tm) : Bool := (t.op != 3) && (t.op != 4)
def leafB (t : Tm) : Bool :=
  if t.op = 1 then nameB t.s.data.toList && (t.n == 0) && t.l.isEmpty
  else if t.op = 2 then t.s.toList.isEmpty && t.l.isEmpty
  else if t.op = 3 then (t.n == 0) && t.l.isEmpty
  else if t.op = 4 then t.s.toList.isEmpty && (t.n == 0) && t.l.isEmpty
  else false
def rightT : Nat → Tm → Bool
  | 0, _ => false
  | h + 1, t => if twoB t.op = true then t.s.toList.isEmpty && (t.n == 0) && (match t.l with | [a, b] => recB a && rightT h a && (recB b && rightT h b) | _ => false) else leafB t
def rightA (a : Am) : Bool := nameB a.rel.data.toList && decide (1 ≤ a.l.length) && decide (a.l.length ≤ 8) && a.l.all (rightT 20)
def noT (t : Tm) : Bool := (t.op == 0) && t.s.toList.isEmpty && (t.n == 0) && t.l.isEmpty
def noA (a : Am) : Bool := a.rel.toList.isEmpty && a.l.isEmpty
def rightL (l : Lt) : Bool :=
  if l.op = 1 ∨ l.op = 2 then rightA l.a && noT l.x && noT l.y
  else if 3 ≤ l.op ∧ l.op ≤ 6 then noA l.a && rightT 20 l.x && rightT 20 l.y && (l.x.op != 4) && (l.y.op != 4)
  else if l.op = 7 then rightA l.a && rightT 20 l.x && ((l.x.op == 1) || (l.x.op == 2)) && noT l.y
  else if 8 ≤ l.op ∧ l.op ≤ 10 then rightA l.a && rightT 20 l.x && ((l.x.op == 1) || (l.x.op == 2)) && rightT 20 l.y && (l.y.op == 1)
  else false
def headT (fact : Bool) (t : Tm) : Bool := !((t.op == 4) || twoB t.op || ((t.op == 1) && fact))
def rightR (r : Ru) : Bool := rightA r.head && decide (r.body.length ≤ 20) && r.head.l.all (headT r.body.isEmpty) && r.body.all rightL
def rightTy (n : Int) : Bool := (n == 1) || (n == 2)
def rightD (d : De) : Bool := nameB d.rel.data.toList && decide (1 ≤ d.names.length) && decide (d.names.length ≤ 8) && decide (d.types.length = d.names.length) && d.names.all (fun s => nameB s.data.toList) && d.types.all rightTy
def rightP (p : Pg) : Bool := decide (p.decls.length ≤ 60) && decide (p.rules.length ≤ 200) && p.decls.all rightD && p.rules.all rightR

/-- As the program goes: every node, with its level. -/
def shapeB (t : Tm) : Bool := if twoB t.op = true then t.s.toList.isEmpty && (t.n == 0) && (match t.l with | [a, b] => recB a && recB b | _ => false) else leafB t
mutual
def okT : Nat → Tm → Bool
  | lv, .mk o s n l => decide (lv ≤ 20) && shapeB (.mk o s n l) && okTs (lv + 1) l
def okTs : Nat → List Tm → Bool
  | _, [] => true
  | lv, t :: ts => okT lv t && okTs lv ts
end
theorem okT_eq (lv : Nat) (t : Tm) : okT lv t = (decide (lv ≤ 20) && shapeB t && okTs (lv + 1) t.l) := by cases t; unfold okT; rfl
theorem okTs_all (lv : Nat) : ∀ l : List Tm, okTs lv l = l.all (okT lv)
  | [] => by simp [okTs]
  | t :: ts => by unfold okTs; rw [okTs_all lv ts, List.all_cons]
theorem leaf_nil {t : Tm} (h : leafB t = true) : t.l = [] := by
  unfold leafB at h
  split at h
  · simp at h; exact h.2
  · split at h
    · simp at h; exact h.2
    · split at h
      · simp at h; exact h.2
      · split at h
        · simp at h; exact h.2
        · cases h
theorem ok_right : ∀ (h : Nat) (t : Tm), h ≤ 20 → okT (21 - h) t = rightT h t
  | 0, t, _ => by rw [okT_eq]; unfold rightT; simp
  | h + 1, t, hh => by
    have ih : ∀ u, okT (21 - h) u = rightT h u := fun u => ok_right h u (by omega)
    rw [okT_eq, show 21 - (h + 1) + 1 = 21 - h by omega]
    have hd : decide (21 - (h + 1) ≤ 20) = true := by simp
    rw [hd, Bool.true_and]
    unfold rightT shapeB
    by_cases h2 : twoB t.op = true
    · rw [if_pos h2, if_pos h2]
      match hl : t.l with
      | [] => simp
      | [a] => simp
      | [a, b] =>
        simp only [okTs, ih, Bool.and_true]
        cases t.s.toList.isEmpty <;> cases (t.n == 0) <;> cases recB a <;> cases recB b <;> cases rightT h a <;> cases rightT h b <;> rfl
      | a :: b :: c :: r => simp
    · rw [if_neg h2, if_neg h2]
      cases hf : leafB t with
      | false => rfl
      | true => rw [leaf_nil hf]; rfl

end Go.Proofs.YtfcfehflocglpaaDoor
namespace Go.Proofs.YtfcfehflocglpaaDoor
open Go.RowKit

theorem CellsAt.n6 {w : World} {a : Addr} {o : Nat} {c0 c1 c2 c3 c4 c5 : Value} (h : CellsAt w a o [c0, c1, c2, c3, c4, c5]) : w.cell? (a.add o) = some c0 ∧ w.cell? ⟨(a.add o).block, (a.add o).off + 1, none⟩ = some c1 ∧ w.cell? ⟨(a.add o).block, (a.add o).off + 2, none⟩ = some c2 ∧ w.cell? ⟨(a.add o).block, (a.add o).off + 3, none⟩ = some c3 ∧ w.cell? ⟨(a.add o).block, (a.add o).off + 4, none⟩ = some c4 ∧ w.cell? ⟨(a.add o).block, (a.add o).off + 5, none⟩ = some c5 := by
  rw [← addNext a o 1 (by omega), ← addNext a o 2 (by omega), ← addNext a o 3 (by omega), ← addNext a o 4 (by omega), ← addNext a o 5 (by omega)]
  exact ⟨h 0 _ rfl, h 1 _ rfl, h 2 _ rfl, h 3 _ rfl, h 4 _ rfl, h 5 _ rfl⟩
theorem CellsAt.n11 {w : World} {a : Addr} {o : Nat} {c0 c1 c2 c3 c4 c5 c6 c7 c8 c9 c10 : Value} (h : CellsAt w a o [c0, c1, c2, c3, c4, c5, c6, c7, c8, c9, c10]) : w.cell? (a.add o) = some c0 ∧ w.cell? ⟨(a.add o).block, (a.add o).off + 1, none⟩ = some c1 ∧ w.cell? ⟨(a.add o).block, (a.add o).off + 2, none⟩ = some c2 ∧ w.cell? ⟨(a.add o).block, (a.add o).off + 3, none⟩ = some c3 ∧ w.cell? ⟨(a.add o).block, (a.add o).off + 4, none⟩ = some c4 ∧ w.cell? ⟨(a.add o).block, (a.add o).off + 5, none⟩ = some c5 ∧ w.cell? ⟨(a.add o).block, (a.add o).off + 6, none⟩ = some c6 ∧ w.cell? ⟨(a.add o).block, (a.add o).off + 7, none⟩ = some c7 ∧ w.cell? ⟨(a.add o).block, (a.add o).off + 8, none⟩ = some c8 ∧ w.cell? ⟨(a.add o).block, (a.add o).off + 9, none⟩ = some c9 ∧ w.cell? ⟨(a.add o).block, (a.add o).off + 10, none⟩ = some c10 := by
  rw [← addNext a o 1 (by omega), ← addNext a o 2 (by omega), ← addNext a o 3 (by omega), ← addNext a o 4 (by omega), ← addNext a o 5 (by omega), ← addNext a o 6 (by omega), ← addNext a o 7 (by omega), ← addNext a o 8 (by omega), ← addNext a o 9 (by omega), ← addNext a o 10 (by omega)]
  exact ⟨h 0 _ rfl, h 1 _ rfl, h 2 _ rfl, h 3 _ rfl, h 4 _ rfl, h 5 _ rfl, h 6 _ rfl, h 7 _ rfl, h 8 _ rfl, h 9 _ rfl, h 10 _ rfl⟩

theorem AmC.look {w : World} {B : Nat} {t : Am} {cs : List Value} (h : AmC w B t cs) : ∃ o cap, cs = [.string t.rel, .slice o t.l.length cap] ∧ t.rel.size ≤ maxLen ∧ TmS w B t.l (.slice o t.l.length cap) := by
  obtain ⟨v, rfl, h1, h2⟩ := h
  obtain ⟨o, cap, rfl, _⟩ := SlOf.uni h2
  exact ⟨o, cap, rfl, h1, h2⟩
theorem LtC.look {w : World} {B : Nat} {t : Lt} {cs : List Value} (h : LtC w B t cs) : ∃ o0 k0 o1 k1 o2 k2, cs = [.int .i64 t.op, .string t.a.rel, .slice o0 t.a.l.length k0, .int .i64 t.x.op, .string t.x.s, .int .i64 t.x.n, .slice o1 t.x.l.length k1, .int .i64 t.y.op, .string t.y.s, .int .i64 t.y.n, .slice o2 t.y.l.length k2] ∧ I64 t.op ∧
    AmC w B t.a [.string t.a.rel, .slice o0 t.a.l.length k0] ∧ TmC w B t.x [.int .i64 t.x.op, .string t.x.s, .int .i64 t.x.n, .slice o1 t.x.l.length k1] ∧ TmC w B t.y [.int .i64 t.y.op, .string t.y.s, .int .i64 t.y.n, .slice o2 t.y.l.length k2] := by
  obtain ⟨ca, cx, cy, rfl, h1, h2, h3, h4⟩ := h
  obtain ⟨o0, k0, rfl, _⟩ := h2.look
  obtain ⟨o1, k1, rfl, _⟩ := h3.look
  obtain ⟨o2, k2, rfl, _⟩ := h4.look
  exact ⟨o0, k0, o1, k1, o2, k2, rfl, h1, h2, h3, h4⟩
theorem RuC.look {w : World} {B : Nat} {t : Ru} {cs : List Value} (h : RuC w B t cs) : ∃ o0 k0 o1 k1, cs = [.string t.head.rel, .slice o0 t.head.l.length k0, .slice o1 t.body.length k1, .int .i64 t.line] ∧ I64 t.line ∧
    AmC w B t.head [.string t.head.rel, .slice o0 t.head.l.length k0] ∧ SlOf w B 11 (LtC w B) t.body (.slice o1 t.body.length k1) := by
  obtain ⟨ca, v, rfl, h1, h2, h3⟩ := h
  obtain ⟨o0, k0, rfl, _⟩ := h2.look
  obtain ⟨o1, k1, rfl, _⟩ := SlOf.uni h3
  exact ⟨o0, k0, o1, k1, rfl, h1, h2, h3⟩
theorem DeC.look {w : World} {B : Nat} {d : De} {cs : List Value} (h : DeC w B d cs) : ∃ o0 k0 o1 k1, cs = [.string d.rel, .slice o0 d.names.length k0, .slice o1 d.types.length k1, .bool d.inn, .bool d.out, .int .i64 d.line] ∧ d.rel.size ≤ maxLen ∧ I64 d.line ∧
    SlOf w B 1 StrC d.names (.slice o0 d.names.length k0) ∧ SlOf w B 1 IntC d.types (.slice o1 d.types.length k1) := by
  obtain ⟨v, u, rfl, h1, h2, h3, h4⟩ := h
  obtain ⟨o0, k0, rfl, _⟩ := SlOf.uni h3
  obtain ⟨o1, k1, rfl, _⟩ := SlOf.uni h4
  exact ⟨o0, k0, o1, k1, rfl, h1, h2, h3, h4⟩
theorem PgC.look {w : World} {B : Nat} {d : Pg} {cs : List Value} (h : PgC w B d cs) : ∃ o0 k0 o1 k1, cs = [.slice o0 d.decls.length k0, .slice o1 d.rules.length k1] ∧
    SlOf w B 6 (DeC w B) d.decls (.slice o0 d.decls.length k0) ∧ SlOf w B 4 (RuC w B) d.rules (.slice o1 d.rules.length k1) := by
  obtain ⟨v, u, rfl, h3, h4⟩ := h
  obtain ⟨o0, k0, rfl, _⟩ := SlOf.uni h3
  obtain ⟨o1, k1, rfl, _⟩ := SlOf.uni h4
  exact ⟨o0, k0, o1, k1, rfl, h3, h4⟩
theorem SlOf.lit {w w' : World} {B B' : Nat} {l : List Lt} {v : Value} (h : SlOf w B 11 (LtC w B) l v) (hb : Below B w w') (hB : B ≤ B') : SlOf w' B' 11 (LtC w' B') l v := SlOf.more (SlOf.below h hb fun _ _ _ h => h.below hb) hB fun _ _ _ h => h.more hB
theorem SlOf.rule {w w' : World} {B B' : Nat} {l : List Ru} {v : Value} (h : SlOf w B 4 (RuC w B) l v) (hb : Below B w w') (hB : B ≤ B') : SlOf w' B' 4 (RuC w' B') l v := SlOf.more (SlOf.below h hb fun _ _ _ h => h.below hb) hB fun _ _ _ h => h.more hB
theorem SlOf.decl {w w' : World} {B B' : Nat} {l : List De} {v : Value} (h : SlOf w B 6 (DeC w B) l v) (hb : Below B w w') (hB : B ≤ B') : SlOf w' B' 6 (DeC w' B') l v := SlOf.more (SlOf.below h hb fun _ _ _ h => h.below hb) hB fun _ _ _ h => h.more hB

theorem lt_at {w wr : World} {l : List Lt} {o : Option Addr} {k : Nat} {t : Lt} (S : Hid (SlIn w w.heap.size 11 (LtC w w.heap.size) l o)) (hB : Below w.heap.size w wr) (ht : l[k]? = some t) :
    ∃ a o0 k0 o1 k1 o2 k2, o = some a ∧ a.block < w.heap.size ∧ Hid (LtC wr wr.heap.size t [.int .i64 t.op, .string t.a.rel, .slice o0 t.a.l.length k0, .int .i64 t.x.op, .string t.x.s, .int .i64 t.x.n, .slice o1 t.x.l.length k1, .int .i64 t.y.op, .string t.y.s, .int .i64 t.y.n, .slice o2 t.y.l.length k2]) ∧
      wr.cell? (a.add (k * 11)) = some (.int .i64 t.op) ∧ wr.cell? ⟨(a.add (k * 11)).block, (a.add (k * 11)).off + 1, none⟩ = some (.string t.a.rel) ∧ wr.cell? ⟨(a.add (k * 11)).block, (a.add (k * 11)).off + 2, none⟩ = some (.slice o0 t.a.l.length k0) ∧ wr.cell? ⟨(a.add (k * 11)).block, (a.add (k * 11)).off + 3, none⟩ = some (.int .i64 t.x.op) ∧ wr.cell? ⟨(a.add (k * 11)).block, (a.add (k * 11)).off + 4, none⟩ = some (.string t.x.s) ∧ wr.cell? ⟨(a.add (k * 11)).block, (a.add (k * 11)).off + 5, none⟩ = some (.int .i64 t.x.n) ∧ wr.cell? ⟨(a.add (k * 11)).block, (a.add (k * 11)).off + 6, none⟩ = some (.slice o1 t.x.l.length k1) ∧ wr.cell? ⟨(a.add (k * 11)).block, (a.add (k * 11)).off + 7, none⟩ = some (.int .i64 t.y.op) ∧ wr.cell? ⟨(a.add (k * 11)).block, (a.add (k * 11)).off + 8, none⟩ = some (.string t.y.s) ∧ wr.cell? ⟨(a.add (k * 11)).block, (a.add (k * 11)).off + 9, none⟩ = some (.int .i64 t.y.n) ∧ wr.cell? ⟨(a.add (k * 11)).block, (a.add (k * 11)).off + 10, none⟩ = some (.slice o2 t.y.l.length k2) := by
  obtain ⟨a, cs, rfl, ha, _, h1, h2⟩ := S.out k t ht
  obtain ⟨o0, k0, o1, k1, o2, k2, rfl, _⟩ := h1.look
  exact ⟨a, o0, k0, o1, k1, o2, k2, rfl, ha, Lib.hid ((h1.below hB).more hB.size), (h2.below ha hB).n11⟩
theorem ru_at {w wr : World} {l : List Ru} {o : Option Addr} {k : Nat} {t : Ru} (S : Hid (SlIn w w.heap.size 4 (RuC w w.heap.size) l o)) (hB : Below w.heap.size w wr) (ht : l[k]? = some t) :
    ∃ a o0 k0 o1 k1, o = some a ∧ a.block < w.heap.size ∧ Hid (RuC wr wr.heap.size t [.string t.head.rel, .slice o0 t.head.l.length k0, .slice o1 t.body.length k1, .int .i64 t.line]) ∧
      wr.cell? (a.add (k * 4)) = some (.string t.head.rel) ∧ wr.cell? ⟨(a.add (k * 4)).block, (a.add (k * 4)).off + 1, none⟩ = some (.slice o0 t.head.l.length k0) ∧ wr.cell? ⟨(a.add (k * 4)).block, (a.add (k * 4)).off + 2, none⟩ = some (.slice o1 t.body.length k1) ∧ wr.cell? ⟨(a.add (k * 4)).block, (a.add (k * 4)).off + 3, none⟩ = some (.int .i64 t.line) := by
  obtain ⟨a, cs, rfl, ha, _, h1, h2⟩ := S.out k t ht
  obtain ⟨o0, k0, o1, k1, rfl, _⟩ := h1.look
  exact ⟨a, o0, k0, o1, k1, rfl, ha, Lib.hid ((h1.below hB).more hB.size), (h2.below ha hB).four⟩
theorem de_at {w wr : World} {l : List De} {o : Option Addr} {k : Nat} {t : De} (S : Hid (SlIn w w.heap.size 6 (DeC w w.heap.size) l o)) (hB : Below w.heap.size w wr) (ht : l[k]? = some t) :
    ∃ a o0 k0 o1 k1, o = some a ∧ a.block < w.heap.size ∧ Hid (DeC wr wr.heap.size t [.string t.rel, .slice o0 t.names.length k0, .slice o1 t.types.length k1, .bool t.inn, .bool t.out, .int .i64 t.line]) ∧
      wr.cell? (a.add (k * 6)) = some (.string t.rel) ∧ wr.cell? ⟨(a.add (k * 6)).block, (a.add (k * 6)).off + 1, none⟩ = some (.slice o0 t.names.length k0) ∧ wr.cell? ⟨(a.add (k * 6)).block, (a.add (k * 6)).off + 2, none⟩ = some (.slice o1 t.types.length k1) ∧ wr.cell? ⟨(a.add (k * 6)).block, (a.add (k * 6)).off + 3, none⟩ = some (.bool t.inn) ∧ wr.cell? ⟨(a.add (k * 6)).block, (a.add (k * 6)).off + 4, none⟩ = some (.bool t.out) ∧ wr.cell? ⟨(a.add (k * 6)).block, (a.add (k * 6)).off + 5, none⟩ = some (.int .i64 t.line) := by
  obtain ⟨a, cs, rfl, ha, _, h1, h2⟩ := S.out k t ht
  obtain ⟨o0, k0, o1, k1, rfl, _⟩ := h1.look
  exact ⟨a, o0, k0, o1, k1, rfl, ha, Lib.hid ((h1.below hB).more hB.size), (h2.below ha hB).n6⟩
theorem held44 {W w1 : World} (b : Below W.heap.size W.drew w1) {x0 x1 i0 i1 : Nat} {p q : Addr} {v0 v1 v2 v3 v4 v5 v6 v7 v8 v9 : Value} (hx0 : x0 < W.heap.size) (hx1 : x1 < W.heap.size) (hp : p.block < W.heap.size) (hq : q.block < W.heap.size)
    (h : W.cell? ⟨x0, i0, none⟩ = some v0 ∧ W.cell? ⟨x1, i1, none⟩ = some v1 ∧ W.cell? p = some v2 ∧ W.cell? ⟨p.block, p.off + 1, none⟩ = some v3 ∧ W.cell? ⟨p.block, p.off + 2, none⟩ = some v4 ∧ W.cell? ⟨p.block, p.off + 3, none⟩ = some v5 ∧ W.cell? q = some v6 ∧ W.cell? ⟨q.block, q.off + 1, none⟩ = some v7 ∧ W.cell? ⟨q.block, q.off + 2, none⟩ = some v8 ∧ W.cell? ⟨q.block, q.off + 3, none⟩ = some v9) :
    w1.cell? ⟨x0, i0, none⟩ = some v0 ∧ w1.cell? ⟨x1, i1, none⟩ = some v1 ∧ w1.cell? p = some v2 ∧ w1.cell? ⟨p.block, p.off + 1, none⟩ = some v3 ∧ w1.cell? ⟨p.block, p.off + 2, none⟩ = some v4 ∧ w1.cell? ⟨p.block, p.off + 3, none⟩ = some v5 ∧ w1.cell? q = some v6 ∧ w1.cell? ⟨q.block, q.off + 1, none⟩ = some v7 ∧ w1.cell? ⟨q.block, q.off + 2, none⟩ = some v8 ∧ w1.cell? ⟨q.block, q.off + 3, none⟩ = some v9 := by
  obtain ⟨h0, h1, h2, h3, h4, h5, h6, h7, h8, h9⟩ := h
  exact ⟨(b.cell (p := ⟨x0, i0, none⟩) hx0).trans h0, (b.cell (p := ⟨x1, i1, none⟩) hx1).trans h1, (b.cell hp).trans h2, (b.cell (p := ⟨p.block, p.off + 1, none⟩) hp).trans h3, (b.cell (p := ⟨p.block, p.off + 2, none⟩) hp).trans h4, (b.cell (p := ⟨p.block, p.off + 3, none⟩) hp).trans h5, (b.cell hq).trans h6, (b.cell (p := ⟨q.block, q.off + 1, none⟩) hq).trans h7, (b.cell (p := ⟨q.block, q.off + 2, none⟩) hq).trans h8, (b.cell (p := ⟨q.block, q.off + 3, none⟩) hq).trans h9⟩
theorem held11 {W w1 : World} (b : Below W.heap.size W.drew w1) {x0 x1 i0 i1 : Nat} {p q : Addr} {v0 v1 v2 v3 v4 v5 v6 v7 v8 v9 v10 v11 v12 v13 v14 v15 v16 v17 v18 v19 v20 v21 v22 v23 : Value} (hx0 : x0 < W.heap.size) (hx1 : x1 < W.heap.size) (hp : p.block < W.heap.size) (hq : q.block < W.heap.size)
    (h : W.cell? ⟨x0, i0, none⟩ = some v0 ∧ W.cell? ⟨x1, i1, none⟩ = some v1 ∧ W.cell? p = some v2 ∧ W.cell? ⟨p.block, p.off + 1, none⟩ = some v3 ∧ W.cell? ⟨p.block, p.off + 2, none⟩ = some v4 ∧ W.cell? ⟨p.block, p.off + 3, none⟩ = some v5 ∧ W.cell? ⟨p.block, p.off + 4, none⟩ = some v6 ∧ W.cell? ⟨p.block, p.off + 5, none⟩ = some v7 ∧ W.cell? ⟨p.block, p.off + 6, none⟩ = some v8 ∧ W.cell? ⟨p.block, p.off + 7, none⟩ = some v9 ∧ W.cell? ⟨p.block, p.off + 8, none⟩ = some v10 ∧ W.cell? ⟨p.block, p.off + 9, none⟩ = some v11 ∧ W.cell? ⟨p.block, p.off + 10, none⟩ = some v12 ∧ W.cell? q = some v13 ∧ W.cell? ⟨q.block, q.off + 1, none⟩ = some v14 ∧ W.cell? ⟨q.block, q.off + 2, none⟩ = some v15 ∧ W.cell? ⟨q.block, q.off + 3, none⟩ = some v16 ∧ W.cell? ⟨q.block, q.off + 4, none⟩ = some v17 ∧ W.cell? ⟨q.block, q.off + 5, none⟩ = some v18 ∧ W.cell? ⟨q.block, q.off + 6, none⟩ = some v19 ∧ W.cell? ⟨q.block, q.off + 7, none⟩ = some v20 ∧ W.cell? ⟨q.block, q.off + 8, none⟩ = some v21 ∧ W.cell? ⟨q.block, q.off + 9, none⟩ = some v22 ∧ W.cell? ⟨q.block, q.off + 10, none⟩ = some v23) :
    w1.cell? ⟨x0, i0, none⟩ = some v0 ∧ w1.cell? ⟨x1, i1, none⟩ = some v1 ∧ w1.cell? p = some v2 ∧ w1.cell? ⟨p.block, p.off + 1, none⟩ = some v3 ∧ w1.cell? ⟨p.block, p.off + 2, none⟩ = some v4 ∧ w1.cell? ⟨p.block, p.off + 3, none⟩ = some v5 ∧ w1.cell? ⟨p.block, p.off + 4, none⟩ = some v6 ∧ w1.cell? ⟨p.block, p.off + 5, none⟩ = some v7 ∧ w1.cell? ⟨p.block, p.off + 6, none⟩ = some v8 ∧ w1.cell? ⟨p.block, p.off + 7, none⟩ = some v9 ∧ w1.cell? ⟨p.block, p.off + 8, none⟩ = some v10 ∧ w1.cell? ⟨p.block, p.off + 9, none⟩ = some v11 ∧ w1.cell? ⟨p.block, p.off + 10, none⟩ = some v12 ∧ w1.cell? q = some v13 ∧ w1.cell? ⟨q.block, q.off + 1, none⟩ = some v14 ∧ w1.cell? ⟨q.block, q.off + 2, none⟩ = some v15 ∧ w1.cell? ⟨q.block, q.off + 3, none⟩ = some v16 ∧ w1.cell? ⟨q.block, q.off + 4, none⟩ = some v17 ∧ w1.cell? ⟨q.block, q.off + 5, none⟩ = some v18 ∧ w1.cell? ⟨q.block, q.off + 6, none⟩ = some v19 ∧ w1.cell? ⟨q.block, q.off + 7, none⟩ = some v20 ∧ w1.cell? ⟨q.block, q.off + 8, none⟩ = some v21 ∧ w1.cell? ⟨q.block, q.off + 9, none⟩ = some v22 ∧ w1.cell? ⟨q.block, q.off + 10, none⟩ = some v23 := by
  obtain ⟨h0, h1, h2, h3, h4, h5, h6, h7, h8, h9, h10, h11, h12, h13, h14, h15, h16, h17, h18, h19, h20, h21, h22, h23⟩ := h
  exact ⟨(b.cell (p := ⟨x0, i0, none⟩) hx0).trans h0, (b.cell (p := ⟨x1, i1, none⟩) hx1).trans h1, (b.cell hp).trans h2, (b.cell (p := ⟨p.block, p.off + 1, none⟩) hp).trans h3, (b.cell (p := ⟨p.block, p.off + 2, none⟩) hp).trans h4, (b.cell (p := ⟨p.block, p.off + 3, none⟩) hp).trans h5, (b.cell (p := ⟨p.block, p.off + 4, none⟩) hp).trans h6, (b.cell (p := ⟨p.block, p.off + 5, none⟩) hp).trans h7, (b.cell (p := ⟨p.block, p.off + 6, none⟩) hp).trans h8, (b.cell (p := ⟨p.block, p.off + 7, none⟩) hp).trans h9, (b.cell (p := ⟨p.block, p.off + 8, none⟩) hp).trans h10, (b.cell (p := ⟨p.block, p.off + 9, none⟩) hp).trans h11, (b.cell (p := ⟨p.block, p.off + 10, none⟩) hp).trans h12, (b.cell hq).trans h13, (b.cell (p := ⟨q.block, q.off + 1, none⟩) hq).trans h14, (b.cell (p := ⟨q.block, q.off + 2, none⟩) hq).trans h15, (b.cell (p := ⟨q.block, q.off + 3, none⟩) hq).trans h16, (b.cell (p := ⟨q.block, q.off + 4, none⟩) hq).trans h17, (b.cell (p := ⟨q.block, q.off + 5, none⟩) hq).trans h18, (b.cell (p := ⟨q.block, q.off + 6, none⟩) hq).trans h19, (b.cell (p := ⟨q.block, q.off + 7, none⟩) hq).trans h20, (b.cell (p := ⟨q.block, q.off + 8, none⟩) hq).trans h21, (b.cell (p := ⟨q.block, q.off + 9, none⟩) hq).trans h22, (b.cell (p := ⟨q.block, q.off + 10, none⟩) hq).trans h23⟩
theorem held66 {W w1 : World} (b : Below W.heap.size W.drew w1) {x0 x1 i0 i1 : Nat} {p q : Addr} {v0 v1 v2 v3 v4 v5 v6 v7 v8 v9 v10 v11 v12 v13 : Value} (hx0 : x0 < W.heap.size) (hx1 : x1 < W.heap.size) (hp : p.block < W.heap.size) (hq : q.block < W.heap.size)
    (h : W.cell? ⟨x0, i0, none⟩ = some v0 ∧ W.cell? ⟨x1, i1, none⟩ = some v1 ∧ W.cell? p = some v2 ∧ W.cell? ⟨p.block, p.off + 1, none⟩ = some v3 ∧ W.cell? ⟨p.block, p.off + 2, none⟩ = some v4 ∧ W.cell? ⟨p.block, p.off + 3, none⟩ = some v5 ∧ W.cell? ⟨p.block, p.off + 4, none⟩ = some v6 ∧ W.cell? ⟨p.block, p.off + 5, none⟩ = some v7 ∧ W.cell? q = some v8 ∧ W.cell? ⟨q.block, q.off + 1, none⟩ = some v9 ∧ W.cell? ⟨q.block, q.off + 2, none⟩ = some v10 ∧ W.cell? ⟨q.block, q.off + 3, none⟩ = some v11 ∧ W.cell? ⟨q.block, q.off + 4, none⟩ = some v12 ∧ W.cell? ⟨q.block, q.off + 5, none⟩ = some v13) :
    w1.cell? ⟨x0, i0, none⟩ = some v0 ∧ w1.cell? ⟨x1, i1, none⟩ = some v1 ∧ w1.cell? p = some v2 ∧ w1.cell? ⟨p.block, p.off + 1, none⟩ = some v3 ∧ w1.cell? ⟨p.block, p.off + 2, none⟩ = some v4 ∧ w1.cell? ⟨p.block, p.off + 3, none⟩ = some v5 ∧ w1.cell? ⟨p.block, p.off + 4, none⟩ = some v6 ∧ w1.cell? ⟨p.block, p.off + 5, none⟩ = some v7 ∧ w1.cell? q = some v8 ∧ w1.cell? ⟨q.block, q.off + 1, none⟩ = some v9 ∧ w1.cell? ⟨q.block, q.off + 2, none⟩ = some v10 ∧ w1.cell? ⟨q.block, q.off + 3, none⟩ = some v11 ∧ w1.cell? ⟨q.block, q.off + 4, none⟩ = some v12 ∧ w1.cell? ⟨q.block, q.off + 5, none⟩ = some v13 := by
  obtain ⟨h0, h1, h2, h3, h4, h5, h6, h7, h8, h9, h10, h11, h12, h13⟩ := h
  exact ⟨(b.cell (p := ⟨x0, i0, none⟩) hx0).trans h0, (b.cell (p := ⟨x1, i1, none⟩) hx1).trans h1, (b.cell hp).trans h2, (b.cell (p := ⟨p.block, p.off + 1, none⟩) hp).trans h3, (b.cell (p := ⟨p.block, p.off + 2, none⟩) hp).trans h4, (b.cell (p := ⟨p.block, p.off + 3, none⟩) hp).trans h5, (b.cell (p := ⟨p.block, p.off + 4, none⟩) hp).trans h6, (b.cell (p := ⟨p.block, p.off + 5, none⟩) hp).trans h7, (b.cell hq).trans h8, (b.cell (p := ⟨q.block, q.off + 1, none⟩) hq).trans h9, (b.cell (p := ⟨q.block, q.off + 2, none⟩) hq).trans h10, (b.cell (p := ⟨q.block, q.off + 3, none⟩) hq).trans h11, (b.cell (p := ⟨q.block, q.off + 4, none⟩) hq).trans h12, (b.cell (p := ⟨q.block, q.off + 5, none⟩) hq).trans h13⟩
theorem held4 {W w1 : World} (b : Below W.heap.size W.drew w1) {x0 i0 : Nat} {p : Addr} {v0 v1 v2 v3 v4 : Value} (hx0 : x0 < W.heap.size) (hp : p.block < W.heap.size)
    (h : W.cell? ⟨x0, i0, none⟩ = some v0 ∧ W.cell? p = some v1 ∧ W.cell? ⟨p.block, p.off + 1, none⟩ = some v2 ∧ W.cell? ⟨p.block, p.off + 2, none⟩ = some v3 ∧ W.cell? ⟨p.block, p.off + 3, none⟩ = some v4) :
    w1.cell? ⟨x0, i0, none⟩ = some v0 ∧ w1.cell? p = some v1 ∧ w1.cell? ⟨p.block, p.off + 1, none⟩ = some v2 ∧ w1.cell? ⟨p.block, p.off + 2, none⟩ = some v3 ∧ w1.cell? ⟨p.block, p.off + 3, none⟩ = some v4 := by
  obtain ⟨h0, h1, h2, h3, h4⟩ := h
  exact ⟨(b.cell (p := ⟨x0, i0, none⟩) hx0).trans h0, (b.cell hp).trans h1, (b.cell (p := ⟨p.block, p.off + 1, none⟩) hp).trans h2, (b.cell (p := ⟨p.block, p.off + 2, none⟩) hp).trans h3, (b.cell (p := ⟨p.block, p.off + 3, none⟩) hp).trans h4⟩
end Go.Proofs.YtfcfehflocglpaaDoor
