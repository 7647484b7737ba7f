/- Values, rows, lists of rows as plain data, how they lie in memory, and how they are held against each other. -/
import Derived.Test.YtphmiifochjemaaSl
import Derived.Test.YtphmiifochjemaaCmp
namespace Go.Proofs.Ytphmiifochjemaa
open Go.RowKit

structure Vl where
  sym : Bool
  n : Int
  s : ByteArray
def VlC (x : Vl) (cs : List Value) : Prop := cs = [.bool x.sym, .int .i64 x.n, .string x.s] ∧ I64 x.n ∧ x.s.size ≤ maxLen
abbrev Rw := List Vl
/-- A row's cell: a slice of values below B. -/
def RwC (w : World) (B : Nat) (r : Rw) (cs : List Value) : Prop := ∃ v, cs = [v] ∧ SlOf w B 3 VlC r v
abbrev RwsS (w : World) (B : Nat) (l : List Rw) (v : Value) : Prop := SlOf w B 1 (RwC w B) l v
theorem VlS.below {w w' : World} {B : Nat} {l : Rw} {v : Value} (h : SlOf w B 3 VlC l v) (hb : Below B w w') : SlOf w' B 3 VlC l v := SlOf.below h hb fun _ _ _ h => h
theorem VlS.more {w : World} {B B' : Nat} {l : Rw} {v : Value} (h : SlOf w B 3 VlC l v) (hB : B ≤ B') : SlOf w B' 3 VlC l v := SlOf.more h hB fun _ _ _ h => h
theorem VlS.past {w w' : World} {l : Rw} {v : Value} (h : SlOf w w.heap.size 3 VlC l v) (hb : Below w.heap.size w w') : SlOf w' w'.heap.size 3 VlC l v := VlS.more (VlS.below h hb) hb.size
theorem RwC.below {w w' : World} {B : Nat} {r : Rw} {cs : List Value} (h : RwC w B r cs) (hb : Below B w w') : RwC w' B r cs := by
  obtain ⟨v, h1, h2⟩ := h
  exact ⟨v, h1, VlS.below h2 hb⟩
theorem RwC.more {w : World} {B B' : Nat} {r : Rw} {cs : List Value} (h : RwC w B r cs) (hB : B ≤ B') : RwC w B' r cs := by
  obtain ⟨v, h1, h2⟩ := h
  exact ⟨v, h1, VlS.more h2 hB⟩
theorem RwsS.below {w w' : World} {B : Nat} {l : List Rw} {v : Value} (h : RwsS w B l v) (hb : Below B w w') : RwsS w' B l v := SlOf.below h hb fun _ _ _ h => h.below hb
theorem RwsS.more {w : World} {B B' : Nat} {l : List Rw} {v : Value} (h : RwsS w B l v) (hB : B ≤ B') : RwsS w B' l v := SlOf.more h hB fun _ _ _ h => h.more hB
theorem RwsS.past {w w' : World} {l : List Rw} {v : Value} (h : RwsS w w.heap.size l v) (hb : Below w.heap.size w w') : RwsS w' w'.heap.size l v := RwsS.more (RwsS.below h hb) hb.size
theorem CellsAt.n3 {w : World} {a : Addr} {o : Nat} {c0 c1 c2 : Value} (h : CellsAt w a o [c0, c1, c2]) : w.cell? (a.add o) = some c0 ∧ w.cell? ⟨(a.add o).block, (a.add o).off + 1, none⟩ = some c1 ∧ w.cell? ⟨(a.add o).block, (a.add o).off + 2, none⟩ = some c2 := by
  rw [← addNext a o 1 (by omega), ← addNext a o 2 (by omega)]
  exact ⟨h 0 _ rfl, h 1 _ rfl, h 2 _ rfl⟩
theorem vl_at {w wr : World} {B : Nat} {l : Rw} {o : Option Addr} {k : Nat} {x : Vl} (S : Hid (SlIn w B 3 VlC l o)) (hB : Below B w wr) (ht : l[k]? = some x) :
    ∃ a, o = some a ∧ a.block < B ∧ I64 x.n ∧ x.s.size ≤ maxLen ∧ wr.cell? (a.add (k * 3)) = some (.bool x.sym) ∧ wr.cell? ⟨(a.add (k * 3)).block, (a.add (k * 3)).off + 1, none⟩ = some (.int .i64 x.n) ∧ wr.cell? ⟨(a.add (k * 3)).block, (a.add (k * 3)).off + 2, none⟩ = some (.string x.s) := by
  obtain ⟨a, cs, rfl, ha, _, ⟨rfl, h1, h2⟩, h3⟩ := S.out k x ht
  exact ⟨a, rfl, ha, h1, h2, (h3.below ha hB).n3⟩
theorem rw_at {w wr : World} {l : List Rw} {o : Option Addr} {k : Nat} {r : Rw} (S : Hid (SlIn w w.heap.size 1 (RwC w w.heap.size) l o)) (hB : Below w.heap.size w wr) (ht : l[k]? = some r) :
    ∃ a o' cap', o = some a ∧ a.block < w.heap.size ∧ Hid (SlOf wr wr.heap.size 3 VlC r (.slice o' r.length cap')) ∧ wr.cell? (a.add k) = some (.slice o' r.length cap') ∧ Hid (RwC w w.heap.size r [.slice o' r.length cap']) := by
  obtain ⟨a, cs, rfl, ha, _, ⟨v, rfl, h1⟩, h2⟩ := S.out k r ht
  obtain ⟨o', cap', rfl, _⟩ := SlOf.uni h1
  have h3 := (h2.below ha hB).n1
  rw [Nat.mul_one] at h3
  exact ⟨a, o', cap', rfl, ha, Lib.hid (VlS.more (VlS.below h1 hB) hB.size), h3, Lib.hid ⟨_, rfl, h1⟩⟩

/-! ### How values and rows are held against each other -/
def byteC (a b : UInt8) : Int := if a < b then -1 else if b < a then 1 else 0
theorem byteC_tot : TotC byteC := by
  refine ⟨fun a b => ?_, fun a b => ?_, fun a b d => ?_⟩
  all_goals
    unfold byteC
    simp only [UInt8.lt_iff_toNat_lt]
  · split
    · exact .inl rfl
    · split
      · exact .inr (.inr rfl)
      · exact .inr (.inl rfl)
  · repeat' split
    all_goals omega
  · repeat' split
    all_goals omega
def intC (a b : Int) : Int := if a < b then -1 else if b < a then 1 else 0
theorem intC_tot : TotC intC := by
  refine ⟨fun a b => ?_, fun a b => ?_, fun a b d => ?_⟩
  all_goals unfold intC
  · split
    · exact .inl rfl
    · split
      · exact .inr (.inr rfl)
      · exact .inr (.inl rfl)
  · repeat' split
    all_goals omega
  · repeat' split
    all_goals omega
abbrev textC (a b : ByteArray) : Int := lexC byteC a.data.toList b.data.toList
theorem textC_tot : TotC textC := ⟨fun _ _ => byteC_tot.lex.range _ _, fun _ _ => byteC_tot.lex.anti _ _, fun _ _ _ => byteC_tot.lex.trans _ _ _⟩
def vlC (a b : Vl) : Int := if (a.sym != b.sym) = true then (if b.sym = true then -1 else 1) else if a.sym = true then textC a.s b.s else intC a.n b.n
theorem vlC_tot : TotC vlC := by
  refine ⟨fun a b => ?_, fun a b => ?_, fun a b d => ?_⟩
  · have h1 := textC_tot.range a.s b.s
    have h2 := intC_tot.range a.n b.n
    unfold vlC
    cases a.sym <;> cases b.sym <;> simp <;> assumption
  · have h1 := textC_tot.anti a.s b.s
    have h2 := intC_tot.anti a.n b.n
    unfold vlC
    cases a.sym <;> cases b.sym <;> simp <;> assumption
  · have h1 := textC_tot.trans a.s b.s d.s
    have h2 := intC_tot.trans a.n b.n d.n
    unfold vlC
    cases a.sym <;> cases b.sym <;> cases d.sym <;> simp <;> assumption
abbrev rwC : Rw → Rw → Int := lexC vlC
theorem rwC_tot : TotC rwC := vlC_tot.lex
/-- A value with nothing but what it is. -/
def cleanV (x : Vl) : Bool := if x.sym = true then x.n == 0 else x.s.toList.isEmpty
def cleanR (r : Rw) : Bool := r.all cleanV
theorem lex_zero {α : Type} {c : α → α → Int} {P : α → Prop} (hP : ∀ x y, P x → P y → c x y = 0 → x = y) : ∀ {a b : List α}, (∀ x ∈ a, P x) → (∀ x ∈ b, P x) → lexC c a b = 0 → a = b
  | [], [], _, _, _ => rfl
  | [], _ :: _, _, _, h => by simp [lexC] at h
  | _ :: _, [], _, _, h => by simp [lexC] at h
  | x :: a, y :: b, ha, hb, h => by
    unfold lexC at h
    split at h
    · rename_i h0
      rw [hP x y (ha x (by simp)) (hb y (by simp)) h0, lex_zero hP (fun z hz => ha z (List.mem_cons_of_mem _ hz)) (fun z hz => hb z (List.mem_cons_of_mem _ hz)) h]
    · rename_i h0
      exact absurd h h0
theorem byteC_zero {a b : UInt8} (h : byteC a b = 0) : a = b := by
  unfold byteC at h
  simp only [UInt8.lt_iff_toNat_lt] at h
  apply UInt8.toNat_inj.1
  split at h
  · omega
  · split at h <;> omega
theorem textC_zero {a b : ByteArray} (h : textC a b = 0) : a = b := by
  have h1 : a.data.toList = b.data.toList := lex_zero (P := fun _ => True) (fun _ _ _ _ h => byteC_zero h) (fun _ _ => trivial) (fun _ _ => trivial) h
  cases a; cases b
  simp only at h1
  rw [Array.toList_inj.1 h1]
theorem empty_eq {a b : ByteArray} (ha : a.toList.isEmpty = true) (hb : b.toList.isEmpty = true) : a = b := by
  rw [List.isEmpty_iff, Lib.toList_data] at ha hb
  cases a; cases b
  simp only at ha hb
  rw [Array.toList_inj.1 (ha.trans hb.symm)]
theorem vlC_zero {a b : Vl} (ha : cleanV a = true) (hb : cleanV b = true) (h : vlC a b = 0) : a = b := by
  obtain ⟨sa, na, ta⟩ := a
  obtain ⟨sb, nb, tb⟩ := b
  unfold vlC at h
  unfold cleanV at ha hb
  cases sa <;> cases sb <;> simp at h ha hb
  · have e : na = nb := by unfold intC at h; split at h <;> first | omega | (split at h <;> omega)
    rw [e, empty_eq (a := ta) (b := tb) (by simpa using ha) (by simpa using hb)]
  · rw [textC_zero h, ha, hb]
theorem rwC_zero (a b : Rw) (ha : cleanR a = true) (hb : cleanR b = true) (h : rwC a b = 0) : a = b :=
  lex_zero (P := fun x => cleanV x = true) (fun _ _ => vlC_zero) (fun x hx => List.all_eq_true.1 ha x hx) (fun x hx => List.all_eq_true.1 hb x hx) h
/-- Value by value the same. -/
def sameV (a b : Vl) : Bool := (a.sym == b.sym) && (a.n == b.n) && (a.s.toList == b.s.toList)
def sameW (a b : Rw) : Bool := allS sameV a b
def sameWs (a b : List Rw) : Bool := allS sameW a b
theorem allS_iff {α : Type} {f : α → α → Bool} (h : ∀ x y, f x y = true ↔ x = y) : ∀ {l m : List α}, allS f l m = true ↔ l = m
  | [], [] => by simp [allS]
  | [], _ :: _ => by simp [allS]
  | _ :: _, [] => by simp [allS]
  | x :: l, y :: m => by simp [allS, h, allS_iff h (l := l) (m := m)]
theorem sameV_iff (a b : Vl) : sameV a b = true ↔ a = b := by
  obtain ⟨sa, na, ta⟩ := a
  obtain ⟨sb, nb, tb⟩ := b
  unfold sameV
  simp only [Bool.and_eq_true, beq_iff_eq, Vl.mk.injEq]
  constructor
  · rintro ⟨⟨h1, h2⟩, h3⟩
    refine ⟨h1, h2, ?_⟩
    rw [Lib.toList_data, Lib.toList_data] at h3
    cases ta; cases tb
    simp only at h3
    rw [Array.toList_inj.1 h3]
  · rintro ⟨h1, h2, h3⟩
    exact ⟨⟨h1, h2⟩, by rw [h3]⟩
theorem sameWs_iff (a b : List Rw) : sameWs a b = true ↔ a = b := allS_iff fun _ _ => allS_iff sameV_iff
end Go.Proofs.Ytphmiifochjemaa
