/- dtype.Find: the first relation of a name. -/
import Derived.Test.YtbpdfmpfnbdeoaaDoorYround
namespace Go.Proofs.YtbpdfmpfnbdeoaaDoor
open Go.RowKit

def relY (s : ByteArray) (d : De) : Bool := d.rel.toList == s.toList
def ixY (s : ByteArray) : Nat → List De → Int
  | _, [] => -1
  | k, d :: l => if relY s d then k else ixY s (k + 1) l
theorem ixY_drop {s : ByteArray} {l : List De} {k : Nat} {d : De} (h : l[k]? = some d) : ixY s k (l.drop k) = if relY s d then (k : Int) else ixY s (k + 1) (l.drop (k + 1)) := by
  have h1 : l.drop k = d :: l.drop (k + 1) := by rw [List.drop_eq_getElem_cons (List.getElem?_eq_some_iff.1 h).1, (List.getElem?_eq_some_iff.1 h).2]
  rw [h1]; rfl
/-- A list's first relation of a name, and where it stands. -/
theorem ixY_cases (s : ByteArray) : ∀ (l : List De) (k : Nat), (ixY s k l = -1 ∧ ∀ d ∈ l, relY s d = false) ∨ ∃ (i : Nat) (d : De), ixY s k l = ((k + i : Nat) : Int) ∧ l[i]? = some d ∧ relY s d = true
  | [], _ => .inl ⟨rfl, fun _ h => by cases h⟩
  | d :: l, k => by
    unfold ixY
    cases h : relY s d with
    | true => exact .inr ⟨0, d, by simp, rfl, h⟩
    | false =>
      rcases ixY_cases s l (k + 1) with ⟨h1, h2⟩ | ⟨i, e, h1, h2, h3⟩
      · refine .inl ⟨by simpa using h1, fun x hx => ?_⟩
        rcases List.mem_cons.1 hx with rfl | hx
        · exact h
        · exact h2 x hx
      · exact .inr ⟨i + 1, e, by simp only [Bool.false_eq_true, if_false]; rw [h1]; congr 1; omega, h2, h3⟩
/-- The place and whether there is one. -/
def findY (s : ByteArray) (l : List De) : Option Nat := if ixY s 0 l < 0 then none else some (ixY s 0 l).toNat

def findV : Option Nat → Value
  | none => .tuple #[.int .i64 0, .bool false]
  | some i => .tuple #[.int .i64 i, .bool true]
set_option maxRecDepth 100000 in
set_option maxHeartbeats 4000000 in
theorem relIs_c (d : De) (s : ByteArray) (nb : Nat) (o0 o1 : Option Addr) (k0 k1 : Nat) (w : World) (c0 : w.cell? ⟨nb, 0, none⟩ = some (.string s)) :
    Calls Tryd.prog 34 #[.agg #[.string d.rel, .slice o0 d.names.length k0, .slice o1 d.types.length k1, .bool d.inn, .bool d.out, .int .i64 d.line], .pointer (some ⟨nb, 0, none⟩)] w fun e w' => e = .returned (.bool (relY s d)) ∧ Below w.heap.size w w' := by
  have HB0 : Hid (∀ (x : Obj), Below w.heap.size w (w.alloc x)) := Lib.hid fun x => (Below.refl _ _).alloc (Nat.le_refl _) _
  have hlt : nb < w.heap.size := World.block_lt_of_cell? _ _ c0
  go_enter Tryd.func34, Tryd.ntmps34
  go_wp2
  go_ret
  exact ⟨rfl, HB0.out _⟩
theorem de_in {n₀ : Nat} {w wr : World} {l : List De} {o : Option Addr} {k : Nat} {t : De} (S : Hid (SlIn w n₀ 6 (DeC w n₀) l o)) (hB : Below n₀ w wr) (ht : l[k]? = some t) :
    ∃ a o0 k0 o1 k1, o = some a ∧ a.block < n₀ ∧ Hid (DeC wr n₀ t [.string t.rel, .slice o0 t.names.length k0, .slice o1 t.types.length k1, .bool t.inn, .bool t.out, .int .i64 t.line]) ∧
      CellsAt wr a (k * 6) [.string t.rel, .slice o0 t.names.length k0, .slice o1 t.types.length k1, .bool t.inn, .bool t.out, .int .i64 t.line] := by
  obtain ⟨a, cs, rfl, ha, _, h1, h2⟩ := S.out k t ht
  obtain ⟨o0, k0, o1, k1, rfl, _⟩ := h1.look
  exact ⟨a, o0, k0, o1, k1, rfl, ha, Lib.hid (h1.below hB), h2.below ha hB⟩

set_option maxRecDepth 100000 in
set_option maxHeartbeats 4000000 in
theorem indexD_c (s : ByteArray) (nb n₀ : Nat) (l : List De) (v : Value) (w : World) (hl : SlOf w n₀ 6 (DeC w n₀) l v) (hn : n₀ ≤ w.heap.size) (hb : w.cell? ⟨nb, 0, none⟩ = some (.string s)) :
    Calls Tryd.prog 33 #[v, .func (.func 34) #[] #[.pointer (some ⟨nb, 0, none⟩)]] w fun e w' => e = .returned (.int .i64 (ixY s 0 l)) ∧ Below w.heap.size w w' := by
  obtain ⟨o, cap, rfl, hcap, hcm, S⟩ := SlOf.open hl
  have HB0 : Hid (Below w.heap.size w w) := Lib.hid (Below.refl _ _)
  have hnb : nb < w.heap.size := World.block_lt_of_cell? _ _ hb
  have Hb := Lib.hid hb
  clear hl hb
  go_enter Tryd.func33, Tryd.ntmps33
  go_wp2
  go_loopw [8] (fun i wr => ∃ k : Nat, k ≤ l.length ∧ i = .int .i64 (k : Int) ∧ ixY s 0 l = ixY s k (l.drop k) ∧ Below w.heap.size w wr) (fun i _ => l.length - (intOf i).toNat)
  case atStart => exact ⟨0, Nat.zero_le _, rfl, rfl, HB0.out⟩
  case round =>
    obtain ⟨k, hk, rfl, hix, hB⟩ := hrel
    have hBs := hB.size
    by_cases hlt : k < l.length
    · have hlt' : (k : Int) < (l.length : Int) := by omega
      obtain ⟨u, hu⟩ : ∃ u, l[k]? = some u := ⟨l[k], List.getElem?_eq_getElem hlt⟩
      obtain ⟨b, p1, q1, p2, q2, rfl, hbb, Hc, hca⟩ := de_in S (hB.mono hn) hu
      obtain ⟨c0, c1, c2, c3, c4, c5⟩ := hca.n6
      have hbl : (b.add (k * 6)).block < wr.heap.size := by rw [addBlock]; omega
      have Hix := Lib.hid (hix.trans (ixY_drop hu))
      have HF := Lib.hid (relIs_c u s nb p1 p2 q1 q2 wr ((hB.cell (p := ⟨nb, 0, none⟩) hnb).trans Hb.out))
      clear hu hix Hc hca
      go_wp2_with fail
      refine HF.out.mono ?_
      rintro e w2 ⟨rfl, b2⟩
      have HB2 := Lib.hid (hB.trans (b2.mono hBs))
      clear b2
      cases hp : relY s u with
      | true =>
        have Hr : Hid (ixY s 0 l = (k : Int)) := Lib.hid (by rw [Hix.out, if_pos hp])
        clear hp
        go_wp2
        go_ret
        exact ⟨by rw [Hr.out]; rfl, HB2.out⟩
      | false =>
        have Hr : Hid (ixY s 0 l = ixY s (k + 1) (l.drop (k + 1))) := Lib.hid (by rw [Hix.out, if_neg (by rw [hp]; decide)])
        clear hp
        go_wp2
        go_roundw
        case rel => exact ⟨k + 1, by omega, by go_num, Hr.out, HB2.out⟩
        case measure => simp [intOf]; omega
    · have hlt' : ¬ (k : Int) < (l.length : Int) := by omega
      have Hr : Hid (ixY s 0 l = -1) := Lib.hid (by rw [hix, List.drop_of_length_le (by omega)]; rfl)
      clear hix
      go_wp2
      go_ret
      exact ⟨by rw [Hr.out]; rfl, hB⟩

set_option maxRecDepth 100000 in
set_option maxHeartbeats 4000000 in
theorem find_c (s : ByteArray) (n₀ : Nat) (l : List De) (v : Value) (w : World) (hl : SlOf w n₀ 6 (DeC w n₀) l v) (hn : n₀ ≤ w.heap.size) :
    Calls Tryd.prog 13 #[v, .string s] w fun e w' => e = .returned (findV (findY s l)) ∧ Below w.heap.size w w' := by
  have hb1 : Below w.heap.size w (w.alloc (.cells #[.string s] 9)) := (Below.refl _ _).alloc (Nat.le_refl _) _
  have hr : (w.alloc (.cells #[.string s] 9)).cell? ⟨w.heap.size, 0, none⟩ = some (.string s) := by
    unfold World.cell?
    simp only []
    rw [World.alloc_heap_new]
    rfl
  have HH := Lib.hid (indexD_c s w.heap.size n₀ l v (w.alloc (.cells #[.string s] 9)) (SlOf.decl hl (hb1.mono hn) (Nat.le_refl _)) (by simp; omega) hr)
  have Hb1 := Lib.hid hb1
  have hcs := ixY_cases s l 0
  clear hl hb1 hr
  go_enter Tryd.func13, Tryd.ntmps13
  go_wp2_with fail
  refine HH.out.mono ?_
  rintro e w2 ⟨rfl, b2⟩
  have HB2 := Lib.hid (Hb1.out.trans (b2.mono Hb1.out.size))
  clear b2
  rcases hcs with ⟨h1, _⟩ | ⟨i, d, h1, h2, _⟩
  · have Hq : Hid (findY s l = none) := Lib.hid (by unfold findY; rw [h1]; rfl)
    rw [h1]
    go_wp2
    go_ret2
    exact ⟨by rw [Hq.out]; rfl, HB2.out⟩
  · have Hq : Hid (findY s l = some i) := Lib.hid (by
      unfold findY
      rw [h1, Nat.zero_add, if_neg (by omega)]
      simp)
    rw [h1, Nat.zero_add]
    have hi : ¬ ((i : Nat) : Int) < 0 := by omega
    clear h1
    go_wp2
    go_ret2
    exact ⟨by rw [Hq.out]; rfl, HB2.out⟩
end Go.Proofs.YtbpdfmpfnbdeoaaDoor
