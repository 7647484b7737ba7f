/- What dtree's writers read of the listed variables; what a builder's writers keep. -/
import Derived.Test.YthjfkngfgomkbaaGreatDoorTright
import Derived.Test.YthjfkngfgomkbaaGreatDoorTtext
import Derived.Test.YthjfkngfgomkbaaGreatDoorNumc
namespace Go.Proofs.YthjfkngfgomkbaaGreatDoor
open Go.RowKit

def bs (l : List UInt8) : Value := .string ⟨l.toArray⟩
def typeTab : List Value := [bs [], bs [110, 117, 109, 98, 101, 114], bs [115, 121, 109, 98, 111, 108]]
def signTab : List Value := [bs [], bs [], bs [], bs [], bs [], bs [43], bs [45], bs [42]]
def wordTab : List Value := [bs [], bs [], bs [], bs [61], bs [33, 61], bs [60], bs [60, 61], bs [99, 111, 117, 110, 116], bs [115, 117, 109], bs [109, 105, 110], bs [109, 97, 120]]
structure TEnv (a : Addr) (w : World) : Prop where
  err : TErr a w
  types : ∀ k v, typeTab[k]? = some v → w.cell? ⟨4, k, none⟩ = some v
  signs : ∀ k v, signTab[k]? = some v → w.cell? ⟨8, k, none⟩ = some v
  words : ∀ k v, wordTab[k]? = some v → w.cell? ⟨5, k, none⟩ = some v
  tab : Lib.TabIs Tryz.prog w "internal/strconv.uint64pow10" .u64 Lib.pow10Tab
  size : 12 ≤ w.heap.size
theorem gPow : Tryz.prog.globalNamed "internal/strconv.uint64pow10" = some 9 := by kernel_rfl
theorem TEnv.belowB {a : Addr} {w w' : World} {B : Nat} (h : TEnv a w) (hB : 12 ≤ B) (hb : Below B w w') : TEnv a w' := by
  refine ⟨⟨(hb.cell (p := ⟨1, 0, none⟩) (by show 1 < B; omega)).trans h.err.err, Nat.lt_of_lt_of_le h.err.size hb.size⟩, fun k v hk => (hb.cell (p := ⟨4, k, none⟩) (by show 4 < B; omega)).trans (h.types k v hk),
    fun k v hk => (hb.cell (p := ⟨8, k, none⟩) (by show 8 < B; omega)).trans (h.signs k v hk), fun k v hk => (hb.cell (p := ⟨5, k, none⟩) (by show 5 < B; omega)).trans (h.words k v hk), ?_, Nat.le_trans h.size hb.size⟩
  have ht := h.tab
  have he := hb.block 9 (by omega)
  unfold Lib.TabIs World.var? at ht ⊢
  simp only [gPow, Option.bind_some, he] at ht ⊢
  exact ht
theorem TEnv.below {a : Addr} {w w' : World} (h : TEnv a w) (hb : Below w.heap.size w w') : TEnv a w' := h.belowB h.size hb

theorem bdLt {B b : Nat} {l : List UInt8} {W : World} (h : Bd B b l W) : b < W.heap.size := by
  rcases h with ⟨_, v, hb, _⟩ | ⟨_, v, hb, _⟩ <;> exact (Array.getElem?_eq_some_iff.1 hb).1
theorem Kp.alloc {B b : Nat} {w : World} (hB : B ≤ w.heap.size) (o : Obj) : Kp B b w (w.alloc o) :=
  ⟨(Below.refl _ _).alloc hB _, fun k _ hk _ _ => (Below.heap_alloc w o k (Array.getElem?_eq_some_iff.1 hk).1).trans hk⟩
theorem Bd.alloc {B b : Nat} {l : List UInt8} {w : World} (h : Bd B b l w) (o : Obj) : Bd B b l (w.alloc o) := h.kept (World.grownBy_alloc w o none) (fun r e => by cases e)
/-- A row of cells that is no builder's. -/
def Row (n : Nat) (T : TypeId) (cs : List Value) (w : World) : Prop := w.heap[n]? = some (.cells cs.toArray T (0, 0))
theorem Row.new (w : World) (T : TypeId) (cs : List Value) : Row w.heap.size T cs (w.alloc (.cells cs.toArray T)) := World.alloc_heap_new w _
theorem Row.kp {B b n : Nat} {T : TypeId} {cs : List Value} {w w' : World} (h : Row n T cs w) (k : Kp B b w w') (hb : n ≠ b) (hT : T ≠ 5) : Row n T cs w' :=
  k.others n _ h (fun e => hb (Option.some.inj e)) (fun c fz e => by cases e; exact hT rfl)
theorem Row.below {B n : Nat} {T : TypeId} {cs : List Value} {w w' : World} (h : Row n T cs w) (k : Below B w w') (hn : n < B) : Row n T cs w' := (k.block n hn).trans h
theorem Row.cells {n : Nat} {T : TypeId} {cs : List Value} {w : World} (h : Row n T cs w) : CellsAt w ⟨n, 0, none⟩ 0 cs := by
  intro j c hj
  have hadd : (⟨n, 0, none⟩ : Addr).add (0 + j) = ⟨n, j, none⟩ := by unfold Addr.add; split <;> simp_all
  rw [hadd]
  unfold World.cell?
  simp only [show w.heap[n]? = _ from h]
  simpa using hj
theorem Row.at {n : Nat} {T : TypeId} {cs : List Value} {w : World} (h : Row n T cs w) (j : Nat) (c : Value) (hj : cs[j]? = some c) : w.cell? ⟨n, j, none⟩ = some c := by
  have := h.cells j c hj
  have hadd : (⟨n, 0, none⟩ : Addr).add (0 + j) = ⟨n, j, none⟩ := by unfold Addr.add; split <;> simp_all
  rwa [hadd] at this

theorem Bd.past {B b : Nat} {l : List UInt8} {W W' : World} (h : Bd B b l W) (k : Below W.heap.size W W') : Bd B b l W' :=
  h.kept (row := none) ⟨k.os, k.tape, k.output, k.size, fun i hi _ => k.block i hi⟩ (fun r e => by cases e)
theorem Kp.past {B b : Nat} {W W' : World} (hB : B ≤ W.heap.size) (k : Below W.heap.size W W') : Kp B b W W' :=
  ⟨k.mono hB, fun i _ hi _ _ => (k.block i (Array.getElem?_eq_some_iff.1 hi).1).trans hi⟩
/-- A term in a slice below B, as a writer reads it. -/
theorem tm_atB {w wr : World} {B : Nat} {l : List Tm} {o : Option Addr} {k : Nat} {t : Tm} (S : Hid (SlIn w B 4 (TmC w B) l o)) (hB : Below B w wr) (ht : l[k]? = some t) :
    ∃ a o' cap', o = some a ∧ a.block < B ∧ Hid (TmC wr B t [.int .i64 t.op, .string t.s, .int .i64 t.n, .slice o' t.l.length cap']) ∧
      wr.cell? (a.add (k * 4)) = some (.int .i64 t.op) ∧ wr.cell? ⟨(a.add (k * 4)).block, (a.add (k * 4)).off + 1, none⟩ = some (.string t.s) ∧ wr.cell? ⟨(a.add (k * 4)).block, (a.add (k * 4)).off + 2, none⟩ = some (.int .i64 t.n) ∧ wr.cell? ⟨(a.add (k * 4)).block, (a.add (k * 4)).off + 3, none⟩ = some (.slice o' t.l.length cap') := by
  obtain ⟨a, cs, rfl, ha, _, h1, h2⟩ := S.out k t ht
  obtain ⟨o', cap', rfl, _⟩ := h1.look
  exact ⟨a, o', cap', rfl, ha, Lib.hid (h1.under hB), (h2.below ha hB).four⟩
theorem bs_size (l : List UInt8) : (⟨l.toArray⟩ : ByteArray).size = l.length := by simp [ByteArray.size]

/-- What a writer does: it appends the bytes x to the builder in block b. -/
def Wrote (B b : Nat) (l x : List UInt8) (w : World) (e : Ending) (w' : World) : Prop := e = .returned (.tuple #[]) ∧ Bd B b (l ++ x) w' ∧ Kp B b w w'
end Go.Proofs.YthjfkngfgomkbaaGreatDoor
