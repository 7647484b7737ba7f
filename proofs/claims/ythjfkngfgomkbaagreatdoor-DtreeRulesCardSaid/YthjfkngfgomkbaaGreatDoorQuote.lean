/- text.Quote answers a symbol's text: a quote, each byte's sign, a quote; for every text of at most 2^30 bytes, in every world. -/
import Derived.Test.YthjfkngfgomkbaaGreatDoorBytes
namespace Go.Proofs.YthjfkngfgomkbaaGreatDoor
open Go.RowKit Go.Shelf

attribute [local go_sem] Oper.semAt_some

theorem Bd.kept {B b : Nat} {l : List UInt8} {W W' : World} {row : Option Nat} (h : Bd B b l W) (hg : W.grownBy W' row) (hr : ∀ r, row = some r → ∃ o : Obj, W.heap[r]? = some o ∧ o.isCells = false) : Bd B b l W' := by
  have k : ∀ p, Lib.BuilderAtF 73 5 B b p (Lib.byteCells l) W → Lib.BuilderAtF 73 5 B b p (Lib.byteCells l) W' := by
    rintro p ⟨hB, v, hb, hown, hne⟩
    refine ⟨hB, v, (grownBy_keeps_cells hg hr hb rfl).trans hb, hown.kept hg ?_, hne⟩
    rcases hown.2 with ⟨rfl, _⟩ | ⟨g, cap, cur, fz, rfl, _, hgg, _⟩
    · exact .inl rfl
    · right
      intro e
      obtain ⟨o, ho, hc⟩ := hr g e.symm
      rw [hgg] at ho
      cases ho
      cases hc
  exact h.elim (fun x => .inl (k _ x)) (fun x => .inr (k _ x))

theorem Kp.keepsOthers {B b : Nat} {l : List UInt8} {W W' : World} (h : Bd B b l W) (k : Kp B b W W') : KeepsOthers W W' := by
  refine ⟨k.below.size, fun i o hi ho => k.others i o hi ?_ ?_⟩
  · intro e
    obtain ⟨v, hb⟩ : ∃ p v, W.heap[b]? = some (.cells #[p, v] 73 (0, 0)) := by
      rcases h with ⟨_, v, hb, _⟩ | ⟨_, v, hb, _⟩ <;> exact ⟨_, v, hb⟩
    obtain ⟨v, hb⟩ := hb
    cases e
    rw [hb] at hi
    cases hi
    cases ho
  · rintro c fz rfl
    cases ho

theorem Kp.keepsBox {B b Bn : Nat} {s : ByteArray} {W W' : World} (hne : Bn ≠ b) (k : Kp B b W W') : KeepsBox Bn s W W' := by
  intro h
  refine k.others Bn _ h (fun e => hne (Option.some.inj e)) ?_
  intro c fz e
  cases e

/-- The text of a symbol. -/
def quoteL (l : List UInt8) : List UInt8 := 34 :: (l.flatMap sign ++ [34])

theorem flat_len (l : List UInt8) : (l.flatMap sign).length ≤ 4 * l.length := by
  induction l with
  | nil => simp
  | cons c l ih => have := sign_len c; simp only [List.flatMap_cons, List.length_append, List.length_cons]; omega

theorem grow_c (n : Int) (m : Nat) (hn : n = (m : Int)) (w : World) (hm : m ≤ 281474976710656) :
    Calls Tryz.prog 138 #[.pointer (some ⟨w.heap.size, 0, none⟩), .int .i64 n] (w.alloc (.cells #[.pointer none, .slice none 0 0] 73)) fun e w' =>
      e = .returned (.tuple #[]) ∧ Bd w.heap.size w.heap.size [] w' ∧ Below w.heap.size w w' ∧ w.heap.size < w'.heap.size := by
  subst hn
  refine (Tryz.Builder_Grow_fresh w.heap.size w.heap.size m _ (Nat.le_refl _) (World.alloc_heap_new w _) (by simp) hm).mono ?_
  rintro e w' ⟨rfl, h1, h2⟩
  refine ⟨rfl, .inr (.of h1), ((Below.refl _ w).alloc (Nat.le_refl _) _).trans h2, ?_⟩
  have := h2.size
  simp at this
  omega
theorem bstr_c (B b : Nat) (l : List UInt8) (w : World) (h : Bd B b l w) (hB : B ≤ w.heap.size) :
    Calls Tryz.prog 30 #[.pointer (some ⟨b, 0, none⟩)] w fun e w' => e = .returned (.string ⟨l.toArray⟩) ∧ Bd B b l w' ∧ Kp B b w w' := by
  refine (Tryz.Builder_String_any_k B b l w h hB).mono ?_
  rintro e w' ⟨rfl, h1, h2, h3⟩
  exact ⟨rfl, h1, h2, h3⟩

set_option maxRecDepth 100000 in
set_option maxHeartbeats 2000000 in
theorem quote_in (s : ByteArray) (hs : s.size ≤ 1073741824) (w : World) :
    CallsIn Fence.wide 6 Tryz.prog 124 #[.string s] w fun e W' => e = .returned (.string ⟨(quoteL s.data.toList).toArray⟩) ∧ Below w.heap.size w W' := by
  refine callsIn_of_wp_marks Tryz.func124 rfl trivial ?_ rfl
  simp only [Tryz.ntmps124, List.size_toArray, List.length_cons, List.length_nil, Nat.reduceAdd, Nat.reduceSub, Array.replicate_succ, Array.replicate_zero, List.push_toArray, List.append_toArray, List.nil_append, List.cons_append]
  gi_wp2_with fail
  refine ⟨trivial, (callsIn_wide.2 (grow_c _ (s.size + 2) (by omega) w (by omega))).mono ?_⟩
  rintro e w1 ⟨rfl, b1, k1, z1⟩
  gi_wp2_with fail
  refine ⟨trivial, (callsIn_wide.2 (writeByte_c _ _ [] 34 _ rfl _ b1 (by simp) (by omega))).mono ?_⟩
  rintro e w2 ⟨rfl, b2, k2⟩
  have z2 : w.heap.size < w2.heap.size := Nat.lt_of_lt_of_le z1 k2.below.size
  gi_wp2_with fail
  refine ⟨trivial, (eachByte_in _ s w2).mono ?_⟩
  rintro e w3 ⟨rfl, rfl⟩
  gi_wp2_with fail
  have hbox : BoxAt w2.heap.size s (w2.alloc (.cells #[.string s] 9)) := World.alloc_heap_new w2 _
  have hB3 : Below w.heap.size w (w2.alloc (.cells #[.string s] 9)) := (k1.trans k2.below).alloc (by omega) _
  have b3 : Bd w.heap.size w.heap.size [34] (w2.alloc (.cells #[.string s] 9)) := b2.kept (World.grownBy_alloc w2 _ none) (fun r e => by cases e)
  refine wpIn_rangeFunc_ownF rfl (by omega) (gf := 152) (lb := #[.pointer (some ⟨w2.heap.size, 0, none⟩)]) rfl trivial (enters_of Tryz.func152 (by kernel_rfl) rfl)
    (eachByte_stops 5 (by omega) w2.heap.size s hs (w2.alloc (.cells #[.string s] 9)) (by simp) hbox) (fun h k x => k (h x)) ?hKb (Below.refl _ _) (fun _ => rfl)
    (fun pre W => (Bd w.heap.size w.heap.size (34 :: pre.flatMap sign) W) ∧ Below w.heap.size w W)
    (fun _ _ _ => False)
    (OwnFrom.and (Own.from (fun s A B row hs hg hr => hs.kept hg hr) _) (ownFrom_below (Nat.le_refl _) (by simp; omega)))
    (fun _ _ _ _ _ hs _ _ => hs)
    ⟨b3, hB3⟩
    (fun x => { tmps := #[.string s, undef, .string ⟨#[]⟩, .pointer (some ⟨w.heap.size, 0, none⟩), .int .u8 (x.toNat : Int), .string s, .int .i64 s.size, .int .i64 (s.size + 2), .tuple #[], .nilIface, .string s, .func (.func 152) #[] #[.pointer (some ⟨w2.heap.size, 0, none⟩)], .int .u8 (x.toNat : Int), undef, undef, undef, undef], defers := [] }) ?assign ?body ?done ?stop
  case hKb =>
    intro W l o o' hl hl2 ho _ hb
    refine (grownBy_keeps_cells (grownBy_putObj' W l o') (fun r e => by cases e; exact ⟨o, hl2, ho⟩) hb rfl).trans hb
  case assign =>
    intro l x W K hK
    gi_wp2
    exact hK
  case body =>
    rintro l pre x W ⟨hb, hB⟩ hlen
    have hfl := flat_len pre
    have hsz := hB.size
    gi_wp2_with fail
    refine ⟨trivial, (CallsIn.inRound l (callsIn_wide.2 (writeSign_c _ _ _ x W hb (by simp only [List.length_cons]; omega) hB.size))).mono ?_⟩
    rintro e w4 ⟨rfl, b4, k4⟩
    gi_wp2
    exact ⟨k4.keepsOthers hb, k4.keepsBox (by omega), by simpa using b4, hB.trans k4.below⟩
  case done =>
    rintro D ys W hD rfl ⟨hb, hB⟩ hK
    have hfl := flat_len s.data.toList
    have hlen : s.data.toList.length = s.size := by simp
    gi_wp2_with fail
    refine ⟨trivial, (callsIn_wide.2 (writeByte_c _ _ _ 34 _ rfl _ hb (by simp only [List.length_cons]; omega) hB.size)).mono ?_⟩
    rintro e w4 ⟨rfl, b4, k4⟩
    have hK4 := (k4.keepsOthers hb).same D _ hK rfl
    gi_wp2_with fail
    refine ⟨trivial, (callsIn_wide.2 (bstr_c _ _ _ w4 b4 (Nat.le_trans hB.size k4.below.size))).mono ?_⟩
    rintro e w5 ⟨rfl, b5, k5⟩
    have hK5 := (k5.keepsOthers b4).same D _ hK4 rfl
    gi_wp2
    refine ⟨by simp, .inl ⟨_, _, rfl, run_takeDeferred hK5, ?_⟩⟩
    refine ⟨_, results_tmp rfl _ _ _, by simp [quoteL], ((hB.trans k4.below).trans k5.below).trans (belowK_b (w := w) (Nat.le_refl _) w5 D _ _ (by simp at hD; omega) hK5 rfl rfl)⟩
  case stop =>
    rintro D c pre W _ _ h _
    exact h.elim

theorem quote_c (s : ByteArray) (hs : s.size ≤ 1073741824) (w : World) :
    Calls Tryz.prog 124 #[.string s] w fun e W' => e = .returned (.string ⟨(quoteL s.data.toList).toArray⟩) ∧ Below w.heap.size w W' :=
  callsIn_wide.1 (quote_in s hs w)
end Go.Proofs.YthjfkngfgomkbaaGreatDoor
