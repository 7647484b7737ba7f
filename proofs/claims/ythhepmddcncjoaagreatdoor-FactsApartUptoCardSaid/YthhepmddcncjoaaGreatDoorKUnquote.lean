/- text.Unquote answers the symbol that a text says, in every world that holds the listed variables, for every text of at most 2^30 bytes. What the plain functions behind text.Unquote make of quoted bytes, and back: facts of lists alone. Layer 10 in plain: a row's line, a stream's rows. Facts of lists alone. Layer 10 in plain: what follows. -/
import Derived.Test.YthhepmddcncjoaaGreatDoorKSign
import Derived.WalkMore
import Derived.Test.YthhepmddcncjoaaGreatDoorKConv
import Derived.Test.YthhepmddcncjoaaGreatDoorKRng
import Derived.Test.YthhepmddcncjoaaGreatDoorKRef
import Derived.Test.YthhepmddcncjoaaGreatDoorKTlook
set_option linter.unusedSimpArgs false
set_option linter.unusedVariables false
namespace Go.Proofs.YthhepmddcncjoaaGreatDoor
open Go.RowKit Go.Shelf

attribute [local go_sem] Oper.semAt_some

def unqS (l : List (UInt8 × Bool)) : Option (List UInt8) := if l.all (fun x => !x.2) = true then some (l.map (·.1)) else none
def unqV : Option (List UInt8) → Value
  | some t => .tuple #[.string ⟨t.toArray⟩, .int .i64 0]
  | none => .tuple #[.string ⟨#[]⟩, .int .i64 10]

theorem wpIn_scope_wide {n : Nat} {P : Program} {c : Code} {Q : Exit → Act → World → Prop} {a : Act} {w : World} (h : c.wpIn Fence.wide n P (Exit.noGoto Q) a w) : (Code.scope c).wpIn Fence.wide n P Q a w :=
  wpIn_wide.2 (wp_scope_straight (wpIn_wide.1 h))

theorem Bd.lt {B b : Nat} {l : List UInt8} {W : World} (h : Bd B b l W) : b < W.heap.size := by
  rcases h with ⟨_, v, hb, _⟩ | ⟨_, v, hb, _⟩ <;> exact (Array.getElem?_eq_some_iff.1 hb).1
theorem one_cell {W : World} {k : Nat} {v : Value} {t : TypeId} (h : W.heap[k]? = some (.cells #[v] t (0, 0))) : W.cell? ⟨k, 0, none⟩ = some v ∧ W.frozen? ⟨k, 0, none⟩ = false := by
  simp [World.cell?, World.frozen?, h]
def wrongV (a : Addr) (bad : Bool) : Value := if bad then .iface 256 (.pointer (some a)) else .nilIface

set_option maxRecDepth 100000 in
set_option maxHeartbeats 4000000 in
theorem unquote_ok (s : ByteArray) (inner : List UInt8) (hi : inner.length ≤ 1073741824) (a : Addr) (w : World) (hz : 3 ≤ w.heap.size) (herr : ErrAt a w)
    (hb : Calls Tryz.prog 119 #[.string s] w fun e w' => e = .returned (.tuple #[.string ⟨inner.toArray⟩, .nilIface]) ∧ ∃ k, w' = w.drewN k) :
    CallsIn Fence.wide 6 Tryz.prog 87 #[.string s] w fun e W' => e = .returned (unqV (unqS (seqS inner.length inner))) ∧ Below w.heap.size w W' := by
  have Hb := Lib.hid hb
  clear hb
  have HE := Lib.hid herr
  clear herr
  refine callsIn_of_wp_marks Tryz.func87 rfl trivial ?_ rfl
  simp only [Tryz.ntmps87, List.size_toArray, List.length_cons, List.length_nil, Nat.reduceAdd, Nat.reduceSub, Array.replicate_succ, Array.replicate_zero, List.push_toArray, List.append_toArray, List.nil_append, List.cons_append]
  gi_wp2_with fail
  refine wpIn_scope_wide ?_
  gi_wp2_with fail
  refine ⟨trivial, (callsIn_wide.2 Hb.out).mono ?_⟩
  rintro e w1 ⟨rfl, q, hw1⟩
  have b1 : Below w.heap.size w w1 := by rw [hw1]; exact below_drewN (Below.refl _ _) q
  have z1 : w1.heap.size = w.heap.size := by rw [hw1]; rfl
  have E1 : Hid (ErrAt a w1) := Lib.hid (by rw [hw1]; exact HE.out)
  have Z1 := Lib.hid z1
  clear hw1 z1
  gi_wp2_with fail
  refine wpIn_label ?_
  gi_wp2_with fail
  refine ⟨trivial, (eachSign_in _ ⟨inner.toArray⟩ _).mono ?_⟩
  rintro e w3 ⟨rfl, rfl⟩
  gi_wp2_with fail
  obtain ⟨n0, hn0⟩ : ∃ n0, w1.heap.size = n0 := ⟨_, rfl⟩
  obtain ⟨WL, hWL⟩ : ∃ WL, (((w1.alloc (.cells #[.nilIface] 63)).alloc (.cells #[.pointer none, .slice none 0 0] 79)).alloc (.cells #[.string ⟨inner.toArray⟩] 9)) = WL := ⟨_, rfl⟩
  have hn2 : 3 ≤ n0 := by rw [← hn0, Z1.out]; exact hz
  have hsz : WL.heap.size = n0 + 3 := by rw [← hWL]; simp; omega
  have hbox : BoxAt (n0 + 2) ⟨inner.toArray⟩ WL := by
    have := World.alloc_heap_new ((w1.alloc (.cells #[.nilIface] 63)).alloc (.cells #[.pointer none, .slice none 0 0] 79)) (.cells #[.string ⟨inner.toArray⟩] 9)
    rw [hWL] at this
    unfold BoxAt
    simpa [hn0] using this
  have hBL : Below n0 w1 WL := by
    rw [← hWL]
    exact (((Below.refl _ w1).alloc (by omega) _).alloc (by simp; omega) _).alloc (by simp; omega) _
  have hbd : Bd (n0 + 1) (n0 + 1) [] WL := by
    have := Lib.IsBuilderF.of (Lib.fresh_isBuilder 79 5 (w1.alloc (.cells #[.nilIface] 63)))
    have h2 := Lib.IsBuilderF.alloc this (.cells #[.string ⟨inner.toArray⟩] 9)
    rw [hWL] at h2
    simpa [hn0, Bd, Lib.byteCells] using h2
  have hw0 : WL.heap[n0]? = some (.cells #[.nilIface] 63 (0, 0)) := by
    have h1 := World.alloc_heap_new w1 (.cells #[.nilIface] 63)
    rw [hn0] at h1
    rw [← hWL]
    exact (Below.heap_alloc _ _ _ (by simp; omega)).trans ((Below.heap_alloc _ _ _ (by simp; omega)).trans h1)
  have hwc := (one_cell hw0).1
  have hwf := (one_cell hw0).2
  have herL : ErrAt a WL := (hBL.cell (p := ⟨2, 0, none⟩) (by show 2 < n0; omega)).trans E1.out
  rw [hWL, hn0]
  have Hn0 := Lib.hid hn0
  clear hWL hn0
  refine wpIn_rangeFunc_ownF rfl (by omega) (gf := 152) (lb := #[.pointer (some ⟨n0 + 1 + 1, 0, none⟩)]) rfl trivial (enters_of Tryz.func152 (by kernel_rfl) rfl)
    (eachSign_stops 5 (by omega) (n0 + 2) ⟨inner.toArray⟩ hi a WL (by omega) hbox (by omega) herL) (fun h k => ⟨fun x => k.1 (h.1 x), fun x => k.2 (h.2 x)⟩) ?hKb (Below.refl _ _) (fun _ => rfl)
    (fun pre W => ((Bd (n0 + 1) (n0 + 1) (pre.map (·.1)) W ∧ (∀ x ∈ pre, x.2 = false)) ∧ W.cell? ⟨n0, 0, none⟩ = some .nilIface ∧ W.frozen? ⟨n0, 0, none⟩ = false) ∧ Below n0 w1 W)
    (fun c pre W => ((c = .exit 0 ∧ (∃ x ∈ pre, x.2 = true)) ∧ W.cell? ⟨n0, 0, none⟩ = some (.iface 256 (.pointer (some a)))) ∧ Below n0 w1 W)
    (OwnFrom.and (Own.from (fun s A B row hs hg hr => ⟨⟨hs.1.1.kept hg hr, hs.1.2⟩, cell_kept hs.2.1 hg hr, (frozen_kept hs.2.1 hg hr).trans hs.2.2⟩) _) (ownFrom_below (by rw [← Hn0.out]; exact Nat.le_refl _) (by omega)))
    (fun c => OwnFrom.and (Own.from (fun s A B row hs hg hr => ⟨hs.1, cell_kept hs.2 hg hr⟩) _) (ownFrom_below (by rw [← Hn0.out]; exact Nat.le_refl _) (by omega)))
    ⟨⟨⟨hbd, by simp⟩, hwc, hwf⟩, hBL⟩
    (fun x => { tmps := #[.string s, undef, .string ⟨#[]⟩, .int .i64 0, .string ⟨inner.toArray⟩, .pointer (some ⟨n0, 0, none⟩), .pointer (some ⟨n0 + 1, 0, none⟩), .int .u8 (x.1.toNat : Int), (if x.2 then .iface 256 (.pointer (some a)) else .nilIface), .tuple #[.string ⟨inner.toArray⟩, .nilIface], .string s, .tuple #[.string ⟨inner.toArray⟩, .nilIface], .string ⟨inner.toArray⟩, .nilIface, .string ⟨inner.toArray⟩, .func (.func 152) #[] #[.pointer (some ⟨n0 + 1 + 1, 0, none⟩)], .int .u8 (x.1.toNat : Int), (if x.2 then .iface 256 (.pointer (some a)) else .nilIface), undef, undef, undef, undef, undef, undef, undef, undef, undef, undef], defers := [] }) ?assign ?body ?done ?stop
  case hKb =>
    intro W l o o' hl hl2 ho _
    have hr : ∀ r, some l = some r → ∃ o : Obj, W.heap[r]? = some o ∧ o.isCells = false := fun r e => by cases e; exact ⟨o, hl2, ho⟩
    exact ⟨fun hb => (grownBy_keeps_cells (grownBy_putObj' W l o') hr hb rfl).trans hb, fun he => cell_kept he (grownBy_putObj' W l o') hr⟩
  case assign =>
    intro l x W K hK
    obtain ⟨c, bad⟩ := x
    cases bad with
    | true =>
      simp only [encS, if_true] at hK ⊢
      gi_wp2
      exact hK
    | false =>
      simp only [encS, Bool.false_eq_true, if_false] at hK ⊢
      gi_wp2
      exact hK
  case body =>
    rintro l pre ⟨c, bad⟩ W ⟨⟨⟨hb, hal⟩, hc, hf⟩, hB⟩ hlen
    cases bad with
    | true =>
      simp only [if_true]
      gi_wp2
      exact ⟨KeepsOthers.setCell _ _ _, ⟨⟨rfl, (c, true), by simp, rfl⟩, World.cell?_setCell_same' _ _ _ (by rw [hc]; rfl)⟩, hB.setCell (p := ⟨n0, 0, none⟩) (Nat.le_refl _) _⟩
    | false =>
      simp only [Bool.false_eq_true, if_false]
      have hB1 : n0 + 1 ≤ W.heap.size := Nat.le_of_lt hb.lt
      have hlen' : pre.length < inner.length := hlen
      gi_wp2_with fail
      refine ⟨trivial, (CallsIn.inRound l (callsIn_wide.2 (writeByte_c _ _ _ c _ rfl W hb (by simp; omega) hB1))).mono ?_⟩
      rintro e w4 ⟨rfl, b4, k4⟩
      gi_wp2
      refine ⟨k4.keepsOthers hb, ⟨k4.keepsBox (by omega), fun he => (k4.below.cell (p := ⟨2, 0, none⟩) (by show 2 < n0 + 1; omega)).trans he⟩, ⟨⟨by simpa using b4, ?_⟩, (k4.below.cell (p := ⟨n0, 0, none⟩) (by show n0 < n0 + 1; omega)).trans hc, (k4.below.frozen (p := ⟨n0, 0, none⟩) (by show n0 < n0 + 1; omega)).trans hf⟩, hB.trans (k4.below.mono (by omega))⟩
      intro x hx
      rcases List.mem_append.1 hx with hx | hx
      · exact hal x hx
      · obtain rfl : x = _ := List.mem_singleton.1 hx
        rfl
  case done =>
    rintro D ys W hD rfl ⟨⟨⟨hb, hal⟩, hc, hf⟩, hB⟩ hK
    have herW : ErrAt a W := (hB.cell (p := ⟨2, 0, none⟩) (by show 2 < n0; omega)).trans E1.out
    unfold ErrAt at herW
    have hB1 : n0 + 1 ≤ W.heap.size := Nat.le_of_lt hb.lt
    have hq : unqS (seqS inner.length inner) = some ((seqS inner.length inner).map (·.1)) := by
      unfold unqS
      rw [if_pos]
      rw [List.all_eq_true]
      intro x hx
      rw [hal x hx]
      rfl
    have Hq := Lib.hid hq
    clear hq
    gi_wp2_with fail
    refine ⟨trivial, (callsIn_wide.2 (is_nil a W)).mono ?_⟩
    rintro e w4 ⟨rfl, rfl⟩
    gi_wp2_with fail
    refine ⟨trivial, (callsIn_wide.2 (bstr_c _ _ _ W hb hB1)).mono ?_⟩
    rintro e w5 ⟨rfl, b5, k5⟩
    have hK5 := (k5.keepsOthers hb).same D _ hK rfl
    gi_wp2
    rw [Exit.noGoto_ret]
    refine ⟨by simp, .inl ⟨_, _, rfl, run_takeDeferred hK5, ?_⟩⟩
    refine ⟨_, results_tmp2 rfl _ _ _, by rw [Hq.out]; rfl, ?_⟩
    refine b1.trans ((hB.mono (by rw [← Hn0.out, Z1.out]; exact Nat.le_refl _)).trans ((k5.below.mono (by rw [← Hn0.out, Z1.out]; omega)).trans (belowK_b (w := w) (Nat.le_refl _) w5 D _ _ ?_ hK5 rfl rfl)))
    rw [← Z1.out, Hn0.out]
    omega
  case stop =>
    rintro D c pre W hD hp ⟨⟨⟨rfl, hx⟩, hc⟩, hB⟩ hK
    have herW : ErrAt a W := (hB.cell (p := ⟨2, 0, none⟩) (by show 2 < n0; omega)).trans E1.out
    unfold ErrAt at herW
    gi_wp2_with fail
    refine ⟨trivial, (callsIn_wide.2 (is_same a W)).mono ?_⟩
    rintro e w4 ⟨rfl, rfl⟩
    have hq : unqS (seqS inner.length inner) = none := by
      obtain ⟨x, hx1, hx2⟩ := hx
      unfold unqS
      rw [if_neg]
      intro hall
      have := List.all_eq_true.1 hall x (hp.subset hx1)
      rw [hx2] at this
      cases this
    have Hq := Lib.hid hq
    clear hq
    gi_wp2
    rw [Exit.noGoto_ret]
    refine ⟨by simp, .inl ⟨_, _, rfl, run_takeDeferred hK, ?_⟩⟩
    refine ⟨_, results_tmp2 rfl _ _ _, by rw [Hq.out]; rfl, ?_⟩
    refine b1.trans ((hB.mono (by rw [← Hn0.out, Z1.out]; exact Nat.le_refl _)).trans (belowK_b (w := w) (Nat.le_refl _) W D _ _ ?_ hK rfl rfl))
    rw [← Z1.out, Hn0.out]
    omega
set_option maxRecDepth 100000 in
set_option maxHeartbeats 4000000 in
theorem unquote_bad (s : ByteArray) (a : Addr) (w : World) (hz : 3 ≤ w.heap.size) (herr : ErrAt a w)
    (hb : Calls Tryz.prog 119 #[.string s] w fun e w' => e = .returned (.tuple #[.string ⟨#[]⟩, .iface 256 (.pointer (some a))]) ∧ ∃ k, w' = w.drewN k) :
    CallsIn Fence.wide 6 Tryz.prog 87 #[.string s] w fun e W' => e = .returned (unqV none) ∧ Below w.heap.size w W' := by
  have Hb := Lib.hid hb
  clear hb
  have HE := Lib.hid herr
  clear herr
  refine callsIn_of_wp_marks Tryz.func87 rfl trivial ?_ rfl
  simp only [Tryz.ntmps87, List.size_toArray, List.length_cons, List.length_nil, Nat.reduceAdd, Nat.reduceSub, Array.replicate_succ, Array.replicate_zero, List.push_toArray, List.append_toArray, List.nil_append, List.cons_append]
  gi_wp2_with fail
  refine wpIn_scope_wide ?_
  gi_wp2_with fail
  refine ⟨trivial, (callsIn_wide.2 Hb.out).mono ?_⟩
  rintro e w1 ⟨rfl, q, hw1⟩
  have b1 : Below w.heap.size w w1 := by rw [hw1]; exact below_drewN (Below.refl _ _) q
  have z1 : w1.heap.size = w.heap.size := by rw [hw1]; rfl
  have E1 : Hid (ErrAt a w1) := Lib.hid (by rw [hw1]; exact HE.out)
  have Z1 := Lib.hid z1
  clear hw1 z1
  gi_wp2_with fail
  refine wpIn_label ?_
  gi_wp2_with fail
  refine ⟨trivial, (eachSign_in _ ⟨#[]⟩ _).mono ?_⟩
  rintro e w3 ⟨rfl, rfl⟩
  gi_wp2_with fail
  obtain ⟨n0, hn0⟩ : ∃ n0, w1.heap.size = n0 := ⟨_, rfl⟩
  obtain ⟨WL, hWL⟩ : ∃ WL, (((w1.alloc (.cells #[.iface 256 (.pointer (some a))] 63)).alloc (.cells #[.pointer none, .slice none 0 0] 79)).alloc (.cells #[.string ⟨#[]⟩] 9)) = WL := ⟨_, rfl⟩
  have hn2 : 3 ≤ n0 := by rw [← hn0, Z1.out]; exact hz
  have hsz : WL.heap.size = n0 + 3 := by rw [← hWL]; simp; omega
  have hbox : BoxAt (n0 + 2) ⟨#[]⟩ WL := by
    have := World.alloc_heap_new ((w1.alloc (.cells #[.iface 256 (.pointer (some a))] 63)).alloc (.cells #[.pointer none, .slice none 0 0] 79)) (.cells #[.string ⟨#[]⟩] 9)
    rw [hWL] at this
    unfold BoxAt
    simpa [hn0] using this
  have hBL : Below n0 w1 WL := by
    rw [← hWL]
    exact (((Below.refl _ w1).alloc (by omega) _).alloc (by simp; omega) _).alloc (by simp; omega) _
  have hw0 : WL.heap[n0]? = some (.cells #[.iface 256 (.pointer (some a))] 63 (0, 0)) := by
    have h1 := World.alloc_heap_new w1 (.cells #[.iface 256 (.pointer (some a))] 63)
    rw [hn0] at h1
    rw [← hWL]
    exact (Below.heap_alloc _ _ _ (by simp; omega)).trans ((Below.heap_alloc _ _ _ (by simp; omega)).trans h1)
  have hwc := (one_cell hw0).1
  have herL : ErrAt a WL := (hBL.cell (p := ⟨2, 0, none⟩) (by show 2 < n0; omega)).trans E1.out
  rw [hWL, hn0]
  have Hn0 := Lib.hid hn0
  clear hWL hn0
  refine wpIn_rangeFunc_ownF rfl (by omega) (gf := 152) (lb := #[.pointer (some ⟨n0 + 1 + 1, 0, none⟩)]) rfl trivial (enters_of Tryz.func152 (by kernel_rfl) rfl)
    (eachSign_stops 5 (by omega) (n0 + 2) ⟨#[]⟩ (by decide) a WL (by omega) hbox (by omega) herL) (fun h k => ⟨fun x => k.1 (h.1 x), fun x => k.2 (h.2 x)⟩) ?hKb (Below.refl _ _) (fun _ => rfl)
    (fun _ W => W.cell? ⟨n0, 0, none⟩ = some (.iface 256 (.pointer (some a))) ∧ Below n0 w1 W)
    (fun _ _ _ => False)
    (OwnFrom.and (Own.from (fun s A B row hs hg hr => cell_kept hs hg hr) _) (ownFrom_below (by rw [← Hn0.out]; exact Nat.le_refl _) (by omega)))
    (fun _ _ _ _ _ hs _ _ => hs)
    ⟨hwc, hBL⟩
    (fun x => { tmps := #[.string s, undef, .string ⟨#[]⟩, .int .i64 0, .string ⟨#[]⟩, .pointer (some ⟨n0, 0, none⟩), .pointer (some ⟨n0 + 1, 0, none⟩), .int .u8 (x.1.toNat : Int), (if x.2 then .iface 256 (.pointer (some a)) else .nilIface), .tuple #[.string ⟨#[]⟩, .iface 256 (.pointer (some a))], .string s, .tuple #[.string ⟨#[]⟩, .iface 256 (.pointer (some a))], .string ⟨#[]⟩, .iface 256 (.pointer (some a)), .string ⟨#[]⟩, .func (.func 152) #[] #[.pointer (some ⟨n0 + 1 + 1, 0, none⟩)], .int .u8 (x.1.toNat : Int), (if x.2 then .iface 256 (.pointer (some a)) else .nilIface), undef, undef, undef, undef, undef, undef, undef, undef, undef, undef], defers := [] }) ?assign ?body ?done ?stop
  case hKb =>
    intro W l o o' hl hl2 ho _
    have hr : ∀ r, some l = some r → ∃ o : Obj, W.heap[r]? = some o ∧ o.isCells = false := fun r e => by cases e; exact ⟨o, hl2, ho⟩
    exact ⟨fun hb => (grownBy_keeps_cells (grownBy_putObj' W l o') hr hb rfl).trans hb, fun he => cell_kept he (grownBy_putObj' W l o') hr⟩
  case assign =>
    intro l x W K hK
    obtain ⟨c, bad⟩ := x
    cases bad with
    | true =>
      simp only [encS, if_true] at hK ⊢
      gi_wp2
      exact hK
    | false =>
      simp only [encS, Bool.false_eq_true, if_false] at hK ⊢
      gi_wp2
      exact hK
  case body =>
    rintro l pre x W _ hlen
    exact absurd hlen (Nat.not_lt_zero _)
  case done =>
    rintro D ys W hD _ ⟨hc, hB⟩ hK
    have herW : ErrAt a W := (hB.cell (p := ⟨2, 0, none⟩) (by show 2 < n0; omega)).trans E1.out
    unfold ErrAt at herW
    gi_wp2_with fail
    refine ⟨trivial, (callsIn_wide.2 (is_same a W)).mono ?_⟩
    rintro e w4 ⟨rfl, rfl⟩
    gi_wp2
    rw [Exit.noGoto_ret]
    refine ⟨by simp, .inl ⟨_, _, rfl, run_takeDeferred hK, ?_⟩⟩
    refine ⟨_, results_tmp2 rfl _ _ _, rfl, ?_⟩
    refine b1.trans ((hB.mono (by rw [← Hn0.out, Z1.out]; exact Nat.le_refl _)).trans (belowK_b (w := w) (Nat.le_refl _) W D _ _ ?_ hK rfl rfl))
    rw [← Z1.out, Hn0.out]
    omega
  case stop =>
    rintro D c pre W _ _ h _
    exact h.elim

/-- The symbol whose text it is. -/
def unqL (l : List UInt8) : Option (List UInt8) := (betw l).bind fun inner => unqS (seqS inner.length inner)
theorem betw_len (l inner : List UInt8) (h : betw l = some inner) : inner.length ≤ l.length := by
  unfold betw at h
  split at h
  · cases h
    exact Nat.le_trans (Lib.trimSuffix_le _ _) (Lib.trimPrefix_le _ _)
  · cases h

theorem unquote_c (s : ByteArray) (a : Addr) (w : World) (hs : s.size ≤ 1073741824) (E : Env a w) :
    Calls Tryz.prog 87 #[.string s] w fun e W' => e = .returned (unqV (unqL s.data.toList)) ∧ Below w.heap.size w W' := by
  have hb := between_c s a w hs E.err
  unfold unqL
  cases hi : betw s.data.toList with
  | none =>
    rw [hi] at hb
    exact callsIn_wide.1 (unquote_bad s a w E.size E.err hb)
  | some inner =>
    rw [hi] at hb
    have hl := betw_len _ _ hi
    have hlen : s.data.toList.length = s.size := by simp
    exact callsIn_wide.1 (unquote_ok s inner (by omega) a w E.size E.err hb)
end Go.Proofs.YthhepmddcncjoaaGreatDoor
namespace Go.Proofs.YthhepmddcncjoaaGreatDoor
open Go.RowKit

theorem sign_kinds_fin : ∀ c : Fin 256, (sign (UInt8.ofNat c.1) = [UInt8.ofNat c.1] ∧ UInt8.ofNat c.1 ≠ 92 ∧ UInt8.ofNat c.1 ≠ 34 ∧ plainB ((UInt8.ofNat c.1).toNat : Int) = true) ∨
    (sign (UInt8.ofNat c.1) = [92, 110] ∧ UInt8.ofNat c.1 = 10) ∨ (sign (UInt8.ofNat c.1) = [92, 34] ∧ UInt8.ofNat c.1 = 34) ∨ (sign (UInt8.ofNat c.1) = [92, 92] ∧ UInt8.ofNat c.1 = 92) ∨
    (sign (UInt8.ofNat c.1) = [92, 120, hexL.getD (c.1 / 16) 0, hexL.getD (c.1 % 16) 0] ∧ hexIx (hexL.getD (c.1 / 16) 0) = (c.1 / 16 : Nat) ∧ hexIx (hexL.getD (c.1 % 16) 0) = (c.1 % 16 : Nat) ∧ plainB (c.1 : Int) = false ∧ c.1 ≠ 10) := by decide +kernel
theorem hex_back_fin : ∀ c : Fin 256, 0 ≤ hexIx (UInt8.ofNat c.1) → hexL.getD (hexIx (UInt8.ofNat c.1)).toNat 0 = UInt8.ofNat c.1 := by decide +kernel
theorem hex_back (c : UInt8) (h : 0 ≤ hexIx c) : hexL.getD (hexIx c).toNat 0 = c := by
  have := hex_back_fin ⟨c.toNat, c.toNat_lt⟩
  simp only [ofNat_toNat] at this
  exact this h
theorem sign_hex_fin : ∀ h l : Fin 16, plainB (16 * (h.1 : Int) + (l.1 : Int)) = false → 16 * (h.1 : Int) + (l.1 : Int) ≠ 10 → sign (UInt8.ofNat (16 * h.1 + l.1)) = [92, 120, hexL.getD h.1 0, hexL.getD l.1 0] := by decide +kernel
theorem sign_plain_fin : ∀ c : Fin 256, UInt8.ofNat c.1 ≠ 92 → UInt8.ofNat c.1 ≠ 34 → plainB ((UInt8.ofNat c.1).toNat : Int) = true → sign (UInt8.ofNat c.1) = [UInt8.ofNat c.1] := by decide +kernel

theorem firstS_sign (c : UInt8) (r : List UInt8) : firstS (sign c ++ r) = some (c, (sign c).length) := by
  have hk := sign_kinds_fin ⟨c.toNat, c.toNat_lt⟩
  simp only [ofNat_toNat] at hk
  rcases hk with ⟨hs, h1, h2, h3⟩ | ⟨hs, h1⟩ | ⟨hs, h1⟩ | ⟨hs, h1⟩ | ⟨hs, h1, h2, h3, h4⟩
  · rw [hs]
    unfold firstS
    simp only [List.cons_append, List.nil_append, List.getD_cons_zero, List.length_cons, List.length_nil]
    rw [if_neg h1, if_neg (by rintro (h | h); exact h2 h; exact h h3)]
  · rw [hs, h1]
    simp [firstS, escS]
  · rw [hs, h1]
    simp [firstS, escS]
  · rw [hs, h1]
    simp [firstS, escS]
  · rw [hs]
    have e : 16 * hexIx (hexL.getD (c.toNat / 16) 0) + hexIx (hexL.getD (c.toNat % 16) 0) = (c.toNat : Int) := by rw [h1, h2]; omega
    have hx : hexS4 (92 :: 120 :: hexL.getD (c.toNat / 16) 0 :: hexL.getD (c.toNat % 16) 0 :: r) = some (c, 4) := by
      unfold hexS4
      simp only [List.getD_cons_zero, List.getD_cons_succ, List.length_cons]
      rw [if_neg (by omega), if_neg (by rw [h1, h2]; omega), e, if_neg (by rw [h3]; rintro (h | h); cases h; exact h4 (by omega))]
      simp
    unfold firstS escS
    simp only [List.cons_append, List.nil_append, List.getD_cons_zero, List.getD_cons_succ, List.length_cons, List.length_nil, if_true]
    rw [if_neg (by omega), if_neg (by decide), if_neg (by decide), if_neg (by decide), hx]

theorem firstS_back {l : List UInt8} {c : UInt8} {n : Nat} (h : firstS l = some (c, n)) : l = sign c ++ l.drop n := by
  cases l with
  | nil =>
    have h0 : firstS [] = none := by decide
    rw [h0] at h
    cases h
  | cons x r =>
    unfold firstS at h
    simp only [List.getD_cons_zero] at h
    by_cases hx : x = 92
    · subst hx
      rw [if_pos rfl] at h
      unfold escS at h
      cases r with
      | nil => simp at h
      | cons y r =>
        simp only [List.getD_cons_zero, List.getD_cons_succ, List.length_cons] at h
        rw [if_neg (by omega)] at h
        by_cases y1 : y = 110
        · subst y1
          rw [if_pos rfl] at h
          cases h
          rfl
        rw [if_neg y1] at h
        by_cases y2 : y = 34
        · subst y2
          rw [if_pos rfl] at h
          cases h
          rfl
        rw [if_neg y2] at h
        by_cases y3 : y = 92
        · subst y3
          rw [if_pos rfl] at h
          cases h
          rfl
        rw [if_neg y3] at h
        by_cases y4 : y = 120
        · subst y4
          rw [if_pos rfl] at h
          unfold hexS4 at h
          cases r with
          | nil => simp at h
          | cons a r =>
          cases r with
          | nil => simp at h
          | cons b r =>
            simp only [List.getD_cons_zero, List.getD_cons_succ, List.length_cons] at h
            rw [if_neg (by omega)] at h
            by_cases hn : hexIx a < 0 ∨ hexIx b < 0
            · rw [if_pos hn] at h; cases h
            rw [if_neg hn] at h
            by_cases hp : plainB (16 * hexIx a + hexIx b) = true ∨ 16 * hexIx a + hexIx b = 10
            · rw [if_pos hp] at h; cases h
            rw [if_neg hp] at h
            cases h
            have ha := hexIx_in a
            have hb := hexIx_in b
            have ea := hex_back a (by omega)
            have eb := hex_back b (by omega)
            have hs := sign_hex_fin ⟨(hexIx a).toNat, by omega⟩ ⟨(hexIx b).toNat, by omega⟩
            simp only [Int.toNat_of_nonneg (show 0 ≤ hexIx a by omega), Int.toNat_of_nonneg (show 0 ≤ hexIx b by omega), ea, eb] at hs
            have e : (16 * hexIx a + hexIx b).toNat = 16 * (hexIx a).toNat + (hexIx b).toNat := by omega
            rw [e, hs (by simpa using fun h => hp (.inl h)) (fun h => hp (.inr h))]
            rfl
        · rw [if_neg y4] at h; cases h
    · rw [if_neg hx] at h
      by_cases hp : x = 34 ∨ ¬ plainB (x.toNat : Int) = true
      · rw [if_pos hp] at h; cases h
      rw [if_neg hp] at h
      cases h
      have hs := sign_plain_fin ⟨c.toNat, c.toNat_lt⟩
      simp only [ofNat_toNat] at hs
      rw [hs hx (fun h => hp (.inl h)) (Decidable.byContradiction fun h => hp (.inr h))]
      rfl

theorem seqS_flat : ∀ (t : List UInt8) (f : Nat), (t.flatMap sign).length ≤ f → seqS f (t.flatMap sign) = t.map fun c => (c, false)
  | [], f, _ => by simp [seqS_nil]
  | c :: t, f, hf => by
    have hc := sign_ne c
    have hl : 1 ≤ (sign c).length := by
      cases h : sign c with
      | nil => exact absurd h hc
      | cons => simp
    simp only [List.flatMap_cons, List.length_append] at hf ⊢
    obtain ⟨g, rfl⟩ : ∃ g, f = g + 1 := ⟨f - 1, by omega⟩
    rw [seqS_some g _ c (sign c).length (by simp [hc]) (firstS_sign c _), List.drop_left, seqS_flat t g (by omega)]
    rfl

theorem seqS_back : ∀ (f : Nat) (l : List UInt8), l.length ≤ f → ((seqS f l).all fun x => !x.2) = true → ((seqS f l).map (·.1)).flatMap sign = l
  | 0, l, hf, _ => by
    have : l = [] := List.eq_nil_of_length_eq_zero (by omega)
    subst this
    rfl
  | f + 1, l, hf, hall => by
    by_cases hne : l = []
    · subst hne; rw [seqS_nil]; rfl
    cases hr : firstS l with
    | none =>
      rw [seqS_none f l hne hr] at hall
      cases hall
    | some x =>
      obtain ⟨c, n⟩ := x
      have hn := firstS_len l c n hne hr
      rw [seqS_some f l c n hne hr] at hall ⊢
      simp only [List.all_cons, Bool.and_eq_true] at hall
      have ih := seqS_back f (l.drop n) (by simp; omega) hall.2
      simp only [List.map_cons, List.flatMap_cons]
      rw [ih]
      exact (firstS_back hr).symm

theorem unqS_flat (t : List UInt8) : unqS (seqS (t.flatMap sign).length (t.flatMap sign)) = some t := by
  rw [seqS_flat t _ (Nat.le_refl _)]
  unfold unqS
  rw [if_pos (by simp)]
  simp [Function.comp_def]
theorem unqS_back {l t : List UInt8} (h : unqS (seqS l.length l) = some t) : t.flatMap sign = l := by
  unfold unqS at h
  split at h
  · rename_i hall
    cases h
    exact seqS_back _ l (Nat.le_refl _) hall
  · cases h

theorem betw_quote (m : List UInt8) : betw (34 :: (m ++ [34])) = some m := by
  have h1 : Lib.hasPrefix (34 :: (m ++ [34])) [34] = true := by simp [Lib.hasPrefix]
  have h2 : Lib.trimPrefix (34 :: (m ++ [34])) [34] = m ++ [34] := by unfold Lib.trimPrefix; rw [if_pos h1]; rfl
  have h3 : Lib.hasSuffix (m ++ [34]) [34] = true := by unfold Lib.hasSuffix; rw [List.isSuffixOf_iff_suffix]; exact ⟨m, rfl⟩
  unfold betw
  rw [h2, if_pos ⟨h1, h3⟩]
  unfold Lib.trimSuffix
  rw [if_pos h3]
  simp
theorem betw_back {l m : List UInt8} (h : betw l = some m) : l = 34 :: (m ++ [34]) := by
  unfold betw at h
  split at h
  · rename_i hc
    obtain ⟨h1, h2⟩ := hc
    cases h
    have e1 : Lib.trimPrefix l [34] = l.drop 1 := by unfold Lib.trimPrefix; rw [if_pos h1]; rfl
    have p1 : [34] <+: l := List.isPrefixOf_iff_prefix.1 h1
    obtain ⟨r, rfl⟩ := p1
    simp only [List.cons_append, List.nil_append, List.drop_succ_cons, List.drop_zero] at e1 h2 ⊢
    rw [e1] at h2 ⊢
    obtain ⟨q, hq⟩ : [34] <:+ r := by unfold Lib.hasSuffix at h2; exact List.isSuffixOf_iff_suffix.1 h2
    subst hq
    unfold Lib.trimSuffix
    rw [if_pos h2]
    simp
  · cases h

theorem unqL_quote (t : List UInt8) : unqL (quoteL t) = some t := by
  unfold unqL quoteL
  rw [betw_quote]
  exact unqS_flat t
theorem unqL_back {l t : List UInt8} (h : unqL l = some t) : quoteL t = l := by
  unfold unqL at h
  cases hb : betw l with
  | none => rw [hb] at h; cases h
  | some m =>
    rw [hb] at h
    have h2 := unqS_back (show unqS (seqS m.length m) = some t from h)
    rw [betw_back hb]
    unfold quoteL
    rw [h2]
theorem unqL_len {l t : List UInt8} (h : unqL l = some t) : t.length ≤ l.length := by
  have e := unqL_back h
  have hl : (quoteL t).length = l.length := by rw [e]
  have h2 : ∀ t : List UInt8, t.length ≤ (t.flatMap sign).length := by
    intro t
    induction t with
    | nil => simp
    | cons c t ih =>
      have hc := sign_ne c
      have h1 : 1 ≤ (sign c).length := by
        cases h : sign c with
        | nil => exact absurd h hc
        | cons => simp
      simp only [List.flatMap_cons, List.length_append, List.length_cons]
      omega
  have h3 := h2 t
  unfold quoteL at hl
  simp only [List.length_cons, List.length_append, List.length_nil] at hl
  omega
end Go.Proofs.YthhepmddcncjoaaGreatDoor
namespace Go.Proofs.YthhepmddcncjoaaGreatDoor

/-- Is a value of a type? -/
def fitV (k : Int) (x : Vl) : Bool := if k = 1 then !x.sym && x.s.toList.isEmpty else x.sym && x.n == 0
def fitR (ks : List Int) (r : Rw) : Bool := decide (r.length = ks.length) && (List.zipWith fitV ks r).all id
theorem fitV_clean {k : Int} {x : Vl} (h : fitV k x = true) : cleanV x = true := by
  unfold fitV at h
  unfold cleanV
  split at h
  · rw [Bool.and_eq_true] at h
    have : x.sym = false := by simpa using h.1
    rw [this]; exact h.2
  · rw [Bool.and_eq_true] at h
    rw [h.1]; exact h.2
theorem fitR_nil_iff (k : Int) (ks : List Int) (x : Vl) (r : Rw) : fitR (k :: ks) (x :: r) = (fitV k x && fitR ks r) := by
  unfold fitR
  simp only [List.length_cons, List.zipWith_cons_cons, List.all_cons, id, Nat.add_right_cancel_iff]
  cases fitV k x <;> simp
theorem fitR_ind {P : List Int → Rw → Prop} (h0 : P [] []) (hs : ∀ k ks x r, fitV k x = true → fitR ks r = true → P ks r → P (k :: ks) (x :: r)) : ∀ {ks : List Int} {r : Rw}, fitR ks r = true → P ks r
  | [], [], _ => h0
  | [], x :: r, h => by simp [fitR] at h
  | k :: ks, [], h => by simp [fitR] at h
  | k :: ks, x :: r, h => by
    rw [fitR_nil_iff, Bool.and_eq_true] at h
    exact hs k ks x r h.1 h.2 (fitR_ind h0 hs h.2)
theorem fitR_clean {ks : List Int} {r : Rw} (h : fitR ks r = true) : cleanR r = true :=
  fitR_ind (P := fun _ r => cleanR r = true) rfl (fun k ks x r h1 _ h3 => by
    unfold cleanR at *
    rw [List.all_cons, fitV_clean h1, h3]; rfl) h

/-! ### Texts -/
def textV (x : Vl) : List UInt8 := if x.sym = true then quoteL x.s.data.toList else Lib.itoa x.n
def rowT (r : Rw) : List UInt8 := r.flatMap fun x => 9 :: textV x
def lineT (rel : ByteArray) (r : Rw) : List UInt8 := rel.data.toList ++ (rowT r ++ [10])
theorem sign_no_fin : ∀ c : Fin 256, ((sign (UInt8.ofNat c.1)).all fun x => x != 9 && x != 10) = true := by decide +kernel
theorem sign_no (c : UInt8) : ∀ x ∈ sign c, x ≠ 9 ∧ x ≠ 10 := by
  have h := sign_no_fin ⟨c.toNat, c.toNat_lt⟩
  simp only [ofNat_toNat] at h
  intro x hx
  have := List.all_eq_true.1 h x hx
  simpa using this
theorem textV_no (x : Vl) : ∀ c ∈ textV x, c ≠ 9 ∧ c ≠ 10 := by
  intro c hc
  unfold textV at hc
  split at hc
  · unfold quoteL at hc
    rcases List.mem_cons.1 hc with rfl | hc
    · decide
    · rcases List.mem_append.1 hc with hc | hc
      · obtain ⟨d, _, hd⟩ := List.mem_flatMap.1 hc
        exact sign_no d c hd
      · rw [List.mem_singleton] at hc; rw [hc]; decide
  · have hd : ∀ u, c ∈ Lib.decDigits u → c ≠ 9 ∧ c ≠ 10 := fun u h => by
      have := dec_digits u c h
      constructor <;> (intro e; rw [e] at this; revert this; decide)
    unfold Lib.itoa at hc
    split at hc
    · rcases List.mem_cons.1 hc with rfl | hc
      · decide
      · exact hd _ hc
    · exact hd _ hc
theorem rowT_cons (x : Vl) (r : Rw) : rowT (x :: r) = 9 :: (textV x ++ rowT r) := rfl
theorem rowT_no (r : Rw) : ∀ c ∈ rowT r, c ≠ 10 := by
  intro c hc
  obtain ⟨x, _, hx⟩ := List.mem_flatMap.1 hc
  rcases List.mem_cons.1 hx with rfl | hx
  · decide
  · exact (textV_no x c hx).2
theorem cut_row : ∀ (r : Rw) (p : List UInt8), (∀ c ∈ p, c ≠ 9) → cutB 9 (p ++ rowT r) = p :: r.map textV
  | [], p, h => by
    show cutB 9 (p ++ []) = _
    rw [List.append_nil, cutB_none h]; rfl
  | x :: r, p, h => by
    rw [rowT_cons, cutB_first _ h, cut_row r _ fun c hc => (textV_no x c hc).1]; rfl

theorem no_bytes : (⟨#[]⟩ : ByteArray).toList.isEmpty = true := by rw [Lib.toList_data]; rfl
/-! ### Values out of texts -/
def valQ (k : Int) (t : List UInt8) : Option Vl := if k = 1 then (numL t).map fun n => ⟨false, n, ⟨#[]⟩⟩ else (unqL t).map fun s => ⟨true, 0, ⟨s.toArray⟩⟩
def badE (k : Int) : Int := if k = 1 then 95 else 96
def valsQ : List Int → List (List UInt8) → Sum Int Rw
  | k :: ks, t :: ts => match valQ k t with
    | none => .inl (badE k)
    | some x => match valsQ ks ts with
      | .inl e => .inl e
      | .inr r => .inr (x :: r)
  | _, _ => .inr []
theorem arr_eq {s : ByteArray} {l : List UInt8} (h : s.data.toList = l) : (⟨l.toArray⟩ : ByteArray) = s := by
  subst h; rfl
theorem valQ_text {k : Int} {x : Vl} (h : fitV k x = true) (h0 : -9223372036854775808 ≤ x.n) (h1 : x.n ≤ 9223372036854775807) : valQ k (textV x) = some x := by
  obtain ⟨sy, n, s⟩ := x
  unfold fitV at h
  unfold valQ textV
  split at h
  · rename_i hk
    rw [Bool.and_eq_true] at h
    have e1 : sy = false := by simpa using h.1
    have e2 : s = ⟨#[]⟩ := empty_eq h.2 no_bytes
    subst e1 e2
    rw [if_pos hk]
    simp only [Bool.false_eq_true, if_false]
    rw [numL_itoa n h0 h1]; rfl
  · rename_i hk
    rw [Bool.and_eq_true] at h
    have e1 : sy = true := h.1
    have e2 : n = 0 := by simpa using h.2
    subst e1 e2
    rw [if_neg hk]
    simp only [if_true]
    rw [unqL_quote]; rfl
theorem valsQ_text {ks : List Int} {r : Rw} (h : fitR ks r = true) : (∀ x ∈ r, -9223372036854775808 ≤ x.n ∧ x.n ≤ 9223372036854775807) → valsQ ks (r.map textV) = .inr r :=
  fitR_ind (P := fun ks r => (∀ x ∈ r, -9223372036854775808 ≤ x.n ∧ x.n ≤ 9223372036854775807) → valsQ ks (r.map textV) = .inr r) (fun _ => rfl) (fun k ks x r h1 _ ih hx => by
    have hx0 := hx x (List.mem_cons_self ..)
    rw [List.map_cons, valsQ, valQ_text h1 hx0.1 hx0.2, ih fun y hy => hx y (List.mem_cons_of_mem _ hy)]) h
/-- What is read fits. -/
theorem valQ_fit {k : Int} {t : List UInt8} {x : Vl} (h : valQ k t = some x) : fitV k x = true := by
  unfold valQ at h
  unfold fitV
  split at h
  · rename_i hk
    obtain ⟨n, _, rfl⟩ := Option.map_eq_some_iff.1 h
    rw [if_pos hk]
    exact no_bytes
  · rename_i hk
    obtain ⟨n, _, rfl⟩ := Option.map_eq_some_iff.1 h
    rw [if_neg hk]; rfl
theorem valsQ_fit : ∀ {ks : List Int} {ts : List (List UInt8)} {r : Rw}, ts.length = ks.length → valsQ ks ts = .inr r → fitR ks r = true
  | [], [], r, _, h => by
    rw [valsQ] at h
    · cases h; rfl
    · intro _ _ _ _ h; cases h
  | k :: ks, t :: ts, r, hl, h => by
    rw [valsQ] at h
    split at h
    · cases h
    · rename_i x hx
      split at h
      · cases h
      · rename_i r' hr
        cases h
        rw [fitR_nil_iff, valQ_fit hx, valsQ_fit (by simpa using hl) hr]; rfl
  | [], _ :: _, _, hl, _ => by simp at hl
  | _ :: _, [], _, hl, _ => by simp at hl

/-! ### A line, a stream -/
def inOf (ds : List De) (k : Nat) : Bool := (ds[k]?.map (·.inn)).getD false
def tyOf (ds : List De) (k : Nat) : List Int := (ds[k]?.map (·.types)).getD []
def headQ (l : List UInt8) : ByteArray := ⟨((cutB 9 l).headD []).toArray⟩
/-- A line (without its end): its relation's place and row, or what is wrong. -/
def oneQ (ds : List De) (l : List UInt8) : Sum Int (Nat × Rw) :=
  match findY (headQ l) ds with
  | none => .inl 93
  | some k => if inOf ds k = false then .inl 93 else if (cutB 9 l).tail.length ≠ (tyOf ds k).length then .inl 94 else
    match valsQ (tyOf ds k) (cutB 9 l).tail with
    | .inl e => .inl e
    | .inr r => .inr (k, r)
/-- Whole lines: their rows, or the first that is none and what is wrong. -/
def linesQ (ds : List De) : List (List UInt8) → Nat → Sum (Nat × Int) (List (Nat × Rw))
  | [], _ => .inr []
  | l :: ls, n => match oneQ ds l with
    | .inl e => .inl (n + 1, e)
    | .inr x => match linesQ ds ls (n + 1) with
      | .inl e => .inl e
      | .inr r => .inr (x :: r)
/-- .. and what stands behind the last one. -/
def streamQ (ds : List De) (ls : List (List UInt8)) : Sum (Nat × Int) (List (Nat × Rw)) :=
  match linesQ ds ls.dropLast 0 with
  | .inl e => .inl e
  | .inr r => if (ls.getLast?.getD []).isEmpty = true then .inr r else .inl (ls.dropLast.length + 1, 92)
def placedQ (acc : List (Nat × Rw)) (k : Nat) : List Rw := (acc.filter fun x => x.1 == k).map (·.2)
def sortedQ (n : Nat) (acc : List (Nat × Rw)) : List (List Rw) := (List.range n).map fun k => sortL rwC (placedQ acc k)
theorem oneQ_fit {ds : List De} {l : List UInt8} {k : Nat} {r : Rw} (h : oneQ ds l = .inr (k, r)) : k < ds.length ∧ fitR (tyOf ds k) r = true := by
  unfold oneQ at h
  split at h
  · cases h
  · rename_i k' hk
    split at h
    · cases h
    · rename_i hin
      split at h
      · cases h
      · rename_i hl
        split at h
        · cases h
        · rename_i r' hr
          cases h
          refine ⟨?_, valsQ_fit (by simpa using hl) hr⟩
          cases hd : ds[k]? with
          | none => unfold inOf at hin; rw [hd] at hin; exact absurd rfl hin
          | some d => exact (List.getElem?_eq_some_iff.1 hd).1
theorem linesQ_app (ds : List De) : ∀ (a b : List (List UInt8)) (n : Nat), linesQ ds (a ++ b) n = match linesQ ds a n with
    | .inl e => .inl e
    | .inr r => match linesQ ds b (n + a.length) with
      | .inl e => .inl e
      | .inr r' => .inr (r ++ r')
  | [], b, n => by
    simp only [List.nil_append, linesQ, List.length_nil, Nat.add_zero]
    cases linesQ ds b n <;> rfl
  | l :: a, b, n => by
    rw [List.cons_append, linesQ, linesQ]
    cases oneQ ds l with
    | inl e => rfl
    | inr x =>
      simp only []
      rw [linesQ_app ds a b (n + 1), List.length_cons, show n + 1 + a.length = n + (a.length + 1) by omega]
      cases linesQ ds a (n + 1) with
      | inl e => rfl
      | inr r =>
        simp only []
        cases linesQ ds b (n + (a.length + 1)) <;> rfl
def bad4 (e : Int) : Prop := e = 93 ∨ e = 94 ∨ e = 95 ∨ e = 96
theorem valsQ_bad : ∀ {ks : List Int} {ts : List (List UInt8)} {e : Int}, valsQ ks ts = .inl e → bad4 e
  | [], ts, e, h => by
    rw [valsQ] at h
    · cases h
    · intro _ _ _ _ h; cases h
  | _ :: _, [], e, h => by
    rw [valsQ] at h
    · cases h
    · intro _ _ _ _ _ h; cases h
  | k :: ks, t :: ts, e, h => by
    rw [valsQ] at h
    split at h
    · cases h
      unfold badE bad4
      split <;> simp
    · split at h
      · rename_i e' he
        cases h
        exact valsQ_bad he
      · cases h
theorem oneQ_bad {ds : List De} {l : List UInt8} {e : Int} (h : oneQ ds l = .inl e) : bad4 e := by
  unfold oneQ at h
  split at h
  · cases h; simp [bad4]
  · split at h
    · cases h; simp [bad4]
    · split at h
      · cases h; simp [bad4]
      · split at h
        · rename_i he
          cases h
          exact valsQ_bad he
        · cases h
theorem linesQ_bad (ds : List De) : ∀ (a : List (List UInt8)) (n i : Nat) (e : Int), linesQ ds a n = .inl (i, e) → n < i ∧ i ≤ n + a.length ∧ bad4 e
  | [], _, _, _, h => by cases h
  | l :: a, n, i, e, h => by
    rw [linesQ] at h
    cases ho : oneQ ds l with
    | inl e' =>
      rw [ho] at h
      cases h
      exact ⟨by omega, by rw [List.length_cons]; omega, oneQ_bad ho⟩
    | inr x =>
      rw [ho] at h
      simp only [] at h
      cases hl : linesQ ds a (n + 1) with
      | inl e' =>
        rw [hl] at h
        cases h
        have := linesQ_bad ds a (n + 1) i e hl
        exact ⟨by omega, by rw [List.length_cons]; omega, this.2.2⟩
      | inr r => rw [hl] at h; cases h
theorem linesQ_shift (ds : List De) : ∀ (a : List (List UInt8)) (n m : Nat), (∀ r, linesQ ds a n = .inr r → linesQ ds a m = .inr r) ∧ ∀ i e, linesQ ds a n = .inl (i, e) → ∃ j, linesQ ds a m = .inl (j, e)
  | [], _, _ => ⟨fun _ h => h, fun _ _ h => nomatch h⟩
  | l :: a, n, m => by
    obtain ⟨h1, h2⟩ := linesQ_shift ds a (n + 1) (m + 1)
    rw [linesQ, linesQ]
    cases ho : oneQ ds l with
    | inl e' => exact ⟨fun _ h => (nomatch h), fun i e h => ⟨m + 1, (by cases h; rfl)⟩⟩
    | inr x =>
      simp only []
      cases hl : linesQ ds a (n + 1) with
      | inl q =>
        obtain ⟨i', e'⟩ := q
        obtain ⟨j, hj⟩ := h2 i' e' hl
        rw [hj]
        exact ⟨fun _ h => (nomatch h), fun i e h => ⟨j, (by cases h; rfl)⟩⟩
      | inr r =>
        rw [h1 r hl]
        exact ⟨fun _ h => h, fun i e h => nomatch h⟩
theorem linesQ_fit (ds : List De) : ∀ (a : List (List UInt8)) (n : Nat) (r : List (Nat × Rw)), linesQ ds a n = .inr r → ∀ x ∈ r, x.1 < ds.length ∧ fitR (tyOf ds x.1) x.2 = true
  | [], _, r, h, x, hx => by cases h; cases hx
  | l :: a, n, r, h, x, hx => by
    rw [linesQ] at h
    cases ho : oneQ ds l with
    | inl e' => rw [ho] at h; cases h
    | inr y =>
      rw [ho] at h
      simp only [] at h
      cases hl : linesQ ds a (n + 1) with
      | inl e' => rw [hl] at h; cases h
      | inr r' =>
        rw [hl] at h
        cases h
        rcases List.mem_cons.1 hx with rfl | hx
        · exact oneQ_fit ho
        · exact linesQ_fit ds a (n + 1) r' hl x hx
end Go.Proofs.YthhepmddcncjoaaGreatDoor
namespace Go.Proofs.YthhepmddcncjoaaGreatDoor

/-! ### Unlike rows have unlike lines -/
theorem line_inj {rel : ByteArray} {ks : List Int} {s t : Rw} (hs : fitR ks s = true) (ht : fitR ks t = true) (is : ∀ x ∈ s, I64 x.n) (it : ∀ x ∈ t, I64 x.n) (h : lineT rel s = lineT rel t) : s = t := by
  unfold lineT at h
  have h1 : rowT s = rowT t := List.append_cancel_right (List.append_cancel_left h)
  have h2 := congrArg (cutB 9) (show [] ++ rowT s = [] ++ rowT t by rw [List.nil_append, List.nil_append, h1])
  rw [cut_row _ _ (fun _ h => by cases h), cut_row _ _ (fun _ h => by cases h)] at h2
  have h3 := (List.cons.inj h2).2
  have e1 := valsQ_text hs is
  have e2 := valsQ_text ht it
  rw [h3, e2] at e1
  cases e1
  rfl
theorem line_rel {a b : ByteArray} {r : Rw} (h : lineT a r = lineT b r) : a.data.toList = b.data.toList := by
  unfold lineT at h
  exact List.append_cancel_right h

/-! ### Streams behind each other -/
theorem cutB_cat (b : UInt8) : ∀ (l m : List UInt8), cutB b (l ++ m) = (cutB b l).dropLast ++ (((cutB b l).getLast?.getD []) ++ (cutB b m).headD []) :: (cutB b m).tail
  | [], m => by
    cases hm : cutB b m with
    | nil => exact absurd hm (cutB_ne b m)
    | cons x r => simp [cutB, hm]
  | c :: l, m => by
    have ih := cutB_cat b l m
    cases hl : cutB b l with
    | nil => exact absurd hl (cutB_ne b l)
    | cons x r =>
      rw [hl] at ih
      by_cases h : c = b
      · rw [List.cons_append, cutB, if_pos h, cutB, if_pos h, ih, hl]
        cases r <;> simp
      · rw [List.cons_append, cutB, if_neg h, cutB, if_neg h, ih, hl]
        cases r <;> simp
theorem last_append (A : List (List UInt8)) (z : List UInt8) (T : List (List UInt8)) : (A ++ z :: T).getLast?.getD [] = ((z :: T).getLast?.getD []) := by
  rw [List.getLast?_append]
  cases h : (z :: T).getLast? with
  | none => simp at h
  | some x => rfl
theorem drop_append (A : List (List UInt8)) (z : List UInt8) (T : List (List UInt8)) : (A ++ z :: T).dropLast = A ++ (z :: T).dropLast := List.dropLast_append_of_ne_nil (by simp)

/-- The answer of a stream by itself, or at its head. -/
theorem stream_head {ds : List De} {s t : List UInt8} {i : Nat} {e : Int} (h : streamQ ds (cutB 10 s) = .inl (i, e)) (he : e ≠ 92) : streamQ ds (cutB 10 (s ++ t)) = .inl (i, e) := by
  have h1 : linesQ ds (cutB 10 s).dropLast 0 = .inl (i, e) := by
    unfold streamQ at h
    cases hl : linesQ ds (cutB 10 s).dropLast 0 with
    | inl q => rw [hl] at h; cases h; rfl
    | inr r =>
      rw [hl] at h
      simp only [] at h
      split at h
      · cases h
      · cases h; exact absurd rfl he
  unfold streamQ
  rw [cutB_cat, drop_append, linesQ_app, h1]
theorem stream_whole {ds : List De} {s : List UInt8} {r : List (Nat × Rw)} (h : streamQ ds (cutB 10 s) = .inr r) : linesQ ds (cutB 10 s).dropLast 0 = .inr r ∧ (cutB 10 s).getLast?.getD [] = [] := by
  unfold streamQ at h
  cases hl : linesQ ds (cutB 10 s).dropLast 0 with
  | inl q => rw [hl] at h; cases h
  | inr r' =>
    rw [hl] at h
    simp only [] at h
    split at h
    · rename_i hz
      cases h
      exact ⟨rfl, List.isEmpty_iff.1 hz⟩
    · cases h
theorem head_tail (b : UInt8) (t : List UInt8) : (cutB b t).headD [] :: (cutB b t).tail = cutB b t := by
  cases h : cutB b t with
  | nil => exact absurd h (cutB_ne b t)
  | cons x r => rfl
/-- A whole stream ahead of another one. -/
theorem stream_app {ds : List De} {s t : List UInt8} {r : List (Nat × Rw)} (h : streamQ ds (cutB 10 s) = .inr r) :
    (∀ r', streamQ ds (cutB 10 t) = .inr r' → streamQ ds (cutB 10 (s ++ t)) = .inr (r ++ r')) ∧ ∀ i e, streamQ ds (cutB 10 t) = .inl (i, e) → ∃ j, streamQ ds (cutB 10 (s ++ t)) = .inl (j, e) ∧ (cutB 10 s).dropLast.length < j := by
  obtain ⟨h1, h2⟩ := stream_whole h
  have hc : cutB 10 (s ++ t) = (cutB 10 s).dropLast ++ cutB 10 t := by rw [cutB_cat, h2, List.nil_append, head_tail]
  have hd : ((cutB 10 s).dropLast ++ cutB 10 t).dropLast = (cutB 10 s).dropLast ++ (cutB 10 t).dropLast := List.dropLast_append_of_ne_nil (cutB_ne _ _)
  have hg : ((cutB 10 s).dropLast ++ cutB 10 t).getLast?.getD [] = (cutB 10 t).getLast?.getD [] := by
    rw [← head_tail 10 t, last_append]
  have hS : streamQ ds (cutB 10 (s ++ t)) = match linesQ ds (cutB 10 t).dropLast (0 + (cutB 10 s).dropLast.length) with
      | .inl e => .inl e
      | .inr r' => if ((cutB 10 t).getLast?.getD []).isEmpty = true then .inr (r ++ r') else .inl ((cutB 10 s).dropLast.length + (cutB 10 t).dropLast.length + 1, 92) := by
    unfold streamQ
    rw [hc, hd, hg, linesQ_app, h1, List.length_append]
    cases linesQ ds (cutB 10 t).dropLast (0 + (cutB 10 s).dropLast.length) <;> rfl
  obtain ⟨k1, k2⟩ := linesQ_shift ds (cutB 10 t).dropLast 0 (0 + (cutB 10 s).dropLast.length)
  rw [hS]
  unfold streamQ
  cases hl : linesQ ds (cutB 10 t).dropLast 0 with
  | inl q =>
    obtain ⟨i', e'⟩ := q
    obtain ⟨j, hj⟩ := k2 i' e' hl
    rw [hj]
    refine ⟨fun _ h => (nomatch h), fun i e h => ?_⟩
    cases h
    have := linesQ_bad ds _ _ _ _ hj
    exact ⟨j, rfl, by omega⟩
  | inr r' =>
    rw [k1 r' hl]
    simp only []
    split
    · exact ⟨fun r'' h => (by cases h; rfl), fun i e h => nomatch h⟩
    · exact ⟨fun r'' h => (nomatch h), fun i e h => ⟨_, (by cases h; rfl), by omega⟩⟩
/-- A stream that ends within a line, at the end of one. -/
theorem stream_open {ds : List De} {s t : List UInt8} {i : Nat} (h : streamQ ds (cutB 10 t) = .inl (i, 92)) : ∃ j e, streamQ ds (cutB 10 (s ++ t)) = .inl (j, e) := by
  have hz : ((cutB 10 t).getLast?.getD []).isEmpty = false := by
    unfold streamQ at h
    cases hl : linesQ ds (cutB 10 t).dropLast 0 with
    | inl q =>
      rw [hl] at h
      cases h
      have := (linesQ_bad ds _ _ _ _ hl).2.2
      unfold bad4 at this
      omega
    | inr r =>
      rw [hl] at h
      simp only [] at h
      split at h
      · cases h
      · rename_i hz; simpa using hz
  have hg : ((cutB 10 (s ++ t)).getLast?.getD []).isEmpty = false := by
    rw [cutB_cat, last_append]
    cases hc : cutB 10 t with
    | nil => exact absurd hc (cutB_ne _ _)
    | cons x r =>
      rw [hc] at hz
      cases r with
      | nil =>
        simp only [List.getLast?_singleton, Option.getD_some] at hz
        simp only [List.headD_cons, List.tail_cons, List.getLast?_singleton, Option.getD_some]
        rw [List.isEmpty_eq_false_iff] at hz ⊢
        intro hx
        exact hz (List.append_eq_nil_iff.1 hx).2
      | cons y r =>
        simp only [List.headD_cons, List.tail_cons]
        rw [List.getLast?_cons_cons] at hz ⊢
        exact hz
  unfold streamQ
  cases hl : linesQ ds (cutB 10 (s ++ t)).dropLast 0 with
  | inl q => exact ⟨q.1, q.2, rfl⟩
  | inr r =>
    simp only []
    rw [if_neg (by rw [hg]; decide)]
    exact ⟨_, _, rfl⟩
theorem placed_app (a b : List (Nat × Rw)) (k : Nat) : placedQ (a ++ b) k = placedQ a k ++ placedQ b k := by
  unfold placedQ
  rw [List.filter_append, List.map_append]
theorem sort_set {l m : List Rw} (hl : ∀ r ∈ l, cleanR r = true) (hm : ∀ r ∈ m, cleanR r = true) (h : ∀ r, r ∈ l ↔ r ∈ m) : sortL rwC l = sortL rwC m :=
  rise_ext rwC_tot (sort_rise rwC_tot l) (sort_rise rwC_tot m) fun x => by
    rw [sort_mem rwC_tot (P := fun r => cleanR r = true) rwC_zero hl, sort_mem rwC_tot (P := fun r => cleanR r = true) rwC_zero hm, h]
theorem placed_mem {acc : List (Nat × Rw)} {k : Nat} {r : Rw} : r ∈ placedQ acc k ↔ (k, r) ∈ acc := by
  unfold placedQ
  rw [List.mem_map]
  constructor
  · rintro ⟨x, hx, rfl⟩
    obtain ⟨h1, h2⟩ := List.mem_filter.1 hx
    rw [← beq_iff_eq.1 h2]
    exact h1
  · intro h
    exact ⟨(k, r), List.mem_filter.2 ⟨h, by simp⟩, rfl⟩
def CleanQ (acc : List (Nat × Rw)) : Prop := ∀ x ∈ acc, cleanR x.2 = true
theorem sorted_set {n : Nat} {a b : List (Nat × Rw)} (ha : CleanQ a) (hb : CleanQ b) (h : ∀ x, x ∈ a ↔ x ∈ b) : sortedQ n a = sortedQ n b := by
  unfold sortedQ
  apply List.map_congr_left
  intro k _
  refine sort_set (fun r hr => ha (k, r) (placed_mem.1 hr)) (fun r hr => hb (k, r) (placed_mem.1 hr)) fun r => ?_
  rw [placed_mem, placed_mem, h]

/-! ### What is told, read -/
theorem findY_apart {ds : List De} {k : Nat} {d : De} (hk : ds[k]? = some d) (hap : ∀ (i j : Nat) (x y : De), ds[i]? = some x → ds[j]? = some y → x.rel.data.toList = y.rel.data.toList → i = j) : findY d.rel ds = some k := by
  unfold findY
  rcases ixY_cases d.rel ds 0 with ⟨_, h2⟩ | ⟨i, e, h1, h2, h3⟩
  · have := h2 d (List.mem_of_getElem? hk)
    unfold relY at this
    simp at this
  · rw [h1, Nat.zero_add, if_neg (by omega)]
    have : e.rel.data.toList = d.rel.data.toList := by
      unfold relY at h3
      have := beq_iff_eq.1 h3
      rwa [Lib.toList_data, Lib.toList_data] at this
    have := hap i k e d h2 hk this
    rw [this]; simp
theorem one_line {ds : List De} {k : Nat} {d : De} {r : Rw} (hk : ds[k]? = some d) (hf : findY d.rel ds = some k) (hin : d.inn = true) (hno : ∀ c ∈ d.rel.data.toList, c ≠ 9) (hr : fitR d.types r = true) (hi : ∀ x ∈ r, I64 x.n) : oneQ ds (d.rel.data.toList ++ rowT r) = .inr (k, r) := by
  have hc := cut_row r _ hno
  have hl : r.length = d.types.length := by
    unfold fitR at hr
    rw [Bool.and_eq_true, decide_eq_true_eq] at hr
    exact hr.1
  have hh : headQ (d.rel.data.toList ++ rowT r) = d.rel := by
    unfold headQ
    rw [hc]
    rfl
  have e1 : inOf ds k = true := by unfold inOf; rw [hk]; exact hin
  have e2 : tyOf ds k = d.types := by unfold tyOf; rw [hk]; rfl
  unfold oneQ
  rw [hh, hf]
  simp only []
  rw [e1, e2, hc, if_neg (by decide), if_neg (by rw [List.tail_cons, List.length_map]; exact not_not_intro hl), List.tail_cons, valsQ_text hr hi]
theorem lines_of {ds : List De} {k : Nat} {d : De} (hk : ds[k]? = some d) (hf : findY d.rel ds = some k) (hin : d.inn = true) (hno : ∀ c ∈ d.rel.data.toList, c ≠ 9) : ∀ (rs : List Rw) (n : Nat), (∀ r ∈ rs, fitR d.types r = true ∧ ∀ x ∈ r, I64 x.n) → linesQ ds (rs.map fun r => d.rel.data.toList ++ rowT r) n = .inr (rs.map fun r => (k, r))
  | [], _, _ => rfl
  | r :: rs, n, h => by
    have h0 := h r (List.mem_cons_self ..)
    rw [List.map_cons, linesQ, one_line hk hf hin hno h0.1 h0.2, lines_of hk hf hin hno rs (n + 1) fun q hq => h q (List.mem_cons_of_mem _ hq)]
    rfl
theorem cut_lines : ∀ (ls : List (List UInt8)), (∀ l ∈ ls, ∀ c ∈ l, c ≠ 10) → cutB 10 (ls.flatMap fun l => l ++ [10]) = ls ++ [[]]
  | [], _ => rfl
  | l :: ls, h => by
    rw [List.flatMap_cons, List.append_assoc, List.singleton_append, cutB_first _ (h l (List.mem_cons_self ..)), cut_lines ls fun q hq => h q (List.mem_cons_of_mem _ hq)]
    rfl
end Go.Proofs.YthhepmddcncjoaaGreatDoor
