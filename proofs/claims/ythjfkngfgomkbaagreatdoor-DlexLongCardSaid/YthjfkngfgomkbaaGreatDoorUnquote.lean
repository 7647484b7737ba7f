/- text.Unquote answers the symbol that a text says, in every world that holds the listed variables, for every text of at most 2^30 bytes. -/
import Derived.Test.YthjfkngfgomkbaaGreatDoorSigns
import Derived.WalkMore
namespace Go.Proofs.YthjfkngfgomkbaaGreatDoor
open Go.RowKit Go.Shelf

attribute [local go_sem] Oper.semAt_some

def unqS (l : List (UInt8 × Bool)) : Option (List UInt8) := if l.all (fun x => !x.2) = true then some (l.map (·.1)) else none
def unqV : Option (List UInt8) → Value
  | some t => .tuple #[.string ⟨t.toArray⟩, .int .i64 0]
  | none => .tuple #[.string ⟨#[]⟩, .int .i64 10]

theorem wpIn_scope_wide {n : Nat} {P : Program} {c : Code} {Q : Exit → Act → World → Prop} {a : Act} {w : World} (h : c.wpIn Fence.wide n P (Exit.noGoto Q) a w) : (Code.scope c).wpIn Fence.wide n P Q a w :=
  wpIn_wide.2 (wp_scope_straight (wpIn_wide.1 h))

theorem Bd.lt {B b : Nat} {l : List UInt8} {W : World} (h : Bd B b l W) : b < W.heap.size := by
  rcases h with ⟨_, v, hb, _⟩ | ⟨_, v, hb, _⟩ <;> exact (Array.getElem?_eq_some_iff.1 hb).1
theorem one_cell {W : World} {k : Nat} {v : Value} {t : TypeId} (h : W.heap[k]? = some (.cells #[v] t (0, 0))) : W.cell? ⟨k, 0, none⟩ = some v ∧ W.frozen? ⟨k, 0, none⟩ = false := by
  simp [World.cell?, World.frozen?, h]
def wrongV (a : Addr) (bad : Bool) : Value := if bad then .iface 214 (.pointer (some a)) else .nilIface

set_option maxRecDepth 100000 in
set_option maxHeartbeats 4000000 in
theorem unquote_ok (s : ByteArray) (inner : List UInt8) (hi : inner.length ≤ 1073741824) (a : Addr) (w : World) (hz : 8 ≤ w.heap.size) (herr : ErrAt a w)
    (hb : Calls Tryz.prog 133 #[.string s] w fun e w' => e = .returned (.tuple #[.string ⟨inner.toArray⟩, .nilIface]) ∧ ∃ k, w' = w.drewN k) :
    CallsIn Fence.wide 6 Tryz.prog 115 #[.string s] w fun e W' => e = .returned (unqV (unqS (seqS inner.length inner))) ∧ Below w.heap.size w W' := by
  have Hb := Lib.hid hb
  clear hb
  have HE := Lib.hid herr
  clear herr
  refine callsIn_of_wp_marks Tryz.func115 rfl trivial ?_ rfl
  simp only [Tryz.ntmps115, List.size_toArray, List.length_cons, List.length_nil, Nat.reduceAdd, Nat.reduceSub, Array.replicate_succ, Array.replicate_zero, List.push_toArray, List.append_toArray, List.nil_append, List.cons_append]
  gi_wp2_with fail
  refine wpIn_scope_wide ?_
  gi_wp2_with fail
  refine ⟨trivial, (callsIn_wide.2 Hb.out).mono ?_⟩
  rintro e w1 ⟨rfl, q, hw1⟩
  have b1 : Below w.heap.size w w1 := by rw [hw1]; exact below_drewN (Below.refl _ _) q
  have z1 : w1.heap.size = w.heap.size := by rw [hw1]; rfl
  have E1 : Hid (ErrAt a w1) := Lib.hid (by rw [hw1]; exact HE.out)
  have Z1 := Lib.hid z1
  clear hw1 z1
  gi_wp2_with fail
  refine wpIn_label ?_
  gi_wp2_with fail
  refine ⟨trivial, (eachSign_in _ ⟨inner.toArray⟩ _).mono ?_⟩
  rintro e w3 ⟨rfl, rfl⟩
  gi_wp2_with fail
  obtain ⟨n0, hn0⟩ : ∃ n0, w1.heap.size = n0 := ⟨_, rfl⟩
  obtain ⟨WL, hWL⟩ : ∃ WL, (((w1.alloc (.cells #[.nilIface] 52)).alloc (.cells #[.pointer none, .slice none 0 0] 73)).alloc (.cells #[.string ⟨inner.toArray⟩] 9)) = WL := ⟨_, rfl⟩
  have hn2 : 8 ≤ n0 := by rw [← hn0, Z1.out]; exact hz
  have hsz : WL.heap.size = n0 + 3 := by rw [← hWL]; simp; omega
  have hbox : BoxAt (n0 + 2) ⟨inner.toArray⟩ WL := by
    have := World.alloc_heap_new ((w1.alloc (.cells #[.nilIface] 52)).alloc (.cells #[.pointer none, .slice none 0 0] 73)) (.cells #[.string ⟨inner.toArray⟩] 9)
    rw [hWL] at this
    unfold BoxAt
    simpa [hn0] using this
  have hBL : Below n0 w1 WL := by
    rw [← hWL]
    exact (((Below.refl _ w1).alloc (by omega) _).alloc (by simp; omega) _).alloc (by simp; omega) _
  have hbd : Bd (n0 + 1) (n0 + 1) [] WL := by
    have := Lib.IsBuilderF.of (Lib.fresh_isBuilder 73 5 (w1.alloc (.cells #[.nilIface] 52)))
    have h2 := Lib.IsBuilderF.alloc this (.cells #[.string ⟨inner.toArray⟩] 9)
    rw [hWL] at h2
    simpa [hn0, Bd, Lib.byteCells] using h2
  have hw0 : WL.heap[n0]? = some (.cells #[.nilIface] 52 (0, 0)) := by
    have h1 := World.alloc_heap_new w1 (.cells #[.nilIface] 52)
    rw [hn0] at h1
    rw [← hWL]
    exact (Below.heap_alloc _ _ _ (by simp; omega)).trans ((Below.heap_alloc _ _ _ (by simp; omega)).trans h1)
  have hwc := (one_cell hw0).1
  have hwf := (one_cell hw0).2
  have herL : ErrAt a WL := (hBL.cell (p := ⟨7, 0, none⟩) (by show 7 < n0; omega)).trans E1.out
  rw [hWL, hn0]
  have Hn0 := Lib.hid hn0
  clear hWL hn0
  refine wpIn_rangeFunc_ownF rfl (by omega) (gf := 147) (lb := #[.pointer (some ⟨n0 + 1 + 1, 0, none⟩)]) rfl trivial (enters_of Tryz.func147 (by kernel_rfl) rfl)
    (eachSign_stops 5 (by omega) (n0 + 2) ⟨inner.toArray⟩ hi a WL (by omega) hbox (by omega) herL) (fun h k => ⟨fun x => k.1 (h.1 x), fun x => k.2 (h.2 x)⟩) ?hKb (Below.refl _ _) (fun _ => rfl)
    (fun pre W => ((Bd (n0 + 1) (n0 + 1) (pre.map (·.1)) W ∧ (∀ x ∈ pre, x.2 = false)) ∧ W.cell? ⟨n0, 0, none⟩ = some .nilIface ∧ W.frozen? ⟨n0, 0, none⟩ = false) ∧ Below n0 w1 W)
    (fun c pre W => ((c = .exit 0 ∧ (∃ x ∈ pre, x.2 = true)) ∧ W.cell? ⟨n0, 0, none⟩ = some (.iface 214 (.pointer (some a)))) ∧ Below n0 w1 W)
    (OwnFrom.and (Own.from (fun s A B row hs hg hr => ⟨⟨hs.1.1.kept hg hr, hs.1.2⟩, cell_kept hs.2.1 hg hr, (frozen_kept hs.2.1 hg hr).trans hs.2.2⟩) _) (ownFrom_below (by rw [← Hn0.out]; exact Nat.le_refl _) (by omega)))
    (fun c => OwnFrom.and (Own.from (fun s A B row hs hg hr => ⟨hs.1, cell_kept hs.2 hg hr⟩) _) (ownFrom_below (by rw [← Hn0.out]; exact Nat.le_refl _) (by omega)))
    ⟨⟨⟨hbd, by simp⟩, hwc, hwf⟩, hBL⟩
    (fun x => { tmps := #[.string s, undef, .string ⟨#[]⟩, .int .i64 0, .string ⟨inner.toArray⟩, .pointer (some ⟨n0, 0, none⟩), .pointer (some ⟨n0 + 1, 0, none⟩), .int .u8 (x.1.toNat : Int), (if x.2 then .iface 214 (.pointer (some a)) else .nilIface), .tuple #[.string ⟨inner.toArray⟩, .nilIface], .string s, .tuple #[.string ⟨inner.toArray⟩, .nilIface], .string ⟨inner.toArray⟩, .nilIface, .string ⟨inner.toArray⟩, .func (.func 147) #[] #[.pointer (some ⟨n0 + 1 + 1, 0, none⟩)], .int .u8 (x.1.toNat : Int), (if x.2 then .iface 214 (.pointer (some a)) else .nilIface), undef, undef, undef, undef, undef, undef, undef, undef, undef, undef], defers := [] }) ?assign ?body ?done ?stop
  case hKb =>
    intro W l o o' hl hl2 ho _
    have hr : ∀ r, some l = some r → ∃ o : Obj, W.heap[r]? = some o ∧ o.isCells = false := fun r e => by cases e; exact ⟨o, hl2, ho⟩
    exact ⟨fun hb => (grownBy_keeps_cells (grownBy_putObj' W l o') hr hb rfl).trans hb, fun he => cell_kept he (grownBy_putObj' W l o') hr⟩
  case assign =>
    intro l x W K hK
    obtain ⟨c, bad⟩ := x
    cases bad with
    | true =>
      simp only [encS, if_true] at hK ⊢
      gi_wp2
      exact hK
    | false =>
      simp only [encS, Bool.false_eq_true, if_false] at hK ⊢
      gi_wp2
      exact hK
  case body =>
    rintro l pre ⟨c, bad⟩ W ⟨⟨⟨hb, hal⟩, hc, hf⟩, hB⟩ hlen
    cases bad with
    | true =>
      simp only [if_true]
      gi_wp2
      exact ⟨KeepsOthers.setCell _ _ _, ⟨⟨rfl, (c, true), by simp, rfl⟩, World.cell?_setCell_same' _ _ _ (by rw [hc]; rfl)⟩, hB.setCell (p := ⟨n0, 0, none⟩) (Nat.le_refl _) _⟩
    | false =>
      simp only [Bool.false_eq_true, if_false]
      have hB1 : n0 + 1 ≤ W.heap.size := Nat.le_of_lt hb.lt
      have hlen' : pre.length < inner.length := hlen
      gi_wp2_with fail
      refine ⟨trivial, (CallsIn.inRound l (callsIn_wide.2 (writeByte_c _ _ _ c _ rfl W hb (by simp; omega) hB1))).mono ?_⟩
      rintro e w4 ⟨rfl, b4, k4⟩
      gi_wp2
      refine ⟨k4.keepsOthers hb, ⟨k4.keepsBox (by omega), fun he => (k4.below.cell (p := ⟨7, 0, none⟩) (by show 7 < n0 + 1; omega)).trans he⟩, ⟨⟨by simpa using b4, ?_⟩, (k4.below.cell (p := ⟨n0, 0, none⟩) (by show n0 < n0 + 1; omega)).trans hc, (k4.below.frozen (p := ⟨n0, 0, none⟩) (by show n0 < n0 + 1; omega)).trans hf⟩, hB.trans (k4.below.mono (by omega))⟩
      intro x hx
      rcases List.mem_append.1 hx with hx | hx
      · exact hal x hx
      · obtain rfl : x = _ := List.mem_singleton.1 hx
        rfl
  case done =>
    rintro D ys W hD rfl ⟨⟨⟨hb, hal⟩, hc, hf⟩, hB⟩ hK
    have herW : ErrAt a W := (hB.cell (p := ⟨7, 0, none⟩) (by show 7 < n0; omega)).trans E1.out
    unfold ErrAt at herW
    have hB1 : n0 + 1 ≤ W.heap.size := Nat.le_of_lt hb.lt
    have hq : unqS (seqS inner.length inner) = some ((seqS inner.length inner).map (·.1)) := by
      unfold unqS
      rw [if_pos]
      rw [List.all_eq_true]
      intro x hx
      rw [hal x hx]
      rfl
    have Hq := Lib.hid hq
    clear hq
    gi_wp2_with fail
    refine ⟨trivial, (callsIn_wide.2 (is_nil a W)).mono ?_⟩
    rintro e w4 ⟨rfl, rfl⟩
    gi_wp2_with fail
    refine ⟨trivial, (callsIn_wide.2 (bstr_c _ _ _ W hb hB1)).mono ?_⟩
    rintro e w5 ⟨rfl, b5, k5⟩
    have hK5 := (k5.keepsOthers hb).same D _ hK rfl
    gi_wp2
    rw [Exit.noGoto_ret]
    refine ⟨by simp, .inl ⟨_, _, rfl, run_takeDeferred hK5, ?_⟩⟩
    refine ⟨_, results_tmp2 rfl _ _ _, by rw [Hq.out]; rfl, ?_⟩
    refine b1.trans ((hB.mono (by rw [← Hn0.out, Z1.out]; exact Nat.le_refl _)).trans ((k5.below.mono (by rw [← Hn0.out, Z1.out]; omega)).trans (belowK_b (w := w) (Nat.le_refl _) w5 D _ _ ?_ hK5 rfl rfl)))
    rw [← Z1.out, Hn0.out]
    omega
  case stop =>
    rintro D c pre W hD hp ⟨⟨⟨rfl, hx⟩, hc⟩, hB⟩ hK
    have herW : ErrAt a W := (hB.cell (p := ⟨7, 0, none⟩) (by show 7 < n0; omega)).trans E1.out
    unfold ErrAt at herW
    gi_wp2_with fail
    refine ⟨trivial, (callsIn_wide.2 (is_same a W)).mono ?_⟩
    rintro e w4 ⟨rfl, rfl⟩
    have hq : unqS (seqS inner.length inner) = none := by
      obtain ⟨x, hx1, hx2⟩ := hx
      unfold unqS
      rw [if_neg]
      intro hall
      have := List.all_eq_true.1 hall x (hp.subset hx1)
      rw [hx2] at this
      cases this
    have Hq := Lib.hid hq
    clear hq
    gi_wp2
    rw [Exit.noGoto_ret]
    refine ⟨by simp, .inl ⟨_, _, rfl, run_takeDeferred hK, ?_⟩⟩
    refine ⟨_, results_tmp2 rfl _ _ _, by rw [Hq.out]; rfl, ?_⟩
    refine b1.trans ((hB.mono (by rw [← Hn0.out, Z1.out]; exact Nat.le_refl _)).trans (belowK_b (w := w) (Nat.le_refl _) W D _ _ ?_ hK rfl rfl))
    rw [← Z1.out, Hn0.out]
    omega
set_option maxRecDepth 100000 in
set_option maxHeartbeats 4000000 in
theorem unquote_bad (s : ByteArray) (a : Addr) (w : World) (hz : 8 ≤ w.heap.size) (herr : ErrAt a w)
    (hb : Calls Tryz.prog 133 #[.string s] w fun e w' => e = .returned (.tuple #[.string ⟨#[]⟩, .iface 214 (.pointer (some a))]) ∧ ∃ k, w' = w.drewN k) :
    CallsIn Fence.wide 6 Tryz.prog 115 #[.string s] w fun e W' => e = .returned (unqV none) ∧ Below w.heap.size w W' := by
  have Hb := Lib.hid hb
  clear hb
  have HE := Lib.hid herr
  clear herr
  refine callsIn_of_wp_marks Tryz.func115 rfl trivial ?_ rfl
  simp only [Tryz.ntmps115, List.size_toArray, List.length_cons, List.length_nil, Nat.reduceAdd, Nat.reduceSub, Array.replicate_succ, Array.replicate_zero, List.push_toArray, List.append_toArray, List.nil_append, List.cons_append]
  gi_wp2_with fail
  refine wpIn_scope_wide ?_
  gi_wp2_with fail
  refine ⟨trivial, (callsIn_wide.2 Hb.out).mono ?_⟩
  rintro e w1 ⟨rfl, q, hw1⟩
  have b1 : Below w.heap.size w w1 := by rw [hw1]; exact below_drewN (Below.refl _ _) q
  have z1 : w1.heap.size = w.heap.size := by rw [hw1]; rfl
  have E1 : Hid (ErrAt a w1) := Lib.hid (by rw [hw1]; exact HE.out)
  have Z1 := Lib.hid z1
  clear hw1 z1
  gi_wp2_with fail
  refine wpIn_label ?_
  gi_wp2_with fail
  refine ⟨trivial, (eachSign_in _ ⟨#[]⟩ _).mono ?_⟩
  rintro e w3 ⟨rfl, rfl⟩
  gi_wp2_with fail
  obtain ⟨n0, hn0⟩ : ∃ n0, w1.heap.size = n0 := ⟨_, rfl⟩
  obtain ⟨WL, hWL⟩ : ∃ WL, (((w1.alloc (.cells #[.iface 214 (.pointer (some a))] 52)).alloc (.cells #[.pointer none, .slice none 0 0] 73)).alloc (.cells #[.string ⟨#[]⟩] 9)) = WL := ⟨_, rfl⟩
  have hn2 : 8 ≤ n0 := by rw [← hn0, Z1.out]; exact hz
  have hsz : WL.heap.size = n0 + 3 := by rw [← hWL]; simp; omega
  have hbox : BoxAt (n0 + 2) ⟨#[]⟩ WL := by
    have := World.alloc_heap_new ((w1.alloc (.cells #[.iface 214 (.pointer (some a))] 52)).alloc (.cells #[.pointer none, .slice none 0 0] 73)) (.cells #[.string ⟨#[]⟩] 9)
    rw [hWL] at this
    unfold BoxAt
    simpa [hn0] using this
  have hBL : Below n0 w1 WL := by
    rw [← hWL]
    exact (((Below.refl _ w1).alloc (by omega) _).alloc (by simp; omega) _).alloc (by simp; omega) _
  have hw0 : WL.heap[n0]? = some (.cells #[.iface 214 (.pointer (some a))] 52 (0, 0)) := by
    have h1 := World.alloc_heap_new w1 (.cells #[.iface 214 (.pointer (some a))] 52)
    rw [hn0] at h1
    rw [← hWL]
    exact (Below.heap_alloc _ _ _ (by simp; omega)).trans ((Below.heap_alloc _ _ _ (by simp; omega)).trans h1)
  have hwc := (one_cell hw0).1
  have herL : ErrAt a WL := (hBL.cell (p := ⟨7, 0, none⟩) (by show 7 < n0; omega)).trans E1.out
  rw [hWL, hn0]
  have Hn0 := Lib.hid hn0
  clear hWL hn0
  refine wpIn_rangeFunc_ownF rfl (by omega) (gf := 147) (lb := #[.pointer (some ⟨n0 + 1 + 1, 0, none⟩)]) rfl trivial (enters_of Tryz.func147 (by kernel_rfl) rfl)
    (eachSign_stops 5 (by omega) (n0 + 2) ⟨#[]⟩ (by decide) a WL (by omega) hbox (by omega) herL) (fun h k => ⟨fun x => k.1 (h.1 x), fun x => k.2 (h.2 x)⟩) ?hKb (Below.refl _ _) (fun _ => rfl)
    (fun _ W => W.cell? ⟨n0, 0, none⟩ = some (.iface 214 (.pointer (some a))) ∧ Below n0 w1 W)
    (fun _ _ _ => False)
    (OwnFrom.and (Own.from (fun s A B row hs hg hr => cell_kept hs hg hr) _) (ownFrom_below (by rw [← Hn0.out]; exact Nat.le_refl _) (by omega)))
    (fun _ _ _ _ _ hs _ _ => hs)
    ⟨hwc, hBL⟩
    (fun x => { tmps := #[.string s, undef, .string ⟨#[]⟩, .int .i64 0, .string ⟨#[]⟩, .pointer (some ⟨n0, 0, none⟩), .pointer (some ⟨n0 + 1, 0, none⟩), .int .u8 (x.1.toNat : Int), (if x.2 then .iface 214 (.pointer (some a)) else .nilIface), .tuple #[.string ⟨#[]⟩, .iface 214 (.pointer (some a))], .string s, .tuple #[.string ⟨#[]⟩, .iface 214 (.pointer (some a))], .string ⟨#[]⟩, .iface 214 (.pointer (some a)), .string ⟨#[]⟩, .func (.func 147) #[] #[.pointer (some ⟨n0 + 1 + 1, 0, none⟩)], .int .u8 (x.1.toNat : Int), (if x.2 then .iface 214 (.pointer (some a)) else .nilIface), undef, undef, undef, undef, undef, undef, undef, undef, undef, undef], defers := [] }) ?assign ?body ?done ?stop
  case hKb =>
    intro W l o o' hl hl2 ho _
    have hr : ∀ r, some l = some r → ∃ o : Obj, W.heap[r]? = some o ∧ o.isCells = false := fun r e => by cases e; exact ⟨o, hl2, ho⟩
    exact ⟨fun hb => (grownBy_keeps_cells (grownBy_putObj' W l o') hr hb rfl).trans hb, fun he => cell_kept he (grownBy_putObj' W l o') hr⟩
  case assign =>
    intro l x W K hK
    obtain ⟨c, bad⟩ := x
    cases bad with
    | true =>
      simp only [encS, if_true] at hK ⊢
      gi_wp2
      exact hK
    | false =>
      simp only [encS, Bool.false_eq_true, if_false] at hK ⊢
      gi_wp2
      exact hK
  case body =>
    rintro l pre x W _ hlen
    exact absurd hlen (Nat.not_lt_zero _)
  case done =>
    rintro D ys W hD _ ⟨hc, hB⟩ hK
    have herW : ErrAt a W := (hB.cell (p := ⟨7, 0, none⟩) (by show 7 < n0; omega)).trans E1.out
    unfold ErrAt at herW
    gi_wp2_with fail
    refine ⟨trivial, (callsIn_wide.2 (is_same a W)).mono ?_⟩
    rintro e w4 ⟨rfl, rfl⟩
    gi_wp2
    rw [Exit.noGoto_ret]
    refine ⟨by simp, .inl ⟨_, _, rfl, run_takeDeferred hK, ?_⟩⟩
    refine ⟨_, results_tmp2 rfl _ _ _, rfl, ?_⟩
    refine b1.trans ((hB.mono (by rw [← Hn0.out, Z1.out]; exact Nat.le_refl _)).trans (belowK_b (w := w) (Nat.le_refl _) W D _ _ ?_ hK rfl rfl))
    rw [← Z1.out, Hn0.out]
    omega
  case stop =>
    rintro D c pre W _ _ h _
    exact h.elim

/-- The symbol whose text it is. -/
def unqL (l : List UInt8) : Option (List UInt8) := (betw l).bind fun inner => unqS (seqS inner.length inner)
theorem betw_len (l inner : List UInt8) (h : betw l = some inner) : inner.length ≤ l.length := by
  unfold betw at h
  split at h
  · cases h
    exact Nat.le_trans (Lib.trimSuffix_le _ _) (Lib.trimPrefix_le _ _)
  · cases h

theorem unquote_c (s : ByteArray) (a : Addr) (w : World) (hs : s.size ≤ 1073741824) (E : Env a w) :
    Calls Tryz.prog 115 #[.string s] w fun e W' => e = .returned (unqV (unqL s.data.toList)) ∧ Below w.heap.size w W' := by
  have hb := between_c s a w hs E.err
  unfold unqL
  cases hi : betw s.data.toList with
  | none =>
    rw [hi] at hb
    exact callsIn_wide.1 (unquote_bad s a w E.size E.err hb)
  | some inner =>
    rw [hi] at hb
    have hl := betw_len _ _ hi
    have hlen : s.data.toList.length = s.size := by simp
    exact callsIn_wide.1 (unquote_ok s inner (by omega) a w E.size E.err hb)
end Go.Proofs.YthjfkngfgomkbaaGreatDoor
