/- soriteslaw05.v, two, small. What the types of soriteslaw05.shown's two rules are. -/
import Derived.Test.YtbpdfmpfnbdeoaaDoorYtp
import Derived.Test.YtbpdfmpfnbdeoaaDoorTsmall
import Derived.Test.YtbpdfmpfnbdeoaaDoorYsm
namespace Go.Proofs.YtbpdfmpfnbdeoaaDoor
open Go.RowKit

theorem flat_at {z : Nat} : ∀ (css : List (List Value)) (i j : Nat) (cs : List Value) (c : Value), (∀ x ∈ css, x.length = z) → css[i]? = some cs → cs[j]? = some c → css.flatten[i * z + j]? = some c
  | [], i, j, cs, c, _, h, _ => by simp at h
  | x :: css, 0, j, cs, c, hz, h, hc => by
    simp only [List.getElem?_cons_zero, Option.some.injEq] at h
    subst h
    rw [List.flatten_cons, Nat.zero_mul, Nat.zero_add, List.getElem?_append_left (List.getElem?_eq_some_iff.1 hc).1]
    exact hc
  | x :: css, i + 1, j, cs, c, hz, h, hc => by
    rw [List.flatten_cons, List.getElem?_append_right (by rw [hz x (List.mem_cons_self ..), Nat.succ_mul]; omega), hz x (List.mem_cons_self ..), show (i + 1) * z + j - z = i * z + j by rw [Nat.succ_mul]; omega]
    exact flat_at css i j cs c (fun y hy => hz y (List.mem_cons_of_mem _ hy)) (by simpa using h) hc
/-- A row that has just been made, as a slice. -/
theorem sl_cells {α : Type} {w : World} {B z : Nat} {T : TypeId} {R : α → List Value → Prop} {l : List α} (css : List (List Value)) (hrow : w.heap[B]? = some (.cells css.flatten.toArray T (0, 0))) (hl : css.length = l.length) (hz : ∀ cs ∈ css, cs.length = z)
    (hR : ∀ (i : Nat) (x : α) (cs : List Value), l[i]? = some x → css[i]? = some cs → R x cs) (hm : l.length ≤ maxLen) : SlOf w w.heap.size z R l (.slice (some ⟨B, 0, none⟩) l.length l.length) := by
  have news := World.news_of_block hrow
  refine .inr ⟨⟨B, 0, none⟩, l.length, rfl, Nat.le_refl _, hm, fun _ => heap_lt hrow, fun i x hx => ?_⟩
  have hi : i < css.length := by rw [hl]; exact (List.getElem?_eq_some_iff.1 hx).1
  refine ⟨css[i], hz _ (List.getElem_mem hi), hR i x _ hx (List.getElem?_eq_getElem hi), fun j c hj => ?_⟩
  exact news (i * z + j) c (flat_at css i j css[i] c hz (List.getElem?_eq_getElem hi) hj)
def vT (s : ByteArray) : Tm := .mk 1 s 0 []
theorem vT_c (w : World) (s : ByteArray) (hs : s.size ≤ maxLen) : TmC w w.heap.size (vT s) [.int .i64 1, .string s, .int .i64 0, .slice none 0 0] := .nil 1 s 0 (by unfold I64; omega) hs (by unfold I64; omega)
def zT : Tm := .mk 0 ⟨#[]⟩ 0 []
theorem zT_c (w : World) : TmC w w.heap.size zT [.int .i64 0, .string ⟨#[]⟩, .int .i64 0, .slice none 0 0] := .nil 0 ⟨#[]⟩ 0 (by unfold I64; omega) (by decide) (by unfold I64; omega)
theorem row_more {w : World} {i : Nat} {x : Obj} (h : w.heap[i]? = some x) (o : Obj) : (w.alloc o).heap[i]? = some x := (Below.heap_alloc w o i (heap_lt h)).trans h
theorem row_cells {w : World} {b : Nat} {cs : Array Value} {T : TypeId} (h : w.heap[b]? = some (.cells cs T (0, 0))) (i : Nat) : w.cell? ⟨b, i, none⟩ = cs[i]? := by unfold World.cell?; rw [h]; rfl
set_option maxRecDepth 100000 in
theorem v_c (s : ByteArray) (w : World) : Calls Tryd.prog 31 #[.string s] w fun e w' => e = .returned (.agg #[.int .i64 1, .string s, .int .i64 0, .slice none 0 0]) ∧ Below w.heap.size w w' := by
  have hr := World.alloc_heap_new w (.cells #[.int .i64 1, .string s, .int .i64 0, .slice none 0 0] 43)
  have h0 := row_cells hr 0
  have h1 := row_cells hr 1
  have h2 := row_cells hr 2
  have h3 := row_cells hr 3
  simp at h0 h1 h2 h3
  clear hr
  have hb : Below w.heap.size w (w.alloc (.cells #[.int .i64 1, .string s, .int .i64 0, .slice none 0 0] 43)) := (Below.refl _ _).alloc (Nat.le_refl _) _
  go_enter Tryd.func31, Tryd.ntmps31
  go_wp2
  refine bodyPost_ret (v := .agg #[.int .i64 1, .string s, .int .i64 0, .slice none 0 0]) (by simp [results, Tryd.results31, go_sem, h0, h1, h2, h3]) rfl ?_
  exact ⟨rfl, hb⟩
def pS : ByteArray := ⟨#[112]⟩
def twoD : De := ⟨pS, [⟨#[97]⟩, ⟨#[98]⟩], [1, 2], false, false, 0⟩
set_option maxRecDepth 100000 in
theorem two_c (w : World) : Calls Tryd.prog 32 #[] w fun e w' => ∃ v, e = .returned v ∧ SlOf w' w'.heap.size 6 (DeC w' w'.heap.size) [twoD] v ∧ Below w.heap.size w w' := by
  obtain ⟨W1, hW1⟩ : ∃ W1, w.alloc (.cells #[.string ⟨#[97]⟩, .string ⟨#[98]⟩] 9) = W1 := ⟨_, rfl⟩
  obtain ⟨W2, hW2⟩ : ∃ W2, W1.alloc (.cells #[.int .i64 1, .int .i64 2] 3) = W2 := ⟨_, rfl⟩
  obtain ⟨W3, hW3⟩ : ∃ W3, W2.alloc (.cells #[.string pS, .slice (some ⟨w.heap.size, 0, none⟩) 2 2, .slice (some ⟨w.heap.size + 1, 0, none⟩) 2 2, .bool false, .bool false, .int .i64 0] 71) = W3 := ⟨_, rfl⟩
  have z1 : W1.heap.size = w.heap.size + 1 := by rw [← hW1]; simp
  have z2 : W2.heap.size = w.heap.size + 1 + 1 := by rw [← hW2]; simp [z1]
  have r1 : W1.heap[w.heap.size]? = some (.cells #[.string ⟨#[97]⟩, .string ⟨#[98]⟩] 9 (0, 0)) := by rw [← hW1]; exact World.alloc_heap_new w _
  have r2 : W2.heap[w.heap.size + 1]? = some (.cells #[.int .i64 1, .int .i64 2] 3 (0, 0)) := by rw [← hW2, ← z1]; exact World.alloc_heap_new W1 _
  have r3 : W3.heap[w.heap.size + 1 + 1]? = some (.cells #[.string pS, .slice (some ⟨w.heap.size, 0, none⟩) 2 2, .slice (some ⟨w.heap.size + 1, 0, none⟩) 2 2, .bool false, .bool false, .int .i64 0] 71 (0, 0)) := by rw [← hW3, ← z2]; exact World.alloc_heap_new W2 _
  have q1 : W3.heap[w.heap.size]? = some (.cells #[.string ⟨#[97]⟩, .string ⟨#[98]⟩] 9 (0, 0)) := by rw [← hW3]; refine row_more ?_ _; rw [← hW2]; exact row_more r1 _
  have q2 : W3.heap[w.heap.size + 1]? = some (.cells #[.int .i64 1, .int .i64 2] 3 (0, 0)) := by rw [← hW3]; exact row_more r2 _
  have hb : Below w.heap.size w W3 := by
    rw [← hW3, ← hW2, ← hW1]
    exact (((Below.refl _ _).alloc (Nat.le_refl _) _).alloc (by simp) _).alloc (by simp; omega) _
  have hs : SlOf W3 W3.heap.size 6 (DeC W3 W3.heap.size) [twoD] (.slice (some ⟨w.heap.size + 1 + 1, 0, none⟩) 1 1) := by
    refine sl_cells (l := [twoD]) [[.string pS, .slice (some ⟨w.heap.size, 0, none⟩) 2 2, .slice (some ⟨w.heap.size + 1, 0, none⟩) 2 2, .bool false, .bool false, .int .i64 0]] r3 rfl (by simp) ?_ (by decide)
    intro i x cs hx hc
    match i, hx, hc with
    | 0, hx, hc =>
      obtain rfl : twoD = x := by simpa using hx
      obtain rfl : [Value.string pS, .slice (some ⟨w.heap.size, 0, none⟩) 2 2, .slice (some ⟨w.heap.size + 1, 0, none⟩) 2 2, .bool false, .bool false, .int .i64 0] = cs := by simpa using hc
      refine ⟨_, _, rfl, by decide, by unfold I64; decide, ?_, ?_⟩
      · refine sl_cells (l := [(⟨#[97]⟩ : ByteArray), ⟨#[98]⟩]) [[.string ⟨#[97]⟩], [.string ⟨#[98]⟩]] q1 rfl (by simp) ?_ (by decide)
        intro i x cs hx hc
        match i, hx, hc with
        | 0, hx, hc => simp at hx hc; subst hx hc; exact ⟨rfl, by decide⟩
        | 1, hx, hc => simp at hx hc; subst hx hc; exact ⟨rfl, by decide⟩
        | i + 2, hx, _ => simp at hx
      · refine sl_cells (l := [(1 : Int), 2]) [[.int .i64 1], [.int .i64 2]] q2 rfl (by simp) ?_ (by decide)
        intro i x cs hx hc
        match i, hx, hc with
        | 0, hx, hc => simp at hx hc; subst hx hc; exact ⟨rfl, by unfold I64; decide⟩
        | 1, hx, hc => simp at hx hc; subst hx hc; exact ⟨rfl, by unfold I64; decide⟩
        | i + 2, hx, _ => simp at hx
    | i + 1, hx, _ => simp at hx
  subst hW1 hW2 hW3
  clear r1 r2 r3 q1 q2 z1 z2
  have HS := Lib.hid hs
  have HB := Lib.hid hb
  clear hs hb
  go_enter Tryd.func32, Tryd.ntmps32
  go_wp2
  go_ret
  exact ⟨_, rfl, HS.out, HB.out⟩
set_option maxRecDepth 100000 in
set_option maxHeartbeats 2000000 in
theorem small5_c (ds : List De) (v : Value) (r : Ru) (cs : List Value) (w : World) (hd : SlOf w w.heap.size 6 (DeC w w.heap.size) ds v) (hc : RuC w w.heap.size r cs) :
    Calls Tryd.prog 12 #[v, .agg cs.toArray] w fun e w' => e = .returned (.bool (smallP ⟨ds, [r]⟩)) ∧ Below w.heap.size w w' := by
  obtain ⟨o0, k0, o1, k1, rfl, _⟩ := hc.look
  obtain ⟨od, kd, rfl, _⟩ := SlOf.uni hd
  obtain ⟨C, hC⟩ : ∃ C : Obj, .cells #[.string r.head.rel, .slice o0 r.head.l.length k0, .slice o1 r.body.length k1, .int .i64 r.line] 27 = C := ⟨_, rfl⟩
  have b1 : Below w.heap.size w (w.alloc C) := (Below.refl _ _).alloc (Nat.le_refl _) _
  have b2 : Below w.heap.size w ((w.alloc C).alloc C) := b1.alloc (by simp) _
  have HSL : SlOf ((w.alloc C).alloc C) ((w.alloc C).alloc C).heap.size 4 (RuC ((w.alloc C).alloc C) ((w.alloc C).alloc C).heap.size) [r] (.slice (some ⟨w.heap.size + 1, 0, none⟩) 1 1) := by
    have := rule_slice (w.alloc C) r ((hc.below b1).more b1.size)
    rw [hC] at this
    simpa using this
  have HR := Lib.hid (small_c ⟨ds, [r]⟩ _ [.slice od ds.length kd, .slice (some ⟨w.heap.size + 1, 0, none⟩) 1 1] ⟨_, _, rfl, SlOf.decl hd b2 b2.size, HSL⟩)
  have B2 := Lib.hid b2
  subst hC
  clear hd hc b1 b2 HSL
  go_enter Tryd.func12, Tryd.ntmps12
  go_wp2_with fail
  refine HR.out.mono ?_
  rintro e3 w3 ⟨rfl, b3⟩
  have B3 := Lib.hid (B2.out.trans (b3.mono B2.out.size))
  unfold smallI
  obtain ⟨q, hq⟩ : ∃ q, smallP ⟨ds, [r]⟩ = q := ⟨_, rfl⟩
  rw [hq]
  have Hq := Lib.hid hq
  clear hq
  cases q with
  | true =>
    go_wp2
    go_ret
    exact ⟨by rw [Hq.out]; rfl, B3.out⟩
  | false =>
    go_wp2
    go_ret
    exact ⟨by rw [Hq.out]; rfl, B3.out⟩
end Go.Proofs.YtbpdfmpfnbdeoaaDoor
namespace Go.Proofs.YtbpdfmpfnbdeoaaDoor
open Go.RowKit

def xS : ByteArray := ⟨#[120]⟩
def yS : ByteArray := ⟨#[121]⟩
def xyA : Am := ⟨pS, [vT xS, vT yS]⟩
def xyR : Ru := ⟨xyA, [⟨1, xyA, zT, zT⟩], 0⟩
def xxR : Ru := ⟨⟨pS, [vT xS, vT xS]⟩, [⟨1, xyA, zT, zT⟩], 0⟩
theorem xy_right : rightP ⟨[twoD], [xyR]⟩ = true := by decide +kernel
theorem xx_right : rightP ⟨[twoD], [xxR]⟩ = true := by decide +kernel
theorem xy_chk : chkA [twoD] (atomsR xyR) = 0 := by decide +kernel
theorem xx_chk : chkA [twoD] (atomsR xxR) = 0 := by decide +kernel
theorem find_p : findY pS [twoD] = some 0 := by decide +kernel
theorem plc_p (l : List Tm) : plc [twoD] ⟨pS, l⟩ = l.zip [1, 2] := by
  unfold plc
  rw [find_p]
  rfl
theorem xy_base : baseL [twoD] xyR = [(vT xS, 1), (vT yS, 2), (vT xS, 1), (vT yS, 2), (zT, 1), (zT, 1)] := by
  have h1 : plc [twoD] xyA = [(vT xS, 1), (vT yS, 2)] := plc_p _
  unfold baseL plcs
  rw [show atomsR xyR = [xyA, xyA] from rfl, show aggT xyR.body = [zT, zT] from rfl, show (termsR xyR).flatMap (fun t => t.l) = [] by simp [termsR, xyR, xyA, vT, zT, subTs, subT, litTs]]
  simp [h1, nums]
theorem xx_base : (vT xS, (1 : Int)) ∈ baseL [twoD] xxR ∧ (vT xS, (2 : Int)) ∈ baseL [twoD] xxR := by
  have : plc [twoD] xxR.head = [(vT xS, 1), (vT xS, 2)] := plc_p _
  have h : ∀ x ∈ plc [twoD] xxR.head, x ∈ baseL [twoD] xxR := fun x hx => List.mem_append_left _ (List.mem_flatMap.2 ⟨xxR.head, List.mem_cons_self .., hx⟩)
  rw [this] at h
  exact ⟨h _ (by simp), h _ (by simp)⟩
theorem xy_der {s : List UInt8} {k : Int} (h : DerR [twoD] xyR s k) : (s = [120] ∧ k = 1) ∨ (s = [121] ∧ k = 2) := by
  have hp : prsL xyR.body = [] := rfl
  unfold DerR at h
  rw [hp, xy_base] at h
  cases h with
  | @base t k h1 h2 =>
    simp only [List.mem_cons, Prod.mk.injEq, List.not_mem_nil, or_false] at h1
    rcases h1 with ⟨rfl, rfl⟩ | ⟨rfl, rfl⟩ | ⟨rfl, rfl⟩ | ⟨rfl, rfl⟩ | ⟨rfl, rfl⟩ | ⟨rfl, rfl⟩
    · exact .inl ⟨rfl, rfl⟩
    · exact .inr ⟨rfl, rfl⟩
    · exact .inl ⟨rfl, rfl⟩
    · exact .inr ⟨rfl, rfl⟩
    · exact absurd h2 (by decide)
    · exact absurd h2 (by decide)
  | lc h1 => cases h1
  | lv h1 => cases h1
  | rc h1 => cases h1
  | rv h1 => cases h1
theorem xy_x : DerR [twoD] xyR [120] 1 := Der.base (t := vT xS) (by rw [xy_base]; simp) rfl
theorem xy_y : DerR [twoD] xyR [121] 2 := Der.base (t := vT yS) (by rw [xy_base]; simp) rfl
theorem xy_vars : varsV (termsR xyR) = [xS, yS] := by
  have : termsR xyR = [vT xS, vT yS, zT, zT, vT xS, vT yS] := by simp [termsR, xyR, xyA, vT, zT, subTs, subT, litTs]
  rw [this]
  decide +kernel
theorem xy_fits : Fits [twoD] xyR := by
  refine ⟨⟨fun s k k' h1 h2 => ?_, fun t k h1 h2 => ?_, fun x y h => by cases h⟩, fun t ht hv => ?_⟩
  · rcases xy_der h1 with ⟨rfl, rfl⟩ | ⟨rfl, rfl⟩ <;> rcases xy_der h2 with ⟨h, rfl⟩ | ⟨h, rfl⟩
    · rfl
    · cases h
    · cases h
    · rfl
  · rw [xy_base] at h1
    simp only [List.mem_cons, Prod.mk.injEq, List.not_mem_nil, or_false] at h1
    rcases h1 with ⟨rfl, rfl⟩ | ⟨rfl, rfl⟩ | ⟨rfl, rfl⟩ | ⟨rfl, rfl⟩ | ⟨rfl, rfl⟩ | ⟨rfl, rfl⟩
    · exact absurd rfl h2
    · exact absurd rfl h2
    · exact absurd rfl h2
    · exact absurd rfl h2
    · exact .inl rfl
    · exact .inl rfl
  · have e : termsR xyR = [vT xS, vT yS, zT, zT, vT xS, vT yS] := by simp [termsR, xyR, xyA, vT, zT, subTs, subT, litTs]
    rw [e] at ht
    simp only [List.mem_cons, List.not_mem_nil, or_false] at ht
    rcases ht with rfl | rfl | rfl | rfl | rfl | rfl
    · exact ⟨1, by decide, xy_x⟩
    · exact ⟨2, by decide, xy_y⟩
    · exact absurd hv (by decide)
    · exact absurd hv (by decide)
    · exact ⟨1, by decide, xy_x⟩
    · exact ⟨2, by decide, xy_y⟩
theorem types_xy {l : List Int} {k : Int} (h : TyA [twoD] xyR l k) : k = 0 ∧ l = [1, 2] := by
  cases h with
  | tree h => rw [xy_right] at h; cases h
  | atom _ h => exact absurd xy_chk h
  | none _ _ h => exact absurd xy_fits h
  | @some K _ _ _ h _ =>
    refine ⟨rfl, ?_⟩
    rw [xy_vars]
    have h1 : look K xS.data.toList = 1 := (h [120] 1 (by decide)).2 xy_x
    have h2 : look K yS.data.toList = 2 := (h [121] 2 (by decide)).2 xy_y
    simp [h1, h2]
theorem types_xx {l : List Int} {k : Int} (h : TyA [twoD] xxR l k) : k = 53 ∧ l = [] := by
  cases h with
  | tree h => rw [xx_right] at h; cases h
  | atom _ h => exact absurd xx_chk h
  | none _ _ h => exact ⟨rfl, rfl⟩
  | some _ _ h => exact absurd (h.1.one _ _ _ (Der.base xx_base.1 rfl) (Der.base xx_base.2 rfl)) (by decide)
theorem xy_len : (termsR xyR).length ≤ 1000000 ∧ ∀ t ∈ termsR xyR, t.s.size ≤ 1000000 := by
  have e : termsR xyR = [vT xS, vT yS, zT, zT, vT xS, vT yS] := by simp [termsR, xyR, xyA, vT, zT, subTs, subT, litTs]
  rw [e]
  refine ⟨by decide, fun t ht => ?_⟩
  simp only [List.mem_cons, List.not_mem_nil, or_false] at ht
  rcases ht with rfl | rfl | rfl | rfl | rfl | rfl <;> decide
theorem xx_len : (termsR xxR).length ≤ 1000000 ∧ ∀ t ∈ termsR xxR, t.s.size ≤ 1000000 := by
  have e : termsR xxR = [vT xS, vT xS, zT, zT, vT xS, vT yS] := by simp [termsR, xxR, xyA, vT, zT, subTs, subT, litTs]
  rw [e]
  refine ⟨by decide, fun t ht => ?_⟩
  simp only [List.mem_cons, List.not_mem_nil, or_false] at ht
  rcases ht with rfl | rfl | rfl | rfl | rfl | rfl <;> decide
/-! ### How they lie -/
def xyCells (B : Nat) : List Value := [.string pS, .slice (some ⟨B, 0, none⟩) 2 2]
def litCells (B : Nat) : List Value := .int .i64 1 :: (xyCells B ++ [.int .i64 0, .string ⟨#[]⟩, .int .i64 0, .slice none 0 0, .int .i64 0, .string ⟨#[]⟩, .int .i64 0, .slice none 0 0])
def ruCells (A b : Nat) : List Value := xyCells A ++ [.slice (some ⟨b, 0, none⟩) 1 1, .int .i64 0]
/-- A row of two variables. -/
def TwoAt (w : World) (B : Nat) (s t : ByteArray) : Prop := w.heap[B]? = some (.cells #[.int .i64 1, .string s, .int .i64 0, .slice none 0 0, .int .i64 1, .string t, .int .i64 0, .slice none 0 0] 43 (0, 0))
theorem two_tms {w : World} {B : Nat} {s t : ByteArray} (h : TwoAt w B s t) (hs : s.size ≤ maxLen) (ht : t.size ≤ maxLen) : TmS w w.heap.size [vT s, vT t] (.slice (some ⟨B, 0, none⟩) 2 2) := by
  refine sl_cells (l := [vT s, vT t]) [[.int .i64 1, .string s, .int .i64 0, .slice none 0 0], [.int .i64 1, .string t, .int .i64 0, .slice none 0 0]] h rfl (by simp) ?_ (by simp [maxLen])
  intro i x cs hx hc
  match i, hx, hc with
  | 0, hx, hc => simp only [List.getElem?_cons_zero, Option.some.injEq] at hx hc; subst hx hc; exact vT_c w s hs
  | 1, hx, hc => simp only [List.getElem?_cons_succ, List.getElem?_cons_zero, Option.some.injEq] at hx hc; subst hx hc; exact vT_c w t ht
  | i + 2, hx, _ => simp at hx
theorem two_am {w : World} {B : Nat} {s t : ByteArray} (h : TwoAt w B s t) (hs : s.size ≤ maxLen) (ht : t.size ≤ maxLen) : AmC w w.heap.size ⟨pS, [vT s, vT t]⟩ (xyCells B) := ⟨_, rfl, by show pS.size ≤ maxLen; decide, two_tms h hs ht⟩
/-- A rule over that atom. -/
theorem xy_ru {w : World} {A B b : Nat} {s t : ByteArray} (hA : TwoAt w A s t) (hB : TwoAt w B xS yS) (hs : s.size ≤ maxLen) (ht : t.size ≤ maxLen) (hb : w.heap[b]? = some (.cells (litCells B).toArray 45 (0, 0))) :
    RuC w w.heap.size ⟨⟨pS, [vT s, vT t]⟩, [⟨1, xyA, zT, zT⟩], 0⟩ (ruCells A b) := by
  refine ⟨_, _, rfl, by unfold I64; simp, two_am hA hs ht, ?_⟩
  refine sl_cells (l := [(⟨1, xyA, zT, zT⟩ : Lt)]) [litCells B] (by simpa using hb) rfl (by simp [litCells, xyCells]) ?_ (by simp [maxLen])
  intro i x cs hx hc
  match i, hx, hc with
  | 0, hx, hc =>
    simp only [List.getElem?_cons_zero, Option.some.injEq] at hx hc
    subst hx hc
    exact ⟨xyCells B, [.int .i64 0, .string ⟨#[]⟩, .int .i64 0, .slice none 0 0], [.int .i64 0, .string ⟨#[]⟩, .int .i64 0, .slice none 0 0], rfl, by unfold I64; decide, two_am hB (by decide) (by decide), zT_c w, zT_c w⟩
  | i + 1, hx, _ => simp at hx
end Go.Proofs.YtbpdfmpfnbdeoaaDoor
