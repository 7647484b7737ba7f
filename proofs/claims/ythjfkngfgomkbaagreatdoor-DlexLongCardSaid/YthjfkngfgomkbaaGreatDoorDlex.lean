/- dlex.Lex answers the tokens of a text, or where something is wrong: what lexR says of its bytes; for every text of less than 2^30 bytes, in every world that holds the listed variables. -/
import Derived.Test.YthjfkngfgomkbaaGreatDoorDtok
import Derived.Test.YthjfkngfgomkbaaGreatDoorDerrno
import Derived.RangeFuncBox
import Derived.Maps.AppendAt
import Derived.Deep.RegionHeld3
namespace Go.Proofs.YthjfkngfgomkbaaGreatDoor
open Go.RowKit Go.Shelf

attribute [local go_sem] Oper.semAt_some

def tokRow (t : Tk) : List Value := [.int .i64 (t.kind : Int), .string ⟨t.s.toArray⟩, .int .i64 (t.line : Int)]
def tokCells (ts : List Tk) : List Value := ts.flatMap tokRow
theorem tokCells_len (ts : List Tk) : (tokCells ts).length = ts.length * 3 := by
  induction ts with
  | nil => rfl
  | cons t ts ih => simp only [tokCells, List.flatMap_cons, List.length_append, List.length_cons] at ih ⊢; rw [ih]; simp [tokRow]; omega

/-- What Lex answers: the tokens in new memory, the line, the error. -/
def LexPost (w : World) (r : List Tk × Nat × Nat) (e : Ending) (w' : World) : Prop :=
  ∃ v, e = .returned (.tuple #[v, .int .i64 (r.2.1 : Int), .int .i64 (r.2.2 : Int)]) ∧ w'.ownsRow w.heap.size 50 3 v r.1.length (tokCells r.1) ∧ Below w.heap.size w w'

theorem lexR_long {l : List UInt8} (h : 65536 < l.length) : lexR l = ([], 0, 21) := by unfold lexR; rw [if_pos h]


theorem lex_long (s : ByteArray) (w : World) (h : 65536 < s.size) (hs : s.size ≤ 1073741823) :
    Calls Tryz.prog 9 #[.string s] w (LexPost w (lexR s.data.toList)) := by
  have Hr : Hid (lexR s.data.toList = ([], 0, 21)) := Lib.hid (lexR_long (by rw [data_len]; exact h))
  have h' : (65536 : Int) < (s.size : Int) := by omega
  go_enter Tryz.func9, Tryz.ntmps9
  go_wp2
  go_step3
  go_wp2
  try rw [Exit.noGoto_ret]
  go_ret3
  unfold LexPost
  rw [Hr.out]
  exact ⟨_, rfl, World.ownsRow_nil _ _ _ _, Below.refl _ _⟩

theorem prefix_at {α : Type} {p q : List α} {x : α} (h : p ++ [x] <+: q) : q[p.length]? = some x := by
  obtain ⟨r, rfl⟩ := h
  simp
theorem lexR_bad {l : List UInt8} (hl : ¬ 65536 < l.length) {p : List (Tk × Bool)} {x : Tk × Bool} (hp : p ++ [x] <+: seqD (l.length + 1) 1 l) (hlen : p.length ≤ 20000) (hx : x.2 = true) : lexR l = ([], x.1.line, 20) := by
  have h := prefix_at hp
  rw [seqD_lexF] at h
  change ((lexL l).1.map (fun t => (t, false)) ++ behind (lexL l).2)[p.length]? = some x at h
  rcases Nat.lt_or_ge p.length (lexL l).1.length with hlt | hge
  · rw [List.getElem?_append_left (by simpa using hlt), List.getElem?_map, List.getElem?_eq_getElem hlt] at h
    simp only [Option.map_some, Option.some.injEq] at h
    rw [← h] at hx
    cases hx
  · rw [List.getElem?_append_right (by simpa using hge)] at h
    cases he : (lexL l).2 with
    | none => rw [he] at h; simp [behind] at h
    | some e =>
      rw [he] at h
      simp only [behind, List.length_map] at h
      have h0 : p.length - (lexL l).1.length = 0 := by
        rcases Nat.eq_zero_or_pos (p.length - (lexL l).1.length) with h1 | h1
        · exact h1
        · rw [List.getElem?_eq_none (by simp; omega)] at h
          cases h
      rw [h0] at h
      simp only [List.getElem?_cons_zero, Option.some.injEq] at h
      unfold lexR
      rw [if_neg hl, if_neg (by omega), he, ← h]
theorem lexR_many {l : List UInt8} (hl : ¬ 65536 < l.length) {p : List (Tk × Bool)} {x : Tk × Bool} (hp : p ++ [x] <+: seqD (l.length + 1) 1 l) (hlen : p.length = 20000) (hx : x.2 = false) : lexR l = ([], x.1.line, 21) := by
  have h := prefix_at hp
  rw [seqD_lexF] at h
  change ((lexL l).1.map (fun t => (t, false)) ++ behind (lexL l).2)[p.length]? = some x at h
  rcases Nat.lt_or_ge p.length (lexL l).1.length with hlt | hge
  · rw [List.getElem?_append_left (by simpa using hlt), List.getElem?_map, List.getElem?_eq_getElem hlt] at h
    simp only [Option.map_some, Option.some.injEq] at h
    unfold lexR
    rw [if_neg hl, if_pos (by omega), List.getD_eq_getElem?_getD, ← hlen, List.getElem?_eq_getElem hlt, ← h]
    rfl
  · rw [List.getElem?_append_right (by simpa using hge)] at h
    have : x ∈ behind (lexL l).2 := List.mem_of_getElem? h
    cases he : (lexL l).2 with
    | none => rw [he] at this; simp [behind] at this
    | some e =>
      rw [he] at this
      simp only [behind, List.mem_singleton] at this
      rw [this] at hx
      cases hx
theorem lexR_good {l : List UInt8} (hl : ¬ 65536 < l.length) (hall : ∀ x ∈ seqD (l.length + 1) 1 l, x.2 = false) (hlen : (seqD (l.length + 1) 1 l).length ≤ 20000) : lexR l = ((seqD (l.length + 1) 1 l).map (·.1), 0, 0) := by
  rw [seqD_lexF] at hall hlen ⊢
  change ∀ x ∈ (lexL l).1.map (fun t => (t, false)) ++ behind (lexL l).2, x.2 = false at hall
  change ((lexL l).1.map (fun t => (t, false)) ++ behind (lexL l).2).length ≤ 20000 at hlen
  change _ = (((lexL l).1.map (fun t => (t, false)) ++ behind (lexL l).2).map (·.1), 0, 0)
  cases he : (lexL l).2 with
  | none =>
    rw [he] at hlen
    simp only [behind, List.append_nil, List.length_map] at hlen ⊢
    unfold lexR
    rw [if_neg hl, if_neg (by omega), he]
    simp [Function.comp_def]
  | some e =>
    rw [he] at hall
    have := hall (⟨0, [], e⟩, true) (by simp [behind])
    cases this

/-- What has come of a token, and of an error. -/
def tokA (x : Tk × Bool) : Value := if x.2 = true then .agg #[.int .i64 0, .string ⟨#[]⟩, .int .i64 0] else tokV x.1
def errA (b : Addr) (x : Tk × Bool) : Value := if x.2 = true then leV (x.1.line : Int) b else .nilIface
def rowA (x : Tk × Bool) : Array Value := if x.2 = true then #[.int .i64 0, .string ⟨#[]⟩, .int .i64 0] else #[.int .i64 (x.1.kind : Int), .string ⟨x.1.s.toArray⟩, .int .i64 (x.1.line : Int)]
/-- How the loop is left: with the last thing that came. -/
def LeftBy (b c : Addr) (n0 : Nat) (pre : List (Tk × Bool)) (W : World) : Prop :=
  ∃ (p : List (Tk × Bool)) (x : Tk × Bool), pre = p ++ [x] ∧ p.length ≤ 20000 ∧ ((x.2 = true ∧ Boxed W (n0 + 1) 52 (leV (x.1.line : Int) b)) ∨ (x.2 = false ∧ p.length = 20000 ∧ Boxed W (n0 + 1) 52 (leV (x.1.line : Int) c)))
theorem infoTok : (Tryz.prog.info? 50).map (fun i => (i.zero, i.size, i.bytes)) = some (some (.agg #[.int .i64 0, .string ⟨#[]⟩, .int .i64 0]), 3, 32) := by kernel_rfl

theorem tok_new (W : World) (t : Tk) : ∀ j u, (tokRow t)[j]? = some u → (W.alloc (.cells #[.int .i64 (t.kind : Int), .string ⟨t.s.toArray⟩, .int .i64 (t.line : Int)] 50)).cell? ((⟨W.heap.size, 0, none⟩ : Addr).add j) = some u := by
  intro j u hj
  have hadd : (⟨W.heap.size, 0, none⟩ : Addr).add j = ⟨W.heap.size, j, none⟩ := by unfold Addr.add; split <;> simp_all
  rw [hadd, (cell_row (World.alloc_heap_new W _) j).1]
  simpa [tokRow] using hj
theorem tok_one (t : Tk) : ∀ u ∈ tokRow t, u.oneCell' = true := by
  intro u hu
  simp only [tokRow, List.mem_cons, List.not_mem_nil, or_false] at hu
  rcases hu with rfl | rfl | rfl <;> rfl

set_option maxRecDepth 100000 in
set_option maxHeartbeats 8000000 in
theorem lex_short (s : ByteArray) (a b c : Addr) (w : World) (h : ¬ 65536 < s.size) (E : DEnv a b c w) (hb : RowAt b w) (hc : RowAt c w) :
    CallsIn Fence.wide 6 Tryz.prog 9 #[.string s] w fun e W' => LexPost w (lexR s.data.toList) e W' := by
  have h' : ¬ (65536 : Int) < (s.size : Int) := by omega
  have HE := Lib.hid E
  have hV := E.env.size
  have Hb := Lib.hid hb
  have Hc := Lib.hid hc
  clear E hb hc
  refine callsIn_of_wp_marks Tryz.func9 rfl trivial ?_ rfl
  simp only [Tryz.ntmps9, List.size_toArray, List.length_cons, List.length_nil, Nat.reduceAdd, Nat.reduceSub, Array.replicate_succ, Array.replicate_zero, List.push_toArray, List.append_toArray, List.nil_append, List.cons_append]
  gi_wp2_with fail
  refine wpIn_scope_wide ?_
  gi_wp2_with fail
  refine wpIn_label ?_
  gi_wp2_with fail
  refine ⟨trivial, (eachToken_in _ s _).mono ?_⟩
  rintro e w3 ⟨rfl, rfl⟩
  gi_wp2_with fail
  obtain ⟨n0, hn0⟩ : ∃ n0, w.heap.size = n0 := ⟨_, rfl⟩
  obtain ⟨WL, hWL⟩ : ∃ WL, (((w.alloc (.cells #[.slice none 0 0] 24)).alloc (.cells #[.nilIface] 52)).alloc (.cells #[.string s] 9)) = WL := ⟨_, rfl⟩
  have bL : Boxed WL n0 24 (.slice none 0 0) := by
    have := ((Boxed.new w 24 (.slice none 0 0)).alloc (.cells #[.nilIface] 52)).alloc (.cells #[.string s] 9)
    rw [hWL, hn0] at this
    exact this
  have bW : Boxed WL (n0 + 1) 52 .nilIface := by
    have := (Boxed.new (w.alloc (.cells #[.slice none 0 0] 24)) 52 .nilIface).alloc (.cells #[.string s] 9)
    rw [hWL, World.size_alloc, hn0] at this
    exact this
  have hbox : BoxAt (n0 + 1 + 1) s WL := by
    have := World.alloc_heap_new ((w.alloc (.cells #[.slice none 0 0] 24)).alloc (.cells #[.nilIface] 52)) (.cells #[.string s] 9)
    rw [hWL] at this
    unfold BoxAt
    simpa [hn0] using this
  have hsz : WL.heap.size = n0 + 3 := by rw [← hWL]; simp; omega
  have hBL : Below n0 w WL := by
    rw [← hWL]
    exact (((Below.refl _ w).alloc (by omega) _).alloc (by simp; omega) _).alloc (by simp; omega) _
  rw [hWL, hn0]
  rw [hn0] at hV
  have Hn0 := Lib.hid hn0
  have Hsz := Lib.hid hsz
  clear hWL hn0 hsz
  refine wpIn_rangeFunc_ownH rfl (by omega) (gf := 43) (lb := #[.pointer (some ⟨n0 + 1 + 1, 0, none⟩)]) rfl trivial (enters_of Tryz.func43 (by kernel_rfl) rfl)
    (eachToken_stops 5 (by omega) (n0 + 1 + 1) s (by omega) a b c WL (by have := Hsz.out; omega) hbox (HE.out.belowB hV hBL)) (fun h k e => k (h e)) ?hKb (Below.refl _ _) (fun x => by unfold encD; split <;> rfl)
    (fun pre W => ((∃ v, Boxed W n0 24 v ∧ W.ownsRow n0 50 3 v pre.length (tokCells (pre.map (·.1))) ∧ True) ∧ Boxed W (n0 + 1) 52 .nilIface ∧ ((∀ x ∈ pre, x.2 = false) ∧ pre.length ≤ 20000)) ∧ Below n0 w W)
    (fun cd pre W => (cd = .exit 0 ∧ LeftBy b c n0 pre W) ∧ Below n0 w W)
    (OwnFrom.and (OwnFrom.and (Own.from (holdsRow_own n0 n0 24 50 3 (fun (pre : List (Tk × Bool)) => pre.length) (fun (pre : List (Tk × Bool)) => tokCells (pre.map (·.1))) (fun _ _ => True)) _) (OwnFrom.and (Own.from (boxed_own (n0 + 1) 52 (fun _ => .nilIface)) _) (ownFrom_pure _ _))) (ownFrom_below (by rw [Hn0.out]; exact Nat.le_refl _) (by have := Hsz.out; omega)))
    (fun cd => OwnFrom.and (Own.from (fun pre A B row hs hg hr => by
      obtain ⟨hcd, p, x, hp, hl, hx⟩ := hs
      refine ⟨hcd, p, x, hp, hl, ?_⟩
      rcases hx with ⟨h1, h2⟩ | ⟨h1, h2, h3⟩
      · exact .inl ⟨h1, boxed_own (n0 + 1) 52 (fun (_ : Unit) => leV (x.1.line : Int) b) () A B row h2 hg hr⟩
      · exact .inr ⟨h1, h2, boxed_own (n0 + 1) 52 (fun (_ : Unit) => leV (x.1.line : Int) c) () A B row h3 hg hr⟩) _) (ownFrom_below (by rw [Hn0.out]; exact Nat.le_refl _) (by have := Hsz.out; omega)))
    ⟨⟨⟨_, bL, World.ownsRow_nil _ _ _ _, trivial⟩, bW, by simp, by simp⟩, hBL⟩
    (fun x a' W => ∃ Bx, n0 + 1 < Bx ∧ W.heap[Bx]? = some (.cells (rowA x) 50 (0, 0)) ∧ a' = { tmps := #[.string s, undef, .slice none 0 0, .int .i64 0, .int .i64 0, .pointer (some ⟨n0, 0, none⟩), .pointer (some ⟨n0 + 1, 0, none⟩), .pointer (some ⟨Bx, 0, none⟩), errA b x, undef, .string s, .int .i64 s.size, .bool (decide ((65536 : Int) < (s.size : Int))), .string s, .func (.func 43) #[] #[.pointer (some ⟨n0 + 1 + 1, 0, none⟩)], tokA x, errA b x, undef, undef, undef, undef, undef, undef, undef, undef, undef, undef, undef, undef, undef, undef, undef, undef, undef, undef, undef, undef, undef, undef, undef, undef, undef], defers := [] })
    (fun x a' _ X Y row hs hg hr => by obtain ⟨Bx, h1, h2, h3⟩ := hs; exact ⟨Bx, h1, (grownBy_keeps_cells hg (fun r e => (hr r e).2) h2 rfl).trans h2, h3⟩)
    ?assign ?body ?done ?stop
  case hKb =>
    intro W l o o' hl hl2 ho hw E
    exact E.belowB hV (belowK_b (w := WL) (by have := Hsz.out; omega) W l o o' hl hl2 ho hw)
  case assign =>
    rintro l pre ⟨t, bad⟩ W K ⟨⟨⟨v, hv, hrow, _⟩, hw, hp⟩, hB⟩ hK
    have hlt := hw.lt
    have key : ∀ o : Obj, KeepsFrom WL.heap.size W (W.alloc o) ∧ KeepsD a b c W (W.alloc o) ∧ (((∃ v, Boxed (W.alloc o) n0 24 v ∧ (W.alloc o).ownsRow n0 50 3 v pre.length (tokCells (pre.map (·.1))) ∧ True) ∧ Boxed (W.alloc o) (n0 + 1) 52 .nilIface ∧ ((∀ x ∈ pre, x.2 = false) ∧ pre.length ≤ 20000)) ∧ Below n0 w (W.alloc o)) := fun o =>
      ⟨(KeepsOthers.alloc _ _).from _, fun E => E.below ((Below.refl _ _).alloc (Nat.le_refl _) _), ⟨⟨v, hv.alloc _, hrow.alloc _, trivial⟩, hw.alloc _, hp⟩, hB.alloc (by omega) _⟩
    have Key := Lib.hid key
    clear key hv hrow hw hp hB
    cases bad with
    | true =>
      simp only [encD, if_true] at hK ⊢
      gi_wp2
      exact hK _ _ (Key.out _).1 (Key.out _).2.1 (Key.out _).2.2 ⟨W.heap.size, hlt, World.alloc_heap_new W _, rfl⟩
    | false =>
      simp only [encD, tokV, Bool.false_eq_true, if_false] at hK ⊢
      gi_wp2
      exact hK _ _ (Key.out _).1 (Key.out _).2.1 (Key.out _).2.2 ⟨W.heap.size, hlt, World.alloc_heap_new W _, rfl⟩
  case body =>
    rintro l pre ⟨t, bad⟩ a' W hl hr ⟨⟨⟨v, hv, hrow, _⟩, hw, hall, hlen⟩, hB⟩ ⟨Bx, hBx, bX, rfl⟩ hlt
    have hwc := hw.cell
    have hwf := hw.frozen
    have hvc := hv.cell
    have hvf := hv.frozen
    clear hr hl hlt
    cases bad with
    | true =>
      simp only [errA, tokA, if_true]
      clear hvc hvf
      gi_wp2
      exact ⟨(KeepsOthers.setCell _ _ _).from _, ⟨⟨rfl, pre, (t, true), rfl, hlen, .inl ⟨rfl, hw.set _⟩⟩, hB.setCell (p := ⟨n0 + 1, 0, none⟩) (by show n0 ≤ n0 + 1; omega) _⟩⟩
    | false =>
      simp only [errA, tokA, Bool.false_eq_true, if_false]
      have E1 := HE.out.belowB hV hB
      have hm := E1.many
      have x0 := (cell_row bX 0).1
      have x1 := (cell_row bX 1).1
      have x2 := (cell_row bX 2).1
      simp only [rowA, Bool.false_eq_true, if_false] at x0 x1 x2 bX
      obtain ⟨i0, hi, hz0, hz1, hz2⟩ := info_parts infoTok
      by_cases hfull : pre.length = 20000
      · rcases hrow.2 with ⟨rfl, h0⟩ | ⟨g, cap, cur, rfl, hgn, hgb, _⟩
        · omega
        · have hf : ((pre.length : Int) == 20000) = true := by simp; omega
          have Hf := Lib.hid hfull
          clear hfull hi hz0 hz1 hz2
          gi_wp2
          exact ⟨(KeepsOthers.setCell _ _ _).from _, ⟨⟨rfl, pre, (t, false), rfl, hlen, .inr ⟨rfl, Hf.out, hw.set _⟩⟩, hB.setCell (p := ⟨n0 + 1, 0, none⟩) (by show n0 ≤ n0 + 1; omega) _⟩⟩
      · have hf : ((pre.length : Int) == 20000) = false := by simp; omega
        have HL1 : Hid (pre.length + 1 ≤ maxLen) := Lib.hid (by unfold maxLen; omega)
        have HL2 : Hid ((pre.length + 1) * 32 ≤ 140737488355328) := Lib.hid (by omega)
        have HL3 : Hid (n0 ≤ (W.alloc (.cells #[.int .i64 (t.kind : Int), .string ⟨t.s.toArray⟩, .int .i64 (t.line : Int)] 50)).heap.size) := Lib.hid (by have := hw.lt; simp; omega)
        have HL4 : Hid (n0 ≤ W.heap.size) := Lib.hid (by have := hw.lt; omega)
        have hall' : ∀ x ∈ pre ++ [(t, false)], x.2 = false := by
          intro x hx
          rcases List.mem_append.1 hx with hx | hx
          · exact hall x hx
          · obtain rfl := List.mem_singleton.1 hx; rfl
        have hlen' : (pre ++ [(t, false)]).length ≤ 20000 := by rw [List.length_append]; simp only [List.length_cons, List.length_nil]; omega
        clear hfull hall hlen
        rcases hrow.2 with ⟨rfl, h0⟩ | ⟨g, cap, cur, rfl, hgn, hgb, _⟩
        · have H0 := Lib.hid h0
          clear h0
          gi_wp2_with (gi_at_builtin; refine wpListIn_append_own _ rfl _ _ 24 rfl n0 50 i0 _ 3 32 Tryz.underlying24 hi hz0 hz1 hz2 rfl (by decide) _ pre.length _ rfl (hrow.alloc _) ⟨W.heap.size, 0, none⟩ 1 1 (tokRow t) rfl rfl (tok_new W t) (tok_one t) HL1.out HL2.out HL3.out ?_; intro v' w1 hown' hgrow _; obtain ⟨g', cap', rfl⟩ := ownsRow_succ hown'; obtain ⟨hv1, hv2, hr2, hk2, hb2⟩ := hv.appended (by decide) hrow HL4.out (Nat.le_refl _) hown' hgrow; have hw1 := ((hw.alloc _).kept hgrow (hw.not_row (by decide) hrow)).other (B' := n0) (by omega) (.slice (some ⟨g', 0, none⟩) (pre.length + 1) cap'); have hc1 := hv1.cell; have hf1 := hv1.frozen)
          exact ⟨hk2.from _, fun E => E.belowB hV hb2, ⟨⟨_, hv2, by simpa [tokCells, tokRow] using hr2, trivial⟩, hw1, hall', hlen'⟩, hB.trans hb2⟩
        · clear hgn hgb
          gi_wp2_with (gi_at_builtin; refine wpListIn_append_own _ rfl _ _ 24 rfl n0 50 i0 _ 3 32 Tryz.underlying24 hi hz0 hz1 hz2 rfl (by decide) _ pre.length _ rfl (hrow.alloc _) ⟨W.heap.size, 0, none⟩ 1 1 (tokRow t) rfl rfl (tok_new W t) (tok_one t) HL1.out HL2.out HL3.out ?_; intro v' w1 hown' hgrow _; obtain ⟨g', cap', rfl⟩ := ownsRow_succ hown'; obtain ⟨hv1, hv2, hr2, hk2, hb2⟩ := hv.appended (by decide) hrow HL4.out (Nat.le_refl _) hown' hgrow; have hw1 := ((hw.alloc _).kept hgrow (hw.not_row (by decide) hrow)).other (B' := n0) (by omega) (.slice (some ⟨g', 0, none⟩) (pre.length + 1) cap'); have hc1 := hv1.cell; have hf1 := hv1.frozen)
          exact ⟨hk2.from _, fun E => E.belowB hV hb2, ⟨⟨_, hv2, by simpa [tokCells, tokRow] using hr2, trivial⟩, hw1, hall', hlen'⟩, hB.trans hb2⟩
  case done =>
    rintro D ys W hD rfl ⟨⟨⟨v, hv, hrow, _⟩, hw, hall, hlen⟩, hB⟩ hK
    have hr := lexR_good (l := s.data.toList) (by rw [data_len]; exact h) (by rw [data_len]; exact hall) (by rw [data_len]; exact hlen)
    rw [data_len] at hr
    have Hr := Lib.hid hr
    have hwc := (hw.alloc (.cells #[.int .i64 0, .nilIface] 57)).cell
    have hvc := (hv.alloc (.cells #[.int .i64 0, .nilIface] 57)).cell
    have hK' : (W.alloc (.cells #[.int .i64 0, .nilIface] 57)).heap[D]? = some (.deferred (some [])) := (Below.heap_alloc _ _ _ (Array.getElem?_eq_some_iff.1 hK).1).trans hK
    clear hr hall hlen
    gi_wp2_with fail
    refine ⟨trivial, (callsIn_wide.2 (as_nil _ _)).mono ?_⟩
    rintro e w4 ⟨rfl, rfl⟩
    gi_wp2
    rw [Exit.noGoto_ret]
    refine ⟨by simp, .inl ⟨_, _, rfl, run_takeDeferred hK', ?_⟩⟩
    refine ⟨_, results_tmp3 rfl _ _ _, ?_⟩
    unfold LexPost
    rw [Hr.out, Hn0.out]
    refine ⟨v, rfl, ownsRow_putObj (by simpa using hrow.alloc _) _ hK' rfl, ?_⟩
    exact (hB.alloc (by have := hw.lt; omega) _).trans (belowK_b (w := w) (by rw [Hn0.out]; exact Nat.le_refl _) _ D _ _ (by have := Hsz.out; rw [Hn0.out]; omega) hK' rfl rfl)
  case stop =>
    rintro D cd pre W hD hp ⟨⟨rfl, p, x, rfl, hl, hx⟩, hB⟩ hK
    have E1 := HE.out.belowB hV hB
    obtain ⟨o, ho⟩ : ∃ o : Obj, .cells #[.int .i64 0, .nilIface] 57 = o := ⟨_, rfl⟩
    have hK' : (W.alloc o).heap[D]? = some (.deferred (some [])) := (Below.heap_alloc _ _ _ (Array.getElem?_eq_some_iff.1 hK).1).trans hK
    have hnew : (W.alloc o).heap[W.heap.size]? = some o := World.alloc_heap_new W o
    have hBo := (Below.refl W.heap.size W).alloc (Nat.le_refl _) o
    have hn0W : n0 + 1 < W.heap.size := by rcases hx with ⟨_, h⟩ | ⟨_, _, h⟩ <;> exact h.lt
    subst ho
    have Eo := E1.below hBo
    rcases hx with ⟨hx, hw⟩ | ⟨hx, hfull, hw⟩
    · have hr := lexR_bad (l := s.data.toList) (by rw [data_len]; exact h) (by rw [data_len]; exact hp) hl hx
      have Hr := Lib.hid hr
      have hwc := (hw.alloc (.cells #[.int .i64 0, .nilIface] 57)).cell
      have hA := as_hit (x.1.line : Int) b W.heap.size _ hnew (by omega) Eo.typ
      have HA := Lib.hid hA
      clear hr hA hp hx hl hnew
      gi_wp2_with fail
      refine ⟨trivial, (callsIn_wide.2 HA.out).mono ?_⟩
      rintro e w4 ⟨rfl, hc4, b4⟩
      gi_wp2_with fail
      refine wpIn_wide.2 ?_
      have hl := Lib.hid hn0W
      have E4 := Eo.belowB (B := W.heap.size) (by omega) b4
      have E5 := E4.below ((Below.refl _ _).drew)
      have hBd : Below n0 w w4.drew := ((hB.trans (hBo.mono (by omega))).trans (b4.mono (by omega))).drew
      have Rb : RowAt b w4.drew := Hb.out.belowB (by have h1 := Hb.out.lt; rwa [Hn0.out] at h1) hBd
      have Rc : RowAt c w4.drew := Hc.out.belowB (by have h1 := Hc.out.lt; rwa [Hn0.out] at h1) hBd
      have hc4' : w4.drew.cell? ⟨W.heap.size, 0, none⟩ = some (.int .i64 (x.1.line : Int)) := hc4
      have hw4 : w4.drew.cell? ⟨n0 + 1, 0, none⟩ = some (leV (x.1.line : Int) b) := (b4.cell (p := ⟨n0 + 1, 0, none⟩) hn0W).trans hwc
      have hks : W.heap.size < w4.drew.heap.size := Nat.lt_of_lt_of_le (by simp) b4.size
      have hD4 : w4.drew.heap[D]? = some (.deferred (some [])) := (b4.block D (Array.getElem?_eq_some_iff.1 hK).1).trans hK'
      have HD4 := Lib.hid hD4
      clear hwc hc4 hn0W hK hK' hD4
      go_region_held3 (fun w' => w'.cell? ⟨W.heap.size, 0, none⟩ = some (.int .i64 (x.1.line : Int)) ∧ w'.cell? ⟨n0 + 1, 0, none⟩ = some (leV (x.1.line : Int) b)) (first | exact ⟨hc4', hw4⟩ | exact ⟨hc5, hw5⟩) ((go_at_call 23; refine (errnoOf_tok (x.1.line : Int) a b c w4.drew E5 Rb Rc).mono ?_; rintro e w5 ⟨rfl, b5⟩; have hc5 := (b5.cell (p := ⟨W.heap.size, 0, none⟩) hks).trans hc4'; have hw5 := (b5.cell (p := ⟨n0 + 1, 0, none⟩) (Nat.lt_trans hl.out hks)).trans hw4))
      go_wp2
      gi_wp2
      rw [Exit.noGoto_ret]
      have hK5 : w5.heap[D]? = some (.deferred (some [])) := (b5.block D (Array.getElem?_eq_some_iff.1 HD4.out).1).trans HD4.out
      have hn0s : n0 ≤ w4.drew.heap.size := by have h1 := hl.out; omega
      refine ⟨by simp, .inl ⟨_, _, rfl, run_takeDeferred hK5, ?_⟩⟩
      refine ⟨_, results_tmp3 rfl _ _ _, ?_⟩
      unfold LexPost
      rw [Hr.out, Hn0.out]
      exact ⟨_, rfl, World.ownsRow_nil _ _ _ _, (hBd.trans (b5.mono hn0s)).trans (belowK_b (w := w) (by rw [Hn0.out]; exact Nat.le_refl _) _ D _ _ (by have := Hsz.out; rw [Hn0.out]; omega) hK5 rfl rfl)⟩
    · have hr := lexR_many (l := s.data.toList) (by rw [data_len]; exact h) (by rw [data_len]; exact hp) hfull hx
      have Hr := Lib.hid hr
      have hwc := (hw.alloc (.cells #[.int .i64 0, .nilIface] 57)).cell
      have hA := as_hit (x.1.line : Int) c W.heap.size _ hnew (by omega) Eo.typ
      have HA := Lib.hid hA
      clear hr hA hp hx hl hfull hnew
      gi_wp2_with fail
      refine ⟨trivial, (callsIn_wide.2 HA.out).mono ?_⟩
      rintro e w4 ⟨rfl, hc4, b4⟩
      gi_wp2_with fail
      refine wpIn_wide.2 ?_
      have hl := Lib.hid hn0W
      have E4 := Eo.belowB (B := W.heap.size) (by omega) b4
      have E5 := E4.below ((Below.refl _ _).drew)
      have hBd : Below n0 w w4.drew := ((hB.trans (hBo.mono (by omega))).trans (b4.mono (by omega))).drew
      have hc4' : w4.drew.cell? ⟨W.heap.size, 0, none⟩ = some (.int .i64 (x.1.line : Int)) := hc4
      have hw4 : w4.drew.cell? ⟨n0 + 1, 0, none⟩ = some (leV (x.1.line : Int) c) := (b4.cell (p := ⟨n0 + 1, 0, none⟩) hn0W).trans hwc
      have hks : W.heap.size < w4.drew.heap.size := Nat.lt_of_lt_of_le (by simp) b4.size
      have hD4 : w4.drew.heap[D]? = some (.deferred (some [])) := (b4.block D (Array.getElem?_eq_some_iff.1 hK).1).trans hK'
      have HD4 := Lib.hid hD4
      clear hwc hc4 hn0W hK hK' hD4
      go_region_held3 (fun w' => w'.cell? ⟨W.heap.size, 0, none⟩ = some (.int .i64 (x.1.line : Int)) ∧ w'.cell? ⟨n0 + 1, 0, none⟩ = some (leV (x.1.line : Int) c)) (first | exact ⟨hc4', hw4⟩ | exact ⟨hc5, hw5⟩) ((go_at_call 23; refine (errnoOf_many (x.1.line : Int) a b c w4.drew E5).mono ?_; rintro e w5 ⟨rfl, b5⟩; have hc5 := (b5.cell (p := ⟨W.heap.size, 0, none⟩) hks).trans hc4'; have hw5 := (b5.cell (p := ⟨n0 + 1, 0, none⟩) (Nat.lt_trans hl.out hks)).trans hw4))
      go_wp2
      gi_wp2
      rw [Exit.noGoto_ret]
      have hK5 : w5.heap[D]? = some (.deferred (some [])) := (b5.block D (Array.getElem?_eq_some_iff.1 HD4.out).1).trans HD4.out
      have hn0s : n0 ≤ w4.drew.heap.size := by have h1 := hl.out; omega
      refine ⟨by simp, .inl ⟨_, _, rfl, run_takeDeferred hK5, ?_⟩⟩
      refine ⟨_, results_tmp3 rfl _ _ _, ?_⟩
      unfold LexPost
      rw [Hr.out, Hn0.out]
      exact ⟨_, rfl, World.ownsRow_nil _ _ _ _, (hBd.trans (b5.mono hn0s)).trans (belowK_b (w := w) (by rw [Hn0.out]; exact Nat.le_refl _) _ D _ _ (by have := Hsz.out; rw [Hn0.out]; omega) hK5 rfl rfl)⟩

theorem lex_c (s : ByteArray) (a b c : Addr) (w : World) (hs : s.size ≤ 1073741823) (E : DEnv a b c w) (hb : RowAt b w) (hc : RowAt c w) :
    Calls Tryz.prog 9 #[.string s] w (LexPost w (lexR s.data.toList)) := by
  by_cases h : 65536 < s.size
  · exact lex_long s w h hs
  · exact callsIn_wide.1 (lex_short s a b c w h E hb hc)
end Go.Proofs.YthjfkngfgomkbaaGreatDoor
