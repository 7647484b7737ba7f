/- A region that reads, calls, makes a box and stores what the call gave in it: whatever the order. What every law of package facts shares: what the listed variables give, a start that meets the rows' condition, and: a call that answers true and turns nothing that lay keeps the law. (Rows with five listed variables; MaxLen comes of the world's shape.) soritesref05.Find. soritesref01.Next answers the byte whose sign stands next, and how long it is. soritesref01.ParseNum answers what the reader numL says of the bytes. soritesref01.ParseNum answers what the reader numL says of the bytes, in every world. Facts for soritesref01.Unquote: a symbol's text taken apart sign by sign, and a slice of bytes of one's own turned into a text. soritesref01.Unquote answers the symbol that a text says, for texts of at most five thousand bytes. -/
import Derived.Test.YthhepmddcncjoaaGreatDoorKFq
import Derived.Test.YthhepmddcncjoaaGreatDoorTie
import Derived.Test.YthhepmddcncjoaaGreatDoorCards
import Derived.Test.YthhepmddcncjoaaGreatDoorKFR
import Derived.Test.YthhepmddcncjoaaGreatDoorKRef
import Derived.ProofKit
import Derived.OpenShut
import Derived.Deep.DeepHandedRow
import Derived.Deep.DeepWitnessRowRef
import Derived.LaidMore
import Derived.LaidHandle
import Derived.Stop.LaidErr
import Derived.Stop.LaidTwo
import Derived.Shelf.Vars
import Derived.Test.YthhepmddcncjoaaGreatDoorKTlook
import Derived.Test.YthhepmddcncjoaaGreatDoorKUnquote
import Derived.Deep.RegionHeld3
import Derived.IntWalk
import Derived.Test.YthhepmddcncjoaaGreatDoorKSign
import Derived.Laws.BytesArg
import Derived.OwnWalk
import Derived.WalkSpells
set_option linter.unusedSimpArgs false
set_option linter.unusedVariables false
namespace Go.Proofs.YthhepmddcncjoaaGreatDoor
open Go.RowKit

/-- What has run: ia makes the box, is stores in it; all else turns nothing that lay. -/
structure FD (ia is : Nat) (ps : List (Nat × Nat)) (R : List (Value → Prop)) (W0 : World) (T : TypeId) (zs xs : Array Value) (l : Array Bool) (val : Nat → Value) (w : World) : Prop where
  rd : ∀ j p, l.getD j false = true → R[j]? = some p → p (val j)
  dp : ∀ q ∈ ps, l.getD q.1 false = true → l.getD q.2 false = true
  bl : Below W0.heap.size W0 w
  sa : l.getD ia false = true → ∃ b, val ia = .pointer (some ⟨b, 0, none⟩) ∧ W0.heap.size ≤ b ∧ w.heap[b]? = some (.cells (if l.getD is false = true then xs else zs) T (0, 0))
section
variable {ia is n : Nat} {ps : List (Nat × Nat)} {R : List (Value → Prop)} {W0 w w' : World} {T : TypeId} {zs xs : Array Value} {l : Array Bool} {val : Nat → Value}
theorem FD.start : FD ia is ps R W0 T zs xs (Array.replicate n false) val W0 := by
  have rep : ∀ j, (Array.replicate n false).getD j false = false := by
    intro j
    simp [Array.getD_eq_getD_getElem?, Array.getElem?_replicate]
    split <;> simp
  exact ⟨fun j p h => ntb (rep _) h, fun q _ h => ntb (rep _) h, Below.refl _ _, fun h => ntb (rep _) h⟩
theorem FD.upd (h : FD ia is ps R W0 T zs xs l val w) {i : Nat} {v : Value} (hl : i < l.size) (hd : ∀ q ∈ ps, q.1 = i → l.getD q.2 false = true) (hv : ∀ p, R[i]? = some p → p v) :
    (∀ j p, (l.setIfInBounds i true).getD j false = true → R[j]? = some p → p (updV val i v j)) ∧ (∀ q ∈ ps, (l.setIfInBounds i true).getD q.1 false = true → (l.setIfInBounds i true).getD q.2 false = true) := by
  refine ⟨fun j p hj hp => ?_, fun q hq h1 => ?_⟩
  · by_cases e : j = i
    · subst e; rw [updV_same]; exact hv p hp
    · rw [updV_other _ _ e]; rw [getD_set e] at hj; exact h.rd j p hj hp
  · by_cases e2 : q.2 = i
    · rw [e2]; exact getD_same hl
    · rw [getD_set e2]
      by_cases e1 : q.1 = i
      · exact hd q hq e1
      · rw [getD_set e1] at h1; exact h.dp q hq h1
theorem FD.called (h : FD ia is ps R W0 T zs xs l val w) {i : Nat} {v : Value} (hl : i < l.size) (hd : ∀ q ∈ ps, q.1 = i → l.getD q.2 false = true) (hv : ∀ p, R[i]? = some p → p v) (ha : i ≠ ia) (hs : i ≠ is) (hb : Below w.heap.size w w') :
    FD ia is ps R W0 T zs xs (l.setIfInBounds i true) (updV val i v) w' := by
  obtain ⟨a, b⟩ := h.upd hl hd hv
  refine ⟨a, b, h.bl.trans (hb.mono h.bl.size), fun h1 => ?_⟩
  rw [getD_set (Ne.symm ha)] at h1
  obtain ⟨c, h2, h3, h4⟩ := h.sa h1
  rw [updV_other _ _ (Ne.symm ha), getD_set (Ne.symm hs)]
  exact ⟨c, h2, h3, (hb.block _ (Array.getElem?_eq_some_iff.1 h4).1).trans h4⟩
theorem FD.read (h : FD ia is ps R W0 T zs xs l val w) {i : Nat} {v : Value} (hl : i < l.size) (hd : ∀ q ∈ ps, q.1 = i → l.getD q.2 false = true) (hv : ∀ p, R[i]? = some p → p v) (ha : i ≠ ia) (hs : i ≠ is) :
    FD ia is ps R W0 T zs xs (l.setIfInBounds i true) (updV val i v) w := h.called hl hd hv ha hs (Below.refl _ _)
theorem FD.made (h : FD ia is ps R W0 T zs xs l val w) {v : Value} (hl : ia < l.size) (hn : l.getD ia false = false) (hd : ∀ q ∈ ps, q.1 = ia → l.getD q.2 false = true) (hv : ∀ p, R[ia]? = some p → p v) (hne : ia ≠ is) (hp : (is, ia) ∈ ps)
    (hb : Below w.heap.size w w') (hvv : v = .pointer (some ⟨w.heap.size, 0, none⟩)) (hr : w'.heap[w.heap.size]? = some (.cells zs T (0, 0))) :
    FD ia is ps R W0 T zs xs (l.setIfInBounds ia true) (updV val ia v) w' := by
  obtain ⟨a, b⟩ := h.upd hl hd hv
  have e : l.getD is false = false := by
    cases h8 : l.getD is false with
    | false => rfl
    | true => exact ntb hn (h.dp _ hp h8)
  refine ⟨a, b, h.bl.trans (hb.mono h.bl.size), fun _ => ⟨w.heap.size, by rw [updV_same]; exact hvv, h.bl.size, ?_⟩⟩
  rw [getD_set (Ne.symm hne), e]
  exact hr
theorem FD.stored (h : FD ia is ps R W0 T zs xs l val w) {v : Value} {b : Nat} (hl : is < l.size) (hd : ∀ q ∈ ps, q.1 = is → l.getD q.2 false = true) (hv : ∀ p, R[is]? = some p → p v) (hne : ia ≠ is) (hp : (is, ia) ∈ ps)
    (hvb : val ia = .pointer (some ⟨b, 0, none⟩)) (hB : W0.heap.size ≤ b) (hb : Below W0.heap.size W0 w') (hr : w'.heap[b]? = some (.cells xs T (0, 0))) :
    FD ia is ps R W0 T zs xs (l.setIfInBounds is true) (updV val is v) w' := by
  obtain ⟨a, c⟩ := h.upd hl hd hv
  refine ⟨a, c, hb, fun _ => ⟨b, by rw [updV_other _ _ hne]; exact hvb, hB, ?_⟩⟩
  rw [getD_same hl]
  exact hr
theorem FD.box (h : FD ia is ps R W0 T zs xs l val w) (ha : l.getD ia false = true) (hs : l.getD is false = false) : ∃ b, val ia = .pointer (some ⟨b, 0, none⟩) ∧ W0.heap.size ≤ b ∧ w.heap[b]? = some (.cells zs T (0, 0)) := by
  obtain ⟨b, h1, h2, h3⟩ := h.sa ha
  rw [hs] at h3
  exact ⟨b, h1, h2, h3⟩
theorem FD.fin (h : FD ia is ps R W0 T zs xs l val w) (ha : l.getD ia false = true) (hs : l.getD is false = true) : ∃ b, val ia = .pointer (some ⟨b, 0, none⟩) ∧ W0.heap.size ≤ b ∧ w.heap[b]? = some (.cells xs T (0, 0)) := by
  obtain ⟨b, h1, h2, h3⟩ := h.sa ha
  rw [hs] at h3
  exact ⟨b, h1, h2, h3⟩
end
end Go.Proofs.YthhepmddcncjoaaGreatDoor
namespace Go.Proofs.YthhepmddcncjoaaGreatDoor
open Go.ChangeShapes Go.WideShapes Go.ChangeAt Go.RowKit

theorem own : ownKnob Tryz.prog.godebug = none := by kernel_rfl
theorem laidOut : laidOutB Tryz.prog = true := by kernel_rfl
theorem cellsE : Tryz.prog.cellsOf 275 = 1 := by kernel_rfl
theorem cellsS : Tryz.prog.cellsOf 9 = 1 := by kernel_rfl
theorem star : "*" ++ "errors.errorString" = "*errors.errorString" := by decide
theorem rowE (u : TypeId) (h : Tryz.prog.typeName? 3 u = some "*errors.errorString") : u = 256 :=
  typeName_ptr_named (nm := "errors.errorString") (by rw [star]; kernel_rfl) (by kernel_rfl) (by decide) u (by rw [star]; exact h)

theorem gForm : Tryz.prog.globalNamed "sorites/text.errForm" = some 2 := by kernel_rfl
theorem gFormType : (Tryz.prog.globals[2]?).map (·.type) = some 63 := by kernel_rfl
theorem gTree : Tryz.prog.globalNamed "sorites/dtree.errTree" = some 0 := by kernel_rfl
theorem gTreeType : (Tryz.prog.globals[0]?).map (·.type) = some 63 := by kernel_rfl
theorem gTypeOf : Tryz.prog.globalNamed "errors.errorType" = some 1 := by kernel_rfl
theorem gRt : (Tryz.prog.cutTypes.find? (·.1 == "internal/reflectlite.rtype")).map (·.2) = some 153 := by kernel_rfl
theorem oneRow : ((List.range 287).filter fun t => Tryz.prog.rowNamed t [101, 114, 114, 111, 114]) = [63] := by kernel_rfl
theorem typesSize : Tryz.prog.types.size = 287 := by kernel_rfl
abbrev laidAll : List (String × DataW Unit) := [("unicode/utf8.acceptRanges", Rows.laid_unicode_utf8_acceptRanges), ("errors.errorType", Rows.laid_errors_errorType), ("sorites/text.errForm", Rows.laid_sorites_text_errForm), ("sorites/dtree.errTree", Rows.laid_sorites_dtree_errTree), ("unicode/utf8.first", Rows.laid_unicode_utf8_first)]
abbrev laidPlain : List (String × DataW Unit) := [("unicode/utf8.acceptRanges", Rows.laid_unicode_utf8_acceptRanges), ("sorites/text.errForm", Rows.laid_sorites_text_errForm), ("sorites/dtree.errTree", Rows.laid_sorites_dtree_errTree), ("unicode/utf8.first", Rows.laid_unicode_utf8_first)]
theorem var_lt {W : World} {n : String} {g : Nat} {cs : Array Value} (h : W.var? Tryz.prog n = some cs) (hg : Tryz.prog.globalNamed n = some g) : g < W.heap.size := by
  unfold World.var? at h
  simp only [hg, Option.bind_some] at h
  rcases Nat.lt_or_ge g W.heap.size with h' | h'
  · exact h'
  · simp [Array.getElem?_eq_none h'] at h
theorem max_of_shape {W : World} (h : W.ShapedOpen Tryz.prog) : ∃ m, MaxE m W :=
  cell_of_shapedOpen_int (P := Tryz.prog) (g := 3) (t := 3) (zero := #[.int .i64 0]) h (of_decide_eq_true (by kernel_rfl)) (by kernel_rfl) rfl (by kernel_rfl) (by kernel_rfl) Tryz.underlying3
theorem env_of_laid {W : World} (h : laidMetH Tryz.prog laidAll W) (hs : W.ShapedOpen Tryz.prog) : ∃ a b m, FEnv a b m W := by
  have h' : laidMet Tryz.prog laidPlain W ∧ handlesMet Tryz.prog [("errors.errorType", Rows.laid_errors_errorType)] W := h
  obtain ⟨h1, h2⟩ := h'
  obtain ⟨m, hm0⟩ := max_of_shape hs
  obtain ⟨a, s, hv, _⟩ := laid_sentinel h1.tail gForm gFormType Tryz.underlying63 rowE Tryz.underlying256 Tryz.underlying275 rfl rfl Tryz.underlying9 cellsE cellsS
  obtain ⟨d, sd, hvd, _⟩ := laid_sentinel h1.tail.tail gTree gTreeType Tryz.underlying63 rowE Tryz.underlying256 Tryz.underlying275 rfl rfl Tryz.underlying9 cellsE cellsS
  obtain ⟨name, u, ty, e1, e2, e3, e4, e5⟩ := h2 _ (List.mem_singleton.2 rfl)
  have en : name = [101, 114, 114, 111, 114] := (Option.some.inj e1).symm
  subst en
  obtain rfl := Option.some.inj (gRt.symm.trans e2)
  have hm : ty ∈ (List.range 287).filter fun t => Tryz.prog.rowNamed t [101, 114, 114, 111, 114] := List.mem_filter.2 ⟨List.mem_range.2 (by rw [← typesSize]; exact e3), e4⟩
  rw [oneRow] at hm
  obtain rfl := List.mem_singleton.1 hm
  have hh : typeHandle Tryz.prog 63 = .pointer (some ⟨9, 63, none⟩) := by kernel_rfl
  rw [hh] at e5
  have l1 := var_lt hv gForm
  have l2 := var_lt hvd gTree
  have l3 := var_lt e5 gTypeOf
  have l4 : 3 < W.heap.size := World.block_lt_of_cell? _ _ hm0
  exact ⟨a, d, m, ⟨by simpa using World.var?_cell gForm hv 0, by omega⟩, ⟨by simpa using World.var?_cell gTree hvd 0, l2⟩, hm0, by simpa using World.var?_cell gTypeOf e5 0⟩
/-- The door's own heap, the one table that the door does not lay written in. -/
noncomputable def doorW (os : Os) : World :=
  { World.doorLaid Tryz.prog 79 os with heap := (World.doorLaid Tryz.prog 79 os).heap.modify 5 fun
    | .cells _ t frozen => .cells (Go.Pinned.utf8FirstZ.map fun (z : Nat) => Value.int .u8 (Int.ofNat z)).toArray t frozen
    | o => o }
/-- It meets the condition. -/
theorem door_met (os : Os) (args : Array Value) : laidMetH Tryz.prog laidAll ((doorW os).forCall (fun _ _ => 0) ⟨#[], args, []⟩).memory := by
  exact laidMetH_of_parts (laidMet_of_run' 8 (by kernel_rfl) (by kernel_rfl)) (by kernel_rfl)
theorem below_trodAll {H : Type} {enc : TypeId × Value → H} {W W' : World} (hb : Below W.heap.size W W') :
    ∀ {ts : List TypeId} {vs : List Value} {ds : List (DataW H)} {ps : List MemPlace}, (∀ t ∈ ts, Tryz.prog.readableRec t = true ∧ t < Tryz.prog.types.size) →
      DataW.TrodAll enc Tryz.prog W 0 (fun _ => true) true ts vs ds ps → (∀ x ∈ ps, x.block < W.heap.size) → DataW.TrodAll enc Tryz.prog W' 0 (fun b => decide (b < W.heap.size)) true ts vs ds ps
  | [], _, _, _, _, h, _ => by
    obtain ⟨rfl, rfl, rfl⟩ := trodAll_nil h
    exact trodAll_mk0
  | t :: ts, _, _, _, hr, h, hlt => by
    obtain ⟨v, vs', d, ds', p, q, rfl, rfl, rfl, h1, h2⟩ := trodAll_cons h
    exact trodAll_cons_mk (Below.trod laidOut (hr t (by simp)).1 (hr t (by simp)).2 h1 hb (fun x hx => hlt x (by simp [hx])))
      (below_trodAll hb (fun t' ht' => hr t' (by simp [ht'])) h2 (fun x hx => hlt x (by simp [hx])))

/-- A CALL THAT ANSWERS true AND TURNS NOTHING THAT LAY KEEPS THE LAW. -/
theorem law_post {H : Type} {enc : TypeId × Value → H} {f : Func} {s : ChangeSpec} {W W' : World} {args : Array Value} {ds gs : List (DataW H)} {before : List MemPlace}
    (hW : DataW.Whole enc Tryz.prog f.params.toList s.vars false W args.toList ds gs before) (hv : s.vars = []) (hrt : f.resultTypes = #[4])
    (hfn : s.fn H ds = { results := [.lit (.bool true)], args := ds }) (hr : ∀ t ∈ f.params.toList, Tryz.prog.readableRec t = true ∧ t < Tryz.prog.types.size) (hb : Below W.heap.size W W') :
    s.post enc Tryz.prog f false true false false W args (.bool true) W' := by
  have hlt : ∀ x ∈ before, x.block < W.heap.size := fun x hx => by simpa using hW.lt x hx
  have hW0 := hW
  obtain ⟨p, q, hA, hV, rfl, _, _⟩ := hW0
  rw [hv] at hV
  obtain ⟨rfl, rfl⟩ := trodVars_none hV
  have e1 : s.fn H (ds ++ []) = { results := [.lit (.bool true)], args := ds } := by rw [List.append_nil]; exact hfn
  refine ⟨ds, [], p ++ [], [], p, [], hW, ?_, ?_, ?_, World.keptBut_mono (fun _ h => h.elim) (hb.frame (fun _ => False)), fun h => by cases h⟩
  · rw [e1, hrt]
    exact trodAll_mk1 (shut_bool Tryz.underlying4 true)
  · rw [e1]
    exact below_trodAll hb hr hA (fun x hx => hlt x (by simp [hx]))
  · rw [e1, hv]
    rfl
end Go.Proofs.YthhepmddcncjoaaGreatDoor
namespace Go.Proofs.YthhepmddcncjoaaGreatDoor
open Go.RowKit

theorem findY_hit {s : ByteArray} {l : List De} {k : Nat} {d : De} (hd : l[k]? = some d) (hn : ∀ x ∈ l.take k, relY s x = false) (hr : relY s d = true) : findY s l = some k := by
  have key : ∀ (l : List De) (j k : Nat), l[k]? = some d → (∀ x ∈ l.take k, relY s x = false) → ixY s j l = ((j + k : Nat) : Int) := by
    intro l
    induction l with
    | nil => intro j k h; simp at h
    | cons x l ih =>
      intro j k h hn
      cases k with
      | zero =>
        have : x = d := by simpa using h
        subst this
        unfold ixY
        rw [if_pos hr]
        rfl
      | succ k =>
        have hx := hn x (by simp)
        unfold ixY
        rw [hx, if_neg (by decide), ih (j + 1) k (by simpa using h) (fun y hy => hn y (by simp [hy]))]
        omega
  unfold findY
  rw [key l 0 k hd hn, if_neg (by omega)]
  simp
theorem findY_miss {s : ByteArray} {l : List De} (hn : ∀ x ∈ l, relY s x = false) : findY s l = none := by
  have key : ∀ (l : List De) (j : Nat), (∀ x ∈ l, relY s x = false) → ixY s j l = -1 := by
    intro l
    induction l with
    | nil => intro j _; rfl
    | cons x l ih =>
      intro j hn
      unfold ixY
      rw [hn x (List.mem_cons_self ..), if_neg (by decide)]
      exact ih _ fun y hy => hn y (List.mem_cons_of_mem _ hy)
  unfold findY
  rw [key l 0 hn, if_pos (by decide)]
set_option maxRecDepth 100000 in
set_option maxHeartbeats 4000000 in
theorem find5_c (s : ByteArray) (l : List De) (v : Value) (w : World) (hl : SlOf w w.heap.size 6 (DeC w w.heap.size) l v) :
    Calls Tryz.prog 63 #[v, .string s] w fun e w' => e = .returned (findV (findY s l)) ∧ Below w.heap.size w w' := by
  obtain ⟨o1, k1, rfl, _, _, S1⟩ := SlOf.open hl
  have HB0 : Hid (Below w.heap.size w w) := Lib.hid (Below.refl _ _)
  clear hl
  go_enter Tryz.func63, Tryz.ntmps63
  go_wp2
  go_loopw [6] (fun i wr => ∃ k : Nat, k ≤ l.length ∧ i = .int .i64 k ∧ (∀ x ∈ l.take k, relY s x = false) ∧ Below w.heap.size w wr) (fun i _ => l.length - (intOf i).toNat)
  case atStart => exact ⟨0, Nat.zero_le _, rfl, by simp, HB0.out⟩
  case round =>
    obtain ⟨k, hk, rfl, hr, hB⟩ := hrel
    have Hr := Lib.hid hr
    clear hr
    by_cases hlt : k < l.length
    · have hlt' : (k : Int) < (l.length : Int) := by omega
      obtain ⟨x, hx⟩ : ∃ x, l[k]? = some x := ⟨l[k], List.getElem?_eq_getElem hlt⟩
      obtain ⟨a, p0, q0, p1, q1, rfl, ha, Hc, c0, _⟩ := de_at S1 hB hx
      have hal : (a.add (k * 6)).block < wr.heap.size := by rw [addBlock]; have := hB.size; omega
      cases hxy : relY s x with
      | true =>
        have Hz : Hid (findY s l = some k) := Lib.hid (findY_hit hx Hr.out hxy)
        have hxe : (x.rel.toList == s.toList) = true := hxy
        clear hx
        go_wp2
        go_ret2
        exact ⟨by rw [Hz.out]; rfl, hB⟩
      | false =>
        have Hz : Hid (∀ x ∈ l.take (k + 1), relY s x = false) := Lib.hid fun y hy => by
          rw [List.take_add_one, hx] at hy
          rcases List.mem_append.1 hy with hy | hy
          · exact Hr.out y hy
          · rw [show y = x by simpa using hy]; exact hxy
        have hxe : (x.rel.toList == s.toList) = false := hxy
        clear hx
        go_wp2
        go_roundw
        case rel => exact ⟨k + 1, by omega, by go_num, Hz.out, hB⟩
        case measure => simp [intOf]; omega
    · have hlt' : ¬ (k : Int) < (l.length : Int) := by omega
      have Hz : Hid (findY s l = none) := Lib.hid (findY_miss fun x hx => Hr.out x (by rw [List.take_of_length_le (by omega)]; exact hx))
      go_wp2
      go_ret2
      exact ⟨by rw [Hz.out]; rfl, hB⟩
end Go.Proofs.YthhepmddcncjoaaGreatDoor
namespace Go.Proofs.YthhepmddcncjoaaGreatDoor
open Go.RowKit

theorem next_some {l : List UInt8} {c : UInt8} {n : Nat} (h : sign c = l.take n) (hn : n ≤ l.length) : firstS l = some (c, n) := by
  have h1 : l = sign c ++ l.drop n := by rw [h, List.take_append_drop]
  have h2 : (sign c).length = n := by rw [h]; simp; omega
  have h3 := firstS_sign c (l.drop n)
  rwa [← h1, h2] at h3
theorem next_none {l : List UInt8} (h : ∀ (m : Nat) (c : UInt8), 1 ≤ m → m ≤ 4 → m ≤ l.length → sign c ≠ l.take m) : firstS l = none := by
  cases hf : firstS l with
  | none => rfl
  | some x =>
    obtain ⟨c, n⟩ := x
    have h1 := firstS_back hf
    have hc := sign_ne c
    have hl : 1 ≤ (sign c).length := by
      cases h : sign c with
      | nil => exact absurd h hc
      | cons => simp
    have h2 : (sign c).length ≤ l.length := by rw [h1]; simp
    refine absurd ?_ (h (sign c).length c hl (sign_len c) h2)
    rw [h1, List.take_left']
    rfl
def nextV : Option (UInt8 × Nat) → Value
  | some (c, n) => .tuple #[.int .u8 (c.toNat : Int), .int .i64 (n : Int)]
  | none => .tuple #[.int .u8 0, .int .i64 0]

set_option maxRecDepth 100000 in
set_option maxHeartbeats 4000000 in
theorem next_c (s : ByteArray) (at' : Nat) (hs : s.size ≤ 5000) (ha : at' ≤ s.size) (w : World) :
    Calls Tryz.prog 133 #[.string s, .int .i64 (at' : Int)] w fun e w' => e = .returned (nextV (firstS (s.data.toList.drop at'))) ∧ Below w.heap.size w w' := by
  obtain ⟨l, hl⟩ : ∃ l, s.data.toList.drop at' = l := ⟨_, rfl⟩
  have hll : l.length = s.size - at' := by rw [← hl]; simp
  have hex : ∀ n, (s.extract at' (at' + n)).toList = l.take n := by
    intro n
    rw [Lib.toList_data, Lib.extract_data, ← hl]
    congr 1
    omega
  have Hex := Lib.hid hex
  rw [hl]
  clear hl hex
  go_enter Tryz.func133, Tryz.ntmps133
  go_wp2
  go_loopw [6] (fun i wr => ∃ n : Nat, 1 ≤ n ∧ n ≤ 5 ∧ i = .int .i64 n ∧ (∀ (m : Nat) (c : UInt8), 1 ≤ m → m < n → m ≤ l.length → sign c ≠ l.take m) ∧ Below w.heap.size w wr) (fun i _ => 5 - (intOf i).toNat)
  case atStart => exact ⟨1, by omega, by omega, rfl, fun m c h1 h2 => by omega, Below.refl _ _⟩
  case round =>
    obtain ⟨n, hn1, hn5, rfl, hno, hb⟩ := hrel
    have Hno := Lib.hid hno
    clear hno
    by_cases h4 : n ≤ 4
    · have h4' : (n : Int) ≤ 4 := by omega
      by_cases hin : at' + n ≤ s.size
      · have hin' : (at' : Int) + (n : Int) ≤ (s.size : Int) := by omega
        go_wp2
        go_loopw [7] (fun i wr2 => ∃ k : Nat, k ≤ 256 ∧ i = .int .i64 k ∧ (∀ d : UInt8, d.toNat < k → sign d ≠ l.take n) ∧ Below w.heap.size w wr2) (fun i _ => 256 - (intOf i).toNat)
        case atStart => exact ⟨0, by omega, rfl, fun d h => by omega, hb⟩
        case round =>
          obtain ⟨k, hk, rfl, hkno, hb2⟩ := hrel
          have Hkno := Lib.hid hkno
          clear hkno
          by_cases hlt : k < 256
          · have hlt' : (k : Int) < 256 := by omega
            obtain ⟨d, hd⟩ : ∃ d, UInt8.ofNat k = d := ⟨_, rfl⟩
            have hdk : (k : Int) = (d.toNat : Int) := by rw [← hd]; simp; omega
            have Hz : Hid (IntKind.u8.wrap (k : Int) = (d.toNat : Int)) := Lib.hid (by rw [← hdk]; exact IntWalk.u8_in _ (by omega))
            have Hdk := Lib.hid hdk
            have g1 : IntKind.i64.wrap ((at' : Int) + (n : Int)) = (at' : Int) + (n : Int) := IntWalk.i64_in _ (by omega)
            have g2 : ∀ w : World, (Instr.slice 9 (.string s) (some (.int .i64 (at' : Int))) (some (.int .i64 ((at' : Int) + (n : Int)))) none).run Tryz.prog w = .ok (.string (s.extract at' (at' + n))) w := fun w => by
              have h := run_slice_string (P := Tryz.prog) (w := w) 9 s .i64 .i64 (at' : Int) ((at' : Int) + (n : Int)) Tryz.underlying9 (by omega) (by omega) (by omega)
              rwa [show ((at' : Int) + (n : Int)).toNat = at' + n by omega, Int.toNat_natCast] at h
            by_cases hq : sign d = l.take n
            · have hq' : (sign d == (s.extract at' (at' + n)).toList) = true := by rw [Hex.out, hq]; simp
              have Hr := Lib.hid (next_some hq (by omega))
              clear hq hd hdk
              go_wp2_with fail
              go_region_held3 (fun _ => True) (trivial) ((go_at_call 71; refine (one_c d _ ?_ _).mono ?_; exact Hz.out; rintro e w' ⟨rfl, b⟩))
              go_wp2
              go_ret2
              rw [Hr.out]
              refine ⟨?_, chain2 hb2 (((Below.refl _ wr).drew).trans b)⟩
              show Ending.returned (.tuple #[.int .u8 (k : Int), .int .i64 (n : Int)]) = _
              rw [Hdk.out]
              rfl
            · have hq' : (sign d == (s.extract at' (at' + n)).toList) = false := by rw [Hex.out]; simp [hq]
              have Hq := Lib.hid hq
              clear hq hd hdk
              go_wp2_with fail
              go_region_held3 (fun _ => True) (trivial) ((go_at_call 71; refine (one_c d _ ?_ _).mono ?_; exact Hz.out; rintro e w' ⟨rfl, b⟩))
              go_wp2
              go_roundw
              case rel =>
                refine ⟨k + 1, by omega, by go_num, fun d' hd' => ?_, chain2 hb2 (((Below.refl _ wr).drew).trans b)⟩
                by_cases hlt2 : d'.toNat < k
                · exact Hkno.out d' hlt2
                · have h1 := Hdk.out
                  have : d' = d := UInt8.toNat_inj.1 (by omega)
                  rw [this]
                  exact Hq.out
              case measure => simp [intOf]; omega
          · have hlt' : ¬ (k : Int) < 256 := by omega
            go_wp2
            go_roundw
            case rel =>
              refine ⟨n + 1, by omega, by omega, by go_num, fun m c h1 h2 h3 => ?_, hb2⟩
              by_cases hm : m < n
              · exact Hno.out m c h1 hm h3
              · obtain rfl : m = n := by omega
                exact Hkno.out c (by have := c.toNat_lt; omega)
            case measure => simp [intOf]; omega
      · have hin' : ¬ (at' : Int) + (n : Int) ≤ (s.size : Int) := by omega
        have Hr := Lib.hid (next_none fun m c h1 h2 h3 => Hno.out m c h1 (by omega) h3)
        go_wp2
        go_ret2
        rw [Hr.out]
        exact ⟨rfl, hb⟩
    · have h4' : ¬ (n : Int) ≤ 4 := by omega
      have Hr := Lib.hid (next_none (l := l) fun m c h1 h2 h3 => Hno.out m c h1 (by omega) h3)
      go_wp2
      go_ret2
      rw [Hr.out]
      exact ⟨rfl, hb⟩
end Go.Proofs.YthhepmddcncjoaaGreatDoor
namespace Go.Proofs.YthhepmddcncjoaaGreatDoor
open Go.RowKit

def refRun : Nat → List UInt8 → Option Nat
  | n, [] => some n
  | n, c :: l => if 48 ≤ c.toNat ∧ c.toNat ≤ 57 ∧ n ≤ 1152921504606846976 then refRun (10 * n + (c.toNat - 48)) l else none
theorem refRun_go (n : Nat) (c : UInt8) (l : List UInt8) (h : 48 ≤ c.toNat ∧ c.toNat ≤ 57 ∧ n ≤ 1152921504606846976) : refRun n (c :: l) = refRun (10 * n + (c.toNat - 48)) l := by
  rw [refRun, if_pos h]
theorem refRun_stop (n : Nat) (c : UInt8) (l : List UInt8) (h : ¬ (48 ≤ c.toNat ∧ c.toNat ≤ 57 ∧ n ≤ 1152921504606846976)) : refRun n (c :: l) = none := by
  rw [refRun, if_neg h]
theorem refRun_append : ∀ (l l' : List UInt8) (n : Nat), refRun n (l ++ l') = (refRun n l).bind fun m => refRun m l'
  | [], l', n => rfl
  | c :: l, l', n => by
    by_cases h : 48 ≤ c.toNat ∧ c.toNat ≤ 57 ∧ n ≤ 1152921504606846976
    · rw [List.cons_append, refRun_go n c _ h, refRun_go n c _ h, refRun_append l l']
    · rw [List.cons_append, refRun_stop n c _ h, refRun_stop n c _ h]
      rfl
theorem refRun_dec (u : Nat) : u ≤ 9223372036854775808 → refRun 0 (Lib.decDigits u) = some u := by
  induction u using Nat.strongRecOn with
  | ind u ih =>
    intro hu
    by_cases h : u < 10
    · rw [dec_one u h, refRun_go _ _ _ (by rw [dig_toNat u h]; omega), dig_toNat u h]
      simp [refRun]
    · rw [dec_more u h, refRun_append, ih (u / 10) (by omega) (by omega)]
      have hd := dig_toNat (u % 10) (by omega)
      rw [Option.bind_some, refRun_go _ _ _ (by rw [hd]; omega), hd]
      simp [refRun]
      omega
/-- What the reference makes of a text, n being what its digits run to. -/
def refV (l : List UInt8) (n : Nat) : Int := if l.head? = some 45 then wrap64 (-wrap64 (n : Int)) else wrap64 (n : Int)
def refL (l : List UInt8) : Option Int :=
  if 20 < l.length then none else
    match refRun 0 (if l.head? = some 45 then l.drop 1 else l) with
    | none => none
    | some n => if Lib.itoa (refV l n) = l then some (refV l n) else none
theorem wrap_in (n : Int) : -9223372036854775808 ≤ wrap64 n ∧ wrap64 n ≤ 9223372036854775807 := by
  unfold wrap64
  omega
theorem refV_in (l : List UInt8) (n : Nat) : -9223372036854775808 ≤ refV l n ∧ refV l n ≤ 9223372036854775807 := by
  unfold refV
  split <;> exact wrap_in _
theorem nDigits_le : ∀ (k u : Nat), u < 10 ^ (k + 1) → Lib.nDigits u ≤ k + 1
  | 0, u, h => by rw [Lib.nDigits_small (by omega)]; omega
  | k + 1, u, h => by
    by_cases h10 : u < 10
    · rw [Lib.nDigits_small h10]; omega
    · rw [Lib.nDigits_big h10]
      have := nDigits_le k (u / 10) (by rw [Nat.pow_succ] at h; omega)
      omega
theorem itoa_len (n : Int) (h0 : -9223372036854775808 ≤ n) (h1 : n ≤ 9223372036854775807) : (Lib.itoa n).length ≤ 20 := by
  have h19 : ∀ u : Nat, u ≤ 9223372036854775808 → (Lib.decDigits u).length ≤ 19 := by
    intro u hu
    rw [Lib.decDigits_length]
    exact nDigits_le 18 u (by omega)
  unfold Lib.itoa
  split
  · have := h19 n.natAbs (by omega)
    simp only [List.length_cons]
    omega
  · have := h19 n.toNat (by omega)
    omega
theorem refL_numL (l : List UInt8) : refL l = numL l := by
  cases hn : numL l with
  | some k =>
    obtain ⟨hl, h0, h1⟩ := numL_back hn
    have hlen := itoa_len k h0 h1
    rw [hl] at hlen
    unfold refL
    rw [if_neg (by omega)]
    by_cases hk : k < 0
    · have e : l = 45 :: Lib.decDigits k.natAbs := by rw [← hl]; unfold Lib.itoa; rw [if_pos hk]
      have hh : l.head? = some 45 := by rw [e]; rfl
      have hd : l.drop 1 = Lib.decDigits k.natAbs := by rw [e]; rfl
      rw [if_pos hh, hd, refRun_dec _ (by omega)]
      have hv : refV l k.natAbs = k := by
        unfold refV
        rw [if_pos hh, wrap_neg _ (by omega) (by omega)]
        omega
      simp only [hv, hl, if_true]
    · have e : l = Lib.decDigits k.toNat := by rw [← hl]; unfold Lib.itoa; rw [if_neg hk]
      have hh : ¬ l.head? = some 45 := by
        intro hc
        cases hx : l with
        | nil => rw [hx] at hc; cases hc
        | cons c t =>
          rw [hx] at hc
          obtain rfl : c = 45 := Option.some.inj hc
          have := dec_digits k.toNat 45 (by rw [← e, hx]; simp)
          simp at this
      rw [if_neg hh, e, refRun_dec _ (by omega), ← e]
      have hv : refV l k.toNat = k := by
        unfold refV
        rw [if_neg hh]
        unfold wrap64
        omega
      simp only [hv, hl, if_true]
  | none =>
    unfold refL
    split
    · rfl
    · split
      · rfl
      · rename_i n _
        split
        · rename_i he
          have := numL_itoa (refV l n) (refV_in l n).1 (refV_in l n).2
          rw [he, hn] at this
          cases this
        · rfl
end Go.Proofs.YthhepmddcncjoaaGreatDoor
namespace Go.Proofs.YthhepmddcncjoaaGreatDoor
open Go.RowKit

def refFin (b : Bool) (l : List UInt8) : Option Nat → Option Int
  | none => none
  | some n => if Lib.itoa (if b then wrap64 (-wrap64 (n : Int)) else wrap64 (n : Int)) = l then some (if b then wrap64 (-wrap64 (n : Int)) else wrap64 (n : Int)) else none
theorem refL_neg (l : List UInt8) (h : l.length ≤ 20) (hh : l.head? = some 45) : refL l = refFin true l (refRun 0 (l.drop 1)) := by
  unfold refL
  rw [if_neg (by omega), if_pos hh]
  cases refRun 0 (l.drop 1) with
  | none => rfl
  | some n => simp only [refFin, refV, hh, if_true]
theorem refL_pos (l : List UInt8) (h : l.length ≤ 20) (hh : ¬ l.head? = some 45) : refL l = refFin false l (refRun 0 (l.drop 0)) := by
  unfold refL
  rw [if_neg (by omega), if_neg hh, List.drop_zero]
  cases refRun 0 l with
  | none => rfl
  | some n => simp only [refFin, refV, hh, if_false, Bool.false_eq_true]

set_option maxRecDepth 100000 in
set_option maxHeartbeats 4000000 in
theorem refParse_c (s : ByteArray) (w : World) (hs : s.size ≤ maxLen) :
    Calls Tryz.prog 99 #[.string s] w fun e w' => e = .returned (parseV (refL s.data.toList)) ∧ Below w.heap.size w w' := by
  unfold maxLen at hs
  have hlen : s.data.toList.length = s.size := by simp
  by_cases h20 : 20 < s.size
  · have Hf := Lib.hid (show refL s.data.toList = none by unfold refL; rw [if_pos (by omega)])
    clear hlen
    go_enter Tryz.func99, Tryz.ntmps99
    go_wp2
    go_ret2
    exact ⟨by rw [Hf.out]; rfl, Below.refl _ _⟩
  have h20' : ¬ 20 < (s.size : Int) := by omega
  by_cases h0 : s.size = 0
  · have HL := Lib.hid (refL_pos s.data.toList (by omega) (by rw [show s.data.toList = [] from List.eq_nil_of_length_eq_zero (by omega)]; simp))
    have hz : ¬ 0 < (s.size : Int) := by omega
    clear hlen h0
    go_enter Tryz.func99, Tryz.ntmps99
    go_wp2
    go_loop [6, 7] (fun n i => ∃ pos m : Nat, 0 ≤ pos ∧ pos ≤ s.size ∧ i = .int .i64 pos ∧ n = .int .u64 (m : Int) ∧ m ≤ 11529215046068469769 ∧ refRun m (s.data.toList.drop pos) = refRun 0 (s.data.toList.drop 0)) (fun _ i => s.size - (intOf i).toNat)
    case atStart => exact ⟨0, 0, Nat.le_refl _, by omega, rfl, rfl, by omega, rfl⟩
    case round =>
      obtain ⟨pos, m, hp0, hp, rfl, rfl, hm, hok⟩ := hrel
      have Hok := Lib.hid hok
      clear hok
      by_cases hlt : pos < s.size
      · have Hc := Lib.hid (drop_cons s pos hlt)
        have hin : pos + 1 ≤ s.size := hlt
        have hcl := (s[pos]'hlt).toNat_lt
        by_cases hd1 : (s[pos]'hlt).toNat < 48
        · have Hf := Lib.hid (refRun_stop m (s[pos]'hlt) (s.data.toList.drop (pos + 1)) (by omega))
          have hd1' : ((s[pos]'hlt).toNat : Int) < 48 := by omega
          clear hd1
          go_wp2
          go_ret2
          exact ⟨by rw [HL.out, ← Hok.out, Hc.out, Hf.out]; rfl, Below.refl _ _⟩
        have hd1' : ¬ ((s[pos]'hlt).toNat : Int) < 48 := by omega
        by_cases hd2 : 57 < (s[pos]'hlt).toNat
        · have Hf := Lib.hid (refRun_stop m (s[pos]'hlt) (s.data.toList.drop (pos + 1)) (by omega))
          have hd2' : 57 < ((s[pos]'hlt).toNat : Int) := by omega
          clear hd1 hd2
          go_wp2
          go_ret2
          exact ⟨by rw [HL.out, ← Hok.out, Hc.out, Hf.out]; rfl, Below.refl _ _⟩
        have hd2' : ¬ 57 < ((s[pos]'hlt).toNat : Int) := by omega
        by_cases hd3 : 1152921504606846976 < m
        · have Hf := Lib.hid (refRun_stop m (s[pos]'hlt) (s.data.toList.drop (pos + 1)) (by omega))
          have hd3' : 1152921504606846976 < (m : Int) := by omega
          clear hd1 hd2 hd3
          go_wp2
          go_ret2
          exact ⟨by rw [HL.out, ← Hok.out, Hc.out, Hf.out]; rfl, Below.refl _ _⟩
        have hd3' : ¬ 1152921504606846976 < (m : Int) := by omega
        have Hf := Lib.hid (refRun_go m (s[pos]'hlt) (s.data.toList.drop (pos + 1)) (by omega))
        have hb3 : 10 * m + ((s[pos]'hlt).toNat - 48) ≤ 11529215046068469769 := by omega
        have hb4 : 10 * (m : Int) + (((s[pos]'hlt).toNat : Int) - 48) ≤ 11529215046068469769 := by omega
        clear hd1 hd2 hd3
        go_wp2
        go_round
        case rel => exact ⟨pos + 1, 10 * m + ((s[pos]'hlt).toNat - 48), by omega, hin, by go_num, int_u64 (by omega), hb3, by rw [← Hok.out, Hc.out, Hf.out]⟩
        case measure => simp [intOf]; omega
      · obtain rfl : pos = s.size := by omega
        have he : refRun 0 (s.data.toList.drop 0) = some m := by
          rw [← Hok.out, List.drop_of_length_le (by simp)]
          rfl
        have HL2 := Lib.hid (HL.out.trans (congrArg (refFin false s.data.toList) he))
        clear he
        have hv := wrap_in (m : Int)
        have hv2 := wrap_in (-wrap64 (m : Int))
        go_wp2_with fail
        refine (refNum_c (wrap64 (m : Int)) (by omega) (by omega) _).mono ?_
        rintro e w1 ⟨rfl, b1⟩
        by_cases hq : Lib.itoa (wrap64 (m : Int)) = s.data.toList
        · have hq' : (Lib.itoa (wrap64 (m : Int)) == s.toList) = true := by rw [Lib.toList_data, hq]; simp
          have Hr := Lib.hid (show refFin false s.data.toList (some m) = some (wrap64 (m : Int)) by unfold refFin; simp [hq])
          clear hq
          go_wp2
          go_ret2
          exact ⟨by rw [HL2.out, Hr.out]; rfl, b1⟩
        · have hq' : (Lib.itoa (wrap64 (m : Int)) == s.toList) = false := by rw [Lib.toList_data]; simp [hq]
          have Hr := Lib.hid (show refFin false s.data.toList (some m) = none by unfold refFin; simp [hq])
          clear hq
          go_wp2
          go_ret2
          exact ⟨by rw [HL2.out, Hr.out]; rfl, b1⟩
  have hpos : 0 < s.size := by omega
  have hpos' : 0 < (s.size : Int) := by omega
  have hd := drop_cons s 0 hpos
  rw [List.drop_zero] at hd
  by_cases h45 : (s[0]'hpos) = 45
  · have HL := Lib.hid (refL_neg s.data.toList (by omega) (by rw [hd, h45]; rfl))
    have e45 : (((s[0]'hpos).toNat : Int) == 45) = true := by rw [h45]; rfl
    clear hlen h0 hd h45
    go_enter Tryz.func99, Tryz.ntmps99
    go_wp2
    go_loop [6, 7] (fun n i => ∃ pos m : Nat, 1 ≤ pos ∧ pos ≤ s.size ∧ i = .int .i64 pos ∧ n = .int .u64 (m : Int) ∧ m ≤ 11529215046068469769 ∧ refRun m (s.data.toList.drop pos) = refRun 0 (s.data.toList.drop 1)) (fun _ i => s.size - (intOf i).toNat)
    case atStart => exact ⟨1, 0, Nat.le_refl _, by omega, rfl, rfl, by omega, rfl⟩
    case round =>
      obtain ⟨pos, m, hp0, hp, rfl, rfl, hm, hok⟩ := hrel
      have Hok := Lib.hid hok
      clear hok
      by_cases hlt : pos < s.size
      · have Hc := Lib.hid (drop_cons s pos hlt)
        have hin : pos + 1 ≤ s.size := hlt
        have hcl := (s[pos]'hlt).toNat_lt
        by_cases hd1 : (s[pos]'hlt).toNat < 48
        · have Hf := Lib.hid (refRun_stop m (s[pos]'hlt) (s.data.toList.drop (pos + 1)) (by omega))
          have hd1' : ((s[pos]'hlt).toNat : Int) < 48 := by omega
          clear hd1
          go_wp2
          go_ret2
          exact ⟨by rw [HL.out, ← Hok.out, Hc.out, Hf.out]; rfl, Below.refl _ _⟩
        have hd1' : ¬ ((s[pos]'hlt).toNat : Int) < 48 := by omega
        by_cases hd2 : 57 < (s[pos]'hlt).toNat
        · have Hf := Lib.hid (refRun_stop m (s[pos]'hlt) (s.data.toList.drop (pos + 1)) (by omega))
          have hd2' : 57 < ((s[pos]'hlt).toNat : Int) := by omega
          clear hd1 hd2
          go_wp2
          go_ret2
          exact ⟨by rw [HL.out, ← Hok.out, Hc.out, Hf.out]; rfl, Below.refl _ _⟩
        have hd2' : ¬ 57 < ((s[pos]'hlt).toNat : Int) := by omega
        by_cases hd3 : 1152921504606846976 < m
        · have Hf := Lib.hid (refRun_stop m (s[pos]'hlt) (s.data.toList.drop (pos + 1)) (by omega))
          have hd3' : 1152921504606846976 < (m : Int) := by omega
          clear hd1 hd2 hd3
          go_wp2
          go_ret2
          exact ⟨by rw [HL.out, ← Hok.out, Hc.out, Hf.out]; rfl, Below.refl _ _⟩
        have hd3' : ¬ 1152921504606846976 < (m : Int) := by omega
        have Hf := Lib.hid (refRun_go m (s[pos]'hlt) (s.data.toList.drop (pos + 1)) (by omega))
        have hb3 : 10 * m + ((s[pos]'hlt).toNat - 48) ≤ 11529215046068469769 := by omega
        have hb4 : 10 * (m : Int) + (((s[pos]'hlt).toNat : Int) - 48) ≤ 11529215046068469769 := by omega
        clear hd1 hd2 hd3
        go_wp2
        go_round
        case rel => exact ⟨pos + 1, 10 * m + ((s[pos]'hlt).toNat - 48), by omega, hin, by go_num, int_u64 (by omega), hb3, by rw [← Hok.out, Hc.out, Hf.out]⟩
        case measure => simp [intOf]; omega
      · obtain rfl : pos = s.size := by omega
        have he : refRun 0 (s.data.toList.drop 1) = some m := by
          rw [← Hok.out, List.drop_of_length_le (by simp)]
          rfl
        have HL2 := Lib.hid (HL.out.trans (congrArg (refFin true s.data.toList) he))
        clear he
        have hv := wrap_in (m : Int)
        have hv2 := wrap_in (-wrap64 (m : Int))
        go_wp2_with fail
        refine (refNum_c (wrap64 (-wrap64 (m : Int))) (by omega) (by omega) _).mono ?_
        rintro e w1 ⟨rfl, b1⟩
        by_cases hq : Lib.itoa (wrap64 (-wrap64 (m : Int))) = s.data.toList
        · have hq' : (Lib.itoa (wrap64 (-wrap64 (m : Int))) == s.toList) = true := by rw [Lib.toList_data, hq]; simp
          have Hr := Lib.hid (show refFin true s.data.toList (some m) = some (wrap64 (-wrap64 (m : Int))) by unfold refFin; simp [hq])
          clear hq
          go_wp2
          go_ret2
          exact ⟨by rw [HL2.out, Hr.out]; rfl, b1⟩
        · have hq' : (Lib.itoa (wrap64 (-wrap64 (m : Int))) == s.toList) = false := by rw [Lib.toList_data]; simp [hq]
          have Hr := Lib.hid (show refFin true s.data.toList (some m) = none by unfold refFin; simp [hq])
          clear hq
          go_wp2
          go_ret2
          exact ⟨by rw [HL2.out, Hr.out]; rfl, b1⟩
  · have HL := Lib.hid (refL_pos s.data.toList (by omega) (by rw [hd]; simpa using h45))
    have e45 : (((s[0]'hpos).toNat : Int) == 45) = false := by
      rw [beq_eq_false_iff_ne]
      intro e
      exact h45 (UInt8.toNat_inj.1 (show (s[0]'hpos).toNat = 45 by omega))
    clear hlen h0 hd h45
    go_enter Tryz.func99, Tryz.ntmps99
    go_wp2
    go_loop [6, 7] (fun n i => ∃ pos m : Nat, 0 ≤ pos ∧ pos ≤ s.size ∧ i = .int .i64 pos ∧ n = .int .u64 (m : Int) ∧ m ≤ 11529215046068469769 ∧ refRun m (s.data.toList.drop pos) = refRun 0 (s.data.toList.drop 0)) (fun _ i => s.size - (intOf i).toNat)
    case atStart => exact ⟨0, 0, Nat.le_refl _, by omega, rfl, rfl, by omega, rfl⟩
    case round =>
      obtain ⟨pos, m, hp0, hp, rfl, rfl, hm, hok⟩ := hrel
      have Hok := Lib.hid hok
      clear hok
      by_cases hlt : pos < s.size
      · have Hc := Lib.hid (drop_cons s pos hlt)
        have hin : pos + 1 ≤ s.size := hlt
        have hcl := (s[pos]'hlt).toNat_lt
        by_cases hd1 : (s[pos]'hlt).toNat < 48
        · have Hf := Lib.hid (refRun_stop m (s[pos]'hlt) (s.data.toList.drop (pos + 1)) (by omega))
          have hd1' : ((s[pos]'hlt).toNat : Int) < 48 := by omega
          clear hd1
          go_wp2
          go_ret2
          exact ⟨by rw [HL.out, ← Hok.out, Hc.out, Hf.out]; rfl, Below.refl _ _⟩
        have hd1' : ¬ ((s[pos]'hlt).toNat : Int) < 48 := by omega
        by_cases hd2 : 57 < (s[pos]'hlt).toNat
        · have Hf := Lib.hid (refRun_stop m (s[pos]'hlt) (s.data.toList.drop (pos + 1)) (by omega))
          have hd2' : 57 < ((s[pos]'hlt).toNat : Int) := by omega
          clear hd1 hd2
          go_wp2
          go_ret2
          exact ⟨by rw [HL.out, ← Hok.out, Hc.out, Hf.out]; rfl, Below.refl _ _⟩
        have hd2' : ¬ 57 < ((s[pos]'hlt).toNat : Int) := by omega
        by_cases hd3 : 1152921504606846976 < m
        · have Hf := Lib.hid (refRun_stop m (s[pos]'hlt) (s.data.toList.drop (pos + 1)) (by omega))
          have hd3' : 1152921504606846976 < (m : Int) := by omega
          clear hd1 hd2 hd3
          go_wp2
          go_ret2
          exact ⟨by rw [HL.out, ← Hok.out, Hc.out, Hf.out]; rfl, Below.refl _ _⟩
        have hd3' : ¬ 1152921504606846976 < (m : Int) := by omega
        have Hf := Lib.hid (refRun_go m (s[pos]'hlt) (s.data.toList.drop (pos + 1)) (by omega))
        have hb3 : 10 * m + ((s[pos]'hlt).toNat - 48) ≤ 11529215046068469769 := by omega
        have hb4 : 10 * (m : Int) + (((s[pos]'hlt).toNat : Int) - 48) ≤ 11529215046068469769 := by omega
        clear hd1 hd2 hd3
        go_wp2
        go_round
        case rel => exact ⟨pos + 1, 10 * m + ((s[pos]'hlt).toNat - 48), by omega, hin, by go_num, int_u64 (by omega), hb3, by rw [← Hok.out, Hc.out, Hf.out]⟩
        case measure => simp [intOf]; omega
      · obtain rfl : pos = s.size := by omega
        have he : refRun 0 (s.data.toList.drop 0) = some m := by
          rw [← Hok.out, List.drop_of_length_le (by simp)]
          rfl
        have HL2 := Lib.hid (HL.out.trans (congrArg (refFin false s.data.toList) he))
        clear he
        have hv := wrap_in (m : Int)
        have hv2 := wrap_in (-wrap64 (m : Int))
        go_wp2_with fail
        refine (refNum_c (wrap64 (m : Int)) (by omega) (by omega) _).mono ?_
        rintro e w1 ⟨rfl, b1⟩
        by_cases hq : Lib.itoa (wrap64 (m : Int)) = s.data.toList
        · have hq' : (Lib.itoa (wrap64 (m : Int)) == s.toList) = true := by rw [Lib.toList_data, hq]; simp
          have Hr := Lib.hid (show refFin false s.data.toList (some m) = some (wrap64 (m : Int)) by unfold refFin; simp [hq])
          clear hq
          go_wp2
          go_ret2
          exact ⟨by rw [HL2.out, Hr.out]; rfl, b1⟩
        · have hq' : (Lib.itoa (wrap64 (m : Int)) == s.toList) = false := by rw [Lib.toList_data]; simp [hq]
          have Hr := Lib.hid (show refFin false s.data.toList (some m) = none by unfold refFin; simp [hq])
          clear hq
          go_wp2
          go_ret2
          exact ⟨by rw [HL2.out, Hr.out]; rfl, b1⟩
end Go.Proofs.YthhepmddcncjoaaGreatDoor
namespace Go.Proofs.YthhepmddcncjoaaGreatDoor
open Go.RowKit

def unqU (l : List UInt8) : Option (List UInt8) := unqS (seqS l.length l)
theorem seqS_fuel : ∀ (f g : Nat) (l : List UInt8), l.length ≤ f → l.length ≤ g → seqS f l = seqS g l
  | 0, g, l, hf, _ => by
    have : l = [] := List.eq_nil_of_length_eq_zero (by omega)
    subst this
    rw [seqS_nil, seqS_nil]
  | f + 1, g, l, hf, hg => by
    by_cases hne : l = []
    · subst hne; rw [seqS_nil, seqS_nil]
    have hpos : 1 ≤ l.length := by cases l with | nil => exact absurd rfl hne | cons => simp
    obtain ⟨g', rfl⟩ : ∃ g', g = g' + 1 := ⟨g - 1, by omega⟩
    cases hr : firstS l with
    | none => rw [seqS_none f l hne hr, seqS_none g' l hne hr]
    | some x =>
      obtain ⟨c, n⟩ := x
      have hn := firstS_len l c n hne hr
      rw [seqS_some f l c n hne hr, seqS_some g' l c n hne hr, seqS_fuel f g' (l.drop n) (by simp; omega) (by simp; omega)]
theorem unqU_nil : unqU [] = some [] := rfl
theorem unqU_none (l : List UInt8) (hne : l ≠ []) (h : firstS l = none) : unqU l = none := by
  unfold unqU
  have hpos : 1 ≤ l.length := by cases l with | nil => exact absurd rfl hne | cons => simp
  obtain ⟨g, hg⟩ : ∃ g, l.length = g + 1 := ⟨l.length - 1, by omega⟩
  rw [hg, seqS_none g l hne h]
  rfl
theorem unqU_some (l : List UInt8) (c : UInt8) (n : Nat) (hne : l ≠ []) (h : firstS l = some (c, n)) : unqU l = (unqU (l.drop n)).map (c :: ·) := by
  unfold unqU
  have hn := firstS_len l c n hne h
  obtain ⟨g, hg⟩ : ∃ g, l.length = g + 1 := ⟨l.length - 1, by omega⟩
  rw [hg, seqS_some g l c n hne h, seqS_fuel g (l.drop n).length (l.drop n) (by simp; omega) (Nat.le_refl _)]
  unfold unqS
  simp only [List.all_cons, Bool.not_false, Bool.true_and, List.map_cons]
  split <;> rfl

theorem unqL_short {l : List UInt8} (h : l.length < 2) : unqL l = none := by
  cases hq : unqL l with
  | none => rfl
  | some t =>
    have e := unqL_back hq
    have : (quoteL t).length = l.length := by rw [e]
    unfold quoteL at this
    simp only [List.length_cons, List.length_append, List.length_nil] at this
    omega
theorem unqL_first {l : List UInt8} (h : l.getD 0 0 ≠ 34) : unqL l = none := by
  cases hq : unqL l with
  | none => rfl
  | some t =>
    have e := unqL_back hq
    exact absurd (by rw [← e]; rfl) h
theorem unqL_last {l : List UInt8} (h : l.getD (l.length - 1) 0 ≠ 34) : unqL l = none := by
  cases hq : unqL l with
  | none => rfl
  | some t =>
    have e := unqL_back hq
    refine absurd ?_ h
    rw [← e]
    unfold quoteL
    rw [show (34 :: (t.flatMap sign ++ [34])).length - 1 = (34 :: t.flatMap sign).length by simp, ← List.cons_append]
    simp [List.getD_eq_getElem?_getD]
theorem unqL_mid {l : List UInt8} (h2 : 2 ≤ l.length) (h0 : l.getD 0 0 = 34) (h1 : l.getD (l.length - 1) 0 = 34) : unqL l = unqU ((l.drop 1).take (l.length - 2)) := by
  have e : l = 34 :: ((l.drop 1).take (l.length - 2) ++ [34]) := by
    cases l with
    | nil => simp at h2
    | cons x r =>
      simp only [List.getD_cons_zero] at h0
      subst h0
      simp only [List.drop_succ_cons, List.drop_zero, List.length_cons] at h2 h1 ⊢
      congr 1
      have hr : 1 ≤ r.length := by omega
      have h3 : r.drop (r.length - 1) = [34] := by
        rw [List.drop_eq_getElem_cons (by omega)]
        have h4 : r[r.length - 1]'(by omega) = 34 := by
          rw [List.getD_eq_getElem?_getD, show r.length + 1 - 1 = (r.length - 1) + 1 by omega, List.getElem?_cons_succ, List.getElem?_eq_getElem (by omega)] at h1
          simpa using h1
        rw [h4, List.drop_of_length_le (by omega)]
      rw [show r.length + 1 - 2 = r.length - 1 by omega, ← h3, List.take_append_drop]
  obtain ⟨m, hm⟩ : ∃ m, (l.drop 1).take (l.length - 2) = m := ⟨_, rfl⟩
  rw [hm] at e ⊢
  unfold unqL
  rw [e, betw_quote]
  rfl

theorem conv_own {W : World} {B : Nat} {v : Value} {n : Nat} {bs : List UInt8} (h : W.ownsRow B 5 1 v n (Lib.byteCells bs)) : (convert 77 9 v).run Tryz.prog W = .ok (.string ⟨bs.toArray⟩) W := by
  have h0 := h
  obtain ⟨hl, h⟩ := h
  rcases h with ⟨rfl, rfl⟩ | ⟨g, cap, cur, rfl, _, hg, hn, _, hc, ht⟩
  · have : bs = [] := by
      cases bs with
      | nil => rfl
      | cons => simp [Lib.byteCells] at hl
    subst this
    rw [run_convert_bytes_string _ 77 9 5 _ _ _ Tryz.underlying77 Tryz.underlying5 Tryz.underlying9]
    simp [Conv.bytesToString, Sem.run_pure]
    rfl
  · have hl2 : (loadCells ⟨g, 0, none⟩ n).run Tryz.prog W = .ok ((bs.map fun b => (b.toNat : Int)).map (Value.int .u8)).toArray W := by
      have := run_loadCells_list (P := Tryz.prog) W ⟨g, 0, none⟩ (Lib.byteCells bs) (h0.cells rfl)
      rw [hl, Nat.mul_one] at this
      simpa [Lib.byteCells, Function.comp_def] using this
    rw [run_convert_bytes_string _ 77 9 5 _ _ _ Tryz.underlying77 Tryz.underlying5 Tryz.underlying9, run_bytesToString W _ n cap _ hl2, foldl_push_bytes]
    simp [ByteArray.empty, ByteArray.emptyWithCapacity, Function.comp_def]
    rfl
end Go.Proofs.YthhepmddcncjoaaGreatDoor
namespace Go.Proofs.YthhepmddcncjoaaGreatDoor
open Go.RowKit

theorem Tryz.info5b : (Tryz.prog.info? 5).map (fun i => (i.zero, i.size, i.bytes)) = some (some (.int .u8 0), 1, 1) := by kernel_rfl

theorem row_past {W W' : World} {B e size n : Nat} {v : Value} {xs : List Value} (h : W.ownsRow B e size v n xs) (b : Below W.heap.size W W') : W'.ownsRow B e size v n xs :=
  h.kept (row := none) ⟨b.os, b.tape, b.output, b.size, fun k hk _ => b.block k hk⟩ (by cases v.ownBlock <;> simp)

set_option maxRecDepth 100000 in
set_option maxHeartbeats 4000000 in
theorem refUnquote_c (s : ByteArray) (hs : s.size ≤ 5000) (w : World) :
    Calls Tryz.prog 100 #[.string s] w fun e w' => e = .returned (unqV (unqL s.data.toList)) ∧ Below w.heap.size w w' := by
  obtain ⟨i0, hi, hz0, hz1, hz2⟩ := info_parts Tryz.info5b
  have hlen : s.data.toList.length = s.size := by simp
  by_cases h2 : s.size < 2
  · have Hr := Lib.hid (unqL_short (l := s.data.toList) (by omega))
    have h2' : (s.size : Int) < 2 := by omega
    clear hlen
    go_enter Tryz.func100, Tryz.ntmps100
    go_wp2
    go_ret2
    rw [Hr.out]
    exact ⟨rfl, Below.refl _ _⟩
  have h2' : ¬ (s.size : Int) < 2 := by omega
  have hp0 : 0 < s.size := by omega
  have hp1 : s.size - 1 < s.size := by omega
  have g0 : s.data.toList.getD 0 0 = s[0] := by rw [List.getD_eq_getElem?_getD, List.getElem?_eq_getElem (by omega)]; rfl
  have g1 : s.data.toList.getD (s.data.toList.length - 1) 0 = s[s.size - 1] := by rw [List.getD_eq_getElem?_getD, List.getElem?_eq_getElem (by omega)]; simp only [hlen]; rfl
  have ne : ∀ c : UInt8, c ≠ 34 → ((c.toNat : Int) != 34) = true := by
    intro c hd
    rw [bne_iff_ne]
    intro e
    exact hd (UInt8.toNat_inj.1 (show c.toNat = 34 by omega))
  have gw : IntKind.i64.wrap ((s.size : Int) - 1) = (s.size : Int) - 1 := IntWalk.i64_in _ (by omega)
  by_cases c0 : s[0] = 34
  · have e0 : ((s[0].toNat : Int) != 34) = false := by rw [c0]; rfl
    by_cases c1 : s[s.size - 1] = 34
    · have e1 : ((s[s.size - 1].toNat : Int) != 34) = false := by rw [c1]; rfl
      have HM := Lib.hid (unqL_mid (l := s.data.toList) (by omega) (g0.trans c0) (g1.trans c1))
      have gs : ∀ w : World, (Instr.slice 9 (.string s) (some (.int .i64 1)) (some (.int .i64 ((s.size : Int) - 1))) none).run Tryz.prog w = .ok (.string (s.extract 1 (s.size - 1))) w := fun w => by
        have h := run_slice_string (P := Tryz.prog) (w := w) 9 s .i64 .i64 1 ((s.size : Int) - 1) Tryz.underlying9 (by omega) (by omega) (by omega)
        rwa [show ((s.size : Int) - 1).toNat = s.size - 1 by omega] at h
      obtain ⟨t, ht⟩ : ∃ t, s.extract 1 (s.size - 1) = t := ⟨_, rfl⟩
      have htl : (s.data.toList.drop 1).take (s.data.toList.length - 2) = t.data.toList := by
        rw [← ht, Lib.extract_data, hlen]
        rfl
      have hts : t.size ≤ 5000 := by rw [← ht, ByteArray.size_extract]; omega
      rw [htl] at HM
      rw [ht] at gs
      clear htl ht hlen g0 g1 ne c0 c1
      go_enter Tryz.func100, Tryz.ntmps100
      go_wp2
      go_loopw [5, 6] (fun o i wr => ∃ (pos : Nat) (acc : List UInt8), pos ≤ t.size ∧ i = .int .i64 pos ∧ acc.length ≤ pos ∧ wr.ownsRow w.heap.size 5 1 o acc.length (Lib.byteCells acc) ∧
          unqU t.data.toList = (unqU (t.data.toList.drop pos)).map (acc ++ ·) ∧ Below w.heap.size w wr) (fun _ i _ => t.size - (intOf i).toNat)
      case atStart => exact ⟨0, [], Nat.zero_le _, rfl, Nat.le_refl _, World.ownsRow_nil _ _ _ _, by simp, Below.refl _ _⟩
      case round =>
        obtain ⟨pos, acc, hp, rfl, hal, hown, hacc, hb⟩ := hrel
        have Hacc := Lib.hid hacc
        clear hacc
        have htl : t.data.toList.length = t.size := by simp
        by_cases hlt : pos < t.size
        · have hlt' : (pos : Int) < (t.size : Int) := by omega
          have hne : t.data.toList.drop pos ≠ [] := by
            intro h
            have := congrArg List.length h
            simp at this
            omega
          obtain ⟨r, hr⟩ : ∃ r, firstS (t.data.toList.drop pos) = r := ⟨_, rfl⟩
          have hn := next_c t pos hts hp wr
          rw [hr] at hn
          have Hn := Lib.hid hn
          clear hn
          cases r with
          | none =>
            have Hu := Lib.hid (unqU_none _ hne hr)
            clear hne hr htl
            go_wp2_with fail
            refine Hn.out.mono ?_
            rintro e w1 ⟨rfl, b1⟩
            simp only [nextV]
            go_wp2
            go_ret2
            rw [HM.out, Hacc.out, Hu.out]
            exact ⟨rfl, chain2 hb b1⟩
          | some x =>
            obtain ⟨c, n⟩ := x
            have hfl := firstS_len _ c n hne hr
            have hn1 : 1 ≤ n := hfl.1
            have hpn : pos + n ≤ t.size := by have := hfl.2; simp at this; omega
            have Hu := Lib.hid (unqU_some _ c n hne hr)
            have n0 : ((n : Int) == 0) = false := by rw [beq_eq_false_iff_ne]; omega
            have gw2 : IntKind.i64.wrap ((pos : Int) + (n : Int)) = (pos : Int) + (n : Int) := IntWalk.i64_in _ (by omega)
            clear hne hr htl hfl
            go_wp2_with fail
            refine Hn.out.mono ?_
            rintro e w1 ⟨rfl, b1⟩
            simp only [nextV]
            have hown1 := row_past hown b1
            have hsz := hb.size
            have hsz1 := b1.size
            go_wp2_with (at_builtin; refine wpList_append_own _ rfl (.tmp 42) (.tmp 44) 77 rfl w.heap.size 5 i0 (.int .u8 0) 1 1 Tryz.underlying77 hi hz0 hz1 hz2 rfl (by decide) _ _ _ rfl (hown1.alloc _) ⟨w1.heap.size, 0, none⟩ 1 1 [.int .u8 (c.toNat : Int)] rfl rfl (cell_one_new _ _ _) ?c2 ?c3 ?c4 ?c5 ?_)
            case c2 => first | rfl | (intro u hu; simp at hu; subst hu; rfl)
            case c3 => unfold maxLen; omega
            case c4 => omega
            case c5 => simp; omega
            intro v' w2 hown' hgrow' _
            go_wp2
            go_roundw
            case rel =>
              refine ⟨pos + n, acc ++ [c], hpn, by go_num, by simp; omega, ?_, ?_, ((chain2 hb b1).alloc (by omega) _).grown hgrow' (by simp; omega) (fun j hj => (hown.lt j hj).1)⟩
              · rw [byteCells_snoc, List.length_append]
                exact hown'
              · rw [Hacc.out, Hu.out, List.drop_drop]
                cases unqU (t.data.toList.drop (pos + n)) with
                | none => rfl
                | some m => simp
            case measure => simp [intOf]; omega
        · obtain rfl : pos = t.size := by omega
          have hd : t.data.toList.drop t.size = [] := List.drop_of_length_le (by simp)
          rw [hd, unqU_nil] at Hacc
          have hcv := conv_own hown
          clear htl hd
          go_wp2
          go_ret2
          rw [HM.out, Hacc.out]
          exact ⟨by simp [unqV], hb⟩
    · have e1 := ne _ c1
      have Hr := Lib.hid (unqL_last (l := s.data.toList) (by rw [g1]; exact c1))
      clear hlen g0 g1 ne c0 c1
      go_enter Tryz.func100, Tryz.ntmps100
      go_wp2
      go_ret2
      rw [Hr.out]
      exact ⟨rfl, Below.refl _ _⟩
  · have e0 := ne _ c0
    have Hr := Lib.hid (unqL_first (l := s.data.toList) (by rw [g0]; exact c0))
    clear hlen g0 g1 ne c0
    go_enter Tryz.func100, Tryz.ntmps100
    go_wp2
    go_ret2
    rw [Hr.out]
    exact ⟨rfl, Below.refl _ _⟩
end Go.Proofs.YthhepmddcncjoaaGreatDoor
