/- learnFromEachOther: rounds, till nothing more is learned. dtype.Find: the first relation of a name. dtype.checkAtoms: the first atom whose relation is not there, or has another number of columns. -/
import Derived.Test.YtfcfehflocglpaaDoorKYvis
import Derived.Test.YtfcfehflocglpaaDoorKSpr
import Derived.WalkMore
import Derived.Deep.LoopGhost
import Derived.Test.YtfcfehflocglpaaDoorKTshape2
import Derived.RangeFuncNested
import Derived.BigQuiet
import Derived.Test.YtfcfehflocglpaaDoorKAny
namespace Go.Proofs.YtfcfehflocglpaaDoor
open Go.RowKit

theorem lt_in {n₀ : Nat} {w wr : World} {l : List Lt} {o : Option Addr} {k : Nat} {t : Lt} (S : Hid (SlIn w n₀ 11 (LtC w n₀) l o)) (hB : Below n₀ w wr) (ht : l[k]? = some t) :
    ∃ a o0 k0 o1 k1 o2 k2, o = some a ∧ a.block < n₀ ∧ Hid (LtC wr n₀ t [.int .i64 t.op, .string t.a.rel, .slice o0 t.a.l.length k0, .int .i64 t.x.op, .string t.x.s, .int .i64 t.x.n, .slice o1 t.x.l.length k1, .int .i64 t.y.op, .string t.y.s, .int .i64 t.y.n, .slice o2 t.y.l.length k2]) ∧
      wr.cell? (a.add (k * 11)) = some (.int .i64 t.op) ∧ wr.cell? ⟨(a.add (k * 11)).block, (a.add (k * 11)).off + 1, none⟩ = some (.string t.a.rel) ∧ wr.cell? ⟨(a.add (k * 11)).block, (a.add (k * 11)).off + 2, none⟩ = some (.slice o0 t.a.l.length k0) ∧ wr.cell? ⟨(a.add (k * 11)).block, (a.add (k * 11)).off + 3, none⟩ = some (.int .i64 t.x.op) ∧ wr.cell? ⟨(a.add (k * 11)).block, (a.add (k * 11)).off + 4, none⟩ = some (.string t.x.s) ∧ wr.cell? ⟨(a.add (k * 11)).block, (a.add (k * 11)).off + 5, none⟩ = some (.int .i64 t.x.n) ∧ wr.cell? ⟨(a.add (k * 11)).block, (a.add (k * 11)).off + 6, none⟩ = some (.slice o1 t.x.l.length k1) ∧ wr.cell? ⟨(a.add (k * 11)).block, (a.add (k * 11)).off + 7, none⟩ = some (.int .i64 t.y.op) ∧ wr.cell? ⟨(a.add (k * 11)).block, (a.add (k * 11)).off + 8, none⟩ = some (.string t.y.s) ∧ wr.cell? ⟨(a.add (k * 11)).block, (a.add (k * 11)).off + 9, none⟩ = some (.int .i64 t.y.n) ∧ wr.cell? ⟨(a.add (k * 11)).block, (a.add (k * 11)).off + 10, none⟩ = some (.slice o2 t.y.l.length k2) := by
  obtain ⟨a, cs, rfl, ha, _, h1, h2⟩ := S.out k t ht
  obtain ⟨o0, k0, o1, k1, o2, k2, rfl, _⟩ := h1.look
  exact ⟨a, o0, k0, o1, k1, o2, k2, rfl, ha, Lib.hid (h1.below hB), (h2.below ha hB).n11⟩

theorem LtC.look2 {w : World} {B : Nat} {t : Lt} {v0 v1 v2 v3 v4 v5 v6 v7 v8 v9 v10 : Value} (h : LtC w B t [v0, v1, v2, v3, v4, v5, v6, v7, v8, v9, v10]) : TmC w B t.x [v3, v4, v5, v6] ∧ TmC w B t.y [v7, v8, v9, v10] := by
  obtain ⟨o0, k0, o1, k1, o2, k2, e, _, h1, h2, h3⟩ := h.look
  simp only [List.cons.injEq] at e
  obtain ⟨rfl, rfl, rfl, rfl, rfl, rfl, rfl, rfl, rfl, rfl, rfl, _⟩ := e
  exact ⟨h2, h3⟩
/-- The pairs that a body holds against each other. -/
def prsL : List Lt → List (Tm × Tm)
  | [] => []
  | t :: l => if duoB t then (t.x, t.y) :: prsL l else prsL l
theorem prsL_drop {l : List Lt} {k : Nat} {t : Lt} (h : l[k]? = some t) : prsL (l.drop k) = if duoB t then (t.x, t.y) :: prsL (l.drop (k + 1)) else prsL (l.drop (k + 1)) := by
  have h1 : l.drop k = t :: l.drop (k + 1) := by rw [List.drop_eq_getElem_cons (List.getElem?_eq_some_iff.1 h).1, (List.getElem?_eq_some_iff.1 h).2]
  rw [h1]; rfl
theorem alikeL_cons (K : Kn) (x y : Tm) (l : List (Tm × Tm)) : alikeL K ((x, y) :: l) = (match alike1 K x y with | none => none | some K' => alikeL K' l) := by
  rw [alikeL]; rfl

theorem learn_len {K K' : Kn} {t : Tm} {k : Int} (h : learn1 K t k = some K') : K.length ≤ K'.length := by
  rcases learn_cases h with ⟨_, rfl⟩ | ⟨_, _, rfl⟩ | ⟨_, _, _, rfl⟩ <;> simp
theorem alike_len {K K' : Kn} {x y : Tm} (h : alike1 K x y = some K') : K.length ≤ K'.length := by
  unfold alike1 at h
  split at h
  · split at h
    · exact learn_len h
    · cases h; exact Nat.le_refl _
  · exact learn_len h
theorem alikeL_len : ∀ {l : List (Tm × Tm)} {K K' : Kn}, alikeL K l = some K' → K.length ≤ K'.length
  | [], _, _, h => by cases h; exact Nat.le_refl _
  | (x, y) :: l, K, K', h => by
    rw [alikeL_cons] at h
    cases h1 : alike1 K x y with
    | none => rw [h1] at h; cases h
    | some K1 => rw [h1] at h; exact Nat.le_trans (alike_len h1) (alikeL_len h)

set_option maxRecDepth 100000 in
set_option maxHeartbeats 4000000 in
theorem eachOther_c (r : Ru) (cs : List Value) (B n₀ : Nat) (V : List (List UInt8)) (hV : V.length ≤ 1000000) (K : Kn) (a b' c d : Addr) (w : World) (hc : RuC w n₀ r cs) (hB : n₀ ≤ B) (hM : KnM V w B K) (hv : ∀ l ∈ r.body, (l.x.op = 1 → nm l.x ∈ V) ∧ (l.y.op = 1 → nm l.y ∈ V)) (E : YEnv n₀ a b' c d w) :
    Calls Tryd.prog 70 #[.map (some B), .agg cs.toArray] w fun e w' => ∃ rr, Rounds (prsL r.body) K rr ∧ LearnR V w B a rr e w' := by
  obtain ⟨o0, k0, o1, k1, rfl, _, _, hL⟩ := hc.look
  obtain ⟨_, _, e2, hcap, hmax, SL⟩ := hL.open
  cases e2
  have HE := Lib.hid E
  have HM := Lib.hid hM
  have hB1 := hM.lt
  have G0 : ∀ x : Obj, Hid (w.grownBy (w.alloc x) (some B)) := fun x => Lib.hid (World.grownBy_alloc w x _)
  clear hM E hc hL
  go_enter Tryd.func70, Tryd.ntmps70
  go_wp2
  go_step3
  go_wp2
  go_step3
  go_wp2
  go_loopw [5, 6] (fun wv bv wr => ∃ (bf : Int) (Ki : Kn), wv = .nilIface ∧ bv = .int .i64 bf ∧ KnM V wr B Ki ∧ (w.alloc (.cells #[.string r.head.rel, .slice o0 r.head.l.length k0, .slice o1 r.body.length k1, .int .i64 r.line] 27)).grownBy wr (some B) ∧
    -1 ≤ bf ∧ bf ≤ Ki.length ∧ ((bf = -1 ∧ Ki = K) ∨ ∃ Kp : Kn, bf = Kp.length ∧ alikeL Kp (prsL r.body) = some Ki ∧ ∀ rr, Rounds (prsL r.body) Kp rr → Rounds (prsL r.body) K rr)) (fun _ bv _ => V.length + 1 - (intOf bv + 1).toNat)
  case atStart => exact ⟨-1, K, rfl, rfl, HM.out.same ((Below.heap_alloc _ _ _ hB1)), World.grownBy.refl _ _, by omega, by omega, .inl ⟨rfl, rfl⟩⟩
  case round =>
    obtain ⟨bf, Ki, rfl, rfl, hM2, hg2, hb1, hb2, hst⟩ := hrel
    have Hst := Lib.hid hst
    have Hb1 := Lib.hid hb1
    have Hmore : Hid (bf < Ki.length → ∀ rr, Rounds (prsL r.body) Ki rr → Rounds (prsL r.body) K rr) := Lib.hid fun hlt => by
      rcases hst with ⟨_, h2⟩ | ⟨Kp, h1, h2, h3⟩
      · subst h2; exact fun _ h => h
      · exact fun rr h => h3 rr (.more h2 (by omega) h)
    have HM2 := Lib.hid hM2
    have Hg2 := Lib.hid hg2
    have hBs := hg2.size
    simp only [World.size_alloc] at hBs
    clear hM2 hg2 hst
    by_cases hlt : bf < Ki.length
    · have Hlt := Lib.hid hlt
      have hcr : wr.cell? ⟨w.heap.size, 2, none⟩ = some (.slice o1 r.body.length k1) := by
        have h := Hg2.out.block w.heap.size (by simp) (fun e => by have := Option.some.inj e; omega)
        unfold World.cell?
        simp only []
        rw [h, World.alloc_heap_new]
        rfl
      go_wp2_with (at_len; refine wpList_mapI_len _ rfl _ 78 rfl 9 3 Tryd.underlying78 B _ (look Ki) _ rfl HM2.out.map ?_)
      go_loopw [5, 18] (fun wv i wx => ∃ (k : Nat) (Kj : Kn), wv = .nilIface ∧ k ≤ r.body.length ∧ i = .int .i64 k ∧ alikeL Ki (prsL r.body) = alikeL Kj (prsL (r.body.drop k)) ∧ KnM V wx B Kj ∧ (w.alloc (.cells #[.string r.head.rel, .slice o0 r.head.l.length k0, .slice o1 r.body.length k1, .int .i64 r.line] 27)).grownBy wx (some B)) (fun _ i _ => r.body.length - (intOf i).toNat)
      case atStart => exact ⟨0, Ki, rfl, Nat.zero_le _, rfl, rfl, HM2.out, Hg2.out⟩
      case round =>
        obtain ⟨k, Kj, rfl, hk, rfl, hr, hM3, hg3⟩ := hrel
        have Hr := Lib.hid hr
        have HM3 := Lib.hid hM3
        have Hg3 := Lib.hid hg3
        have hBx := hg3.size
        simp only [World.size_alloc] at hBx
        have hB' : Below n₀ w wr := gBelow ((G0 _).out.trans Hg3.out) hB (by omega)
        clear hr hM3 hg3
        by_cases hlt2 : k < r.body.length
        · have hlt' : (k : Int) < (r.body.length : Int) := by omega
          obtain ⟨t, ht⟩ : ∃ t, r.body[k]? = some t := ⟨r.body[k], List.getElem?_eq_getElem hlt2⟩
          obtain ⟨b, p3, q3, p4, q4, p5, q5, rfl, ha, Hc, c0, c1, c2, c3, c4, c5, c6, c7, c8, c9, c10⟩ := lt_in SL hB' ht
          have hal : (b.add (k * 11)).block < wr.heap.size := by rw [addBlock]; omega
          have Hdr := Lib.hid (prsL_drop ht)
          have Hvb := Lib.hid (hv t (List.mem_of_getElem? ht))
          clear ht
          go_wp2_with fail
          have hb0 : Below wr.heap.size wr (wr.alloc (.cells #[.int .i64 t.op, .string t.a.rel, .slice p3 t.a.l.length q3, .int .i64 t.x.op, .string t.x.s, .int .i64 t.x.n, .slice p4 t.x.l.length q4, .int .i64 t.y.op, .string t.y.s, .int .i64 t.y.n, .slice p5 t.y.l.length q5] 45)) := (Below.refl _ _).alloc (Nat.le_refl _) _
          have Hb0 := Lib.hid hb0
          refine (holdsTwo_c t _ n₀ _ (Hc.out.below (hb0.mono (by omega)))).mono ?_
          rintro e w1 ⟨rfl, b1⟩
          have b2 : Below wr.heap.size wr w1 := hb0.trans (b1.mono (by simp))
          have Hb2 := Lib.hid b2
          obtain ⟨hc1, hf1⟩ := boxY wr.heap.size b1 (by simp)
          have hBw : B < wr.heap.size := by omega
          have hs1 := b1.size
          simp only [World.size_alloc] at hs1
          clear hb0 b1 b2
          cases hd : duoB t with
          | false =>
            have Hz : Hid (alikeL Ki (prsL r.body) = alikeL Kj (prsL (r.body.drop (k + 1)))) := Lib.hid (by rw [Hr.out, Hdr.out, hd]; rfl)
            clear hd
            go_wp2
            go_roundw
            case rel => exact ⟨k + 1, Kj, rfl, hlt2, by go_num, Hz.out, HM3.out.below Hb2.out hBw, Hg3.out.trans (gB Hb2.out _)⟩
            case measure => simp [intOf]; omega
          | true =>
            have Hz : Hid (alikeL Ki (prsL r.body) = alikeL Kj ((t.x, t.y) :: prsL (r.body.drop (k + 1)))) := Lib.hid (by rw [Hr.out, Hdr.out, hd]; rfl)
            clear hd
            go_wp2_with fail
            refine (learnAlike_c t.x t.y [.int .i64 t.x.op, .string t.x.s, .int .i64 t.x.n, .slice p4 t.x.l.length q4] [.int .i64 t.y.op, .string t.y.s, .int .i64 t.y.n, .slice p5 t.y.l.length q5] B n₀ V hV Kj a b' c d w1 (TmC.under Hc.out.look2.1 (Hb2.out.mono (by omega))) (TmC.under Hc.out.look2.2 (Hb2.out.mono (by omega))) hB (HM3.out.below Hb2.out hBw) Hvb.out.1 Hvb.out.2 (HE.out.below (hB'.trans (Hb2.out.mono (by omega))))).mono ?_
            rintro e w2 hR
            cases hl : alike1 Kj t.x t.y with
            | none =>
              rw [hl] at hR
              cases hR with
              | bad hg4 =>
              have Hq : Hid (Rounds (prsL r.body) K none) := Lib.hid (Hmore.out Hlt.out _ (.bad (by rw [Hz.out, alikeL_cons, hl])))
              have Hg4 := Lib.hid (((G0 _).out.trans Hg3.out).trans ((gB Hb2.out _).trans hg4))
              clear hl hg4
              unfold errV
              go_wp2
              rw [Exit.noGoto_ret]
              go_ret
              exact ⟨_, Hq.out, .bad Hg4.out⟩
            | some K' =>
              rw [hl] at hR
              cases hR with
              | good hm4 hg4 =>
              have Hz2 : Hid (alikeL Ki (prsL r.body) = alikeL K' (prsL (r.body.drop (k + 1)))) := Lib.hid (by rw [Hz.out, alikeL_cons, hl])
              have Hg4 := Lib.hid (Hg3.out.trans ((gB Hb2.out _).trans hg4))
              have Hm4 := Lib.hid hm4
              clear hl hg4 hm4
              go_wp2
              go_roundw
              case rel => exact ⟨k + 1, K', rfl, hlt2, by go_num, Hz2.out, Hm4.out, Hg4.out⟩
              case measure => simp [intOf]; omega
        · have hlt' : ¬ (k : Int) < (r.body.length : Int) := by omega
          have Hq : Hid (alikeL Ki (prsL r.body) = some Kj) := Lib.hid (by rw [Hr.out, List.drop_of_length_le (by omega)]; rfl)
          go_wp2
          go_roundw
          case rel => exact ⟨Ki.length, Kj, rfl, rfl, HM3.out, Hg3.out, by omega, by have := alikeL_len Hq.out; omega, .inr ⟨Ki, rfl, Hq.out, Hmore.out Hlt.out⟩⟩
          case measure => have := HM2.out.len; have := Hlt.out; have := Hb1.out; simp [intOf]; omega
    · have Hq : Hid (Rounds (prsL r.body) K (some Ki)) := Lib.hid (by
        rcases Hst.out with ⟨h1, _⟩ | ⟨Kp, h1, h2, h3⟩
        · omega
        · exact h3 _ (.still h2 (by omega)))
      go_wp2_with (at_len; refine wpList_mapI_len _ rfl _ 78 rfl 9 3 Tryd.underlying78 B _ (look Ki) _ rfl HM2.out.map ?_)
      go_ret
      exact ⟨_, Hq.out, .good HM2.out ((G0 _).out.trans Hg2.out)⟩
end Go.Proofs.YtfcfehflocglpaaDoor
namespace Go.Proofs.YtfcfehflocglpaaDoor
open Go.RowKit

def relY (s : ByteArray) (d : De) : Bool := d.rel.toList == s.toList
def ixY (s : ByteArray) : Nat → List De → Int
  | _, [] => -1
  | k, d :: l => if relY s d then k else ixY s (k + 1) l
theorem ixY_drop {s : ByteArray} {l : List De} {k : Nat} {d : De} (h : l[k]? = some d) : ixY s k (l.drop k) = if relY s d then (k : Int) else ixY s (k + 1) (l.drop (k + 1)) := by
  have h1 : l.drop k = d :: l.drop (k + 1) := by rw [List.drop_eq_getElem_cons (List.getElem?_eq_some_iff.1 h).1, (List.getElem?_eq_some_iff.1 h).2]
  rw [h1]; rfl
/-- A list's first relation of a name, and where it stands. -/
theorem ixY_cases (s : ByteArray) : ∀ (l : List De) (k : Nat), (ixY s k l = -1 ∧ ∀ d ∈ l, relY s d = false) ∨ ∃ (i : Nat) (d : De), ixY s k l = ((k + i : Nat) : Int) ∧ l[i]? = some d ∧ relY s d = true
  | [], _ => .inl ⟨rfl, fun _ h => by cases h⟩
  | d :: l, k => by
    unfold ixY
    cases h : relY s d with
    | true => exact .inr ⟨0, d, by simp, rfl, h⟩
    | false =>
      rcases ixY_cases s l (k + 1) with ⟨h1, h2⟩ | ⟨i, e, h1, h2, h3⟩
      · refine .inl ⟨by simpa using h1, fun x hx => ?_⟩
        rcases List.mem_cons.1 hx with rfl | hx
        · exact h
        · exact h2 x hx
      · exact .inr ⟨i + 1, e, by simp only [Bool.false_eq_true, if_false]; rw [h1]; congr 1; omega, h2, h3⟩
/-- The place and whether there is one. -/
def findY (s : ByteArray) (l : List De) : Option Nat := if ixY s 0 l < 0 then none else some (ixY s 0 l).toNat

def findV : Option Nat → Value
  | none => .tuple #[.int .i64 0, .bool false]
  | some i => .tuple #[.int .i64 i, .bool true]
set_option maxRecDepth 100000 in
set_option maxHeartbeats 4000000 in
theorem relIs_c (d : De) (s : ByteArray) (nb : Nat) (o0 o1 : Option Addr) (k0 k1 : Nat) (w : World) (c0 : w.cell? ⟨nb, 0, none⟩ = some (.string s)) :
    Calls Tryd.prog 34 #[.agg #[.string d.rel, .slice o0 d.names.length k0, .slice o1 d.types.length k1, .bool d.inn, .bool d.out, .int .i64 d.line], .pointer (some ⟨nb, 0, none⟩)] w fun e w' => e = .returned (.bool (relY s d)) ∧ Below w.heap.size w w' := by
  have HB0 : Hid (∀ (x : Obj), Below w.heap.size w (w.alloc x)) := Lib.hid fun x => (Below.refl _ _).alloc (Nat.le_refl _) _
  have hlt : nb < w.heap.size := World.block_lt_of_cell? _ _ c0
  go_enter Tryd.func34, Tryd.ntmps34
  go_wp2
  go_ret
  exact ⟨rfl, HB0.out _⟩
theorem de_in {n₀ : Nat} {w wr : World} {l : List De} {o : Option Addr} {k : Nat} {t : De} (S : Hid (SlIn w n₀ 6 (DeC w n₀) l o)) (hB : Below n₀ w wr) (ht : l[k]? = some t) :
    ∃ a o0 k0 o1 k1, o = some a ∧ a.block < n₀ ∧ Hid (DeC wr n₀ t [.string t.rel, .slice o0 t.names.length k0, .slice o1 t.types.length k1, .bool t.inn, .bool t.out, .int .i64 t.line]) ∧
      CellsAt wr a (k * 6) [.string t.rel, .slice o0 t.names.length k0, .slice o1 t.types.length k1, .bool t.inn, .bool t.out, .int .i64 t.line] := by
  obtain ⟨a, cs, rfl, ha, _, h1, h2⟩ := S.out k t ht
  obtain ⟨o0, k0, o1, k1, rfl, _⟩ := h1.look
  exact ⟨a, o0, k0, o1, k1, rfl, ha, Lib.hid (h1.below hB), h2.below ha hB⟩

set_option maxRecDepth 100000 in
set_option maxHeartbeats 4000000 in
theorem indexD_c (s : ByteArray) (nb n₀ : Nat) (l : List De) (v : Value) (w : World) (hl : SlOf w n₀ 6 (DeC w n₀) l v) (hn : n₀ ≤ w.heap.size) (hb : w.cell? ⟨nb, 0, none⟩ = some (.string s)) :
    Calls Tryd.prog 33 #[v, .func (.func 34) #[] #[.pointer (some ⟨nb, 0, none⟩)]] w fun e w' => e = .returned (.int .i64 (ixY s 0 l)) ∧ Below w.heap.size w w' := by
  obtain ⟨o, cap, rfl, hcap, hcm, S⟩ := SlOf.open hl
  have HB0 : Hid (Below w.heap.size w w) := Lib.hid (Below.refl _ _)
  have hnb : nb < w.heap.size := World.block_lt_of_cell? _ _ hb
  have Hb := Lib.hid hb
  clear hl hb
  go_enter Tryd.func33, Tryd.ntmps33
  go_wp2
  go_loopw [8] (fun i wr => ∃ k : Nat, k ≤ l.length ∧ i = .int .i64 (k : Int) ∧ ixY s 0 l = ixY s k (l.drop k) ∧ Below w.heap.size w wr) (fun i _ => l.length - (intOf i).toNat)
  case atStart => exact ⟨0, Nat.zero_le _, rfl, rfl, HB0.out⟩
  case round =>
    obtain ⟨k, hk, rfl, hix, hB⟩ := hrel
    have hBs := hB.size
    by_cases hlt : k < l.length
    · have hlt' : (k : Int) < (l.length : Int) := by omega
      obtain ⟨u, hu⟩ : ∃ u, l[k]? = some u := ⟨l[k], List.getElem?_eq_getElem hlt⟩
      obtain ⟨b, p1, q1, p2, q2, rfl, hbb, Hc, hca⟩ := de_in S (hB.mono hn) hu
      obtain ⟨c0, c1, c2, c3, c4, c5⟩ := hca.n6
      have hbl : (b.add (k * 6)).block < wr.heap.size := by rw [addBlock]; omega
      have Hix := Lib.hid (hix.trans (ixY_drop hu))
      have HF := Lib.hid (relIs_c u s nb p1 p2 q1 q2 wr ((hB.cell (p := ⟨nb, 0, none⟩) hnb).trans Hb.out))
      clear hu hix Hc hca
      go_wp2_with fail
      refine HF.out.mono ?_
      rintro e w2 ⟨rfl, b2⟩
      have HB2 := Lib.hid (hB.trans (b2.mono hBs))
      clear b2
      cases hp : relY s u with
      | true =>
        have Hr : Hid (ixY s 0 l = (k : Int)) := Lib.hid (by rw [Hix.out, if_pos hp])
        clear hp
        go_wp2
        go_ret
        exact ⟨by rw [Hr.out]; rfl, HB2.out⟩
      | false =>
        have Hr : Hid (ixY s 0 l = ixY s (k + 1) (l.drop (k + 1))) := Lib.hid (by rw [Hix.out, if_neg (by rw [hp]; decide)])
        clear hp
        go_wp2
        go_roundw
        case rel => exact ⟨k + 1, by omega, by go_num, Hr.out, HB2.out⟩
        case measure => simp [intOf]; omega
    · have hlt' : ¬ (k : Int) < (l.length : Int) := by omega
      have Hr : Hid (ixY s 0 l = -1) := Lib.hid (by rw [hix, List.drop_of_length_le (by omega)]; rfl)
      clear hix
      go_wp2
      go_ret
      exact ⟨by rw [Hr.out]; rfl, hB⟩

set_option maxRecDepth 100000 in
set_option maxHeartbeats 4000000 in
theorem find_c (s : ByteArray) (n₀ : Nat) (l : List De) (v : Value) (w : World) (hl : SlOf w n₀ 6 (DeC w n₀) l v) (hn : n₀ ≤ w.heap.size) :
    Calls Tryd.prog 13 #[v, .string s] w fun e w' => e = .returned (findV (findY s l)) ∧ Below w.heap.size w w' := by
  have hb1 : Below w.heap.size w (w.alloc (.cells #[.string s] 9)) := (Below.refl _ _).alloc (Nat.le_refl _) _
  have hr : (w.alloc (.cells #[.string s] 9)).cell? ⟨w.heap.size, 0, none⟩ = some (.string s) := by
    unfold World.cell?
    simp only []
    rw [World.alloc_heap_new]
    rfl
  have HH := Lib.hid (indexD_c s w.heap.size n₀ l v (w.alloc (.cells #[.string s] 9)) (SlOf.decl hl (hb1.mono hn) (Nat.le_refl _)) (by simp; omega) hr)
  have Hb1 := Lib.hid hb1
  have hcs := ixY_cases s l 0
  clear hl hb1 hr
  go_enter Tryd.func13, Tryd.ntmps13
  go_wp2_with fail
  refine HH.out.mono ?_
  rintro e w2 ⟨rfl, b2⟩
  have HB2 := Lib.hid (Hb1.out.trans (b2.mono Hb1.out.size))
  clear b2
  rcases hcs with ⟨h1, _⟩ | ⟨i, d, h1, h2, _⟩
  · have Hq : Hid (findY s l = none) := Lib.hid (by unfold findY; rw [h1]; rfl)
    rw [h1]
    go_wp2
    go_ret2
    exact ⟨by rw [Hq.out]; rfl, HB2.out⟩
  · have Hq : Hid (findY s l = some i) := Lib.hid (by
      unfold findY
      rw [h1, Nat.zero_add, if_neg (by omega)]
      simp)
    rw [h1, Nat.zero_add]
    have hi : ¬ ((i : Nat) : Int) < 0 := by omega
    clear h1
    go_wp2
    go_ret2
    exact ⟨by rw [Hq.out]; rfl, HB2.out⟩
end Go.Proofs.YtfcfehflocglpaaDoor
namespace Go.Proofs.YtfcfehflocglpaaDoor
open Go.RowKit Go.Shelf

attribute [local go_sem] Oper.semAt_some

/-- A drawn region that only reads, in a round: as outside. -/
theorem region_quiet_round {lp n id : Nat} {P : Program} {Q : Exit → Act → World → Prop} {a : Act} {w : World} {l : List Oper} (hm : P.follows .mixedOrders = true) (hd : noDefer l.toArray = true) (hQ : ¬ LetsOut Q) (hB : Region.lexB .any l.toArray = true)
    (h : wpQuiet P l.toArray (fun w' => ∃ n, w' = w.drewN n) (fun a' => ∀ w', (∃ n, w' = w.drewN n) → Q .normal a' w') l a) : (Code.region id l.toArray true).wpIn (Fence.wide.inRound lp) n P Q a w := by
  simp only [Region.lexB, Bool.and_eq_true] at hB
  refine any_region hm hd hQ (wpAny_of_quiet (C := fun w' => ∃ n, w' = w.drewN n) (Q := fun a' => ∀ w', (∃ n, w' = w.drewN n) → Q .normal a' w') (fun _ w' hw' h => h w' hw') _ _ _ _ ⟨1, rfl⟩ ?_)
  have := wpAnyQ_lex (C := fun w' => ∃ n, w' = w.drewN n) (md := .any) hB.1 l 0 (Array.replicate l.toArray.size false) a (by simp) (by simpa using hB.2) h
  simpa using this
theorem loadVar_err {W : World} {b : Nat} {v : Value} (h : W.cell? ⟨b, 0, none⟩ = some v) : (loadVar 80 ⟨b, 0, none⟩).run Tryd.prog W = .ok v W := by
  have ha : ∀ w : World, (isAgg 80).run Tryd.prog w = .ok false w := fun w => by kernel_rfl
  have hl : b < W.heap.size := World.block_lt_of_cell? _ _ h
  unfold loadVar
  go_simp
theorem keepsFrom_drewN {B n : Nat} {W W' : World} (h : KeepsFrom B W W') : KeepsFrom B W (W'.drewN n) := ⟨h.size, h.same⟩
theorem koF_drewN {n : Nat} {W W' : World} (h : KO (fun _ _ => False) W W') : KO (fun _ _ => False) W (W'.drewN n) := ⟨h.size, h.same, fun _ h => h.elim, fun _ _ h => h.elim⟩
theorem below_drewN {B n : Nat} {W W' : World} (h : Below B W W') : Below B W (W'.drewN n) := ⟨h.os, h.tape, h.output, h.size, h.block⟩
/-- What is wrong with an atom: 0 nothing, 1 no relation, 2 another number. -/
def badA (ds : List De) (t : Am) : Nat :=
  match findY t.rel ds with
  | none => 1
  | some i => match ds[i]? with
    | none => 1
    | some d => if d.types.length = t.l.length then 0 else 2
def badV (c d : Addr) : Nat → Value
  | 0 => .nilIface
  | 1 => errV c
  | _ => errV d
def chkA (ds : List De) : List Am → Nat
  | [] => 0
  | t :: l => if badA ds t = 0 then chkA ds l else badA ds t
theorem chkA_all {ds : List De} : ∀ {l : List Am}, (∀ t ∈ l, badA ds t = 0) → chkA ds l = 0
  | [], _ => rfl
  | t :: l, h => by
    unfold chkA
    rw [if_pos (h t (List.mem_cons_self ..))]
    exact chkA_all fun x hx => h x (List.mem_cons_of_mem _ hx)
theorem chkA_first {ds : List De} {t : Am} (ht : badA ds t ≠ 0) : ∀ {l m : List Am}, (∀ t ∈ l, badA ds t = 0) → chkA ds (l ++ t :: m) = badA ds t
  | [], m, _ => by
    show (if badA ds t = 0 then chkA ds m else badA ds t) = _
    rw [if_neg ht]
  | u :: l, m, h => by
    show (if badA ds u = 0 then chkA ds (l ++ t :: m) else badA ds u) = _
    rw [if_pos (h u (List.mem_cons_self ..))]
    exact chkA_first ht fun x hx => h x (List.mem_cons_of_mem _ hx)
theorem findY_some {s : ByteArray} {l : List De} {i : Nat} (h : findY s l = some i) : ∃ d, l[i]? = some d ∧ relY s d = true := by
  unfold findY at h
  rcases ixY_cases s l 0 with ⟨h1, _⟩ | ⟨j, d, h1, h2, h3⟩
  · rw [h1] at h; simp at h
  · rw [h1, Nat.zero_add, if_neg (by omega)] at h
    have : j = i := by simpa using h
    subst this
    exact ⟨d, h2, h3⟩
theorem results_cell1 {P : Program} {fn : Func} {p : Tmp} {ty : TypeId} (h : fn.results = #[.cell p ty]) (tmps : Array Value) (w : World) (b : Nat) (v : Value) (hp : tmps.getD p undef = .pointer (some ⟨b, 0, none⟩)) (hr : (loadVar ty ⟨b, 0, none⟩).run P w = .ok v w) :
    (results fn tmps).run P w = .ok v w := by
  have hp' : tmps[p]?.getD undef = .pointer (some ⟨b, 0, none⟩) := by simpa using hp
  simp [results, h, hp', asAddr, hr, Sem.run_bind, Result.andThen]

set_option linter.unusedSimpArgs false in
set_option maxRecDepth 100000 in
set_option maxHeartbeats 4000000 in
theorem checkAtoms_in (ds : List De) (v : Value) (r : Ru) (cs : List Value) (n₀ : Nat) (a b' c d : Addr) (w : World) (hd : SlOf w n₀ 6 (DeC w n₀) ds v) (hc : RuC w n₀ r cs) (hn : n₀ ≤ w.heap.size) (E : YEnv n₀ a b' c d w) :
    CallsIn Fence.wide 6 Tryd.prog 68 #[v, .agg cs.toArray] w fun e w' => e = .returned (badV c d (chkA ds (atomsR r))) ∧ Below w.heap.size w w' := by
  obtain ⟨o0, k0, o1, k1, rfl, _⟩ := hc.look
  obtain ⟨od, kd, rfl, hdc, hdm, SD⟩ := SlOf.open hd
  have HC := Lib.hid hc
  have HD := Lib.hid hd
  have HE := Lib.hid E
  clear hc hd E
  refine callsIn_of_wp_marks Tryd.func68 rfl trivial ?_ rfl
  simp only [Tryd.ntmps68, List.size_toArray, List.length_cons, List.length_nil, Nat.reduceAdd, Nat.reduceSub, Array.replicate_succ, Array.replicate_zero, List.push_toArray, List.append_toArray, List.nil_append, List.cons_append]
  obtain ⟨n0, hn0⟩ : ∃ n0, w.heap.size = n0 := ⟨_, rfl⟩
  gi_wp2_with fail
  obtain ⟨W4, hW4⟩ : ∃ W4, (((w.alloc (.cells #[.slice od ds.length kd] 28)).alloc (.cells #[.string r.head.rel, .slice o0 r.head.l.length k0, .slice o1 r.body.length k1, .int .i64 r.line] 27)).alloc (.cells #[.nilIface] 80)) = W4 := ⟨_, rfl⟩
  have hs4 : W4.heap.size = n0 + 3 := by rw [← hW4]; simp; omega
  have hb4 : Below n0 w W4 := by
    rw [← hW4]
    exact (((Below.refl n0 w).alloc (by omega) _).alloc (by simp; omega) _).alloc (by simp; omega) _
  have bd4 : Boxed W4 n0 28 (.slice od ds.length kd) := by
    have := ((Boxed.new w 28 (.slice od ds.length kd)).alloc (.cells #[.string r.head.rel, .slice o0 r.head.l.length k0, .slice o1 r.body.length k1, .int .i64 r.line] 27)).alloc (.cells #[.nilIface] 80)
    rw [hn0, hW4] at this
    exact this
  have be4 : Boxed W4 (n0 + 1 + 1) 80 .nilIface := by
    have := Boxed.new ((w.alloc (.cells #[.slice od ds.length kd] 28)).alloc (.cells #[.string r.head.rel, .slice o0 r.head.l.length k0, .slice o1 r.body.length k1, .int .i64 r.line] 27)) 80 .nilIface
    rw [hW4] at this
    simpa [hn0] using this
  rw [hW4]
  have HA := Lib.hid (yatom_in 5 r _ W4 ((HC.out.below (hb4.mono (by omega))).more (by omega)))
  refine ⟨trivial, HA.out.mono ?_⟩
  rintro e W5 ⟨rfl, hW5⟩
  rw [hs4]
  clear hW4
  gi_wp2_with fail
  rw [← hW5]
  have hs5 : W5.heap.size = n0 + 4 := by rw [hW5]; simp; omega
  have hb45 : Below W4.heap.size W4 W5 := by rw [hW5]; exact (Below.refl _ _).alloc (Nat.le_refl _) _
  have hb5 : Below n0 w W5 := hb4.trans (hb45.mono (by omega))
  have bd5 : Boxed W5 n0 28 (.slice od ds.length kd) := (hb45.block _ bd4.lt).trans bd4
  have be5 : Boxed W5 (n0 + 1 + 1) 80 .nilIface := (hb45.block _ be4.lt).trans be4
  have row5 : W5.heap[n0 + 3]? = some (.cells #[.string r.head.rel, .slice o0 r.head.l.length k0, .slice o1 r.body.length k1, .int .i64 r.line] 27 (0, 0)) := by rw [hW5, ← hs4]; exact World.alloc_heap_new W4 _
  have hB5 : CellsAt W5 ⟨n0 + 3, 0, none⟩ 0 [.string r.head.rel, .slice o0 r.head.l.length k0, .slice o1 r.body.length k1, .int .i64 r.line] := fun j c hj => by
    rw [Nat.zero_add]
    exact World.news_of_block row5 j c (by simpa using hj)
  have hc5 := HC.out.below (hb5.mono (by omega))
  have safe : Safe (fun _ _ => False) W5 W5 := fun p c hp => ⟨hp, World.block_lt_of_cell? _ _ hp, id⟩
  clear hW5 bd4 be4 hb45 HA
  refine wpIn_rangeFunc_ownH rfl (by omega) (gf := 126) (lb := #[.pointer (some ⟨n0 + 3, 0, none⟩)]) rfl trivial (enters_of Tryd.func126 (by kernel_rfl) rfl)
    (yatom_stops 5 (n0 + 3) n₀ r [.string r.head.rel, .slice o0 r.head.l.length k0, .slice o1 r.body.length k1, .int .i64 r.line] W5 W5 (fun _ _ => False) (fun _ _ _ _ _ h => h) safe (fun _ h => h.elim) hB5 hc5 (G := fun _ => True) (fun _ _ => trivial)) (fun h k => h.trans k) ?hKb (Below.refl _ _) (fun _ => rfl)
    (fun pre W => (∀ x ∈ pre, badA ds x.t = 0) ∧ KO (fun _ _ => False) W5 W ∧ Below n0 w W)
    (fun cd pre W => (cd = .ret ∧ (∃ pre' x, pre = pre' ++ [x] ∧ (∀ y ∈ pre', badA ds y.t = 0) ∧ badA ds x.t ≠ 0 ∧ Boxed W (n0 + 1 + 1) 80 (badV c d (badA ds x.t)))) ∧ Below n0 w W) ?hI ?hIx ⟨by simp, KO.refl _ _, hb5⟩
    (fun x a' W => ∃ Bx, W.heap[Bx]? = some (.cells x.cs.toArray 24 (0, 0)) ∧ n0 + 4 ≤ Bx ∧ a' = { tmps := #[.slice od ds.length kd, .agg #[.string r.head.rel, .slice o0 r.head.l.length k0, .slice o1 r.body.length k1, .int .i64 r.line], .pointer (some ⟨n0, 0, none⟩), .pointer (some ⟨n0 + 1, 0, none⟩), .pointer (some ⟨n0 + 1 + 1, 0, none⟩), .pointer (some ⟨Bx, 0, none⟩), undef, undef, .agg #[.string r.head.rel, .slice o0 r.head.l.length k0, .slice o1 r.body.length k1, .int .i64 r.line], .func (.func 126) #[] #[.pointer (some ⟨n0 + 3, 0, none⟩)], .agg x.cs.toArray, undef, undef, undef, undef, undef, undef, undef, undef, undef, undef, undef, undef, undef, undef, undef, undef, undef, undef, undef, undef, undef], defers := [] })
    ?hAx ?assign ?body ?done ?stop
  case hKb =>
    intro W l o o' hl ho hc _
    exact ⟨by simp, fun i x hi hx _ => (World.putObj_heap_other (by rintro rfl; rw [ho] at hi; cases hi; rw [hc] at hx; cases hx)).trans hi, fun _ h => h.elim, fun _ _ h => h.elim⟩
  case hI =>
    rintro pre A B row ⟨h1, h2, h3⟩ hg hr
    refine ⟨h1, h2.trans ⟨hg.size, fun i o ho hc _ => (hg.block i (Array.getElem?_eq_some_iff.1 ho).1 (fun e => ?_)).trans ho, fun _ h => h.elim, fun _ _ h => h.elim⟩, ownFrom_below (β := Unit) (by rw [hn0]; exact Nat.le_refl _) (by omega) () A B row h3 hg hr⟩
    obtain ⟨_, o', ho', hc'⟩ := hr _ e.symm
    rw [ho] at ho'
    cases ho'
    rw [hc] at hc'
    cases hc'
  case hIx =>
    rintro cd pre A B row ⟨⟨h0, pre', x, h1, h2, h3, h4⟩, h5⟩ hg hr
    exact ⟨⟨h0, pre', x, h1, h2, h3, boxed_own (n0 + 1 + 1) 80 (fun (_ : Unit) => badV c d (badA ds x.t)) () A B row h4 hg (fun r e => (hr r e).2)⟩, ownFrom_below (β := Unit) (by rw [hn0]; exact Nat.le_refl _) (by omega) () A B row h5 hg hr⟩
  case hAx =>
    rintro x a' _ A B row ⟨Bx, h1, h2, h3⟩ hg hr
    refine ⟨Bx, (hg.block Bx (Array.getElem?_eq_some_iff.1 h1).1 (fun e => ?_)).trans h1, h2, h3⟩
    obtain ⟨_, o', ho', hc'⟩ := hr _ e.symm
    rw [h1] at ho'
    cases ho'
    cases hc'
  case assign =>
    rintro lp pre ⟨t', cs', ok', gd'⟩ W K ⟨h1, h2, h3⟩ hK
    obtain ⟨p', q', rfl, _⟩ := ok'.look
    have hb1 := (Below.refl W.heap.size W).alloc (Nat.le_refl _) (.cells #[.string t'.rel, .slice p' t'.l.length q'] 24)
    have hko : KO (fun _ _ => False) W (W.alloc (.cells #[.string t'.rel, .slice p' t'.l.length q'] 24)) := KO.of_below (fun _ _ _ _ _ h => h) (fun _ h => h.elim) hb1
    have HK := Lib.hid (hK _ _ ((KeepsOthers.alloc W _).from _) hko ⟨h1, h2.trans hko, h3.trans (hb1.mono (by have := h3.size; omega))⟩ ⟨W.heap.size, World.alloc_heap_new W _, by have := h2.size; omega, rfl⟩)
    clear hK h1 h2 h3 hb1 hko
    simp only [Na.enc]
    gi_wp2
    exact HK.out
  case body =>
    rintro lp pre ⟨t', cs', ok', gd'⟩ a' W hlp hrec ⟨h1, h2, h3⟩ ⟨Bx, hrow, hBx, rfl⟩ hlen2
    obtain ⟨p', q', rfl, _⟩ := ok'.look
    have e0 : W.cell? ⟨Bx, 0, none⟩ = some (.string t'.rel) := by unfold World.cell?; rw [hrow]; rfl
    have e1 : W.cell? ⟨Bx, 1, none⟩ = some (.slice p' t'.l.length q') := by unfold World.cell?; rw [hrow]; rfl
    have hBl : Bx < W.heap.size := (Array.getElem?_eq_some_iff.1 hrow).1
    have bdW : Boxed W n0 28 (.slice od ds.length kd) := h2.same _ _ bd5 rfl id
    have beW : Boxed W (n0 + 1 + 1) 80 .nilIface := h2.same _ _ be5 rfl id
    have hdW := bdW.cell
    have hdl := bdW.lt
    have hWs := h2.size
    have HF := Lib.hid (find_c t'.rel n₀ ds (.slice od ds.length kd) W (SlOf.decl HD.out (h3.mono (by omega)) (Nat.le_refl _)) (by omega))
    have H1 := Lib.hid h1
    have H2 := Lib.hid h2
    have H3 := Lib.hid h3
    have Hbe := Lib.hid beW
    clear h1 h2 h3 hrow beW bdW
    gi_wp2_with fail
    refine ⟨trivial, (CallsIn.inRound lp (callsIn_wide.2 HF.out)).mono ?_⟩
    rintro e W3 ⟨rfl, b3⟩
    have B3 := Lib.hid (H3.out.trans (b3.mono (by omega)))
    have be3 : Boxed W3 (n0 + 1 + 1) 80 .nilIface := (b3.block _ Hbe.out.lt).trans Hbe.out
    have hec := be3.cell
    have hef := be3.frozen
    have hs3 := b3.size
    have hk3 : Hid (KeepsOthers W W3) := Lib.hid ⟨b3.size, fun i _ hi _ => (b3.block i (Array.getElem?_eq_some_iff.1 hi).1).trans hi⟩
    have hko : Hid (KO (fun _ _ => False) W W3) := Lib.hid (KO.of_below (fun _ _ _ _ _ h => h) (fun _ h => h.elim) b3)
    have hbox := fun (o : Nat) => b3.cell (p := ⟨Bx, o, none⟩) hBl
    have e0' := (hbox 0).trans e0
    have e1' := (hbox 1).trans e1
    have hdW' := (b3.cell (p := ⟨n0, 0, none⟩) hdl).trans hdW
    have hno := (HE.out.below (B3.out.mono (by omega))).no
    have har := (HE.out.below (B3.out.mono (by omega))).ar
    have Hbe3 := Lib.hid be3
    unfold errV at hno har
    clear hbox b3 be3 e0 e1 hdW
    cases hf : findY t'.rel ds with
    | none =>
      have Hq : Hid (badA ds t' = 1) := Lib.hid (by unfold badA; rw [hf])
      clear hf har
      unfold findV
      gi_wp2
      refine ⟨(hk3.out.trans (KeepsOthers.setCell _ _ _)).from _, ⟨rfl, pre, _, rfl, H1.out, ?_, ?_⟩, B3.out.setCell (p := ⟨n0 + 1 + 1, 0, none⟩) (by show n0 ≤ n0 + 1 + 1; omega) _⟩
      · show badA ds t' ≠ 0
        rw [Hq.out]
        decide
      · show Boxed _ _ _ (badV c d (badA ds t'))
        rw [Hq.out]
        exact Hbe3.out.set _
    | some i =>
      obtain ⟨dd, hi, _⟩ := findY_some hf
      have hil : i < ds.length := (List.getElem?_eq_some_iff.1 hi).1
      have hil' : (i : Int) < (ds.length : Int) := by omega
      have hi0 : (0 : Int) ≤ (i : Int) := by omega
      obtain ⟨b, p3, q3, p4, q4, rfl, hbb, Hc3, hca⟩ := de_in SD (B3.out.mono (by omega)) hi
      obtain ⟨f0, f1, f2, f3, f4, f5⟩ := hca.n6
      have hbl : (b.add (i * 6)).block < W3.heap.size := by rw [addBlock]; omega
      have Hq0 : Hid (badA ds t' = if dd.types.length = t'.l.length then 0 else 2) := Lib.hid (by unfold badA; rw [hf]; simp only [hi])
      clear hf hno hi hca Hc3
      unfold findV
      by_cases hlen3 : dd.types.length = t'.l.length
      · have Hq : Hid (badA ds t' = 0) := Lib.hid (by rw [Hq0.out, if_pos hlen3])
        have hne : ((dd.types.length : Int) != (t'.l.length : Int)) = false := by simp [hlen3]
        gi_wp2_with fail
        refine region_quiet_round (by kernel_rfl) (by kernel_rfl) (fun ⟨_, _, h⟩ => h) (by kernel_rfl) ?_
        repeat (go_big_quiet_step (fail))
        refine wpQuiet_nil ?_
        intro _ hw'
        obtain ⟨nq, hw''⟩ := hw'
        subst hw''
        gi_wp2
        exact ⟨keepsFrom_drewN (hk3.out.from _), koF_drewN hko.out, fun x hx => (List.mem_append.1 hx).elim (H1.out x) (fun hx => by rw [List.mem_singleton.1 hx]; exact Hq.out), koF_drewN (H2.out.trans hko.out), below_drewN B3.out⟩
      · have Hq : Hid (badA ds t' = 2) := Lib.hid (by rw [Hq0.out, if_neg hlen3])
        have hne : ((dd.types.length : Int) != (t'.l.length : Int)) = true := by rw [bne_iff_ne]; intro h; exact hlen3 (by omega)
        gi_wp2_with fail
        refine region_quiet_round (by kernel_rfl) (by kernel_rfl) (fun ⟨_, _, h⟩ => h) (by kernel_rfl) ?_
        repeat (go_big_quiet_step (fail))
        refine wpQuiet_nil ?_
        intro _ hw'
        obtain ⟨nq, hw''⟩ := hw'
        subst hw''
        gi_wp2
        refine ⟨(KeepsOthers.trans (⟨hk3.out.size, hk3.out.same⟩ : KeepsOthers W (W3.drewN nq)) (KeepsOthers.setCell _ _ _)).from _, ⟨rfl, pre, _, rfl, H1.out, ?_, ?_⟩, (below_drewN B3.out).setCell (p := ⟨n0 + 1 + 1, 0, none⟩) (by show n0 ≤ n0 + 1 + 1; omega) _⟩
        · show badA ds t' ≠ 0
          rw [Hq.out]
          decide
        · show Boxed _ _ _ (badV c d (badA ds t'))
          rw [Hq.out]
          exact Boxed.set _ (show Boxed (W3.drewN nq) (n0 + 1 + 1) 80 .nilIface from Hbe3.out)
  case done =>
    rintro D ys W hD hys ⟨h1, h2, h3⟩ hK
    have hall : chkA ds (atomsR r) = 0 := chkA_all fun x hx => by
      rw [← hys] at hx
      obtain ⟨y, hy, rfl⟩ := List.mem_map.1 hx
      exact h1 y hy
    have beW : Boxed W (n0 + 1 + 1) 80 .nilIface := h2.same _ _ be5 rfl id
    have hec := beW.cell
    have hef := beW.frozen
    have hel := beW.lt
    have hne : n0 + 1 + 1 ≠ D := by omega
    have Hd := Lib.hid hK
    have H3 := Lib.hid h3
    have Hall := Lib.hid hall
    have Hbe := Lib.hid beW
    clear h1 h2 h3 hK hall beW
    gi_wp2
    have hd2 : (W.setCell ⟨n0 + 1 + 1, 0, none⟩ .nilIface).heap[D]? = some (.deferred (some [])) := (Below.heap_setCell W ⟨n0 + 1 + 1, 0, none⟩ .nilIface D (fun e => hne e.symm)).trans Hd.out
    have Hbs := Lib.hid (Boxed.set .nilIface Hbe.out)
    have hsz : D < (W.setCell ⟨n0 + 1 + 1, 0, none⟩ .nilIface).heap.size := (Array.getElem?_eq_some_iff.1 hd2).1
    refine ⟨by simp, .inl ⟨_, _, rfl, run_takeDeferred hd2, ?_⟩⟩
    have hbx : Boxed ((W.setCell ⟨n0 + 1 + 1, 0, none⟩ .nilIface).putObj D (.deferred none)) (n0 + 1 + 1) 80 .nilIface := (World.putObj_heap_other hne).trans Hbs.out
    refine ⟨_, results_cell1 rfl _ _ (n0 + 1 + 1) .nilIface rfl (loadVar_err hbx.cell), ?_, ?_⟩
    · rw [Hall.out]
      rfl
    · have B6 := H3.out.setCell (p := ⟨n0 + 1 + 1, 0, none⟩) (by show n0 ≤ n0 + 1 + 1; omega) .nilIface
      rw [hn0]
      exact ⟨B6.os, B6.tape, B6.output, by simpa using B6.size, fun i hi => (World.putObj_heap_other (by omega)).trans (B6.block i hi)⟩
  case stop =>
    rintro D cd pre W hD ⟨r1, hr1⟩ ⟨⟨rfl, pre', x, rfl, hg, hbad, hbx⟩, h5⟩ hK
    have hall : chkA ds (atomsR r) = badA ds x.t := by
      rw [← hr1, List.map_append, List.map_cons, List.map_nil, List.append_assoc]
      exact chkA_first hbad fun t ht => by
        obtain ⟨y, hy, rfl⟩ := List.mem_map.1 ht
        exact hg y hy
    have hne : n0 + 1 + 1 ≠ D := by omega
    have Hd := Lib.hid hK
    have H5 := Lib.hid h5
    have Hall := Lib.hid hall
    have Hbx := Lib.hid hbx
    clear h5 hK hall hbx hg hbad hr1
    gi_wp2
    refine ⟨by simp, .inl ⟨_, _, rfl, run_takeDeferred Hd.out, ?_⟩⟩
    have hbx : Boxed (W.putObj D (.deferred none)) (n0 + 1 + 1) 80 (badV c d (badA ds x.t)) := (World.putObj_heap_other hne).trans Hbx.out
    refine ⟨_, results_cell1 rfl _ _ (n0 + 1 + 1) _ rfl (loadVar_err hbx.cell), ?_, ?_⟩
    · rw [Hall.out]
    · have B6 := H5.out
      rw [hn0]
      exact ⟨B6.os, B6.tape, B6.output, by simpa using B6.size, fun i hi => (World.putObj_heap_other (by omega)).trans (B6.block i hi)⟩
theorem checkAtoms_c (ds : List De) (v : Value) (r : Ru) (cs : List Value) (n₀ : Nat) (a b' c d : Addr) (w : World) (hd : SlOf w n₀ 6 (DeC w n₀) ds v) (hc : RuC w n₀ r cs) (hn : n₀ ≤ w.heap.size) (E : YEnv n₀ a b' c d w) :
    Calls Tryd.prog 68 #[v, .agg cs.toArray] w fun e w' => e = .returned (badV c d (chkA ds (atomsR r))) ∧ Below w.heap.size w w' := callsIn_wide.1 (checkAtoms_in ds v r cs n₀ a b' c d w hd hc hn E)
end Go.Proofs.YtfcfehflocglpaaDoor
