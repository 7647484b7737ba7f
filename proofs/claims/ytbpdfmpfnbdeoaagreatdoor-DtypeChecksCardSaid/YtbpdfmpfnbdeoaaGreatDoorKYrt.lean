/- soritesref05.known, typeOf, learn. soritesref05.learn. soritesref05.learnAtom. soritesref05.learnLit. -/
import Derived.Test.YtbpdfmpfnbdeoaaGreatDoorKYrv2
import Derived.Test.YtbpdfmpfnbdeoaaGreatDoorKAny
import Derived.Deep.RegionHeld3
namespace Go.Proofs.YtbpdfmpfnbdeoaaGreatDoor
open Go.RowKit

theorem Kp.trans {T : Nat → Prop} {a b c : World} (h : Kp T a b) (k : Kp T b c) : Kp T a c :=
  ⟨k.os.trans h.os, k.tape.trans h.tape, k.output.trans h.output, Nat.le_trans h.size k.size, fun i hi ht => (k.block i (Nat.lt_of_lt_of_le hi h.size) ht).trans (h.block i hi ht)⟩
theorem Kp.ofBelow {T : Nat → Prop} {a b : World} (h : Below a.heap.size a b) : Kp T a b := ⟨h.os, h.tape, h.output, h.size, fun i hi _ => h.block i hi⟩
theorem Kp.below {T : Nat → Prop} {a b : World} {B : Nat} (h : Kp T a b) (hB : B ≤ a.heap.size) (hT : ∀ i, i < B → ¬ T i) : Below B a b := ⟨h.os, h.tape, h.output, h.size, fun i hi => h.block i (Nat.lt_of_lt_of_le hi hB) (hT i hi)⟩
/-- What the reference knows: the names, and a row of its own with their types. -/
structure TyS (B g : Nat) (w : World) (vs : List ByteArray) (vv : Value) (ts : List Int) : Prop where
  vars : SlOf w B 1 StrC vs vv
  own : w.ownsRow B 3 1 (.slice (some ⟨g, 0, none⟩) ts.length ts.length) ts.length (ts.map (Value.int .i64))
  len : ts.length = vs.length
  base : B ≤ w.heap.size
theorem TyS.row {B g : Nat} {w : World} {vs : List ByteArray} {vv : Value} {ts : List Int} (h : TyS B g w vs vv ts) : B ≤ g ∧ g < w.heap.size := ⟨(own_at h.own).2.2.2, (own_at h.own).2.2.1⟩
theorem TyS.cell {B g : Nat} {w : World} {vs : List ByteArray} {vv : Value} {ts : List Int} (h : TyS B g w vs vv ts) {i : Nat} {v : Int} (hi : ts[i]? = some v) : w.cell? ⟨g, i, none⟩ = some (.int .i64 v) :=
  (own_at h.own).1 i _ (by rw [List.getElem?_map, hi]; rfl)
theorem TyS.kept {B g : Nat} {w w' : World} {vs : List ByteArray} {vv : Value} {ts : List Int} (h : TyS B g w vs vv ts) (hb : Below w.heap.size w w') : TyS B g w' vs vv ts :=
  ⟨SlOf.str h.vars (hb.mono h.base) (Nat.le_refl _), own_below h.own hb, h.len, Nat.le_trans h.base hb.size⟩
theorem TyS.vars' {B g : Nat} {w : World} {vs : List ByteArray} {vv : Value} {ts : List Int} (h : TyS B g w vs vv ts) : SlOf w w.heap.size 1 StrC vs vv := SlOf.str h.vars (Below.refl _ _) h.base
theorem putAt_one {xs : List Value} {i : Nat} {c : Value} (h : i < xs.length) : putAt xs i [c] = xs.set i c := by
  refine List.ext_getElem? fun j => ?_
  rw [putAt_get (by simp; omega), List.getElem?_set]
  by_cases e : i = j
  · subst e
    rw [if_pos (by simp), if_pos rfl, if_pos h]
    simp
  · rw [if_neg (by simp; omega), if_neg e]
theorem TyS.set {B g : Nat} {w : World} {vs : List ByteArray} {vv : Value} {ts : List Int} (h : TyS B g w vs vv ts) {i : Nat} (hi : i < ts.length) (k : Int) : TyS B g (w.setCell ⟨g, i, none⟩ (.int .i64 k)) vs vv (ts.set i k) ∧ Kp (fun b => b = g) w (w.setCell ⟨g, i, none⟩ (.int .i64 k)) := by
  have hp := own_put h.own (k := i) (news := [.int .i64 k]) (by simp; omega)
  rw [putAt_one (by simpa using hi), ← List.map_set] at hp
  have hg := (setC_grown (b := g) [.int .i64 k] i w).1
  have hk : Kp (fun b => b = g) w (w.setCell ⟨g, i, none⟩ (.int .i64 k)) := (Kp.refl _ _).grown hg (fun b e => by cases e; exact .inr rfl)
  have hr := h.row
  refine ⟨⟨SlOf.str h.vars (hk.below h.base fun i hi e => by omega) (Nat.le_refl _), by rw [List.length_set]; exact hp, by rw [List.length_set]; exact h.len, Nat.le_trans h.base hk.size⟩, hk⟩
theorem tm_in {n₀ : Nat} {w wr : World} {l : List Tm} {o : Option Addr} {k : Nat} {t : Tm} (S : Hid (SlIn w n₀ 4 (TmC w n₀) l o)) (hB : Below n₀ w wr) (ht : l[k]? = some t) :
    ∃ a o' cap', o = some a ∧ a.block < n₀ ∧ Hid (TmC wr n₀ t [.int .i64 t.op, .string t.s, .int .i64 t.n, .slice o' t.l.length cap']) ∧
      wr.cell? (a.add (k * 4)) = some (.int .i64 t.op) ∧ wr.cell? ⟨(a.add (k * 4)).block, (a.add (k * 4)).off + 1, none⟩ = some (.string t.s) ∧ wr.cell? ⟨(a.add (k * 4)).block, (a.add (k * 4)).off + 2, none⟩ = some (.int .i64 t.n) ∧ wr.cell? ⟨(a.add (k * 4)).block, (a.add (k * 4)).off + 3, none⟩ = some (.slice o' t.l.length cap') := by
  obtain ⟨a, cs, rfl, ha, _, h1, h2⟩ := S.out k t ht
  obtain ⟨o', cap', rfl, _⟩ := h1.look
  exact ⟨a, o', cap', rfl, ha, Lib.hid (h1.under hB), (h2.below ha hB).four⟩
set_option maxRecDepth 100000 in
set_option maxHeartbeats 4000000 in
theorem rtypeOf_c (t : Tm) (w : World) (cs : List Value) (B g : Nat) (vs : List ByteArray) (vv : Value) (ts : List Int) (hc : TmC w B t cs) (hT : TyS B g w vs vv ts) (hv : t.op = 1 → t.s ∈ vs) :
    Calls Tryz.prog 100 #[.agg cs.toArray, vv, .slice (some ⟨g, 0, none⟩) ts.length ts.length] w fun e w' => e = .returned (.int .i64 (tyE vs ts t)) ∧ Below w.heap.size w w' := by
  have HV1 : Hid (t.op = 1 → ∃ (i : Nat) (v : Int), placeV vs t.s = i ∧ ts[i]? = some v ∧ tyE vs ts t = v) := Lib.hid fun h => by
    obtain ⟨i, v, h1, _, h3, h4⟩ := typed_get hT.len (hv h)
    exact ⟨i, v, h1, h3, (tyE_var h).trans h4⟩
  have HV2 : Hid (t.op ≠ 1 → (t.op = 3 → tyE vs ts t = 2) ∧ (t.op ≠ 3 → (t.op = 4 → tyE vs ts t = 0) ∧ (t.op ≠ 4 → tyE vs ts t = 1))) := Lib.hid fun h => by
    unfold tyE
    rw [if_neg h]
    refine ⟨fun h3 => if_pos h3, fun h3 => ?_⟩
    rw [if_neg h3]
    exact ⟨fun h4 => if_pos h4, fun h4 => if_neg h4⟩
  obtain ⟨op, s, nn, l⟩ := t
  obtain ⟨p1, q1, rfl, _, hzs, _, _⟩ := hc.look
  simp only [Tm.op_mk, Tm.s_mk, Tm.n_mk, Tm.l_mk] at hv HV1 HV2 ⊢
  have HB0 : Hid (∀ (x : Obj), Below w.heap.size w (w.alloc x)) := Lib.hid fun x => (Below.refl _ _).alloc (Nat.le_refl _) _
  obtain ⟨X, hX⟩ : ∃ X, tyE vs ts (.mk op s nn l) = X := ⟨_, rfl⟩
  rw [hX] at HV1 HV2 ⊢
  have HT := Lib.hid hT
  clear hc hX hT hv
  by_cases h1 : op = 1
  · obtain ⟨i, v, hp, hi, hX⟩ := HV1.out h1
    subst hX
    have HP : Hid (∀ (W : World), Below w.heap.size w W → Calls Tryz.prog 83 #[vv, .string s] W fun e w' => e = .returned (.int .i64 i) ∧ Below W.heap.size W w') := Lib.hid fun W hb => by
      have := place1_c vs vv s W (HT.out.kept hb).vars'
      rw [hp] at this
      exact this
    have HC := Lib.hid (fun (W : World) (hb : Below w.heap.size w W) => (HT.out.kept hb).cell hi)
    have hlt : i < ts.length := (List.getElem?_eq_some_iff.1 hi).1
    have hlt' : (i : Int) < (ts.length : Int) := by omega
    have h0 : (0 : Int) ≤ (i : Int) := by omega
    obtain ⟨ov, kv, rfl, _⟩ := SlOf.uni HT.out.vars
    clear HV1 HV2 hp hi
    subst h1
    go_enter Tryz.func100, Tryz.ntmps100
    go_wp2_with fail
    refine (HP.out _ (HB0.out _)).mono ?_
    rintro e w1 ⟨rfl, b1⟩
    have B1 := Lib.hid ((HB0.out _).trans (b1.mono (by simp)))
    have c0 := HC.out _ B1.out
    clear b1
    go_wp2
    go_ret
    exact ⟨rfl, B1.out⟩
  · have hb1 : (op == 1) = false := by simpa using h1
    have Hz := Lib.hid (HV2.out h1)
    clear HV1 HV2
    by_cases h3 : op = 3
    · have HZ : Hid (X = 2) := Lib.hid (Hz.out.1 h3)
      subst h3
      clear Hz
      go_enter Tryz.func100, Tryz.ntmps100
      go_wp2
      go_ret
      exact ⟨by rw [HZ.out]; rfl, HB0.out _⟩
    · have hb3 : (op == 3) = false := by simpa using h3
      by_cases h4 : op = 4
      · have HZ : Hid (X = 0) := Lib.hid ((Hz.out.2 h3).1 h4)
        subst h4
        clear Hz
        go_enter Tryz.func100, Tryz.ntmps100
        go_wp2
        go_ret
        exact ⟨by rw [HZ.out]; rfl, HB0.out _⟩
      · have hb4 : (op == 4) = false := by simpa using h4
        have HZ : Hid (X = 1) := Lib.hid ((Hz.out.2 h3).2 h4)
        clear Hz
        go_enter Tryz.func100, Tryz.ntmps100
        go_wp2
        go_ret
        exact ⟨by rw [HZ.out]; rfl, HB0.out _⟩
theorem bad_cases (ds : List De) (a : Am) : (findY a.rel ds = none ∧ badA ds a = 1) ∨ ∃ (i : Nat) (d : De), findY a.rel ds = some i ∧ ds[i]? = some d ∧ badA ds a = if d.types.length = a.l.length then 0 else 2 := by
  unfold badA
  cases hf : findY a.rel ds with
  | none => exact .inl ⟨rfl, rfl⟩
  | some i =>
    obtain ⟨d, hd⟩ : ∃ d, ds[i]? = some d := by
      have hx : ∀ (l : List De) (k j : Nat), ixY a.rel k l = (j : Int) → k ≤ j ∧ j < k + l.length := by
        intro l
        induction l with
        | nil => intro k j h; unfold ixY at h; omega
        | cons x l ih =>
          intro k j h
          unfold ixY at h
          split at h
          · simp; omega
          · have := ih (k + 1) j h
            simp; omega
      unfold findY at hf
      split at hf
      · cases hf
      · rename_i h0
        have e : ixY a.rel 0 ds = (i : Int) := by
          have := Option.some.inj hf
          omega
        have := hx ds 0 i e
        exact ⟨ds[i]'(by omega), List.getElem?_eq_getElem (by omega)⟩
    exact .inr ⟨i, d, rfl, hd, by simp only [hd]⟩
set_option maxRecDepth 100000 in
set_option maxHeartbeats 4000000 in
theorem rknown_c (ds : List De) (v : Value) (t : Am) (w : World) (cs : List Value) (hd : SlOf w w.heap.size 6 (DeC w w.heap.size) ds v) (hc : AmC w w.heap.size t cs) :
    Calls Tryz.prog 64 #[v, .agg cs.toArray] w fun e w' => e = .returned (.int .i64 (atE (badA ds t))) ∧ Below w.heap.size w w' := by
  have HB0 : Hid (∀ (x : Obj), Below w.heap.size w (w.alloc x)) := Lib.hid fun x => (Below.refl _ _).alloc (Nat.le_refl _) _
  have HF := Lib.hid (fun (W : World) (hb : Below w.heap.size w W) => find5_c t.rel ds v W (SlOf.decl hd hb hb.size))
  have hbad := bad_cases ds t
  obtain ⟨rel, l⟩ := t
  obtain ⟨v0, rfl, hzr, t1⟩ := hc
  simp only at HF hbad t1 ⊢
  obtain ⟨p1, q1, rfl, hc1, hm1, _⟩ := SlOf.open t1
  obtain ⟨o1, k1, rfl, _, _, S1⟩ := SlOf.open hd
  obtain ⟨X, hX⟩ : ∃ X, badA ds ⟨rel, l⟩ = X := ⟨_, rfl⟩
  rw [hX] at hbad ⊢
  clear t1 hd hX
  rcases hbad with ⟨hf, hX⟩ | ⟨i, d, hf, hi, hX⟩
  · rw [hf] at HF
    subst hX
    unfold findV at HF
    go_enter Tryz.func64, Tryz.ntmps64
    go_wp2_with fail
    refine (HF.out _ (HB0.out _)).mono ?_
    rintro e w1 ⟨rfl, b1⟩
    have B1 := Lib.hid ((HB0.out _).trans (b1.mono (by simp)))
    clear b1
    go_wp2
    go_ret
    exact ⟨rfl, B1.out⟩
  · rw [hf] at HF
    unfold findV at HF
    have HX := Lib.hid hX
    have hil : i < ds.length := (List.getElem?_eq_some_iff.1 hi).1
    have hil' : (i : Int) < (ds.length : Int) := by omega
    have hi0 : (0 : Int) ≤ (i : Int) := by omega
    have Hi := Lib.hid hi
    clear hX hi hf
    go_enter Tryz.func64, Tryz.ntmps64
    go_wp2_with fail
    refine (HF.out _ (HB0.out _)).mono ?_
    rintro e w1 ⟨rfl, b1⟩
    have B1 := Lib.hid ((HB0.out _).trans (b1.mono (by simp)))
    have x1 : w1.cell? ⟨w.heap.size, 1, none⟩ = some (.slice p1 l.length q1) := (b1.cell (p := ⟨w.heap.size, 1, none⟩) (by simp)).trans (by go_simp)
    have hz1 : w.heap.size < w1.heap.size := by have := b1.size; simp at this; omega
    obtain ⟨a, p0, q0, p2, q2, rfl, ha, Hc, c0, c1, c2, c3, c4, c5⟩ := de_at S1 B1.out Hi.out
    have hal : (a.add (i * 6)).block < w1.heap.size := by rw [addBlock]; omega
    clear b1 c0 c1 c3 c4 c5
    cases hne : ((d.types.length : Int) != (l.length : Int)) with
    | true =>
      have hX : X = 2 := by rw [HX.out, if_neg (by simp at hne; omega)]
      subst hX
      go_wp2_with fail
      go_quiet (fail)
      go_wp2
      go_ret
      exact ⟨rfl, below_drewN B1.out⟩
    | false =>
      have hX : X = 0 := by rw [HX.out, if_pos (by simp at hne; omega)]
      subst hX
      go_wp2_with fail
      go_quiet (fail)
      go_wp2
      go_ret
      exact ⟨rfl, below_drewN B1.out⟩
end Go.Proofs.YtbpdfmpfnbdeoaaGreatDoor
namespace Go.Proofs.YtbpdfmpfnbdeoaaGreatDoor
open Go.RowKit

/-- What a function that learns leaves: more is known, or all that N asks. -/
def LrnR (J : ByteArray → Int → Prop) (vs : List ByteArray) (N : List Int → Prop) (ts : List Int) (B g : Nat) (vv : Value) (w : World) (e : Ending) (w' : World) : Prop :=
  ∃ (ts' : List Int) (m : Bool), e = .returned (.bool m) ∧ Lrn J vs N ts ts' m ∧ TyS B g w' vs vv ts' ∧ Kp (fun b => b = g) w w'
theorem takes_all {α : Type} {l : List α} {k : Nat} {x : α} {P : α → Prop} (h : l[k]? = some x) (h1 : ∀ y ∈ l.take k, P y) (h2 : P x) : ∀ y ∈ l.take (k + 1), P y := fun y hy => by
  rw [List.take_add_one, h] at hy
  rcases List.mem_append.1 hy with hy | hy
  · exact h1 y hy
  · rw [show y = x by simpa using hy]; exact h2
set_option maxRecDepth 100000 in
set_option maxHeartbeats 4000000 in
theorem rlearn_c (J : ByteArray → Int → Prop) (vs : List ByteArray) (vv : Value) (B g : Nat) : ∀ (n : Nat) (t : Tm) (k : Int) (ts : List Int) (w : World) (cs : List Value), SizeOf.sizeOf t ≤ n → TmC w B t cs → TyS B g w vs vv ts →
    (∀ u ∈ subT t, u.op = 1 → u.s ∈ vs ∧ u.l = []) → (t.op = 1 → k ≠ 0 → J t.s k) → (∀ u ∈ subTs t.l, u.op = 1 → J u.s 1) →
    Calls Tryz.prog 99 #[.agg cs.toArray, .int .i64 k, vv, .slice (some ⟨g, 0, none⟩) ts.length ts.length] w (LrnR J vs (fun ts => Full (knP vs ts) t k) ts B g vv w) := by
  intro n
  induction n with
  | zero =>
    intro t k ts w cs hs
    have : 0 < SizeOf.sizeOf t := by obtain ⟨o, s, n, l⟩ := t; simp only [Tm.mk.sizeOf_spec]; omega
    omega
  | succ n ih =>
    intro t k ts w cs hs hc hT hv hJ hJ2
    have IH := Lib.hid (fun (x : Tm) (hx : x ∈ t.l) (ts : List Int) (W : World) (cs : List Value) (hc : TmC W B x cs) (hT : TyS B g W vs vv ts) => ih x 1 ts W cs (by have := size_part hx; omega) hc hT (fun u hu => hv u (subT_part hx u hu)) (fun h1 _ => hJ2 x (mem_subTs.2 ⟨x, hx, mem_self⟩) h1) (fun u hu => hJ2 u (mem_subTs.2 ⟨x, hx, mem_subT.2 (.inr hu)⟩)))
    have HV1 : Hid (t.op = 1 → t.l = [] ∧ (k ≠ 0 → J t.s k) ∧ ∃ (i : Nat) (v : Int), placeV vs t.s = i ∧ vs[i]? = some t.s ∧ ts[i]? = some v ∧ typedV vs ts t.s = v) := Lib.hid fun h => by
      obtain ⟨hm, hl⟩ := hv t mem_self h
      obtain ⟨i, v, h1, h2, h3, h4⟩ := typed_get hT.len hm
      exact ⟨hl, hJ h, i, v, h1, h2, h3, h4⟩
    have HF : Hid (t.op ≠ 1 → ∀ ts, (∀ c ∈ t.l, Full (knP vs ts) c 1) → Full (knP vs ts) t k) := Lib.hid fun h ts hc => ⟨fun e => absurd e h, fun u hu => by
      obtain ⟨c, hm, hu⟩ := mem_subTs.1 hu
      rcases mem_subT.1 hu with rfl | hu
      · exact (hc _ hm).1
      · exact (hc _ hm).2 u hu⟩
    have HF1 : Hid (t.op = 1 → t.l = [] → ∀ ts, (k = 0 ∨ typedV vs ts t.s ≠ 0) → Full (knP vs ts) t k) := Lib.hid fun h hl ts h1 => ⟨fun _ => h1, fun u hu => by rw [hl] at hu; simp [subTs] at hu⟩
    have HT := Lib.hid hT
    have hrow := hT.row
    have hbase := hT.base
    clear ih hv hJ hJ2 hs hT
    obtain ⟨op, s, nn, l⟩ := t
    obtain ⟨p1, q1, rfl, _, hzs, _, t1⟩ := hc.look
    simp only [Tm.op_mk, Tm.s_mk, Tm.n_mk, Tm.l_mk] at t1 HV1 HF HF1 IH ⊢
    have HB0 : Hid (∀ (x : Obj), Below w.heap.size w (w.alloc x)) := Lib.hid fun x => (Below.refl _ _).alloc (Nat.le_refl _) _
    obtain ⟨o1, cap1, e1, hc1, hm1, S1⟩ := SlOf.open t1
    cases e1
    clear hc t1
    by_cases h1 : op = 1
    · obtain ⟨hl, hJ, i, v, hp, hvi, hi, hty⟩ := HV1.out h1
      have hF1 := HF1.out h1 hl
      have HP : Hid (∀ (W : World), Below w.heap.size w W → Calls Tryz.prog 83 #[vv, .string s] W fun e w' => e = .returned (.int .i64 i) ∧ Below W.heap.size W w') := Lib.hid fun W hb => by
        have := place1_c vs vv s W (HT.out.kept hb).vars'
        rw [hp] at this
        exact this
      have HC := Lib.hid (fun (W : World) (hb : Below w.heap.size w W) => (HT.out.kept hb).cell hi)
      have HFz := Lib.hid (fun (W : World) (hb : Below w.heap.size w W) => (own_at (HT.out.kept hb).own).2.1 i)
      have hlt : i < ts.length := (List.getElem?_eq_some_iff.1 hi).1
      have hlt' : (i : Int) < (ts.length : Int) := by omega
      have h0 : (0 : Int) ≤ (i : Int) := by omega
      have HJ := Lib.hid hJ
      have HF2 := Lib.hid hF1
      have Hty := Lib.hid hty
      have Hvi := Lib.hid hvi
      have Hi := Lib.hid hi
      obtain ⟨ov, kv, rfl, _⟩ := SlOf.uni HT.out.vars
      clear HV1 HF HF1 hp hi hJ hF1 hty hvi IH S1
      subst h1
      by_cases hk : k = 0
      · have HN : Hid (Full (knP vs ts) (.mk 1 s nn l) k) := Lib.hid (HF2.out ts (.inl hk))
        subst hk
        go_enter Tryz.func99, Tryz.ntmps99
        go_wp2_with fail
        refine (HP.out _ (HB0.out _)).mono ?_
        rintro e w1 ⟨rfl, b1⟩
        have B1 := Lib.hid ((HB0.out _).trans (b1.mono (by simp)))
        clear b1
        go_wp2
        go_ret
        exact ⟨ts, false, rfl, .none HN.out, HT.out.kept B1.out, .ofBelow B1.out⟩
      · have hk0 : (k == 0) = false := by simpa using hk
        by_cases hv0 : v = 0
        · have HL : Hid (∀ N, Lrn J vs N ts (ts.set i k) true) := Lib.hid fun N => .set Hvi.out (by rw [← hv0]; exact Hi.out) hk (HJ.out hk)
          subst hv0
          go_enter Tryz.func99, Tryz.ntmps99
          go_wp2_with fail
          refine (HP.out _ (HB0.out _)).mono ?_
          rintro e w1 ⟨rfl, b1⟩
          have B1 := Lib.hid ((HB0.out _).trans (b1.mono (by simp)))
          have c0 := HC.out _ B1.out
          have f0 := HFz.out _ B1.out
          have hgl : g < w1.heap.size := by have := B1.out.size; omega
          have HSt := Lib.hid ((HT.out.kept B1.out).set hlt k)
          clear b1
          go_wp2
          go_ret
          exact ⟨ts.set i k, true, rfl, HL.out _, HSt.out.1, (Kp.ofBelow B1.out).trans HSt.out.2⟩
        · have hv1 : (v != 0) = true := by simpa using hv0
          have HN : Hid (Full (knP vs ts) (.mk 1 s nn l) k) := Lib.hid (HF2.out ts (.inr (by rw [Hty.out]; exact hv0)))
          go_enter Tryz.func99, Tryz.ntmps99
          go_wp2_with fail
          refine (HP.out _ (HB0.out _)).mono ?_
          rintro e w1 ⟨rfl, b1⟩
          have B1 := Lib.hid ((HB0.out _).trans (b1.mono (by simp)))
          have c0 := HC.out _ B1.out
          have hgl : g < w1.heap.size := by have := B1.out.size; omega
          clear b1
          go_wp2
          go_ret
          exact ⟨ts, false, rfl, .none HN.out, HT.out.kept B1.out, .ofBelow B1.out⟩
    · have hb1 : (op == 1) = false := by simpa using h1
      have HFa := Lib.hid (HF.out h1)
      obtain ⟨ov, kv, rfl, _⟩ := SlOf.uni HT.out.vars
      clear HV1 HF HF1
      go_enter Tryz.func99, Tryz.ntmps99
      go_wp2
      go_loopw [10, 11] (fun mv i wr => ∃ (j : Nat) (ts' : List Int) (m : Bool), j ≤ l.length ∧ i = .int .i64 j ∧ mv = .bool m ∧ Lrn J vs (fun ts => ∀ c ∈ l.take j, Full (knP vs ts) c 1) ts ts' m ∧ TyS B g wr vs (.slice ov vs.length kv) ts' ∧ Kp (fun b => b = g) (w.alloc (.cells #[.int .i64 op, .string s, .int .i64 nn, .slice p1 l.length q1] 51)) wr) (fun _ i _ => l.length - (intOf i).toNat)
      case atStart => exact ⟨0, ts, false, Nat.zero_le _, rfl, rfl, .none (by simp), HT.out.kept (HB0.out _), Kp.refl _ _⟩
      case round =>
        obtain ⟨j, ts', m, hj, rfl, rfl, hL, hTr, hK⟩ := hrel
        have hB : Below B w wr := ((HB0.out _).mono hbase).trans (hK.below (by simp; omega) fun i hi e => by omega)
        have hKs := hK.size
        simp only [World.size_alloc] at hKs
        have hz0 : w.heap.size < wr.heap.size := by omega
        have x0 : wr.cell? ⟨w.heap.size, 3, none⟩ = some (.slice p1 l.length q1) := by
          have q := (hK.block w.heap.size (by simp) (by omega)).trans (World.alloc_heap_new w _)
          exact row_cells q 3
        have hlen : ts'.length = ts.length := hL.len
        have HL := Lib.hid hL
        have HTr := Lib.hid hTr
        have HK := Lib.hid hK
        clear hL hTr hK
        by_cases hlt : j < l.length
        · have hlt3 : (j : Int) < (l.length : Int) := by omega
          obtain ⟨t, ht⟩ : ∃ t, l[j]? = some t := ⟨l[j], List.getElem?_eq_getElem hlt⟩
          obtain ⟨a, p3, q3, rfl, ha, Hc, c0, c1, c2, c3⟩ := tm_in S1 hB ht
          have hal : (a.add (j * 4)).block < wr.heap.size := by rw [addBlock]; omega
          have HC := IH.out t (List.mem_of_getElem? ht) ts' wr _ Hc.out HTr.out
          rw [hlen] at HC
          have HC := Lib.hid HC
          have Ht := Lib.hid ht
          clear ht hB
          go_wp2_with fail
          refine HC.out.mono ?_
          rintro e3 w3 ⟨ts3, m3, rfl, hL3, hT3, hK3⟩
          have hx : Lrn J vs (fun ts => ∀ c ∈ l.take (j + 1), Full (knP vs ts) c 1) ts ts3 (m || m3) := (HL.out.comp hL3).mono fun h => takes_all Ht.out h.1 h.2
          have HL3 := Lib.hid hx
          have HT3 := Lib.hid hT3
          have HK3 := Lib.hid (HK.out.trans hK3)
          clear hL3 hT3 hK3 HC hx
          cases m with
          | true =>
            go_wp2
            go_roundw
            case rel =>
              exact ⟨j + 1, ts3, true, hlt, by go_num, rfl, HL3.out, HT3.out, HK3.out⟩
            case measure => simp [intOf]; omega
          | false =>
            go_wp2
            go_roundw
            case rel => exact ⟨j + 1, ts3, m3, hlt, by go_num, rfl, HL3.out, HT3.out, HK3.out⟩
            case measure => simp [intOf]; omega
        · have hlt3 : ¬ (j : Int) < (l.length : Int) := by omega
          obtain rfl : j = l.length := by omega
          go_wp2
          go_ret
          refine ⟨ts', m, rfl, HL.out.mono fun h => HFa.out _ (by rw [List.take_of_length_le (Nat.le_refl _)] at h; exact h), HTr.out, ?_⟩
          exact (Kp.ofBelow (HB0.out _)).trans HK.out
end Go.Proofs.YtbpdfmpfnbdeoaaGreatDoor
namespace Go.Proofs.YtbpdfmpfnbdeoaaGreatDoor
open Go.RowKit

theorem int_in {n₀ : Nat} {w wr : World} {l : List Int} {o : Option Addr} {k : Nat} {t : Int} (S : Hid (SlIn w n₀ 1 IntC l o)) (hB : Below n₀ w wr) (ht : l[k]? = some t) :
    ∃ a, o = some a ∧ a.block < n₀ ∧ I64 t ∧ wr.cell? (a.add k) = some (.int .i64 t) := by
  obtain ⟨a, cs, rfl, ha, _, ⟨rfl, hz⟩, h2⟩ := S.out k t ht
  have := (h2.below ha hB).n1
  rw [Nat.mul_one] at this
  exact ⟨a, rfl, ha, hz, this⟩
/-- An atom's relation, as a checked atom has it. -/
theorem bad_zero {ds : List De} {a : Am} (h : badA ds a = 0) : ∃ (i : Nat) (d : De), findY a.rel ds = some i ∧ ds[i]? = some d ∧ d.types.length = a.l.length ∧ plc ds a = a.l.zip d.types := by
  rcases bad_cases ds a with ⟨_, h1⟩ | ⟨i, d, h1, h2, h3⟩
  · rw [h] at h1; cases h1
  · refine ⟨i, d, h1, h2, ?_, ?_⟩
    · by_cases e : d.types.length = a.l.length
      · exact e
      · rw [if_neg e] at h3; omega
    · unfold plc
      rw [h1]
      simp only [h2]
/-- All of a list of terms and types is known. -/
def AllF (vs : List ByteArray) (L : List (Tm × Int)) (ts : List Int) : Prop := ∀ x ∈ L, Full (knP vs ts) x.1 x.2
theorem AllF.step {vs : List ByteArray} {L : List (Tm × Int)} {j : Nat} {x : Tm × Int} {ts : List Int} (h : L[j]? = some x) (h1 : AllF vs (L.take j) ts) (h2 : Full (knP vs ts) x.1 x.2) : AllF vs (L.take (j + 1)) ts := takes_all h h1 h2
set_option maxRecDepth 100000 in
set_option maxHeartbeats 4000000 in
theorem rlearnAtom_c (J : ByteArray → Int → Prop) (vs : List ByteArray) (vv : Value) (B g : Nat) (ds : List De) (v : Value) (t : Am) (ts : List Int) (w : World) (cs : List Value) (hd : SlOf w B 6 (DeC w B) ds v) (hc : AmC w B t cs) (hT : TyS B g w vs vv ts) (hbd : badA ds t = 0)
    (hv : ∀ u ∈ subTs t.l, u.op = 1 → u.s ∈ vs ∧ u.l = []) (hJ : ∀ x ∈ plc ds t, x.1.op = 1 → x.2 ≠ 0 → J x.1.s x.2) (hJ2 : ∀ x ∈ t.l, ∀ u ∈ subTs x.l, u.op = 1 → J u.s 1) :
    Calls Tryz.prog 65 #[v, .agg cs.toArray, vv, .slice (some ⟨g, 0, none⟩) ts.length ts.length] w (LrnR J vs (AllF vs (plc ds t)) ts B g vv w) := by
  obtain ⟨i, d, hf, hi, hlen, hplc⟩ := bad_zero hbd
  rw [hplc] at hJ ⊢
  have HF := Lib.hid (fun (W : World) (hb : Below w.heap.size w W) => find5_c t.rel ds v W (SlOf.decl hd (hb.mono hT.base) (Nat.le_trans hT.base hb.size)))
  rw [hf] at HF
  unfold findV at HF
  have HL := Lib.hid (fun (x : Tm) (hx : x ∈ t.l) (k : Int) (hk : x.op = 1 → k ≠ 0 → J x.s k) (ts : List Int) (W : World) (cs : List Value) (hc : TmC W B x cs) (hT : TyS B g W vs vv ts) => rlearn_c J vs vv B g _ x k ts W cs (Nat.le_refl _) hc hT (fun u hu => hv u (mem_subTs.2 ⟨x, hx, hu⟩)) hk (hJ2 x hx))
  obtain ⟨rel, l⟩ := t
  obtain ⟨v0, rfl, hzr, t1⟩ := hc
  simp only at HF HL t1 hlen hJ ⊢
  have HB0 : Hid (∀ (x : Obj), Below w.heap.size w (w.alloc x)) := Lib.hid fun x => (Below.refl _ _).alloc (Nat.le_refl _) _
  obtain ⟨p1, q1, rfl, hc1, hm1, S1⟩ := SlOf.open t1
  obtain ⟨od, kd, rfl, hc2, hm2, S2⟩ := SlOf.open hd
  have HT := Lib.hid hT
  have hrow := hT.row
  have hbase := hT.base
  have HJ := Lib.hid hJ
  have Hi := Lib.hid hi
  have Hlen := Lib.hid hlen
  have hil : i < ds.length := (List.getElem?_eq_some_iff.1 hi).1
  have hil' : (i : Int) < (ds.length : Int) := by omega
  have hi0 : (0 : Int) ≤ (i : Int) := by omega
  obtain ⟨ov, kv, rfl, _⟩ := SlOf.uni HT.out.vars
  clear t1 hd hT hJ hJ2 hv hbd hplc hf hi hlen
  go_enter Tryz.func65, Tryz.ntmps65
  go_wp2_with fail
  refine (HF.out _ (HB0.out _)).mono ?_
  rintro e w1 ⟨rfl, b1⟩
  have q1' : w1.heap[w.heap.size]? = some (.cells #[.string rel, .slice p1 l.length q1] 34 (0, 0)) := (b1.block _ (by simp)).trans (World.alloc_heap_new w _)
  have B1 := Lib.hid ((HB0.out _).trans (b1.mono (by simp)))
  have Q1 := Lib.hid q1'
  have hz1 : w.heap.size < w1.heap.size := heap_lt q1'
  clear b1 q1' HF
  go_wp2
  go_loopw [11, 12] (fun mv iv wr => ∃ (j : Nat) (ts' : List Int) (m : Bool), j ≤ l.length ∧ iv = .int .i64 j ∧ mv = .bool m ∧ Lrn J vs (AllF vs ((l.zip d.types).take j)) ts ts' m ∧ TyS B g wr vs (.slice ov vs.length kv) ts' ∧ Kp (fun b => b = g) w1 wr) (fun _ iv _ => l.length - (intOf iv).toNat)
  case atStart => exact ⟨0, ts, false, Nat.zero_le _, rfl, rfl, .none (fun x hx => by simp at hx), HT.out.kept B1.out, Kp.refl _ _⟩
  case round =>
    obtain ⟨j, ts', m, hj, rfl, rfl, hL, hTr, hK⟩ := hrel
    have hB : Below B w wr := (B1.out.mono hbase).trans (hK.below (Nat.le_trans hbase B1.out.size) fun i hi e => by omega)
    have hKs := hK.size
    have qr := (hK.block w.heap.size hz1 (by omega)).trans Q1.out
    have hz0 : w.heap.size < wr.heap.size := heap_lt qr
    have x0 : wr.cell? ⟨w.heap.size, 1, none⟩ = some (.slice p1 l.length q1) := row_cells qr 1
    have hlen : ts'.length = ts.length := hL.len
    have HLr := Lib.hid hL
    have HTr := Lib.hid hTr
    have HK := Lib.hid hK
    clear hL hTr hK qr
    by_cases hlt : j < l.length
    · have hlt3 : (j : Int) < (l.length : Int) := by omega
      have hltd : j < d.types.length := by have := Hlen.out; omega
      have hltd3 : (j : Int) < (d.types.length : Int) := by omega
      have hj0 : (0 : Int) ≤ (j : Int) := by omega
      obtain ⟨t, ht⟩ : ∃ t, l[j]? = some t := ⟨l[j], List.getElem?_eq_getElem hlt⟩
      obtain ⟨k, hk⟩ : ∃ k, d.types[j]? = some k := ⟨d.types[j], List.getElem?_eq_getElem hltd⟩
      have hzip : (l.zip d.types)[j]? = some (t, k) := by rw [List.getElem?_zip_eq_some]; exact ⟨ht, hk⟩
      obtain ⟨a, p3, q3, rfl, ha, Hc, c0, c1, c2, c3⟩ := tm_in S1 hB ht
      have hal : (a.add (j * 4)).block < wr.heap.size := by rw [addBlock]; omega
      obtain ⟨b, p4, q4, p5, q5, rfl, hb, Hd, hcd⟩ := de_in S2 hB Hi.out
      have hbl : (b.add (i * 6)).block < wr.heap.size := by rw [addBlock]; omega
      have d2 := hcd.n6.2.2.1
      obtain ⟨v5, u5, e5, _, _, _, hty⟩ := Hd.out
      cases e5
      obtain ⟨o6, k6, e6, _, _, S6⟩ := SlOf.open hty
      cases e6
      obtain ⟨f, rfl, hf, _, f0⟩ := int_in S6 (Below.refl _ _) hk
      have hfl : (f.add j).block < wr.heap.size := by rw [addBlock]; omega
      have HC := HL.out t (List.mem_of_getElem? ht) k (HJ.out _ (List.mem_of_getElem? hzip)) ts'
      rw [hlen] at HC
      have HC := Lib.hid HC
      have Ht := Lib.hid hzip
      have HcB := Lib.hid Hc.out
      have hS0 : wr.drew.cell? ⟨w.heap.size, 1, none⟩ = some (.slice (some a) l.length q1) ∧ wr.drew.cell? (a.add (j * 4)) = some (.int .i64 t.op) ∧ wr.drew.cell? ⟨(a.add (j * 4)).block, (a.add (j * 4)).off + 1, none⟩ = some (.string t.s) ∧ wr.drew.cell? ⟨(a.add (j * 4)).block, (a.add (j * 4)).off + 2, none⟩ = some (.int .i64 t.n) ∧ wr.drew.cell? ⟨(a.add (j * 4)).block, (a.add (j * 4)).off + 3, none⟩ = some (.slice p3 t.l.length q3) ∧ wr.drew.cell? ⟨(b.add (i * 6)).block, (b.add (i * 6)).off + 2, none⟩ = some (.slice (some f) d.types.length q5) ∧ wr.drew.cell? (f.add j) = some (.int .i64 k) := ⟨x0, c0, c1, c2, c3, d2, f0⟩
      have HKp : Hid (∀ W : World, Kp (fun b => b = g) wr.drew W → W.cell? ⟨w.heap.size, 1, none⟩ = some (.slice (some a) l.length q1) ∧ W.cell? (a.add (j * 4)) = some (.int .i64 t.op) ∧ W.cell? ⟨(a.add (j * 4)).block, (a.add (j * 4)).off + 1, none⟩ = some (.string t.s) ∧ W.cell? ⟨(a.add (j * 4)).block, (a.add (j * 4)).off + 2, none⟩ = some (.int .i64 t.n) ∧ W.cell? ⟨(a.add (j * 4)).block, (a.add (j * 4)).off + 3, none⟩ = some (.slice p3 t.l.length q3) ∧ W.cell? ⟨(b.add (i * 6)).block, (b.add (i * 6)).off + 2, none⟩ = some (.slice (some f) d.types.length q5) ∧ W.cell? (f.add j) = some (.int .i64 k)) := Lib.hid fun W hW =>
        have q : ∀ p : Addr, p.block < wr.heap.size → p.block ≠ g → W.cell? p = wr.drew.cell? p := fun p h1 h2 => World.cell?_of_block (hW.block _ h1 h2)
        ⟨(q _ hz0 (by show ¬ w.heap.size = g; omega)).trans x0, (q _ hal (by rw [addBlock]; omega)).trans c0, (q ⟨(a.add (j * 4)).block, (a.add (j * 4)).off + 1, none⟩ hal (by show ¬ (a.add (j * 4)).block = g; rw [addBlock]; omega)).trans c1, (q ⟨(a.add (j * 4)).block, (a.add (j * 4)).off + 2, none⟩ hal (by show ¬ (a.add (j * 4)).block = g; rw [addBlock]; omega)).trans c2, (q ⟨(a.add (j * 4)).block, (a.add (j * 4)).off + 3, none⟩ hal (by show ¬ (a.add (j * 4)).block = g; rw [addBlock]; omega)).trans c3, (q ⟨(b.add (i * 6)).block, (b.add (i * 6)).off + 2, none⟩ hbl (by show ¬ (b.add (i * 6)).block = g; rw [addBlock]; omega)).trans d2, (q _ hfl (by rw [addBlock]; omega)).trans f0⟩
      clear ht hk hzip hcd hty Hd S6
      go_wp2_with fail
      go_region_held3 (fun W => W.cell? ⟨w.heap.size, 1, none⟩ = some (.slice (some a) l.length q1) ∧ W.cell? (a.add (j * 4)) = some (.int .i64 t.op) ∧ W.cell? ⟨(a.add (j * 4)).block, (a.add (j * 4)).off + 1, none⟩ = some (.string t.s) ∧ W.cell? ⟨(a.add (j * 4)).block, (a.add (j * 4)).off + 2, none⟩ = some (.int .i64 t.n) ∧ W.cell? ⟨(a.add (j * 4)).block, (a.add (j * 4)).off + 3, none⟩ = some (.slice p3 t.l.length q3) ∧ W.cell? ⟨(b.add (i * 6)).block, (b.add (i * 6)).off + 2, none⟩ = some (.slice (some f) d.types.length q5) ∧ W.cell? (f.add j) = some (.int .i64 k)) (first | exact hk1 | exact hS0)
        ((go_at_call 99; refine (HC.out _ _ (HcB.out.under (Below.refl _ _).drew) (HTr.out.kept (Below.refl _ _).drew)).mono ?_; rintro e3 w3 ⟨ts3, m3, rfl, hL3, hT3, hK3⟩; have hk1 := HKp.out _ hK3))
      have hx : Lrn J vs (AllF vs ((l.zip d.types).take (j + 1))) ts ts3 (m || m3) := (HLr.out.comp hL3).mono fun h => AllF.step Ht.out h.1 h.2
      have HL3 := Lib.hid hx
      have HT3 := Lib.hid hT3
      have HK3 := Lib.hid (HK.out.trans (⟨hK3.os, hK3.tape, hK3.output, hK3.size, hK3.block⟩ : Kp (fun b => b = g) wr w3))
      clear hL3 hT3 hK3 HC hx
      cases m with
      | true =>
        go_wp2
        go_roundw
        case rel => exact ⟨j + 1, ts3, true, hlt, by go_num, rfl, HL3.out, HT3.out, HK3.out⟩
        case measure => simp [intOf]; omega
      | false =>
        go_wp2
        go_roundw
        case rel => exact ⟨j + 1, ts3, m3, hlt, by go_num, rfl, HL3.out, HT3.out, HK3.out⟩
        case measure => simp [intOf]; omega
    · have hlt3 : ¬ (j : Int) < (l.length : Int) := by omega
      obtain rfl : j = l.length := by omega
      go_wp2
      go_ret
      refine ⟨ts', m, rfl, HLr.out.mono fun h => ?_, HTr.out, (Kp.ofBelow B1.out).trans HK.out⟩
      rw [List.take_of_length_le (by rw [List.length_zip]; exact Nat.min_le_left _ _)] at h
      exact h
end Go.Proofs.YtbpdfmpfnbdeoaaGreatDoor
namespace Go.Proofs.YtbpdfmpfnbdeoaaGreatDoor
open Go.RowKit

/-- What one of two terms that are held against each other tells of the other. -/
structure PairJ (J : ByteArray → Int → Prop) (x y : Tm) : Prop where
  lc : x.op = 1 → y.op ≠ 1 → tyC y ≠ 0 → J x.s (tyC y)
  lv : x.op = 1 → y.op = 1 → ∀ k, J y.s k → J x.s k
theorem ty_in {J : ByteArray → Int → Prop} {vs : List ByteArray} {ts : List Int} (h12 : ∀ s k, J s k → k = 1 ∨ k = 2) (hS : SndT J vs ts) (hl : ts.length = vs.length) (t : Tm) : tyE vs ts t = 0 ∨ tyE vs ts t = 1 ∨ tyE vs ts t = 2 := by
  unfold tyE
  split
  · by_cases h : typedV vs ts t.s = 0
    · exact .inl h
    · exact .inr (h12 _ _ (hS.typed hl h))
  · split
    · exact .inr (.inr rfl)
    · split
      · exact .inl rfl
      · exact .inr (.inl rfl)
theorem tyE_C {vs : List ByteArray} {ts : List Int} {t : Tm} (hr : rightT 20 t = true) (h1 : t.op ≠ 1) : tyE vs ts t = tyC t := by
  rcases rightT_cases hr with ⟨h2, _⟩ | ⟨_, _, ho⟩
  · have := twoB_op h2
    unfold tyE tyC
    rw [if_neg h1, if_neg (by omega), if_neg (by omega), if_pos (by omega)]
  · unfold tyE tyC
    rw [if_neg h1]
    rcases ho with h | h | h | h <;> rw [h] <;> first | (exact absurd h h1) | decide
/-- What is learned of x is told by one of the two. -/
theorem pair_just {J : ByteArray → Int → Prop} {vs : List ByteArray} {ts : List Int} {x y : Tm} (hS : SndT J vs ts) (hl : ts.length = vs.length) (hy : rightT 20 y = true) (hJ : PairJ J x y) (h1 : x.op = 1) {k : Int} (hk : k ≠ 0) (h : k = tyE vs ts x ∨ k = tyE vs ts y) : J x.s k := by
  rcases h with h | h
  · rw [tyE_var h1] at h
    rw [h]
    exact hS.typed hl (by rw [← h]; exact hk)
  · by_cases hv : y.op = 1
    · rw [tyE_var hv] at h
      refine hJ.lv h1 hv k ?_
      rw [h]
      exact hS.typed hl (by rw [← h]; exact hk)
    · rw [tyE_C hy hv] at h
      rw [h]
      exact hJ.lc h1 hv (by rw [← h]; exact hk)
theorem right_op {l : Lt} (h : rightL l = true) : l.op = 1 ∨ l.op = 2 ∨ 3 ≤ l.op := by
  unfold rightL at h
  by_cases h1 : l.op = 1 ∨ l.op = 2
  · rcases h1 with h1 | h1
    · exact .inl h1
    · exact .inr (.inl h1)
  · rw [if_neg h1] at h
    by_cases h3 : 3 ≤ l.op
    · exact .inr (.inr h3)
    · rw [if_neg (by omega), if_neg (by omega), if_neg (by omega)] at h
      cases h
/-- What is asked of a part when nothing more is learned. -/
def LitN (ds : List De) (vs : List ByteArray) (t : Lt) (ts : List Int) : Prop :=
  if duoB t = true then nearP vs ts (t.x, t.y) ∧ (∀ u ∈ subTs t.x.l, knP vs ts u 1) ∧ (∀ u ∈ subTs t.y.l, knP vs ts u 1)
  else AllF vs (plc ds t.a) ts ∧ (aggB t = true → Full (knP vs ts) t.x 1 ∧ Full (knP vs ts) t.y 1)
theorem near_of {vs : List ByteArray} {ts : List Int} {x y : Tm} {k : Int} (hk : tyE vs ts x ≠ 0 ∨ tyE vs ts y ≠ 0 → k ≠ 0) (h1 : Full (knP vs ts) x k) (h2 : Full (knP vs ts) y k) : nearP vs ts (x, y) := fun h =>
  ⟨fun hx => (h1.1 hx).resolve_left (hk h), fun hy => (h2.1 hy).resolve_left (hk h)⟩
set_option maxRecDepth 100000 in
set_option maxHeartbeats 8000000 in
theorem rlearnDuo_c (J : ByteArray → Int → Prop) (h12 : ∀ s k, J s k → k = 1 ∨ k = 2) (vs : List ByteArray) (vv : Value) (B g : Nat) (ds : List De) (v : Value) (t : Lt) (ts : List Int) (w : World) (cs : List Value) (hc : LtC w B t cs) (hT : TyS B g w vs vv ts) (hS : SndT J vs ts)
    (hr : rightL t = true) (hdu : duoB t = true) (hv : ∀ u ∈ litTs t, u.op = 1 → u.s ∈ vs ∧ u.l = []) (hJ1 : PairJ J t.x t.y) (hJ2 : PairJ J t.y t.x) (hJp : ∀ u, u ∈ subTs t.x.l ∨ u ∈ subTs t.y.l → u.op = 1 → J u.s 1) :
    Calls Tryz.prog 66 #[v, .agg cs.toArray, vv, .slice (some ⟨g, 0, none⟩) ts.length ts.length] w (LrnR J vs (LitN ds vs t) ts B g vv w) := by
  obtain ⟨_, hx, hy⟩ := right_duo hr hdu
  have hop := duo_op hdu
  obtain ⟨ca, cx, cy, rfl, _, ha, hcx, hcy⟩ := hc
  obtain ⟨v0, rfl, _, hal⟩ := ha
  obtain ⟨o0, k0, rfl, _⟩ := SlOf.uni hal
  obtain ⟨o1, k1, rfl, _⟩ := hcx.look
  obtain ⟨o2, k2, rfl, _⟩ := hcy.look
  have hvx : ∀ u ∈ subT t.x, u.op = 1 → u.s ∈ vs ∧ u.l = [] := fun u hu => hv u (litTs_mem.2 (.inl hu))
  have hvy : ∀ u ∈ subT t.y, u.op = 1 → u.s ∈ vs ∧ u.l = [] := fun u hu => hv u (litTs_mem.2 (.inr (.inl hu)))
  have hb := hT.base
  have HTX := Lib.hid (fun (W : World) (h : Below w.heap.size w W) => rtypeOf_c t.x W _ B g vs vv ts (hcx.under (h.mono hb)) (hT.kept h) (fun e => (hvx _ mem_self e).1))
  have HTY := Lib.hid (fun (W : World) (h : Below w.heap.size w W) => rtypeOf_c t.y W _ B g vs vv ts (hcy.under (h.mono hb)) (hT.kept h) (fun e => (hvy _ mem_self e).1))
  obtain ⟨a, ha⟩ : ∃ a, tyE vs ts t.x = a := ⟨_, rfl⟩
  obtain ⟨b, hbb⟩ : ∃ b, tyE vs ts t.y = b := ⟨_, rfl⟩
  have ta := ty_in h12 hS hT.len t.x
  have tb := ty_in h12 hS hT.len t.y
  rw [ha] at HTX ta
  rw [hbb] at HTY tb
  obtain ⟨k, hk⟩ : ∃ k, max a b = k := ⟨_, rfl⟩
  have hk1 : k = a ∨ k = b := by omega
  have hk2 : a ≠ 0 ∨ b ≠ 0 → k ≠ 0 := by omega
  have HLX := Lib.hid (fun (W : World) (h : Below w.heap.size w W) => rlearn_c J vs vv B g _ t.x k ts W _ (Nat.le_refl _) (hcx.under (h.mono hb)) (hT.kept h) hvx (fun h1 hne => pair_just hS hT.len hy hJ1 h1 hne (by rw [ha, hbb]; exact hk1)) (fun u hu => hJp u (.inl hu)))
  have HLY := Lib.hid (fun (W : World) (ts' : List Int) (h : Below B w W) (hT' : TyS B g W vs vv ts') => rlearn_c J vs vv B g _ t.y k ts' W _ (Nat.le_refl _) (hcy.under h) hT' hvy (fun h1 hne => pair_just hS hT.len hx hJ2 h1 hne (by rw [ha, hbb]; exact hk1.symm)) (fun u hu => hJp u (.inr hu)))
  have HN : Hid (∀ T : List Int, T = ts → Full (knP vs T) t.x k → Full (knP vs T) t.y k → LitN ds vs t T) := Lib.hid fun T hT h1 h2 => by
    subst hT
    unfold LitN
    rw [if_pos hdu]
    exact ⟨near_of (by rw [ha, hbb]; exact hk2) h1 h2, h1.2, h2.2⟩
  have HT := Lib.hid hT
  have hrow := hT.row
  have HB0 : Hid (∀ (x : Obj), Below w.heap.size w (w.alloc x)) := Lib.hid fun x => (Below.refl _ _).alloc (Nat.le_refl _) _
  obtain ⟨ov, kv, rfl, _⟩ := SlOf.uni HT.out.vars
  have hop1 := hop.1
  have hop2 := hop.2
  clear hT hS hcx hcy hal hv hvx hvy hJ1 hJ2 hJp hx hy hr ha hbb hdu hk1 hk2 h12 hop
  simp only [List.cons_append, List.nil_append]
  go_enter Tryz.func66, Tryz.ntmps66
  go_wp2_with fail
  refine (HTX.out _ (HB0.out _)).mono ?_
  rintro e1 w1 ⟨rfl, b1⟩
  have r1 := (b1.block w.heap.size (by simp)).trans (World.alloc_heap_new w _)
  have B1 := Lib.hid ((HB0.out _).trans (b1.mono (by simp)))
  have x7 := row_cells r1 7
  have x8 := row_cells r1 8
  have x9 := row_cells r1 9
  have x10 := row_cells r1 10
  simp at x7 x8 x9 x10
  have R1 := Lib.hid r1
  have hz1 : w.heap.size < w1.heap.size := heap_lt r1
  clear b1 r1
  go_wp2_with fail
  refine (HTY.out _ B1.out).mono ?_
  rintro e2 w2 ⟨rfl, b2⟩
  have r2 := (b2.block w.heap.size hz1).trans R1.out
  have B2 := Lib.hid (B1.out.trans (b2.mono B1.out.size))
  have y3 := row_cells r2 3
  have y4 := row_cells r2 4
  have y5 := row_cells r2 5
  have y6 := row_cells r2 6
  simp at y3 y4 y5 y6
  have R2 := Lib.hid r2
  have hz2 : w.heap.size < w2.heap.size := heap_lt r2
  clear b2 r2 x7 x8 x9 x10 R1
  go_wp2_with fail
  refine (HLX.out _ B2.out).mono ?_
  rintro e3 w3 ⟨ts3, m3, rfl, hL3, hT3, hK3⟩
  have r3 := (hK3.block w.heap.size hz2 (by omega)).trans R2.out
  have hlen : ts3.length = ts.length := hL3.len
  have x7 := row_cells r3 7
  have x8 := row_cells r3 8
  have x9 := row_cells r3 9
  have x10 := row_cells r3 10
  simp at x7 x8 x9 x10
  have hz3 : w.heap.size < w3.heap.size := heap_lt r3
  have hC := HLY.out w3 ts3 ((B2.out.mono hb).trans (hK3.below (Nat.le_trans hb B2.out.size) fun i hi e => by omega)) hT3
  rw [hlen] at hC
  have HC := Lib.hid hC
  have HL3 := Lib.hid hL3
  have HK3 := Lib.hid ((Kp.ofBelow B2.out).trans hK3)
  clear hL3 hT3 hK3 hC r3 y3 y4 y5 y6 R2
  go_wp2_with fail
  refine HC.out.mono ?_
  rintro e4 w4 ⟨ts4, m4, rfl, hL4, hT4, hK4⟩
  have hx := (HL3.out.comp hL4).mono (M := LitN ds vs t) fun h => HN.out ts rfl h.1 h.2
  have HL4 := Lib.hid hx
  have HT4 := Lib.hid hT4
  have HK4 := Lib.hid (HK3.out.trans hK4)
  clear hL4 hT4 hK4 HC hx
  cases m3 with
  | true =>
    go_wp2
    go_ret
    exact ⟨ts4, true, rfl, HL4.out, HT4.out, HK4.out⟩
  | false =>
    go_wp2
    go_ret
    exact ⟨ts4, m4, rfl, HL4.out, HT4.out, HK4.out⟩
set_option maxRecDepth 100000 in
set_option maxHeartbeats 8000000 in
theorem rlearnPart_c (J : ByteArray → Int → Prop) (vs : List ByteArray) (vv : Value) (B g : Nat) (ds : List De) (v : Value) (t : Lt) (ts : List Int) (w : World) (cs : List Value) (hd : SlOf w B 6 (DeC w B) ds v) (hc : LtC w B t cs) (hT : TyS B g w vs vv ts)
    (hr : rightL t = true) (hdu : duoB t = false) (hbd : badA ds t.a = 0) (hv : ∀ u ∈ litTs t, u.op = 1 → u.s ∈ vs ∧ u.l = []) (hJa : ∀ x ∈ plc ds t.a, x.1.op = 1 → x.2 ≠ 0 → J x.1.s x.2) (hJ2 : ∀ x ∈ t.a.l, ∀ u ∈ subTs x.l, u.op = 1 → J u.s 1)
    (hJx : aggB t = true → ∀ u, u ∈ subT t.x ∨ u ∈ subT t.y → u.op = 1 → J u.s 1) :
    Calls Tryz.prog 66 #[v, .agg cs.toArray, vv, .slice (some ⟨g, 0, none⟩) ts.length ts.length] w (LrnR J vs (LitN ds vs t) ts B g vv w) := by
  have hno := duo_no hdu
  have hag := agg_or hdu
  have hrange := right_op hr
  obtain ⟨ca, cx, cy, rfl, _, ha, hcx, hcy⟩ := hc
  have hca := ha
  obtain ⟨v0, rfl, _, hal⟩ := ha
  obtain ⟨o0, k0, rfl, _⟩ := SlOf.uni hal
  obtain ⟨o1, k1, rfl, _⟩ := hcx.look
  obtain ⟨o2, k2, rfl, _⟩ := hcy.look
  have hvx : ∀ u ∈ subT t.x, u.op = 1 → u.s ∈ vs ∧ u.l = [] := fun u hu => hv u (litTs_mem.2 (.inl hu))
  have hvy : ∀ u ∈ subT t.y, u.op = 1 → u.s ∈ vs ∧ u.l = [] := fun u hu => hv u (litTs_mem.2 (.inr (.inl hu)))
  have hva : ∀ u ∈ subTs t.a.l, u.op = 1 → u.s ∈ vs ∧ u.l = [] := fun u hu => hv u (litTs_mem.2 (.inr (.inr hu)))
  have hb := hT.base
  have HLA := Lib.hid (fun (W : World) (h : Below w.heap.size w W) => rlearnAtom_c J vs vv B g ds v t.a ts W _ (SlOf.decl hd (h.mono hb) (Nat.le_refl _)) (hca.below (h.mono hb)) (hT.kept h) hbd hva hJa hJ2)
  have HLX := Lib.hid (fun (hg : aggB t = true) (W : World) (ts' : List Int) (h : Below B w W) (hT' : TyS B g W vs vv ts') => rlearn_c J vs vv B g _ t.x 1 ts' W _ (Nat.le_refl _) (hcx.under h) hT' hvx (fun h1 _ => hJx hg _ (.inl mem_self) h1) (fun u hu => hJx hg u (.inl (mem_subT.2 (.inr hu)))))
  have HLY := Lib.hid (fun (hg : aggB t = true) (W : World) (ts' : List Int) (h : Below B w W) (hT' : TyS B g W vs vv ts') => rlearn_c J vs vv B g _ t.y 1 ts' W _ (Nat.le_refl _) (hcy.under h) hT' hvy (fun h1 _ => hJx hg _ (.inr mem_self) h1) (fun u hu => hJx hg u (.inr (mem_subT.2 (.inr hu)))))
  have HN : Hid (∀ T : List Int, AllF vs (plc ds t.a) T → (aggB t = true → Full (knP vs T) t.x 1 ∧ Full (knP vs T) t.y 1) → LitN ds vs t T) := Lib.hid fun T h1 h2 => by
    unfold LitN
    rw [if_neg (by rw [hdu]; decide)]
    exact ⟨h1, h2⟩
  have hrow := hT.row
  have HB0 : Hid (∀ (x : Obj), Below w.heap.size w (w.alloc x)) := Lib.hid fun x => (Below.refl _ _).alloc (Nat.le_refl _) _
  obtain ⟨ov, kv, rfl, _⟩ := SlOf.uni hT.vars
  obtain ⟨od, kd, rfl, _⟩ := SlOf.uni hd
  clear hT hcx hcy hal hca hv hvx hvy hva hJa hJ2 hJx hr hdu hbd hd
  simp only [List.cons_append, List.nil_append]
  by_cases h36 : 3 ≤ t.op
  · have h67 : ¬ t.op ≤ 6 := by omega
    have hg : aggB t = true := hag.resolve_left (by omega)
    have ho1 : (t.op == 1) = false := by simp; omega
    have ho2 : (t.op == 2) = false := by simp; omega
    clear hag hno
    go_enter Tryz.func66, Tryz.ntmps66
    go_wp2_with fail
    refine (HLA.out _ (HB0.out _)).mono ?_
    rintro e1 w1 ⟨ts1, m1, rfl, hL1, hT1, hK1⟩
    have hlen1 : ts1.length = ts.length := hL1.len
    have r1 := (hK1.block w.heap.size (by simp) (by omega)).trans (World.alloc_heap_new w _)
    have hKK : Kp (fun b => b = g) w w1 := (Kp.ofBelow (HB0.out _)).trans hK1
    have x0 := row_cells r1 0
    have x3 := row_cells r1 3
    have x4 := row_cells r1 4
    have x5 := row_cells r1 5
    have x6 := row_cells r1 6
    simp at x0 x3 x4 x5 x6
    have hz1 : w.heap.size < w1.heap.size := heap_lt r1
    have hC := HLX.out hg w1 ts1 (hKK.below hb fun i hi e => by omega) hT1
    rw [hlen1] at hC
    have HC := Lib.hid hC
    have HL1 := Lib.hid hL1
    have HK1 := Lib.hid hKK
    have R1 := Lib.hid r1
    clear hL1 hT1 hK1 hC r1 hKK
    go_wp2_with fail
    refine HC.out.mono ?_
    rintro e2 w2 ⟨ts2, m2, rfl, hL2, hT2, hK2⟩
    have hlen2 : ts2.length = ts.length := hL2.len.trans hlen1
    have r2 := (hK2.block w.heap.size hz1 (by omega)).trans R1.out
    have y7 := row_cells r2 7
    have y8 := row_cells r2 8
    have y9 := row_cells r2 9
    have y10 := row_cells r2 10
    simp at y7 y8 y9 y10
    have hz2 : w.heap.size < w2.heap.size := heap_lt r2
    have hKK := HK1.out.trans hK2
    have hC := HLY.out hg w2 ts2 (hKK.below hb fun i hi e => by omega) hT2
    rw [hlen2] at hC
    have HC2 := Lib.hid hC
    have HL2 := Lib.hid (HL1.out.comp hL2)
    have HK2 := Lib.hid hKK
    clear hL2 hT2 hK2 hC r2 hKK R1 HC x0 x3 x4 x5 x6
    go_wp2_with fail
    refine HC2.out.mono ?_
    rintro e3 w3 ⟨ts3, m3, rfl, hL3, hT3, hK3⟩
    have hx := (HL2.out.comp hL3).mono (M := LitN ds vs t) fun h => HN.out ts h.1.1 fun _ => ⟨h.1.2, h.2⟩
    have HL3 := Lib.hid hx
    have HT3 := Lib.hid hT3
    have HK3 := Lib.hid (HK2.out.trans hK3)
    clear hL3 hT3 hK3 HC2 hx
    cases m1 with
    | true =>
      go_wp2
      go_ret
      exact ⟨ts3, true, rfl, HL3.out, HT3.out, HK3.out⟩
    | false =>
      cases m2 with
      | true =>
        go_wp2
        go_ret
        exact ⟨ts3, true, rfl, HL3.out, HT3.out, HK3.out⟩
      | false =>
        go_wp2
        go_ret
        exact ⟨ts3, m3, rfl, HL3.out, HT3.out, HK3.out⟩
  · by_cases h12 : t.op = 1 ∨ t.op = 2
    · have hg : aggB t = false := by
        unfold aggB
        rcases h12 with h | h <;> rw [h] <;> simp
      clear hag hno HLX HLY
      go_enter Tryz.func66, Tryz.ntmps66
      go_wp2_with fail
      refine (HLA.out _ (HB0.out _)).mono ?_
      rintro e1 w1 ⟨ts1, m1, rfl, hL1, hT1, hK1⟩
      have r1 := (hK1.block w.heap.size (by simp) (by omega)).trans (World.alloc_heap_new w _)
      have hKK : Kp (fun b => b = g) w w1 := (Kp.ofBelow (HB0.out _)).trans hK1
      have x0 := row_cells r1 0
      simp at x0
      have hz1 : w.heap.size < w1.heap.size := heap_lt r1
      have HL1 := Lib.hid (hL1.mono (M := LitN ds vs t) fun h => HN.out ts h fun e => by rw [hg] at e; cases e)
      have HT1 := Lib.hid hT1
      have HK1 := Lib.hid hKK
      clear hL1 hT1 hK1 r1 hKK
      rcases h12 with h1 | h1
      · have ho1 : (t.op == 1) = true := by simp [h1]
        go_wp2
        go_ret
        exact ⟨ts1, m1, rfl, HL1.out, HT1.out, HK1.out⟩
      · have ho1 : (t.op == 1) = false := by simp [h1]
        have ho2 : (t.op == 2) = true := by simp [h1]
        go_wp2
        go_ret
        exact ⟨ts1, m1, rfl, HL1.out, HT1.out, HK1.out⟩
    · exact absurd hrange (by omega)
end Go.Proofs.YtbpdfmpfnbdeoaaGreatDoor
