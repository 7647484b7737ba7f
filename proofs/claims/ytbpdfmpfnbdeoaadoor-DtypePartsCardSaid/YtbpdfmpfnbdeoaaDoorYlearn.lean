/- What is known of types: of, learn, learnNumbers, learnAlike; the map's block is all that they turn. -/
import Derived.Test.YtbpdfmpfnbdeoaaDoorMapI
import Derived.Test.YtbpdfmpfnbdeoaaDoorTy
import Derived.Test.YtbpdfmpfnbdeoaaDoorTeach
namespace Go.Proofs.YtbpdfmpfnbdeoaaDoor
open Go.RowKit

def errV (a : Addr) : Value := .iface 193 (.pointer (some a))
/-- What the laws of layer 5 read of the listed variables. -/
structure YEnv (n : Nat) (a b c d : Addr) (w : World) : Prop where
  ty : w.cell? ⟨1, 0, none⟩ = some (errV a)
  tw : w.cell? ⟨2, 0, none⟩ = some (errV b)
  no : w.cell? ⟨3, 0, none⟩ = some (errV c)
  ar : w.cell? ⟨4, 0, none⟩ = some (errV d)
  big : 1 < n ∧ 2 < n ∧ 3 < n ∧ 4 < n
theorem YEnv.below {n : Nat} {a b c d : Addr} {w w' : World} (h : YEnv n a b c d w) (k : Below n w w') : YEnv n a b c d w' := by
  have hb := h.big
  have e : ∀ g v, g < n → w.cell? ⟨g, 0, none⟩ = some v → w'.cell? ⟨g, 0, none⟩ = some v := fun g v hg h => (k.cell (by show g < n; exact hg)).trans h
  exact ⟨e _ _ hb.1 h.ty, e _ _ hb.2.1 h.tw, e _ _ hb.2.2.1 h.no, e _ _ hb.2.2.2 h.ar, hb⟩
theorem gB {W W' : World} (h : Below W.heap.size W W') (row : Option Nat) : W.grownBy W' row := ⟨h.os, h.tape, h.output, h.size, fun k hk _ => h.block k hk⟩
/-- What the map knows. -/
structure KnM (V : List (List UInt8)) (W : World) (B : Nat) (K : Kn) : Prop where
  map : MapI Tryd.prog W 9 3 B K.length (look K) K.length
  ok : KnOk K
  sub : ∀ x ∈ K, x.1 ∈ V
  ty : ∀ x ∈ K, x.2 = 1 ∨ x.2 = 2
theorem KnM.same {V : List (List UInt8)} {W W' : World} {B : Nat} {K : Kn} (h : KnM V W B K) (hb : W'.heap[B]? = W.heap[B]?) : KnM V W' B K :=
  ⟨by
    obtain ⟨D, ⟨es, clock, h1, h2⟩, h3⟩ := h.map
    exact ⟨D, ⟨es, clock, hb.trans h1, h2⟩, h3⟩, h.ok, h.sub, h.ty⟩
theorem KnM.lt {V : List (List UInt8)} {W : World} {B : Nat} {K : Kn} (h : KnM V W B K) : B < W.heap.size := h.map.lt
theorem KnM.below {V : List (List UInt8)} {W W' : World} {B n : Nat} {K : Kn} (h : KnM V W B K) (hb : Below n W W') (hn : B < n) : KnM V W' B K := h.same (hb.block B hn)
/-- How a function that learns answers. -/
inductive LearnR (V : List (List UInt8)) (W : World) (B : Nat) (a : Addr) : Option Kn → Ending → World → Prop
  | bad {W' : World} : W.grownBy W' (some B) → LearnR V W B a none (.returned (errV a)) W'
  | good {K' : Kn} {W' : World} : KnM V W' B K' → W.grownBy W' (some B) → LearnR V W B a (some K') (.returned .nilIface) W'
theorem boxY {W W1 : World} {B : Nat} (n : Nat) (hb : Below B W W1) (hn : n < B) : (∀ o, W1.cell? ⟨n, o, none⟩ = W.cell? ⟨n, o, none⟩) ∧ (∀ o, W1.frozen? ⟨n, o, none⟩ = W.frozen? ⟨n, o, none⟩) :=
  ⟨fun o => hb.cell (p := ⟨n, o, none⟩) hn, fun o => hb.frozen (p := ⟨n, o, none⟩) hn⟩
theorem nodup_sub : ∀ {l m : List (List UInt8)}, l.Nodup → (∀ x ∈ l, x ∈ m) → l.length ≤ m.length
  | [], _, _, _ => Nat.zero_le _
  | x :: l, m, hn, hs => by
    have hx := hs x (List.mem_cons_self ..)
    have hn' := List.nodup_cons.1 hn
    have := nodup_sub (m := m.erase x) hn'.2 (fun y hy => (List.mem_erase_of_ne (by rintro rfl; exact hn'.1 hy)).2 (hs y (List.mem_cons_of_mem _ hy)))
    rw [List.length_erase_of_mem hx] at this
    have := List.length_pos_of_mem hx
    simp only [List.length_cons]
    omega
theorem KnM.len {V : List (List UInt8)} {W : World} {B : Nat} {K : Kn} (h : KnM V W B K) : K.length ≤ V.length := by
  have := nodup_sub h.ok.nod (m := V) (fun x hx => by
    obtain ⟨y, hy, rfl⟩ := List.mem_map.1 hx
    exact h.sub y hy)
  rwa [List.length_map] at this
theorem look_ty {K : Kn} (h : ∀ x ∈ K, x.2 = 1 ∨ x.2 = 2) (s : List UInt8) : look K s = 0 ∨ look K s = 1 ∨ look K s = 2 := by
  induction K with
  | nil => exact .inl rfl
  | cons x K ih =>
    obtain ⟨a, k⟩ := x
    show (if a = s then k else look K s) = 0 ∨ (if a = s then k else look K s) = 1 ∨ (if a = s then k else look K s) = 2
    by_cases e : a = s
    · rw [if_pos e]; exact .inr (h (a, k) (List.mem_cons_self ..))
    · rw [if_neg e]; exact ih (fun x hx => h x (List.mem_cons_of_mem _ hx))
theorem ofK_ty {K : Kn} (h : ∀ x ∈ K, x.2 = 1 ∨ x.2 = 2) (t : Tm) : ofK K t = 0 ∨ ofK K t = 1 ∨ ofK K t = 2 := by
  unfold ofK tyC
  by_cases e : t.op = 1
  · rw [if_pos e]; exact look_ty h _
  · rw [if_neg e]
    by_cases e2 : t.op = 2 ∨ t.op = 5 ∨ t.op = 6 ∨ t.op = 7
    · rw [if_pos e2]; exact .inr (.inl rfl)
    · rw [if_neg e2]
      by_cases e3 : t.op = 3
      · rw [if_pos e3]; exact .inr (.inr rfl)
      · rw [if_neg e3]; exact .inl rfl

set_option maxRecDepth 100000 in
set_option maxHeartbeats 4000000 in
theorem of_c (t : Tm) (cs : List Value) (B n₀ : Nat) (V : List (List UInt8)) (K : Kn) (w : World) (hc : TmC w n₀ t cs) (hM : KnM V w B K) :
    Calls Tryd.prog 127 #[.map (some B), .agg cs.toArray] w fun e w' => e = .returned (.int .i64 (ofK K t)) ∧ Below w.heap.size w w' := by
  obtain ⟨v, rfl, _, hsz, _⟩ := hc.parts
  have zE : ∀ w : World, (zeroValue 3).run Tryd.prog w = .ok (.int .i64 0) w := fun w => by kernel_rfl
  have hB0 : ∀ x : Obj, Hid (Below w.heap.size w (w.alloc x)) := fun x => Lib.hid ((Below.refl _ _).alloc (Nat.le_refl _) _)
  have HM := Lib.hid hM.map
  clear hM hc
  by_cases h1 : t.op = 1
  · have Hq : Hid (ofK K t = look K t.s.data.toList) := Lib.hid (by unfold ofK; rw [if_pos h1]; rfl)
    go_enter Tryd.func127, Tryd.ntmps127
    go_wp2_with (at_lookup; refine wpList_mapI_get _ rfl _ _ 78 rfl 9 3 Tryd.underlying78 Tryd.underlying9 Tryd.underlying3 (zE _) B _ (look K) _ rfl (HM.out.alloc _) t.s rfl hsz ?_; intro _)
    go_ret
    exact ⟨by rw [Hq.out]; rfl, (hB0 _).out⟩
  · by_cases h2 : t.op = 2 ∨ t.op = 5 ∨ t.op = 6 ∨ t.op = 7
    · have Hq : Hid (ofK K t = 1) := Lib.hid (by unfold ofK tyC; rw [if_neg h1, if_pos h2])
      rcases h2 with h2 | h2 | h2 | h2
      all_goals
        go_enter Tryd.func127, Tryd.ntmps127
        go_wp2
        go_ret
        exact ⟨by rw [Hq.out]; rfl, (hB0 _).out⟩
    · have g2 : t.op ≠ 2 := fun h => h2 (.inl h)
      have g5 : t.op ≠ 5 := fun h => h2 (.inr (.inl h))
      have g6 : t.op ≠ 6 := fun h => h2 (.inr (.inr (.inl h)))
      have g7 : t.op ≠ 7 := fun h => h2 (.inr (.inr (.inr h)))
      by_cases h3 : t.op = 3
      · have Hq : Hid (ofK K t = 2) := Lib.hid (by unfold ofK tyC; rw [if_neg h1, if_neg h2, if_pos h3])
        clear h2
        go_enter Tryd.func127, Tryd.ntmps127
        go_wp2
        go_ret
        exact ⟨by rw [Hq.out]; rfl, (hB0 _).out⟩
      · have Hq : Hid (ofK K t = 0) := Lib.hid (by unfold ofK tyC; rw [if_neg h1, if_neg h2, if_neg h3])
        clear h2
        go_enter Tryd.func127, Tryd.ntmps127
        go_wp2
        go_ret
        exact ⟨by rw [Hq.out]; rfl, (hB0 _).out⟩

set_option maxRecDepth 100000 in
set_option maxHeartbeats 4000000 in
theorem learn_c (t : Tm) (k : Int) (cs : List Value) (B n₀ : Nat) (V : List (List UInt8)) (hV : V.length ≤ 1000000) (K : Kn) (a b c d : Addr) (w : World) (hc : TmC w n₀ t cs) (hB : n₀ ≤ B) (hM : KnM V w B K) (hv : t.op = 1 → nm t ∈ V) (hk : k = 1 ∨ k = 2) (E : YEnv n₀ a b c d w) :
    Calls Tryd.prog 96 #[.map (some B), .agg cs.toArray, .int .i64 k] w (LearnR V w B a (learn1 K t k)) := by
  obtain ⟨v, rfl, _, hsz, _⟩ := hc.parts
  have hB1 := hM.lt
  have hg0 : ∀ (x : Obj), Hid (w.grownBy (w.alloc x) (some B)) := fun x => Lib.hid (World.grownBy_alloc w x _)
  have HO := Lib.hid (fun (W : World) (hb : Below w.heap.size w W) => of_c t _ B n₀ V K W (TmC.under hc (hb.mono (by omega))) (hM.below hb hB1))
  have HE := Lib.hid E
  have HM := Lib.hid hM
  have HK2 := Lib.hid hk
  have hk1 : (k == 0) = false := by rcases hk with rfl | rfl <;> rfl
  clear hM E hc
  go_enter Tryd.func96, Tryd.ntmps96
  go_wp2_with fail
  refine (HO.out _ ((Below.refl _ _).alloc (Nat.le_refl _) _)).mono ?_
  rintro e w1 ⟨rfl, b1⟩
  have B1 : Below w.heap.size w w1 := ((Below.refl _ _).alloc (Nat.le_refl _) _).trans (b1.mono (by simp))
  have G1 := Lib.hid (gB B1 (some B))
  by_cases h1 : ofK K t = k
  · have Hq : Hid (learn1 K t k = some K) := Lib.hid (by unfold learn1; rw [if_pos h1])
    have h1' : (ofK K t == k) = true := by simpa using h1
    go_wp2
    go_ret
    rw [Hq.out]
    exact .good (HM.out.below B1 hB1) G1.out
  · have h1' : (ofK K t == k) = false := by simpa using h1
    obtain ⟨hc1, hf1⟩ := boxY w.heap.size b1 (by simp)
    by_cases h2 : ofK K t = 0
    · have h2' : (ofK K t != 0) = false := by simpa using h2
      by_cases h3 : t.op = 1
      · have hl : look K (nm t) = 0 := by unfold ofK at h2; rwa [if_pos h3] at h2
        have hk0 : k ≠ 0 := by rcases hk with rfl | rfl <;> decide
        have Hq : Hid (learn1 K t k = some (K ++ [(nm t, k)])) := Lib.hid (by unfold learn1; rw [if_neg h1, if_neg (fun h => h h2), if_pos h3])
        have HM1 := Lib.hid (HM.out.below B1 hB1)
        have hlen := HM.out.len
        have hf : updF (look K) t.s.data.toList k = look (K ++ [(nm t, k)]) := by
          funext s
          rw [look_snoc hl HM.out.ok.pos]
          rfl
        have Hf := Lib.hid hf
        have hle : Hid (K.length < maxLen) := Lib.hid (by unfold maxLen; omega)
        have hw : Hid ((Lit.int .i64 k).wf = true) := Lib.hid (by rcases hk with rfl | rfl <;> rfl)
        have Hk0 := Lib.hid hk0
        have Hl := Lib.hid hl
        have Hv := Lib.hid (hv h3)
        clear hf hk0 hl hv hk h1 h2
        go_wp2_with (at_mapUpdate; refine wpList_mapI_put _ rfl _ _ _ 78 rfl 9 3 Tryd.underlying78 Tryd.underlying9 Tryd.underlying3 B _ (look K) _ rfl HM1.out.map hle.out t.s k rfl rfl hsz Hk0.out hw.out ?_; intro w2 hm2 hg2)
        go_ret
        rw [Hq.out]
        refine .good ⟨?_, HM.out.ok.snoc Hl.out Hk0.out, ?_, ?_⟩ (G1.out.trans hg2)
        · rw [Hf.out, if_pos (show look K t.s.data.toList = 0 from Hl.out)] at hm2
          simpa using hm2
        · intro x hx
          rcases List.mem_append.1 hx with hx | hx
          · exact HM.out.sub x hx
          · cases List.mem_singleton.1 hx; exact Hv.out
        · intro x hx
          rcases List.mem_append.1 hx with hx | hx
          · exact HM.out.ty x hx
          · cases List.mem_singleton.1 hx; exact HK2.out
      · have Hq : Hid (learn1 K t k = some K) := Lib.hid (by unfold learn1; rw [if_neg h1, if_neg (fun h => h h2), if_neg h3])
        go_wp2
        go_ret
        rw [Hq.out]
        exact .good (HM.out.below B1 hB1) G1.out
    · have h2' : (ofK K t != 0) = true := by simpa using h2
      have Hq : Hid (learn1 K t k = none) := Lib.hid (by unfold learn1; rw [if_neg h1, if_pos h2])
      have cg := (HE.out.below (B1.mono (by omega))).ty
      unfold errV at cg
      go_wp2
      go_ret
      rw [Hq.out]
      exact .bad G1.out
end Go.Proofs.YtbpdfmpfnbdeoaaDoor
