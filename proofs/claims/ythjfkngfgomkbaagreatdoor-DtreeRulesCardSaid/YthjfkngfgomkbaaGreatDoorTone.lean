/- The statements' known program; its text. -/
import Derived.Test.YthjfkngfgomkbaaGreatDoorTwshow
namespace Go.Proofs.YthjfkngfgomkbaaGreatDoor
open Go.RowKit

def oneT : Tm := .mk 2 ⟨#[]⟩ 1 []
def oneD : De := ⟨⟨#[112]⟩, [⟨#[120]⟩], [1], true, false, 0⟩
def oneR : Ru := ⟨⟨⟨#[112]⟩, [oneT]⟩, [], 0⟩
def oneP : Pg := ⟨[oneD], [oneR]⟩
theorem one_right : rightP oneP = true := by decide +kernel
theorem one_text : showP oneP = [46, 100, 101, 99, 108, 32, 112, 40, 120, 58, 32, 110, 117, 109, 98, 101, 114, 41, 10, 46, 105, 110, 112, 117, 116, 32, 112, 10, 112, 40, 49, 41, 46, 10] := by decide +kernel
theorem SlOf.nil {α : Type} {w : World} {B z : Nat} {R : α → List Value → Prop} : SlOf w B z R [] (.slice none 0 0) := .inl ⟨rfl, rfl⟩

theorem Row.new' {W : World} {n : Nat} (h : W.heap.size = n) (T : TypeId) (cs : List Value) : Row n T cs (W.alloc (.cells cs.toArray T)) := by subst h; exact Row.new W T cs
theorem Row.al {W : World} {n : Nat} {T : TypeId} {cs : List Value} (h : Row n T cs W) (o : Obj) : Row n T cs (W.alloc o) := h.below ((Below.refl W.heap.size W).alloc (Nat.le_refl _) o) (Array.getElem?_eq_some_iff.1 h).1
theorem slOne {α : Type} {W : World} {B z N : Nat} {T : TypeId} {cs : List Value} {R : α → List Value → Prop} {x : α} (h : Row N T cs W) (hN : N < B) (hz : cs.length = z) (hR : R x cs) : SlOf W B z R [x] (.slice (some ⟨N, 0, none⟩) 1 1) := by
  refine .inr ⟨⟨N, 0, none⟩, 1, rfl, Nat.le_refl _, by decide, fun _ => hN, fun i y hy => ?_⟩
  match i, hy with
  | 0, hy =>
    simp only [List.getElem?_cons_zero, Option.some.injEq] at hy
    subst hy
    rw [Nat.zero_mul]
    exact ⟨cs, hz, hR, h.cells⟩
  | i + 1, hy => simp at hy
set_option maxRecDepth 100000 in
set_option maxHeartbeats 4000000 in
theorem one_c (w : World) : Calls Tryz.prog 26 #[] w fun e w' => ∃ cs, e = .returned (.agg cs) ∧ PgC w' w'.heap.size oneP cs.toList ∧ Below w.heap.size w w' := by
  go_enter Tryz.func26, Tryz.ntmps26
  go_wp2
  have R0 := (((((Row.new' (n := w.heap.size) rfl 35 [.slice (some ⟨w.heap.size + 1 + 1 + 1, 0, none⟩) 1 1, .slice (some ⟨w.heap.size + 1 + 1 + 1 + 1 + 1, 0, none⟩) 1 1]).al (.cells #[.string ⟨#[120]⟩] 9)).al (.cells #[.int .i64 1] 3)).al (.cells #[.string ⟨#[112]⟩, .slice (some ⟨w.heap.size + 1, 0, none⟩) 1 1, .slice (some ⟨w.heap.size + 1 + 1, 0, none⟩) 1 1, .bool true, .bool false, .int .i64 0] 69)).al (.cells #[.int .i64 2, .string ⟨#[]⟩, .int .i64 1, .slice none 0 0] 79)).al (.cells #[.string ⟨#[112]⟩, .slice (some ⟨w.heap.size + 1 + 1 + 1 + 1, 0, none⟩) 1 1, .slice none 0 0, .int .i64 0] 45)
  obtain ⟨W, hW⟩ : ∃ W, W = ((((((w.alloc (.cells #[.slice (some ⟨w.heap.size + 1 + 1 + 1, 0, none⟩) 1 1, .slice (some ⟨w.heap.size + 1 + 1 + 1 + 1 + 1, 0, none⟩) 1 1] 35)).alloc (.cells #[.string ⟨#[120]⟩] 9)).alloc (.cells #[.int .i64 1] 3)).alloc (.cells #[.string ⟨#[112]⟩, .slice (some ⟨w.heap.size + 1, 0, none⟩) 1 1, .slice (some ⟨w.heap.size + 1 + 1, 0, none⟩) 1 1, .bool true, .bool false, .int .i64 0] 69)).alloc (.cells #[.int .i64 2, .string ⟨#[]⟩, .int .i64 1, .slice none 0 0] 79)).alloc (.cells #[.string ⟨#[112]⟩, .slice (some ⟨w.heap.size + 1 + 1 + 1 + 1, 0, none⟩) 1 1, .slice none 0 0, .int .i64 0] 45)) := ⟨_, rfl⟩
  have hz : W.heap.size = w.heap.size + 6 := by rw [hW]; simp
  have R1 : Row (w.heap.size + 1) 9 [.string ⟨#[120]⟩] W := by rw [hW]; exact ((((Row.new' (by simp) _ _).al _).al _).al _).al _
  have R2 : Row (w.heap.size + 1 + 1) 3 [.int .i64 1] W := by rw [hW]; exact (((Row.new' (by simp) _ _).al _).al _).al _
  have R3 : Row (w.heap.size + 1 + 1 + 1) 69 [.string ⟨#[112]⟩, .slice (some ⟨w.heap.size + 1, 0, none⟩) 1 1, .slice (some ⟨w.heap.size + 1 + 1, 0, none⟩) 1 1, .bool true, .bool false, .int .i64 0] W := by rw [hW]; exact ((Row.new' (by simp) _ _).al _).al _
  have R4 : Row (w.heap.size + 1 + 1 + 1 + 1) 79 [.int .i64 2, .string ⟨#[]⟩, .int .i64 1, .slice none 0 0] W := by rw [hW]; exact (Row.new' (by simp) _ _).al _
  have R5 : Row (w.heap.size + 1 + 1 + 1 + 1 + 1) 45 [.string ⟨#[112]⟩, .slice (some ⟨w.heap.size + 1 + 1 + 1 + 1, 0, none⟩) 1 1, .slice none 0 0, .int .i64 0] W := by rw [hW]; exact Row.new' (by simp) _ _
  have hb : Below w.heap.size w W := by
    rw [hW]
    exact ((((((Below.refl _ _).alloc (Nat.le_refl _) _).alloc (by simp) _).alloc (by simp; omega) _).alloc (by simp; omega) _).alloc (by simp; omega) _).alloc (by simp; omega) _
  rw [← hW] at R0
  have h0 := R0.at 0 _ rfl
  have h1 := R0.at 1 _ rfl
  rw [hW] at h0 h1
  refine bodyPost_ret (v := .agg #[.slice (some ⟨w.heap.size + 1 + 1 + 1, 0, none⟩) 1 1, .slice (some ⟨w.heap.size + 1 + 1 + 1 + 1 + 1, 0, none⟩) 1 1]) (by simp [results, Tryz.results26, go_sem, h0, h1]) rfl ?_
  rw [← hW]
  refine ⟨_, rfl, ⟨_, _, rfl, ?_, ?_⟩, hb⟩
  · refine slOne R3 (by omega) rfl ⟨_, _, rfl, by decide, ⟨by decide, by decide⟩, ?_, ?_⟩
    · exact slOne R1 (by omega) rfl ⟨rfl, by decide⟩
    · exact slOne R2 (by omega) rfl ⟨rfl, by decide, by decide⟩
  · refine slOne R5 (by omega) rfl ⟨[.string ⟨#[112]⟩, .slice (some ⟨w.heap.size + 1 + 1 + 1 + 1, 0, none⟩) 1 1], _, rfl, ⟨by decide, by decide⟩, ⟨_, rfl, by decide, ?_⟩, SlOf.nil⟩
    exact slOne R4 (by omega) rfl (.nil _ _ _ ⟨by decide, by decide⟩ (by decide) ⟨by decide, by decide⟩)

def zeroR : Ru := ⟨⟨⟨#[]⟩, []⟩, [], 0⟩
theorem zero_wrong : rightR zeroR = false := by decide +kernel
theorem zero_ru (w : World) (B : Nat) : RuC w B zeroR [.string ⟨#[]⟩, .slice none 0 0, .slice none 0 0, .int .i64 0] :=
  ⟨[.string ⟨#[]⟩, .slice none 0 0], .slice none 0 0, rfl, ⟨by decide, by decide⟩, ⟨_, rfl, by decide, SlOf.nil⟩, SlOf.nil⟩

set_option maxRecDepth 100000 in
set_option maxHeartbeats 4000000 in
theorem shown_c (a : Addr) (w : World) (E : TEnv a w) : Calls Tryz.prog 12 #[] w fun e w' => e = .returned (.bool true) ∧ Below w.heap.size w w' := by
  have HE := Lib.hid E
  have H1 := Lib.hid (fun (W : World) (hb : Below w.heap.size w W) (cs : List Value) (hc : PgC W W.heap.size oneP cs) => pshow_c oneP a W cs hc (E.below hb) (fun _ => by rw [one_text]; decide))
  have H2 := Lib.hid (fun (W : World) (hb : Below w.heap.size w W) => rshow_c zeroR a W _ (zero_ru W _) (E.below hb) (fun h => by rw [zero_wrong] at h; cases h))
  clear E
  go_enter Tryz.func12, Tryz.ntmps12
  go_wp2_with fail
  refine (one_c _).mono ?_
  rintro e w1 ⟨⟨cs⟩, rfl, hc, b1⟩
  go_wp2_with fail
  refine (H1.out w1 b1 cs hc).mono ?_
  rintro e w2 ⟨rfl, b2⟩
  have B2 := b1.trans (b2.mono b1.size)
  rw [one_right, one_text, show ∀ x, shV true x = .tuple #[.string ⟨x.toArray⟩, .int .i64 0] from fun _ => rfl]
  clear hc b1 b2
  go_wp2_with fail
  refine (H2.out w2 B2).mono ?_
  rintro e w3 ⟨rfl, b3⟩
  have B3 := B2.trans (b3.mono B2.size)
  rw [zero_wrong, show ∀ x, shV false x = .tuple #[.string ⟨#[]⟩, .int .i64 30] from fun _ => rfl]
  clear b3 B2
  go_wp2
  go_ret
  exact ⟨rfl, B3⟩
end Go.Proofs.YthjfkngfgomkbaaGreatDoor
