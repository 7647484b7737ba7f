/- Asking level by level: one round more. Plain. -/
import Derived.Test.YtiljpacmkmmlcaaKw
set_option linter.unusedSimpArgs false
set_option linter.unusedVariables false
namespace Go.Proofs.Ytiljpacmkmmlcaa

/-- Those below the one at m that are not asked yet. -/
def moreA (ms A : List Nat) (m : Nat) : List Nat := (List.range ms.length).filter fun k => belowN (ms.getD k 0) (ms.getD m 0) && !A.contains k
theorem more_mem {ms A : List Nat} {m k : Nat} : k ∈ moreA ms A m ↔ k < ms.length ∧ RM ms m k ∧ k ∉ A := by
  unfold moreA RM
  rw [List.mem_filter, List.mem_range, Bool.and_eq_true]
  constructor
  · rintro ⟨h1, h2, h3⟩
    exact ⟨h1, h2, by simpa using h3⟩
  · rintro ⟨h1, h2, h3⟩
    exact ⟨h1, h2, by simpa using h3⟩
theorem more_nodup (ms A : List Nat) (m : Nat) : (moreA ms A m).Nodup := nfilt_nodup List.nodup_range
theorem AskI.first (ms : List Nat) (B : Bh) (j : Nat) : AskI ms.length (RM ms) B j (moreA ms [] j) (fun _ => j) 0 :=
  ⟨more_nodup _ _ _, fun l hl => (more_mem.1 hl).1, fun i l hi => ⟨(more_mem.1 (List.mem_of_getElem? hi)).2.1, .inl rfl⟩, fun l hl hr => more_mem.2 ⟨hl, hr, List.not_mem_nil⟩, fun i l hi => by omega, Nat.zero_le _⟩
def parU (par : Nat → Nat) (l : List Nat) (m : Nat) : Nat → Nat := fun k => if k ∈ l then m else par k
theorem AskI.step {ms : List Nat} {B : Bh} {j : Nat} {A : List Nat} {par : Nat → Nat} {d l0 m : Nat} (h : AskI ms.length (RM ms) B j A par d) (hd : A[d]? = some l0) (hm : B l0 = some m) : AskI ms.length (RM ms) B j (A ++ moreA ms A m) (parU par (moreA ms A m) m) (d + 1) := by
  have hdl := (List.getElem?_eq_some_iff.1 hd).1
  have hdis : ∀ a ∈ A, ∀ b ∈ moreA ms A m, a ≠ b := fun a ha b hb e => (more_mem.1 hb).2.2 (e ▸ ha)
  have hl : ∀ (i l : Nat), (A ++ moreA ms A m)[i]? = some l → (i < A.length ∧ A[i]? = some l) ∨ (A.length ≤ i ∧ l ∈ moreA ms A m) := fun i l hi => by
    rw [List.getElem?_append] at hi
    split at hi
    · rename_i h1; exact .inl ⟨h1, hi⟩
    · rename_i h1; exact .inr ⟨by omega, List.mem_of_getElem? hi⟩
  have ha : ∀ (i l : Nat), A[i]? = some l → (A ++ moreA ms A m)[i]? = some l := fun i l hi => by rw [List.getElem?_append_left (List.getElem?_eq_some_iff.1 hi).1]; exact hi
  refine ⟨List.nodup_append.2 ⟨h.nd, more_nodup _ _ _, hdis⟩, fun l hl => ?_, fun i l hi => ?_, fun l hl hr => List.mem_append_left _ (h.top l hl hr), fun i l hid hi => ?_, by rw [List.length_append]; omega⟩
  · rcases List.mem_append.1 hl with hl | hl
    · exact h.lt l hl
    · exact (more_mem.1 hl).1
  · rcases hl i l hi with ⟨h1, h2⟩ | ⟨h1, h2⟩
    · have hn : l ∉ moreA ms A m := fun hm => hdis l (List.mem_of_getElem? h2) l hm rfl
      have e : parU par (moreA ms A m) m l = par l := if_neg hn
      rw [e]
      obtain ⟨a, b⟩ := h.par i l h2
      exact ⟨a, b.imp id fun ⟨i', l', q1, q2, q3⟩ => ⟨i', l', q1, ha i' l' q2, q3⟩⟩
    · have e : parU par (moreA ms A m) m l = m := if_pos h2
      rw [e]
      exact ⟨(more_mem.1 h2).2.1, .inr ⟨d, l0, by omega, ha d l0 hd, hm⟩⟩
  · by_cases e : i = d
    · subst e
      have : l = l0 := by
        have := ha i l0 hd
        rw [hi] at this
        exact Option.some.inj this
      subst this
      refine ⟨m, hm, fun x hx hr => ?_⟩
      by_cases hxa : x ∈ A
      · exact List.mem_append_left _ hxa
      · exact List.mem_append_right _ (more_mem.2 ⟨hx, hr, hxa⟩)
    · rcases hl i l hi with ⟨h1, h2⟩ | ⟨h1, h2⟩
      · obtain ⟨m', q1, q2⟩ := h.done i l (by omega) h2
        exact ⟨m', q1, fun x hx hr => List.mem_append_left _ (q2 x hx hr)⟩
      · omega
end Go.Proofs.Ytiljpacmkmmlcaa
