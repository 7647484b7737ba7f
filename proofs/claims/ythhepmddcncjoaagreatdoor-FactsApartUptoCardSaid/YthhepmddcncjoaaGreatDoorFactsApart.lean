/- FactsApart: for every input the law answers true and each argument reads behind the call as it read before: the row, and the card that ties the listed variables to the program's text. Condition: the arguments hold at most 1048576 values and letters. -/
import Derived.Test.YthhepmddcncjoaaGreatDoorKFla
import Derived.Test.YthhepmddcncjoaaGreatDoorKFw
import Derived.Test.YthhepmddcncjoaaGreatDoorKRef
set_option linter.unusedSimpArgs false
set_option linter.unusedVariables false
namespace Go.Proofs.YthhepmddcncjoaaGreatDoor.factsApart
open Go.ChangeShapes Go.WideShapes Go.ChangeAt Go.RowKit
open Go.ChangeMaps (open_string shut_string)

theorem reads (os : Os) {H : Type} (enc : TypeId × Value → H) : ∃ places, DataW.whole enc Tryz.prog ((doorW os).forCall (fun _ _ => 0) ⟨#[], #[.agg #[.string ⟨#[]⟩, .slice none 0 0, .slice none 0 0, .bool false, .bool false, .int .i64 0], .agg #[.string ⟨#[]⟩, .slice none 0 0, .slice none 0 0, .bool false, .bool false, .int .i64 0], .slice none 0 0, .slice none 0 0], []⟩).memory Tryz.f9.params.toList Rows.factsApartSpec.vars false #[(Value.agg #[.string ⟨#[]⟩, .slice none 0 0, .slice none 0 0, .bool false, .bool false, .int .i64 0]), (Value.agg #[.string ⟨#[]⟩, .slice none 0 0, .slice none 0 0, .bool false, .bool false, .int .i64 0]), (Value.slice none 0 0), (Value.slice none 0 0)].toList 8 = some ([.agg [.lit (.string []), .nil, .nil, .lit (.bool false), .lit (.bool false), .lit (.int .i64 0)], .agg [.lit (.string []), .nil, .nil, .lit (.bool false), .lit (.bool false), .lit (.int .i64 0)], .nil, .nil], [], places) :=
  ⟨[], by kernel_rfl⟩
theorem types : ∀ t ∈ Tryz.f9.params.toList, Tryz.prog.readableRec t = true ∧ t < Tryz.prog.types.size := by
  intro t ht
  rw [Tryz.params9] at ht
  have hm : t ∈ [38, 39] := by simpa using ht
  have hall : ([38, 39].all fun u => Tryz.prog.readableRec u && decide (u < Tryz.prog.types.size)) = true := by kernel_rfl
  simpa using List.all_eq_true.1 hall t hm

set_option maxRecDepth 100000 in
theorem contract (H : Type) (enc : TypeId × Value → H) (W : World) (base : Nat) (args : Array Value) (ds gs : List (DataW H)) (before : List MemPlace)
    (hval : ∀ (j : Nat) t v, Tryz.f9.params[j]? = some t → args[j]? = some v → Value.okWide Tryz.prog W .any base t v)
    (hW : DataW.Whole enc Tryz.prog Tryz.f9.params.toList Rows.factsApartSpec.vars false W args.toList ds gs before) (hL : laidMetH Tryz.prog Rows.factsApartUptoRow.laid W) (hSh : W.ShapedOpen Tryz.prog) (hk : Rows.uptoSmall H (ds ++ gs) = true) :
    Calls Tryz.prog 9 args W fun e W' => ∃ v, e = .returned v ∧ Rows.factsApartSpec.post enc Tryz.prog Tryz.f9 false true false false W args v W' := by
  have hW' := hW
  obtain ⟨p, q, hA0, hV, rfl, hfz, hnd⟩ := hW
  have hA : DataW.TrodAll enc Tryz.prog W 0 (fun _ => true) true Tryz.f9.params.toList args.toList ds p := hA0
  rw [Tryz.params9] at hA hval
  obtain ⟨v0, vs0, d0, ds0, p0, q0, hargs, rfl, rfl, h0, r0⟩ := trodAll_cons hA
  obtain ⟨v1, vs1, d1, ds1, p1, q1, rfl, rfl, rfl, h1, r1⟩ := trodAll_cons r0
  obtain ⟨v2, vs2, d2, ds2, p2, q2, rfl, rfl, rfl, h2, r2⟩ := trodAll_cons r1
  obtain ⟨v3, vs3, d3, ds3, p3, q3, rfl, rfl, rfl, h3, r3⟩ := trodAll_cons r2
  obtain ⟨rfl, rfl, rfl⟩ := trodAll_nil r3
  obtain rfl : args = #[v0, v1, v2, v3] := by cases args; simp_all
  obtain ⟨cs0, rfl, _⟩ := okWide_struct Tryz.underlying38 (hval 0 38 v0 rfl rfl)
  obtain ⟨fu0, hf0⟩ := h0
  obtain ⟨x0, sx0, bx0⟩ := open_declF fu0 cs0.toList _ hf0
  have hx0 := Nat.le_trans bx0 (Nat.le_trans (bulk_mem (by simp)) (upto_bound hk))
  obtain ⟨cs1, rfl, _⟩ := okWide_struct Tryz.underlying38 (hval 1 38 v1 rfl rfl)
  obtain ⟨fu1, hf1⟩ := h1
  obtain ⟨x1, sx1, bx1⟩ := open_declF fu1 cs1.toList _ hf1
  have hx1 := Nat.le_trans bx1 (Nat.le_trans (bulk_mem (by simp)) (upto_bound hk))
  obtain ⟨x2, sx2, bx2⟩ := open_val1 (hval 2 39 v2 rfl rfl) h2
  have hx2 := Nat.le_trans bx2 (Nat.le_trans (bulk_mem (by simp)) (upto_bound hk))
  obtain ⟨x3, sx3, bx3⟩ := open_val1 (hval 3 39 v3 rfl rfl) h3
  have hx3 := Nat.le_trans bx3 (Nat.le_trans (bulk_mem (by simp)) (upto_bound hk))
  obtain ⟨a, b, m, E⟩ := env_of_laid (show laidMetH Tryz.prog laidAll W from hL) hSh
  refine (factsApart_c x0 x1 v2 x2 v3 x3 a b m W cs0.toList cs1.toList sx0 hx0 sx1 hx1 sx2 hx2 sx3 hx3 E).mono fun e W' ⟨he, hb⟩ => ?_
  subst he
  exact ⟨_, rfl, law_post hW' rfl (by kernel_rfl) rfl types hb⟩

set_option maxRecDepth 100000 in
theorem lifted (os : Os) (started : os.Started) (H : Type) (enc : TypeId × Value → H) (F : Stop.Interp) :
    ReturnsInHanded {} Tryz.checked os 9 .any ((Rows.OpenSpec.upto Rows.factsApartSpec).preRow enc Tryz.prog Tryz.f9 Rows.factsApartUptoRow.domain false Rows.factsApartUptoRow.laid) (((Rows.OpenSpec.upto Rows.factsApartSpec).at F).post enc Tryz.prog Tryz.f9 false true false false) := by
  obtain ⟨places, hx⟩ := reads os enc
  refine returnsInHanded_of_row (C := Tryz.checked) (s := Rows.OpenSpec.upto Rows.factsApartSpec) own started (by kernel_rfl) Tryz.func9
    (witness_row_atRef (enc := enc) (C := Tryz.checked) false (doorW os) #[.agg #[.string ⟨#[]⟩, .slice none 0 0, .slice none 0 0, .bool false, .bool false, .int .i64 0], .agg #[.string ⟨#[]⟩, .slice none 0 0, .slice none 0 0, .bool false, .bool false, .int .i64 0], .slice none 0 0, .slice none 0 0] rfl (by kernel_rfl) (by kernel_rfl) (by kernel_rfl)
      (OpenSpec.preRow_of_cond 8 hx (by kernel_rfl) (fun k hk => by cases hk; kernel_rfl) (by kernel_rfl) (door_met os _))) ?_
  intro W base args ds gs before hval hW _ hc _ hL hSh _
  exact contract H enc W base args ds gs before hval hW hL hSh (hc _ rfl)

theorem said : Rows.FactsApartUptoSaid :=
  OpenClaim.holds_of_cond 9 Tryz.f9 rfl rfl rfl rfl rfl rfl rfl ⟨rfl, rfl, rfl, rfl, rfl⟩ rfl rfl rfl rfl rfl (by kernel_rfl) Tryz.func9 (by kernel_rfl)
    (of_decide_eq_true (by kernel_rfl)) (by unfold Func.isWrapper; rw [if_neg (of_decide_eq_false (by kernel_rfl))]; exact ⟨rfl, rfl⟩)
    (fun os started H enc _ F => by rw [OpenClaim.pre_eq_preRow]; exact lifted os started H enc F)

theorem plain (f : FuncId) (fn : Func) (hf : Tryz.pinned.checked.prog.funcNamed "sorites/soriteslaw10.FactsApart" = some f) (hfn : Tryz.pinned.checked.prog.funcs[f]? = some fn) :
    true = Tryz.pinned.checked.prog.looks [] ∧ ∀ (j : Nat) t, fn.params[j]? = some t → Tryz.pinned.checked.prog.wantsStandIn t = false := by
  obtain rfl : f = 9 := Option.some.inj ((show Tryz.prog.funcNamed "sorites/soriteslaw10.FactsApart" = some 9 by kernel_rfl).symm.trans hf) |>.symm
  obtain rfl : fn = Tryz.f9 := (Option.some.inj (Tryz.func9.symm.trans hfn)).symm
  refine ⟨by kernel_rfl, fun j t ht => ?_⟩
  rw [Tryz.params9] at ht
  have hm : t ∈ [38, 39] := by
    have := Array.mem_of_getElem? ht
    simpa using this
  have hall : ([38, 39].all fun u => !Tryz.prog.wantsStandIn u) = true := by kernel_rfl
  exact (show Tryz.prog.wantsStandIn t = false by simpa using List.all_eq_true.1 hall t hm)
end Go.Proofs.YthhepmddcncjoaaGreatDoor.factsApart
namespace Go.Proofs.YthhepmddcncjoaaGreatDoor
open Go
theorem factsApart_holds : Rows.FactsApartUptoCardSaid :=
  Claim7.holds_tied_plain_at .later [] _ _ _ _ factsApart.said (fun _ h => by cases h) (by kernel_rfl) (fun _ h => by cases h) factsApartUpto_row_tie rfl ⟨rfl, rfl⟩ (by kernel_rfl) rfl factsApart.plain (by kernel_rfl)
end Go.Proofs.YthhepmddcncjoaaGreatDoor
