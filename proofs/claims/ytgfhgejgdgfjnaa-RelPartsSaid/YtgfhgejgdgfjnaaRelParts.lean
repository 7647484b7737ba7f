/- RelParts: for every input the law answers true and each argument reads behind the call as it read before. No condition on the arguments. -/
import Derived.Test.YtgfhgejgdgfjnaaRlpts
import Derived.Test.YtgfhgejgdgfjnaaRopen
import Derived.Handed
namespace Go.Proofs.Ytgfhgejgdgfjnaa.relParts
open Go.ChangeShapes Go.WideShapes Go.ChangeAt Go.RowKit

theorem types : ∀ t ∈ Try.f9.params.toList, Try.prog.readableRec t = true ∧ t < Try.prog.types.size := by
  intro t ht
  rw [Try.params9] at ht
  have hm : t ∈ [23, 3, 43] := by simpa using ht
  have hall : ([23, 3, 43].all fun u => Try.prog.readableRec u && decide (u < Try.prog.types.size)) = true := by kernel_rfl
  simpa using List.all_eq_true.1 hall t hm

set_option maxRecDepth 100000 in
set_option maxHeartbeats 4000000 in
theorem contract (H : Type) (enc : TypeId × Value → H) (W : World) (base : Nat) (args : Array Value) (ds gs : List (DataW H)) (before : List MemPlace)
    (hval : ∀ (j : Nat) t v, Try.f9.params[j]? = some t → args[j]? = some v → Value.okWide Try.prog W .any base t v)
    (hW : DataW.Whole enc Try.prog Try.f9.params.toList Rows.relPartsSpec.vars false W args.toList ds gs before)
    (hz : ∀ (j : Nat) t d, Try.f9.params.toList[j]? = some t → ds[j]? = some d → smallD t d) :
    Calls Try.prog 9 args W fun e W' => ∃ v, e = .returned v ∧ Rows.relPartsSpec.post enc Try.prog Try.f9 false true false false W args v W' := by
  have hW' := hW
  obtain ⟨p, q, hA0, hV, rfl, hfz, hnd⟩ := hW
  have hA : DataW.TrodAll enc Try.prog W 0 (fun _ => true) true Try.f9.params.toList args.toList ds p := hA0
  rw [Try.params9] at hA hval hz
  obtain ⟨v0, vs0, d0, ds0, p0, q0, hargs, rfl, rfl, h0, r0⟩ := trodAll_cons hA
  obtain ⟨v1, vs1, d1, ds1, p1, q1, rfl, rfl, rfl, h1, r1⟩ := trodAll_cons r0
  obtain ⟨v2, vs2, d2, ds2, p2, q2, rfl, rfl, rfl, h2, r2⟩ := trodAll_cons r1
  obtain ⟨v3, vs3, d3, ds3, p3, q3, rfl, rfl, rfl, h3, r3⟩ := trodAll_cons r2
  obtain ⟨v4, vs4, d4, ds4, p4, q4, rfl, rfl, rfl, h4, r4⟩ := trodAll_cons r3
  obtain ⟨rfl, rfl, rfl⟩ := trodAll_nil r4
  obtain rfl : args = #[v0, v1, v2, v3, v4] := by cases args; simp_all
  obtain ⟨x0, sx0, fx0⟩ := open_rows (hval 0 23 v0 rfl rfl) h0
  obtain ⟨x1, rfl, rfl, rfl, wx1⟩ := open_int Try.underlying3 (hval 1 3 v1 rfl rfl) h1
  obtain ⟨x2, rfl, rfl, rfl, wx2⟩ := open_int Try.underlying3 (hval 2 3 v2 rfl rfl) h2
  obtain ⟨cs3, rfl, _⟩ := okWide_struct Try.underlying43 (hval 3 43 v3 rfl rfl)
  obtain ⟨fu3, hf3⟩ := h3
  obtain ⟨x3, sx3⟩ := open_val fu3 cs3.toList _ hf3
  obtain ⟨ex3, nx3, zx3⟩ := sx3
  obtain rfl : cs3 = #[.bool x3.sym, .int .i64 x3.n, .string x3.s] := by cases cs3; simp_all
  obtain ⟨cs4, rfl, _⟩ := okWide_struct Try.underlying43 (hval 4 43 v4 rfl rfl)
  obtain ⟨fu4, hf4⟩ := h4
  obtain ⟨x4, sx4⟩ := open_val fu4 cs4.toList _ hf4
  obtain ⟨ex4, nx4, zx4⟩ := sx4
  obtain rfl : cs4 = #[.bool x4.sym, .int .i64 x4.n, .string x4.s] := by cases cs4; simp_all
  refine (relParts_c x0 x1 x2 x3 x4 v0 W sx0 (int64_bounds wx1) (int64_bounds wx2) nx3 zx3 nx4 zx4 (fx0 (hz 0 23 d0 rfl rfl))).mono fun e W' ⟨he, hb⟩ => ?_
  subst he
  exact ⟨_, rfl, law_post hW' rfl (by kernel_rfl) rfl types hb⟩

set_option maxRecDepth 100000 in
theorem lifted (os : Os) (started : os.Started) (H : Type) (enc : TypeId × Value → H) :
    ReturnsInHanded {} Try.checked os 9 .any (Rows.relPartsSpec.pre6 enc Try.prog Try.f9 Rows.relPartsRow.domain false) (Rows.relPartsSpec.post enc Try.prog Try.f9 false true false false) := by
  refine returnsInHanded_of_change_sized (C := Try.checked) own started (by kernel_rfl) Try.func9
    (ChangeSpec.witness6 (enc := enc) (C := Try.checked) false ⟨#[], #[.slice none 0 0, .int .i64 0, .int .i64 0, .agg #[.bool false, .int .i64 0, .string ⟨#[]⟩], .agg #[.bool false, .int .i64 0, .string ⟨#[]⟩]], []⟩ 8 (by kernel_rfl) (by kernel_rfl) (by kernel_rfl) (by kernel_rfl)) ?_
  intro W base args ds gs before hval hW _ hsz _
  refine contract H enc W base args ds gs before hval hW fun j t d ht hd => ?_
  refine List.all_eq_true.2 fun n hn => List.all_eq_true.1 hsz n (DataW.weights_mem_each (j := j) (t := t) (d := d) ?_ ?_ n hn)
  · rw [List.getElem?_append_left (List.getElem?_eq_some_iff.1 ht).1]; exact ht
  · rw [List.getElem?_append_left (List.getElem?_eq_some_iff.1 hd).1]; exact hd

theorem over : Rows.relPartsRow.holds Try.pinned (OpenSpec.ofChange Rows.relPartsSpec) :=
  OpenClaim.holds_of_wide 9 Try.f9 rfl rfl rfl rfl rfl rfl rfl ⟨rfl, rfl, rfl, rfl, rfl⟩ rfl rfl rfl rfl rfl (by kernel_rfl) Try.func9 (by kernel_rfl)
    (of_decide_eq_true (by kernel_rfl)) (by unfold Func.isWrapper; rw [if_neg (of_decide_eq_false (by kernel_rfl))]; exact ⟨rfl, rfl⟩)
    (fun os started H enc _ => lifted os started H enc)
theorem proved : Rows.RelPartsSaid := over
end Go.Proofs.Ytgfhgejgdgfjnaa.relParts
namespace Go.Proofs.Ytgfhgejgdgfjnaa
open Go
theorem relParts_holds : Rows.RelPartsSaid := relParts.proved
end Go.Proofs.Ytgfhgejgdgfjnaa
