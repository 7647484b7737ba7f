/- Si6@01, Zframe@01 -/
import Derived.Deep.DeepHandedRow
import Derived.Deep.DeepWitnessRowRef
import Derived.LaidHandle
import Derived.LaidMore
import Derived.OpenShut
import Derived.ProofKit
import Derived.Stop.LaidErr
import Derived.Stop.LaidTwo
import Derived.Test.YtfmldnbcjbflbaaGreatDoorCards
import Derived.Test.YtfmldnbcjbflbaaGreatDoorTie
import Derived.Test.YtfmldnbcjbflbaaGreatDoorQ38
set_option linter.unusedSimpArgs false
set_option linter.unusedVariables false
namespace Go.Proofs.YtfmldnbcjbflbaaGreatDoor
open Go.RowKit
theorem walk_up {r:Ru} {n:Nat} (h:walk6 r n=none):∀ j,walk6 r (n+j)=none
 | 0=>h
 | j+1=>by rw[← Nat.add_assoc,walk6,walk_up h j];rfl
theorem ord_right {r:Ru} (h:ordE r=0):rightR r=true:=by
 cases hr:rightR r with
 | true=>rfl
 | false=>unfold ordE at h;rw[hr] at h;cases h
theorem walk_pre {r:Ru} (h:ordE r=0) {n:Nat} (hn:n≤r.body.length):walk6 r n≠none:=fun hw=>by
 have h1:=walk_up hw (r.body.length - n)
 rw[show n+(r.body.length - n)=r.body.length by omega] at h1
 rw[ord6_bad (ord_right h) h1] at h
 cases h
open Go.ChangeShapes Go.WideShapes Go.ChangeAt Go.RowKit
theorem own:ownKnob Tryz.prog.godebug=none:=by kernel_rfl
theorem laidOut:laidOutB Tryz.prog=true:=by kernel_rfl
theorem cellsE:Tryz.prog.cellsOf 216=1:=by kernel_rfl
theorem cellsS:Tryz.prog.cellsOf 9=1:=by kernel_rfl
theorem star : "*" ++ "errors.errorString" = "*errors.errorString" := by decide
theorem rowE (u : TypeId) (h : Tryz.prog.typeName? 3 u = some "*errors.errorString") : u = 191 :=
 typeName_ptr_named (nm := "errors.errorString") (by rw [star]; kernel_rfl) (by kernel_rfl) (by decide) u (by rw [star]; exact h)
theorem gTree : Tryz.prog.globalNamed "sorites/dtree.errTree" = some 0 := by kernel_rfl
theorem gTreeType:(Tryz.prog.globals[0]?).map (·.type)=some 62:=by kernel_rfl
theorem gZt : Tryz.prog.globalNamed "sorites/dsafe.errTree" = some 5 := by kernel_rfl
theorem gZtT:(Tryz.prog.globals[5]?).map (·.type)=some 62:=by kernel_rfl
theorem gZu : Tryz.prog.globalNamed "sorites/dsafe.errUnsafe" = some 6 := by kernel_rfl
theorem gZuT:(Tryz.prog.globals[6]?).map (·.type)=some 62:=by kernel_rfl
abbrev laidAll : List (String × DataW Unit) := [("sorites/dtree.errTree", Rows.laid_sorites_dtree_errTree), ("sorites/dsafe.errTree", Rows.laid_sorites_dsafe_errTree), ("sorites/dsafe.errUnsafe", Rows.laid_sorites_dsafe_errUnsafe)]
theorem var_lt {W:World} {n:String} {g:Nat} {cs:Array Value} (h:W.var? Tryz.prog n=some cs) (hg:Tryz.prog.globalNamed n=some g):g < W.heap.size:=by
 unfold World.var? at h
 simp only[hg,Option.bind_some] at h
 rcases Nat.lt_or_ge g W.heap.size with h' | h'
 ·exact h'
 ·simp[Array.getElem?_eq_none h'] at h
theorem env_of_laid {W:World} (h:laidMetH Tryz.prog laidAll W):∃ t a u,EnvZ t a u W:=by
 rw[MakeChecks.laidMetH_plain _ _ _ (by kernel_rfl)] at h
 have two := fun {n0 n1 : String} {text0 text1 : List UInt8} {r : List (String × DataW Unit)} {g0 g1 : Nat} (h : laidMet Tryz.prog ((n0, .iface "*errors.errorString" (.ptr (.agg [.lit (.string text0)]))) :: (n1, .iface "*errors.errorString" (.ptr (.agg [.lit (.string text1)]))) :: r) W) (hg0 : Tryz.prog.globalNamed n0 = some g0) (ht0 : (Tryz.prog.globals[g0]?).map (·.type) = some 62) (hg1 : Tryz.prog.globalNamed n1 = some g1) (ht1 : (Tryz.prog.globals[g1]?).map (·.type) = some 62) =>
  laid_sentinels2 h hg0 ht0 hg1 ht1 Tryz.underlying62 rowE Tryz.underlying191 Tryz.underlying216 rfl rfl Tryz.underlying9 cellsE cellsS
 obtain⟨t,st,hvt,_⟩:=laid_sentinel h gTree gTreeType Tryz.underlying62 rowE Tryz.underlying191 Tryz.underlying216 rfl rfl Tryz.underlying9 cellsE cellsS
 obtain⟨a,u,_,_,ca,cu,ta,tu,hva,hvu,_,_,_,_,_,_,hau,ra,ru⟩:=two h.tail gZt gZtT gZu gZuT
 exact⟨t,a,u,⟨by simpa using World.var?_cell gTree hvt 0,var_lt hvt gTree⟩,⟨by simpa[errV] using World.var?_cell gZt hva 0,by simpa[errV] using World.var?_cell gZu hvu 0,hau,⟨ca,ta,ra⟩,⟨cu,tu,ru⟩,var_lt hva gZt,var_lt hvu gZu,heap_lt ra,heap_lt ru⟩⟩
theorem door_met (os:Os) (args:Array Value):laidMetH Tryz.prog laidAll ((World.doorLaid Tryz.prog 142 os).forCall (fun _ _=>0) ⟨#[],args,[]⟩).memory:=by
 rw[MakeChecks.laidMetH_plain _ _ _ (by kernel_rfl)]
 exact laidMet_of_run' 8 (by kernel_rfl) (by kernel_rfl)
theorem below_trodAll {H:Type} {enc:TypeId × Value→H} {W W':World} (hb:Below W.heap.size W W') :
  ∀ {ts:List TypeId} {vs:List Value} {ds:List (DataW H)} {ps:List MemPlace},(∀ t ∈ ts,Tryz.prog.readableRec t=true∧t < Tryz.prog.types.size) →
   DataW.TrodAll enc Tryz.prog W 0 (fun _=>true) true ts vs ds ps→(∀ x ∈ ps,x.block < W.heap.size)→DataW.TrodAll enc Tryz.prog W' 0 (fun b=>decide (b < W.heap.size)) true ts vs ds ps
 | [],_,_,_,_,h,_=>by
  obtain⟨rfl,rfl,rfl⟩:=trodAll_nil h
  exact trodAll_mk0
 | t::ts,_,_,_,hr,h,hlt=>by
  obtain⟨v,vs',d,ds',p,q,rfl,rfl,rfl,h1,h2⟩:=trodAll_cons h
  exact trodAll_cons_mk (Below.trod laidOut (hr t (by simp)).1 (hr t (by simp)).2 h1 hb (fun x hx=>hlt x (by simp[hx])))
   (below_trodAll hb (fun t' ht'=>hr t' (by simp[ht'])) h2 (fun x hx=>hlt x (by simp[hx])))
theorem law_post {H:Type} {enc:TypeId × Value→H} {f:Func} {s:ChangeSpec} {W W':World} {args:Array Value} {ds gs:List (DataW H)} {before:List MemPlace}
  (hW:DataW.Whole enc Tryz.prog f.params.toList s.vars false W args.toList ds gs before) (hv:s.vars=[]) (hrt:f.resultTypes=#[4])
  (hfn:s.fn H ds={ results:=[.lit (.bool true)],args:=ds }) (hr:∀ t ∈ f.params.toList,Tryz.prog.readableRec t=true∧t < Tryz.prog.types.size) (hb:Below W.heap.size W W') :
  s.post enc Tryz.prog f false true false false W args (.bool true) W':=by
 have hlt:∀ x ∈ before,x.block < W.heap.size:=fun x hx=>by simpa using hW.lt x hx
 have hW0:=hW
 obtain⟨p,q,hA,hV,rfl,_,_⟩:=hW0
 rw[hv] at hV
 obtain⟨rfl,rfl⟩:=trodVars_none hV
 have e1:s.fn H (ds++[])={ results:=[.lit (.bool true)],args:=ds }:=by rw[List.append_nil];exact hfn
 refine⟨ds,[],p++[],[],p,[],hW,?_,?_,?_,World.keptBut_mono (fun _ h=>h.elim) (hb.frame (fun _=>False)),fun h=>by cases h⟩
 ·rw[e1,hrt]
  exact trodAll_mk1 (shut_bool Tryz.underlying4 true)
 ·rw[e1]
  exact below_trodAll hb hr hA (fun x hx=>hlt x (by simp[hx]))
 ·rw[e1,hv]
  rfl
end Go.Proofs.YtfmldnbcjbflbaaGreatDoor
