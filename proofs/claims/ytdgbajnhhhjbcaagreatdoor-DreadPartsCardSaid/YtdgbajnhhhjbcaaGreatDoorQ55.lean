/- Tframe@012 -/
import Derived.Deep.DeepHandedRow
import Derived.Deep.DeepWitnessRowRef
import Derived.LaidHandle
import Derived.LaidMore
import Derived.Lib.LaidTab
import Derived.OpenShut
import Derived.ProofKit
import Derived.Stop.LaidErr
import Derived.Stop.LaidTwo
import Derived.Test.YtdgbajnhhhjbcaaGreatDoorCards
import Derived.Test.YtdgbajnhhhjbcaaGreatDoorTie
import Derived.Test.YtdgbajnhhhjbcaaGreatDoorQ47
set_option linter.unusedSimpArgs false
set_option linter.unusedVariables false
namespace Go.Proofs.YtdgbajnhhhjbcaaGreatDoor
open Go.ChangeShapes Go.WideShapes Go.ChangeAt Go.RowKit
def strData {H:Type} (l:List (List UInt8)):DataW H:=.agg (l.map fun s=>.lit (.string s))
theorem cells_of_strs {H:Type} {enc:TypeId × Value→H} {P:Program} {w:World} {base:Nat} {sp:Nat→Bool} {held:Bool} {fuel:Nat} {t e:TypeId} {n:Nat} {cs:List Value} {zs:List (List UInt8)} {p:List MemPlace}
  (ht:P.underlying t=some (.array n e)) (he:P.underlying e=some .string) (hce:P.cellsOf e=1) (hct:P.cellsOf t=n)
  (h:DataW.trod enc P w base sp held fuel t cs=some (strData zs,p)):cs=zs.map bs:=by
 cases fuel with
 | zero=>simp[DataW.trod] at h
 | succ fuel=>
  simp only[DataW.trod,ht,hce,hct,Nat.mul_one] at h
  split at h
  ·rename_i hl
   obtain⟨xs,hm,hx⟩:=Option.map_eq_some_iff.1 h
   have hxs:xs.map (·.1)=zs.map fun z=>(DataW.lit (.string z):DataW H):=by
    have:=congrArg Prod.fst hx
    simpa[strData] using this
   have hxl:xs.length=n:=by simpa using Lib.mapM_length hm
   have hzl:zs.length=n:=by
    have:=congrArg List.length hxs
    simp at this
    omega
   apply List.ext_getElem?
   intro i
   by_cases hi:i < n
   ·obtain⟨b,hb,hf⟩:=Lib.mapM_at hm i i (by simp[hi])
    obtain⟨z,hc,rfl,_⟩:=DataW.trod_string he hf
    have h1:cs[i]?=some (.string z):=by
     have:=congrArg (·[0]?) hc
     simpa[List.getElem?_take,List.getElem?_drop] using this
    have h2:(xs.map (·.1))[i]?=some (DataW.lit (.string z.data.toList):DataW H):=by simp[hb]
    rw[hxs] at h2
    simp only[List.getElem?_map,Option.map_eq_some_iff,DataW.lit.injEq,Lit.string.injEq] at h2
    obtain⟨z',hz',rfl⟩:=h2
    simp[h1,hz',bs]
   ·rw[List.getElem?_eq_none (by omega),List.getElem?_eq_none (by simp;omega)]
  ·cases h
theorem strs_of_head {P:Program} {W:World} {name:String} {zs:List (List UInt8)} {rest:List (String × DataW Unit)} {g:Nat} {t e:TypeId} {n:Nat}
  (hg:P.globalNamed name=some g) (hty:(P.globals[g]?).map (·.type)=some t) (ht:P.underlying t=some (.array n e)) (he:P.underlying e=some .string) (hce:P.cellsOf e=1) (hct:P.cellsOf t=n)
  (h:laidMet P ((name,strData zs)::rest) W):W.var? P name=some (zs.map bs).toArray:=by
 obtain⟨ps,⟨g',t',cs,fuel,p,q,hg',ht',hvar,hd,_,_⟩,_⟩:=h
 obtain rfl:=Option.some.inj (hg.symm.trans hg')
 obtain rfl:=Option.some.inj (hty.symm.trans ht')
 rw[hvar,← cells_of_strs ht he hce hct hd]
theorem own:ownKnob Tryz.prog.godebug=none:=by kernel_rfl
theorem laidOut:laidOutB Tryz.prog=true:=by kernel_rfl
theorem cellsE:Tryz.prog.cellsOf 297=1:=by kernel_rfl
theorem cellsS:Tryz.prog.cellsOf 9=1:=by kernel_rfl
theorem star : "*" ++ "errors.errorString" = "*errors.errorString" := by decide
theorem rowE (u : TypeId) (h : Tryz.prog.typeName? 3 u = some "*errors.errorString") : u = 295 :=
 typeName_ptr_named (nm := "errors.errorString") (by rw [star]; kernel_rfl) (by kernel_rfl) (by decide) u (by rw [star]; exact h)
theorem gForm : Tryz.prog.globalNamed "sorites/text.errForm" = some 7 := by kernel_rfl
theorem gFormType:(Tryz.prog.globals[7]?).map (·.type)=some 75:=by kernel_rfl
theorem gNone : Tryz.prog.globalNamed "sorites/dlex.errNone" = some 4 := by kernel_rfl
theorem gNoneType:(Tryz.prog.globals[4]?).map (·.type)=some 75:=by kernel_rfl
theorem gMany : Tryz.prog.globalNamed "sorites/dlex.errMany" = some 1 := by kernel_rfl
theorem gManyType:(Tryz.prog.globals[1]?).map (·.type)=some 75:=by kernel_rfl
theorem gTypeOf : Tryz.prog.globalNamed "errors.errorType" = some 2 := by kernel_rfl
theorem gRt : (Tryz.prog.cutTypes.find? (·.1 == "internal/reflectlite.rtype")).map (·.2) = some 154 := by kernel_rfl
theorem oneRow:((List.range 324).filter fun t=>Tryz.prog.rowNamed t [101,114,114,111,114])=[75]:=by kernel_rfl
theorem typesSize:Tryz.prog.types.size=324:=by kernel_rfl
theorem gRange : Tryz.prog.globalNamed "strconv.ErrRange" = some 13 := by kernel_rfl
theorem gRangeType:(Tryz.prog.globals[13]?).map (·.type)=some 75:=by kernel_rfl
theorem gSyntax : Tryz.prog.globalNamed "strconv.ErrSyntax" = some 12 := by kernel_rfl
theorem gSyntaxType:(Tryz.prog.globals[12]?).map (·.type)=some 75:=by kernel_rfl
theorem gTree : Tryz.prog.globalNamed "sorites/dtree.errTree" = some 0 := by kernel_rfl
theorem gTreeType:(Tryz.prog.globals[0]?).map (·.type)=some 75:=by kernel_rfl
theorem gTypes : Tryz.prog.globalNamed "sorites/dtree.typeWords" = some 3 := by kernel_rfl
theorem gTypesType:(Tryz.prog.globals[3]?).map (·.type)=some 143:=by kernel_rfl
theorem gSigns : Tryz.prog.globalNamed "sorites/dtree.termSigns" = some 8 := by kernel_rfl
theorem gSignsType:(Tryz.prog.globals[8]?).map (·.type)=some 216:=by kernel_rfl
theorem gWords : Tryz.prog.globalNamed "sorites/dtree.litWords" = some 5 := by kernel_rfl
theorem gWordsType:(Tryz.prog.globals[5]?).map (·.type)=some 184:=by kernel_rfl
theorem gPowType:(Tryz.prog.globals[9]?).map (·.type)=some 275:=by kernel_rfl
theorem cells20:Tryz.prog.cellsOf 275=20:=by kernel_rfl
theorem cellsU:Tryz.prog.cellsOf 240=1:=by kernel_rfl
theorem cells3s:Tryz.prog.cellsOf 143=3:=by kernel_rfl
theorem cells8s:Tryz.prog.cellsOf 216=8:=by kernel_rfl
theorem cells11s:Tryz.prog.cellsOf 184=11:=by kernel_rfl
theorem gBruijn : Tryz.prog.globalNamed "math/bits.deBruijn64tab" = some 11 := by kernel_rfl
abbrev laidAll : List (String × DataW Unit) := [("math/bits.deBruijn32tab", Rows.laid_math_bits_deBruijn32tab), ("math/bits.deBruijn64tab", Rows.laid_math_bits_deBruijn64tab), ("internal/strconv.uint64pow10", Rows.laid_internal_strconv_uint64pow10), ("errors.errorType", Rows.laid_errors_errorType), ("strconv.ErrRange", Rows.laid_strconv_ErrRange), ("strconv.ErrSyntax", Rows.laid_strconv_ErrSyntax), ("sorites/text.errForm", Rows.laid_sorites_text_errForm), ("sorites/dlex.errNone", Rows.laid_sorites_dlex_errNone), ("sorites/dlex.errMany", Rows.laid_sorites_dlex_errMany), ("sorites/dtree.errTree", Rows.laid_sorites_dtree_errTree), ("sorites/dtree.typeWords", Rows.laid_sorites_dtree_typeWords), ("sorites/dtree.termSigns", Rows.laid_sorites_dtree_termSigns), ("sorites/dtree.litWords", Rows.laid_sorites_dtree_litWords)]
abbrev laidPlain : List (String × DataW Unit) := [("math/bits.deBruijn32tab", Rows.laid_math_bits_deBruijn32tab), ("math/bits.deBruijn64tab", Rows.laid_math_bits_deBruijn64tab), ("internal/strconv.uint64pow10", Rows.laid_internal_strconv_uint64pow10), ("strconv.ErrRange", Rows.laid_strconv_ErrRange), ("strconv.ErrSyntax", Rows.laid_strconv_ErrSyntax), ("sorites/text.errForm", Rows.laid_sorites_text_errForm), ("sorites/dlex.errNone", Rows.laid_sorites_dlex_errNone), ("sorites/dlex.errMany", Rows.laid_sorites_dlex_errMany), ("sorites/dtree.errTree", Rows.laid_sorites_dtree_errTree), ("sorites/dtree.typeWords", Rows.laid_sorites_dtree_typeWords), ("sorites/dtree.termSigns", Rows.laid_sorites_dtree_termSigns), ("sorites/dtree.litWords", Rows.laid_sorites_dtree_litWords)]
theorem pow10_tab:(Rows.laid_internal_strconv_uint64pow10:DataW Unit)=Lib.tabData .u64 Lib.pow10Tab:=by kernel_rfl
theorem types_tab:(Rows.laid_sorites_dtree_typeWords:DataW Unit)=strData [[],[110,117,109,98,101,114],[115,121,109,98,111,108]]:=by kernel_rfl
theorem signs_tab:(Rows.laid_sorites_dtree_termSigns:DataW Unit)=strData [[],[],[],[],[],[43],[45],[42]]:=by kernel_rfl
theorem words_tab:(Rows.laid_sorites_dtree_litWords:DataW Unit)=strData [[],[],[],[61],[33,61],[60],[60,61],[99,111,117,110,116],[115,117,109],[109,105,110],[109,97,120]]:=by kernel_rfl
theorem var_lt {W:World} {n:String} {g:Nat} {cs:Array Value} (h:W.var? Tryz.prog n=some cs) (hg:Tryz.prog.globalNamed n=some g):g < W.heap.size:=by
 unfold World.var? at h
 simp only[hg,Option.bind_some] at h
 rcases Nat.lt_or_ge g W.heap.size with h' | h'
 ·exact h'
 ·simp[Array.getElem?_eq_none h'] at h
theorem env_of_laid {W:World} (h:laidMetH Tryz.prog laidAll W):∃ a b c d,VEnv a b c d W:=by
 have h' : laidMet Tryz.prog laidPlain W ∧ handlesMet Tryz.prog [("errors.errorType", Rows.laid_errors_errorType)] W := h
 obtain⟨h1,h2⟩:=h'
 have h3:=h1.tail.tail
 rw[pow10_tab,types_tab,signs_tab,words_tab] at h3
 have ht : Lib.TabIs Tryz.prog W "internal/strconv.uint64pow10" .u64 Lib.pow10Tab := Lib.tabIs_of_head gPow gPowType Tryz.underlying275 Tryz.underlying240 cellsU cells20 h3
 obtain⟨ar,sr,hvr,_⟩:=laid_sentinel h3.tail gRange gRangeType Tryz.underlying75 rowE Tryz.underlying295 Tryz.underlying297 rfl rfl Tryz.underlying9 cellsE cellsS
 obtain⟨ax,ss,hvs,_⟩:=laid_sentinel h3.tail.tail gSyntax gSyntaxType Tryz.underlying75 rowE Tryz.underlying295 Tryz.underlying297 rfl rfl Tryz.underlying9 cellsE cellsS
 have h5:=h3.tail.tail.tail
 obtain⟨a,s,hv,_⟩:=laid_sentinel h5 gForm gFormType Tryz.underlying75 rowE Tryz.underlying295 Tryz.underlying297 rfl rfl Tryz.underlying9 cellsE cellsS
 obtain⟨b,c,s0,s1,cb,cc,tb,tc,hvb,hvc,_,_,_,_,_,_,hne,hb,hc⟩:=laid_sentinels2 h5.tail gNone gNoneType gMany gManyType Tryz.underlying75 rowE Tryz.underlying295 Tryz.underlying297 rfl rfl Tryz.underlying9 cellsE cellsS
 have h6:=h5.tail.tail.tail
 obtain⟨d,sd,hvd,_⟩:=laid_sentinel h6 gTree gTreeType Tryz.underlying75 rowE Tryz.underlying295 Tryz.underlying297 rfl rfl Tryz.underlying9 cellsE cellsS
 have v1:=strs_of_head gTypes gTypesType Tryz.underlying143 Tryz.underlying9 cellsS cells3s h6.tail
 have v2:=strs_of_head gSigns gSignsType Tryz.underlying216 Tryz.underlying9 cellsS cells8s h6.tail.tail
 have v3:=strs_of_head gWords gWordsType Tryz.underlying184 Tryz.underlying9 cellsS cells11s h6.tail.tail.tail
 obtain⟨name,u,ty,e1,e2,e3,e4,e5⟩:=h2 _ (List.mem_singleton.2 rfl)
 have en:name=[101,114,114,111,114]:=(Option.some.inj e1).symm
 subst en
 obtain rfl:=Option.some.inj (gRt.symm.trans e2)
 have hm:ty ∈ (List.range 324).filter fun t=>Tryz.prog.rowNamed t [101,114,114,111,114]:=List.mem_filter.2 ⟨List.mem_range.2 (by rw[← typesSize];exact e3),e4⟩
 rw[oneRow] at hm
 obtain rfl:=List.mem_singleton.1 hm
 have hh:typeHandle Tryz.prog 75=.pointer (some ⟨14,75,none⟩):=by kernel_rfl
 rw[hh] at e5
 have l1:=var_lt hv gForm
 have l2:=var_lt hvb gNone
 have l3:=var_lt hvc gMany
 have l4:=var_lt e5 gTypeOf
 have hsize:14≤W.heap.size:=by
  have b1:=var_lt hvr gRange
  have b2:=var_lt hvs gSyntax
  have b3:=var_lt hvd gTree
  have b4:=var_lt v1 gTypes
  have b5:=var_lt v2 gSigns
  have b6:=var_lt v3 gWords
  have h2:=h1.tail
  obtain⟨ps,⟨g',t',cs,fuel,p,q,hg',ht',hvar,_⟩,_⟩:=h2
  have:=var_lt hvar gBruijn
  obtain⟨ps,⟨g',t',cs,fuel,p,q,hg',ht',hvar,_⟩,_⟩:=h3
  have:=var_lt hvar gPow
  omega
 have ty0:W.cell? ⟨2,0,none⟩=some (.iface 154 (.agg #[.pointer (some ⟨14,75,none⟩)])):=by simpa using World.var?_cell gTypeOf e5 0
 refine⟨a,b,c,d,⟨⟨⟨by simpa using World.var?_cell gForm hv 0,by omega⟩,by simpa using World.var?_cell gNone hvb 0,by simpa using World.var?_cell gMany hvc 0,by simpa using World.var?_cell gTypeOf e5 0,hne⟩,⟨cb,tb,hb⟩,⟨cc,tc,hc⟩⟩,⟨⟨⟨⟨by simpa using World.var?_cell gTree hvd 0,var_lt hvd gTree⟩,fun k v hk=>?_,fun k v hk=>?_,fun k v hk=>?_,ht,hsize⟩,⟨_,_,by simpa using World.var?_cell gSyntax hvs 0⟩,⟨_,_,by simpa using World.var?_cell gRange hvr 0⟩⟩,ty0⟩⟩
 ·rw[World.var?_cell gTypes v1 k];simpa[typeTab] using hk
 ·rw[World.var?_cell gSigns v2 k];simpa[signTab] using hk
 ·rw[World.var?_cell gWords v3 k];simpa[wordTab] using hk
theorem door_met (os:Os) (args:Array Value):laidMetH Tryz.prog laidAll ((World.doorLaid Tryz.prog 160 os).forCall (fun _ _=>0) ⟨#[],args,[]⟩).memory:=by
 exact laidMetH_of_parts (laidMet_of_run' 8 (by kernel_rfl) (by kernel_rfl)) (by kernel_rfl)
theorem below_trodAll {H:Type} {enc:TypeId × Value→H} {W W':World} (hb:Below W.heap.size W W') :
  ∀ {ts:List TypeId} {vs:List Value} {ds:List (DataW H)} {ps:List MemPlace},(∀ t ∈ ts,Tryz.prog.readableRec t=true∧t < Tryz.prog.types.size) →
   DataW.TrodAll enc Tryz.prog W 0 (fun _=>true) true ts vs ds ps→(∀ x ∈ ps,x.block < W.heap.size)→DataW.TrodAll enc Tryz.prog W' 0 (fun b=>decide (b < W.heap.size)) true ts vs ds ps
 | [],_,_,_,_,h,_=>by
  obtain⟨rfl,rfl,rfl⟩:=trodAll_nil h
  exact trodAll_mk0
 | t::ts,_,_,_,hr,h,hlt=>by
  obtain⟨v,vs',d,ds',p,q,rfl,rfl,rfl,h1,h2⟩:=trodAll_cons h
  exact trodAll_cons_mk (Below.trod laidOut (hr t (by simp)).1 (hr t (by simp)).2 h1 hb (fun x hx=>hlt x (by simp[hx])))
   (below_trodAll hb (fun t' ht'=>hr t' (by simp[ht'])) h2 (fun x hx=>hlt x (by simp[hx])))
theorem law_post {H:Type} {enc:TypeId × Value→H} {f:Func} {s:ChangeSpec} {W W':World} {args:Array Value} {ds gs:List (DataW H)} {before:List MemPlace}
  (hW:DataW.Whole enc Tryz.prog f.params.toList s.vars false W args.toList ds gs before) (hv:s.vars=[]) (hrt:f.resultTypes=#[4])
  (hfn:s.fn H ds={ results:=[.lit (.bool true)],args:=ds }) (hr:∀ t ∈ f.params.toList,Tryz.prog.readableRec t=true∧t < Tryz.prog.types.size) (hb:Below W.heap.size W W') :
  s.post enc Tryz.prog f false true false false W args (.bool true) W':=by
 have hlt:∀ x ∈ before,x.block < W.heap.size:=fun x hx=>by simpa using hW.lt x hx
 have hW0:=hW
 obtain⟨p,q,hA,hV,rfl,_,_⟩:=hW0
 rw[hv] at hV
 obtain⟨rfl,rfl⟩:=trodVars_none hV
 have e1:s.fn H (ds++[])={ results:=[.lit (.bool true)],args:=ds }:=by rw[List.append_nil];exact hfn
 refine⟨ds,[],p++[],[],p,[],hW,?_,?_,?_,World.keptBut_mono (fun _ h=>h.elim) (hb.frame (fun _=>False)),fun h=>by cases h⟩
 ·rw[e1,hrt]
  exact trodAll_mk1 (shut_bool Tryz.underlying4 true)
 ·rw[e1]
  exact below_trodAll hb hr hA (fun x hx=>hlt x (by simp[hx]))
 ·rw[e1,hv]
  rfl
end Go.Proofs.YtdgbajnhhhjbcaaGreatDoor
