/- Any@12, Ytypes@12, Ytp@12 -/
import Derived.Test.YtfmldnbcjbflbaaGreatDoorQ13
import Derived.Test.YtfmldnbcjbflbaaGreatDoorQ8
set_option linter.unusedSimpArgs false
set_option linter.unusedVariables false
namespace Go.Proofs.YtfmldnbcjbflbaaGreatDoor
open Go.RowKit
def noDefer (ops:Array Oper):Bool:=ops.toList.all fun o=>match o.op with | .defer _=>false | _=>true
theorem noDefer_spec {ops:Array Oper} (h:noDefer ops=true) {i:Nat} {o:Oper} (ho:ops[i]?=some o) (c:Call):o.op≠.defer c:=by
 intro e
 unfold noDefer at h
 rw[List.all_eq_true] at h
 have hm:o ∈ ops.toList:=by
  obtain⟨hi,rfl⟩:=Array.getElem?_eq_some_iff.1 ho
  simp
 have:=h o hm
 rw[e] at this
 cases this
theorem upon_round {l n:Nat} {P:Program} {o:Oper} {a:Act} {K K':Act→World→Prop} {Q:Exit→Act→World→Prop} (hK:∀ a w,K a w→K' a w) {r:Result Next} (h:o.upon P a K Q r):o.uponIn (Fence.wide.inRound l) n P a K' Q r:=by
 cases r with
 | ok x w'=>
  cases x with
  | value v=>exact hK _ _ h
  | skip=>exact hK _ _ h
  | defer d=>exact hK _ _ h
  | enter f args=>
   refine⟨(fun h=>by cases h),CallsIn.inRound l (callsIn_wide.2 (Calls.mono h ?_))⟩
   intro e w'' he
   cases e with
   | returned v=>exact hK _ _ he
   | panicked c=>exact he
   | outgrown=>exact he
  | row row args=>
   refine⟨(fun h=>by cases h),?_⟩
   have h:Rows P row args w' fun v w''=>K (a.put o.dst v) w'':=h
   intro c cs _
   obtain⟨v,w'',r,s⟩:=h c cs
   exact⟨v,w'',hK _ _ r,stepsIn_wide.2 s⟩
  | _=>exact h.elim
 | halt x w'=>
  cases x with
  | panic v=>exact h
  | _=>exact h.elim
theorem any_round {l n:Nat} {P:Program} {md:Region.Mode} {ops:Array Oper} {Q:Exit→Act→World→Prop} (hd:noDefer ops=true) (hQ:¬ LetsOut Q):∀ (fuel:Nat) (listed:Array Bool) (a:Act) (w:World),wpAny P md ops Q fuel listed a w→wpAnyIn (Fence.wide.inRound l) n P md ops Q fuel listed a w
 | 0,_,_,_,h=>h
 | fuel+1,listed,a,w,h=>by
  refine⟨h.1,fun i hi=>?_⟩
  have hi:=h.2 i hi
  unfold wpOp at hi
  unfold wpOpIn
  cases ho:ops[i]? with
  | none=>
   rw[ho] at hi
   exact any_round hd hQ fuel _ _ _ hi
  | some o=>
   rw[ho] at hi
   simp only at hi ⊢
   split
   ·next hw=>
    rw[if_pos hw] at hi
    rcases hi with hi | ⟨_,hl⟩
    ·refine⟨fun _ _=>trivial,?_⟩
     rw[Oper.semAt_eq _ _ _ (noDefer_spec hd ho)]
     exact upon_round (fun a w h=>any_round hd hQ fuel _ a w h) hi
    ·exact absurd hl hQ
   ·next hw=>
    rw[if_neg hw] at hi
    exact⟨fun _ _=>trivial,any_round hd hQ fuel _ _ _ hi⟩
theorem any_region {l n id:Nat} {P:Program} {ops:Array Oper} {Q:Exit→Act→World→Prop} {a:Act} {w:World} (hm:P.follows .mixedOrders=true) (hd:noDefer ops=true) (hQ:¬ LetsOut Q)
  (h:wpAny P .any ops Q ops.size (Array.replicate ops.size false) a w.drew):(Code.region id ops true).wpIn (Fence.wide.inRound l) n P Q a w:=
 wpIn_region_any hm (any_round hd hQ _ _ _ _ h)
end Go.Proofs.YtfmldnbcjbflbaaGreatDoor
namespace Go.Proofs.YtfmldnbcjbflbaaGreatDoor
open Go.RowKit Go.Shelf Go.Maps Go.WideMaps
attribute [local go_sem] Oper.semAt_some
theorem mapI_run {P:Program} {w:World} {kT eT:TypeId} {B n:Nat} {f:List UInt8→Int} {c:Nat} (h:MapI P w kT eT B n f c) (t:TypeId) (ht:P.underlying t=some (.map kT eT)) (hkT:P.underlying kT=some .string) (heT:P.underlying eT=some (.int .i64))
  (hz:(zeroValue eT).run P w=.ok (.int .i64 0) w) (s:ByteArray) (hs:s.size≤maxLen):(Instr.lookup t (.map (some B)) (.string s) false).run P w=.ok (.int .i64 (f s.data.toList)) w:=by
 obtain⟨D,h1,h2,h3,h4,h5⟩:=h
 obtain⟨c,hrun,hat,hwc⟩:=h1.lookup_int (string_keyed hkT) ht heT hz (keyOf_string_mk hkT hs)
 rw[h3] at hat
 have:f s.data.toList=c:=by simpa using hat
 subst this
 exact hrun
end Go.Proofs.YtfmldnbcjbflbaaGreatDoor
namespace Go.Proofs.YtfmldnbcjbflbaaGreatDoor
open Go.RowKit
theorem max_le {n:Nat} (h:n≤1000000):n≤maxLen:=by unfold maxLen;omega
end Go.Proofs.YtfmldnbcjbflbaaGreatDoor
