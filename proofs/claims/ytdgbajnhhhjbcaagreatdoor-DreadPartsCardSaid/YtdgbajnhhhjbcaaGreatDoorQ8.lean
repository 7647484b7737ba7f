/- Unquote@012, Lists@012, SignBack@012, LexA@012, Dsmall@012, Dsl0@012, Para@012, Park@012, Para2@012, Park3@012, Local@012, Read@012 -/
import Derived.IntWalk
import Derived.Lib.IndexBytes
import Derived.Lib.ItoaLen
import Derived.WalkMore
import Derived.Test.YtdgbajnhhhjbcaaGreatDoorQ6
import Derived.Test.YtdgbajnhhhjbcaaGreatDoorQ7
set_option linter.unusedSimpArgs false
namespace Go.Proofs.YtdgbajnhhhjbcaaGreatDoor
open Lib(hid)
open Go.RowKit Go.Shelf
attribute [local go_sem] Oper.semAt_some
def unqS (l:List (UInt8 × Bool)):Option (List UInt8):=if l.all (fun x=>!x.2)=true then some (l.map (·.1)) else none
def unqV:Option (List UInt8)→Value
 | some t=>.tuple #[.string ⟨t.toArray⟩,.int .i64 0]
 | none=>.tuple #[.string ⟨#[]⟩,.int .i64 10]
theorem wpIn_scope_wide {n:Nat} {P:Program} {c:Code} {Q:Exit→Act→World→Prop} {a:Act} {w:World} (h:c.wpIn Fence.wide n P (Exit.noGoto Q) a w):(Code.scope c).wpIn Fence.wide n P Q a w:=
 wpIn_wide.2 (wp_scope_straight (wpIn_wide.1 h))
theorem Bd.lt {B b:Nat} {l:List UInt8} {W:World} (h:Bd B b l W):b < W.heap.size:=by
 rcases h with ⟨_,v,hb,_⟩ | ⟨_,v,hb,_⟩ <;> exact (Array.getElem?_eq_some_iff.1 hb).1
theorem one_cell {W:World} {k:Nat} {v:Value} {t:TypeId} (h:W.heap[k]?=some (.cells #[v] t (0,0))):W.cell? ⟨k,0,none⟩=some v∧W.frozen? ⟨k,0,none⟩=false:=by
 simp[World.cell?,World.frozen?,h]
set_option maxRecDepth 100000 in
set_option maxHeartbeats 4000000 in
theorem unquote_ok (s:ByteArray) (inner:List UInt8) (hi:inner.length≤1073741824) (a:Addr) (w:World) (hz:8≤w.heap.size) (herr:ErrAt a w)
  (hb:Calls Tryz.prog 172 #[.string s] w fun e w'=>e=.returned (.tuple #[.string ⟨inner.toArray⟩,.nilIface])∧∃ k,w'=w.drewN k) :
  CallsIn Fence.wide 6 Tryz.prog 141 #[.string s] w fun e W'=>e=.returned (unqV (unqS (seqS inner.length inner)))∧Below w.heap.size w W':=by
 have Hb:=hid hb
 clear hb
 have HE:=hid herr
 clear herr
 refine callsIn_of_wp_marks Tryz.func141 rfl trivial ?_ rfl
 simp only[Tryz.ntmps141,List.size_toArray,List.length_cons,List.length_nil,Nat.reduceAdd,Nat.reduceSub,Array.replicate_succ,Array.replicate_zero,List.push_toArray,List.append_toArray,List.nil_append,List.cons_append]
 gi_wp2_with fail
 refine wpIn_scope_wide ?_
 gi_wp2_with fail
 refine⟨trivial,(callsIn_wide.2 Hb.out).mono ?_⟩
 rintro e w1 ⟨rfl,q,hw1⟩
 have b1:Below w.heap.size w w1:=by rw[hw1];exact below_drewN (Below.refl _ _) q
 have z1:w1.heap.size=w.heap.size:=by rw[hw1];rfl
 have E1:Hid (ErrAt a w1):=hid (by rw[hw1];exact HE.out)
 have Z1:=hid z1
 clear hw1 z1
 gi_wp2_with fail
 refine wpIn_label ?_
 gi_wp2_with fail
 refine⟨trivial,(eachSign_in _ ⟨inner.toArray⟩ _).mono ?_⟩
 rintro e w3 ⟨rfl,rfl⟩
 gi_wp2_with fail
 obtain⟨n0,hn0⟩:∃ n0,w1.heap.size=n0:=⟨_,rfl⟩
 obtain⟨WL,hWL⟩:∃ WL,(((w1.alloc (.cells #[.nilIface] 75)).alloc (.cells #[.pointer none,.slice none 0 0] 59)).alloc (.cells #[.string ⟨inner.toArray⟩] 9))=WL:=⟨_,rfl⟩
 have hn2:8≤n0:=by rw[← hn0,Z1.out];exact hz
 have hsz:WL.heap.size=n0+3:=by rw[← hWL];simp;omega
 have hbox:BoxAt (n0+2) ⟨inner.toArray⟩ WL:=by
  have:=World.alloc_heap_new ((w1.alloc (.cells #[.nilIface] 75)).alloc (.cells #[.pointer none,.slice none 0 0] 59)) (.cells #[.string ⟨inner.toArray⟩] 9)
  rw[hWL] at this
  unfold BoxAt
  simpa[hn0] using this
 have hBL:Below n0 w1 WL:=by
  rw[← hWL]
  exact (((Below.refl _ w1).alloc (by omega) _).alloc (by simp;omega) _).alloc (by simp;omega) _
 have hbd:Bd (n0+1) (n0+1) [] WL:=by
  have:=Lib.IsBuilderF.of (Lib.fresh_isBuilder 59 5 (w1.alloc (.cells #[.nilIface] 75)))
  have h2:=Lib.IsBuilderF.alloc this (.cells #[.string ⟨inner.toArray⟩] 9)
  rw[hWL] at h2
  simpa[hn0,Bd,Lib.byteCells] using h2
 have hw0:WL.heap[n0]?=some (.cells #[.nilIface] 75 (0,0)):=by
  have h1:=World.alloc_heap_new w1 (.cells #[.nilIface] 75)
  rw[hn0] at h1
  rw[← hWL]
  exact (Below.heap_alloc _ _ _ (by simp;omega)).trans ((Below.heap_alloc _ _ _ (by simp;omega)).trans h1)
 have hwc:=(one_cell hw0).1
 have hwf:=(one_cell hw0).2
 have herL:ErrAt a WL:=(hBL.cell (p:=⟨7,0,none⟩) (by show 7 < n0;omega)).trans E1.out
 rw[hWL,hn0]
 have Hn0:=hid hn0
 clear hWL hn0
 refine wpIn_rangeFunc_ownF rfl (by omega) (gf:=195) (lb:=#[.pointer (some ⟨n0+1+1,0,none⟩)]) rfl trivial (enters_of Tryz.func195 (by kernel_rfl) rfl)
  (eachSign_stops 5 (by omega) (n0+2) ⟨inner.toArray⟩ hi a WL (by omega) hbox (by omega) herL) (fun h k=>⟨fun x=>k.1 (h.1 x),fun x=>k.2 (h.2 x)⟩) ?hKb (Below.refl _ _) (fun _=>rfl)
  (fun pre W=>((Bd (n0+1) (n0+1) (pre.map (·.1)) W∧(∀ x ∈ pre,x.2=false))∧W.cell? ⟨n0,0,none⟩=some .nilIface∧W.frozen? ⟨n0,0,none⟩=false)∧Below n0 w1 W)
  (fun c pre W=>((c=.exit 0∧(∃ x ∈ pre,x.2=true))∧W.cell? ⟨n0,0,none⟩=some (.iface 295 (.pointer (some a))))∧Below n0 w1 W)
  (OwnFrom.and (Own.from (fun s A B row hs hg hr=>⟨⟨hs.1.1.kept hg hr,hs.1.2⟩,cell_kept hs.2.1 hg hr,(frozen_kept hs.2.1 hg hr).trans hs.2.2⟩) _) (ownFrom_below (by rw[← Hn0.out];exact Nat.le_refl _) (by omega)))
  (fun c=>OwnFrom.and (Own.from (fun s A B row hs hg hr=>⟨hs.1,cell_kept hs.2 hg hr⟩) _) (ownFrom_below (by rw[← Hn0.out];exact Nat.le_refl _) (by omega)))
  ⟨⟨⟨hbd,by simp⟩,hwc,hwf⟩,hBL⟩
  (fun x=>{ tmps:=#[.string s,undef,.string ⟨#[]⟩,.int .i64 0,.string ⟨inner.toArray⟩,.pointer (some ⟨n0,0,none⟩),.pointer (some ⟨n0+1,0,none⟩),.int .u8 (x.1.toNat:Int),(if x.2 then .iface 295 (.pointer (some a)) else .nilIface),.tuple #[.string ⟨inner.toArray⟩,.nilIface],.string s,.tuple #[.string ⟨inner.toArray⟩,.nilIface],.string ⟨inner.toArray⟩,.nilIface,.string ⟨inner.toArray⟩,.func (.func 195) #[] #[.pointer (some ⟨n0+1+1,0,none⟩)],.int .u8 (x.1.toNat:Int),(if x.2 then .iface 295 (.pointer (some a)) else .nilIface),undef,undef,undef,undef,undef,undef,undef,undef,undef,undef],defers:=[] }) ?assign ?body ?done ?stop
 case hKb=>
  intro W l o o' hl hl2 ho _
  have hr:∀ r,some l=some r→∃ o:Obj,W.heap[r]?=some o∧o.isCells=false:=fun r e=>by cases e;exact⟨o,hl2,ho⟩
  exact⟨fun hb=>(grownBy_keeps_cells (grownBy_putObj' W l o') hr hb rfl).trans hb,fun he=>cell_kept he (grownBy_putObj' W l o') hr⟩
 case assign=>
  intro l x W K hK
  obtain⟨c,bad⟩:=x
  cases bad with
  | true=>
   simp only[encS,if_true] at hK ⊢
   gi_wp2
   exact hK
  | false=>
   simp only[encS,Bool.false_eq_true,if_false] at hK ⊢
   gi_wp2
   exact hK
 case body=>
  rintro l pre ⟨c,bad⟩ W ⟨⟨⟨hb,hal⟩,hc,hf⟩,hB⟩ hlen
  cases bad with
  | true=>
   simp only[if_true]
   gi_wp2
   exact⟨KeepsOthers.setCell _ _ _,⟨⟨rfl,(c,true),by simp,rfl⟩,World.cell?_setCell_same' _ _ _ (by rw[hc];rfl)⟩,hB.setCell (p:=⟨n0,0,none⟩) (Nat.le_refl _) _⟩
  | false=>
   simp only[Bool.false_eq_true,if_false]
   have hB1:n0+1≤W.heap.size:=Nat.le_of_lt hb.lt
   have hlen':pre.length < inner.length:=hlen
   gi_wp2_with fail
   refine⟨trivial,(CallsIn.inRound l (callsIn_wide.2 (writeByte_c _ _ _ c _ rfl W hb (by simp;omega) hB1))).mono ?_⟩
   rintro e w4 ⟨rfl,b4,k4⟩
   gi_wp2
   refine⟨k4.keepsOthers hb,⟨k4.keepsBox (by omega),fun he=>(k4.below.cell (p:=⟨7,0,none⟩) (by show 7 < n0+1;omega)).trans he⟩,⟨⟨by simpa using b4,?_⟩,(k4.below.cell (p:=⟨n0,0,none⟩) (by show n0 < n0+1;omega)).trans hc,(k4.below.frozen (p:=⟨n0,0,none⟩) (by show n0 < n0+1;omega)).trans hf⟩,hB.trans (k4.below.mono (by omega))⟩
   intro x hx
   rcases List.mem_append.1 hx with hx | hx
   ·exact hal x hx
   ·obtain rfl:x=_:=List.mem_singleton.1 hx
    rfl
 case done=>
  rintro D ys W hD rfl ⟨⟨⟨hb,hal⟩,hc,hf⟩,hB⟩ hK
  have herW:ErrAt a W:=(hB.cell (p:=⟨7,0,none⟩) (by show 7 < n0;omega)).trans E1.out
  unfold ErrAt at herW
  have hB1:n0+1≤W.heap.size:=Nat.le_of_lt hb.lt
  have hq:unqS (seqS inner.length inner)=some ((seqS inner.length inner).map (·.1)):=by
   unfold unqS
   rw[if_pos]
   rw[List.all_eq_true]
   intro x hx
   rw[hal x hx]
   rfl
  have Hq:=hid hq
  clear hq
  gi_wp2_with fail
  refine⟨trivial,(callsIn_wide.2 (is_nil a W)).mono ?_⟩
  rintro e w4 ⟨rfl,rfl⟩
  gi_wp2_with fail
  refine⟨trivial,(callsIn_wide.2 (bstr_c _ _ _ W hb hB1)).mono ?_⟩
  rintro e w5 ⟨rfl,b5,k5⟩
  have hK5:=(k5.keepsOthers hb).same D _ hK rfl
  gi_wp2
  rw[Exit.noGoto_ret]
  refine⟨by simp,.inl ⟨_,_,rfl,run_takeDeferred hK5,?_⟩⟩
  refine⟨_,results_tmp2 rfl _ _ _,by rw[Hq.out];rfl,?_⟩
  refine b1.trans ((hB.mono (by rw[← Hn0.out,Z1.out];exact Nat.le_refl _)).trans ((k5.below.mono (by rw[← Hn0.out,Z1.out];omega)).trans (belowK_b (w:=w) (Nat.le_refl _) w5 D _ _ ?_ hK5 rfl rfl)))
  rw[← Z1.out,Hn0.out]
  omega
 case stop=>
  rintro D c pre W hD hp ⟨⟨⟨rfl,hx⟩,hc⟩,hB⟩ hK
  have herW:ErrAt a W:=(hB.cell (p:=⟨7,0,none⟩) (by show 7 < n0;omega)).trans E1.out
  unfold ErrAt at herW
  gi_wp2_with fail
  refine⟨trivial,(callsIn_wide.2 (is_same a W)).mono ?_⟩
  rintro e w4 ⟨rfl,rfl⟩
  have hq:unqS (seqS inner.length inner)=none:=by
   obtain⟨x,hx1,hx2⟩:=hx
   unfold unqS
   rw[if_neg]
   intro hall
   have:=List.all_eq_true.1 hall x (hp.subset hx1)
   rw[hx2] at this
   cases this
  have Hq:=hid hq
  clear hq
  gi_wp2
  rw[Exit.noGoto_ret]
  refine⟨by simp,.inl ⟨_,_,rfl,run_takeDeferred hK,?_⟩⟩
  refine⟨_,results_tmp2 rfl _ _ _,by rw[Hq.out];rfl,?_⟩
  refine b1.trans ((hB.mono (by rw[← Hn0.out,Z1.out];exact Nat.le_refl _)).trans (belowK_b (w:=w) (Nat.le_refl _) W D _ _ ?_ hK rfl rfl))
  rw[← Z1.out,Hn0.out]
  omega
set_option maxRecDepth 100000 in
set_option maxHeartbeats 4000000 in
theorem unquote_bad (s:ByteArray) (a:Addr) (w:World) (hz:8≤w.heap.size) (herr:ErrAt a w)
  (hb:Calls Tryz.prog 172 #[.string s] w fun e w'=>e=.returned (.tuple #[.string ⟨#[]⟩,.iface 295 (.pointer (some a))])∧∃ k,w'=w.drewN k) :
  CallsIn Fence.wide 6 Tryz.prog 141 #[.string s] w fun e W'=>e=.returned (unqV none)∧Below w.heap.size w W':=by
 have Hb:=hid hb
 clear hb
 have HE:=hid herr
 clear herr
 refine callsIn_of_wp_marks Tryz.func141 rfl trivial ?_ rfl
 simp only[Tryz.ntmps141,List.size_toArray,List.length_cons,List.length_nil,Nat.reduceAdd,Nat.reduceSub,Array.replicate_succ,Array.replicate_zero,List.push_toArray,List.append_toArray,List.nil_append,List.cons_append]
 gi_wp2_with fail
 refine wpIn_scope_wide ?_
 gi_wp2_with fail
 refine⟨trivial,(callsIn_wide.2 Hb.out).mono ?_⟩
 rintro e w1 ⟨rfl,q,hw1⟩
 have b1:Below w.heap.size w w1:=by rw[hw1];exact below_drewN (Below.refl _ _) q
 have z1:w1.heap.size=w.heap.size:=by rw[hw1];rfl
 have E1:Hid (ErrAt a w1):=hid (by rw[hw1];exact HE.out)
 have Z1:=hid z1
 clear hw1 z1
 gi_wp2_with fail
 refine wpIn_label ?_
 gi_wp2_with fail
 refine⟨trivial,(eachSign_in _ ⟨#[]⟩ _).mono ?_⟩
 rintro e w3 ⟨rfl,rfl⟩
 gi_wp2_with fail
 obtain⟨n0,hn0⟩:∃ n0,w1.heap.size=n0:=⟨_,rfl⟩
 obtain⟨WL,hWL⟩:∃ WL,(((w1.alloc (.cells #[.iface 295 (.pointer (some a))] 75)).alloc (.cells #[.pointer none,.slice none 0 0] 59)).alloc (.cells #[.string ⟨#[]⟩] 9))=WL:=⟨_,rfl⟩
 have hn2:8≤n0:=by rw[← hn0,Z1.out];exact hz
 have hsz:WL.heap.size=n0+3:=by rw[← hWL];simp;omega
 have hbox:BoxAt (n0+2) ⟨#[]⟩ WL:=by
  have:=World.alloc_heap_new ((w1.alloc (.cells #[.iface 295 (.pointer (some a))] 75)).alloc (.cells #[.pointer none,.slice none 0 0] 59)) (.cells #[.string ⟨#[]⟩] 9)
  rw[hWL] at this
  unfold BoxAt
  simpa[hn0] using this
 have hBL:Below n0 w1 WL:=by
  rw[← hWL]
  exact (((Below.refl _ w1).alloc (by omega) _).alloc (by simp;omega) _).alloc (by simp;omega) _
 have hw0:WL.heap[n0]?=some (.cells #[.iface 295 (.pointer (some a))] 75 (0,0)):=by
  have h1:=World.alloc_heap_new w1 (.cells #[.iface 295 (.pointer (some a))] 75)
  rw[hn0] at h1
  rw[← hWL]
  exact (Below.heap_alloc _ _ _ (by simp;omega)).trans ((Below.heap_alloc _ _ _ (by simp;omega)).trans h1)
 have hwc:=(one_cell hw0).1
 have herL:ErrAt a WL:=(hBL.cell (p:=⟨7,0,none⟩) (by show 7 < n0;omega)).trans E1.out
 rw[hWL,hn0]
 have Hn0:=hid hn0
 clear hWL hn0
 refine wpIn_rangeFunc_ownF rfl (by omega) (gf:=195) (lb:=#[.pointer (some ⟨n0+1+1,0,none⟩)]) rfl trivial (enters_of Tryz.func195 (by kernel_rfl) rfl)
  (eachSign_stops 5 (by omega) (n0+2) ⟨#[]⟩ (by decide) a WL (by omega) hbox (by omega) herL) (fun h k=>⟨fun x=>k.1 (h.1 x),fun x=>k.2 (h.2 x)⟩) ?hKb (Below.refl _ _) (fun _=>rfl)
  (fun _ W=>W.cell? ⟨n0,0,none⟩=some (.iface 295 (.pointer (some a)))∧Below n0 w1 W)
  (fun _ _ _=>False)
  (OwnFrom.and (Own.from (fun s A B row hs hg hr=>cell_kept hs hg hr) _) (ownFrom_below (by rw[← Hn0.out];exact Nat.le_refl _) (by omega)))
  (fun _ _ _ _ _ hs _ _=>hs)
  ⟨hwc,hBL⟩
  (fun x=>{ tmps:=#[.string s,undef,.string ⟨#[]⟩,.int .i64 0,.string ⟨#[]⟩,.pointer (some ⟨n0,0,none⟩),.pointer (some ⟨n0+1,0,none⟩),.int .u8 (x.1.toNat:Int),(if x.2 then .iface 295 (.pointer (some a)) else .nilIface),.tuple #[.string ⟨#[]⟩,.iface 295 (.pointer (some a))],.string s,.tuple #[.string ⟨#[]⟩,.iface 295 (.pointer (some a))],.string ⟨#[]⟩,.iface 295 (.pointer (some a)),.string ⟨#[]⟩,.func (.func 195) #[] #[.pointer (some ⟨n0+1+1,0,none⟩)],.int .u8 (x.1.toNat:Int),(if x.2 then .iface 295 (.pointer (some a)) else .nilIface),undef,undef,undef,undef,undef,undef,undef,undef,undef,undef],defers:=[] }) ?assign ?body ?done ?stop
 case hKb=>
  intro W l o o' hl hl2 ho _
  have hr:∀ r,some l=some r→∃ o:Obj,W.heap[r]?=some o∧o.isCells=false:=fun r e=>by cases e;exact⟨o,hl2,ho⟩
  exact⟨fun hb=>(grownBy_keeps_cells (grownBy_putObj' W l o') hr hb rfl).trans hb,fun he=>cell_kept he (grownBy_putObj' W l o') hr⟩
 case assign=>
  intro l x W K hK
  obtain⟨c,bad⟩:=x
  cases bad with
  | true=>
   simp only[encS,if_true] at hK ⊢
   gi_wp2
   exact hK
  | false=>
   simp only[encS,Bool.false_eq_true,if_false] at hK ⊢
   gi_wp2
   exact hK
 case body=>
  rintro l pre x W _ hlen
  exact absurd hlen (Nat.not_lt_zero _)
 case done=>
  rintro D ys W hD _ ⟨hc,hB⟩ hK
  have herW:ErrAt a W:=(hB.cell (p:=⟨7,0,none⟩) (by show 7 < n0;omega)).trans E1.out
  unfold ErrAt at herW
  gi_wp2_with fail
  refine⟨trivial,(callsIn_wide.2 (is_same a W)).mono ?_⟩
  rintro e w4 ⟨rfl,rfl⟩
  gi_wp2
  rw[Exit.noGoto_ret]
  refine⟨by simp,.inl ⟨_,_,rfl,run_takeDeferred hK,?_⟩⟩
  refine⟨_,results_tmp2 rfl _ _ _,rfl,?_⟩
  refine b1.trans ((hB.mono (by rw[← Hn0.out,Z1.out];exact Nat.le_refl _)).trans (belowK_b (w:=w) (Nat.le_refl _) W D _ _ ?_ hK rfl rfl))
  rw[← Z1.out,Hn0.out]
  omega
 case stop=>
  rintro D c pre W _ _ h _
  exact h.elim
def unqL (l:List UInt8):Option (List UInt8):=(betw l).bind fun inner=>unqS (seqS inner.length inner)
theorem betw_len (l inner:List UInt8) (h:betw l=some inner):inner.length≤l.length:=by
 unfold betw at h
 split at h
 ·cases h
  exact Nat.le_trans (Lib.trimSuffix_le _ _) (Lib.trimPrefix_le _ _)
 ·cases h
theorem unquote_c (s:ByteArray) (a:Addr) (w:World) (hs:s.size≤1073741824) (E:Env a w) :
  Calls Tryz.prog 141 #[.string s] w fun e W'=>e=.returned (unqV (unqL s.data.toList))∧Below w.heap.size w W':=by
 have hb:=between_c s a w hs E.err
 unfold unqL
 cases hi:betw s.data.toList with
 | none=>
  rw[hi] at hb
  exact callsIn_wide.1 (unquote_bad s a w E.size E.err hb)
 | some inner=>
  rw[hi] at hb
  have hl:=betw_len _ _ hi
  have hlen:s.data.toList.length=s.size:=by simp
  exact callsIn_wide.1 (unquote_ok s inner (by omega) a w E.size E.err hb)
end Go.Proofs.YtdgbajnhhhjbcaaGreatDoor
namespace Go.Proofs.YtdgbajnhhhjbcaaGreatDoor
open Lib(hid)
theorem ofNat_toNat (c:UInt8):UInt8.ofNat c.toNat=c:=by simp
theorem sign_ne_nil:∀ c:Fin 256,sign (UInt8.ofNat c.1)≠[]:=by decide +kernel
theorem sign_ne (c:UInt8):sign c≠[]:=by
 have:=sign_ne_nil ⟨c.toNat,c.toNat_lt⟩
 rwa [ofNat_toNat] at this
end Go.Proofs.YtdgbajnhhhjbcaaGreatDoor
namespace Go.Proofs.YtdgbajnhhhjbcaaGreatDoor
open Lib(hid)
open Go.RowKit
theorem hex_back_fin:∀ c:Fin 256,0≤hexIx (UInt8.ofNat c.1)→hexL.getD (hexIx (UInt8.ofNat c.1)).toNat 0=UInt8.ofNat c.1:=by decide +kernel
theorem hex_back (c:UInt8) (h:0≤hexIx c):hexL.getD (hexIx c).toNat 0=c:=by
 have:=hex_back_fin ⟨c.toNat,c.toNat_lt⟩
 simp only[ofNat_toNat] at this
 exact this h
theorem sign_hex_fin:∀ h l:Fin 16,plainB (16 * (h.1:Int)+(l.1:Int))=false→16 * (h.1:Int)+(l.1:Int)≠10→sign (UInt8.ofNat (16 * h.1+l.1))=[92,120,hexL.getD h.1 0,hexL.getD l.1 0]:=by decide +kernel
theorem sign_plain_fin:∀ c:Fin 256,UInt8.ofNat c.1≠92→UInt8.ofNat c.1≠34→plainB ((UInt8.ofNat c.1).toNat:Int)=true→sign (UInt8.ofNat c.1)=[UInt8.ofNat c.1]:=by decide +kernel
theorem firstS_back {l:List UInt8} {c:UInt8} {n:Nat} (h:firstS l=some (c,n)):l=sign c++l.drop n:=by
 cases l with
 | nil=>
  have h0:firstS []=none:=by decide
  rw[h0] at h
  cases h
 | cons x r=>
  unfold firstS at h
  simp only[List.getD_cons_zero] at h
  by_cases hx:x=92
  ·subst hx
   rw[if_pos rfl] at h
   unfold escS at h
   cases r with
   | nil=>simp at h
   | cons y r=>
    simp only[List.getD_cons_zero,List.getD_cons_succ,List.length_cons] at h
    rw[if_neg (by omega)] at h
    by_cases y1:y=110
    ·subst y1
     rw[if_pos rfl] at h
     cases h
     rfl
    rw[if_neg y1] at h
    by_cases y2:y=34
    ·subst y2
     rw[if_pos rfl] at h
     cases h
     rfl
    rw[if_neg y2] at h
    by_cases y3:y=92
    ·subst y3
     rw[if_pos rfl] at h
     cases h
     rfl
    rw[if_neg y3] at h
    by_cases y4:y=120
    ·subst y4
     rw[if_pos rfl] at h
     unfold hexS4 at h
     cases r with
     | nil=>simp at h
     | cons a r=>
     cases r with
     | nil=>simp at h
     | cons b r=>
      simp only[List.getD_cons_zero,List.getD_cons_succ,List.length_cons] at h
      rw[if_neg (by omega)] at h
      by_cases hn:hexIx a < 0∨hexIx b < 0
      ·rw[if_pos hn] at h;cases h
      rw[if_neg hn] at h
      by_cases hp:plainB (16 * hexIx a+hexIx b)=true∨16 * hexIx a+hexIx b=10
      ·rw[if_pos hp] at h;cases h
      rw[if_neg hp] at h
      cases h
      have ha:=hexIx_in a
      have hb:=hexIx_in b
      have ea:=hex_back a (by omega)
      have eb:=hex_back b (by omega)
      have hs:=sign_hex_fin ⟨(hexIx a).toNat,by omega⟩ ⟨(hexIx b).toNat,by omega⟩
      simp only[Int.toNat_of_nonneg (show 0≤hexIx a by omega),Int.toNat_of_nonneg (show 0≤hexIx b by omega),ea,eb] at hs
      have e:(16 * hexIx a+hexIx b).toNat=16 * (hexIx a).toNat+(hexIx b).toNat:=by omega
      rw[e,hs (by simpa using fun h=>hp (.inl h)) (fun h=>hp (.inr h))]
      rfl
    ·rw[if_neg y4] at h;cases h
  ·rw[if_neg hx] at h
   by_cases hp:x=34∨¬ plainB (x.toNat:Int)=true
   ·rw[if_pos hp] at h;cases h
   rw[if_neg hp] at h
   cases h
   have hs:=sign_plain_fin ⟨c.toNat,c.toNat_lt⟩
   simp only[ofNat_toNat] at hs
   rw[hs hx (fun h=>hp (.inl h)) (Decidable.byContradiction fun h=>hp (.inr h))]
   rfl
theorem seqS_back:∀ (f:Nat) (l:List UInt8),l.length≤f→((seqS f l).all fun x=>!x.2)=true→((seqS f l).map (·.1)).flatMap sign=l
 | 0,l,hf,_=>by
  have:l=[]:=List.eq_nil_of_length_eq_zero (by omega)
  subst this
  rfl
 | f+1,l,hf,hall=>by
  by_cases hne:l=[]
  ·subst hne;rw[seqS_nil];rfl
  cases hr:firstS l with
  | none=>
   rw[seqS_none f l hne hr] at hall
   cases hall
  | some x=>
   obtain⟨c,n⟩:=x
   have hn:=firstS_len l c n hne hr
   rw[seqS_some f l c n hne hr] at hall ⊢
   simp only[List.all_cons,Bool.and_eq_true] at hall
   have ih:=seqS_back f (l.drop n) (by simp;omega) hall.2
   simp only[List.map_cons,List.flatMap_cons]
   rw[ih]
   exact (firstS_back hr).symm
theorem unqS_back {l t:List UInt8} (h:unqS (seqS l.length l)=some t):t.flatMap sign=l:=by
 unfold unqS at h
 split at h
 ·rename_i hall
  cases h
  exact seqS_back _ l (Nat.le_refl _) hall
 ·cases h
theorem betw_back {l m:List UInt8} (h:betw l=some m):l=34::(m++[34]):=by
 unfold betw at h
 split at h
 ·rename_i hc
  obtain⟨h1,h2⟩:=hc
  cases h
  have e1:Lib.trimPrefix l [34]=l.drop 1:=by unfold Lib.trimPrefix;rw[if_pos h1];rfl
  have p1:[34] <+: l:=List.isPrefixOf_iff_prefix.1 h1
  obtain⟨r,rfl⟩:=p1
  simp only[List.cons_append,List.nil_append,List.drop_succ_cons,List.drop_zero] at e1 h2 ⊢
  rw[e1] at h2 ⊢
  obtain⟨q,hq⟩:[34] <:+ r:=by unfold Lib.hasSuffix at h2;exact List.isSuffixOf_iff_suffix.1 h2
  subst hq
  unfold Lib.trimSuffix
  rw[if_pos h2]
  simp
 ·cases h
theorem unqL_back {l t:List UInt8} (h:unqL l=some t):quoteL t=l:=by
 unfold unqL at h
 cases hb:betw l with
 | none=>rw[hb] at h;cases h
 | some m=>
  rw[hb] at h
  have h2:=unqS_back (show unqS (seqS m.length m)=some t from h)
  rw[betw_back hb]
  unfold quoteL
  rw[h2]
end Go.Proofs.YtdgbajnhhhjbcaaGreatDoor
namespace Go.Proofs.YtdgbajnhhhjbcaaGreatDoor
open Lib(hid)
open Go.RowKit
def blankB (c:UInt8):Bool:=decide (c=9∨c=10∨c=32)
def partB (c:UInt8):Bool:=letB (c.toNat:Int) || digB (c.toNat:Int)
def smallB (c:UInt8):Bool:=decide (97≤c.toNat∧c.toNat≤122)
def gap:Bool→List UInt8→Nat
 | _,[]=>0
 | true,c::l=>if c=10 then 1+gap false l else 1+gap true l
 | false,c::l=>if blankB c=true then 1+gap false l else if c=47∧l.head?=some 47 then 1+gap true l else 0
def comN:List UInt8→Nat
 | []=>0
 | c::l=>if c=10 then 0 else 1+comN l
def lines (l:List UInt8):Nat:=l.count 10
def runN (p:UInt8→Bool):List UInt8→Nat
 | []=>0
 | c::l=>if p c=true then 1+runN p l else 0
def symN:Bool→List UInt8→Nat
 | _,[]=>0
 | true,_::l=>1+symN false l
 | false,c::l=>if c=92 then 1+symN true l else if c=34 then 1 else 1+symN false l
def longB (l:List UInt8):Bool:=decide (l=[58,45]∨l=[33,61]∨l=[60,61]∨l=[62,61])
def shortL:List UInt8:=[40,41,123,125,44,46,58,33,61,60,62,43,45,42]
def shortB (c:UInt8):Bool:=decide (c ∈ shortL)
def signN (l:List UInt8):Nat:=if longB (l.take 2)=true then 2 else 1
def wordB (l:List UInt8):Bool:=decide (l=[46,100,101,99,108]∨l=[46,105,110,112,117,116]∨l=[46,111,117,116,112,117,116])
def shapeL:List UInt8→Nat × Nat
 | []=>(4,1)
 | c::t=>if digB (c.toNat:Int)=true then (2,runN partB (c::t)) else if partB c=true then (1,runN partB (c::t)) else if c=34 then (3,1+symN false t)
  else if c=46∧0 < runN smallB t then (5,1+runN smallB t) else (4,signN (c::t))
theorem shapeL_cons (c:UInt8) (t:List UInt8):shapeL (c::t)=if digB (c.toNat:Int)=true then (2,runN partB (c::t)) else if partB c=true then (1,runN partB (c::t)) else if c=34 then (3,1+symN false t)
  else if c=46∧0 < runN smallB t then (5,1+runN smallB t) else (4,signN (c::t)):=rfl
theorem gap_len:∀ (m:Bool) (l:List UInt8),gap m l≤l.length
 | m,[]=>by cases m <;> simp[gap]
 | true,c::l=>by
  have h1:=gap_len false l
  have h2:=gap_len true l
  unfold gap
  split <;> simp <;> omega
 | false,c::l=>by
  have h1:=gap_len false l
  have h2:=gap_len true l
  unfold gap
  split
  ·simp;omega
  ·split <;> simp;omega
theorem gap_com:∀ l:List UInt8,gap true l=comN l+gap false (l.drop (comN l))
 | []=>by simp[gap,comN]
 | c::l=>by
  by_cases h:c=10
  ·subst h
   simp[gap,comN,blankB]
  ·have ih:=gap_com l
   simp only[gap,comN,if_neg h]
   rw[ih,show (1+comN l)=comN l+1 by omega,List.drop_succ_cons]
   omega
theorem comN_len:∀ l:List UInt8,comN l≤l.length
 | []=>by simp[comN]
 | c::l=>by
  have:=comN_len l
  unfold comN
  split <;> simp;omega
theorem runN_len (p:UInt8→Bool):∀ l:List UInt8,runN p l≤l.length
 | []=>by simp[runN]
 | c::l=>by
  have:=runN_len p l
  unfold runN
  split <;> simp;omega
theorem symN_len:∀ (m:Bool) (l:List UInt8),symN m l≤l.length
 | m,[]=>by cases m <;> simp[symN]
 | true,c::l=>by
  have:=symN_len false l
  simp[symN];omega
 | false,c::l=>by
  have h1:=symN_len false l
  have h2:=symN_len true l
  unfold symN
  split
  ·simp;omega
  ·split <;> simp;omega
theorem shape_pos {l:List UInt8} (hl:l≠[]):1≤(shapeL l).2∧(shapeL l).2≤l.length∧1≤(shapeL l).1∧(shapeL l).1≤5:=by
 cases l with
 | nil=>exact absurd rfl hl
 | cons c t=>
  have hr:=runN_len partB (c::t)
  have hs:=runN_len smallB t
  have hy:=symN_len false t
  have hp:partB c=true→1≤runN partB (c::t):=fun h=>by unfold runN;rw[if_pos h];omega
  rw[shapeL_cons]
  by_cases h1:digB (c.toNat:Int)=true
  ·rw[if_pos h1]
   exact⟨hp (by unfold partB;rw[h1];simp),hr,by simp,by simp⟩
  rw[if_neg h1]
  by_cases h2:partB c=true
  ·rw[if_pos h2]
   exact⟨hp h2,hr,by simp,by simp⟩
  rw[if_neg h2]
  by_cases h3:c=34
  ·rw[if_pos h3]
   refine⟨?_,?_,by simp,by simp⟩ <;> simp <;> omega
  rw[if_neg h3]
  by_cases h4:c=46∧0 < runN smallB t
  ·rw[if_pos h4]
   refine⟨?_,?_,by simp,by simp⟩ <;> simp <;> omega
  rw[if_neg h4]
  unfold signN
  by_cases h5:longB ((c::t).take 2)=true
  ·rw[if_pos h5]
   refine⟨by simp,?_,by simp,by simp⟩
   have:t≠[]:=by
    rintro rfl
    simp[longB] at h5
   cases t with
   | nil=>exact absurd rfl this
   | cons=>simp
  ·rw[if_neg h5]
   refine⟨by simp,by simp,by simp,by simp⟩
end Go.Proofs.YtdgbajnhhhjbcaaGreatDoor
namespace Go.Proofs.YtdgbajnhhhjbcaaGreatDoor
open Lib(hid)
open Go.RowKit
def meanL (k:Nat) (b:List UInt8):Option (List UInt8):=
 if k=3 then unqL b
 else if (if k=1 then decide (b=[95]) || nameB b else if k=2 then (numL b).isSome else if k=5 then wordB b else longB b || shortB (b.getD 0 0))=true then some b else none
def tokL (l:List UInt8):Option (Nat × List UInt8 × Nat):=(meanL (shapeL l).1 (l.take (shapeL l).2)).map fun s=>((shapeL l).1,s,(shapeL l).2)
structure Tk where
 kind:Nat
 s:List UInt8
 line:Nat
def lexF:Nat→Nat→List UInt8→List Tk × Option Nat
 | 0,_,_=>([],none)
 | f+1,n,l=>
  if l.drop (gap false l)=[] then ([],none) else
   match tokL (l.drop (gap false l)) with
   | none=>([],some (n+lines (l.take (gap false l))))
   | some (k,s,z)=>(⟨k,s,n+lines (l.take (gap false l))⟩::(lexF f (n+lines (l.take (gap false l))) ((l.drop (gap false l)).drop z)).1,
     (lexF f (n+lines (l.take (gap false l))) ((l.drop (gap false l)).drop z)).2)
def lexL (l:List UInt8):List Tk × Option Nat:=lexF (l.length+1) 1 l
def lexR (l:List UInt8):List Tk × Nat × Nat:=
 if 65536 < l.length then ([],0,21) else if 20000 < (lexL l).1.length then ([],((lexL l).1.getD 20000 ⟨0,[],0⟩).line,21) else
  match (lexL l).2 with
  | some n=>([],n,20)
  | none=>((lexL l).1,0,0)
theorem tok_pos {l:List UInt8} (hl:l≠[]) {k:Nat} {s:List UInt8} {z:Nat} (h:tokL l=some (k,s,z)):1≤z∧z≤l.length∧1≤k∧k≤5:=by
 have hp:=shape_pos hl
 unfold tokL at h
 rw[Option.map_eq_some_iff] at h
 obtain⟨a,_,h⟩:=h
 simp only[Prod.mk.injEq] at h
 obtain⟨rfl,_,rfl⟩:=h
 exact hp
end Go.Proofs.YtdgbajnhhhjbcaaGreatDoor
namespace Go.Proofs.YtdgbajnhhhjbcaaGreatDoor
open Lib(hid)
open Go.RowKit
theorem u8_eq (c k:UInt8):c=k ↔ (c.toNat:Int)=(k.toNat:Int):=by
 rw[← UInt8.toNat_inj];omega
theorem dblank_c (c:UInt8) (w:World):Calls Tryz.prog 91 #[.int .u8 (c.toNat:Int)] w fun e w'=>e=.returned (.bool (blankB c))∧w=w':=by
 go_enter Tryz.func91,Tryz.ntmps91
 go_wp2
 all_goals go_ret
 all_goals exact⟨ret_bool (by unfold blankB;rw[Bool.eq_iff_iff];simp only[u8_eq];simp;omega),rfl⟩
theorem ddigit_c (r:Int) (w:World):Calls Tryz.prog 97 #[.int .u8 r] w fun e w'=>e=.returned (.bool (digB r))∧w=w':=by
 go_enter Tryz.func97,Tryz.ntmps97
 go_wp2
 all_goals go_ret
 all_goals exact⟨ret_bool (by unfold digB;rw[Bool.eq_iff_iff];simp;omega),rfl⟩
theorem dsmall_c (c:UInt8) (w:World):Calls Tryz.prog 101 #[.int .u8 (c.toNat:Int)] w fun e w'=>e=.returned (.bool (smallB c))∧w=w':=by
 go_enter Tryz.func101,Tryz.ntmps101
 go_wp2
 all_goals go_ret
 all_goals exact⟨ret_bool (by unfold smallB;rw[Bool.eq_iff_iff];simp;omega),rfl⟩
theorem dpart_c (c:UInt8) (w:World):Calls Tryz.prog 99 #[.int .u8 (c.toNat:Int)] w fun e w'=>e=.returned (.bool (partB c))∧w=w':=by
 go_enter Tryz.func99,Tryz.ntmps99
 go_wp2
 all_goals go_ret
 all_goals exact⟨ret_bool (by unfold partB letB digB;rw[Bool.eq_iff_iff];simp;omega),rfl⟩
end Go.Proofs.YtdgbajnhhhjbcaaGreatDoor
namespace Go.Proofs.YtdgbajnhhhjbcaaGreatDoor
open Lib(hid)
open Go.RowKit
def SliceOf (w:World) (B:Nat) (v:Value) (ts:List TokI):Prop:=
 (v=.slice none 0 0∧ts=[])∨∃ (a:Addr) (cap:Nat),v=.slice (some a) ts.length cap∧ts.length≤cap∧cap≤maxLen∧a.block < B ∧
  ∀ (i:Nat) (t:TokI),ts[i]?=some t→w.cell? (a.add (i * 3))=some (.int .i64 t.kind)∧w.cell? (a.add (i * 3+1))=some (.string t.s)∧w.cell? (a.add (i * 3+2))=some (.int .i64 t.line)
theorem add_block (a:Addr) (n:Nat):(a.add n).block=a.block:=by unfold Addr.add;split <;> rfl
theorem add_next (a:Addr) (i j:Nat) (hj:0 < j):a.add (i+j)=⟨(a.add i).block,(a.add i).off+j,none⟩:=by
 unfold Addr.add
 by_cases hi:i=0
 ·subst hi
  rw[Nat.zero_add,if_neg (by omega),if_pos rfl]
 ·rw[if_neg (by omega),if_neg hi]
  simp[Nat.add_assoc]
theorem SliceOf.cells {w:World} {B:Nat} {a:Addr} {ts:List TokI} (h:∀ (i:Nat) (t:TokI),ts[i]?=some t→w.cell? (a.add (i * 3))=some (.int .i64 t.kind)∧w.cell? (a.add (i * 3+1))=some (.string t.s)∧w.cell? (a.add (i * 3+2))=some (.int .i64 t.line))
  (hB:a.block < B) {w':World} (hb:Below B w w') {i:Nat} {t:TokI} (ht:ts[i]?=some t):w'.cell? (a.add (i * 3))=some (.int .i64 t.kind)∧w'.cell? ⟨(a.add (i * 3)).block,(a.add (i * 3)).off+1,none⟩=some (.string t.s)∧w'.cell? ⟨(a.add (i * 3)).block,(a.add (i * 3)).off+2,none⟩=some (.int .i64 t.line):=by
 obtain⟨c0,c1,c2⟩:=h i t ht
 rw[← add_next a (i * 3) 1 (by omega),← add_next a (i * 3) 2 (by omega)]
 exact⟨(hb.cell (by rw[add_block];exact hB)).trans c0,(hb.cell (by rw[add_block];exact hB)).trans c1,(hb.cell (by rw[add_block];exact hB)).trans c2⟩
theorem SliceOf.below {w w':World} {B:Nat} {v:Value} {ts:List TokI} (h:SliceOf w B v ts) (hb:Below B w w'):SliceOf w' B v ts:=by
 rcases h with h | ⟨a,cap,h1,h2,h3,h4,h5⟩
 ·exact .inl h
 ·refine .inr ⟨a,cap,h1,h2,h3,h4,fun i t ht=>?_⟩
  obtain⟨c0,c1,c2⟩:=h5 i t ht
  exact⟨(hb.cell (by rw[add_block];exact h4)).trans c0,(hb.cell (by rw[add_block];exact h4)).trans c1,(hb.cell (by rw[add_block];exact h4)).trans c2⟩
theorem SliceOf.more {w:World} {B B':Nat} {v:Value} {ts:List TokI} (h:SliceOf w B v ts) (hB:B≤B'):SliceOf w B' v ts:=by
 rcases h with h | ⟨a,cap,h1,h2,h3,h4,h5⟩
 ·exact .inl h
 ·exact .inr ⟨a,cap,h1,h2,h3,by omega,h5⟩
end Go.Proofs.YtdgbajnhhhjbcaaGreatDoor
namespace Go.Proofs.YtdgbajnhhhjbcaaGreatDoor
open Lib(hid)
theorem next_ne {k:Int} {s:List UInt8} {l:List TokI} (h:nextB k s l=true):l≠[]:=by rintro rfl;cases h
end Go.Proofs.YtdgbajnhhhjbcaaGreatDoor
namespace Go.Proofs.YtdgbajnhhhjbcaaGreatDoor
open Lib(hid)
abbrev Key:=Int × List UInt8
theorem digitsI_snoc (l:List UInt8) (c:UInt8):digitsI (l++[c])=10 * digitsI l+(c.toNat - 48):=by
 unfold digitsI
 rw[List.foldl_append]
 rfl
theorem digitsI_dec (u:Nat):digitsI (Lib.decDigits u)=u:=by
 have hd:∀ k,k < 10→(UInt8.ofNat (48+k)).toNat=48+k:=by
  intro k h
  simp
  omega
 induction u using Nat.strongRecOn with
 | ind u ih=>
  rw[Lib.decDigits]
  by_cases h:u < 10
  ·rw[dif_pos h]
   show 10 * (0:Int)+(((UInt8.ofNat (48+u)).toNat:Int) - 48)=u
   rw[hd u h]
   omega
  ·rw[dif_neg h,digitsI_snoc,ih (u / 10) (by omega),hd _ (by omega)]
   omega
theorem bytes_eq {s t:ByteArray} (h:s.data.toList=t.data.toList):s=t:=by
 cases s;cases t
 simp only at h
 rw[Array.toList_inj.1 h]
theorem key_tok {t:TokI} {k:Int} {s:List UInt8} (h1:t.kind=k) (h2:t.s.data.toList=s):tokB k s t=true:=by
 unfold tokB
 rw[h1,h2]
 simp
theorem key_not {t:TokI} {k:Int} {s s':List UInt8} (h2:t.s.data.toList=s) (hs:s≠s'):tokB k s' t=false:=by
 unfold tokB
 rw[h2]
 simp[hs]
theorem nm_k {t:TokI} (h:isNm t=true):t.kind=1:=by
 unfold isNm at h
 rw[Bool.and_eq_true] at h
 simpa using h.1
end Go.Proofs.YtdgbajnhhhjbcaaGreatDoor
namespace Go.Proofs.YtdgbajnhhhjbcaaGreatDoor
open Lib(hid)
def Ends (q:List TokI):Prop:=nextB 4 [44] q=true∨nextB 4 [46] q=true
theorem Ends.ne {q:List TokI} (h:Ends q):q≠[]:=h.elim next_ne next_ne
theorem tok_kind {k:Int} {s:List UInt8} {t:TokI} (h:tokB k s t=true):t.kind=k:=by
 unfold tokB at h
 rw[Bool.and_eq_true] at h
 simpa using h.1
end Go.Proofs.YtdgbajnhhhjbcaaGreatDoor
namespace Go.Proofs.YtdgbajnhhhjbcaaGreatDoor
open Lib(hid)
theorem tok_not {k:Int} {s:List UInt8} {t:TokI} (h:t.kind≠k):tokB k s t=false:=by
 cases ht:tokB k s t with
 | false=>rfl
 | true=>
  unfold tokB at ht
  rw[Bool.and_eq_true] at ht
  exact absurd (by simpa using ht.1) h
end Go.Proofs.YtdgbajnhhhjbcaaGreatDoor
namespace Go.Proofs.YtdgbajnhhhjbcaaGreatDoor
open Lib(hid)
open Go.RowKit
theorem quoteL_length (s:List UInt8):(quoteL s).length=(s.flatMap sign).length+2:=by simp[quoteL]
def textL (k:Nat) (s:List UInt8):List UInt8:=if k=3 then quoteL s else s
theorem tok_text {l s:List UInt8} {k z:Nat} (h:tokL l=some (k,s,z)):textL k s=l.take z:=by
 unfold tokL at h
 rw[Option.map_eq_some_iff] at h
 obtain⟨a,ha,h⟩:=h
 simp only[Prod.mk.injEq] at h
 obtain⟨rfl,rfl,rfl⟩:=h
 unfold meanL at ha
 unfold textL
 by_cases h3:(shapeL l).1=3
 ·rw[if_pos h3] at ha ⊢
  exact unqL_back ha
 ·rw[if_neg h3] at ha ⊢
  rw[Option.ite_none_right_eq_some] at ha
  exact (Option.some.inj ha.2).symm
end Go.Proofs.YtdgbajnhhhjbcaaGreatDoor
namespace Go.Proofs.YtdgbajnhhhjbcaaGreatDoor
open Lib(hid)
open Go.RowKit
theorem dec_zero:Lib.decDigits 0=[48]:=by rw[dec_one 0 (by omega)];rfl
theorem dig_back (c:UInt8) (hc:48≤c.toNat∧c.toNat≤57):UInt8.ofNat (48+(c.toNat - 48))=c:=by
 rw[show 48+(c.toNat - 48)=c.toNat by omega]
 simp
theorem dec_push (sz:Nat) (h0:sz≠0) (c:UInt8) (hc:48≤c.toNat∧c.toNat≤57):Lib.decDigits (sz * 10+(c.toNat - 48))=Lib.decDigits sz++[c]:=by
 rw[dec_more _ (by omega),show (sz * 10+(c.toNat - 48)) / 10=sz by omega,show (sz * 10+(c.toNat - 48)) % 10=c.toNat - 48 by omega,dig_back c hc]
theorem mag_back (g:Nat):∀ (l:List UInt8) (sz m:Nat),sz≠0→mag g sz l=some m→Lib.decDigits m=Lib.decDigits sz++l
 | [],sz,m,_,h=>by
  obtain rfl:sz=m:=Option.some.inj h
  simp
 | c::l,sz,m,h0,h=>by
  by_cases hc:48≤c.toNat∧c.toNat≤57
  ·by_cases hb:(g - (c.toNat - 48)) / 10 < sz
   ·rw[mag_big g sz c l hc hb] at h;cases h
   ·rw[mag_go g sz c l hc hb] at h
    rw[mag_back g l _ m (by omega) h,dec_push sz h0 c hc]
    simp
  ·rw[mag_bad g sz c l hc] at h;cases h
theorem magL_back (g:Nat) (l:List UInt8) (m:Nat) (h:magL g l=some m):Lib.decDigits m=l:=by
 unfold magL at h
 by_cases hx:l=[]∨(l.head?=some 48∧l≠[48])
 ·rw[if_pos hx] at h;cases h
 ·rw[if_neg hx] at h
  cases l with
  | nil=>exact absurd (.inl rfl) hx
  | cons c l=>
   by_cases hc:48≤c.toNat∧c.toNat≤57
   ·rw[mag_go g 0 c l hc (by omega)] at h
    by_cases h48:c.toNat=48
    ·have ec:c=48:=UInt8.toNat_inj.1 h48
     subst ec
     have el:l=[]:=by
      by_cases hl:l=[]
      ·exact hl
      ·exact absurd (.inr ⟨rfl,by simp[hl]⟩) hx
     subst el
     have:m=0:=(Option.some.inj h).symm
     rw[this,dec_zero]
    ·rw[mag_back g l _ m (by omega) h]
     simp only[Nat.zero_mul,Nat.zero_add]
     rw[dec_one _ (by omega),dig_back c hc]
     rfl
   ·rw[mag_bad g 0 c l hc] at h;cases h
theorem prefix_cons {l:List UInt8} (h:Lib.hasPrefix l [45]=true):l=45::l.drop 1:=by
 cases l with
 | nil=>cases h
 | cons c l=>
  simp[Lib.hasPrefix] at h
  simp[h]
theorem numL_back {l:List UInt8} {n:Int} (h:numL l=some n):Lib.itoa n=l ∧ -9223372036854775808≤n∧n≤9223372036854775807:=by
 unfold numL at h
 by_cases hp:Lib.hasPrefix l [45]=true
 ·rw[if_pos hp] at h
  have hl:=prefix_cons hp
  cases hm:magL 9223372036854775808 (l.drop 1) with
  | none=>rw[hm] at h;cases h
  | some m=>
   rw[hm] at h
   by_cases h0:m=0
   ·simp[negO,h0] at h
   ·simp only[negO,if_neg h0,Option.some.injEq] at h
    have hle:=magL_le _ _ m (by omega) hm
    have hb:=magL_back _ _ m hm
    subst h
    refine⟨?_,by omega,by omega⟩
    unfold Lib.itoa
    rw[if_pos (by omega),show (-(m:Int)).natAbs=m by omega,hb,← hl]
 ·rw[if_neg hp] at h
  cases hm:magL 9223372036854775807 l with
  | none=>rw[hm] at h;cases h
  | some m=>
   rw[hm] at h
   simp only[posO,Option.some.injEq] at h
   have hle:=magL_le _ _ m (by omega) hm
   have hb:=magL_back _ _ m hm
   subst h
   refine⟨?_,by omega,by omega⟩
   unfold Lib.itoa
   rw[if_neg (by omega),show (m:Int).toNat=m by omega,hb]
end Go.Proofs.YtdgbajnhhhjbcaaGreatDoor
