/- Rd4@012, Rd5@012, Sans@012, Rd6@012, Rd7@012 -/
import Derived.RangeFuncRecord
import Derived.Test.YtdgbajnhhhjbcaaGreatDoorQ9
import Derived.Test.YtdgbajnhhhjbcaaGreatDoorQ17
set_option linter.unusedSimpArgs false
namespace Go.Proofs.YtdgbajnhhhjbcaaGreatDoor
open Lib(hid)
open Go.RowKit
theorem fact_right (s:ByteArray):rightR ⟨⟨s,[.mk 2 ⟨#[]⟩ 0 []]⟩,[],0⟩=nameB s.data.toList:=by
 have h1:rightT 20 (.mk 2 ⟨#[]⟩ 0 [])=true:=by simp[rightT,twoB,leafB,Lib.toList_data]
 have h2:headT true (.mk 2 ⟨#[]⟩ 0 [])=true:=by decide
 unfold rightR rightA
 simp[h1,h2]
theorem isNm_good {t:TokI} (h:GoodT t) (hk:t.kind=1):isNm t=nameB t.s.data.toList:=by
 unfold isNm
 rw[hk]
 rcases h.name hk with h | h
 ·rw[h];decide
 ·rw[h]
  have:t.s.data.toList≠[95]:=by
   intro e
   rw[e] at h
   revert h
   decide
  simp[this]
theorem isNm_else {t:TokI} (hk:t.kind≠1):isNm t=false:=by
 unfold isNm
 simp[hk]
theorem fact_laid (W:World) (n:Nat) (s:ByteArray) (hs:s.size≤maxLen) (T:TypeId) (hr:W.heap[n]?=some (.cells #[.int .i64 2,.string ⟨#[]⟩,.int .i64 0,.slice none 0 0] T (0,0))) :
  RuC W W.heap.size ⟨⟨s,[.mk 2 ⟨#[]⟩ 0 []]⟩,[],0⟩ [.string s,.slice (some ⟨n,0,none⟩) 1 1,.slice none 0 0,.int .i64 0]:=by
 have hn:=(Array.getElem?_eq_some_iff.1 hr).1
 have hrow:Row n T [.int .i64 2,.string ⟨#[]⟩,.int .i64 0,.slice none 0 0] W:=hr
 have hT:TmS W W.heap.size [.mk 2 ⟨#[]⟩ 0 []] (.slice (some ⟨n,0,none⟩) 1 1):=by
  refine .inr ⟨⟨n,0,none⟩,1,rfl,Nat.le_refl _,by decide,fun _=>hn,fun i x hx=>?_⟩
  have hi:i=0:=by
   rcases Nat.eq_zero_or_pos i with h | h
   ·exact h
   ·rw[List.getElem?_eq_none (by simp;omega)] at hx;cases hx
  subst hi
  simp only[List.getElem?_cons_zero,Option.some.injEq] at hx
  subst hx
  exact⟨_,rfl,.nil 2 ⟨#[]⟩ 0 (by unfold I64;decide) (by decide) (by unfold I64;decide),hrow.cells⟩
 exact⟨[.string s,.slice (some ⟨n,0,none⟩) 1 1],.slice none 0 0,rfl,(show I64 0 by unfold I64;decide),⟨_,rfl,hs,hT⟩,.inl ⟨rfl,rfl⟩⟩
set_option maxHeartbeats 1000000 in
theorem isName_c (t:TokI) (ht:GoodT t) (a:Addr) (w:World) (E:PEnv a w):Calls Tryz.prog 163 #[tokW t] w fun e w'=>e=.returned (.bool (isNm t))∧Below w.heap.size w w':=by
 have HB0:Hid (∀ (x:Obj),Below w.heap.size w (w.alloc x)):=hid fun x=>(Below.refl _ _).alloc (Nat.le_refl _) _
 by_cases hk:t.kind=1
 ·have hn:=isNm_good ht hk
  rw[← fact_right] at hn
  have hm:t.s.size≤maxLen:=by have:=ht.size;unfold maxLen;omega
  obtain⟨W,hW⟩:∃ W,((w.alloc (Obj.cells #[Value.int IntKind.i64 1,Value.string t.s,Value.int IntKind.i64 t.line] 89)).alloc
     (Obj.cells #[Value.int IntKind.i64 2,Value.string { data:=#[] },Value.int IntKind.i64 0,Value.slice none 0 0] 64)).alloc
    (Obj.cells #[Value.string t.s,Value.slice (some { block:=w.heap.size+1,off:=0 }) 1 1,Value.slice none 0 0,Value.int IntKind.i64 0] 41)=W:=⟨_,rfl⟩
  have hb:Below w.heap.size w W:=by
   rw[← hW]
   exact (((Below.refl _ _).alloc (Nat.le_refl _) _).alloc (by simp) _).alloc (by simp;omega) _
  have hr:W.heap[w.heap.size+1]?=some (.cells #[.int .i64 2,.string ⟨#[]⟩,.int .i64 0,.slice none 0 0] 64 (0,0)):=by
   rw[← hW]
   refine (Below.heap_alloc _ _ _ (by simp)).trans ?_
   have:=World.alloc_heap_new (w.alloc (Obj.cells #[Value.int IntKind.i64 1,Value.string t.s,Value.int IntKind.i64 t.line] 89)) (Obj.cells #[Value.int IntKind.i64 2,Value.string { data:=#[] },Value.int IntKind.i64 0,Value.slice none 0 0] 64)
   rwa [World.size_alloc] at this
  have HR:=hid (rightRule_c _ a W _ (fact_laid W (w.heap.size+1) t.s hm _ hr) (E.below hb).env.err)
  have HW:=hid hW
  have HBW:=hid hb
  have Hn:=hid hn
  clear hW hb hr hn ht hm E
  go_enter Tryz.func163,Tryz.ntmps163
  go_wp2_with fail
  rw[HW.out]
  refine HR.out.mono ?_
  rintro e w1 ⟨rfl,b1⟩
  have B1:=hid (HBW.out.trans (b1.mono HBW.out.size))
  clear b1
  go_wp2
  go_ret
  exact⟨by rw[Hn.out];rfl,B1.out⟩
 ·have Hn:=hid (isNm_else hk)
  have hk':(t.kind == 1)=false:=by simpa using hk
  clear ht E
  go_enter Tryz.func163,Tryz.ntmps163
  go_wp2
  go_ret
  exact⟨by rw[Hn.out];rfl,(((Below.refl _ _).alloc (Nat.le_refl _) _).alloc (by simp) _).alloc (by simp;omega) _⟩
theorem Row.gr {n R:Nat} {T:TypeId} {cs:List Value} {w w':World} (h:Row n T cs w) (g:Gr R w w') (hn:n≠R):Row n T cs w':=(g.block n (Array.getElem?_eq_some_iff.1 h).1 (fun e=>hn (Option.some.inj e))).trans h
theorem Row.lt {n:Nat} {T:TypeId} {cs:List Value} {w:World} (h:Row n T cs w):n < w.heap.size:=(Array.getElem?_eq_some_iff.1 h).1
def NameR (C:RC) (du ru:Value) (q:List TokI) (w:World) (e:Ending) (w':World):Prop:=
 (match nameP q with
  | .ok (s,q')=>e=.returned (.tuple #[.string s,.nilIface])∧Rd C du ru q' w'
  | .error x=>e=.returned (.tuple #[.string ⟨#[]⟩,flawV x.1 x.2]))∧Gr C.R w w'
theorem nameP_t {q:List TokI} (h:nmAt q=true):nameP q=.ok ((hdT q).s,q.tail)∧q≠[]:=by
 cases q with
 | nil=>cases h
 | cons t r=>exact⟨if_pos h,by simp⟩
theorem nameP_f {q:List TokI} (h:nmAt q=false):nameP q=.error (40,lineL q):=by
 cases q with
 | nil=>rfl
 | cons t r=>exact if_neg (by rw[show isNm t=false from h];decide)
set_option maxHeartbeats 2000000 in
theorem name_c (C:RC) (du ru:Value) (q:List TokI) (w:World) (h:Rd C du ru q w) :
  Calls Tryz.prog 153 #[.pointer (some ⟨C.R,0,none⟩)] w (NameR C du ru q w):=by
 have HH:=hid (here_c C du ru q w h)
 have HG:=hid (good_hd h.goodq)
 have hlt:=h.lt
 have H:=hid h
 clear h
 have HB0:Hid (∀ (W:World) (x:Obj),Below W.heap.size W (W.alloc x)):=hid fun W x=>(Below.refl _ _).alloc (Nat.le_refl _) _
 cases hn:nmAt q with
 | true=>
  obtain⟨h1,h2⟩:=nameP_t hn
  have Hn:Hid (isNm (hdT q)=true):=hid ((nm_hd q).trans hn)
  have Hp:=hid h1
  have Hq:=hid h2
  clear hn h1 h2
  go_enter Tryz.func153,Tryz.ntmps153
  go_wp2_with fail
  refine HH.out.mono ?_
  rintro e w1 ⟨rfl,b1⟩
  obtain⟨W2,hW2⟩:∃ W2,w1.alloc (.cells #[.int .i64 (hdT q).kind,.string (hdT q).s,.int .i64 (hdT q).line] 89)=W2:=⟨_,rfl⟩
  have hr2:Row w1.heap.size 89 [.int .i64 (hdT q).kind,.string (hdT q).s,.int .i64 (hdT q).line] W2:=by rw[← hW2];exact Row.new w1 _ _
  have hb2:Below w.heap.size w W2:=by rw[← hW2];exact b1.trans (((Below.refl _ _).alloc (Nat.le_refl _) _).mono b1.size)
  have hne:w1.heap.size≠C.R:=by have:=b1.size;omega
  have HW2:=hid hW2
  have Hr2:=hid hr2
  have Hb2:=hid hb2
  have Hne:=hid hne
  clear hW2 hr2 hb2 hne b1
  go_wp2_with fail
  rw[HW2.out]
  refine (isName_c (hdT q) HG.out C.a W2 (H.out.env.below Hb2.out)).mono ?_
  rintro e w3 ⟨rfl,b3⟩
  rw[Hn.out]
  have Hr3:=hid (Hr2.out.below b3 Hr2.out.lt)
  have R3:=hid (H.out.below (Hb2.out.trans (b3.mono Hb2.out.size)))
  have G3:=hid (Gr.of_below (R:=C.R) (Hb2.out.trans (b3.mono Hb2.out.size)))
  clear b3
  go_wp2_with fail
  refine (step_c C du ru q Hq.out w3 R3.out).mono ?_
  rintro e w4 ⟨rfl,r4,g4⟩
  have Hr4:=Hr3.out.gr g4 Hne.out
  have c1:=Hr4.at 1 _ rfl
  have R4:=hid r4
  have G4:=hid (G3.out.trans g4)
  clear r4 g4 Hr4
  go_wp2_with fail
  refine (dclone_c (hdT q).s w4 HG.out.size).mono ?_
  rintro e w5 ⟨rfl,b5⟩
  have R5:=hid (R4.out.below b5)
  have G5:=hid (G4.out.trans (Gr.of_below b5))
  clear b5
  go_wp2
  go_ret2
  unfold NameR
  rw[Hp.out]
  exact⟨⟨rfl,R5.out⟩,G5.out⟩
 | false=>
  have Hn:Hid (isNm (hdT q)=false):=hid ((nm_hd q).trans hn)
  have Hp:=hid (nameP_f hn)
  clear hn
  go_enter Tryz.func153,Tryz.ntmps153
  go_wp2_with fail
  refine HH.out.mono ?_
  rintro e w1 ⟨rfl,b1⟩
  obtain⟨W2,hW2⟩:∃ W2,w1.alloc (.cells #[.int .i64 (hdT q).kind,.string (hdT q).s,.int .i64 (hdT q).line] 89)=W2:=⟨_,rfl⟩
  have hb2:Below w.heap.size w W2:=by rw[← hW2];exact b1.trans (((Below.refl _ _).alloc (Nat.le_refl _) _).mono b1.size)
  have HW2:=hid hW2
  have Hb2:=hid hb2
  clear hW2 hb2 b1
  go_wp2_with fail
  rw[HW2.out]
  refine (isName_c (hdT q) HG.out C.a W2 (H.out.env.below Hb2.out)).mono ?_
  rintro e w3 ⟨rfl,b3⟩
  rw[Hn.out]
  have R3:=hid (H.out.below (Hb2.out.trans (b3.mono Hb2.out.size)))
  have G3:=hid (Gr.of_below (R:=C.R) (Hb2.out.trans (b3.mono Hb2.out.size)))
  clear b3
  go_wp2_with fail
  refine (fail_c C du ru q 40 w3 R3.out).mono ?_
  rintro e w4 ⟨rfl,b4⟩
  have G4:=hid (G3.out.trans (Gr.of_below b4))
  clear b4
  go_wp2
  go_ret2
  unfold NameR
  rw[Hp.out]
  exact⟨rfl,G4.out⟩
open Go.RowKit Go.Shelf
theorem digit_nat {k:Nat} (h:k < 10):(UInt8.ofNat (48+k)).toNat=48+k:=by
 simp
 omega
theorem uint_dec:∀ (u:Nat) (r:List UInt8),u≤9223372036854775807→Lib.parseUintM 18446744073709551615 0 (Lib.decDigits u++r)=Lib.parseUintM 18446744073709551615 u r:=by
 intro u
 induction u using Nat.strongRecOn with
 | ind u ih=>
  intro r hu
  rw[Lib.decDigits]
  by_cases h:u < 10
  ·rw[dif_pos h,List.cons_append,List.nil_append,Lib.parseUintM,digit_nat h,if_pos (by omega),if_neg (by omega),if_neg (by omega)]
   congr 1
   omega
  ·rw[dif_neg h,List.append_assoc,ih (u / 10) (by omega) _ (by omega),List.cons_append,List.nil_append,Lib.parseUintM,digit_nat (by omega),if_pos (by omega),if_neg (by omega),if_neg (by omega)]
   congr 1
   omega
theorem dec_head (u:Nat):∃ c r,Lib.decDigits u=c::r∧48≤c.toNat∧c.toNat≤57:=by
 induction u using Nat.strongRecOn with
 | ind u ih=>
  rw[Lib.decDigits]
  by_cases h:u < 10
  ·rw[dif_pos h]
   exact⟨_,_,rfl,by rw[digit_nat h];omega,by rw[digit_nat h];omega⟩
  ·rw[dif_neg h]
   obtain⟨c,r,h1,h2⟩:=ih (u / 10) (by omega)
   exact⟨c,r++_,by rw[h1];rfl,h2⟩
theorem int_dec (u:Nat) (hu:u≤9223372036854775807):Lib.parseIntB 64 (Lib.decDigits u)=.ok (u:Int):=by
 obtain⟨c,r,h1,h2,h3⟩:=dec_head u
 have h:=uint_dec u [] hu
 rw[List.append_nil] at h
 unfold Lib.parseIntB
 rw[h1] at h ⊢
 simp only
 rw[if_neg (by omega)]
 unfold Lib.parseUintB
 rw[if_neg (by simp)]
 rw[show 2 ^ 64 - 1=18446744073709551615 by rfl,h]
 simp only[Lib.parseUintM]
 rw[if_neg (by rintro⟨_,h⟩;omega),if_neg (by rintro⟨h,_⟩;omega),if_neg (by omega)]
def ofV (t:TokI):Value:=if t.kind=2 then .tuple #[.int .i64 (digitsI t.s.data.toList),.bool true] else .tuple #[.int .i64 0,.bool false]
theorem heldNum {W w1:World} (b:Below W.heap.size W.drew w1) {n:Nat} {v0 v1:Value} (hn:n < W.heap.size) (h:W.cell? ⟨n,0,none⟩=some v0∧W.cell? ⟨n,1,none⟩=some v1):w1.cell? ⟨n,0,none⟩=some v0∧w1.cell? ⟨n,1,none⟩=some v1:=
 ⟨(b.cell (p:=⟨n,0,none⟩) hn).trans h.1,(b.cell (p:=⟨n,1,none⟩) hn).trans h.2⟩
set_option maxRecDepth 100000 in
set_option maxHeartbeats 4000000 in
theorem numberOf_c (t:TokI) (ht:GoodT t) (a:Addr) (w:World) (E:PEnv a w):Calls Tryz.prog 231 #[tokW t] w fun e w'=>e=.returned (ofV t)∧Below w.heap.size w w':=by
 have HB0:Hid (∀ (x:Obj),Below w.heap.size w (w.alloc x)):=hid fun x=>(Below.refl _ _).alloc (Nat.le_refl _) _
 have HE:=hid E
 have hsz:=ht.size
 by_cases hk:t.kind=2
 ·obtain⟨n,hn,hd⟩:=ht.num hk
  have hp:Lib.parseIntB 64 t.s.data.toList=.ok (n:Int):=by rw[hd];exact int_dec n hn
  have hv:ofV t=.tuple #[.int .i64 (n:Int),.bool true]:=by unfold ofV;rw[if_pos hk,hd,digitsI_dec]
  have hfs:(⟨(Lib.itoa (n:Int)).toArray⟩:ByteArray)=t.s:=by rw[Lib.itoa_nonneg,← hd,str_eta]
  have Hp:=hid hp
  have Hv:=hid hv
  have Hfs:=hid hfs
  have hz:decide ((n:Int) < 0)=false:=by simp
  have hn1:(-9223372036854775808:Int)≤(n:Int):=by omega
  have hn2:(n:Int)≤9223372036854775807:=by omega
  clear hp hv hfs hd E ht hn
  go_enter Tryz.func231,Tryz.ntmps231
  go_wp2_with fail
  refine (Tryz.strconv_ParseInt_10_at64_ok t.s (by omega) (n:Int) Hp.out _).mono ?_
  rintro e w1 ⟨rfl,hw1⟩
  have b1:Below (w.alloc (.cells #[.int .i64 2,.string t.s,.int .i64 t.line] 89)).heap.size (w.alloc (.cells #[.int .i64 2,.string t.s,.int .i64 t.line] 89)) w1:=by
   rcases hw1 with rfl | ⟨x,rfl⟩
   ·exact Below.refl _ _
   ·exact Lib.bytesWorld_below _ _ _
  have hr1:=(Row.new w 89 [.int .i64 2,.string t.s,.int .i64 t.line]).below b1 (by simp)
  have c0:=hr1.at 0 _ rfl
  have c1:=hr1.at 1 _ rfl
  have hlt1:=hr1.lt
  have HB1:=hid ((HB0.out _).trans (b1.mono (by simp)))
  have htab:=(HE.out.below HB1.out).env.tab
  clear hw1 b1 hr1
  have HF:Hid (∀ (W:World),Below w1.heap.size w1 W→Calls Tryz.prog 178 #[.int .i64 (n:Int),.int .i64 10] W fun e w'=>e=.returned (.string t.s)∧Below W.heap.size W w'):=hid fun W hb=>by
   refine (Tryz.strconv_FormatInt_10 (n:Int) hn1 hn2 W ((HE.out.below (HB1.out.trans (hb.mono HB1.out.size))).env.tab)).mono ?_
   rintro e w' ⟨rfl,k,os,rfl⟩
   exact⟨by rw[Hfs.out],Lib.below_grow _ _ (Nat.le_refl _) _ _⟩
  have hne:(!t.s.toList == t.s.toList)=false:=by simp
  clear htab hn1 hn2
  go_wp2
  go_region_held3 (fun w'=>w'.cell? ⟨w.heap.size,0,none⟩=some (.int .i64 2)∧w'.cell? ⟨w.heap.size,1,none⟩=some (.string t.s)) (first | exact⟨c0,c1⟩ | exact hk) ((go_at_call 178;refine (HF.out _ (Below.refl _ _).drew).mono ?_;rintro e w2 ⟨rfl,b2⟩;have hk:=heldNum b2 hlt1 ⟨c0,c1⟩))
  go_wp2
  go_ret2
  refine⟨by rw[Hv.out];rfl,HB1.out.trans (Below.mono (Below.trans (Below.refl _ _).drew b2) ?_)⟩
  have:=HB1.out.size
  simpa using this
 ·have hv:ofV t=.tuple #[.int .i64 0,.bool false]:=by unfold ofV;rw[if_neg hk]
  have Hv:=hid hv
  have hk1:(t.kind == 2)=false:=by simpa using hk
  have hk2:(t.kind != 2)=true:=by simp[bne,hk1]
  have hk3:(!t.kind == 2)=true:=by simp[hk1]
  have hk4:decide (t.kind=2)=false:=by simpa using hk
  have hk5:(!decide (t.kind=2))=true:=by simp[hk4]
  cases hp:Lib.parseIntB 64 t.s.data.toList with
  | ok z=>
   have Hp:=hid hp
   clear hp hv E ht hk
   go_enter Tryz.func231,Tryz.ntmps231
   go_wp2_with fail
   refine (Tryz.strconv_ParseInt_10_at64_ok t.s (by omega) z Hp.out _).mono ?_
   rintro e w1 ⟨rfl,hw1⟩
   have b1:Below (w.alloc (.cells #[.int .i64 t.kind,.string t.s,.int .i64 t.line] 89)).heap.size (w.alloc (.cells #[.int .i64 t.kind,.string t.s,.int .i64 t.line] 89)) w1:=by
    rcases hw1 with rfl | ⟨x,rfl⟩
    ·exact Below.refl _ _
    ·exact Lib.bytesWorld_below _ _ _
   have hr1:=(Row.new w 89 [.int .i64 t.kind,.string t.s,.int .i64 t.line]).below b1 (by simp)
   have c0:=hr1.at 0 _ rfl
   have c1:=hr1.at 1 _ rfl
   have HB1:=hid ((HB0.out _).trans (b1.mono (by simp)))
   clear hw1 b1 hr1
   go_wp2
   go_region
   go_wp2
   go_ret2
   exact⟨by rw[Hv.out];rfl,HB1.out.drew⟩
  | range=>
   have Hp:=hid hp
   clear hp hv ht hk
   have hb0:=HB0.out (.cells #[.int .i64 t.kind,.string t.s,.int .i64 t.line] 89)
   obtain⟨te,pe,hs⟩:=(E.below hb0).rng
   have HC:=hid (Tryz.strconv_ParseInt_10_at64_range t.s (by omega) Hp.out _ _ hs (.inr ⟨te,pe,rfl⟩))
   have Hb0:=hid hb0
   clear hb0 hs E
   go_enter Tryz.func231,Tryz.ntmps231
   go_wp2_with fail
   refine HC.out.mono ?_
   rintro e w1 ⟨N,rfl,_,_,b1⟩
   have HB1:=hid (Hb0.out.trans (b1.mono (by simp)))
   clear b1
   go_wp2
   go_region
   go_wp2
   go_ret2
   exact⟨by rw[Hv.out];rfl,HB1.out.drew⟩
  | _=>
   have Hp:=hid hp
   clear hp hv ht hk
   have hb0:=HB0.out (.cells #[.int .i64 t.kind,.string t.s,.int .i64 t.line] 89)
   obtain⟨te,pe,hs⟩:=(E.below hb0).syn
   have HC:=hid (Tryz.strconv_ParseInt_10_at64_syntax t.s (by omega) (fun v h=>by rw[Hp.out] at h;cases h) (fun h=>by rw[Hp.out] at h;cases h) _ _ hs (.inr ⟨te,pe,rfl⟩))
   have Hb0:=hid hb0
   clear hb0 hs E
   go_enter Tryz.func231,Tryz.ntmps231
   go_wp2_with fail
   refine HC.out.mono ?_
   rintro e w1 ⟨N,rfl,_,_,b1⟩
   have HB1:=hid (Hb0.out.trans (b1.mono (by simp)))
   clear b1
   go_wp2
   go_region
   go_wp2
   go_ret2
   exact⟨by rw[Hv.out];rfl,HB1.out.drew⟩
def past (L:Nat) (w:World):World:={ w with heap:=w.heap.mapIdx fun i o=>if i < L then .cells #[] 0 else o }
theorem past_heap (L:Nat) (w:World) (k:Nat):(past L w).heap[k]?=(w.heap[k]?).map fun o=>if k < L then .cells #[] 0 else o:=by simp[past]
theorem past_cell {L:Nat} {w:World} {p:Addr} {v:Value}:(past L w).cell? p=some v ↔ L≤p.block∧w.cell? p=some v:=by
 by_cases hp:p.block < L
 ·constructor
  ·intro h
   exfalso
   unfold World.cell? at h
   rw[past_heap] at h
   cases hw:w.heap[p.block]? with
   | none=>rw[hw] at h;simp at h
   | some o=>rw[hw,Option.map_some,if_pos hp] at h;simp at h
  ·rintro⟨h,_⟩
   omega
 ·have he:(past L w).heap[p.block]?=w.heap[p.block]?:=by
   rw[past_heap]
   cases hw:w.heap[p.block]? with
   | none=>rfl
   | some o=>rw[Option.map_some,if_neg hp]
  rw[World.cell?_of_block he]
  exact⟨fun h=>⟨by omega,h⟩,fun h=>h.2⟩
def Vis (w w':World):Prop:=∀ p v,w.cell? p=some v→w'.cell? p=some v
theorem Vis.past (L:Nat) (w:World):Vis (past L w) w:=fun _ _ h=>(past_cell.1 h).2
theorem Vis.less {L L':Nat} (h:L'≤L) (w:World):Vis (Go.Proofs.YtdgbajnhhhjbcaaGreatDoor.past L w) (Go.Proofs.YtdgbajnhhhjbcaaGreatDoor.past L' w):=fun _ _ hc=>past_cell.2 ⟨Nat.le_trans h (past_cell.1 hc).1,(past_cell.1 hc).2⟩
theorem Vis.kept {L:Nat} {w w':World} (h:∀ k,L≤k→k < w.heap.size→w'.heap[k]?=w.heap[k]?):Vis (Go.Proofs.YtdgbajnhhhjbcaaGreatDoor.past L w) (Go.Proofs.YtdgbajnhhhjbcaaGreatDoor.past L w'):=fun p v hc=>by
 obtain⟨h1,h2⟩:=past_cell.1 hc
 refine past_cell.2 ⟨h1,(World.cell?_of_block (h _ h1 ?_)).trans h2⟩
 unfold World.cell? at h2
 rcases Nat.lt_or_ge p.block w.heap.size with hlt | hge
 ·exact hlt
 ·rw[Array.getElem?_eq_none hge] at h2
  simp at h2
theorem Vis.gr {L R:Nat} {w w':World} (g:Gr R w w') (hR:R < L):Vis (Go.Proofs.YtdgbajnhhhjbcaaGreatDoor.past L w) (Go.Proofs.YtdgbajnhhhjbcaaGreatDoor.past L w'):=Vis.kept fun k h1 h2=>g.block k h2 (fun e=>by have:=Option.some.inj e;omega)
theorem Vis.set {L b k:Nat} {w:World} {u:Value} (hb:b < L):Vis (Go.Proofs.YtdgbajnhhhjbcaaGreatDoor.past L w) (Go.Proofs.YtdgbajnhhhjbcaaGreatDoor.past L (w.setCell ⟨b,k,none⟩ u)):=Vis.kept fun i h1 _=>Below.heap_setCell w ⟨b,k,none⟩ u i (show i≠b by omega)
theorem Vis.trans {a b c:World} (h:Vis a b) (k:Vis b c):Vis a c:=fun p v hp=>k p v (h p v hp)
theorem CellsAt.vis {w w':World} {a:Addr} {o:Nat} {cs:List Value} (h:CellsAt w a o cs) (k:Vis w w'):CellsAt w' a o cs:=fun j c hj=>k _ _ (h j c hj)
theorem SlOf.vis {α:Type} {w w':World} {B z:Nat} {P P':α→List Value→Prop} {l:List α} {v:Value} (h:SlOf w B z P l v) (k:Vis w w') (hP:∀ x ∈ l,∀ cs,P x cs→P' x cs):SlOf w' B z P' l v:=by
 rcases h with h | ⟨a,cap,h1,h2,h3,h4,h5⟩
 ·exact .inl h
 ·refine .inr ⟨a,cap,h1,h2,h3,h4,fun i x hx=>?_⟩
  obtain⟨cs,hl,hr,hc⟩:=h5 i x hx
  exact⟨cs,hl,hP x (List.mem_of_getElem? hx) cs hr,hc.vis k⟩
theorem TmC.vis {w w':World} {B:Nat} {t:Tm} {cs:List Value} (h:TmC w B t cs) (k:Vis w w'):TmC w' B t cs:=by
 induction h with
 | nil op s n h1 h2 h3=>exact .nil op s n h1 h2 h3
 | row op s n l a cap cs h1 h2 h3 h4 h5 h6 _ h8 ih=>exact .row op s n l a cap cs h1 h2 h3 h4 h5 h6 ih fun i x hx=>⟨(h8 i x hx).1,(h8 i x hx).2.vis k⟩
theorem Row.past {n L:Nat} {T:TypeId} {cs:List Value} {w:World} (h:Row n T cs w) (hn:L≤n):Row n T cs (Go.Proofs.YtdgbajnhhhjbcaaGreatDoor.past L w):=by
 show (Go.Proofs.YtdgbajnhhhjbcaaGreatDoor.past L w).heap[n]?=_
 rw[past_heap,show w.heap[n]?=_ from h,Option.map_some,if_neg (by omega)]
theorem Row.frz {n:Nat} {T:TypeId} {cs:List Value} {w:World} (h:Row n T cs w) (k:Nat):w.frozen? ⟨n,k,none⟩=false:=by
 unfold World.frozen?
 rw[show w.heap[n]?=_ from h]
 simp
theorem Row.r3 {n:Nat} {T:TypeId} {a b c:Value} {w:World} (h:Row n T [a,b,c] w):w.cell? ⟨n,0,none⟩=some a∧w.cell? ⟨n,1,none⟩=some b∧w.cell? ⟨n,2,none⟩=some c∧∀ k,w.frozen? ⟨n,k,none⟩=false:=⟨h.at 0 _ rfl,h.at 1 _ rfl,h.at 2 _ rfl,h.frz⟩
theorem Row.r4 {n:Nat} {T:TypeId} {a b c d:Value} {w:World} (h:Row n T [a,b,c,d] w):w.cell? ⟨n,0,none⟩=some a∧w.cell? ⟨n,1,none⟩=some b∧w.cell? ⟨n,2,none⟩=some c∧w.cell? ⟨n,3,none⟩=some d∧∀ k,w.frozen? ⟨n,k,none⟩=false:=⟨h.at 0 _ rfl,h.at 1 _ rfl,h.at 2 _ rfl,h.at 3 _ rfl,h.frz⟩
theorem Row.r2 {n:Nat} {T:TypeId} {a b:Value} {w:World} (h:Row n T [a,b] w):w.cell? ⟨n,0,none⟩=some a∧w.cell? ⟨n,1,none⟩=some b∧∀ k,w.frozen? ⟨n,k,none⟩=false:=⟨h.at 0 _ rfl,h.at 1 _ rfl,h.frz⟩
def boxW (b:Nat):Nat→List Value→World→World
 | _,[],w=>w
 | k,x::xs,w=>boxW b (k+1) xs (w.setCell ⟨b,k,none⟩ x)
theorem boxW_size (b:Nat):∀ (xs:List Value) (k:Nat) (w:World),(boxW b k xs w).heap.size=w.heap.size
 | [],_,_=>rfl
 | x::xs,k,w=>by rw[boxW,boxW_size b xs];simp[World.setCell]
theorem boxW_other (b:Nat):∀ (xs:List Value) (k:Nat) (w:World) (i:Nat),i≠b→(boxW b k xs w).heap[i]?=w.heap[i]?
 | [],_,_,_,_=>rfl
 | x::xs,k,w,i,h=>by rw[boxW,boxW_other b xs _ _ i h];exact Below.heap_setCell w ⟨b,k,none⟩ x i h
theorem boxW_same (b:Nat):∀ (xs:List Value) (k:Nat) (w:World),(boxW b k xs w).os=w.os∧(boxW b k xs w).tape=w.tape∧(boxW b k xs w).output=w.output
 | [],_,_=>⟨rfl,rfl,rfl⟩
 | x::xs,k,w=>by rw[boxW];exact boxW_same b xs (k+1) _
theorem Gr.box {R b:Nat} {a w:World} (h:Gr R a w) (hb:a.heap.size≤b) (k:Nat) (xs:List Value):Gr R a (boxW b k xs w):=by
 obtain⟨h1,h2,h3⟩:=boxW_same b xs k w
 exact⟨h1.trans h.os,h2.trans h.tape,h3.trans h.output,by rw[boxW_size];exact h.size,fun i hi hr=>(boxW_other b xs k w i (by omega)).trans (h.block i hi hr)⟩
theorem Vis.box {L b k:Nat} {w:World} {xs:List Value} (hb:b < L):Vis (Go.Proofs.YtdgbajnhhhjbcaaGreatDoor.past L w) (Go.Proofs.YtdgbajnhhhjbcaaGreatDoor.past L (boxW b k xs w)):=Vis.kept fun i h1 _=>boxW_other b xs k w i (show i≠b by omega)
theorem below_box {B b:Nat} {a w:World} (h:Below B a w) (hb:B≤b) (k:Nat) (xs:List Value):Below B a (boxW b k xs w):=by
 obtain⟨h1,h2,h3⟩:=boxW_same b xs k w
 exact⟨h1.trans h.os,h2.trans h.tape,h3.trans h.output,by rw[boxW_size];exact h.size,fun i hi=>(boxW_other b xs k w i (by omega)).trans (h.block i hi)⟩
theorem Rd.belowR {C:RC} {du ru:Value} {q:List TokI} {w w':World} (h:Rd C du ru q w) (hb:Below (C.R+1) w w'):Rd C du ru q w':=by
 obtain⟨i,h1,h2,hr⟩:=h.row
 have hv:=h.vars
 exact⟨⟨i,h1,h2,(hb.block C.R (by omega)).trans hr⟩,h.lie.below (hb.mono (by omega)),h.few,h.good,h.env.belowB hv (hb.mono (by omega)),hv⟩
theorem Rd.box {C:RC} {du ru:Value} {q:List TokI} {w:World} {b k:Nat} {xs:List Value} (h:Rd C du ru q w) (hb:C.R < b):Rd C du ru q (boxW b k xs w):=h.belowR (below_box (Below.refl _ _) hb k xs)
theorem Gr.alloc {R:Nat} {a w:World} (h:Gr R a w) (o:Obj):Gr R a (w.alloc o):=h.trans (Gr.of_below ((Below.refl _ _).alloc (Nat.le_refl _) _))
theorem Gr.set4 {R b:Nat} {a w:World} (h:Gr R a w) (hb:a.heap.size≤b) (x y z u:Value):Gr R a ((((w.setCell ⟨b,0,none⟩ x).setCell ⟨b,1,none⟩ y).setCell ⟨b,2,none⟩ z).setCell ⟨b,3,none⟩ u):=h.box hb 0 [x,y,z,u]
theorem Gr.set2 {R b:Nat} {a w:World} (h:Gr R a w) (hb:a.heap.size≤b) (x y:Value):Gr R a ((w.setCell ⟨b,0,none⟩ x).setCell ⟨b,1,none⟩ y):=h.box hb 0 [x,y]
theorem Rd.alloc {C:RC} {du ru:Value} {q:List TokI} {w:World} (h:Rd C du ru q w) (o:Obj):Rd C du ru q (w.alloc o):=h.below ((Below.refl _ _).alloc (Nat.le_refl _) _)
theorem Rd.set4 {C:RC} {du ru:Value} {q:List TokI} {w:World} {b:Nat} (h:Rd C du ru q w) (hb:C.R < b) (x y z u:Value):Rd C du ru q ((((w.setCell ⟨b,0,none⟩ x).setCell ⟨b,1,none⟩ y).setCell ⟨b,2,none⟩ z).setCell ⟨b,3,none⟩ u):=h.box hb (k:=0) (xs:=[x,y,z,u])
theorem Rd.set2 {C:RC} {du ru:Value} {q:List TokI} {w:World} {b:Nat} (h:Rd C du ru q w) (hb:C.R < b) (x y:Value):Rd C du ru q ((w.setCell ⟨b,0,none⟩ x).setCell ⟨b,1,none⟩ y):=h.box hb (k:=0) (xs:=[x,y])
theorem TmC.set4 {L b B:Nat} {w:World} {t:Tm} {cs:List Value} (h:TmC (Go.Proofs.YtdgbajnhhhjbcaaGreatDoor.past L w) B t cs) (hb:b < L) (x y z u:Value):TmC (Go.Proofs.YtdgbajnhhhjbcaaGreatDoor.past L ((((w.setCell ⟨b,0,none⟩ x).setCell ⟨b,1,none⟩ y).setCell ⟨b,2,none⟩ z).setCell ⟨b,3,none⟩ u)) B t cs:=h.vis (Vis.box (k:=0) (xs:=[x,y,z,u]) hb)
theorem TmC.gr {L R:Nat} {w w':World} {t:Tm} {cs:List Value} (h:TmC (Go.Proofs.YtdgbajnhhhjbcaaGreatDoor.past L w) w.heap.size t cs) (g:Gr R w w') (hR:R < L):TmC (Go.Proofs.YtdgbajnhhhjbcaaGreatDoor.past L w') w'.heap.size t cs:=(h.vis (Vis.gr g hR)).more g.size
theorem TmC.lower {L L' B:Nat} {w:World} {t:Tm} {cs:List Value} (h:TmC (Go.Proofs.YtdgbajnhhhjbcaaGreatDoor.past L w) B t cs) (hL:L'≤L):TmC (Go.Proofs.YtdgbajnhhhjbcaaGreatDoor.past L' w) B t cs:=h.vis (Vis.less hL w)
theorem set4_size (w:World) (b:Nat) (x y z u:Value):((((w.setCell ⟨b,0,none⟩ x).setCell ⟨b,1,none⟩ y).setCell ⟨b,2,none⟩ z).setCell ⟨b,3,none⟩ u).heap.size=w.heap.size:=boxW_size b [x,y,z,u] 0 w
def TmR (C:RC) (du ru:Value) (r:Res Tm) (w:World) (e:Ending) (w':World):Prop:=
 (match r with
  | .ok (x,q')=>∃ o cap,e=.returned (.tuple #[.agg #[.int .i64 x.op,.string x.s,.int .i64 x.n,.slice o x.l.length cap],.nilIface])∧TmC (past w.heap.size w') w'.heap.size x [.int .i64 x.op,.string x.s,.int .i64 x.n,.slice o x.l.length cap]∧Rd C du ru q' w'
  | .error z=>e=.returned (.tuple #[.agg #[.int .i64 0,.string ⟨#[]⟩,.int .i64 0,.slice none 0 0],flawV z.1 z.2]))∧Gr C.R w w'
theorem TmR.ok {C:RC} {du ru:Value} {r:Res Tm} {x:Tm} {q:List TokI} {w w':World} {o:Option Addr} {cap:Nat} {op:Int} {s:ByteArray} {n:Int} {k:Nat} (hr:r=.ok (x,q)) (h1:op=x.op) (h2:s=x.s) (h3:n=x.n) (h4:k=x.l.length)
  (hc:TmC (past w.heap.size w') w'.heap.size x [.int .i64 x.op,.string x.s,.int .i64 x.n,.slice o x.l.length cap]) (hd:Rd C du ru q w') (g:Gr C.R w w') :
  TmR C du ru r w (.returned (.tuple #[.agg #[.int .i64 op,.string s,.int .i64 n,.slice o k cap],.nilIface])) w':=by
 subst hr h1 h2 h3 h4
 exact⟨⟨o,cap,rfl,hc,hd⟩,g⟩
theorem TmR.bad {C:RC} {du ru:Value} {r:Res Tm} {k n:Int} {w w':World} (hr:r=.error (k,n)) (g:Gr C.R w w') :
  TmR C du ru r w (.returned (.tuple #[.agg #[.int .i64 0,.string ⟨#[]⟩,.int .i64 0,.slice none 0 0],flawV k n])) w':=by
 subst hr
 exact⟨rfl,g⟩
def numQ (neg:Bool) (q:List TokI):Res Tm:=if (hdT q).kind=2 then .ok (intT (if neg=true then -(digitsI (hdT q).s.data.toList) else digitsI (hdT q).s.data.toList),q.tail) else .error (40,lineL q)
theorem leaf_laid {w:World} {B:Nat} (n:Int) (h:I64 n):TmC w B (intT n) [.int .i64 2,.string ⟨#[]⟩,.int .i64 n,.slice none 0 0]:=.nil 2 ⟨#[]⟩ n (by unfold I64;decide) (by decide) h
set_option maxHeartbeats 2000000 in
theorem rnumber_c (C:RC) (du ru:Value) (q:List TokI) (neg:Bool) (w:World) (h:Rd C du ru q w) :
  Calls Tryz.prog 229 #[.pointer (some ⟨C.R,0,none⟩),.bool neg] w (TmR C du ru (numQ neg q) w):=by
 have hg:=good_hd h.goodq
 have HH:=hid (fun (W:World) (hb:Below w.heap.size w W)=>here_c C du ru q W (h.below hb))
 have HN:=hid (fun (W:World) (hb:Below w.heap.size w W)=>numberOf_c (hdT q) hg C.a W (h.env.below hb))
 have HB0:Hid (∀ (x:Obj),Below w.heap.size w (w.alloc x)):=hid fun x=>(Below.refl _ _).alloc (Nat.le_refl _) _
 have hltR:=h.lt
 have H:=hid h
 clear h
 by_cases hk:(hdT q).kind=2
 ·obtain⟨n,hn,hd⟩:=hg.num hk
  have hv:ofV (hdT q)=.tuple #[.int .i64 (n:Int),.bool true]:=by unfold ofV;rw[if_pos hk,hd,digitsI_dec]
  have hne:q≠[]:=by rintro rfl;cases hk
  have hq:numQ neg q=.ok (intT (if neg=true then -(n:Int) else n),q.tail):=by unfold numQ;rw[if_pos hk,hd,digitsI_dec]
  have Hv:=hid hv
  have Hq:=hid hq
  have Hne:=hid hne
  have hn1:-(n:Int)≤0:=by omega
  have hn2:(-9223372036854775808:Int) ≤ -(n:Int):=by omega
  have hn3:(n:Int)≤9223372036854775807:=by omega
  clear hv hq hd hk hg hn hne
  go_enter Tryz.func229,Tryz.ntmps229
  go_wp2_with fail
  refine (HH.out _ (HB0.out _)).mono ?_
  rintro e w1 ⟨rfl,b1⟩
  have hr1:=(Row.new w 64 [.int .i64 0,.string ⟨#[]⟩,.int .i64 0,.slice none 0 0]).below b1 (by simp)
  have B1:=hid ((HB0.out (.cells #[.int .i64 0,.string ⟨#[]⟩,.int .i64 0,.slice none 0 0] 64)).trans (b1.mono (by simp)))
  have Hr1:=hid hr1
  clear b1 hr1
  go_wp2_with fail
  refine (HN.out _ B1.out).mono ?_
  rintro e w2 ⟨rfl,b2⟩
  have Hr2:=hid (Hr1.out.below b2 Hr1.out.lt)
  have B2:=hid (B1.out.trans (b2.mono B1.out.size))
  clear b2
  rw[Hv.out]
  go_wp2_with fail
  refine (step_c C du ru q Hne.out w2 (H.out.below B2.out)).mono ?_
  rintro e w3 ⟨rfl,r3,g3⟩
  have hr3:=Hr2.out.gr g3 (by have:=hltR;omega)
  obtain⟨c0,c1,c2,c3,f3⟩:=hr3.r4
  have R3:=hid r3
  have G3:=hid ((Gr.of_below B2.out).trans g3)
  clear r3 g3 hr3
  cases neg with
  | true=>
   go_wp2
   refine bodyPost_ret (v:=.tuple #[.agg #[.int .i64 2,.string ⟨#[]⟩,.int .i64 (-(n:Int)),.slice none 0 0],.nilIface]) (by simp[results,Tryz.results229,go_sem,c0,c1,c2,c3]) rfl ?_
   exact TmR.ok (w':=boxW w.heap.size 0 [.int .i64 2,.string ⟨#[]⟩,.int .i64 (-(n:Int)),.slice none 0 0] w3) Hq.out rfl rfl rfl rfl (leaf_laid _ ⟨hn2,by omega⟩) (R3.out.box hltR) (G3.out.box (Nat.le_refl _) _ _)
  | false=>
   go_wp2
   refine bodyPost_ret (v:=.tuple #[.agg #[.int .i64 2,.string ⟨#[]⟩,.int .i64 (n:Int),.slice none 0 0],.nilIface]) (by simp[results,Tryz.results229,go_sem,c0,c1,c2,c3]) rfl ?_
   exact TmR.ok (w':=boxW w.heap.size 0 [.int .i64 2,.string ⟨#[]⟩,.int .i64 (n:Int),.slice none 0 0] w3) Hq.out rfl rfl rfl rfl (leaf_laid _ ⟨by omega,hn3⟩) (R3.out.box hltR) (G3.out.box (Nat.le_refl _) _ _)
 ·have hv:ofV (hdT q)=.tuple #[.int .i64 0,.bool false]:=by unfold ofV;rw[if_neg hk]
  have hq:numQ neg q=.error (40,lineL q):=by unfold numQ;rw[if_neg hk]
  have Hv:=hid hv
  have Hq:=hid hq
  clear hv hq hg hk
  go_enter Tryz.func229,Tryz.ntmps229
  go_wp2_with fail
  refine (HH.out _ (HB0.out _)).mono ?_
  rintro e w1 ⟨rfl,b1⟩
  have hr1:=(Row.new w 64 [.int .i64 0,.string ⟨#[]⟩,.int .i64 0,.slice none 0 0]).below b1 (by simp)
  have B1:=hid ((HB0.out (.cells #[.int .i64 0,.string ⟨#[]⟩,.int .i64 0,.slice none 0 0] 64)).trans (b1.mono (by simp)))
  have Hr1:=hid hr1
  clear b1 hr1
  go_wp2_with fail
  refine (HN.out _ B1.out).mono ?_
  rintro e w2 ⟨rfl,b2⟩
  have Hr2:=hid (Hr1.out.below b2 Hr1.out.lt)
  have B2:=hid (B1.out.trans (b2.mono B1.out.size))
  clear b2
  rw[Hv.out]
  go_wp2_with fail
  refine (fail_c C du ru q 40 w2 (H.out.below B2.out)).mono ?_
  rintro e w3 ⟨rfl,b3⟩
  obtain⟨c0,c1,c2,c3,f3⟩:=(Hr2.out.below b3 Hr2.out.lt).r4
  have G3:=hid ((Gr.of_below (R:=C.R) B2.out).trans (Gr.of_below b3))
  clear b3
  go_wp2
  refine bodyPost_ret (v:=.tuple #[.agg #[.int .i64 0,.string ⟨#[]⟩,.int .i64 0,.slice none 0 0],flawV 40 (lineL q)]) (by simp[results,Tryz.results229,go_sem,c0,c1,c2,c3]) rfl ?_
  exact TmR.bad (w':=boxW w.heap.size 0 [.int .i64 0,.string ⟨#[]⟩,.int .i64 0,.slice none 0 0] w3) Hq.out (G3.out.box (Nat.le_refl _) _ _)
def TmF (f:Nat) (P:List TokI→Res Tm) (q:List TokI):Prop:=∀ (C:RC) (du ru:Value) (w:World),Rd C du ru q w→Calls Tryz.prog f #[.pointer (some ⟨C.R,0,none⟩)] w (TmR C du ru (P q) w)
def brackP (q:List TokI):Res Tm:=
 match sumP q.tail with
 | .error e=>.error e
 | .ok (x,p)=>mustP 4 [41] x p
abbrev zeroCells:List Value:=[.int .i64 0,.string ⟨#[]⟩,.int .i64 0,.slice none 0 0]
abbrev tmCells (x:Tm) (o:Option Addr) (cap:Nat):List Value:=[.int .i64 x.op,.string x.s,.int .i64 x.n,.slice o x.l.length cap]
set_option maxHeartbeats 4000000 in
theorem bracketed_c (q:List TokI) (hq:q≠[]) (IH:TmF 204 sumP q.tail):TmF 230 brackP q:=by
 intro C du ru w h
 have hltR:=h.lt
 have HB0:Hid (∀ (W:World) (x:Obj),Below W.heap.size W (W.alloc x)):=hid fun W x=>(Below.refl _ _).alloc (Nat.le_refl _) _
 obtain⟨W1,hW1⟩:∃ W1,w.alloc (.cells #[.int .i64 0,.string ⟨#[]⟩,.int .i64 0,.slice none 0 0] 64)=W1:=⟨_,rfl⟩
 have hb1:Below w.heap.size w W1:=by rw[← hW1];exact HB0.out w _
 have hr1:Row w.heap.size 64 zeroCells W1:=by rw[← hW1];exact Row.new w _ _
 have HS:=hid (step_c C du ru q hq W1 (h.below hb1))
 have HIH:=hid IH
 have HW1:=hid hW1
 have Hb1:=hid hb1
 have Hr1:=hid hr1
 clear h hW1 hb1 hr1 IH
 cases hp:sumP q.tail with
 | error z=>
  have Hp:=hid hp
  have Hq:Hid (brackP q=.error (z.1,z.2)):=hid (by unfold brackP;rw[hp])
  clear hp
  go_enter Tryz.func230,Tryz.ntmps230
  go_wp2_with fail
  rw[HW1.out]
  refine HS.out.mono ?_
  rintro e w2 ⟨rfl,r2,g2⟩
  have Hr2:=hid (Hr1.out.gr g2 (by omega))
  have R2:=hid r2
  have G2:=hid ((Gr.of_below Hb1.out).trans g2)
  clear r2 g2
  go_wp2_with fail
  refine (HIH.out C du ru w2 R2.out).mono ?_
  rintro e w3 ⟨hm,g3⟩
  rw[Hp.out] at hm
  obtain rfl:=hm
  have G3:=hid (G2.out.trans g3)
  have hr3:=Hr2.out.gr g3 (by omega)
  have hlt3:=hr3.lt
  obtain⟨c0,c1,c2,c3,f3⟩:=hr3.r4
  clear g3 hr3
  go_wp2
  refine bodyPost_ret (v:=.tuple #[.agg #[.int .i64 0,.string ⟨#[]⟩,.int .i64 0,.slice none 0 0],flawV z.1 z.2]) (by simp[results,Tryz.results230,go_sem,c0,c1,c2,c3,hlt3]) rfl ?_
  exact TmR.bad Hq.out ((G3.out.set4 (Nat.le_refl _) _ _ _ _).alloc _)
 | ok y=>
  obtain⟨x,p⟩:=y
  have Hp:=hid hp
  have Hq0:Hid (brackP q=mustP 4 [41] x p):=hid (by unfold brackP;rw[hp])
  clear hp
  go_enter Tryz.func230,Tryz.ntmps230
  go_wp2_with fail
  rw[HW1.out]
  refine HS.out.mono ?_
  rintro e w2 ⟨rfl,r2,g2⟩
  have Hr2:=hid (Hr1.out.gr g2 (by omega))
  have R2:=hid r2
  have G2:=hid ((Gr.of_below Hb1.out).trans g2)
  have hn2:w.heap.size < w2.heap.size:=Hr2.out.lt
  clear r2 g2
  go_wp2_with fail
  refine (HIH.out C du ru w2 R2.out).mono ?_
  rintro e w3 ⟨hm,g3⟩
  rw[Hp.out] at hm
  obtain⟨o,cap,rfl,t3,r3⟩:=hm
  have G3:=hid (G2.out.trans g3)
  have Hr3:=hid (Hr2.out.gr g3 (by omega))
  obtain⟨W4,hW4⟩:∃ W4,w3.alloc (.cells #[.int .i64 x.op,.string x.s,.int .i64 x.n,.slice o x.l.length cap] 64)=W4:=⟨_,rfl⟩
  obtain⟨W5,hW5⟩:∃ W5,W4.alloc (.cells #[.string ⟨#[41]⟩] 9)=W5:=⟨_,rfl⟩
  have hs3:=G3.out.size
  have hs4:W4.heap.size=w3.heap.size+1:=by rw[← hW4];simp
  have hb4:Below w3.heap.size w3 W4:=by rw[← hW4];exact HB0.out w3 _
  have hb5:Below w3.heap.size w3 W5:=by rw[← hW5];exact hb4.trans ((HB0.out W4 _).mono hb4.size)
  have hr4:Row w3.heap.size 64 (tmCells x o cap) W5:=by
   rw[← hW5]
   refine Row.below ?_ (HB0.out W4 _) (by omega)
   rw[← hW4]
   exact Row.new w3 _ _
  have hr5:Row (w3.heap.size+1) 9 [.string ⟨#[41]⟩] W5:=by rw[← hW5,← hs4];exact Row.new W4 _ _
  have R5:=hid (r3.below hb5)
  have G5:=hid (G3.out.trans (Gr.of_below hb5))
  have hc5:=hr5.at 0 _ rfl
  have HS5:=hid (sign1_c C du ru p ⟨#[41]⟩ (w3.heap.size+1) W5 R5.out hc5)
  have HW4:=hid hW4
  have HW5:=hid hW5
  have Hs4:=hid hs4
  have Hr4:=hid hr4
  have Hr5:=hid (Hr3.out.below hb5 Hr3.out.lt)
  have T5:=hid ((t3.vis (Vis.gr (Gr.of_below (R:=C.R) hb5) (by omega))).more hb5.size)
  clear t3 r3 g3 hW4 hW5 hs4 hb4 hb5 hr4 hr5 hc5
  cases hn:nextB 4 [41] p with
  | true=>
   have Hn:=hid (show signsP [[41]] p=.ok p.tail by simp[signsP,hn])
   have Hq:Hid (brackP q=.ok (x,p.tail)):=hid (by rw[Hq0.out];unfold mustP;rw[if_pos hn])
   clear hn
   go_wp2_with fail
   rw[HW4.out,HW5.out]
   refine HS5.out.mono ?_
   rintro e w6 ⟨hse,hrd,g6⟩
   rw[Hn.out] at hse hrd
   have hse:e=.returned .nilIface:=hse
   subst hse
   have R6:=hid (hrd _ rfl)
   have G6:=hid (G5.out.trans g6)
   have hr2:=Hr5.out.gr g6 (by omega)
   obtain⟨d0,d1,d2,d3,e3⟩:=(Hr4.out.gr g6 (by omega)).r4
   have T6:=hid (T5.out.gr g6 (by omega))
   have hlt6:=hr2.lt
   obtain⟨c0,c1,c2,c3,f3⟩:=hr2.r4
   clear hrd g6 hr2
   go_wp2
   refine bodyPost_ret (v:=.tuple #[.agg #[.int .i64 x.op,.string x.s,.int .i64 x.n,.slice o x.l.length cap],.nilIface]) (by simp[results,Tryz.results230,go_sem,c0,c1,c2,c3]) rfl ?_
   exact TmR.ok Hq.out rfl rfl rfl rfl (((T6.out.set4 hn2 _ _ _ _).lower (Nat.le_of_lt hn2)).more (Nat.le_of_eq (set4_size _ _ _ _ _ _).symm)) (R6.out.set4 hltR _ _ _ _) (G6.out.set4 (Nat.le_refl _) _ _ _ _)
  | false=>
   have Hn:=hid (show signsP [[41]] p=.error (40,lineL p) by simp[signsP,hn])
   have Hq:Hid (brackP q=.error (40,lineL p)):=hid (by rw[Hq0.out];unfold mustP;rw[if_neg (by rw[hn];decide)])
   clear hn
   go_wp2_with fail
   rw[HW4.out,HW5.out]
   refine HS5.out.mono ?_
   rintro e w6 ⟨hse,hrd,g6⟩
   rw[Hn.out] at hse
   have hse:e=.returned (flawV 40 (lineL p)):=hse
   subst hse
   have G6:=hid (G5.out.trans g6)
   have hr2:=Hr5.out.gr g6 (by omega)
   have hlt6:=hr2.lt
   obtain⟨c0,c1,c2,c3,f3⟩:=hr2.r4
   clear hrd g6 hr2
   go_wp2
   refine bodyPost_ret (v:=.tuple #[.agg #[.int .i64 0,.string ⟨#[]⟩,.int .i64 0,.slice none 0 0],flawV 40 (lineL p)]) (by simp[results,Tryz.results230,go_sem,c0,c1,c2,c3]) rfl ?_
   exact TmR.bad Hq.out (G6.out.set4 (Nat.le_refl _) _ _ _ _)
end Go.Proofs.YtdgbajnhhhjbcaaGreatDoor
