/- Rd11@012, Rd12@012, Rd13@012, Rd14@012 -/
import Derived.Test.YtdgbajnhhhjbcaaGreatDoorQ33
set_option linter.unusedSimpArgs false
namespace Go.Proofs.YtdgbajnhhhjbcaaGreatDoor
open Lib(hid)
open Go.RowKit
set_option maxHeartbeats 4000000 in
theorem product_f (n:Nat) (IH:∀ q,q.length≤n→TmF 225 thingP q):∀ q,q.length≤n→TmF 215 productP q:=by
 intro q hq C du ru w h
 have hltR:=h.lt
 have HB0:Hid (∀ (W:World) (x:Obj),Below W.heap.size W (W.alloc x)):=hid fun W x=>(Below.refl _ _).alloc (Nat.le_refl _) _
 obtain⟨W1,hW1⟩:∃ W1,w.alloc (.cells #[.int .i64 0,.string ⟨#[]⟩,.int .i64 0,.slice none 0 0] 64)=W1:=⟨_,rfl⟩
 have hb1:Below w.heap.size w W1:=by rw[← hW1];exact HB0.out w _
 have hr1:Row w.heap.size 64 zeroCells W1:=by rw[← hW1];exact Row.new w _ _
 have HC:=hid (productC_c n IH q hq C du ru W1 (h.below hb1))
 have Hq0:Hid (productP q=productCQ q):=hid (by rw[productP_eq];rfl)
 have HW1:=hid hW1
 have Hb1:=hid hb1
 have Hrp:=hid hr1
 clear h hW1 hb1 hr1 IH
 go_enter Tryz.func215,Tryz.ntmps215
 go_wp2_with fail
 rw[HW1.out]
 refine HC.out.mono ?_
 rintro e w2 ⟨hm,g⟩
 cases hp:productCQ q with
 | error z=>
  rw[hp] at hm
  obtain rfl:=hm
  have Hq:=hid (Hq0.out.trans hp)
  obtain⟨c0,c1,c2,c3,f3⟩:=(Hrp.out.gr g (by omega)).r4
  have Gf:=hid ((Gr.of_below Hb1.out).trans g)
  clear hp g
  go_wp2
  refine bodyPost_ret (v:=.tuple #[.agg #[.int .i64 0,.string ⟨#[]⟩,.int .i64 0,.slice none 0 0],flawV z.1 z.2]) (by simp[results,Tryz.results215,go_sem,c0,c1,c2,c3]) rfl ?_
  exact TmR.bad Hq.out (Gf.out.set4 (Nat.le_refl _) _ _ _ _)
 | ok y=>
  obtain⟨x,p⟩:=y
  rw[hp] at hm
  obtain⟨o,cap,rfl,tx,rx⟩:=hm
  have Hq:=hid (Hq0.out.trans hp)
  obtain⟨c0,c1,c2,c3,f3⟩:=(Hrp.out.gr g (by omega)).r4
  have Gf:=hid ((Gr.of_below Hb1.out).trans g)
  have Tx:=hid tx
  have Rx:=hid rx
  have hnp:=Hrp.out.lt
  clear hp g tx rx
  go_wp2
  refine bodyPost_ret (v:=.tuple #[.agg #[.int .i64 x.op,.string x.s,.int .i64 x.n,.slice o x.l.length cap],.nilIface]) (by simp[results,Tryz.results215,go_sem,c0,c1,c2,c3]) rfl ?_
  exact TmR.ok Hq.out rfl rfl rfl rfl (((Tx.out.set4 hnp _ _ _ _).lower (Nat.le_of_lt hnp)).more (Nat.le_of_eq (set4_size _ _ _ _ _ _).symm)) (Rx.out.set4 hltR _ _ _ _) (Gf.out.set4 (Nat.le_refl _) _ _ _ _)
set_option maxHeartbeats 4000000 in
theorem sum_f (n:Nat) (IH:∀ q,q.length≤n→TmF 215 productP q):∀ q,q.length≤n→TmF 204 sumP q:=by
 intro q hq C du ru w h
 have hltR:=h.lt
 have HB0:Hid (∀ (W:World) (x:Obj),Below W.heap.size W (W.alloc x)):=hid fun W x=>(Below.refl _ _).alloc (Nat.le_refl _) _
 obtain⟨W1,hW1⟩:∃ W1,w.alloc (.cells #[.int .i64 0,.string ⟨#[]⟩,.int .i64 0,.slice none 0 0] 64)=W1:=⟨_,rfl⟩
 have hb1:Below w.heap.size w W1:=by rw[← hW1];exact HB0.out w _
 have hr1:Row w.heap.size 64 zeroCells W1:=by rw[← hW1];exact Row.new w _ _
 have HC:=hid (sumC_c n IH q hq C du ru W1 (h.below hb1))
 have Hq0:Hid (sumP q=sumCQ q):=hid (by rw[sumP_eq];rfl)
 have HW1:=hid hW1
 have Hb1:=hid hb1
 have Hrp:=hid hr1
 clear h hW1 hb1 hr1 IH
 go_enter Tryz.func204,Tryz.ntmps204
 go_wp2_with fail
 rw[HW1.out]
 refine HC.out.mono ?_
 rintro e w2 ⟨hm,g⟩
 cases hp:sumCQ q with
 | error z=>
  rw[hp] at hm
  obtain rfl:=hm
  have Hq:=hid (Hq0.out.trans hp)
  obtain⟨c0,c1,c2,c3,f3⟩:=(Hrp.out.gr g (by omega)).r4
  have Gf:=hid ((Gr.of_below Hb1.out).trans g)
  clear hp g
  go_wp2
  refine bodyPost_ret (v:=.tuple #[.agg #[.int .i64 0,.string ⟨#[]⟩,.int .i64 0,.slice none 0 0],flawV z.1 z.2]) (by simp[results,Tryz.results204,go_sem,c0,c1,c2,c3]) rfl ?_
  exact TmR.bad Hq.out (Gf.out.set4 (Nat.le_refl _) _ _ _ _)
 | ok y=>
  obtain⟨x,p⟩:=y
  rw[hp] at hm
  obtain⟨o,cap,rfl,tx,rx⟩:=hm
  have Hq:=hid (Hq0.out.trans hp)
  obtain⟨c0,c1,c2,c3,f3⟩:=(Hrp.out.gr g (by omega)).r4
  have Gf:=hid ((Gr.of_below Hb1.out).trans g)
  have Tx:=hid tx
  have Rx:=hid rx
  have hnp:=Hrp.out.lt
  clear hp g tx rx
  go_wp2
  refine bodyPost_ret (v:=.tuple #[.agg #[.int .i64 x.op,.string x.s,.int .i64 x.n,.slice o x.l.length cap],.nilIface]) (by simp[results,Tryz.results204,go_sem,c0,c1,c2,c3]) rfl ?_
  exact TmR.ok Hq.out rfl rfl rfl rfl (((Tx.out.set4 hnp _ _ _ _).lower (Nat.le_of_lt hnp)).more (Nat.le_of_eq (set4_size _ _ _ _ _ _).symm)) (Rx.out.set4 hltR _ _ _ _) (Gf.out.set4 (Nat.le_refl _) _ _ _ _)
theorem sum_all:∀ (n:Nat) (q:List TokI),q.length≤n→TmF 204 sumP q:=by
 intro n
 induction n with
 | zero=>
  have h1:∀ q,q.length≤0→TmF 225 thingP q:=fun q hq=>thing_c q (fun hne=>absurd (List.eq_nil_of_length_eq_zero (by omega)) hne)
  exact sum_f 0 (product_f 0 h1)
 | succ n ih=>
  have h1:∀ q,q.length≤n+1→TmF 225 thingP q:=fun q hq=>thing_c q (fun _=>ih q.tail (by rw[List.length_tail];omega))
  exact sum_f (n+1) (product_f (n+1) h1)
theorem sum_c (q:List TokI):TmF 204 sumP q:=sum_all _ q (Nat.le_refl _)
theorem highTs_app:∀ (l:List Tm) (t:Tm),highTs (l++[t])=max (highTs l) (highT t)
 | [],t=>by simp[highTs]
 | x::l,t=>by rw[List.cons_append,highTs,highTs_app l t,highTs];omega
theorem highTs_mem:∀ {l:List Tm} {t:Tm},t ∈ l→highT t≤highTs l
 | x::l,t,h=>by
  rw[highTs]
  rcases List.mem_cons.1 h with rfl | h
  ·omega
  ·have:=highTs_mem h;omega
theorem highT_eq (t:Tm):highT t=highTs t.l+1:=by cases t;rw[highT];rfl
theorem highTs_take (l:List Tm):∀ k,highTs (l.take k)≤highTs l:=by
 induction l with
 | nil=>intro k;simp
 | cons x l ih=>
  intro k
  cases k with
  | zero=>simp[highTs]
  | succ k=>have:=ih k;rw[List.take_succ_cons,highTs,highTs];omega
set_option maxRecDepth 100000 in
set_option maxHeartbeats 4000000 in
theorem height_c:∀ (n:Nat),n≤1000000→∀ (t:Tm) (w:World) (cs:List Value),highT t≤n→TmC w w.heap.size t cs →
  Calls Tryz.prog 205 #[.agg cs.toArray] w fun e w'=>e=.returned (.int .i64 (highT t:Int))∧Below w.heap.size w w':=by
 intro n
 induction n with
 | zero=>intro _ t w cs h;rw[highT_eq] at h;omega
 | succ n ih=>
  intro hn t w cs h hc
  have HI:=hid (ih (by omega))
  obtain⟨o,cap,rfl,_,_,_,hs⟩:=hc.look
  obtain⟨o',cap',he,hcap,hcm,S⟩:=SlOf.open hs
  cases he
  rw[highT_eq] at h ⊢
  have hlen:t.l.length≤9223372036854775807:=by omega
  have HB0:Hid (∀ (x:Obj),Below w.heap.size w (w.alloc x)):=hid fun x=>(Below.refl _ _).alloc (Nat.le_refl _) _
  clear ih hs hc
  go_enter Tryz.func205,Tryz.ntmps205
  go_wp2
  go_loopw [3,9] (fun hi i wr=>∃ k:Nat,k≤t.l.length∧i=.int .i64 (k:Int)∧hi=.int .i64 ((highTs (t.l.take k):Nat):Int)∧Below w.heap.size w wr) (fun _ i _=>t.l.length - (intOf i).toNat)
  case atStart=>exact⟨0,Nat.zero_le _,rfl,by simp[highTs],HB0.out _⟩
  case round=>
   obtain⟨k,hk,rfl,rfl,hB⟩:=hrel
   have hBs:=hB.size
   have htk:=highTs_take t.l k
   by_cases hlt:k < t.l.length
   ·have hlt':(k:Int) < (t.l.length:Int):=by omega
    obtain⟨u,hu⟩:∃ u,t.l[k]?=some u:=⟨t.l[k],List.getElem?_eq_getElem hlt⟩
    obtain⟨b,p2,q2,rfl,hb,Hc,c0,c1,c2,c3⟩:=tm_at S hB hu
    have hbl:(b.add (k * 4)).block < wr.heap.size:=by rw[addBlock];omega
    have hmem:=highTs_mem (List.mem_of_getElem? hu)
    have hsn:highTs (t.l.take (k+1))=max (highTs (t.l.take k)) (highT u):=by
     rw[List.take_succ_eq_append_getElem hlt,show t.l[k]=u from (List.getElem?_eq_some_iff.1 hu).2,highTs_app]
    have Hsn:=hid hsn
    have Hu:=hid hu
    clear hu hsn
    have HC:=hid (fun (W:World) (hb:Below wr.heap.size wr W)=>HI.out u W _ (by omega) ((Hc.out.under hb).more hb.size))
    go_wp2_with fail
    refine (HC.out _ ((Below.refl _ _).alloc (Nat.le_refl _) _)).mono ?_
    rintro e w2 ⟨rfl,b2⟩
    have HB2:=hid (hB.trans ((((Below.refl wr.heap.size wr).alloc (Nat.le_refl _) (.cells #[.int .i64 u.op,.string u.s,.int .i64 u.n,.slice p2 u.l.length q2] 64)).trans (b2.mono (by simp))).mono hBs))
    clear b2
    obtain⟨A,hA⟩:∃ A,highTs (t.l.take k)=A:=⟨_,rfl⟩
    obtain⟨D,hD⟩:∃ D,highT u=D:=⟨_,rfl⟩
    have HA:=hid hA
    have HD:=hid hD
    rw[hA] at htk ⊢
    rw[hD] at hmem ⊢
    clear hA hD
    go_wp2
    all_goals
     go_roundw
     case rel=>exact⟨k+1,by omega,by go_num,by rw[Hsn.out,HA.out,HD.out];first | (congr 1;omega) | (simp;omega),HB2.out⟩
     case measure=>simp[intOf];omega
   ·have hlt':¬ (k:Int) < (t.l.length:Int):=by omega
    have hall:t.l.take k=t.l:=List.take_of_length_le (by omega)
    have Hall:=hid hall
    clear hall
    go_wp2
    go_ret
    exact⟨by rw[Hall.out];rfl,hB⟩
theorem high_leaf (o:Int) (s:ByteArray) (n:Int):highT (.mk o s n [])=1:=by simp[highT,highTs]
theorem high_two (o:Int) (s:ByteArray) (n:Int) (x y:Tm):highT (.mk o s n [x,y])=max (highT x) (highT y)+1:=by simp[highT,highTs]
theorem sum_high:∀ (n:Nat) (l:List TokI),l.length≤n →
  (∀ x q,thingP l=.ok (x,q)→highT x+q.length≤l.length)∧(∀ z x q,timesP z l=.ok (x,q)→highT x+q.length≤highT z+l.length)∧(∀ x q,productP l=.ok (x,q)→highT x+q.length≤l.length) ∧
  (∀ z x q,plusP z l=.ok (x,q)→highT x+q.length≤highT z+l.length)∧(∀ x q,sumP l=.ok (x,q)→highT x+q.length≤l.length):=by
 intro n
 induction n with
 | zero=>
  intro l hl
  have:l=[]:=List.eq_nil_of_length_eq_zero (by omega)
  subst this
  refine⟨?_,?_,?_,?_,?_⟩
  ·intro x q h;rw[thingP] at h;cases h
  ·intro z x q h;rw[timesP] at h;cases h;exact Nat.le_refl _
  ·intro x q h;rw[productP,thingP] at h;cases h
  ·intro z x q h;rw[plusP] at h;cases h;exact Nat.le_refl _
  ·intro x q h;rw[sumP,productP,thingP] at h;cases h
 | succ n ih=>
  intro l hl
  cases l with
  | nil=>exact ih [] (Nat.zero_le _)
  | cons t r=>
   have hr:r.length≤n:=by simpa using hl
   have I:=ih r hr
   have h1:∀ x q,thingP (t::r)=.ok (x,q)→highT x+q.length≤(t::r).length:=by
    intro x q h
    rw[thingP] at h
    rw[List.length_cons]
    split at h
    ·cases h;rw[show highT (intT (digitsI t.s.data.toList))=1 from high_leaf _ _ _];omega
    split at h
    ·cases h;rw[high_leaf];omega
    split at h
    ·cases h;rw[high_leaf];omega
    split at h
    ·have hm:=minusP_ok h
     cases r with
     | nil=>cases h
     | cons u p=>
      have h:(if u.kind=2 then Except.ok (intT (-(digitsI u.s.data.toList)),p) else .error ((40:Int),u.line))=Except.ok (x,q):=h
      by_cases hu:u.kind=2
      ·rw[if_pos hu] at h
       cases h
       rw[show highT (intT (-digitsI u.s.data.toList))=1 from high_leaf _ _ _,List.length_cons]
       omega
      ·rw[if_neg hu] at h;cases h
    split at h
    ·split at h
     ·cases h
     ·next hs=>
      have h5:=I.2.2.2.2 _ _ hs
      obtain⟨_,rfl,h6⟩:=mustP_ok h
      omega
    ·cases h
   have h2:∀ z x q,timesP z (t::r)=.ok (x,q)→highT x+q.length≤highT z+(t::r).length:=by
    intro z x q h
    rw[List.length_cons]
    by_cases ht:tokB 4 [42] t=true
    ·rw[timesP_sign z r ht] at h
     cases hs:thingP r with
     | error e'=>rw[hs] at h;cases h
     | ok p=>
      rw[hs] at h
      simp only at h
      have h5:=I.1 _ _ hs
      split at h
      ·cases h
      ·have h6:=(ih p.2 (Nat.le_trans (Nat.le_of_lt (thing_less hs)) hr)).2.1 _ _ _ h
       rw[high_two] at h6
       omega
    ·rw[timesP_else z (l:=t::r) (by simpa[nextB] using ht)] at h
     cases h
     rw[List.length_cons]
     exact Nat.le_refl _
   have h3:∀ x q,productP (t::r)=.ok (x,q)→highT x+q.length≤(t::r).length:=by
    intro x q h
    rw[productP_eq] at h
    cases hs:thingP (t::r) with
    | error e'=>rw[hs] at h;cases h
    | ok p=>
     rw[hs] at h
     have h6:=thing_less hs
     rw[List.length_cons] at h6
     have h7:=(ih p.2 (by omega)).2.1 _ _ _ h
     have:=h1 _ _ hs
     omega
   have h4:∀ z x q,plusP z (t::r)=.ok (x,q)→highT x+q.length≤highT z+(t::r).length:=by
    intro z x q h
    rw[List.length_cons]
    by_cases ht:tokB 4 [43] t=true∨tokB 4 [45] t=true
    ·rw[plusP_sign z r ht] at h
     cases hs:productP r with
     | error e'=>rw[hs] at h;cases h
     | ok p=>
      rw[hs] at h
      simp only at h
      have h5:=I.2.2.1 _ _ hs
      by_cases h3:z.op=3∨p.1.op=3
      ·rw[if_pos h3] at h;cases h
      ·rw[if_neg h3] at h
       have h6:=(ih p.2 (Nat.le_trans (Nat.le_of_lt (product_less hs)) hr)).2.2.2.1 _ _ _ h
       rw[high_two] at h6
       omega
    ·rw[plusP_else z (l:=t::r) (by simpa[nextB] using fun e=>ht (.inl e)) (by simpa[nextB] using fun e=>ht (.inr e))] at h
     cases h
     rw[List.length_cons]
     exact Nat.le_refl _
   refine⟨h1,h2,h3,h4,?_⟩
   intro x q h
   rw[sumP_eq] at h
   cases hs:productP (t::r) with
   | error e'=>rw[hs] at h;cases h
   | ok p=>
    rw[hs] at h
    have h6:=product_less hs
    rw[List.length_cons] at h6
    have h7:=(ih p.2 (by omega)).2.2.2.1 _ _ _ h
    have:=h3 _ _ hs
    omega
theorem sumP_high {l q:List TokI} {x:Tm} (h:sumP l=.ok (x,q)):highT x≤l.length:=by
 have:=(sum_high _ l (Nat.le_refl _)).2.2.2.2 _ _ h
 omega
theorem Rd.fewq {C:RC} {du ru:Value} {q:List TokI} {w:World} (h:Rd C du ru q w):q.length≤20000:=by
 obtain⟨i,rfl,_,_⟩:=h.row
 have:=h.few
 rw[List.length_drop]
 omega
set_option maxRecDepth 100000 in
set_option maxHeartbeats 8000000 in
theorem expression_c (q:List TokI):TmF 183 exprP q:=by
 intro C du ru w h
 have hltR:=h.lt
 have hfew:=h.fewq
 have HB0:Hid (∀ (W:World) (x:Obj),Below W.heap.size W (W.alloc x)):=hid fun W x=>(Below.refl _ _).alloc (Nat.le_refl _) _
 obtain⟨W1,hW1⟩:∃ W1,w.alloc (.cells #[.int .i64 0,.string ⟨#[]⟩,.int .i64 0,.slice none 0 0] 64)=W1:=⟨_,rfl⟩
 have hb1:Below w.heap.size w W1:=by rw[← hW1];exact HB0.out w _
 have hr1:Row w.heap.size 64 zeroCells W1:=by rw[← hW1];exact Row.new w _ _
 obtain⟨T,hT⟩:∃ T,hdT q=T:=⟨_,rfl⟩
 have hTl:T.line=lineL q:=by rw[← hT];exact line_hd q
 have HH:=hid (here_c C du ru q W1 (h.below hb1))
 rw[hT] at HH
 have HW1:=hid hW1
 have Hb1:=hid hb1
 have Hr1:=hid hr1
 have HTl:=hid hTl
 have H:=hid h
 clear h hW1 hb1 hr1 hT hTl
 go_enter Tryz.func183,Tryz.ntmps183
 go_wp2_with fail
 rw[HW1.out]
 refine HH.out.mono ?_
 rintro e w2 ⟨rfl,b2⟩
 have hn2:w.heap.size < w2.heap.size:=by have:=Hr1.out.lt;have:=b2.size;omega
 obtain⟨W3,hW3⟩:∃ W3,w2.alloc (.cells #[.int .i64 T.kind,.string T.s,.int .i64 T.line] 89)=W3:=⟨_,rfl⟩
 have hb3:Below w2.heap.size w2 W3:=by rw[← hW3];exact HB0.out w2 _
 have hr3:Row w2.heap.size 89 [.int .i64 T.kind,.string T.s,.int .i64 T.line] W3:=by rw[← hW3];exact Row.new w2 _ _
 have B3:=hid (Hb1.out.trans ((b2.mono Hb1.out.size).trans (hb3.mono (by omega))))
 have Hr3:=hid ((Hr1.out.below b2 Hr1.out.lt).below hb3 hn2)
 have Ht3:=hid hr3
 have HW3:=hid hW3
 clear b2 hW3 hb3 hr3
 go_wp2_with fail
 rw[HW3.out]
 refine (sum_c q C du ru W3 (H.out.below B3.out)).mono ?_
 rintro e w4 ⟨hm,g⟩
 have Hr4:=hid (Hr3.out.gr g (by omega))
 have Ht4:=hid (Ht3.out.gr g (by omega))
 have G4:=hid ((Gr.of_below (R:=C.R) B3.out).trans g)
 have hn4:w.heap.size < w4.heap.size:=Hr4.out.lt
 have hn34:w.heap.size < W3.heap.size:=Hr3.out.lt
 have hg4:W3.heap.size≤w4.heap.size:=g.size
 have ht4:w2.heap.size < w4.heap.size:=Ht4.out.lt
 clear g
 cases hp:sumP q with
 | error z=>
  rw[hp] at hm
  obtain rfl:=hm
  have Hq:Hid (exprP q=.error (z.1,z.2)):=hid (by unfold exprP;rw[hp])
  obtain⟨c0,c1,c2,c3,f3⟩:=Hr4.out.r4
  clear hp
  go_wp2
  refine bodyPost_ret (v:=.tuple #[.agg #[.int .i64 0,.string ⟨#[]⟩,.int .i64 0,.slice none 0 0],flawV z.1 z.2]) (by simp[results,Tryz.results183,go_sem,c0,c1,c2,c3,hn4]) rfl ?_
  exact TmR.bad Hq.out ((G4.out.set4 (Nat.le_refl _) _ _ _ _).alloc _)
 | ok y=>
  obtain⟨x,p⟩:=y
  rw[hp] at hm
  obtain⟨o,cap,rfl,tx,rx⟩:=hm
  have hhigh:highT x≤1000000:=by have:=sumP_high hp;omega
  have Hq0:Hid (exprP q=if 20 < highT x then .error (41,lineL q) else .ok (x,p)):=hid (by unfold exprP;rw[hp])
  obtain⟨W5,hW5⟩:∃ W5,w4.alloc (.cells #[.int .i64 x.op,.string x.s,.int .i64 x.n,.slice o x.l.length cap] 64)=W5:=⟨_,rfl⟩
  have hb5:Below w4.heap.size w4 W5:=by rw[← hW5];exact HB0.out w4 _
  have hr5:Row w4.heap.size 64 (tmCells x o cap) W5:=by rw[← hW5];exact Row.new w4 _ _
  have Tx:=hid (tx.gr (Gr.of_below (R:=C.R) hb5) (by omega))
  have HK:=hid (height_c (highT x) hhigh x W5 _ (Nat.le_refl _) (Tx.out.vis (Vis.past _ _)))
  have Rx:=hid (rx.below hb5)
  have G5:=hid (G4.out.trans (Gr.of_below hb5))
  have Hr5:=hid (Hr4.out.below hb5 hn4)
  have Ht5:=hid (Ht4.out.below hb5 ht4)
  have Hx5:=hid hr5
  have HW5:=hid hW5
  clear tx rx hW5 hb5 hr5 hp
  obtain⟨K,hK⟩:∃ K,highT x=K:=⟨_,rfl⟩
  rw[hK] at HK Hq0 hhigh
  clear hK
  go_wp2_with fail
  rw[HW5.out]
  refine HK.out.mono ?_
  rintro e w6 ⟨rfl,b6⟩
  obtain⟨d0,d1,d2,d3,e3⟩:=(Hx5.out.below b6 Hx5.out.lt).r4
  obtain⟨s0,s1,s2,s3⟩:=(Ht5.out.below b6 Ht5.out.lt).r3
  have Hr6:=hid (Hr5.out.below b6 Hr5.out.lt)
  have G6:=hid (G5.out.trans (Gr.of_below b6))
  have Rx6:=hid (Rx.out.below b6)
  have Tx6:=hid (Tx.out.gr (Gr.of_below (R:=C.R) b6) (by omega))
  clear b6
  by_cases hk:20 < K
  ·have hk':(20:Int) < (K:Int):=by omega
   have Hq:Hid (exprP q=.error (41,T.line)):=hid (by rw[Hq0.out,if_pos hk,HTl.out])
   clear d0 d1 d2 d3 e3 hk
   go_wp2_with fail
   refine (faultAt_c T 41 w6).mono ?_
   rintro e w7 ⟨rfl,b7⟩
   obtain⟨c0,c1,c2,c3,f3⟩:=(Hr6.out.below b7 Hr6.out.lt).r4
   have Gf:=hid (G6.out.trans (Gr.of_below b7))
   clear b7 s0 s1 s2 s3
   go_wp2
   refine bodyPost_ret (v:=.tuple #[.agg #[.int .i64 0,.string ⟨#[]⟩,.int .i64 0,.slice none 0 0],flawV 41 T.line]) (by simp[results,Tryz.results183,go_sem,c0,c1,c2,c3]) rfl ?_
   exact TmR.bad Hq.out (Gf.out.set4 (Nat.le_refl _) _ _ _ _)
  ·have hk':¬ (20:Int) < (K:Int):=by omega
   have Hq:Hid (exprP q=.ok (x,p)):=hid (by rw[Hq0.out,if_neg hk])
   obtain⟨c0,c1,c2,c3,f3⟩:=Hr6.out.r4
   clear s0 s1 s2 s3 hk
   go_wp2
   refine bodyPost_ret (v:=.tuple #[.agg #[.int .i64 x.op,.string x.s,.int .i64 x.n,.slice o x.l.length cap],.nilIface]) (by simp[results,Tryz.results183,go_sem,c0,c1,c2,c3]) rfl ?_
   exact TmR.ok Hq.out rfl rfl rfl rfl (((Tx6.out.set4 hn34 _ _ _ _).lower (Nat.le_of_lt hn34)).more (Nat.le_of_eq (set4_size _ _ _ _ _ _).symm)) (Rx6.out.set4 hltR _ _ _ _) (G6.out.set4 (Nat.le_refl _) _ _ _ _)
set_option maxRecDepth 100000 in
set_option maxHeartbeats 8000000 in
theorem argument_c (q:List TokI):TmF 159 argP q:=by
 intro C du ru w h
 have hltR:=h.lt
 have HB0:Hid (∀ (W:World) (x:Obj),Below W.heap.size W (W.alloc x)):=hid fun W x=>(Below.refl _ _).alloc (Nat.le_refl _) _
 obtain⟨W1,hW1⟩:∃ W1,w.alloc (.cells #[.int .i64 0,.string ⟨#[]⟩,.int .i64 0,.slice none 0 0] 64)=W1:=⟨_,rfl⟩
 have hb1:Below w.heap.size w W1:=by rw[← hW1];exact HB0.out w _
 have hr1:Row w.heap.size 64 zeroCells W1:=by rw[← hW1];exact Row.new w _ _
 obtain⟨T,hT⟩:∃ T,hdT q=T:=⟨_,rfl⟩
 have HH:=hid (here_c C du ru q W1 (h.below hb1))
 rw[hT] at HH
 have hnx:tokB 1 [95] T=nextB 1 [95] q:=by rw[← hT];exact tokB_hd (by decide) _ _
 have HW1:=hid hW1
 have Hb1:=hid hb1
 have Hr1:=hid hr1
 have H:=hid h
 clear h hW1 hb1 hr1 hT
 have el:T.s.toList=T.s.data.toList:=Lib.toList_data _
 by_cases hk:T.kind=1
 ·by_cases hs:T.s.data.toList=[95]
  ·have hn:nextB 1 [95] q=true:=by rw[← hnx];exact key_tok hk hs
   have hne:q≠[]:=by rintro rfl;cases hn
   have Hq:Hid (argP q=.ok (.mk 4 ⟨#[]⟩ 0 [],q.tail)):=hid (by unfold argP;rw[if_pos hn])
   have hk':(T.kind == 1)=true:=by simpa using hk
   have hs':(T.s.toList == [95])=true:=by rw[el,hs];rfl
   have Hne:=hid hne
   clear hn hne hnx hk hs el
   go_enter Tryz.func159,Tryz.ntmps159
   go_wp2_with fail
   rw[HW1.out]
   refine HH.out.mono ?_
   rintro e w2 ⟨rfl,b2⟩
   have hn2:w.heap.size < w2.heap.size:=by have:=Hr1.out.lt;have:=b2.size;omega
   have Hrp:=hid (Hr1.out.below b2 Hr1.out.lt)
   have B2:=hid (Hb1.out.trans (b2.mono Hb1.out.size))
   clear b2
   obtain⟨W3,hW3⟩:∃ W3,w2.alloc (.cells #[.int .i64 T.kind,.string T.s,.int .i64 T.line] 89)=W3:=⟨_,rfl⟩
   have hb3:Below w2.heap.size w2 W3:=by rw[← hW3];exact HB0.out w2 _
   have B3:=hid (B2.out.trans (hb3.mono B2.out.size))
   have Hr3:=hid (Hrp.out.below hb3 hn2)
   have HW3:=hid hW3
   clear hW3 hb3
   go_wp2_with fail
   rw[HW3.out]
   refine (step_c C du ru q Hne.out W3 (H.out.below B3.out)).mono ?_
   rintro e w4 ⟨rfl,r4,g4⟩
   have R4:=hid r4
   have G4:=hid ((Gr.of_below B3.out).trans g4)
   obtain⟨c0,c1,c2,c3,f3⟩:=(Hr3.out.gr g4 (by omega)).r4
   clear r4 g4
   go_wp2
   refine bodyPost_ret (v:=.tuple #[.agg #[.int .i64 4,.string ⟨#[]⟩,.int .i64 0,.slice none 0 0],.nilIface]) (by simp[results,Tryz.results159,go_sem,c0,c1,c2,c3]) rfl ?_
   exact TmR.ok Hq.out rfl rfl rfl rfl (.nil 4 ⟨#[]⟩ 0 (by unfold I64;decide) (by decide) (by unfold I64;decide)) (R4.out.set4 hltR _ _ _ _) (G4.out.set4 (Nat.le_refl _) _ _ _ _)
  ·have hn:nextB 1 [95] q=false:=by rw[← hnx];exact key_not rfl hs
   have Hq0:Hid (argP q=exprP q):=hid (by unfold argP;rw[if_neg (by rw[hn];decide)])
   have hk':(T.kind == 1)=true:=by simpa using hk
   have hs':(T.s.toList == [95])=false:=by rw[el];simpa using hs
   clear hn hnx hk hs el
   go_enter Tryz.func159,Tryz.ntmps159
   go_wp2_with fail
   rw[HW1.out]
   refine HH.out.mono ?_
   rintro e w2 ⟨rfl,b2⟩
   have hn2:w.heap.size < w2.heap.size:=by have:=Hr1.out.lt;have:=b2.size;omega
   have Hrp:=hid (Hr1.out.below b2 Hr1.out.lt)
   have B2:=hid (Hb1.out.trans (b2.mono Hb1.out.size))
   clear b2
   obtain⟨W3,hW3⟩:∃ W3,w2.alloc (.cells #[.int .i64 T.kind,.string T.s,.int .i64 T.line] 89)=W3:=⟨_,rfl⟩
   have hb3:Below w2.heap.size w2 W3:=by rw[← hW3];exact HB0.out w2 _
   have B3:=hid (B2.out.trans (hb3.mono B2.out.size))
   have Hr3:=hid (Hrp.out.below hb3 hn2)
   have HW3:=hid hW3
   clear hW3 hb3
   go_wp2_with fail
   rw[HW3.out]
   refine (expression_c q C du ru W3 (H.out.below B3.out)).mono ?_
   rintro e w4 ⟨hm,g⟩
   cases hp:exprP q with
   | error z=>
    rw[hp] at hm
    obtain rfl:=hm
    have Hq:=hid (Hq0.out.trans hp)
    obtain⟨c0,c1,c2,c3,f3⟩:=(Hr3.out.gr g (by omega)).r4
    have Gf:=hid ((Gr.of_below B3.out).trans g)
    clear hp g
    go_wp2
    refine bodyPost_ret (v:=.tuple #[.agg #[.int .i64 0,.string ⟨#[]⟩,.int .i64 0,.slice none 0 0],flawV z.1 z.2]) (by simp[results,Tryz.results159,go_sem,c0,c1,c2,c3]) rfl ?_
    exact TmR.bad Hq.out (Gf.out.set4 (Nat.le_refl _) _ _ _ _)
   | ok y=>
    obtain⟨x,p⟩:=y
    rw[hp] at hm
    obtain⟨o,cap,rfl,tx,rx⟩:=hm
    have Hq:=hid (Hq0.out.trans hp)
    obtain⟨c0,c1,c2,c3,f3⟩:=(Hr3.out.gr g (by omega)).r4
    have Gf:=hid ((Gr.of_below B3.out).trans g)
    have Tx:=hid tx
    have Rx:=hid rx
    have hnp:=Hr3.out.lt
    clear hp g tx rx
    go_wp2
    refine bodyPost_ret (v:=.tuple #[.agg #[.int .i64 x.op,.string x.s,.int .i64 x.n,.slice o x.l.length cap],.nilIface]) (by simp[results,Tryz.results159,go_sem,c0,c1,c2,c3]) rfl ?_
    exact TmR.ok Hq.out rfl rfl rfl rfl (((Tx.out.set4 hnp _ _ _ _).lower (Nat.le_of_lt hnp)).more (Nat.le_of_eq (set4_size _ _ _ _ _ _).symm)) (Rx.out.set4 hltR _ _ _ _) (Gf.out.set4 (Nat.le_refl _) _ _ _ _)
 ·have hn:nextB 1 [95] q=false:=by rw[← hnx];unfold tokB;simp[hk]
  have Hq0:Hid (argP q=exprP q):=hid (by unfold argP;rw[if_neg (by rw[hn];decide)])
  have hk':(T.kind == 1)=false:=by simpa using hk
  clear hn hnx hk el
  go_enter Tryz.func159,Tryz.ntmps159
  go_wp2_with fail
  rw[HW1.out]
  refine HH.out.mono ?_
  rintro e w2 ⟨rfl,b2⟩
  have hn2:w.heap.size < w2.heap.size:=by have:=Hr1.out.lt;have:=b2.size;omega
  have Hrp:=hid (Hr1.out.below b2 Hr1.out.lt)
  have B2:=hid (Hb1.out.trans (b2.mono Hb1.out.size))
  clear b2
  obtain⟨W3,hW3⟩:∃ W3,w2.alloc (.cells #[.int .i64 T.kind,.string T.s,.int .i64 T.line] 89)=W3:=⟨_,rfl⟩
  have hb3:Below w2.heap.size w2 W3:=by rw[← hW3];exact HB0.out w2 _
  have B3:=hid (B2.out.trans (hb3.mono B2.out.size))
  have Hr3:=hid (Hrp.out.below hb3 hn2)
  have HW3:=hid hW3
  clear hW3 hb3
  go_wp2_with fail
  rw[HW3.out]
  refine (expression_c q C du ru W3 (H.out.below B3.out)).mono ?_
  rintro e w4 ⟨hm,g⟩
  cases hp:exprP q with
  | error z=>
   rw[hp] at hm
   obtain rfl:=hm
   have Hq:=hid (Hq0.out.trans hp)
   obtain⟨c0,c1,c2,c3,f3⟩:=(Hr3.out.gr g (by omega)).r4
   have Gf:=hid ((Gr.of_below B3.out).trans g)
   clear hp g
   go_wp2
   refine bodyPost_ret (v:=.tuple #[.agg #[.int .i64 0,.string ⟨#[]⟩,.int .i64 0,.slice none 0 0],flawV z.1 z.2]) (by simp[results,Tryz.results159,go_sem,c0,c1,c2,c3]) rfl ?_
   exact TmR.bad Hq.out (Gf.out.set4 (Nat.le_refl _) _ _ _ _)
  | ok y=>
   obtain⟨x,p⟩:=y
   rw[hp] at hm
   obtain⟨o,cap,rfl,tx,rx⟩:=hm
   have Hq:=hid (Hq0.out.trans hp)
   obtain⟨c0,c1,c2,c3,f3⟩:=(Hr3.out.gr g (by omega)).r4
   have Gf:=hid ((Gr.of_below B3.out).trans g)
   have Tx:=hid tx
   have Rx:=hid rx
   have hnp:=Hr3.out.lt
   clear hp g tx rx
   go_wp2
   refine bodyPost_ret (v:=.tuple #[.agg #[.int .i64 x.op,.string x.s,.int .i64 x.n,.slice o x.l.length cap],.nilIface]) (by simp[results,Tryz.results159,go_sem,c0,c1,c2,c3]) rfl ?_
   exact TmR.ok Hq.out rfl rfl rfl rfl (((Tx.out.set4 hnp _ _ _ _).lower (Nat.le_of_lt hnp)).more (Nat.le_of_eq (set4_size _ _ _ _ _ _).symm)) (Rx.out.set4 hltR _ _ _ _) (Gf.out.set4 (Nat.le_refl _) _ _ _ _)
end Go.Proofs.YtdgbajnhhhjbcaaGreatDoor
