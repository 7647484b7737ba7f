/- Gl@23 -/
import Derived.Test.YtakpgcmfjlbcgaaGreatDoorQ45
import Derived.Test.YtakpgcmfjlbcgaaGreatDoorQ26
set_option linter.unusedSimpArgs false
set_option linter.unusedVariables false
namespace Go.Proofs.YtakpgcmfjlbcgaaGreatDoor
theorem fine_dsc {p:Pg} (h:Fine p) {ln e:Int} (hd:DsC (ChA p) p.rules ln e):e=0:=by
 have hc:∀ {ln k:Int},ChA p ln k→k=0:=by
  intro ln k hk
  cases hk with
  | tree h1=>rw[h.right] at h1;cases h1
  | twice _ h1 h2=>exact absurd (h.twice _ _ (List.getElem?_eq_some_iff.1 h1).1 h1) h2
  | rule _ _ h1 _ h2 h3=>
   obtain⟨l,hl⟩:=h.ty _ (List.mem_of_getElem? h1)
   exact h2.det hl
  | ok=>rfl
 cases hd with
 | typ h1 h2=>exact hc h1
 | bad _ h1 _ h2=>exact absurd (h.safe _ (List.mem_of_getElem? h1)) h2
 | ok=>rfl
theorem edgesG_sub {ds:List De} {l m:List Ru} (hm:∀ r ∈ l,r ∈ m):∀ x ∈ edgesG ⟨ds,l⟩,x ∈ edgesG ⟨ds,m⟩:=by
 intro x hx
 obtain⟨r,hr,h⟩:=List.mem_flatMap.1 hx
 exact List.mem_flatMap.2 ⟨r,hm r hr,h⟩
theorem layE_zero {E:Ed} {ds:List De} {r:Ru}:layE E ds r=0 ↔ ¬ StratG E ds r∧¬ (RecG E ds r∧invZ r=true):=by
 unfold layE
 split
 ·rename_i h;exact⟨fun e=>(by cases e),fun k=>absurd h k.1⟩
 ·split
  ·rename_i h1 h2;exact⟨fun e=>(by cases e),fun k=>absurd h2 k.2⟩
  ·rename_i h1 h2;exact⟨fun _=>⟨h1,h2⟩,fun _=>rfl⟩
theorem layE_less {E E':Ed} (h:∀ x ∈ E,x ∈ E') {ds:List De} {r:Ru} (k:layE E' ds r=0):layE E ds r=0:=by
 rw[layE_zero] at k ⊢
 refine⟨fun ⟨x,h1,h2,h3⟩=>k.1 ⟨x,h1,h2,h3.mono h⟩,fun ⟨⟨x,h1,h2,h3⟩,h4⟩=>k.2 ⟨⟨x,h1,h2,h3.mono h⟩,h4⟩⟩
theorem gra_fine {p:Pg} {L:List (List Nat)} {ln e:Int} (h:GrA (ChA p) p L ln e) (hf:Fine p) (hl:∀ r ∈ p.rules,layE (edgesG p) p.decls r=0):e=0:=by
 cases h with
 | chk h1 h2=>exact absurd (fine_dsc hf h1) h2
 | lay _ h1 _ h2=>exact absurd (hl _ (List.mem_of_getElem? h1)) h2
 | ok=>rfl
theorem gra_less {p:Pg} {l:List Ru} (hl:l.length≤p.rules.length) (hm:∀ r ∈ l,r ∈ p.rules) {L L':List (List Nat)} {ln ln' e:Int} (h:GrA (ChA p) p L ln 0) (h':GrA (ChA ⟨p.decls,l⟩) ⟨p.decls,l⟩ L' ln' e):e=0:=by
 obtain⟨h1,h2,h3⟩:=gra_ok h
 exact gra_fine h' (h1.less hl hm) fun r hr=>layE_less (edgesG_sub hm) (h2 r (hm r hr))
end Go.Proofs.YtakpgcmfjlbcgaaGreatDoor
