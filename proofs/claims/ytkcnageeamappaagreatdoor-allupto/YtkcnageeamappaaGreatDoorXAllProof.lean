/-
  The law All, as the second form's card says it: of every script of bulk at most 1048576, All answers true, and the script reads as it did.
-/
import Derived.Test.YtkcnageeamappaaGreatDoorXW3
set_option maxHeartbeats 32000000
set_option maxRecDepth 8000
set_option linter.unusedSimpArgs false
namespace Go.Proofs.YtkcnageeamappaaGreatDoor
open Go.Moor
open Go.Proofs.Tryz
open Go.ChangeShapes Go.WideShapes Go.ChangeAt Go.RowKit Go.Moor
open Go.ChangeMaps (open_string shut_string)
theorem EN:laidOutB Tryz.prog=true:=by kernel_rfl
set_option maxRecDepth 100000 in
theorem EO (H:Type) (m:TypeId×Value->H) (W:World) (base:Nat) (a:Array Value) (f k:List (DataW H)) (M:List MemPlace) (l:∀(j:Nat) t v,Tryz.f11.params[j]?=some t->a[j]?=some v->Value.okWide Tryz.prog W .any base t v) (s:DataW.Whole m Tryz.prog Tryz.f11.params.toList Rows.allSpec.vars false W a.toList f k M) (D:Rows.uptoSmall H (f++k)=true) (g:laidMetH Tryz.prog Rows.allUptoRow.laid W) (z:W.ShapedOpen Tryz.prog):Calls Tryz.prog 11 a W λe c=>∃v,e=.returned v/\Rows.allSpec.post m Tryz.prog Tryz.f11 false true false false W a v c:=by
 have b:=s;obtain⟨p,q,G,L,rfl,Q,S⟩:=s;have i:=G;rw[params11] at i l;obtain⟨v0,T,F,R,J,U,K,rfl,rfl,r,u⟩:=trodAll_cons i;obtain⟨rfl,rfl,rfl⟩:=trodAll_nil u;obtain rfl:a=#[v0]:=Bw.1 K;obtain⟨rfl,rfl⟩:=trodVars_none L;have B:Rows.uptoBulk F<=1048576:=by have h:=ik D;simp only[dl,Rows.uptoBulkAll,mS] at h;exact h
 obtain⟨P,N,w,rfl,I,A,E⟩:=JA (l 0 22 v0 rfl rfl) r B;simp only[dl] at b;have d:=EC g z;refine(Pz P N w W I A (λo y=>PG (E o y)) d (PD d (uo (wh g).1 (n:= "moor/escape.pairSet") (by simp[laidAll])))).mono λe c ⟨he,hb⟩=>?_;subst he;have C:=λx O=>by simpa using b.lt x (by simpa using O)
 refine⟨_,rfl,_,_,_,[],J,[],b,?_,?_,?_,hb.frame _,λh=>by cases h⟩
 .exact trodAll_cons_mk (shut_bool underlying4 _) trodAll_mk0
 .have:=trodAll_cons_mk (Below.trod EN (by kernel_rfl) (ik (by kernel_rfl)) r hb C) trodAll_mk0
  simp only[dl] at this;exact this
 .rfl
set_option maxRecDepth 1000000 in
theorem EP (a:Os) (m:a.Started) (H:Type) (b:TypeId×Value->H) (F:Stop.Interp):ReturnsInHanded {} Tryz.checked a 11 .any ((Rows.OpenSpec.upto Rows.allSpec).preRow b Tryz.prog Tryz.f11 Rows.allUptoRow.domain false Rows.allUptoRow.laid) (((Rows.OpenSpec.upto Rows.allSpec).at F).post b Tryz.prog Tryz.f11 false true false false):=by
 refine returnsInHanded_of_row (C:=checked) (s:=Rows.OpenSpec.upto Rows.allSpec) EB m (by kernel_rfl) func11
  ⟨(({World.holding prog a ⟨#[],#[],[]⟩ with heap:=(World.holding prog a ⟨#[],#[],[]⟩).heap.modify 2 fun| .cells _ t n=>.cells #[.iface 193 (.agg #[Pu 29 65])] t n|o=>o}:World).layVars prog laidAll),fun _ _=>0,⟨#[],#[.slice none 0 0],[]⟩,World.layVars_os _ _ _,World.shaped_of_ZipB (EE a) (EF a),(Input.okWide_of_okWideB (base:=0) (wi a)).1,(Input.okWide_of_okWideB (wi a)).2,
   OpenSpec.preRow_of_cond 8 (EG a H b) (by kernel_rfl) (fun k j=>by cases j;kernel_rfl) (EH a H b) (ED a _),by
    simp[Assume.holds]⟩ ?_
 intro W base d e h c l p _ i _ g f _;exact EO H b W base d e h c l p (i _ rfl) g f
theorem EQ:Rows.AllUptoSaid:=
 OpenClaim.holds_of_cond 11 f11 rfl rfl rfl rfl rfl rfl rfl ⟨rfl,rfl,rfl,rfl,rfl⟩ rfl rfl rfl rfl rfl EI func11 EJ EK EL
  (fun c b H a _ F=>by rw[OpenClaim.pre_eq_preRow];exact EP c b H a F)
theorem goes_none {P:Program} {c:OpenClaim} (h:P.funcs.any Func.goes=false) (a:c.start=.entering):false=c.goesBy P:=by
 have k:∀f,P.goes f=false:=by
  intro f
  unfold Program.goes
  rw[h,Bool.and_false,Bool.or_false]
  apply List.any_eq_false.2
  intro g _
  cases e:P.funcs[g]? with
  |none=>simp
  |some x=>
   rw[Array.any_eq_false] at h
   obtain⟨i,e⟩:=Array.getElem?_eq_some_iff.1 e
   have:=h g i
   rw[e] at this
   simpa using this
 unfold OpenClaim.goesBy Program.goesAt Program.goesFrom
 rw[a]
 cases P.funcNamed c.func<;>simp[k]
theorem goes_not:Tryz.pinned.checked.prog.funcs.any Func.goes=false:=by kernel_rfl
theorem allUpto_card:Rows.AllUptoCardSaid:=
 Claim7.holds_tied_plain_at .later [] _ _ _ _ EQ (λ_ h=>by cases h) (by kernel_rfl) (λ_ h=>by cases h) allUpto_row_tie rfl ⟨rfl,rfl⟩ (by kernel_rfl) rfl EM (goes_none goes_not rfl)
#print axioms allUpto_card
end Go.Proofs.YtkcnageeamappaaGreatDoor
