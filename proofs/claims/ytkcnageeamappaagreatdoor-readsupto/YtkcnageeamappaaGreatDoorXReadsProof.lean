/-
  For every script whose bulk is at most 1048576 the law moorlaw.Reads answers true and leaves its argument as it was; the card ties the listed package-level variables to the program's text.
-/
import Derived.Test.YtkcnageeamappaaGreatDoorXReadsFacts
import Derived.Test.YtkcnageeamappaaGreatDoorXQOpen
set_option maxHeartbeats 32000000
set_option maxRecDepth 8000
namespace Go.Proofs.YtkcnageeamappaaGreatDoor
open Go.ChangeShapes Go.WideShapes Go.ChangeAt Go.RowKit Go.Moor
open Go.ChangeMaps (open_string shut_string)
theorem zfa:laidOutB Tryz.prog=true:=by kernel_rfl
set_option maxRecDepth 100000 in
theorem ze2 (H:Type) (enc:TypeId×Value→H) (W:World) (base:Nat) (args:Array Value) (ds gs:List (DataW H)) (before:List MemPlace) (hval:∀(j:Nat) t v,Tryz.f6.params[j]?=some t→args[j]?=some v→Value.okWide Tryz.prog W .any base t v) (hW:DataW.Whole enc Tryz.prog Tryz.f6.params.toList Rows.readsSpec.vars false W args.toList ds gs before) (hk:Rows.uptoSmall H (ds++gs)=true) (hL:laidMetH Tryz.prog Rows.readsUptoRow.laid W) (hsh:W.ShapedOpen Tryz.prog):Calls Tryz.prog 6 args W fun e W'=>∃v,e=.returned v∧Rows.readsSpec.post enc Tryz.prog Tryz.f6 false true false false W args v W':=by
 have hW':=hW;obtain⟨p,q,hA0,hV,rfl,hfz,hnd⟩:=hW;have hA:DataW.TrodAll enc Tryz.prog W 0 (fun _=>true) true Tryz.f6.params.toList args.toList ds p:=hA0;rw[Tryz.params6] at hA hval;obtain⟨v0,vs0,d0,ds0,p0,q0,hargs,rfl,rfl,h0,r0⟩:=trodAll_cons hA;obtain⟨rfl,rfl,rfl⟩:=trodAll_nil r0;obtain rfl:args=#[v0]:=Array.toList_inj.1 hargs;obtain⟨rfl,rfl⟩:=trodVars_none hV;have hbk:Rows.uptoBulk d0≤1048576:=by have h:=of_decide_eq_true hk;simp only[List.append_nil,Rows.uptoBulkAll,Nat.add_zero] at h;exact h
 obtain⟨sp0,cap0,os0,rfl,hr0,hl0,hs0⟩:=zlg (hval 0 22 v0 rfl rfl) h0 hbk;clear hA0;simp only[List.append_nil] at hW';have HEnv:=zln hL hsh;refine(zcN sp0 cap0 os0 W hr0 hl0 (fun o ho=>⟨(hs0 o ho).1,(hs0 o ho).2.1⟩) HEnv.env2).mono fun e W' ⟨he,hb⟩=>?_;subst he;have hlt:∀x∈p0,x.block<W.heap.size:=fun x hx=>by simpa using hW'.lt x (by simpa using hx)
 refine⟨_,rfl,_,_,_,[],p0,[],hW',?_,?_,?_,hb.frame _,fun h=>by cases h⟩
 ·exact trodAll_cons_mk (shut_bool Tryz.underlying4 _) trodAll_mk0
 ·have:=trodAll_cons_mk (Below.trod zfa (by kernel_rfl) (of_decide_eq_true (by kernel_rfl)) h0 hb hlt) trodAll_mk0
  simp only[List.append_nil] at this;exact this
 ·rfl
set_option maxRecDepth 1000000 in
theorem zgl (os:Os) (started:os.Started) (H:Type) (enc:TypeId×Value→H) (F:Stop.Interp):ReturnsInHanded {} Tryz.checked os 6 .any ((Rows.OpenSpec.upto Rows.readsSpec).preRow enc Tryz.prog Tryz.f6 Rows.readsUptoRow.domain false Rows.readsUptoRow.laid) (((Rows.OpenSpec.upto Rows.readsSpec).at F).post enc Tryz.prog Tryz.f6 false true false false):=by
 refine returnsInHanded_of_row (C:=Tryz.checked) (s:=Rows.OpenSpec.upto Rows.readsSpec) zlm started (by kernel_rfl) Tryz.func6
  ⟨(({World.holding Tryz.prog os ⟨#[],#[],[]⟩ with heap:=(World.holding Tryz.prog os ⟨#[],#[],[]⟩).heap.modify 2 fun| .cells _ t frozen=>.cells #[.iface 193 (.agg #[.pointer (some ⟨29,65,none⟩)])] t frozen|o=>o}:World).layVars Tryz.prog laidReads),fun _ _=>0,⟨#[],#[.slice none 0 0],[]⟩,World.layVars_os _ _ _,World.shaped_of_ZipB (zjJ os) (zjK os),(Input.okWide_of_okWideB (base:=0) (zdm os)).1,(Input.okWide_of_okWideB (zdm os)).2,
   OpenSpec.preRow_of_cond 8 (zjL os H enc) (by kernel_rfl) (fun k hk=>by cases hk;kernel_rfl) (zjM os H enc) (zlo os _),by
    simp only[Assume.holds];exact⟨by simp,by simp,fun _=>Modest.zero,by simp,by simp⟩⟩ ?_
 intro W base args ds gs before hval hW _ hcond _ hL hsh _;exact ze2 H enc W base args ds gs before hval hW (hcond _ rfl) hL hsh
theorem zjN:Rows.ReadsUptoSaid:=
 OpenClaim.holds_of_cond 6 Tryz.f6 rfl rfl rfl rfl rfl rfl rfl ⟨rfl,rfl,rfl,rfl,rfl⟩ rfl rfl rfl rfl rfl zlp Tryz.func6 zlq zlr zls
  (fun os started H enc _ F=>by rw[OpenClaim.pre_eq_preRow];exact zgl os started H enc F)
theorem readsUpto_card:Rows.ReadsUptoCardSaid:=
 Claim7.holds_tied_plain_at .later [] _ _ _ _ zjN (fun _ h=>by cases h) (by kernel_rfl) (fun _ h=>by cases h) readsUpto_row_tie rfl ⟨rfl,rfl⟩ (by kernel_rfl) rfl zi6 (by kernel_rfl)
#print axioms readsUpto_card
end Go.Proofs.YtkcnageeamappaaGreatDoor
