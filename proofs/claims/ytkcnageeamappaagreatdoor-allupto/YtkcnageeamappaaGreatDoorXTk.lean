import Derived.Test.YtkcnageeamappaaGreatDoorXFPlain
set_option maxHeartbeats 32000000
set_option maxRecDepth 8000
set_option linter.unusedSimpArgs false
namespace Go.Proofs
open Go.RowKit Go.Moor Go.Proofs.Tryz Go.Moor
set_option linter.defProp false in
def di {α:Type}:=And.intro (@qZ α) (And.intro (@List.set_cons_zero α) (@List.set_cons_succ α))
set_option linter.defProp false in
def bF {α:Type}:=And.intro (@List.getElem_toArray α) (And.intro (@List.getElem_cons_succ α) (And.intro (@List.getElem_cons_zero α) (@di α)))
theorem aM {P:Program} {md:Region.Mode} {ops:Array Oper} {Q:Exit->Act->World->Prop} {S:World->Prop} {oi:Oper} {listed:Array Bool} {a:Act} {w:World} (i fuel:Nat) (v:Value) (hi:ops[i]?=some oi) (hs:(Region.noSelect ops&&Region.free md ops listed i&&(Region.ready md ops listed).contains i)=true) (hQ:∀c a w,Q (.panic c) (a.put oi.dst v) w->Q (.panic c) a w) (hg:Region.wanted oi (yielded ops a.tmps)=true) (hy:∀w,S w->(execOp a.eval oi).run P w=.ok (.value v) w) (hS:S w) (h:wpAnyH P md ops Q S fuel (listed.setIfInBounds i true) (a.put oi.dst v) w):wpAnyH P md ops Q S (fuel+1) listed a w:=by simp only[fx] at hs;exact wpAnyH_take hi hs.1.1 hs.1.2 hs.2 hQ (Or.inl ⟨hg,hy⟩) hS h
end Go.Proofs
