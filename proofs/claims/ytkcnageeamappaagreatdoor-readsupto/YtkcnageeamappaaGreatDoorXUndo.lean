import Derived.Test.YtkcnageeamappaaGreatDoorXText
set_option maxHeartbeats 32000000
set_option maxRecDepth 8000
namespace Go.Proofs
open Go.RowKit Go.Moor Go.Proofs.Tryz
def zfP:Value→Nat| .string s=>s.size|_=>0
theorem zks {w w':World} {m:Int} (h:w.cell? ⟨16,0,none⟩=some (.int .i64 m)) (hb:Below w.heap.size w w') (hz:16<w.heap.size):w'.cell? ⟨16,0,none⟩=some (.int .i64 m):=by rw[hb.cell (p:=⟨16,0,none⟩) hz];exact h
theorem znJ (x y:ByteArray) (h:x.data.toList=y.data.toList):x=y:=by
 cases x;cases y
 simp only[ByteArray.mk.injEq];exact Array.toList_inj.1 h
theorem zpa (a b:UInt8) (r:List UInt8):(⟨(a::b::r).toArray⟩:ByteArray).extract 2 (r.length+1+1)=⟨r.toArray⟩:=by apply znJ;rw[Lib.extract_data];simp
theorem zms (c:UInt8) (w:World):C0 115 #[.int .u8 c.toNat] w (.int .u64 (z0c c.toNat)):=by have:=c.toNat_lt;exact znP _ w (by omega) (by omega)
theorem Tryz.cut_hit (l p r:List UInt8) (m:Int) (w:World) (hl:Lib.cut l [37]=(p,r,true)) (hs:l.length<4294967281) (hm:w.cell? ⟨16,0,none⟩=some (.int .i64 m)):CN 112 #[.string ⟨l.toArray⟩,.string ⟨#[37]⟩] w (.tuple #[.string ⟨p.toArray⟩,.string ⟨r.toArray⟩,.bool true]):=by
 refine(strings_Cut ⟨l.toArray⟩ ⟨#[37]⟩ m w (by rw[z07];exact hs) hm).mono ?_;rintro e w' ⟨rfl,n,rfl⟩;refine⟨?_,n,rfl⟩;have e1:Lib.cut (⟨l.toArray⟩:ByteArray).data.toList (⟨#[37]⟩:ByteArray).data.toList=(p,r,true):=by simpa using hl
 rw[e1]
theorem zo6 (l:List UInt8) (m:Int) (w:World) (hl:Lib.cut l [37]=(l,[],false)) (hs:l.length<4294967281) (hm:w.cell? ⟨16,0,none⟩=some (.int .i64 m)):CN 112 #[.string ⟨l.toArray⟩,.string ⟨#[37]⟩] w (.tuple #[.string ⟨l.toArray⟩,.string ⟨#[]⟩,.bool false]):=by
 refine(strings_Cut ⟨l.toArray⟩ ⟨#[37]⟩ m w (by rw[z07];exact hs) hm).mono ?_;rintro e w' ⟨rfl,n,rfl⟩;refine⟨?_,n,rfl⟩;have e1:Lib.cut (⟨l.toArray⟩:ByteArray).data.toList (⟨#[37]⟩:ByteArray).data.toList=(l,[],false):=by simpa using hl
 rw[e1]
theorem zei (s:ByteArray) (m:Int) (w:World) (hs:s.size<4294967281) (hm:w.cell? ⟨16,0,none⟩=some (.int .i64 m)) (hz:16<w.heap.size):CB 65 #[.string s] w (.string ⟨(z0t s.data.toList).toArray⟩):=by
 have HM:Hid (w.cell? ⟨16,0,none⟩=some (.int .i64 m)):=hm;clear hm;go_enter func65,ntmps65;go_wp2;go_loopw [0] (fun t wr=>∃(r acc:List UInt8),t=.string ⟨r.toArray⟩∧acc++z0t r=z0t s.data.toList∧acc.length+r.length≤s.size∧Lib.IsBuilderF 142 5 w.heap.size w.heap.size (Lib.byteCells acc) wr∧Below w.heap.size w wr∧w.heap.size<wr.heap.size) (fun t _=>zfP t)
 case atStart=>exact⟨s.data.toList,[],rfl,rfl,by simp,Lib.IsBuilderF.of (Lib.fresh_isBuilder 142 5 w),(Below.refl _ w).alloc (Nat.le_refl _) _,by simp⟩
 case round=>
  obtain⟨r,acc,rfl,hun,hlen,hI,hbw,hsz⟩:=hrel;have HU:Hid (acc++z0t r=z0t s.data.toList):=hun;have HMr:Hid (wr.cell? ⟨16,0,none⟩=some (.int .i64 m)):=zks HM.out hbw hz;clear hun;rcases zd9 37 r with⟨hc,hno⟩|⟨p,r2,hr,hno,hc⟩
  ·have HC:Hid (Lib.cut r [37]=(r,[],false)):=hc
   have HN:Hid (∀x∈r,x≠37):=hno;clear hc hno;go_wp2_with fail;refine(zo6 r m _ HC.out (by omega) HMr.out).mono ?_;rintro e w1 ⟨rfl,nd,rfl⟩;go_wp2_with fail;refine(Builder_WriteString_k w.heap.size w.heap.size _ _ (wr.drewN nd) hI (by rw[Lib.byteCells_length,z07];omega) (by show _≤wr.heap.size;omega)).mono ?_;rintro e W1 ⟨rfl,h1,b1,_⟩;have hI1:Lib.IsBuilderF 142 5 w.heap.size w.heap.size (Lib.byteCells (acc++r)) W1:=(by rw[Lib.byteCells_append];exact Or.inr h1);have hb1:=(Go.below_drewN hbw nd).trans b1;have hz1:w.heap.size<W1.heap.size:=Nat.lt_of_lt_of_le hsz b1.size;clear h1 b1;go_wp2_with(go_at_call 97;refine(Builder_String_any_k w.heap.size w.heap.size _ _ hI1 (by omega)).mono ?_);rintro e W2 ⟨rfl,_,b2,_⟩;go_wp2;go_ret;have hf:=HU.out;rw[z7M r HN.out] at hf;rw[←hf];exact⟨rfl,hb1.trans b2⟩
  ·by_cases ht:z1u r2=true
   ·obtain⟨a,b,r3,rfl⟩:∃a b r3,r2=a::b::r3:=by
     match r2,ht with
     |a::b::r3,_=>exact⟨a,b,r3,rfl⟩
    have ht2:z1u (a::b::r3)=true:=ht;clear ht;have ha:=a.toNat_lt;have hb:=b.toNat_lt;have va:=z1q a.toNat;have vb:=z1q b.toNat;have HC:Hid (Lib.cut r [37]=(p,a::b::r3,true)):=hc;have HN:Hid (∀x∈p,x≠37):=hno;have HR:Hid (r=p++37::a::b::r3):=hr;have hpl:p.length+(a::b::r3).length+1=r.length:=(by rw[hr];simp;omega);have HP:Hid (p.length+(a::b::r3).length+1=r.length):=hpl;clear hc hno hr hpl;go_wp2_with fail;refine(cut_hit r p (a::b::r3) m _ HC.out (by omega) HMr.out).mono ?_;rintro e w1 ⟨rfl,nd,rfl⟩;go_wp2_with fail;refine(Builder_WriteString_k w.heap.size w.heap.size _ _ (wr.drewN nd) hI (by have:=HP.out;rw[Lib.byteCells_length,z07];omega) (by show _≤wr.heap.size;omega)).mono ?_;rintro e W1 ⟨rfl,h1,b1,_⟩;have hI1:Lib.IsBuilderF 142 5 w.heap.size w.heap.size (Lib.byteCells (acc++p)) W1:=(by rw[Lib.byteCells_append];exact Or.inr h1);have hb1:=(Go.below_drewN hbw nd).trans b1;have hz1:w.heap.size<W1.heap.size:=Nat.lt_of_lt_of_le hsz b1.size;clear h1 b1;go_wp2_with fail;refine(zoC ⟨(a::b::r3).toArray⟩ _ (by have:=HP.out;rw[z07];unfold maxLen;omega)).mono ?_;rintro e W1' ⟨rfl,rfl⟩;go_wp2_with fail;have hI1d:Lib.IsBuilderF 142 5 w.heap.size w.heap.size (Lib.byteCells (acc++p)) W1'.drew:=hI1;have hz1d:w.heap.size≤W1'.drew.heap.size:=(by show _≤W1'.heap.size;omega);have hld:(Lib.byteCells (acc++p)).length+1≤140737488355328:=(by have:=HP.out;rw[Lib.byteCells_length];simp;omega);go_region_with (first|(go_at_call 115;refine(zms _ _).mono ?_;rintro e w' ⟨rfl,rfl⟩)|(go_at_call 114;refine(Builder_WriteByte_k w.heap.size w.heap.size _ _ _ hI1d hld hz1d).mono ?_;rintro e W2 ⟨rfl,h2,b2,_⟩));all_goals
     have hI2:Lib.IsBuilderF 142 5 w.heap.size w.heap.size (Lib.byteCells (acc++p++ [z49 a b])) W2:=(by rw[Lib.byteCells_append,znk,←zmR a b r3 ht2];exact Or.inr h2);have hb2:=(Go.below_drewN hb1 1).trans b2;have hz2:w.heap.size<W2.heap.size:=Nat.lt_of_lt_of_le hz1 b2.size;clear h2 b2;go_wp2;go_roundw
     case rel=>
      refine⟨r3,acc++p++ [z49 a b],?_,?_,by have:=HP.out;simp at this⊢;omega,hI2,hb2,hz2⟩
      ·rw[zpa]
      ·rw[←HU.out,HR.out,z9B p _ HN.out,z37 a b r3 ht2]
       simp
     case measure=>have:=HP.out;rw[zpa];simp[zfP,z07] at this⊢;omega
   ·have ht':z1u r2=false:=Bool.eq_false_iff.2 ht
    clear ht;have HC:Hid (Lib.cut r [37]=(p,r2,true)):=hc;have HN:Hid (∀x∈p,x≠37):=hno;have HR:Hid (r=p++37::r2):=hr;have hpl:p.length+(r2).length+1=r.length:=(by rw[hr];simp;omega);have HP:Hid (p.length+(r2).length+1=r.length):=hpl;clear hc hno hr hpl;go_wp2_with fail;refine(cut_hit r p (r2) m _ HC.out (by omega) HMr.out).mono ?_;rintro e w1 ⟨rfl,nd,rfl⟩;go_wp2_with fail;refine(Builder_WriteString_k w.heap.size w.heap.size _ _ (wr.drewN nd) hI (by have:=HP.out;rw[Lib.byteCells_length,z07];omega) (by show _≤wr.heap.size;omega)).mono ?_;rintro e W1 ⟨rfl,h1,b1,_⟩;have hI1:Lib.IsBuilderF 142 5 w.heap.size w.heap.size (Lib.byteCells (acc++p)) W1:=(by rw[Lib.byteCells_append];exact Or.inr h1);have hb1:=(Go.below_drewN hbw nd).trans b1;have hz1:w.heap.size<W1.heap.size:=Nat.lt_of_lt_of_le hsz b1.size;clear h1 b1;go_wp2_with fail;refine(zoC ⟨(r2).toArray⟩ _ (by have:=HP.out;rw[z07];unfold maxLen;omega)).mono ?_;rintro e W1' ⟨rfl,rfl⟩;go_wp2_with fail;refine(Builder_WriteByte_k w.heap.size w.heap.size _ _ _ hI1 (by have:=HP.out;rw[Lib.byteCells_length];simp;omega) (by omega)).mono ?_;rintro e W2 ⟨rfl,h2,b2,_⟩;have hI2:Lib.IsBuilderF 142 5 w.heap.size w.heap.size (Lib.byteCells (acc++p++ [37])) W2:=(by rw[Lib.byteCells_append];exact Or.inr h2);have hb2:=hb1.trans b2;have hz2:w.heap.size<W2.heap.size:=Nat.lt_of_lt_of_le hz1 b2.size;clear h2 b2;go_wp2;go_roundw
    case rel=>refine⟨r2,acc++p++ [37],rfl,?_,by have:=HP.out;simp;omega,hI2,hb2,hz2⟩;rw[←HU.out,HR.out,z9B p _ HN.out,z3S r2 ht'];simp
    case measure=>have:=HP.out;simp[zfP,z07];omega
theorem zkt (s:ByteArray) (m:Int) (w:World) (hs:s.size<4294967281) (hm:w.cell? ⟨16,0,none⟩=some (.int .i64 m)) (hz:16<w.heap.size):CB 41 #[.string s] w (.string ⟨(z0t s.data.toList).toArray⟩):=by have HM:=hI hm;clear hm;go_enter func41,ntmps41;go_wp2_with(go_at_call 65;refine(zei _ m _ hs HM hz).mono ?_);rintro e w' ⟨rfl,hb⟩;go_wp2;go_ret;exact⟨rfl,hb⟩
end Go.Proofs
