import Derived.Test.YtkcnageeamappaaGreatDoorXU9
import Derived.Test.YtkcnageeamappaaGreatDoorXU10
set_option maxHeartbeats 32000000
set_option maxRecDepth 8000
set_option linter.unusedSimpArgs false
namespace Go.Proofs
open Go.RowKit Go.Moor Go.Proofs.Tryz Go.Moor
theorem ty {B R k j:Nat} {c:Value} {s:ByteArray} {w0:World} {u:Adr} {f:Value} (a:Nat) {h d:Int} {w:World} (b:Mem B R k j c s w0 u f (a:Nat) h d w) (g:a<=s.size+1):Calls prog 176 #[.pointer (some ⟨k,0,none⟩)] w λe w'=>e=.returned (.int .i64 (bn (s.data.toList.drop a)))/\∃n,w'=w.drewN n:=
 mx k a s w (aa b.K 2) (aa b.K 3) g
theorem zR (s:ByteArray) (a:Nat) (h:(bn (s.data.toList.drop a)==47)=true):a<s.size:=by grind[Au]
theorem Ml {B R k j:Nat} {f:Value} {s:ByteArray} {w0:World} {u:Adr} {t:Value} (a:Nat) {w:World} (b:Mem B R k j f s w0 u t (a:Nat) 15 0 w) (p:a<=s.size) (F:s.size<=1000000):Calls prog 124 #[.pointer (some ⟨k,0,none⟩)] w fun e w'=>e=.returned (.tuple #[])/\bl B R k j f s w0 (gj ⟨u,s.data.toList.drop a,15,0⟩) w':=by
 have y3:=b.y3;have y4:=b.y4;have C:=b.f 3;have E:=b.f 4;have i:Hid _:=b.set_st 7;have l:Hid _:=ty a i (by omega);clear b;cases h:(bn (s.L.drop a)==47) with
 |false=>
  have d:Hid (gj ⟨u,s.L.drop a,15,0⟩=⟨u,s.L.drop a,7,0⟩):=by show _=_;unfold gj;rw[ab (qr _ 47 _ (qp _) h)]
  generalize bn (s.L.drop a)=c at*;go_enter func124,ntmps124;go_wp21;refine mR l ?_;rintro x ⟨n,rfl⟩;go_wp2;go_end0;exact⟨rfl,by rw[d.out];exact bN (a:=a) (i.out.drewN n) p _ rfl⟩
 |true=>
  have D:=zR s a h;have o:Hid (∀n,Mem B R k j f s w0 u t ((a+1:Nat):Int) 5 0 ((((w.setCell (Ad k 4) (Iv 7)).drewN n).setCell (Ad k 3) (Iv ((a:Int)+1))).setCell (Ad k 4) (Iv 5))):=fun n=>((i.out.drewN n).set_a _).set_st _;have q:=hI fun n=>ty (a+1) (o n) (by omega);have v:=(qp _).2 h;have r:(s.L.drop a).drop 1=s.L.drop (a+1):=fQ ..;cases g:(bn (s.L.drop (a+1))==47) with
  |true=>have y:=zR s (a+1) g;have d:Hid (gj ⟨u,s.L.drop a,15,0⟩=⟨u,s.L.drop (a+2),4,0⟩):=(by show _=_;unfold gj;simp only;rw[ae v,r,ae ((qp _).2 g),fQ]);generalize bn (s.L.drop a)=c at*;generalize bn (s.L.drop (a+1))=z at*;go_enter func124,ntmps124;go_wp21;refine mR l ?_;rintro x ⟨n,rfl⟩;go_wp21;refine mR (q n) ?_;rintro A ⟨m,rfl⟩;go_wp2;go_end0;exact⟨rfl,by rw[d.out];exact bN (a:=a+2) ((((o n).drewN m).set_a _).set_st _) y _ rfl⟩
  |false=>have d:Hid (gj ⟨u,s.L.drop a,15,0⟩=⟨u,s.L.drop a,5,0⟩):=(by show _=_;unfold gj;simp only;rw[ae v,r,ab (qr _ 47 _ (qp _) g)]);generalize bn (s.L.drop a)=c at*;generalize bn (s.L.drop (a+1))=z at*;go_enter func124,ntmps124;go_wp21;refine mR l ?_;rintro x ⟨n,rfl⟩;go_wp21;refine mR (q n) ?_;rintro A ⟨m,rfl⟩;go_wp2;go_end0;exact⟨rfl,by rw[d.out];exact bN (a:=a) (((o n).drewN m).set_a _) p _ rfl⟩
theorem Mm {B R k j:Nat} {g:Value} {s:ByteArray} {w0:World} {u:Adr} {i:Value} (a:Nat) {w:World} (c:Mem B R k j g s w0 u i (a:Nat) 12 0 w) (m:a<=s.size) (K:s.size<=1000000):Calls prog 124 #[.pointer (some ⟨k,0,none⟩)] w fun e w'=>e=.returned (.tuple #[])/\bl B R k j g s w0 (lo ⟨u,s.data.toList.drop a,12,0⟩) w':=by
 have y0:=c.y0;have y2:=c.y2;have y3:=c.y3;have y4:=c.y4;have C:Ce w j 10 (.bool u.f.isSome):=aa c.U 10;have E:=c.g 10;have J:j≠k:=fun e=>c.ne e.symm;obtain⟨l,f⟩:=am s.data.toList;have t:l.length=s.size:=by rw[f,bT];rfl
 have N:s.extract a s.size=⟨(l.drop a).toArray⟩:=by rw[fJ,<-f,cg (by grind)]
 have x:=hI fun W=>hZ ⟨(l.drop a).toArray⟩ 1 W (by grind[al]);have r:Hid (∀b,Below (w.setCell (Ad j 10) (.bool true)).heap.size (w.setCell (Ad j 10) (.bool true)) b->Ce b k 0 (Pt j)/\Ce b k 2 (.string s)/\Ce b k 3 (Iv (a:Nat))/\Ce b k 4 (Iv 12)/\b.frozen? (Ad k 4)=false/\(∃v,Ce b j 11 v)/\b.frozen? (Ad j 11)=false/\Hid (Mem B R k j g s w0 {u with f:=some (ah 1 (l.drop a))} i (a:Nat) 12 0 (b.setCell (Ad j 11) (.string ⟨(ah 1 (l.drop a)).toArray⟩)))):=by intro b q;have n:=c.uset (u':={u with f:=some (u.f.getD [])}) 10 (.bool true) rfl rfl;have d:=n.off q;exact⟨aa d.K 0,aa d.K 2,aa d.K 3,aa d.K 4,d.f 4,⟨_,aa d.U 11⟩,d.g 11,d.uset 11 _ rfl rfl⟩
 have p:Hid (lo ⟨u,s.data.toList.drop a,12,0⟩=⟨{u with f:=some (ah 1 (l.drop a))},s.data.toList.drop a,13,0⟩):=by rw[f];rfl
 have L:(a:Int)<=(s.size:Int):=by omega
 clear c f t;generalize(⟨(ah 1 (l.drop a)).toArray⟩:ByteArray)=M at*;generalize(⟨(l.drop a).toArray⟩:ByteArray)=D at*;go_enter func124,ntmps124;go_wp2;go_region_held3 (fun w'=>w'.cell? ⟨k,0,none⟩=some (.pointer (some ⟨j,0,none⟩))/\w'.cell? ⟨k,2,none⟩=some (.string s)/\w'.cell? ⟨k,3,none⟩=some (.int .i64 (a:Nat))) (go_keep) (first|(go_at_call 40;refine af (x.out _) ?_;rintro e b ⟨rfl,h⟩;obtain⟨I,A,y,z,H,⟨G,O⟩,F,o⟩:=r.out b ((du rfl rfl rfl rfl:Below (w.setCell ⟨j,10,none⟩ (.bool true)).heap.size (w.setCell ⟨j,10,none⟩ (.bool true)) (w.setCell ⟨j,10,none⟩ (.bool true)).drew).trans h);clear h))
 all_goals
  go_wp2;go_end0;exact⟨rfl,by rw[p.out];exact bN (a:=a) (o.out.set_st 13) m _ rfl⟩
end Go.Proofs
