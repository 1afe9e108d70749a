import PyProof.Rows.All
import Wide.All
import OpenK.AllK
import Wide.FinOn
import PyProof.EqAt
import PyProof.EqKinds
import PyProof.TupleCall
import KE.BitLaws
import Open.SpecLaws
import KE.OsHead
import KE.OsGo
import PyFlatLaws
import PySem.Challenge.RW_sumsstay_s01_answers
set_option Elab.async false
set_option linter.all false
set_option maxRecDepth 100000
set_option maxHeartbeats 4000000
set_option genSizeOfSpec false
noncomputable section
namespace FM
def S:Nat->(Nat->Int)->Int
 |0,_=>0
 |n+1,f=>S n f+f n
theorem S_congr {n:Nat} {f g:Nat->Int} (h: ∀i,i<n->f i=g i):S n f=S n g:=by
 induction n with
 |zero=>rfl
 |succ n ih=>
  show S n f+f n=S n g+g n;rw[ih (fun i hi=>h i (by omega)),h n (by omega)]
theorem S_add {n:Nat} {f g:Nat->Int}:S n (fun i=>f i+g i)=S n f+S n g:=by
 induction n with
 |zero=>rfl
 |succ n ih=>simp only[S,ih];omega
theorem S_sub {n:Nat} {f g:Nat->Int}:S n (fun i=>f i-g i)=S n f-S n g:=by
 induction n with
 |zero=>rfl
 |succ n ih=>simp only[S,ih];omega
theorem S_zero {n:Nat}:S n (fun _=>0)=0:=by
 induction n with
 |zero=>rfl
 |succ n ih=>simp only[S,ih];omega
theorem S_mul {n:Nat} {c:Int} {f:Nat->Int}:S n (fun i=>c*f i)=c*S n f:=by
 induction n with
 |zero=>simp[S]
 |succ n ih=>simp only[S,ih,Int.mul_add]
theorem S_nonneg {n:Nat} {f:Nat->Int} (h: ∀i,i<n->0<=f i):0<=S n f:=by
 induction n with
 |zero=>exact Int.le_refl 0
 |succ n ih=>
  have a:=ih (fun i hi=>h i (by omega));have b:=h n (by omega);simp only[S];omega
theorem S_le {n:Nat} {f g:Nat->Int} (h: ∀i,i<n->f i<=g i):S n f<=S n g:=by
 induction n with
 |zero=>exact Int.le_refl 0
 |succ n ih=>
  have a:=ih (fun i hi=>h i (by omega));have b:=h n (by omega);simp only[S];omega
theorem S_eq_zero {n:Nat} {f:Nat->Int} (h: ∀i,i<n->0<=f i) (e:S n f=0): ∀i,i<n->f i=0:=by
 induction n with
 |zero=>intro i hi;omega
 |succ n ih=>
  have a:=S_nonneg (fun i (hi:i<n)=>h i (by omega));have b:=h n (by omega);simp only[S] at e;intro i hi;by_cases q:i=n
  ·subst q;omega
  ·exact ih (fun i hi=>h i (by omega)) (by omega) i (by omega)
theorem S_comm {n m:Nat} {f:Nat->Nat->Int}:S n (fun i=>S m (fun j=>f i j))=S m (fun j=>S n (fun i=>f i j)):=by
 induction n with
 |zero=>simp only[S,S_zero]
 |succ n ih=>simp only[S,ih,S_add]
theorem S_ite {n k:Nat} (a:Nat->Int) (h:k<n):S n (fun i=>if k=i then a i else 0)=a k:=by
 induction n with
 |zero=>omega
 |succ n ih=>
  simp only[S];by_cases q:k=n
  ·subst q;rw[if_pos rfl];have:S k (fun i=>if k=i then a i else 0)=S k (fun _=>0):=S_congr (fun i hi=>by rw[if_neg (by omega)]);rw[this,S_zero];omega
  ·rw[if_neg q,ih (by omega)];omega
theorem S_left {n:Nat} {f:Nat->Int}:S (n+1) f=f 0+S n (fun i=>f (i+1)):=by
 induction n with
 |zero=>simp only[S];omega
 |succ n ih=>
  have:S (n+1+1) f=S (n+1) f+f (n+1):=rfl;rw[this,ih];simp only[S];omega
structure FN where
 n:Nat
 m:Nat
 src:Nat->Nat
 dst:Nat->Nat
 lo:Nat->Int
 hi:Nat->Int
 sup:Nat->Int
namespace FN
variable (N:FN)
def ex (x:Nat->Int) (i:Nat):Int:=N.sup i+S N.m (fun j=>(if N.dst j=i then x j else 0)-(if N.src j=i then x j else 0))
def Inb (x:Nat->Int):Prop:= ∀j,j<N.m->N.lo j<=x j/\x j<=N.hi j
def Pot (q:Nat->Int) (x:Nat->Int) (c:Nat->Int):Prop:=
 ∀j,j<N.m->(x j<N.hi j->c (N.dst j)<=c (N.src j)+q j)/\(N.lo j<x j->c (N.src j)<=c (N.dst j)-q j)
def Ends:Prop:= ∀j,j<N.m->N.src j<N.n/\N.dst j<N.n
theorem weigh (h:N.Ends) (c x:Nat->Int):S N.n (fun i=>c i*N.ex x i)=S N.n (fun i=>c i*N.sup i)+S N.m (fun j=>(c (N.dst j)-c (N.src j))*x j):=by
 have e1:S N.n (fun i=>c i*N.ex x i)=S N.n (fun i=>c i*N.sup i+S N.m (fun j=>(if N.dst j=i then c i*x j else 0)-(if N.src j=i then c i*x j else 0))):=by
  apply S_congr;intro i _;unfold ex;rw[Int.mul_add,<-S_mul]
  congr 1
  apply S_congr;intro j _;rw[Int.mul_sub];split<;>split<;>simp
 rw[e1,S_add,S_comm]
 congr 1
 apply S_congr;intro j hj;obtain⟨h1,h2⟩:=h j hj;rw[S_sub,S_ite (fun i=>c i*x j) h2,S_ite (fun i=>c i*x j) h1,Int.sub_mul]
theorem circ (h:N.Ends) (c x y:Nat->Int) (e: ∀i,i<N.n->N.ex x i=N.ex y i):S N.m (fun j=>(c (N.dst j)-c (N.src j))*(x j-y j))=0:=by
 have a:=N.weigh h c x;have b:=N.weigh h c y;have d:S N.n (fun i=>c i*N.ex x i)=S N.n (fun i=>c i*N.ex y i):=S_congr (fun i hi=>by rw[e i hi])
 have f:S N.m (fun j=>(c (N.dst j)-c (N.src j))*(x j-y j))=S N.m (fun j=>(c (N.dst j)-c (N.src j))*x j)-S N.m (fun j=>(c (N.dst j)-c (N.src j))*y j):=by
  rw[<-S_sub];apply S_congr;intro j _;rw[Int.mul_sub]
 omega
theorem ex_sum (h:N.Ends) (x:Nat->Int):S N.n (N.ex x)=S N.n N.sup:=by
 have a:=N.weigh h (fun _=>1) x;simp only[Int.one_mul] at a
 have e:S N.m (fun j=>((1:Int)-1)*x j)=0:=by
  rw[show(fun j=>((1:Int)-1)*x j)=fun _=>0 from by funext j;simp];exact S_zero
 rw[e] at a;have a':S N.n (N.ex x)=S N.n N.sup+0:=a;omega
theorem NU {a b:Int} (h:(0<=a/\b<=0)∨(a<=0/\0<=b)∨a=0∨b=0):a*b<=0:=by
 rcases h with⟨h1,h2⟩|⟨h1,h2⟩|h|h
 ·exact Int.mul_nonpos_of_nonneg_of_nonpos h1 h2
 ·exact Int.mul_nonpos_of_nonpos_of_nonneg h1 h2
 ·rw[h];simp
 ·rw[h];simp
theorem term {q x y c:Nat->Int} (hx:N.Inb x) (hy:N.Inb y) (hp:N.Pot q x c) (j:Nat) (hj:j<N.m):
  (q j+c (N.src j)-c (N.dst j))*(x j-y j)<=0:=by
 obtain⟨a,b⟩:=hp j hj;have h1:=hx j hj;have h2:=hy j hj;apply NU;by_cases u:x j=y j
 ·right;right;right;omega
 ·by_cases v:x j<y j
  ·left;have:=a (by omega);omega
  ·right;left;have:=b (by omega);omega
theorem opt (h:N.Ends) {q x y c:Nat->Int} (hx:N.Inb x) (hy:N.Inb y) (e: ∀i,i<N.n->N.ex x i=N.ex y i) (hp:N.Pot q x c):
  S N.m (fun j=>q j*(x j-y j))<=0:=by
 have a:=N.circ h c x y e;have b:S N.m (fun j=>(q j+c (N.src j)-c (N.dst j))*(x j-y j))<=S N.m (fun _=>0):=S_le (fun j hj=>N.term hx hy hp j hj);rw[S_zero] at b
 have f:S N.m (fun j=>(q j+c (N.src j)-c (N.dst j))*(x j-y j))=S N.m (fun j=>q j*(x j-y j))-S N.m (fun j=>(c (N.dst j)-c (N.src j))*(x j-y j)):=by
  rw[<-S_sub];apply S_congr;intro j _;rw[<-Int.sub_mul];congr 1;omega
 omega
theorem slack (h:N.Ends) {p x y c:Nat->Int} (hx:N.Inb x) (hy:N.Inb y) (e: ∀i,i<N.n->N.ex x i=N.ex y i) (hp:N.Pot p x c)
  (le:S N.m (fun j=>p j*(y j-x j))<=0):N.Pot p y c:=by
 have a:=N.circ h c x y e
 have f:S N.m (fun j=> -((p j+c (N.src j)-c (N.dst j))*(x j-y j)))=S N.m (fun j=>p j*(y j-x j))+S N.m (fun j=>(c (N.dst j)-c (N.src j))*(x j-y j)):=by
  rw[<-S_add];apply S_congr;intro j _;rw[show y j-x j= -(x j-y j) by omega,Int.mul_neg,<-Int.neg_mul,<-Int.neg_mul,<-Int.add_mul];congr 1;omega
 have nn: ∀j,j<N.m->0<= -((p j+c (N.src j)-c (N.dst j))*(x j-y j)):=fun j hj=>by
  have:=N.term hx hy hp j hj;omega
 have z:=S_eq_zero nn (by have:=S_nonneg nn;omega);intro j hj;have zj:=z j hj;have zj':(p j+c (N.src j)-c (N.dst j))*(x j-y j)=0:=by omega
 obtain⟨a1,b1⟩:=hp j hj;have h1:=hx j hj;have h2:=hy j hj;rcases Int.mul_eq_zero.mp zj' with k|k
 ·exact⟨fun _=>by omega,fun _=>by omega⟩
 ·have k':y j=x j:=by omega
  rw[k'];exact⟨a1,b1⟩
structure SI (B:Int) (D:Nat->Int):Prop where
 pos: ∀j,j<N.m->0<=D j
 tail: ∀i,i<N.m->S N.m (fun j=>if i<j then D j*(N.hi j-N.lo j) else 0)<D i
 all:S N.m (fun j=>D j*(N.hi j-N.lo j))<B
theorem diff_le {x y:Nat->Int} (hx:N.Inb x) (hy:N.Inb y) {j:Nat} (hj:j<N.m):x j-y j<=N.hi j-N.lo j:=by
 have h1:=hx j hj;have h2:=hy j hj;omega
theorem low {B:Int} {D:Nat->Int} (si:N.SI B D) {x y:Nat->Int} (hx:N.Inb x) (hy:N.Inb y): -B<S N.m (fun j=>D j*(x j-y j)):=by
 have a:S N.m (fun j=>D j*(x j-y j))+S N.m (fun j=>D j*(N.hi j-N.lo j))=S N.m (fun j=>D j*((x j-y j)+(N.hi j-N.lo j))):=by
  rw[<-S_add];apply S_congr;intro j _;rw[<-Int.mul_add]
 have b:0<=S N.m (fun j=>D j*((x j-y j)+(N.hi j-N.lo j))):=S_nonneg (fun j hj=>Int.mul_nonneg (si.pos j hj) (by have:=N.diff_le hy hx hj;omega));have:=si.all;omega
theorem first {B:Int} {D:Nat->Int} (si:N.SI B D) {x y:Nat->Int} (hx:N.Inb x) (hy:N.Inb y) (le:S N.m (fun j=>D j*(x j-y j))<=0)
  {i:Nat} (hi:i<N.m) (same: ∀j,j<i->x j=y j):x i<=y i:=by
 have key:S N.m (fun j=>D j*(x j-y j))=S N.m (fun j=>(if i=j then D j*(x j-y j) else 0)+(if i<j then D j*(x j-y j) else 0)):=by
  apply S_congr;intro j _;by_cases q:j<i
  ·rw[same j q,if_neg (by omega),if_neg (by omega)];simp
  ·by_cases r:i=j
   ·rw[if_pos r,if_neg (by omega)];simp
   ·rw[if_neg r,if_pos (by omega)];simp
 rw[S_add,S_ite (fun j=>D j*(x j-y j)) hi] at key
 have b:0<=S N.m (fun j=>(if i<j then D j*(x j-y j) else 0)+(if i<j then D j*(N.hi j-N.lo j) else 0)):=S_nonneg (fun j hj=>by
  by_cases r:i<j
  ·rw[if_pos r,if_pos r,<-Int.mul_add];exact Int.mul_nonneg (si.pos j hj) (by have:=N.diff_le hy hx hj;omega)
  ·rw[if_neg r,if_neg r];decide)
 rw[S_add] at b;have t:=si.tail i hi;by_cases c:x i<=y i
 ·exact c
 ·have d:D i*1<=D i*(x i-y i):=Int.mul_le_mul_of_nonneg_left (by omega) (si.pos i hi);omega
theorem uniq (h:N.Ends) {p x y c c' D D':Nat->Int} {B B':Int} (hx:N.Inb x) (hy:N.Inb y) (e: ∀i,i<N.n->N.ex x i=N.ex y i)
  (si:N.SI B D) (si':N.SI B' D') (hp:N.Pot (fun j=>p j*B+D j) x c) (hp':N.Pot (fun j=>p j*B'+D' j) y c'): ∀j,j<N.m->x j=y j:=by
 have a:=N.opt h hx hy e hp;have a':=N.opt h hy hx (fun i hi=>(e i hi).symm) hp'
 have sp: ∀(B:Int) (D x y:Nat->Int),S N.m (fun j=>(p j*B+D j)*(x j-y j))=B*S N.m (fun j=>p j*(x j-y j))+S N.m (fun j=>D j*(x j-y j)):=by
  intro B D x y;rw[<-S_mul,<-S_add];apply S_congr;intro j _;rw[Int.add_mul,Int.mul_comm (p j) B,Int.mul_assoc]
 rw[sp] at a a';have l:=N.low si hx hy;have l':=N.low si' hy hx
 have bpos: ∀{B:Int} {D:Nat->Int},N.SI B D->0<B:=fun{B D} si=>by
  have:=si.all;have:0<=S N.m (fun j=>D j*(N.hi j-N.lo j)):=S_nonneg (fun j hj=>Int.mul_nonneg (si.pos j hj) (by have:=hx j hj;omega));omega
 have le1:S N.m (fun j=>p j*(x j-y j))<=0:=by
  by_cases q:S N.m (fun j=>p j*(x j-y j))<=0
  ·exact q
  ·have:B*1<=B*S N.m (fun j=>p j*(x j-y j)):=Int.mul_le_mul_of_nonneg_left (by omega) (by have:=bpos si;omega);omega
 have le2:S N.m (fun j=>p j*(y j-x j))<=0:=by
  by_cases q:S N.m (fun j=>p j*(y j-x j))<=0
  ·exact q
  ·have:B'*1<=B'*S N.m (fun j=>p j*(y j-x j)):=Int.mul_le_mul_of_nonneg_left (by omega) (by have:=bpos si';omega);omega
 have ng:S N.m (fun j=>p j*(y j-x j))= -S N.m (fun j=>p j*(x j-y j)):=by
  rw[show-S N.m (fun j=>p j*(x j-y j))=(-1)*S N.m (fun j=>p j*(x j-y j)) by omega,<-S_mul];apply S_congr;intro j _;rw[show y j-x j=(-1)*(x j-y j) by omega,<-Int.mul_assoc,<-Int.mul_assoc,Int.mul_comm (p j)]
 have z:S N.m (fun j=>p j*(x j-y j))=0:=by omega
 have z':S N.m (fun j=>p j*(y j-x j))=0:=by omega
 rw[z] at a;rw[z'] at a';have d1:S N.m (fun j=>D j*(x j-y j))<=0:=by simpa using a
 have d2:S N.m (fun j=>D' j*(y j-x j))<=0:=by simpa using a'
 intro j
 induction j using Nat.strongRecOn with
 |_ j ih=>
  intro hj;have s: ∀k,k<j->x k=y k:=fun k hk=>ih k hk (by omega);have u:=N.first si hx hy d1 hj s;have v:=N.first si' hy hx d2 hj (fun k hk=>(s k hk).symm);omega
theorem least (h:N.Ends) {p x y c D:Nat->Int} {B:Int} (hx:N.Inb x) (hy:N.Inb y) (e: ∀i,i<N.n->N.ex x i=N.ex y i)
  (si:N.SI B D) (hp:N.Pot (fun j=>p j*B+D j) x c):S N.m (fun j=>p j*(x j-y j))<=0:=by
 have a:=N.opt h hx hy e hp
 have sp:S N.m (fun j=>(p j*B+D j)*(x j-y j))=B*S N.m (fun j=>p j*(x j-y j))+S N.m (fun j=>D j*(x j-y j)):=by
  rw[<-S_mul,<-S_add];apply S_congr;intro j _;rw[Int.add_mul,Int.mul_comm (p j) B,Int.mul_assoc]
 rw[sp] at a;have l:=N.low si hx hy
 have bp:0<B:=by
  have:=si.all;have:0<=S N.m (fun j=>D j*(N.hi j-N.lo j)):=S_nonneg (fun j hj=>Int.mul_nonneg (si.pos j hj) (by have:=hx j hj;omega));omega
 by_cases q:S N.m (fun j=>p j*(x j-y j))<=0
 ·exact q
 ·have:B*1<=B*S N.m (fun j=>p j*(x j-y j)):=Int.mul_le_mul_of_nonneg_left (by omega) (by omega);omega
def over (R:Nat->Bool):Int:=S N.n (fun i=>if R i=true then N.sup i else 0)-S N.m (fun j=>if R (N.src j)=true/\R (N.dst j)=false then N.hi j else if R (N.dst j)=true/\R (N.src j)=false then-N.lo j else 0)
def room (x:Nat->Int) (R:Nat->Bool) (j:Nat):Int:=if R (N.src j)=true/\R (N.dst j)=false then N.hi j-x j else if R (N.dst j)=true/\R (N.src j)=false then x j-N.lo j else 0
theorem room_nonneg {x:Nat->Int} (hx:N.Inb x) (R:Nat->Bool) {j:Nat} (hj:j<N.m):0<=N.room x R j:=by
 have:=hx j hj;unfold room;split
 ·omega
 ·split<;>omega
theorem over_eq (h:N.Ends) (x:Nat->Int) (R:Nat->Bool):N.over R=S N.n (fun i=>if R i=true then N.ex x i else 0)-S N.m (N.room x R):=by
 have a:=N.weigh h (fun i=>if R i=true then 1 else 0) x;have e1:S N.n (fun i=>(if R i=true then(1:Int) else 0)*N.ex x i)=S N.n (fun i=>if R i=true then N.ex x i else 0):=S_congr (fun i _=>by split<;>simp);have e2:S N.n (fun i=>(if R i=true then(1:Int) else 0)*N.sup i)=S N.n (fun i=>if R i=true then N.sup i else 0):=S_congr (fun i _=>by split<;>simp);rw[e1,e2] at a;unfold over
 have e3:S N.m (N.room x R)=S N.m (fun j=>(if R (N.src j)=true/\R (N.dst j)=false then N.hi j else if R (N.dst j)=true/\R (N.src j)=false then-N.lo j else 0)+((if R (N.dst j)=true then(1:Int) else 0)-(if R (N.src j)=true then 1 else 0))*x j):=by
  apply S_congr;intro j _;unfold room;cases R (N.src j)<;>cases R (N.dst j)<;>simp<;>omega
 rw[S_add] at e3;omega
def Closed (x:Nat->Int) (R:Nat->Bool):Prop:= ∀j,j<N.m->(x j<N.hi j->R (N.src j)=true->R (N.dst j)=true)/\(N.lo j<x j->R (N.dst j)=true->R (N.src j)=true)
theorem room_closed {x:Nat->Int} (hx:N.Inb x) {R:Nat->Bool} (c:N.Closed x R):S N.m (N.room x R)=0:=by
 rw[show S N.m (N.room x R)=S N.m (fun _=>0) from S_congr (fun j hj=>?_),S_zero];have h:=hx j hj;obtain⟨c1,c2⟩:=c j hj;unfold room;by_cases u:x j<N.hi j<;>by_cases v:N.lo j<x j<;>simp only[u,v,true_implies] at c1 c2<;>revert c1 c2<;>cases R (N.src j)<;>cases R (N.dst j)<;>simp<;>omega
theorem closed_room {x:Nat->Int} (hx:N.Inb x) {R:Nat->Bool} (z:S N.m (N.room x R)=0):N.Closed x R:=by
 have q:=S_eq_zero (fun j hj=>N.room_nonneg hx R hj) z;intro j hj;have a:=q j hj;unfold room at a;constructor
 ·intro u v;cases d:R (N.dst j)
  ·rw[if_pos ⟨v,d⟩] at a;omega
  ·rfl
 ·intro u v;cases d:R (N.src j)
  ·rw[if_neg (by rw[d];simp),if_pos ⟨v,d⟩] at a;omega
  ·rfl
structure Stuck (x:Nat->Int) (R:Nat->Bool):Prop where
 inb:N.Inb x
 holds: ∀i,i<N.n->0<N.ex x i->R i=true
 none: ∀i,i<N.n->R i=true->0<=N.ex x i
 closed:N.Closed x R
 least: ∀T:Nat->Bool,N.Closed x T->(∀i,i<N.n->0<N.ex x i->T i=true)-> ∀i,i<N.n->R i=true->T i=true
def DS (z:Int):Int:=if 0<z then z else 0
theorem over_le (h:N.Ends) {x:Nat->Int} (hx:N.Inb x) (R:Nat->Bool):N.over R<=S N.n (fun i=>DS (N.ex x i)):=by
 rw[N.over_eq h x R];have a:=S_nonneg (fun j hj=>N.room_nonneg hx R (j:=j) hj);have b:S N.n (fun i=>if R i=true then N.ex x i else 0)<=S N.n (fun i=>DS (N.ex x i)):=S_le (fun i _=>by unfold DS;split<;>split<;>omega);omega
theorem Stuck.over {x:Nat->Int} {R:Nat->Bool} (h:N.Ends) (s:N.Stuck x R):N.over R=S N.n (fun i=>DS (N.ex x i)):=by
 rw[N.over_eq h x R,N.room_closed s.inb s.closed]
 have b:S N.n (fun i=>if R i=true then N.ex x i else 0)=S N.n (fun i=>DS (N.ex x i)):=S_congr (fun i hi=>by
  unfold DS;have u:=s.holds i hi;have v:=s.none i hi;by_cases r:R i=true
  ·have:=v r;rw[if_pos r];split<;>omega
  ·rw[if_neg r];by_cases w:0<N.ex x i
   ·exact absurd (u w) r
   ·rw[if_neg w])
 omega
theorem Stuck.within {x:Nat->Int} {R:Nat->Bool} (h:N.Ends) (s:N.Stuck x R) (T:Nat->Bool) (e:N.over T=S N.n (fun i=>DS (N.ex x i))): ∀i,i<N.n->R i=true->T i=true:=by
 have a:=N.over_eq h x T;have rn:=S_nonneg (fun j hj=>N.room_nonneg s.inb T (j:=j) hj);have nn: ∀i,i<N.n->0<=DS (N.ex x i)-(if T i=true then N.ex x i else 0):=fun i _=>by unfold DS;split<;>split<;>omega
 have sn:=S_nonneg nn;rw[S_sub] at sn;have z1:S N.m (N.room x T)=0:=by omega
 have z2:=S_eq_zero nn (by rw[S_sub];omega);refine s.least T (N.closed_room s.inb z1) (fun i hi p=>?_);have q:=z2 i hi;unfold DS at q;rw[if_pos p] at q;by_cases t:T i=true
 ·exact t
 ·rw[if_neg t] at q;omega
theorem Stuck.same {x y:Nat->Int} {R T:Nat->Bool} (h:N.Ends) (s:N.Stuck x R) (t:N.Stuck y T): ∀i,i<N.n->R i=T i:=by
 have a:=s.over N h;have b:=t.over N h;have c:=N.over_le h t.inb R;have d:=N.over_le h s.inb T;have e:S N.n (fun i=>DS (N.ex x i))=S N.n (fun i=>DS (N.ex y i)):=by omega
 intro i hi;have u:=s.within N h T (by omega) i hi;have v:=t.within N h R (by omega) i hi;cases r:R i<;>cases q:T i<;>simp_all
theorem Stuck.no {x y:Nat->Int} {R:Nat->Bool} (h:N.Ends) (s:N.Stuck x R) (p: ∃i,i<N.n/\0<N.ex x i) (hy:N.Inb y) (e: ∀i,i<N.n->N.ex y i=0):False:=by
 have a:=s.over N h;have c:=N.over_le h hy R
 have z:S N.n (fun i=>DS (N.ex y i))=0:=by
  rw[show S N.n (fun i=>DS (N.ex y i))=S N.n (fun _=>0) from S_congr (fun i hi=>by rw[e i hi];rfl),S_zero]
 obtain⟨i,hi,q⟩:=p;have nn: ∀i,i<N.n->0<=DS (N.ex x i):=fun i _=>by unfold DS;split<;>omega
 have:=S_eq_zero nn (by have:=S_nonneg nn;omega) i hi;unfold DS at this;rw[if_pos q] at this;omega
end FN
end FM
namespace FM
open VbcsFlow
def rstep (r:Reach) (e:Rest):Reach:=match reachAt r e.src with
 |none=>r
 |some d=>match reachAt r e.dst with
  |none=>r.set e.dst (some (d.1+e.price,some e))
  |some o=>if d.1+e.price<o.1 then r.set e.dst (some (d.1+e.price,some e)) else r
theorem Rt (rs:List Rest) (r:Reach):relax rs r=rs.foldl rstep r:=rfl
def C (r:Reach) (i:Nat):Option Int:=(reachAt r i).map fun y=>y.1
def Le (a b:Option Int):Prop:= ∀y,b=some y-> ∃x,a=some x/\x<=y
theorem Le.refl (a:Option Int):Le a a:=fun y h=>⟨y,h,Int.le_refl y⟩
theorem Le.trans {a b c:Option Int} (h:Le a b) (k:Le b c):Le a c:=fun z hz=>by
 obtain⟨y,hy,l⟩:=k z hz;obtain⟨x,hx,l'⟩:=h y hy;exact⟨x,hx,by omega⟩
theorem Le.anti {a b:Option Int} (h:Le a b) (k:Le b a):a=b:=by
 cases a with
 |none=>
  cases b with
  |none=>rfl
  |some y=>obtain⟨x,hx,_⟩:=h y rfl;cases hx
 |some x=>
  obtain⟨y,hy,l⟩:=k x rfl;subst hy;obtain⟨z,hz,l'⟩:=h y rfl;cases hz;rw[show x=y by omega]
theorem Zj (r:Reach) (e:Rest):
  (rstep r e=r/\(∀d,reachAt r e.src=some d-> ∃o,reachAt r e.dst=some o/\o.1<=d.1+e.price))∨
  (∃d,reachAt r e.src=some d/\(∀o,reachAt r e.dst=some o->d.1+e.price<o.1)/\rstep r e=r.set e.dst (some (d.1+e.price,some e))):=by
 unfold rstep;cases h:reachAt r e.src with
 |none=>left;exact⟨rfl,fun d hd=>by cases hd⟩
 |some d=>
  cases k:reachAt r e.dst with
  |none=>right;exact⟨d,rfl,(fun o ho=>by cases ho),rfl⟩
  |some o=>
   dsimp only;by_cases q:d.1+e.price<o.1
   ·right;exact⟨d,rfl,(fun o' ho=>by cases ho;exact q),by rw[if_pos q]⟩
   ·left;exact⟨by rw[if_neg q],fun d' hd=>by cases hd;exact⟨o,rfl,by omega⟩⟩
theorem Zr {r:Reach} {k i:Nat} {v:Option (Int×Option Rest)} (h:k<r.length):reachAt (r.set k v) i=if i=k then v else reachAt r i:=by
 unfold reachAt;rw[List.getD_eq_getElem?_getD,List.getD_eq_getElem?_getD,List.getElem?_set];by_cases q:k=i
 ·subst q;simp[h]
 ·rw[if_neg q,if_neg (fun z=>q z.symm)]
theorem BA (r:Reach) (e:Rest):(rstep r e).length=r.length:=by
 rcases Zj r e with⟨h,_⟩|⟨d,_,_,h⟩<;>rw[h];simp
theorem VB (l:List Rest) (r:Reach):(l.foldl rstep r).length=r.length:=by
 induction l generalizing r with
 |nil=>rfl
 |cons e l ih=>rw[List.foldl_cons,ih,BA]
theorem N4 {r:Reach} {e:Rest} (h:e.dst<r.length) (i:Nat):Le (C (rstep r e) i) (C r i):=by
 rcases Zj r e with⟨q,_⟩|⟨d,hd,lt,q⟩
 ·rw[q];exact Le.refl _
 ·rw[q];unfold C;rw[Zr h];by_cases u:i=e.dst
  ·subst u;rw[if_pos rfl];intro y hy;cases w:reachAt r e.dst with
   |none=>rw[w] at hy;cases hy
   |some o=>
    rw[w] at hy;have:=lt o w;cases hy;exact⟨_,rfl,by dsimp only;omega⟩
  ·rw[if_neg u];exact Le.refl _
theorem RT {r:Reach} {e:Rest} (h:e.dst<r.length) {d:Int} (hd:C r e.src=some d):Le (C (rstep r e) e.dst) (some (d+e.price)):=by
 intro y hy;cases hy;unfold C at hd;cases w:reachAt r e.src with
 |none=>rw[w] at hd;cases hd
 |some u=>
  rw[w] at hd;cases hd;rcases Zj r e with⟨q,st⟩|⟨d',hd',lt,q⟩
  ·obtain⟨o,ho,l⟩:=st u w;rw[q];exact⟨o.1,by unfold C;rw[ho];rfl,l⟩
  ·rw[w] at hd';cases hd';rw[q];exact⟨u.1+e.price,by unfold C;rw[Zr h,if_pos rfl];rfl,Int.le_refl _⟩
section
variable {n:Nat} {rs:List Rest}
theorem BT {l:List Rest} {r:Reach} (h: ∀e∈l,e.dst<r.length) (i:Nat):Le (C (l.foldl rstep r) i) (C r i):=by
 induction l generalizing r with
 |nil=>exact Le.refl _
 |cons e l ih=>
  rw[List.foldl_cons];exact(ih (r:=rstep r e) (fun f hf=>by rw[BA];exact h f (List.mem_cons_of_mem _ hf))).trans (N4 (h e List.mem_cons_self) i)
theorem IH {l:List Rest} {r:Reach} (h: ∀e∈l,e.dst<r.length) {e:Rest} (he:e∈l) {d:Int} (hd:C r e.src=some d):
  Le (C (l.foldl rstep r) e.dst) (some (d+e.price)):=by
 induction l generalizing r d with
 |nil=>cases he
 |cons f l ih=>
  rw[List.foldl_cons];have hl: ∀g∈l,g.dst<(rstep r f).length:=fun g hg=>by rw[BA];exact h g (List.mem_cons_of_mem _ hg)
  rcases List.mem_cons.mp he with q|q
  ·subst q;exact(BT hl _).trans (RT (h e List.mem_cons_self) hd)
  ·obtain⟨d',hd',l'⟩:=N4 (r:=r) (e:=f) (h f List.mem_cons_self) e.src d hd;exact(ih hl q hd').trans (fun y hy=>by cases hy;exact⟨_,rfl,by omega⟩)
structure Inv (n:Nat) (rs:List Rest) (st:Nat->Prop) (c:Nat->Int) (low:Int) (r:Reach) (t:Nat->Nat) (T:Nat):Prop where
 len:r.length=n
 pre: ∀i d e,reachAt r i=some (d,some e)->e∈rs/\e.dst=i/\ ∃u,reachAt r e.src=some u/\u.1+e.price<=d
 ini: ∀i d,reachAt r i=some (d,none)->st i
 kept: ∀i,st i->(reachAt r i).isSome=true
 rank: ∀i d e u,reachAt r i=some (d,some e)->reachAt r e.src=some u->(u.1-c e.src<d-c i)∨(u.1-c e.src=d-c i/\t e.src<t i)
 time: ∀i,t i<T
 bnd: ∀i u,reachAt r i=some u->low<=u.1-c i
 within: ∀X:Nat->Prop,(∀i,st i->X i)->(∀e∈rs,X e.src->X e.dst)-> ∀i,(reachAt r i).isSome=true->X i
structure Ok (n:Nat) (rs:List Rest) (c:Nat->Int):Prop where
 ends: ∀e∈rs,e.src<n/\e.dst<n
 pot: ∀e∈rs,c e.dst<=c e.src+e.price
theorem Inv.rstep {st:Nat->Prop} {c:Nat->Int} {low:Int} {r:Reach} {t:Nat->Nat} {T:Nat} (I:Inv n rs st c low r t T) (ok:Ok n rs c) {e:Rest} (he:e∈rs):
  ∃t' T',Inv n rs st c low (FM.rstep r e) t' T':=by
 rcases Zj r e with⟨q,_⟩|⟨d,hd,lt,q⟩
 ·rw[q];exact⟨t,T,I⟩
 ·rw[q];have hb:e.dst<r.length:=by rw[I.len];exact(ok.ends e he).2
  have hp:=ok.pot e he
  have ne:e.src≠e.dst:=fun z=>by
   have:=lt d (by rw[<-z];exact hd);rw[z] at hp;omega
  have at_: ∀i,reachAt (r.set e.dst (some (d.1+e.price,some e))) i=if i=e.dst then some (d.1+e.price,some e) else reachAt r i:=fun i=>Zr hb
  have asrc:reachAt (r.set e.dst (some (d.1+e.price,some e))) e.src=some d:=by rw[at_,if_neg ne];exact hd
  refine⟨fun i=>if i=e.dst then T else t i,T+1,⟨by simp[I.len],?_,?_,?_,?_,?_,?_,?_⟩⟩
  ·intro i dd f hf;rw[at_] at hf;by_cases u:i=e.dst
   ·rw[if_pos u] at hf;cases hf;exact⟨he,u.symm,d,asrc,Int.le_refl _⟩
   ·rw[if_neg u] at hf;obtain⟨h1,h2,o,ho,hle⟩:=I.pre i dd f hf;refine⟨h1,h2,?_⟩;by_cases v:f.src=e.dst
    ·refine⟨_,by rw[at_,if_pos v],?_⟩;have:=lt o (by rw[<-v];exact ho);dsimp only;omega
    ·exact⟨o,by rw[at_,if_neg v];exact ho,hle⟩
  ·intro i dd hf;rw[at_] at hf;by_cases u:i=e.dst
   ·rw[if_pos u] at hf;cases hf
   ·rw[if_neg u] at hf;exact I.ini i dd hf
  ·intro i hi;rw[at_];by_cases u:i=e.dst
   ·rw[if_pos u];rfl
   ·rw[if_neg u];exact I.kept i hi
  ·intro i dd f u hf hu;rw[at_] at hf hu;by_cases a:i=e.dst
   ·rw[if_pos a] at hf;cases hf;rw[if_neg ne,hd] at hu;cases hu;rw[a,if_pos rfl,if_neg ne];have:=I.time e.src;omega
   ·rw[if_neg a] at hf;rw[if_neg a];by_cases b:f.src=e.dst
    ·rw[if_pos b] at hu;cases hu;obtain⟨_,_,o,ho,_⟩:=I.pre i dd f hf;have k:=I.rank i dd f o hf ho;have:=lt o (by rw[<-b];exact ho);left;dsimp only;omega
    ·rw[if_neg b] at hu;rw[if_neg b];exact I.rank i dd f u hf hu
  ·intro i;by_cases u:i=e.dst
   ·rw[if_pos u];omega
   ·rw[if_neg u];have:=I.time i;omega
  ·intro i u hu;rw[at_] at hu;by_cases a:i=e.dst
   ·rw[if_pos a] at hu;cases hu;have:=I.bnd e.src d hd;rw[a];dsimp only;omega
   ·rw[if_neg a] at hu;exact I.bnd i u hu
  ·intro X h1 h2 i hi;rw[at_] at hi;by_cases a:i=e.dst
   ·rw[a];exact h2 e he (I.within X h1 h2 e.src (by rw[hd];rfl))
   ·rw[if_neg a] at hi;exact I.within X h1 h2 i hi
def Good (n:Nat) (rs:List Rest) (st:Nat->Prop) (c:Nat->Int) (low:Int) (r:Reach):Prop:= ∃t T,Inv n rs st c low r t T
theorem Good.fold {st:Nat->Prop} {c:Nat->Int} {low:Int} (ok:Ok n rs c) {l:List Rest} (hl: ∀e∈l,e∈rs) {r:Reach} (I:Good n rs st c low r):Good n rs st c low (l.foldl FM.rstep r):=by
 induction l generalizing r with
 |nil=>exact I
 |cons e l ih=>
  rw[List.foldl_cons];obtain⟨t,T,I⟩:=I;exact ih (fun f hf=>hl f (List.mem_cons_of_mem _ hf)) (I.rstep ok (hl e List.mem_cons_self))
def it (rs:List Rest) (r:Reach):Nat->Reach
 |0=>r
 |k+1=>relax rs (it rs r k)
theorem Good.it {st:Nat->Prop} {c:Nat->Int} {low:Int} (ok:Ok n rs c) {r:Reach} (I:Good n rs st c low r) (k:Nat):Good n rs st c low (FM.it rs r k):=by
 induction k with
 |zero=>exact I
 |succ k ih=>exact Good.fold ok (fun _ h=>h) ih
theorem Good.len {st:Nat->Prop} {c:Nat->Int} {low:Int} {r:Reach} (I:Good n rs st c low r):r.length=n:=by
 obtain⟨t,T,I⟩:=I;exact I.len
theorem Vt (f:Nat->Option Int) (low:Int) (mono: ∀k,Le (f (k+1)) (f k)) (bnd: ∀k y,f k=some y->low<=y): ∃K,∀k,K<=k->f k=f K:=by
 have mono': ∀a b,a<=b->Le (f b) (f a):=fun a b h=>by
  induction b with
  |zero=>rw[show a=0 by omega];exact Le.refl _
  |succ b ih=>
   by_cases q:a=b+1
   ·rw[q];exact Le.refl _
   ·exact(mono b).trans (ih (by omega))
 by_cases ex: ∃k y,f k=some y
 ·obtain⟨k,y,hk⟩:=ex
  have go: ∀(N:Nat) k y,f k=some y->(y-low).toNat=N-> ∃K,∀k,K<=k->f k=f K:=by
   intro N
   induction N using Nat.strongRecOn with
   |_ N ih=>
    intro k y hk hN;by_cases q: ∀k',k<=k'->f k'=f k
    ·exact⟨k,q⟩
    ·obtain⟨k',h⟩:=Classical.not_forall.mp q;obtain⟨h1,h2⟩:=Classical.not_imp.mp h;obtain⟨y',hy',l⟩:=mono' k k' h1 y hk;have ne:y'≠y:=fun z=>h2 (by rw[hy',hk,z]);have:=bnd k' y' hy';exact ih (y'-low).toNat (by omega) k' y' hy' rfl
  exact go _ k y hk rfl
 ·exact⟨0,fun k _=>by
   cases a:f k with
   |some y=>exact absurd ⟨k,y,a⟩ ex
   |none=>
    cases b:f 0 with
    |some y=>exact absurd ⟨0,y,b⟩ ex
    |none=>rfl⟩
theorem V3 (f:Nat->Nat->Option Int) (h: ∀i,∃K,∀k,K<=k->f k i=f K i) (n:Nat): ∃K,∀i,i<n-> ∀k,K<=k->f k i=f K i:=by
 induction n with
 |zero=>exact⟨0,fun i hi=>by omega⟩
 |succ n ih=>
  obtain⟨K1,h1⟩:=ih;obtain⟨K2,h2⟩:=h n;refine⟨max K1 K2,fun i hi k hk=>?_⟩;by_cases q:i=n
  ·subst q;rw[h2 k (by omega),h2 (max K1 K2) (by omega)]
  ·rw[h1 i (by omega) k (by omega),h1 i (by omega) (max K1 K2) (by omega)]
def NB:Nat->(Nat->Bool)->Nat
 |0,_=>0
 |n+1,p=>NB n p+(if p n=true then 1 else 0)
theorem RP {n:Nat} {p q:Nat->Bool} (h: ∀i,i<n->p i=true->q i=true):NB n p<=NB n q:=by
 induction n with
 |zero=>exact Nat.le_refl _
 |succ n ih=>
  have a:=ih (fun i hi=>h i (by omega));have b:=h n (by omega);simp only[NB];split
  ·rename_i z;rw[if_pos (b z)];omega
  ·omega
theorem J0b {n:Nat} {p q:Nat->Bool} (h: ∀i,i<n->p i=true->q i=true) {k:Nat} (hk:k<n) (hq:q k=true) (hp:p k=false):NB n p<NB n q:=by
 induction n with
 |zero=>omega
 |succ n ih=>
  simp only[NB];by_cases e:k=n
  ·subst e;have:=RP (fun i (hi:i<k)=>h i (by omega));rw[hp,if_neg (by decide),if_pos hq];omega
  ·have:=ih (fun i hi=>h i (by omega)) (by omega);have b:=h n (by omega);split
   ·rename_i z;rw[if_pos (b z)];omega
   ·omega
theorem WN {n:Nat} {p:Nat->Bool} (h:n<=NB n p): ∀i,i<n->p i=true:=by
 have le: ∀n,NB n p<=n:=fun n=>by
  induction n with
  |zero=>exact Nat.le_refl _
  |succ n ih=>simp only[NB];split<;>omega
 induction n with
 |zero=>intro i hi;omega
 |succ n ih=>
  simp only[NB] at h;have:=le n;intro i hi;by_cases q:i=n
  ·subst q;by_cases z:p i=true
   ·exact z
   ·rw[if_neg z] at h;omega
  ·exact ih (by split at h<;>omega) i (by omega)
theorem VC {st:Nat->Prop} {c:Nat->Int} {low:Int} (ok:Ok n rs c) {r:Reach} (I:Good n rs st c low r):
  ∀i,i<n->C (it rs r (n+1)) i=C (it rs r n) i:=by
 have hb: ∀k,∀e∈rs,e.dst<(it rs r k).length:=fun k e he=>by rw[(I.it ok k).len];exact(ok.ends e he).2
 have mono: ∀k i,Le (C (it rs r (k+1)) i) (C (it rs r k) i):=fun k i=>BT (hb k) i
 have mono': ∀a b i,a<=b->Le (C (it rs r b) i) (C (it rs r a) i):=fun a b i h=>by
  induction b with
  |zero=>rw[show a=0 by omega];exact Le.refl _
  |succ b ih=>
   by_cases q:a=b+1
   ·rw[q];exact Le.refl _
   ·exact(mono b i).trans (ih (by omega))
 obtain⟨K,hK⟩:=V3 (fun k i=>C (it rs r k) i) (fun i=>Vt (fun k=>C (it rs r k) i) (low+c i) (fun k=>mono k i) (fun k y hy=>by
  obtain⟨t,T,J⟩:=I.it ok k;unfold C at hy;cases w:reachAt (it rs r k) i with
  |none=>rw[w] at hy;cases hy
  |some u=>
   rw[w] at hy;cases hy;have:=J.bnd i u w;dsimp only;omega)) n
 have hD: ∀k i,i<n->Le (C (it rs r K) i) (C (it rs r k) i):=fun k i hi=>by
  by_cases q:K<=k
  ·have:=hK i hi k q;rw[this];exact Le.refl _
  ·exact mono' k K i (by omega)
 have keep: ∀a b i,i<n->a<=b->C (it rs r a) i=C (it rs r K) i->C (it rs r b) i=C (it rs r K) i:=fun a b i hi h e=>
  Le.anti (by rw[<-e];exact mono' a b i h) (hD b i hi)
 have edgeD: ∀e∈rs,∀d,C (it rs r K) e.src=some d->Le (C (it rs r K) e.dst) (some (d+e.price)):=fun e he d hd=>by
  have a:=IH (hb K) he hd;have b:=hK e.dst (ok.ends e he).2 (K+1) (by omega);rw[<-b];exact a
 have step: ∀k,(∀i,i<n->C (it rs r (k+1)) i=C (it rs r K) i->C (it rs r k) i=C (it rs r K) i)->
   ∀i,i<n->C (it rs r (k+2)) i=C (it rs r K) i->C (it rs r (k+1)) i=C (it rs r K) i:=by
  intro k h
  have inner: ∀(l:List Rest) (s:Reach),(∀e∈l,e∈rs)->s.length=n->(∀i,i<n->Le (C (it rs r K) i) (C s i))->(∀i,i<n->C s i=C (it rs r K) i->(C s i).isSome=true->C (it rs r (k+1)) i=C (it rs r K) i)->
    (∀i,i<n->Le (C (it rs r K) i) (C (l.foldl rstep s) i))-> ∀i,i<n->C (l.foldl rstep s) i=C (it rs r K) i->(C (l.foldl rstep s) i).isSome=true->C (it rs r (k+1)) i=C (it rs r K) i:=by
   intro l
   induction l with
   |nil=>intro s _ _ _ h2 _;exact h2
   |cons e l ih=>
    intro s hl hs h1 h2 h3;rw[List.foldl_cons] at h3 ⊢;have he:=hl e List.mem_cons_self;have hbs: ∀f∈l,f.dst<(rstep s e).length:=fun f hf=>by rw[BA,hs];exact(ok.ends f (hl f (List.mem_cons_of_mem _ hf))).2
    refine ih (rstep s e) (fun f hf=>hl f (List.mem_cons_of_mem _ hf)) (by rw[BA,hs]) (fun i hi=>(h3 i hi).trans (BT hbs i)) ?_ h3;intro i hi hq hsome;have lower:Le (C (it rs r K) i) (C (rstep s e) i):=(h3 i hi).trans (BT hbs i);rcases Zj s e with⟨q,_⟩|⟨d,hd,lt,q⟩
    ·rw[q] at hq hsome;exact h2 i hi hq hsome
    ·rw[q] at hq hsome;unfold C at hq hsome;have hbe:e.dst<s.length:=by rw[hs];exact(ok.ends e he).2
     rw[Zr hbe] at hq hsome;by_cases a:i=e.dst
     ·subst a;rw[if_pos rfl] at hq;have hq':C (it rs r K) e.dst=some (d.1+e.price):=hq.symm;have hsrc:=(ok.ends e he).1;have cs:C s e.src=some d.1:=by unfold C;rw[hd];rfl
      obtain⟨y,hy,hle⟩:=h1 e.src hsrc d.1 cs;obtain⟨z,hz,hle2⟩:=edgeD e he y hy (y+e.price) rfl;rw[hq'] at hz;cases hz;have yd:y=d.1:=by omega
      subst yd;have f1:=h2 e.src hsrc (by rw[cs,hy]) (by rw[cs];rfl);have f0:=h e.src hsrc f1;have ed:=IH (hb k) he (f0.trans hy);refine Le.anti ?_ (hD (k+1) e.dst hi);rw[hq'];exact ed
     ·rw[if_neg a] at hq hsome;exact h2 i hi hq hsome
  intro i hi e;cases hn:C (it rs r K) i with
  |none=>
   cases w:C (it rs r (k+1)) i with
   |none=>rfl
   |some y=>
    obtain⟨x,hx,_⟩:=hD (k+1) i hi y w;rw[hn] at hx;cases hx
  |some y=>
   rw[<-hn];exact inner rs (it rs r (k+1)) (fun _ h=>h) (I.it ok (k+1)).len (fun i hi=>hD (k+1) i hi) (fun i _ h _=>h) (fun i hi=>hD (k+2) i hi) i hi e (by rw[show C (rs.foldl rstep (it rs r (k+1))) i=C (it rs r (k+2)) i from rfl,e,hn];rfl)
 have stay: ∀k,(∀i,i<n->C (it rs r (k+1)) i=C (it rs r K) i->C (it rs r k) i=C (it rs r K) i)-> ∀j i,i<n->C (it rs r (k+j)) i=C (it rs r K) i->C (it rs r k) i=C (it rs r K) i:=by
  intro k h j
  have h': ∀j,∀i,i<n->C (it rs r (k+j+1)) i=C (it rs r K) i->C (it rs r (k+j)) i=C (it rs r K) i:=by
   intro j
   induction j with
   |zero=>exact h
   |succ j ih=>exact step (k+j) ih
  induction j with
  |zero=>intro i _ e;exact e
  |succ j ih=>intro i hi e;exact ih i hi (h' j i hi e)
 have grow: ∀k,k<=n->k<=NB n (fun i=>decide (C (it rs r k) i=C (it rs r K) i)):=by
  intro k
  induction k with
  |zero=>intro _;exact Nat.zero_le _
  |succ k ih=>
   intro hk;have ihk:=ih (by omega);by_cases q: ∃i,i<n/\C (it rs r (k+1)) i=C (it rs r K) i/\ ¬C (it rs r k) i=C (it rs r K) i
   ·obtain⟨i,hi,a,b⟩:=q;have:=J0b (n:=n) (p:=fun i=>decide (C (it rs r k) i=C (it rs r K) i)) (q:=fun i=>decide (C (it rs r (k+1)) i=C (it rs r K) i)) (fun j hj u=>decide_eq_true (keep k (k+1) j hj (by omega) (of_decide_eq_true u))) hi (decide_eq_true a) (decide_eq_false b);omega
   ·have all: ∀i,i<n->C (it rs r k) i=C (it rs r K) i:=fun i hi=>stay k (fun i hi a=>Classical.byContradiction fun b=>q ⟨i,hi,a,b⟩) K i hi (by
     have:=hK i hi (k+K) (by omega);exact this)
    have:n<=NB n (fun i=>decide (C (it rs r (k+1)) i=C (it rs r K) i)):=by
     have c1:NB n (fun _=>true)<=NB n (fun i=>decide (C (it rs r (k+1)) i=C (it rs r K) i)):=RP (fun i hi _=>decide_eq_true (keep k (k+1) i hi (by omega) (all i hi)))
     have c2: ∀n,NB n (fun _=>true)=n:=fun n=>by
      induction n with
      |zero=>rfl
      |succ n ih=>simp only[NB,ih];rfl
     rw[c2] at c1;exact c1
    omega
 intro i hi;have fin:=of_decide_eq_true (WN (grow n (Nat.le_refl n)) i hi);rw[fin];exact keep n (n+1) i hi (by omega) fin
def Stable (rs:List Rest) (r:Reach):Prop:= ∀e∈rs,∀d,reachAt r e.src=some d-> ∃o,reachAt r e.dst=some o/\o.1<=d.1+e.price
theorem C_some {r:Reach} {i:Nat} {y:Int} (h:C r i=some y): ∃o,reachAt r i=some o/\o.1=y:=by
 unfold C at h;cases w:reachAt r i with
 |none=>rw[w] at h;cases h
 |some o=>rw[w] at h;cases h;exact⟨o,rfl,rfl⟩
theorem IQ {r:Reach} (hb: ∀e∈rs,e.dst<r.length) (h: ∀i,i<r.length->C (relax rs r) i=C r i):Stable rs r:=by
 intro e he d hd;have a:=IH hb he (d:=d.1) (by unfold C;rw[hd];rfl);obtain⟨y,hy,l⟩:=a _ rfl;have b:=h e.dst (hb e he);rw[Rt] at b;rw[b] at hy;obtain⟨o,ho,ey⟩:=C_some hy;exact⟨o,ho,by omega⟩
theorem Te {r s:Reach} (h:costs s=costs r) (i:Nat):C s i=C r i:=by
 have e: ∀q:Reach,C q i=((costs q)[i]?).getD none:=fun q=>by
  unfold C costs reachAt;rw[List.getElem?_map,List.getD_eq_getElem?_getD];cases q[i]?<;>rfl
 rw[e,e,h]
theorem Nc {st:Nat->Prop} {c:Nat->Int} {low:Int} (ok:Ok n rs c) {r:Reach} (I:Good n rs st c low r) (k j:Nat) (h:j+k=n):
  ∃m,relaxed rs k (it rs r j)=it rs r m/\ ∀i,i<n->C (it rs r (m+1)) i=C (it rs r m) i:=by
 induction k generalizing j with
 |zero=>
  refine⟨n,?_,VC ok I⟩;rw[show j=n by omega];rfl
 |succ k ih=>
  unfold relaxed;dsimp only;by_cases q:costs (relax rs (it rs r j))=costs (it rs r j)
  ·rw[if_pos q];exact⟨j,rfl,fun i _=>Te q i⟩
  ·rw[if_neg q];exact ih (j+1) (by omega)
theorem Pt {st:Nat->Prop} {c:Nat->Int} {low:Int} (ok:Ok n rs c) {r:Reach} (I:Good n rs st c low r):Good n rs st c low (relaxed rs n r)/\Stable rs (relaxed rs n r):=by
 obtain⟨m,e,h⟩:=Nc ok I n 0 (by omega);have e':relaxed rs n r=it rs r m:=e;rw[e'];have g:=I.it ok m;refine⟨g,IQ (fun e he=>by rw[g.len];exact(ok.ends e he).2) (fun i hi=>?_)⟩;rw[g.len] at hi;exact h i hi
def JI (n:Nat) (b:Nat->Bool):Reach:=(List.range n).map fun i=>if b i=true then some (0,none) else none
theorem U5 (n:Nat) (b:Nat->Bool) (i:Nat):reachAt (JI n b) i=if i<n/\b i=true then some (0,none) else none:=by
 unfold reachAt JI;rw[List.getD_eq_getElem?_getD,List.getElem?_map];by_cases h:i<n
 ·rw[List.getElem?_range h];by_cases k:b i=true<;>simp[h,k]
 ·rw[List.getElem?_eq_none (by simp;omega)];simp[h]
theorem K5 {c:Nat->Int} (b:Nat->Bool): ∃low,Good n rs (fun i=>i<n/\b i=true) c low (JI n b):=by
 have ex: ∀n,∃low:Int,∀i,i<n->low<=0-c i:=fun n=>by
  induction n with
  |zero=>exact⟨0,fun i hi=>by omega⟩
  |succ n ih=>
   obtain⟨l,hl⟩:=ih;refine⟨min l (0-c n),fun i hi=>?_⟩;by_cases q:i=n
   ·subst q;omega
   ·have:=hl i (by omega);omega
 obtain⟨low,hlow⟩:=ex n;refine⟨low,fun _=>0,1,⟨by simp[JI],?_,?_,?_,?_,?_,?_,?_⟩⟩
 ·intro i d e h;rw[U5] at h;split at h<;>cases h
 ·intro i d h;rw[U5] at h;by_cases q:i<n/\b i=true
  ·exact q
  ·rw[if_neg q] at h;cases h
 ·intro i h;rw[U5,if_pos h];rfl
 ·intro i d e u h;rw[U5] at h;split at h<;>cases h
 ·intro i;exact Nat.zero_lt_one
 ·intro i u h;rw[U5] at h;by_cases q:i<n/\b i=true
  ·rw[if_pos q] at h;cases h;exact hlow i q.1
  ·rw[if_neg q] at h;cases h
 ·intro X h1 _ i h;rw[U5] at h;by_cases q:i<n/\b i=true
  ·exact h1 i q
  ·rw[if_neg q] at h;cases h
end
end FM
namespace FM
open VbcsFlow
inductive Way (r:Reach):Nat->List Rest->Nat->Prop
 |start {i:Nat} {d:Int}:reachAt r i=some (d,none)->Way r i [] i
 |more {i s:Nat} {d:Int} {e:Rest} {w:List Rest}:reachAt r i=some (d,some e)->Way r e.src w s->Way r i (w++[e]) s
def RL (r:Reach) (c:Nat->Int) (t:Nat->Nat) (i j:Nat):Prop:= ∃u v,reachAt r i=some u/\reachAt r j=some v/\(u.1-c i<v.1-c j∨(u.1-c i=v.1-c j/\t i<t j))
theorem RL.trans {r:Reach} {c:Nat->Int} {t:Nat->Nat} {i j k:Nat} (a:RL r c t i j) (b:RL r c t j k):RL r c t i k:=by
 obtain⟨u,v,h1,h2,h3⟩:=a;obtain⟨v',w,k1,k2,k3⟩:=b;rw[h2] at k1;cases k1;exact⟨u,w,h1,k2,by omega⟩
theorem RL.ne {r:Reach} {c:Nat->Int} {t:Nat->Nat} {i j:Nat} (a:RL r c t i j):i≠j:=by
 obtain⟨u,v,h1,h2,h3⟩:=a;intro e;subst e;rw[h1] at h2;cases h2;omega
section
variable {n:Nat} {rs:List Rest} {st:Nat->Prop} {c:Nat->Int} {low:Int} {r:Reach} {t:Nat->Nat} {T:Nat}
theorem Inv.rl (I:Inv n rs st c low r t T) {i:Nat} {d:Int} {e:Rest} (h:reachAt r i=some (d,some e)):RL r c t e.src i:=by
 obtain⟨_,_,u,hu,_⟩:=I.pre i d e h;exact⟨u,_,hu,h,I.rank i d e u h hu⟩
theorem Inv.way (I:Inv n rs st c low r t T) {i:Nat} (h:(reachAt r i).isSome=true): ∃w s,Way r i w s:=by
 have go: ∀(a b:Nat) (i:Nat) (u:Int×Option Rest),reachAt r i=some u->(u.1-c i-low).toNat=a->t i=b-> ∃w s,Way r i w s:=by
  intro a
  induction a using Nat.strongRecOn with
  |_ a iha=>
   intro b
   induction b using Nat.strongRecOn with
   |_ b ihb=>
    intro i u hu ha hb;obtain⟨d,o⟩:=u;cases o with
    |none=>exact⟨[],i, .start hu⟩
    |some e=>
     obtain⟨_,_,v,hv,_⟩:=I.pre i d e hu;have l1:=I.bnd e.src v hv;have l2:=I.bnd i _ hu;dsimp only at ha l2;rcases I.rank i d e v hu hv with k|⟨k1,k2⟩
     ·obtain⟨w,s,hw⟩:=iha (v.1-c e.src-low).toNat (by omega) _ e.src v hv rfl rfl;exact⟨_,_, .more hu hw⟩
     ·obtain⟨w,s,hw⟩:=ihb (t e.src) (by omega) e.src v hv (by omega) rfl;exact⟨_,_, .more hu hw⟩
 cases w:reachAt r i with
 |none=>rw[w] at h;cases h
 |some u=>exact go _ _ i u w rfl rfl
theorem Way.back {i s:Nat} {w:List Rest} (h:Way r i w s): ∀(k:Nat) (acc:List Rest),w.length<=k->backFrom r k i acc=w++acc:=by
 induction h with
 |start hd=>
  intro k acc _;cases k with
  |zero=>rfl
  |succ k=>simp only[backFrom,hd];rfl
 |more hd _ ih=>
  intro k acc hk;rw[List.length_append] at hk;cases k with
  |zero=>simp at hk
  |succ k=>
   simp only[backFrom,hd];rw[ih k _ (by simp at hk;omega)];simp
theorem Way.facts (I:Inv n rs st c low r t T) (S:Stable rs r) {i s:Nat} {w:List Rest} (h:Way r i w s):
  (∀e∈w,e∈rs/\RL r c t e.src i/\(e.dst=i∨RL r c t e.dst i)/\ ∃u v,reachAt r e.src=some u/\reachAt r e.dst=some v/\v.1=u.1+e.price)/\
  w.Pairwise (fun f e=>RL r c t f.src e.dst/\RL r c t f.dst e.dst)/\st s:=by
 induction h with
 |start hd=>exact⟨(fun e he=>by cases he),List.Pairwise.nil,I.ini _ _ hd⟩
 | @more i s d e w hd _ ih=>
  obtain⟨ih1,ih2,ih3⟩:=ih;obtain⟨h1,h2,u,hu,hle⟩:=I.pre i d e hd;have rl:=I.rl hd;refine⟨fun f hf=>?_,?_,ih3⟩
  ·rcases List.mem_append.mp hf with q|q
   ·obtain⟨a,b,c1,d1⟩:=ih1 f q;refine⟨a,b.trans rl,Or.inr ?_,d1⟩;rcases c1 with z|z
    ·rw[z];exact rl
    ·exact z.trans rl
   ·rw[List.mem_singleton] at q;subst q;obtain⟨o,ho,hle2⟩:=S f h1 u hu;rw[h2,hd] at ho;cases ho;exact⟨h1,rl,Or.inl h2,u,_,hu,by rw[h2];exact hd,by dsimp only at hle2 ⊢;omega⟩
  ·rw[List.pairwise_append];refine⟨ih2,List.pairwise_singleton _ _,fun f hf g hg=>?_⟩;rw[List.mem_singleton] at hg;subst hg;obtain⟨_,b,c1,_⟩:=ih1 f hf;rw[h2];refine⟨b.trans rl,?_⟩;rcases c1 with z|z
   ·rw[z];exact rl
   ·exact z.trans rl
theorem Rs: ∀(n:Nat) (l:List Nat),l.Nodup->(∀x∈l,x<n)->l.length<=n:=by
 intro n
 induction n with
 |zero=>
  intro l _ h;cases l with
  |nil=>exact Nat.le_refl _
  |cons a l=>have:=h a List.mem_cons_self;omega
 |succ n ih=>
  intro l nd h
  have a:=ih (l.erase n) (nd.erase n) (fun x hx=>by
   have h1:=h x (List.mem_of_mem_erase hx);have h2:=(List.Nodup.mem_erase_iff nd).mp hx;have:=h2.1;omega)
  have b:=List.length_erase (a:=n) (l:=l);by_cases q:n∈l
  ·rw[if_pos q] at b;omega
  ·rw[if_neg q] at b;omega
theorem Way.short (I:Inv n rs st c low r t T) (S:Stable rs r) (ok:Ok n rs c) {i s:Nat} {w:List Rest} (h:Way r i w s):w.length<=n:=by
 obtain⟨f1,f2,_⟩:=h.facts I S
 have nd:(w.map fun e=>e.dst).Nodup:=by
  unfold List.Nodup;rw[List.pairwise_map];exact f2.imp (fun h=>h.2.ne)
 have:=Rs n (w.map fun e=>e.dst) nd (fun x hx=>by
  obtain⟨e,he,rfl⟩:=List.mem_map.mp hx;exact(ok.ends e (f1 e he).1).2)
 rwa [List.length_map] at this
end
def gain (w:List Rest) (i:Nat):Int:=w.foldr (fun e a=>(if e.dst=i then 1 else 0)-(if e.src=i then 1 else 0)+a) 0
theorem QE (v w:List Rest) (i:Nat):gain (v++w) i=gain v i+gain w i:=by
 induction v with
 |nil=>simp[gain]
 |cons e v ih=>
  have:gain (e::(v++w)) i=(if e.dst=i then 1 else 0)-(if e.src=i then 1 else 0)+gain (v++w) i:=rfl;rw[List.cons_append,this,ih];have:gain (e::v) i=(if e.dst=i then 1 else 0)-(if e.src=i then 1 else 0)+gain v i:=rfl;rw[this];omega
theorem Way.gain {n:Nat} {rs:List Rest} {st:Nat->Prop} {c:Nat->Int} {low:Int} {r:Reach} {t:Nat->Nat} {T:Nat} (I:Inv n rs st c low r t T) {j s:Nat} {w:List Rest} (h:Way r j w s) (i:Nat):
  FM.gain w i=(if j=i then 1 else 0)-(if s=i then 1 else 0):=by
 induction h with
 |start _=>simp[FM.gain]
 | @more i' s d e w hd _ ih=>
  obtain⟨_,h2,_⟩:=I.pre i' d e hd;rw[QE,ih];have:FM.gain [e] i=(if e.dst=i then 1 else 0)-(if e.src=i then 1 else 0)+0:=rfl;rw[this,h2];omega
theorem Way.head {r:Reach} {i s:Nat} {w:List Rest} (h:Way r i w s):(w.head?.map fun e=>e.src).getD i=s:=by
 have go: ∀{i s:Nat} {w:List Rest},Way r i w s->(w=[]/\i=s)∨ ∃e w',w=e::w'/\e.src=s:=by
  intro i s w h
  induction h with
  |start _=>exact Or.inl ⟨rfl,rfl⟩
  |more _ _ ih=>
   rcases ih with⟨a,b⟩|⟨f,w',a,b⟩
   ·subst a;exact Or.inr ⟨_,_,rfl,b⟩
   ·subst a;exact Or.inr ⟨f,_,rfl,b⟩
 rcases go h with⟨a,b⟩|⟨e,w',a,b⟩
 ·subst a;exact b
 ·subst a;exact b
def arc (g:Net) (j:Nat):Arc:=g.arcs.getD j ⟨0,0,0,0,0⟩
def fn (g:Net):FN:=⟨g.n,g.arcs.length,fun j=>(arc g j).src,fun j=>(arc g j).dst,fun j=>(arc g j).least,fun j=>(arc g j).most,at_ g.supply⟩
def pr (g:Net) (j:Nat):Int:=(arc g j).price
structure Wf (g:Net):Prop where
 ends: ∀j,j<g.arcs.length->(arc g j).src<g.n/\(arc g j).dst<g.n
 bnd: ∀j,j<g.arcs.length->(arc g j).least<=(arc g j).most
 zero:S g.n (at_ g.supply)=0
theorem Wf.Ends {g:Net} (w:Wf g):(fn g).Ends:=w.ends
theorem MN (a:Int) (l:List Int):total (a::l)=a+total l:=by
 have go: ∀(l:List Int) (a:Int),l.foldl (fun a b=>a+b) a=a+l.foldl (fun a b=>a+b) 0:=by
  intro l
  induction l with
  |nil=>intro a;simp
  |cons b l ih=>intro a;rw[List.foldl_cons,List.foldl_cons,ih,ih (0+b)];omega
 unfold total;rw[List.foldl_cons,go];omega
theorem BB {α:Type} (h:α×Nat->Int) (dflt:α): ∀(l:List α) (k:Nat),total ((l.zipIdx k).map h)=S l.length (fun j=>h (l.getD j dflt,j+k)):=by
 intro l
 induction l with
 |nil=>intro k;rfl
 |cons a l ih=>
  intro k;rw[List.zipIdx_cons,List.map_cons,MN,ih,List.length_cons,S_left]
  congr 1
  ·simp
  ·apply S_congr;intro j _;simp only[List.getD_cons_succ];rw[show j+1+k=j+(k+1) by omega]
theorem U7 (g:Net) (x:List Int) (i:Nat):balance g x i=(fn g).ex (at_ x) i:=by
 unfold balance pairs FN.ex;rw[List.map_map,BB _ ⟨0,0,0,0,0⟩];rfl
theorem Ib {g:Net} {j:Nat} (h:j<g.arcs.length):g.arcs[j]?=some (arc g j):=by
 unfold arc;rw[List.getD_eq_getElem?_getD,List.getElem?_eq_getElem h];rfl
theorem mem_rests {g:Net} {x:List Int} {e:Rest}:e∈rests g x↔ ∃j,j<g.arcs.length/\e∈restsOf (arc g j) j (at_ x j):=by
 unfold rests;rw[List.mem_flatMap];constructor
 ·rintro⟨⟨a,j⟩,h,k⟩;have h':=List.mem_zipIdx' h;refine⟨j,h'.1,?_⟩
  have:arc g j=a:=by
   unfold arc;rw[List.getD_eq_getElem?_getD,List.getElem?_eq_getElem h'.1];exact h'.2.symm
  rw[this];exact k
 ·rintro⟨j,h,k⟩;refine⟨(arc g j,j),?_,k⟩;rw[List.mem_zipIdx_iff_getElem?];exact Ib h
theorem Zx {g:Net} {x:List Int} {e:Rest} (h:e∈rests g x):e.arc<g.arcs.length/\
  ((e.back=false/\e.src=(arc g e.arc).src/\e.dst=(arc g e.arc).dst/\e.price=pr g e.arc/\at_ x e.arc<(arc g e.arc).most/\e.room=(arc g e.arc).most-at_ x e.arc)∨
   (e.back=true/\e.src=(arc g e.arc).dst/\e.dst=(arc g e.arc).src/\e.price= -pr g e.arc/\(arc g e.arc).least<at_ x e.arc/\e.room=at_ x e.arc-(arc g e.arc).least)):=by
 obtain⟨j,hj,h⟩:=mem_rests.mp h;unfold restsOf at h;rcases List.mem_append.mp h with q|q
 ·by_cases u:at_ x j<(arc g j).most
  ·rw[if_pos u,List.mem_singleton] at q;subst q;exact⟨hj,Or.inl ⟨rfl,rfl,rfl,rfl,u,rfl⟩⟩
  ·rw[if_neg u] at q;cases q
 ·by_cases u:(arc g j).least<at_ x j
  ·rw[if_pos u,List.mem_singleton] at q;subst q;exact⟨hj,Or.inr ⟨rfl,rfl,rfl,rfl,u,rfl⟩⟩
  ·rw[if_neg u] at q;cases q
theorem Mh {g:Net} {x:List Int} {j:Nat} (hj:j<g.arcs.length) (h:at_ x j<(arc g j).most):(⟨(arc g j).src,(arc g j).dst,(arc g j).most-at_ x j,(arc g j).price,j,false⟩:Rest)∈rests g x:=
 mem_rests.mpr ⟨j,hj,List.mem_append.mpr (Or.inl (by rw[if_pos h];exact List.mem_singleton.mpr rfl))⟩
theorem MI {g:Net} {x:List Int} {j:Nat} (hj:j<g.arcs.length) (h:(arc g j).least<at_ x j):(⟨(arc g j).dst,(arc g j).src,at_ x j-(arc g j).least,-(arc g j).price,j,true⟩:Rest)∈rests g x:=
 mem_rests.mpr ⟨j,hj,List.mem_append.mpr (Or.inr (by rw[if_pos h];exact List.mem_singleton.mpr rfl))⟩
theorem Xv {g:Net} (w:Wf g) {x:List Int} {c:Nat->Int} (p:(fn g).Pot (pr g) (at_ x) c):Ok g.n (rests g x) c:=by
 refine⟨fun e he=>?_,fun e he=>?_⟩
 ·obtain⟨h1,h2⟩:=Zx he;have:=w.ends e.arc h1;rcases h2 with⟨_,a,b,_⟩|⟨_,a,b,_⟩
  ·rw[a,b];exact this
  ·rw[a,b];exact⟨this.2,this.1⟩
 ·obtain⟨h1,h2⟩:=Zx he;have q:=p e.arc h1;rcases h2 with⟨_,a,b,c1,d,_⟩|⟨_,a,b,c1,d,_⟩
  ·rw[a,b,c1];exact q.1 d
  ·rw[a,b,c1];have:=q.2 d;exact Int.le_trans this (by rw[Int.sub_eq_add_neg];exact Int.le_refl _)
def sg (e:Rest) (k:Int):Int:=if e.back=true then-k else k
theorem DW {x:List Int} {a j:Nat} {v:Int} (h:a<x.length):at_ (x.set a v) j=if a=j then v else at_ x j:=by
 unfold at_
 rw[List.getD_eq_getElem?_getD,List.getD_eq_getElem?_getD,List.getElem?_set];by_cases q:a=j
 ·subst q;simp[h]
 ·rw[if_neg q,if_neg q]
def p1 (k:Int) (x:List Int) (e:Rest):List Int:=x.set e.arc (at_ x e.arc+sg e k)
theorem Ca (x:List Int) (w:List Rest) (k:Int):push x w k=w.foldl (p1 k) x:=rfl
theorem p1_len (k:Int) (x:List Int) (e:Rest):(p1 k x e).length=x.length:=by simp[p1]
theorem GD (w:List Rest) (k:Int) (x:List Int):(push x w k).length=x.length:=by
 rw[Ca]
 induction w generalizing x with
 |nil=>rfl
 |cons e w ih=>rw[List.foldl_cons,ih,p1_len]
theorem Az {w:List Rest} {k:Int} {x:List Int} {j:Nat} (h: ∀e∈w,e.arc≠j):at_ (push x w k) j=at_ x j:=by
 rw[Ca]
 induction w generalizing x with
 |nil=>rfl
 |cons e w ih=>
  rw[List.foldl_cons,ih (fun f hf=>h f (List.mem_cons_of_mem _ hf))];unfold p1 at_
  rw[List.getD_eq_getElem?_getD,List.getElem?_set,if_neg (h e List.mem_cons_self),<-List.getD_eq_getElem?_getD]
theorem PJ {w:List Rest} {k:Int} {x:List Int} (pw:w.Pairwise (fun f e=>f.arc≠e.arc)) {e:Rest} (he:e∈w) (hb:e.arc<x.length):at_ (push x w k) e.arc=at_ x e.arc+sg e k:=by
 rw[Ca]
 induction w generalizing x with
 |nil=>cases he
 |cons f w ih=>
  rw[List.pairwise_cons] at pw;rw[List.foldl_cons];rcases List.mem_cons.mp he with q|q
  ·subst q;have:=Az (w:=w) (k:=k) (x:=p1 k x e) (j:=e.arc) (fun g hg=>fun z=>pw.1 g hg z.symm);rw[Ca] at this;rw[this];unfold p1;rw[DW hb,if_pos rfl]
  ·rw[ih pw.2 q (by rw[p1_len];exact hb)]
   congr 1
   unfold p1 at_
   rw[List.getD_eq_getElem?_getD,List.getElem?_set,if_neg (pw.1 e q),<-List.getD_eq_getElem?_getD]
theorem J0G {g:Net} {x:List Int} (hx:x.length=g.arcs.length) {e:Rest} (he:e.arc<g.arcs.length)
  (hd:(e.back=false/\e.src=(arc g e.arc).src/\e.dst=(arc g e.arc).dst)∨(e.back=true/\e.src=(arc g e.arc).dst/\e.dst=(arc g e.arc).src)) (k:Int) (i:Nat):
  (fn g).ex (at_ (p1 k x e)) i=(fn g).ex (at_ x) i+k*((if e.dst=i then 1 else 0)-(if e.src=i then 1 else 0)):=by
 unfold FN.ex
 have e1:S (fn g).m (fun j=>(if(fn g).dst j=i then at_ (p1 k x e) j else 0)-(if(fn g).src j=i then at_ (p1 k x e) j else 0))
   =S (fn g).m (fun j=>((if(fn g).dst j=i then at_ x j else 0)-(if(fn g).src j=i then at_ x j else 0))+(if e.arc=j then(if(fn g).dst j=i then sg e k else 0)-(if(fn g).src j=i then sg e k else 0) else 0)):=by
  apply S_congr;intro j hj;unfold p1;rw[DW (by rw[hx];exact he)];by_cases q:e.arc=j
  ·subst q;simp only[if_pos];split<;>split<;>omega
  ·simp only[if_neg q];omega
 rw[e1,S_add,S_ite (n:=(fn g).m) (fun j=>(if(fn g).dst j=i then sg e k else 0)-(if(fn g).src j=i then sg e k else 0)) he]
 have e2:(if(fn g).dst e.arc=i then sg e k else 0)-(if(fn g).src e.arc=i then sg e k else 0)=k*((if e.dst=i then 1 else 0)-(if e.src=i then 1 else 0)):=by
  show(if(arc g e.arc).dst=i then sg e k else 0)-(if(arc g e.arc).src=i then sg e k else 0)=_;rcases hd with⟨a,b,c1⟩|⟨a,b,c1⟩
  ·have s1:sg e k=k:=by unfold sg;rw[a];rfl
   rw[b,c1,s1,Int.mul_sub];by_cases u:(arc g e.arc).dst=i<;>by_cases v:(arc g e.arc).src=i<;>simp[u,v]
  ·have s1:sg e k= -k:=by unfold sg;rw[a];rfl
   rw[b,c1,s1,Int.mul_sub];by_cases u:(arc g e.arc).dst=i<;>by_cases v:(arc g e.arc).src=i<;>simp[u,v]
 omega
theorem WO {g:Net} {x:List Int} {w:List Rest} (k:Int) (hx:x.length=g.arcs.length)
  (hw: ∀e∈w,e.arc<g.arcs.length/\((e.back=false/\e.src=(arc g e.arc).src/\e.dst=(arc g e.arc).dst)∨(e.back=true/\e.src=(arc g e.arc).dst/\e.dst=(arc g e.arc).src))) (i:Nat):
  (fn g).ex (at_ (push x w k)) i=(fn g).ex (at_ x) i+k*gain w i:=by
 rw[Ca]
 induction w generalizing x with
 |nil=>simp[gain]
 |cons e w ih=>
  obtain⟨a,b⟩:=hw e List.mem_cons_self;rw[List.foldl_cons,ih (by rw[p1_len,hx]) (fun f hf=>hw f (List.mem_cons_of_mem _ hf)),J0G hx a b];have:gain (e::w) i=(if e.dst=i then 1 else 0)-(if e.src=i then 1 else 0)+gain w i:=rfl;rw[this,Int.mul_add];omega
theorem PR {α:Type} (l:List α) (f:α->Int): ∃M:Int,∀e∈l,f e<=M:=by
 induction l with
 |nil=>exact⟨0,fun e he=>by cases he⟩
 |cons a l ih=>
  obtain⟨M,h⟩:=ih;refine⟨max M (f a),fun e he=>?_⟩;rcases List.mem_cons.mp he with q|q
  ·subst q;omega
  ·have:=h e q;omega
end FM
namespace FM
open VbcsFlow
structure St (g:Net) (x:List Int):Prop where
 len:x.length=g.arcs.length
 inb:(fn g).Inb (at_ x)
 pot: ∃c,(fn g).Pot (pr g) (at_ x) c
theorem A1 (g:Net) (x:List Int):reachFrom g x=relaxed (rests g x) g.n (JI g.n (fun i=>decide (0<balance g x i))):=by
 unfold reachFrom JI
 congr 1
 apply List.map_congr_left;intro i _;by_cases h:0<balance g x i<;>simp[h]
structure Rd (g:Net) (x:List Int) (r:Reach) (st:Nat->Prop) (c:Nat->Int):Prop where
 ok:Ok g.n (rests g x) c
 inv: ∃low t T,Inv g.n (rests g x) st c low r t T
 stab:Stable (rests g x) r
theorem SY {g:Net} (w:Wf g) {x:List Int} {c:Nat->Int} (p:(fn g).Pot (pr g) (at_ x) c) (b:Nat->Bool):
  Rd g x (relaxed (rests g x) g.n (JI g.n b)) (fun i=>i<g.n/\b i=true) c:=by
 have ok:=Xv w p;obtain⟨low,I⟩:=K5 (n:=g.n) (rs:=rests g x) (c:=c) b;obtain⟨⟨t,T,J⟩,st⟩:=Pt ok I;exact⟨ok,⟨low,t,T,J⟩,st⟩
theorem Rd.src {g:Net} {x:List Int} {r:Reach} {st:Nat->Prop} {c:Nat->Int} (_:Rd g x r st c) {i:Nat} (h:(reachAt r i).isSome=true): ∃u,reachAt r i=some u:=by
 cases w:reachAt r i with
 |none=>rw[w] at h;cases h
 |some u=>exact⟨u,rfl⟩
theorem Rd.pot {g:Net} {x:List Int} {r:Reach} {st:Nat->Prop} {c:Nat->Int} (R:Rd g x r st c):
  ∃c':Nat->Int,(∀i u,reachAt r i=some u->c' i=u.1)/\ ∀e∈rests g x,c' e.dst<=c' e.src+e.price:=by
 obtain⟨M,hM⟩:=PR (rests g x) (fun e=>((reachAt r e.dst).map (fun u=>u.1)).getD 0-c e.src-e.price);refine⟨fun i=>(match reachAt r i with|some u=>u.1|none=>c i+M:Int),?_,?_⟩
 ·intro i u h;dsimp only;rw[h]
 ·intro e he;dsimp only;have q:=R.ok.pot e he;have m:=hM e he;cases a:reachAt r e.src with
  |some u=>
   obtain⟨o,ho,l⟩:=R.stab e he u a;rw[ho];exact l
  |none=>
   cases b:reachAt r e.dst with
   |some v=>rw[b] at m;dsimp only at m ⊢;simp at m;omega
   |none=>dsimp only;omega
theorem J00 {g:Net} {x:List Int} {c:Nat->Int} (h: ∀e∈rests g x,c e.dst<=c e.src+e.price):(fn g).Pot (pr g) (at_ x) c:=by
 intro j hj;refine⟨fun a=>h _ (Mh hj a),fun a=>?_⟩;have:=h _ (MI hj a);show c (arc g j).src<=c (arc g j).dst-pr g j;unfold pr;dsimp only at this;omega
structure Sends (g:Net) (x:List Int) (i s:Nat) (w:List Rest):Prop where
 mem: ∀e∈w,e∈rests g x
 arcs:w.Pairwise (fun f e=>f.arc≠e.arc)
 ne:w≠[]
 gain: ∀j,gain w j=(if i=j then 1 else 0)-(if s=j then 1 else 0)
 keep: ∀k:Int,0<k->(∀e∈w,k<=e.room)->St g (push x w k)
theorem XA {g:Net} (wf:Wf g) {x:List Int} (S0:St g x) {r:Reach} {st:Nat->Prop} {c:Nat->Int} (R:Rd g x r st c) {i:Nat} (hi:(reachAt r i).isSome=true) (hs: ¬st i):
  ∃w s,Sends g x i s w/\st s/\Way r i w s/\w.length<=g.n:=by
 obtain⟨low,t,T,I⟩:=R.inv;obtain⟨w,s,W⟩:=I.way hi;obtain⟨f1,f2,f3⟩:=W.facts I R.stab
 have pw:w.Pairwise (fun f e=>f.arc≠e.arc):=by
  have mem: ∀e∈w,e∈rests g x:=fun e he=>(f1 e he).1;refine(List.Pairwise.imp_of_mem ?_ f2);intro f e hf he ⟨h1,h2⟩ q;obtain⟨_,a⟩:=Zx (mem f hf);obtain⟨_,b⟩:=Zx (mem e he);have n1:=h1.ne;have n2:=h2.ne;rw[q] at a;rcases a with⟨_,a1,a2,_⟩|⟨_,a1,a2,_⟩<;>rcases b with⟨_,b1,b2,_⟩|⟨_,b1,b2,_⟩<;>rw[a1,b2] at n1<;>rw[a2,b2] at n2<;>first|exact n1 rfl|exact n2 rfl
 refine⟨w,s,⟨fun e he=>(f1 e he).1,pw,?_,fun j=>W.gain I j,?_⟩,f3,W,W.short I R.stab R.ok⟩
 ·intro q;have:=W.head;rw[q] at this;have this':i=s:=this;rw[this'] at hs;exact hs f3
 ·intro k kp room;obtain⟨c',hc1,hc2⟩:=R.pot;have P:=J00 hc2;refine⟨by rw[GD];exact S0.len,fun j hj=>?_,c',fun j hj=>?_⟩
  ·by_cases q: ∃e∈w,e.arc=j
   ·obtain⟨e,he,rfl⟩:=q;rw[PJ pw he (by rw[S0.len];exact hj)];have b:=S0.inb e.arc hj;have rm:=room e he;obtain⟨_,d⟩:=Zx (f1 e he).1;unfold sg;show(arc g e.arc).least<=_/\_<=(arc g e.arc).most;have b1:(arc g e.arc).least<=at_ x e.arc/\at_ x e.arc<=(arc g e.arc).most:=b
    rcases d with⟨d1,_,_,_,_,d2⟩|⟨d1,_,_,_,_,d2⟩
    ·rw[d1,if_neg (by decide)];omega
    ·rw[d1,if_pos rfl];omega
   ·rw[Az (fun e he z=>q ⟨e,he,z⟩)];exact S0.inb j hj
  ·by_cases q: ∃e∈w,e.arc=j
   ·obtain⟨e,he,rfl⟩:=q;obtain⟨_,_,_,u,v,hu,hv,tight⟩:=f1 e he;have e1:=hc1 _ _ hu;have e2:=hc1 _ _ hv;obtain⟨_,d⟩:=Zx (f1 e he).1;show(_->c' (arc g e.arc).dst<=c' (arc g e.arc).src+pr g e.arc)/\(_->c' (arc g e.arc).src<=c' (arc g e.arc).dst-pr g e.arc);rcases d with⟨_,d1,d2,d3,_⟩|⟨_,d1,d2,d3,_⟩
    ·rw[<-d1,<-d2,e1,e2];exact⟨fun _=>by omega,fun _=>by omega⟩
    ·rw[<-d1,<-d2,e1,e2];exact⟨fun _=>by omega,fun _=>by omega⟩
   ·rw[Az (fun e he z=>q ⟨e,he,z⟩)];exact P j hj
def A (g:Net) (x:List Int):Int:=S g.n (fun i=>((balance g x i).natAbs:Int))
theorem A_step {g:Net} {x:List Int} (S0:St g x) {i s:Nat} {w:List Rest} (Z:Sends g x i s w) (hi:i<g.n) (hs:s<g.n) {k:Int} (kp:0<k) (k1:k<=balance g x s) (k2:k<= -balance g x i):
  A g (push x w k)+2*k=A g x:=by
 have ne:s≠i:=fun q=>by subst q;omega
 unfold A
 have e:S g.n (fun i=>((balance g x i).natAbs:Int))=S g.n (fun j=>(((balance g (push x w k) j).natAbs:Int)+(if i=j then k else 0))+(if s=j then k else 0)):=by
  apply S_congr;intro j _
  have b:balance g (push x w k) j=balance g x j+k*((if i=j then 1 else 0)-(if s=j then 1 else 0)):=by
   rw[U7,U7,WO k S0.len (fun e he=>?_),Z.gain];obtain⟨h1,h2⟩:=Zx (Z.mem e he);exact⟨h1,h2.imp (fun z=>⟨z.1,z.2.1,z.2.2.1⟩) (fun z=>⟨z.1,z.2.1,z.2.2.1⟩)⟩
  rw[b];by_cases u:i=j
  ·subst u;rw[if_pos rfl,if_neg ne,if_pos rfl,if_neg ne];omega
  ·by_cases v:s=j
   ·subst v;rw[if_neg u,if_pos rfl,if_neg u,if_pos rfl];omega
   ·rw[if_neg u,if_neg v,if_neg u,if_neg v];omega
 rw[e,S_add,S_add,S_ite (fun _=>k) hi,S_ite (fun _=>k) hs];omega
theorem Wp {α:Type} (f:α->Int) (l:List α) (k:Int):let z:=l.foldl (fun(k:Int) e=>min k (f e)) k
  z<=k/\(∀e∈l,z<=f e)/\(0<k->(∀e∈l,0<f e)->0<z):=by
 induction l generalizing k with
 |nil=>exact⟨Int.le_refl _,(fun e he=>by cases he),fun h _=>h⟩
 |cons a l ih=>
  dsimp only at ih ⊢;rw[List.foldl_cons];obtain⟨h1,h2,h3⟩:=ih (min k (f a));refine⟨by omega,fun e he=>?_,fun hk h=>?_⟩
  ·rcases List.mem_cons.mp he with q|q
   ·subst q;omega
   ·exact h2 e q
  ·exact h3 (by have:=h a List.mem_cons_self;omega) (fun e he=>h e (List.mem_cons_of_mem _ he))
theorem RD {g:Net} {x:List Int} {e:Rest} (h:e∈rests g x):0<e.room:=by
 obtain⟨_,d⟩:=Zx h;rcases d with⟨_,_,_,_,a,b⟩|⟨_,_,_,_,a,b⟩<;>omega
theorem VT {α:Type} (F:Option α->α->Option α) (hF: ∀b i,F b i=some i∨(F b i=b/\b≠none)): ∀(l:List α) (b:Option α),
  (l.foldl F b=none->b=none/\l=[])/\ ∀i,l.foldl F b=some i->b=some i∨i∈l:=by
 intro l
 induction l with
 |nil=>intro b;exact⟨fun h=>⟨h,rfl⟩,fun i h=>Or.inl h⟩
 |cons a l ih=>
  intro b;rw[List.foldl_cons];obtain⟨h1,h2⟩:=ih (F b a);refine⟨fun h=>?_,fun i h=>?_⟩
  ·obtain⟨z,_⟩:=h1 h;rcases hF b a with q|⟨q,r⟩
   ·rw[q] at z;cases z
   ·rw[q] at z;exact absurd z r
  ·rcases h2 i h with q|q
   ·rcases hF b a with u|⟨u,_⟩
    ·rw[u] at q;cases q;exact Or.inr List.mem_cons_self
    ·rw[u] at q;exact Or.inl q
   ·exact Or.inr (List.mem_cons_of_mem _ q)
theorem Gb (g:Net) (x:List Int) (r:Reach):
  (target g x r=none-> ∀i,i<g.n->balance g x i<0->(reachAt r i).isSome=false)/\
  (∀i,target g x r=some i->i<g.n/\balance g x i<0/\(reachAt r i).isSome=true):=by
 unfold target
 have F:=VT (α:=Nat) (fun(b:Option Nat) i=>match b with
  |none=>some i
  |some j=>if((reachAt r i).map fun d=>d.1).getD 0<((reachAt r j).map fun d=>d.1).getD 0 then some i else some j) (by
   intro b i;cases b with
   |none=>exact Or.inl rfl
   |some j=>
    dsimp only;split
    ·exact Or.inl rfl
    ·exact Or.inr ⟨rfl,by simp⟩) ((List.range g.n).filter fun i=>decide (balance g x i<0)&&(reachAt r i).isSome) none
 refine⟨fun h i hi hb=>?_,fun i h=>?_⟩
 ·have e:=(F.1 h).2;rw[List.filter_eq_nil_iff] at e;have:=e i (List.mem_range.mpr hi)
  simpa [hb] using this
 ·rcases F.2 i h with q|q
  ·cases q
  ·rw[List.mem_filter,List.mem_range] at q;obtain⟨a,b⟩:=q;rw[Bool.and_eq_true,decide_eq_true_eq] at b;exact⟨a,b.1,b.2⟩
theorem Cq {g:Net} (wf:Wf g) {x:List Int} (s:St g x): ∃c,Rd g x (reachFrom g x) (fun i=>i<g.n/\decide (0<balance g x i)=true) c:=by
 obtain⟨c,p⟩:=s.pot;exact⟨c,by rw[A1];exact SY wf p _⟩
theorem Wc {g:Net} (wf:Wf g): ∀(f:Nat) (x:List Int),St g x->A g x<f->St g (sent g f x)/\target g (sent g f x) (reachFrom g (sent g f x))=none:=by
 intro f
 induction f with
 |zero=>
  intro x _ h;have:0<=A g x:=S_nonneg (fun i _=>by omega);omega
 |succ f ih=>
  intro x s h;unfold sent;dsimp only;cases q:target g x (reachFrom g x) with
  |none=>exact⟨s,q⟩
  |some i=>
   dsimp only;obtain⟨hi,hb,hr⟩:=(Gb g x (reachFrom g x)).2 i q;obtain⟨c,R⟩:=Cq wf s;obtain⟨w,s0,Z,hs,W,hl⟩:=XA wf s R hr (fun z=>by have:=of_decide_eq_true z.2;omega);have hbk:backFrom (reachFrom g x) (g.n+1) i []=w:=by rw[W.back (g.n+1) [] (by omega),List.append_nil]
   rw[hbk,W.head];have pos:=of_decide_eq_true hs.2;obtain⟨k1,k2,k3⟩:=Wp (fun e:Rest=>e.room) w (min (balance g x s0) (-(balance g x i)));have kp:=k3 (by omega) (fun e he=>RD (Z.mem e he));rw[if_neg (by omega)];have:=A_step s Z hi hs.1 kp (by omega) (by omega);exact ih _ (Z.keep _ kp k2) (by omega)
theorem Wm {g:Net} (wf:Wf g) {y:List Int} (s:St g y) {r:Reach} {c:Nat->Int} (R:Rd g y r (fun i=>i<g.n/\decide (0<balance g y i)=true) c)
  (h: ∀i,i<g.n->balance g y i<0->(reachAt r i).isSome=false):
  (∀i,i<g.n->(fn g).ex (at_ y) i=0)∨((∃i,i<g.n/\0<(fn g).ex (at_ y) i)/\(fn g).Stuck (at_ y) (fun i=>(reachAt r i).isSome)):=by
 have tot:S g.n ((fn g).ex (at_ y))=0:=by
  have:=(fn g).ex_sum wf.Ends (at_ y);have z:=wf.zero;exact this.trans z
 by_cases q: ∃i,i<g.n/\0<(fn g).ex (at_ y) i
 ·refine Or.inr ⟨q,s.inb,?_,?_,?_,?_⟩
  ·intro i hi p;obtain⟨low,t,T,I⟩:=R.inv;exact I.kept i ⟨hi,decide_eq_true (by rw[U7];exact p)⟩
  ·intro i hi p;by_cases z:0<=(fn g).ex (at_ y) i
   ·exact z
   ·have:=h i hi (by rw[U7];omega);rw[this] at p;cases p
  ·intro j hj;refine⟨fun a b=>?_,fun a b=>?_⟩
   ·obtain⟨u,hu⟩:=R.src b;obtain⟨o,ho,_⟩:=R.stab _ (Mh hj a) u hu;dsimp only at ho;show(reachAt r (arc g j).dst).isSome=true;rw[ho];rfl
   ·obtain⟨u,hu⟩:=R.src b;obtain⟨o,ho,_⟩:=R.stab _ (MI hj a) u hu;dsimp only at ho;show(reachAt r (arc g j).src).isSome=true;rw[ho];rfl
  ·intro X cl ps i hi p;obtain⟨low,t,T,I⟩:=R.inv;refine I.within (fun i=>X i=true) (fun i hi=>ps i hi.1 (by rw[<-U7];exact of_decide_eq_true hi.2)) (fun e he a=>?_) i p;obtain⟨h1,h2⟩:=Zx he;obtain⟨c1,c2⟩:=cl e.arc h1;rcases h2 with⟨_,d1,d2,_,d4,_⟩|⟨_,d1,d2,_,d4,_⟩
   ·rw[d2];exact c1 d4 (by rw[d1] at a;exact a)
   ·rw[d2];exact c2 d4 (by rw[d1] at a;exact a)
 ·left
  have nn: ∀i,i<g.n->0<= -(fn g).ex (at_ y) i:=fun i hi=>by
   by_cases z:0<(fn g).ex (at_ y) i
   ·exact absurd ⟨i,hi,z⟩ q
   ·omega
  have sn:S g.n (fun i=> -(fn g).ex (at_ y) i)=0:=by
   rw[show S g.n (fun i=> -(fn g).ex (at_ y) i)=S g.n (fun i=>(-1)*(fn g).ex (at_ y) i) from S_congr (fun i _=>by omega),S_mul,tot];rfl
  intro i hi;have:=S_eq_zero nn sn i hi;omega
theorem VM (g:Net) (f:Arc->Int) {j:Nat} (h:j<g.arcs.length):at_ (g.arcs.map f) j=f (arc g j):=by
 unfold at_
 rw[List.getD_eq_getElem?_getD,List.getElem?_map,Ib h];rfl
theorem Rr {g:Net} (wf:Wf g):St g (begun g):=by
 have b: ∀j,j<g.arcs.length->at_ (begun g) j=if(arc g j).price<0 then(arc g j).most else(arc g j).least:=fun j hj=>VM g _ hj
 refine⟨by simp[begun],fun j hj=>?_,fun _=>0,fun j hj=>?_⟩
 ·have w:=wf.bnd j hj;rw[b j hj];show(arc g j).least<=_/\_<=(arc g j).most;split<;>omega
 ·have w:=wf.bnd j hj;rw[b j hj];unfold pr;show(_<(arc g j).most->_)/\((arc g j).least<_->_);split<;>exact⟨fun _=>by dsimp only;omega,fun _=>by dsimp only;omega⟩
theorem En (f:Nat->Nat) (n:Nat):((((List.range n).map f).sum:Nat):Int)=S n (fun i=>(f i:Int)):=by
 induction n with
 |zero=>rfl
 |succ n ih=>
  rw[List.range_succ,List.map_append,List.sum_append];simp only[S,<-ih];simp
theorem XL (g:Net):A g (begun g)<(fuel g:Int):=by
 unfold fuel A;have:=En (fun i=>(balance g (begun g) i).natAbs) g.n;omega
theorem Mu {g:Net} (wf:Wf g): ∃y,sent g (fuel g) (begun g)=y/\St g y/\(∃c,Rd g y (reachFrom g y) (fun i=>i<g.n/\decide (0<balance g y i)=true) c)/\
  ((∀i,i<g.n->(fn g).ex (at_ y) i=0)∨((∃i,i<g.n/\0<(fn g).ex (at_ y) i)/\(fn g).Stuck (at_ y) (fun i=>(reachAt (reachFrom g y) i).isSome))):=by
 obtain⟨a,b⟩:=Wc wf (fuel g) (begun g) (Rr wf) (XL g);obtain⟨c,R⟩:=Cq wf a;exact⟨_,rfl,a,⟨c,R⟩,Wm wf a R ((Gb g _ _).1 b)⟩
end FM
namespace FM
open VbcsFlow
def priced (g:Net) (q:Nat->Int):Net:={g with arcs:=g.arcs.zipIdx.map fun a=>{a.1 with price:=q a.2}}
theorem Cr (g:Net) (q:Nat->Int) (j:Nat):arc (priced g q) j=if j<g.arcs.length then{arc g j with price:=q j} else⟨0,0,0,0,0⟩:=by
 unfold arc priced;dsimp only;by_cases h:j<g.arcs.length
 ·rw[if_pos h,List.getD_eq_getElem?_getD,List.getElem?_map,List.getElem?_zipIdx,List.getElem?_eq_getElem h];rw[List.getD_eq_getElem?_getD,List.getElem?_eq_getElem h];simp
 ·rw[if_neg h,List.getD_eq_getElem?_getD,List.getElem?_eq_none (by simp;omega)];rfl
theorem X9 {g:Net} {j:Nat} (h: ¬j<g.arcs.length):arc g j=⟨0,0,0,0,0⟩:=by
 unfold arc;rw[List.getD_eq_getElem?_getD,List.getElem?_eq_none (by omega)];rfl
theorem U1 (g:Net) (q:Nat->Int) (j:Nat):(arc (priced g q) j).src=(arc g j).src/\(arc (priced g q) j).dst=(arc g j).dst/\(arc (priced g q) j).least=(arc g j).least/\(arc (priced g q) j).most=(arc g j).most:=by
 rw[Cr];by_cases h:j<g.arcs.length
 ·rw[if_pos h];exact⟨rfl,rfl,rfl,rfl⟩
 ·rw[if_neg h,X9 h];exact⟨rfl,rfl,rfl,rfl⟩
theorem JO (g:Net) (q:Nat->Int):(priced g q).arcs.length=g.arcs.length:=by simp[priced]
theorem Z9 (g:Net) (q:Nat->Int):fn (priced g q)=fn g:=by
 unfold fn;rw[JO];have h:=U1 g q
 congr 1
 ·funext j;exact(h j).1
 ·funext j;exact(h j).2.1
 ·funext j;exact(h j).2.2.1
 ·funext j;exact(h j).2.2.2
theorem OP (g:Net) (q:Nat->Int) {j:Nat} (h:j<g.arcs.length):pr (priced g q) j=q j:=by
 unfold pr;rw[Cr,if_pos h]
theorem Wf.priced {g:Net} (w:Wf g) (q:Nat->Int):Wf (FM.priced g q):=by
 refine⟨fun j hj=>?_,fun j hj=>?_,w.zero⟩
 ·rw[JO] at hj;obtain⟨a,b,_,_⟩:=U1 g q j;rw[a,b];exact w.ends j hj
 ·rw[JO] at hj;obtain⟨_,_,a,b⟩:=U1 g q j;rw[a,b];exact w.bnd j hj
theorem Z2 (g:Net) (q:Nat->Int) (x:List Int) (i:Nat):balance (priced g q) x i=balance g x i:=by
 rw[U7,U7,Z9]
theorem pot_priced {g:Net} {q:Nat->Int} {x:List Int} {c:Nat->Int}:(fn (priced g q)).Pot (pr (priced g q)) (at_ x) c↔(fn g).Pot q (at_ x) c:=by
 rw[Z9];constructor
 ·intro h j hj;have:=h j hj;rw[OP g q hj] at this;exact this
 ·intro h j hj;rw[OP g q hj];exact h j hj
def bb (g:Net):Int:=((widest g+1:Nat):Int)
theorem Co (g:Net):ordered g=priced g (fun j=>pr g j*bb g^(g.arcs.length+1)+bb g^(g.arcs.length-j)):=by
 unfold ordered priced bb;dsimp only
 congr 1
 apply List.map_congr_left;intro a ha;obtain⟨a,j⟩:=a;have h':=List.mem_zipIdx' ha
 have:arc g j=a:=by
  unfold arc;rw[List.getD_eq_getElem?_getD,List.getElem?_eq_getElem h'.1];exact h'.2.symm
 unfold pr;rw[this]
theorem Ty (g:Net) {a:Arc} (h:a∈g.arcs):a.most-a.least<=(widest g:Int):=by
 unfold widest
 have go: ∀(l:List Arc) (m:Nat),m<=l.foldl (fun m a=>max m (a.most-a.least).toNat) m/\ ∀a∈l,(a.most-a.least).toNat<=l.foldl (fun m a=>max m (a.most-a.least).toNat) m:=by
  intro l
  induction l with
  |nil=>intro m;exact⟨Nat.le_refl _,fun a ha=>by cases ha⟩
  |cons b l ih=>
   intro m;rw[List.foldl_cons];obtain⟨h1,h2⟩:=ih (max m (b.most-b.least).toNat);refine⟨by omega,fun a ha=>?_⟩;rcases List.mem_cons.mp ha with q|q
   ·subst q;omega
   ·exact h2 a q
 have:=(go g.arcs 0).2 a h;omega
theorem Xm {g:Net} {j:Nat} (h:j<g.arcs.length):arc g j∈g.arcs:=List.mem_of_getElem? (Ib h)
theorem J1i (b:Int) (k:Nat): ∀p,p<=k->S p (fun j=>b^(k-j)*(b-1))=b^(k+1)-b^(k-p+1):=by
 intro p
 induction p with
 |zero=>intro _;simp[S]
 |succ p ih=>
  intro hp;simp only[S];rw[ih (by omega),Int.mul_sub,Int.mul_one,<-Int.pow_succ,Nat.succ_eq_add_one,show k-(p+1)+1=k-p by omega];omega
theorem J0A (b:Int) (k i:Nat): ∀p,p<=k->i<p->S p (fun j=>if i<j then b^(k-j)*(b-1) else 0)=b^(k-i)-b^(k-p+1):=by
 intro p
 induction p with
 |zero=>intro _ h;omega
 |succ p ih=>
  intro hp hi;simp only[S];by_cases q:i<p
  ·rw[ih (by omega) q,if_pos q,Int.mul_sub,Int.mul_one,<-Int.pow_succ,Nat.succ_eq_add_one,show k-(p+1)+1=k-p by omega];omega
  ·have e:i=p:=by omega
   subst e;rw[if_neg (by omega),show k-(i+1)+1=k-i by omega];have:S i (fun j=>if i<j then b^(k-j)*(b-1) else 0)=S i (fun _=>0):=S_congr (fun j hj=>by rw[if_neg (by omega)]);rw[this,S_zero];omega
theorem J05 (g:Net):0<bb g:=by unfold bb;omega
theorem SG (g:Net):(fn g).SI (bb g^(g.arcs.length+1)) (fun j=>bb g^(g.arcs.length-j)):=by
 have bp:=J05 g;have pw: ∀k,0<bb g^k:=fun k=>Int.pow_pos bp
 have le: ∀j,j<g.arcs.length->(fn g).hi j-(fn g).lo j<=bb g-1:=fun j hj=>by
  have:=Ty g (Xm hj);show(arc g j).most-(arc g j).least<=_;unfold bb;omega
 refine⟨fun j _=>Int.le_of_lt (pw _),fun i hi=>?_,?_⟩
 ·have a:S (fn g).m (fun j=>if i<j then bb g^(g.arcs.length-j)*((fn g).hi j-(fn g).lo j) else 0)<=S (fn g).m (fun j=>if i<j then bb g^(g.arcs.length-j)*(bb g-1) else 0):=S_le (fun j hj=>by
   by_cases q:i<j
   ·rw[if_pos q,if_pos q];exact Int.mul_le_mul_of_nonneg_left (le j hj) (Int.le_of_lt (pw _))
   ·rw[if_neg q,if_neg q];exact Int.le_refl _)
  have b:=J0A (bb g) g.arcs.length i g.arcs.length (Nat.le_refl _) hi;have a':_<=S g.arcs.length (fun j=>if i<j then bb g^(g.arcs.length-j)*(bb g-1) else 0):=a;rw[b] at a';have:=pw (g.arcs.length-g.arcs.length+1);omega
 ·have a:S (fn g).m (fun j=>bb g^(g.arcs.length-j)*((fn g).hi j-(fn g).lo j))<=S (fn g).m (fun j=>bb g^(g.arcs.length-j)*(bb g-1)):=S_le (fun j hj=>
   Int.mul_le_mul_of_nonneg_left (le j hj) (Int.le_of_lt (pw _)))
  have b:=J1i (bb g) g.arcs.length g.arcs.length (Nat.le_refl _);have a':_<=S g.arcs.length (fun j=>bb g^(g.arcs.length-j)*(bb g-1)):=a;rw[b] at a';have:=pw (g.arcs.length-g.arcs.length+1);omega
structure Flow (g:Net) (x:List Int):Prop where
 len:x.length=g.arcs.length
 inb:(fn g).Inb (at_ x)
 bal: ∀i,i<g.n->(fn g).ex (at_ x) i=0
theorem BY (g:Net) (x:List Int):isFlow g x=true↔Flow g x:=by
 unfold isFlow;rw[Bool.and_eq_true,Bool.and_eq_true,beq_iff_eq,List.all_eq_true,List.all_eq_true];constructor
 ·rintro⟨a,b,c⟩;refine⟨a,fun j hj=>?_,fun i hi=>?_⟩
  ·have:=b (arc g j,at_ x j) (by
    unfold pairs;rw[List.mem_map];exact⟨(arc g j,j),by rw[List.mem_zipIdx_iff_getElem?];exact Ib hj,rfl⟩)
   rw[Bool.and_eq_true,decide_eq_true_eq,decide_eq_true_eq] at this;exact this
  ·have:=c i (List.mem_range.mpr hi);rw[beq_iff_eq,U7] at this;exact this
 ·rintro⟨a,b,c⟩;refine⟨a,fun p hp=>?_,fun i hi=>?_⟩
  ·unfold pairs at hp;rw[List.mem_map] at hp;obtain⟨⟨a,j⟩,h1,rfl⟩:=hp;have h':=List.mem_zipIdx' h1
   have e:arc g j=a:=by
    unfold arc;rw[List.getD_eq_getElem?_getD,List.getElem?_eq_getElem h'.1];exact h'.2.symm
   have:=b j h'.1;rw[Bool.and_eq_true,decide_eq_true_eq,decide_eq_true_eq];have q:(arc g j).least<=at_ x j/\at_ x j<=(arc g j).most:=this
   rw[e] at q;exact q
  ·rw[beq_iff_eq,U7];exact c i (List.mem_range.mp hi)
structure First (g:Net) (x:List Int):Prop where
 flow:Flow g x
 pot: ∃(B:Int) (D c:Nat->Int),(fn g).SI B D/\(fn g).Pot (fun j=>pr g j*B+D j) (at_ x) c
structure NoFlow (g:Net) (y:List Int) (R:Nat->Bool):Prop where
 stuck:(fn g).Stuck (at_ y) R
 more: ∃i,i<g.n/\0<(fn g).ex (at_ y) i
theorem Q8 {x y:List Int} {m:Nat} (a:x.length=m) (b:y.length=m) (h: ∀j,j<m->at_ x j=at_ y j):x=y:=by
 apply List.ext_getElem (by omega);intro j h1 h2;have:=h j (by omega);unfold at_ at this
 rw[List.getD_eq_getElem?_getD,List.getD_eq_getElem?_getD,List.getElem?_eq_getElem h1,List.getElem?_eq_getElem h2] at this;exact this
theorem First.uniq {g:Net} (wf:Wf g) {x y:List Int} (a:First g x) (b:First g y):x=y:=by
 obtain⟨f1,B,D,c,s1,p1⟩:=a;obtain⟨f2,B',D',c',s2,p2⟩:=b;exact Q8 f1.len f2.len ((fn g).uniq wf.Ends f1.inb f2.inb (fun i hi=>by rw[f1.bal i hi,f2.bal i hi]) s1 s2 p1 p2)
theorem Iw {g:Net} (wf:Wf g):(∃x,flowOf g=some x/\First g x)∨(flowOf g=none/\ ∃y R,NoFlow g y R):=by
 have ow:Wf (ordered g):=by rw[Co];exact wf.priced _
 obtain⟨y,hy,s,_,h⟩:=Mu ow;unfold flowOf;dsimp only;rw[hy];have fe:fn (ordered g)=fn g:=by rw[Co,Z9]
 have le:(ordered g).arcs.length=g.arcs.length:=by rw[Co,JO]
 have ne:(ordered g).n=g.n:=rfl;rw[fe,ne] at h;have inb:=s.inb;rw[fe] at inb;rcases h with h|⟨h1,h2⟩
 ·have F:Flow g y:=⟨by rw[s.len,le],inb,h⟩;left;rw[if_pos ((BY g y).mpr F)];refine⟨y,rfl,F,?_⟩;obtain⟨c,p⟩:=s.pot;rw[Co] at p;exact⟨_,_,c,SG g,pot_priced.mp p⟩
 ·right
  have no: ¬isFlow g y=true:=fun z=>by
   have F:=(BY g y).mp z;obtain⟨i,hi,p⟩:=h1;rw[F.bal i hi] at p;omega
  rw[if_neg no];exact⟨rfl,y,_,h2,h1⟩
theorem NoFlow.no {g:Net} (wf:Wf g) {y x:List Int} {R:Nat->Bool} (h:NoFlow g y R) (F:Flow g x):False:=
 FN.Stuck.no (fn g) wf.Ends h.stuck h.more F.inb F.bal
theorem QG {g:Net} (wf:Wf g) {x:List Int} (h:First g x):flowOf g=some x:=by
 rcases Iw wf with⟨y,a,b⟩|⟨_,y,R,b⟩
 ·rw[a,h.uniq wf b]
 ·exact(b.no wf h.flow).elim
theorem QO {g:Net} (wf:Wf g) {y:List Int} {R:Nat->Bool} (h:NoFlow g y R):flowOf g=none:=by
 rcases Iw wf with⟨x,_,b⟩|⟨a,_⟩
 ·exact(h.no wf b.flow).elim
 ·exact a
theorem Sj {g:Net} (wf:Wf g) {y:List Int} {R:Nat->Bool} (h:NoFlow g y R):noneSet g=(List.range g.n).filter R:=by
 obtain⟨z,hz,s,_,q⟩:=Mu wf;unfold noneSet;dsimp only;rw[hz];apply List.filter_congr;intro i hi;rw[List.mem_range] at hi;rcases q with q|⟨_,q2⟩
 ·exact(h.no wf ⟨s.len,s.inb,q⟩).elim
 ·exact FN.Stuck.same (fn g) wf.Ends q2 h.stuck i hi
theorem First.own {g:Net} (wf:Wf g) {x:List Int} (h:First g x): ∃c,(fn g).Pot (pr g) (at_ x) c:=by
 obtain⟨z,hz,s,_,q⟩:=Mu wf;obtain⟨f1,B,D,c,s1,p1⟩:=h;rcases q with q|⟨q1,q2⟩
 ·obtain⟨c0,p0⟩:=s.pot;exact⟨c0,(fn g).slack wf.Ends s.inb f1.inb (fun i hi=>by rw[q i hi,f1.bal i hi]) p0 ((fn g).least wf.Ends f1.inb s.inb (fun i hi=>by rw[f1.bal i hi];exact(q i hi).symm) s1 p1)⟩
 ·exact(NoFlow.no wf ⟨q2,q1⟩ f1).elim
theorem Rc {r:Reach} {e:Rest} (h: ∀d,reachAt r e.src=some d-> ∃o,reachAt r e.dst=some o/\o.1<=d.1+e.price):rstep r e=r:=by
 rcases Zj r e with⟨q,_⟩|⟨d,hd,lt,q⟩
 ·exact q
 ·obtain⟨o,ho,l⟩:=h d hd;have:=lt o ho;omega
theorem RO {r:Reach}: ∀(l:List Rest),Stable l r->l.foldl rstep r=r:=by
 intro l
 induction l with
 |nil=>intro _;rfl
 |cons e l ih=>
  intro h;rw[List.foldl_cons,Rc (h e List.mem_cons_self)];exact ih (fun f hf=>h f (List.mem_cons_of_mem _ hf))
theorem Ij {rs:List Rest} {r:Reach} (m:Nat) (h:Stable rs (it rs r m)): ∀j,m<=j->it rs r j=it rs r m:=by
 intro j
 induction j with
 |zero=>intro hj;rw[show m=0 by omega]
 |succ j ih=>
  intro hj;by_cases q:m=j+1
  ·rw[q]
  ·show relax rs (it rs r j)=_;rw[ih (by omega)];exact RO rs h
def Shows (n:Nat) (r:Reach) (c:List Int):Prop:=r.length=n/\c.length=n/\ ∀i,i<n-> ∃o,reachAt r i=some (at_ c i,o)
def VG (c:List Int) (e:Rest):List Int:=if at_ c e.src+e.price<at_ c e.dst then c.set e.dst (at_ c e.src+e.price) else c
theorem Shows.step {n:Nat} {r:Reach} {c:List Int} (h:Shows n r c) {e:Rest} (he:e.src<n/\e.dst<n):Shows n (rstep r e) (VG c e):=by
 obtain⟨h1,h2,h3⟩:=h;obtain⟨o1,a⟩:=h3 e.src he.1;obtain⟨o2,b⟩:=h3 e.dst he.2;unfold VG rstep;rw[a,b];dsimp only;by_cases q:at_ c e.src+e.price<at_ c e.dst
 ·rw[if_pos q,if_pos q];refine⟨by simp[h1],by simp[h2],fun i hi=>?_⟩;rw[Zr (by omega),DW (by omega)];by_cases z:i=e.dst
  ·rw[if_pos z,if_pos z.symm];exact⟨_,rfl⟩
  ·rw[if_neg z,if_neg (fun y=>z y.symm)];exact h3 i hi
 ·rw[if_neg q,if_neg q];exact⟨h1,h2,h3⟩
theorem Shows.round {n:Nat} {rs:List Rest} (he: ∀e∈rs,e.src<n/\e.dst<n) {r:Reach} {c:List Int} (h:Shows n r c):Shows n (relax rs r) (priceRound rs c):=by
 have go: ∀(l:List Rest) (r:Reach) (c:List Int),(∀e∈l,e.src<n/\e.dst<n)->Shows n r c->Shows n (l.foldl rstep r) (l.foldl VG c):=by
  intro l
  induction l with
  |nil=>intro r c _ h;exact h
  |cons e l ih=>
   intro r c hl h;rw[List.foldl_cons,List.foldl_cons];exact ih _ _ (fun f hf=>hl f (List.mem_cons_of_mem _ hf)) (h.step (hl e List.mem_cons_self))
 exact go rs r c he h
theorem Shows.rounds {n:Nat} {rs:List Rest} (he: ∀e∈rs,e.src<n/\e.dst<n): ∀(k:Nat) {r:Reach} {c:List Int},Shows n r c->Shows n (it rs r k) (priceRounds rs k c):=by
 have e: ∀(k:Nat) (c:List Int),priceRounds rs (k+1) c=priceRound rs (priceRounds rs k c):=by
  intro k
  induction k with
  |zero=>intro c;rfl
  |succ k ih=>intro c;show priceRounds rs (k+1) (priceRound rs c)=_;rw[ih];rfl
 intro k
 induction k with
 |zero=>intro r c h;exact h
 |succ k ih=>intro r c h;rw[e];exact(ih h).round he
theorem VY {n:Nat} {r:Reach} {c:List Int} (h:Shows n r c):costs r=c.map some:=by
 obtain⟨h1,h2,h3⟩:=h;apply List.ext_getElem?;intro i;unfold costs;rw[List.getElem?_map,List.getElem?_map];by_cases hi:i<n
 ·obtain⟨o,ho⟩:=h3 i hi;unfold reachAt at ho;rw[List.getD_eq_getElem?_getD] at ho;have l1:r[i]?=some (r[i]'(by rw[h1];exact hi)):=List.getElem?_eq_getElem _
  have l2:c[i]?=some (at_ c i):=by
   unfold at_
   rw[List.getD_eq_getElem?_getD,List.getElem?_eq_getElem (by omega)];rfl
  rw[l1] at ho ⊢;rw[l2];have ho':r[i]'(by rw[h1];exact hi)=some (at_ c i,o):=ho;rw[ho'];rfl
 ·rw[List.getElem?_eq_none (by rw[h1];omega),List.getElem?_eq_none (by omega)];rfl
theorem Vc {g:Net} (wf:Wf g) {x:List Int} {c:Nat->Int} (p:(fn g).Pot (pr g) (at_ x) c):
  costs (relaxed (rests g x) g.n (JI g.n (fun _=>true)))=(pricesOf g x).map some:=by
 have ok:=Xv wf p;obtain⟨low,I⟩:=K5 (n:=g.n) (rs:=rests g x) (c:=c) (fun _=>true);obtain⟨m,e,h⟩:=Nc ok I g.n 0 (by omega);have e':relaxed (rests g x) g.n (JI g.n (fun _=>true))=it (rests g x) (JI g.n (fun _=>true)) m:=e;have gd:=I.it ok m
 have stb:Stable (rests g x) (it (rests g x) (JI g.n (fun _=>true)) m):=IQ (fun e he=>by rw[gd.len];exact(ok.ends e he).2) (fun i hi=>by
  rw[gd.len] at hi;exact h i hi)
 have sh:Shows g.n (JI g.n (fun _=>true)) (List.replicate g.n 0):=⟨by simp[JI],by simp,fun i hi=>by
  rw[U5,if_pos ⟨hi,rfl⟩];unfold at_
  rw[List.getD_eq_getElem?_getD,List.getElem?_replicate,if_pos hi];exact⟨none,rfl⟩⟩
 have a:=VY (sh.rounds ok.ends (g.n+1))
 have b:costs (it (rests g x) (JI g.n (fun _=>true)) (g.n+1))=costs (it (rests g x) (JI g.n (fun _=>true)) m):=by
  by_cases q:m<=g.n+1
  ·rw[Ij m stb (g.n+1) q]
  ·
   have en:=VC ok I;have gn:=I.it ok g.n
   have stn:Stable (rests g x) (it (rests g x) (JI g.n (fun _=>true)) g.n):=IQ (fun e he=>by rw[gn.len];exact(ok.ends e he).2) (fun i hi=>by
    rw[gn.len] at hi;exact en i hi)
   rw[Ij g.n stn (g.n+1) (by omega),Ij g.n stn m (by omega)]
 rw[e',<-b,a];rfl
end FM
namespace FM
open VbcsFlow
def rq (g:Net) (q:Nat->Int) (x:List Int) (j:Nat):List Rest:=
 (if at_ x j<(arc g j).most then[⟨(arc g j).src,(arc g j).dst,(arc g j).most-at_ x j,q j,j,false⟩] else[])++
 (if(arc g j).least<at_ x j then[⟨(arc g j).dst,(arc g j).src,at_ x j-(arc g j).least,-q j,j,true⟩] else[])
def U9 (g:Net) (q:Nat->Int) (x:List Int) (k:Nat):List Rest:=(List.range k).flatMap (rq g q x)
theorem Ct (g:Net) (q:Nat->Int) (x:List Int) (k:Nat):U9 g q x (k+1)=U9 g q x k++rq g q x k:=by
 unfold U9;rw[List.range_succ,List.flatMap_append];simp
theorem A4 {α:Type} (l:List α) (d:α):l.zipIdx=(List.range l.length).map (fun j=>(l.getD j d,j)):=by
 apply List.ext_getElem (by simp);intro i a b;have h:i<l.length:=by simpa using a
 rw[List.getElem_zipIdx,List.getElem_map,List.getElem_range,List.getD_eq_getElem?_getD,List.getElem?_eq_getElem h];simp
theorem W5 (g:Net) (q:Nat->Int) (x:List Int):rests (priced g q) x=U9 g q x g.arcs.length:=by
 unfold rests U9;rw[A4 _ ⟨0,0,0,0,0⟩,List.flatMap_map,JO]
 have cong: ∀(l:List Nat) (f h:Nat->List Rest),(∀j∈l,f j=h j)->l.flatMap f=l.flatMap h:=by
  intro l f h
  induction l with
  |nil=>intro _;rfl
  |cons a l ih=>intro e;rw[List.flatMap_cons,List.flatMap_cons,e a List.mem_cons_self,ih (fun j hj=>e j (List.mem_cons_of_mem _ hj))]
 apply cong;intro j hj;rw[List.mem_range] at hj
 have e:(priced g q).arcs.getD j ⟨0,0,0,0,0⟩={arc g j with price:=q j}:=by
  have:=Cr g q j;rw[if_pos hj] at this;exact this
 dsimp only;rw[e];rfl
theorem J0h (g:Net) (q:Nat->Int) (x:List Int) (j:Nat):(rq g q x j).length<=2:=by
 unfold rq;rw[List.length_append];split<;>split<;>simp
theorem RR (g:Net) (q:Nat->Int) (x:List Int) (k:Nat):(U9 g q x k).length<=2*k:=by
 induction k with
 |zero=>simp[U9]
 |succ k ih=>
  rw[Ct,List.length_append];have:=J0h g q x k;omega
def Chg (n:Nat) (r s:Reach):Prop:= ∃v,v<n/\ ∃d',C s v=some d'/\ ∀d,C r v=some d->d'<d
theorem Chg.ne {n:Nat} {r s:Reach} (h:Chg n r s):costs s≠costs r:=fun e=>by
 obtain⟨v,_,d',h1,h2⟩:=h;rw[Te e v] at h1;have:=h2 d' h1;omega
theorem Chg.now {n:Nat} {r s:Reach} (mono: ∀i,Le (C s i) (C r i)) {e:Rest} (hn:e.dst<n) (hb:e.dst<s.length) {d:Int×Option Rest} (hd:reachAt s e.src=some d)
  (lt: ∀o,reachAt s e.dst=some o->d.1+e.price<o.1):Chg n r (s.set e.dst (some (d.1+e.price,some e))):=by
 refine⟨e.dst,hn,d.1+e.price,?_,fun y hy=>?_⟩
 ·unfold C;rw[Zr hb,if_pos rfl];rfl
 ·obtain⟨z,hz,l⟩:=mono e.dst y hy;obtain⟨o,ho,eo⟩:=C_some hz;have:=lt o ho;omega
theorem PX {rs:List Rest} {r:Reach} (k:Nat) (h:relax rs r=r):relaxed rs k r=r:=by
 cases k with
 |zero=>rfl
 |succ k=>unfold relaxed;dsimp only;rw[h,if_pos rfl]
theorem Sd {rs:List Rest} {r:Reach} (k:Nat) (h:costs (relax rs r)≠costs r):relaxed rs (k+1) r=relaxed rs k (relax rs r):=by
 rw[relaxed,if_neg h]
def ZX (g:Net):Nat->Int
 |0=>1
 |k+1=>ZX g k*((arc g (g.arcs.length-1-k)).most-(arc g (g.arcs.length-1-k)).least+1)
def ZL (g:Net) (j:Nat):Int:=ZX g (g.arcs.length-1-j)
theorem RU {g:Net} (wf:Wf g): ∀k,k<=g.arcs.length->0<ZX g k:=by
 intro k
 induction k with
 |zero=>intro _;exact Int.zero_lt_one
 |succ k ih=>
  intro hk;have:=wf.bnd (g.arcs.length-1-k) (by omega);exact Int.mul_pos (ih (by omega)) (by omega)
theorem RA (g:Net): ∀k,k<=g.arcs.length->S g.arcs.length (fun j=>if g.arcs.length-k<=j then ZL g j*((fn g).hi j-(fn g).lo j) else 0)=ZX g k-1:=by
 intro k
 induction k with
 |zero=>
  intro _;rw[show S g.arcs.length (fun j=>if g.arcs.length-0<=j then ZL g j*((fn g).hi j-(fn g).lo j) else 0)=S g.arcs.length (fun _=>0) from S_congr (fun j hj=>by rw[if_neg (by omega)]),S_zero];rfl
 |succ k ih=>
  intro hk
  have a:S g.arcs.length (fun j=>if g.arcs.length-(k+1)<=j then ZL g j*((fn g).hi j-(fn g).lo j) else 0)
    =S g.arcs.length (fun j=>(if g.arcs.length-k<=j then ZL g j*((fn g).hi j-(fn g).lo j) else 0)+(if g.arcs.length-1-k=j then ZL g j*((fn g).hi j-(fn g).lo j) else 0)):=by
   apply S_congr;intro j hj;by_cases u:g.arcs.length-k<=j
   ·rw[if_pos (by omega),if_pos u,if_neg (by omega)];omega
   ·by_cases v:g.arcs.length-1-k=j
    ·rw[if_pos (by omega),if_neg u,if_pos v];omega
    ·rw[if_neg (by omega),if_neg u,if_neg v];omega
  rw[a,S_add,ih (by omega),S_ite (fun j=>ZL g j*((fn g).hi j-(fn g).lo j)) (by omega)]
  have e:ZL g (g.arcs.length-1-k)=ZX g k:=by
   unfold ZL;rw[show g.arcs.length-1-(g.arcs.length-1-k)=k by omega]
  rw[e];show ZX g k-1+ZX g k*((arc g (g.arcs.length-1-k)).most-(arc g (g.arcs.length-1-k)).least)=ZX g k*((arc g (g.arcs.length-1-k)).most-(arc g (g.arcs.length-1-k)).least+1)-1;rw[Int.mul_add,Int.mul_one];omega
theorem V2 {g:Net} (wf:Wf g):(fn g).SI (ZX g g.arcs.length) (ZL g):=by
 refine⟨fun j hj=>Int.le_of_lt (RU wf _ (by omega)),fun i hi=>?_,?_⟩
 ·have hi':i<g.arcs.length:=hi;have a:=RA g (g.arcs.length-1-i) (by omega)
  have b:S (fn g).m (fun j=>if i<j then ZL g j*((fn g).hi j-(fn g).lo j) else 0)=S g.arcs.length (fun j=>if g.arcs.length-(g.arcs.length-1-i)<=j then ZL g j*((fn g).hi j-(fn g).lo j) else 0):=by
   apply S_congr;intro j hj;have hj':j<g.arcs.length:=hj;by_cases u:i<j
   ·rw[if_pos u,if_pos (by omega)]
   ·rw[if_neg u,if_neg (by omega)]
  rw[b,a];unfold ZL;omega
 ·have a:=RA g g.arcs.length (Nat.le_refl _)
  have b:S (fn g).m (fun j=>ZL g j*((fn g).hi j-(fn g).lo j))=S g.arcs.length (fun j=>if g.arcs.length-g.arcs.length<=j then ZL g j*((fn g).hi j-(fn g).lo j) else 0):=by
   apply S_congr;intro j hj;rw[if_pos (by omega)]
  rw[b,a];omega
def oq (g:Net) (j:Nat):Int:=pr g j*ZX g g.arcs.length+ZL g j
end FM
namespace FM
open VbcsFlow
theorem GM {n:Nat} {b c:Nat->Bool} (h: ∀i,i<n->b i=c i):JI n b=JI n c:=by
 unfold JI;apply List.map_congr_left;intro i hi;rw[h i (List.mem_range.mp hi)]
theorem TB {x:List Int} {v w:List Rest} (k:Int) (hv:v.Pairwise (fun f e=>f.arc≠e.arc)) (hw:w.Pairwise (fun f e=>f.arc≠e.arc)) (m: ∀e,e∈v↔e∈w) (hb: ∀e∈v,e.arc<x.length):push x v k=push x w k:=by
 refine Q8 (m:=x.length) (GD v k x) (GD w k x) (fun j hj=>?_);by_cases q: ∃e∈v,e.arc=j
 ·obtain⟨e,he,rfl⟩:=q;rw[PJ hv he hj,PJ hw ((m e).mp he) hj]
 ·rw[Az (fun e he z=>q ⟨e,he,z⟩),Az (fun e he z=>q ⟨e,(m e).mpr he,z⟩)]
theorem J0g {w:List Rest} (h:w.Pairwise (fun f e=>f.arc≠e.arc)):w.reverse.Pairwise (fun f e=>f.arc≠e.arc):=by
 rw[List.pairwise_reverse];exact h.imp (fun h=>h.symm)
theorem GS (g:Net) {q q':Nat->Int} (h: ∀j,j<g.arcs.length->q j=q' j):priced g q=priced g q':=by
 unfold priced
 congr 1
 apply List.map_congr_left;intro a ha;obtain⟨a,j⟩:=a;have h':=List.mem_zipIdx' ha;rw[h j h'.1]
def Term (g:Net) (x:List Int):Prop:= ∀i,i<g.n->balance g x i<0->(reachAt (reachFrom g x) i).isSome=false
theorem TR {g:Net} (wf:Wf g) {x:List Int} (s:St (priced g (oq g)) x) (t:Term (priced g (oq g)) x):
  (First g x/\ ∀i,i<g.n->balance g x i=0)∨((∃i,i<g.n/\0<balance g x i)/\NoFlow g x (fun i=>(reachAt (reachFrom (priced g (oq g)) x) i).isSome)):=by
 have wp:=wf.priced (oq g);obtain⟨c,R⟩:=Cq wp s;have h:=Wm wp s R t;rw[Z9] at h;have inb:=s.inb;rw[Z9] at inb;have len:=s.len;rw[JO] at len;rcases h with h|⟨⟨i,hi,hp⟩,h2⟩
 ·left;refine⟨⟨⟨len,inb,h⟩,?_⟩,fun i hi=>by rw[U7];exact h i hi⟩;obtain⟨c,p⟩:=s.pot;exact⟨_,_,c,V2 wf,pot_priced.mp p⟩
 ·right;exact⟨⟨i,hi,by rw[U7];exact hp⟩,h2,⟨i,hi,hp⟩⟩
theorem W1 {g:Net} (wf:Wf g) {x:List Int} (s:St (priced g (oq g)) x) (t:Term (priced g (oq g)) x) (more: ∃i,i<g.n/\0<balance g x i) (q:Nat->Int) (hq: ∀j,j<g.arcs.length->q j=0):
  noneSet g=(List.range g.n).filter (fun i=>(reachAt (reachFrom (priced g q) x) i).isSome):=by
 have wp:=wf.priced (oq g);have wq:=wf.priced q;have inb:=s.inb;rw[Z9] at inb;have len:=s.len;rw[JO] at len
 have sq:St (priced g q) x:=by
  refine⟨by rw[JO];exact len,by rw[Z9];exact inb,fun _=>0,?_⟩;rw[pot_priced];intro j hj;rw[hq j hj];exact⟨fun _=>Int.le_refl 0,fun _=>Int.le_refl 0⟩
 obtain⟨c,R⟩:=Cq wq sq;obtain⟨c0,R0⟩:=Cq wp s
 have sub: ∀i,(reachAt (reachFrom (priced g q) x) i).isSome=true->(reachAt (reachFrom (priced g (oq g)) x) i).isSome=true:=by
  obtain⟨low,tt,T,I⟩:=R.inv;obtain⟨low0,t0,T0,I0⟩:=R0.inv
  refine I.within (fun i=>(reachAt (reachFrom (priced g (oq g)) x) i).isSome=true) (fun i hi=>I0.kept i ⟨hi.1,by
   have:=hi.2;rw[Z2] at this ⊢;exact this⟩) (fun e he a=>?_)
  obtain⟨u,hu⟩:=R0.src a;obtain⟨h1,h2⟩:=Zx he;rw[JO] at h1;have hh1:e.arc<(priced g (oq g)).arcs.length:=by rw[JO];exact h1
  obtain⟨p1,p2,p3,p4⟩:=U1 g q e.arc;obtain⟨o1,o2,o3,o4⟩:=U1 g (oq g) e.arc;rcases h2 with⟨_,d1,d2,_,d4,_⟩|⟨_,d1,d2,_,d4,_⟩
  ·obtain⟨o,ho,_⟩:=R0.stab _ (Mh hh1 (by rw[o4,<-p4];exact d4)) u (by show reachAt _ (arc (priced g (oq g)) e.arc).src=_;rw[o1,<-p1,<-d1];exact hu);have ho':reachAt (reachFrom (priced g (oq g)) x) (arc (priced g (oq g)) e.arc).dst=some o:=ho;rw[o2,<-p2,<-d2] at ho';rw[ho'];rfl
  ·obtain⟨o,ho,_⟩:=R0.stab _ (MI hh1 (by rw[o3,<-p3];exact d4)) u (by show reachAt _ (arc (priced g (oq g)) e.arc).dst=_;rw[o2,<-p2,<-d1];exact hu);have ho':reachAt (reachFrom (priced g (oq g)) x) (arc (priced g (oq g)) e.arc).src=some o:=ho;rw[o1,<-p1,<-d2] at ho';rw[ho'];rfl
 have tq: ∀i,i<(priced g q).n->balance (priced g q) x i<0->(reachAt (reachFrom (priced g q) x) i).isSome=false:=fun i hi hb=>by
  cases w:(reachAt (reachFrom (priced g q) x) i).isSome with
  |false=>rfl
  |true=>
   have a:=sub i w;rw[Z2] at hb;have b:=t i hi (by rw[Z2];exact hb);rw[b] at a;cases a
 have h:=Wm wq sq R tq;rw[Z9] at h;obtain⟨i,hi,hp⟩:=more;rcases h with h|⟨_,h2⟩
 ·have:=h i hi;rw[U7] at hp;omega
 ·exact Sj wf ⟨h2,i,hi,by rw[U7] at hp;exact hp⟩
end FM
namespace TM
open Vbcsaf
structure Tree (l:List Nat):Prop where
 pos:1<=l.length
 root:l.getD 0 1=0
 up: ∀i,0<i->i<l.length->l.getD i 0<i
theorem Cm (l:List Nat):isTree l=true↔Tree l:=by
 unfold isTree;rw[Bool.and_eq_true,decide_eq_true_eq,List.all_eq_true];constructor
 ·rintro⟨a,b⟩;refine⟨a,?_,fun i h1 h2=>?_⟩
  ·have:=b 0 (List.mem_range.mpr a)
   simpa using this
  ·have:=b i (List.mem_range.mpr h2);rw[if_neg (by omega)] at this
   simpa using this
 ·rintro⟨a,b,c⟩;refine⟨a,fun i hi=>?_⟩;rw[List.mem_range] at hi;by_cases h:i=0
  ·subst h;rw[if_pos rfl];simp only[beq_iff_eq];exact b
  ·rw[if_neg h];exact decide_eq_true (c i (by omega) hi)
theorem mem_drop_one {l:List Nat} {i:Nat}:i∈l.drop 1↔ ∃j,0<j/\j<l.length/\l.getD j 0=i:=by
 constructor
 ·intro h;obtain⟨j,hj,e⟩:=List.mem_iff_getElem.mp h;rw[List.length_drop] at hj;rw[List.getElem_drop] at e;refine⟨1+j,by omega,by omega,?_⟩;rw[List.getD_eq_getElem?_getD,List.getElem?_eq_getElem (by omega)];exact e
 ·rintro⟨j,h1,h2,e⟩;rw[List.getD_eq_getElem?_getD,List.getElem?_eq_getElem h2] at e;refine List.mem_iff_getElem.mpr ⟨j-1,by rw[List.length_drop];omega,?_⟩;rw[List.getElem_drop];have e':l[j]=i:=e;rw[<-e']
  congr 1
  omega
theorem W8 (l:List Nat) (i:Nat):(children l i).isEmpty=!decide (i∈l.drop 1):=by
 by_cases h:i∈l.drop 1
 ·rw[decide_eq_true h];obtain⟨j,h1,h2,e⟩:=mem_drop_one.mp h
  have:j∈children l i:=by
   unfold children;rw[List.mem_filter,List.mem_range];refine⟨h2,?_⟩;rw[Bool.and_eq_true,bne_iff_ne,beq_iff_eq];exact⟨by omega,e⟩
  cases q:children l i with
  |nil=>rw[q] at this;cases this
  |cons a b=>rfl
 ·rw[decide_eq_false h]
  have:children l i=[]:=by
   unfold children;rw[List.filter_eq_nil_iff];intro j hj;rw[List.mem_range] at hj;rw[Bool.and_eq_true,bne_iff_ne,beq_iff_eq];rintro⟨h1,h2⟩;exact h (mem_drop_one.mpr ⟨j,by omega,hj,h2⟩)
  rw[this];rfl
theorem Bo (l:List Nat):leaves l=(List.range l.length).filter (fun i=>!decide (i∈l.drop 1)):=by
 unfold leaves;apply List.filter_congr;intro i _;exact W8 l i
theorem FG {l:List Nat} {i:Nat} (h:i∈leaves l):i<l.length:=by
 rw[Bo,List.mem_filter,List.mem_range] at h;exact h.1
theorem Sc {l:List Nat} (t:Tree l):0<(leaves l).length:=by
 have:l.length-1∈leaves l:=by
  rw[Bo,List.mem_filter,List.mem_range];refine⟨by have:=t.pos;omega,?_⟩;rw[Bool.not_eq_true',decide_eq_false_iff_not];intro h;obtain⟨j,h1,h2,e⟩:=mem_drop_one.mp h;have:=t.up j h1 h2;omega
 exact List.length_pos_of_mem this
theorem Yx (l:List Nat):(leaves l).length<=l.length:=by
 rw[Bo];exact Nat.le_trans (List.length_filter_le _ _) (by rw[List.length_range];exact Nat.le_refl _)
def Bk (l:List Nat) (k:Nat):Nat->Nat->Nat->Bool
 |0,i,j=>i==j
 |f+1,i,j=>i==j||(decide (k<i)&&Bk l k f (l.getD i 0) j)
theorem Bk_zero (l:List Nat): ∀f i j,beneath l f i j=Bk l 0 f i j:=by
 intro f
 induction f with
 |zero=>intro i j;rfl
 |succ f ih=>
  intro i j;unfold beneath Bk;rw[ih]
  congr 2
  by_cases h:i=0
  ·subst h;rfl
  ·have:decide (0<i)=true:=decide_eq_true (by omega);rw[this];exact bne_iff_ne.mpr h
theorem Bk_fuel {l:List Nat} (t:Tree l) (k:Nat): ∀f f' i j,i<l.length->i<=f->i<=f'->Bk l k f i j=Bk l k f' i j:=by
 intro f
 induction f with
 |zero=>
  intro f' i j hl h1 _;have:i=0:=by omega
  subst this;cases f' with
  |zero=>rfl
  |succ f'=>unfold Bk;simp
 |succ f ih=>
  intro f' i j hl h1 h2;cases f' with
  |zero=>
   have:i=0:=by omega
   subst this;unfold Bk;simp
  |succ f'=>
   unfold Bk;by_cases h:0<i
   ·have u:=t.up i h hl;rw[ih f' (l.getD i 0) j (by omega) (by omega) (by omega)]
   ·have:i=0:=by omega
    subst this;simp
def B (l:List Nat) (k i j:Nat):Bool:=Bk l k l.length i j
theorem B_step {l:List Nat} (t:Tree l) (k:Nat) {i:Nat} (h:i<l.length) (j:Nat):B l k i j=(i==j||(decide (k<i)&&B l k (l.getD i 0) j)):=by
 unfold B;by_cases h0:0<i
 ·have u:=t.up i h0 h;rw[Bk_fuel t k l.length (l.length-1+1) i j h (by omega) (by omega)];rw[Bk,Bk_fuel t k (l.length-1) l.length (l.getD i 0) j (by omega) (by omega) (by omega)]
 ·have:i=0:=by omega
  subst this;rw[Bk_fuel t k l.length 0 0 j h (by omega) (by omega)];unfold Bk;simp
theorem Wl (l:List Nat) (i j:Nat):isIn l i j=B l 0 i j:=Bk_zero l l.length i j
theorem B_top {l:List Nat} (t:Tree l) {i:Nat} (h:i<l.length) (j:Nat):B l (l.length-1) i j=(i==j):=by
 rw[B_step t _ h,decide_eq_false (by omega),Bool.false_and,Bool.or_false]
theorem B_less {l:List Nat} (t:Tree l) {k:Nat} (hk:0<k) (hl:k<l.length): ∀i j,i<l.length->B l (k-1) i j=(B l k i j||(B l k i k&&(l.getD k 0==j))):=by
 have uk:=t.up k hk hl;intro i
 induction i using Nat.strongRecOn with
 |_ i ih=>
  intro j h;rw[B_step t (k-1) h,B_step t k h j,B_step t k h k];by_cases q:k<i
  ·have u:=t.up i (by omega) h;rw[decide_eq_true (show k-1<i by omega),decide_eq_true q,Bool.true_and,Bool.true_and,Bool.true_and,ih _ u j (by omega)];have:(i==k)=false:=beq_eq_false_iff_ne.mpr (by omega);rw[this,Bool.false_or];cases(i==j)<;>cases(B l k (l.getD i 0) j)<;>rfl
  ·rw[decide_eq_false q,Bool.false_and,Bool.false_and,Bool.or_false,Bool.or_false];by_cases e:i=k
   ·subst e;rw[decide_eq_true (show i-1<i by omega),Bool.true_and,beq_self_eq_true,Bool.true_and]
    have:B l (i-1) (l.getD i 0) j=(l.getD i 0==j):=by
     rw[B_step t (i-1) (by omega),decide_eq_false (by omega),Bool.false_and,Bool.or_false]
    rw[this]
   ·rw[decide_eq_false (show¬k-1<i by omega),Bool.false_and,Bool.or_false,beq_eq_false_iff_ne.mpr e,Bool.false_and,Bool.or_false]
theorem B_apart {l:List Nat} (t:Tree l) {k:Nat} (hk:0<k) (hl:k<l.length): ∀i,i<l.length->B l k i k=true->B l k i (l.getD k 0)=false:=by
 have uk:=t.up k hk hl;intro i
 induction i using Nat.strongRecOn with
 |_ i ih=>
  intro h hb;rw[B_step t k h] at hb ⊢;by_cases q:k<i
  ·have u:=t.up i (by omega) h;have:(i==k)=false:=beq_eq_false_iff_ne.mpr (by omega);rw[this,decide_eq_true q,Bool.false_or,Bool.true_and] at hb;have e2:(i==l.getD k 0)=false:=beq_eq_false_iff_ne.mpr (by omega);rw[e2,decide_eq_true q,Bool.false_or,Bool.true_and];exact ih _ u (by omega) hb
  ·rw[decide_eq_false q,Bool.false_and,Bool.or_false] at hb ⊢;rw[beq_iff_eq] at hb;exact beq_eq_false_iff_ne.mpr (by omega)
def Bq (l:List Nat) (v:Nat->Int) (k i:Nat):Int:=FM.S (leaves l).length (fun j=>if B l k ((leaves l).getD j 0) i=true then v j else 0)
theorem LB {l:List Nat} {j:Nat} (h:j<(leaves l).length):(leaves l).getD j 0<l.length:=by
 apply FG;rw[List.getD_eq_getElem?_getD,List.getElem?_eq_getElem h];exact List.getElem_mem h
theorem V1 {l:List Nat} (t:Tree l) (v:Nat->Int) {k:Nat} (hk:0<k) (hl:k<l.length) (i:Nat):
  Bq l v (k-1) i=Bq l v k i+(if l.getD k 0=i then Bq l v k k else 0):=by
 unfold Bq
 have e:(if l.getD k 0=i then FM.S (leaves l).length (fun j=>if B l k ((leaves l).getD j 0) k=true then v j else 0) else 0)=FM.S (leaves l).length (fun j=>if l.getD k 0=i then(if B l k ((leaves l).getD j 0) k=true then v j else 0) else 0):=by
  by_cases h:l.getD k 0=i
  ·rw[if_pos h];apply FM.S_congr;intro j _;rw[if_pos h]
  ·rw[if_neg h,show FM.S (leaves l).length (fun j=>if l.getD k 0=i then(if B l k ((leaves l).getD j 0) k=true then v j else 0) else 0)=FM.S (leaves l).length (fun _=>0) from FM.S_congr (fun j _=>by rw[if_neg h]),FM.S_zero]
 rw[e,<-FM.S_add];apply FM.S_congr;intro j hj;have lt:=LB hj;rw[B_less t hk hl _ i lt];by_cases h:l.getD k 0=i
 ·rw[if_pos h];subst h;have ap:=B_apart t hk hl _ lt;cases a:B l k ((leaves l).getD j 0) k
  ·simp
  ·rw[ap a];simp
 ·rw[if_neg h];have:(l.getD k 0==i)=false:=beq_eq_false_iff_ne.mpr h;rw[this,Bool.and_false,Bool.or_false];simp
theorem WA {l:List Nat} (t:Tree l) (v:Nat->Int) (i:Nat):Bq l v (l.length-1) i=FM.S (leaves l).length (fun j=>if(leaves l).getD j 0=i then v j else 0):=by
 unfold Bq;apply FM.S_congr;intro j hj;rw[B_top t (LB hj)];by_cases h:(leaves l).getD j 0=i
 ·rw[if_pos h,if_pos (by rw[beq_iff_eq];exact h)]
 ·rw[if_neg h,if_neg (by rw[beq_iff_eq];exact h)]
end TM
namespace TM
open Vbcsaf
theorem sum_cons (a:Nat) (l:List Nat):Vbcsaf.sum (a::l)=a+Vbcsaf.sum l:=by
 have go: ∀(l:List Nat) (a:Nat),l.foldl (fun a b=>a+b) a=a+l.foldl (fun a b=>a+b) 0:=by
  intro l
  induction l with
  |nil=>intro a;simp
  |cons b l ih=>intro a;rw[List.foldl_cons,List.foldl_cons,ih,ih (0+b)];omega
 unfold Vbcsaf.sum;rw[List.foldl_cons,go];omega
theorem G9 {α:Type} (p:α×Nat->Bool) (f:α×Nat->Nat) (d:α): ∀(l:List α) (k:Nat),((Vbcsaf.sum (((l.zipIdx k).filter p).map f):Nat):Int)=FM.S l.length (fun j=>if p (l.getD j d,j+k)=true then(f (l.getD j d,j+k):Int) else 0):=by
 intro l
 induction l with
 |nil=>intro k;rfl
 |cons a l ih=>
  intro k;rw[List.zipIdx_cons,List.filter_cons,List.length_cons,FM.S_left]
  have e:FM.S l.length (fun j=>if p ((a::l).getD (j+1) d,j+1+k)=true then(f ((a::l).getD (j+1) d,j+1+k):Int) else 0)=FM.S l.length (fun j=>if p (l.getD j d,j+(k+1))=true then(f (l.getD j d,j+(k+1)):Int) else 0):=by
   apply FM.S_congr;intro j _;rw[List.getD_cons_succ,show j+1+k=j+(k+1) by omega]
  rw[e,<-ih (k+1)];have h0:((a::l).getD 0 d,0+k)=(a,k):=by simp
  rw[h0];by_cases h:p (a,k)=true
  ·rw[if_pos h,if_pos h,List.map_cons,sum_cons];omega
  ·rw[if_neg h,if_neg h];omega
theorem En (f:Nat->Nat): ∀n,((Vbcsaf.sum ((List.range n).map f):Nat):Int)=FM.S n (fun i=>(f i:Int)):=by
 intro n;have a:=G9 (fun _=>true) (fun x:Nat×Nat=>f x.2) 0 (List.range n) 0;rw[List.filter_eq_self.mpr (fun _ _=>rfl),List.length_range] at a
 have e1:(List.range n).zipIdx.map (fun x:Nat×Nat=>f x.2)=(List.range n).map f:=by
  rw[FM.A4 (List.range n) 0,List.map_map,List.length_range];rfl
 rw[e1] at a;rw[a];apply FM.S_congr;intro j hj;rw[if_pos rfl];rfl
def Nt (t:Table) (r:Nat):Int:=FM.S (leaves t.cols).length (fun c=>(cellAt t r c:Int))
def M8 (t:Table) (c:Nat):Int:=FM.S (leaves t.rows).length (fun r=>(cellAt t r c:Int))
theorem IB (t:Table) (i:Nat):(rowSum t i:Int)=Bq t.rows (Nt t) 0 i:=by
 unfold rowSum Bq;rw[G9 _ _ 0];apply FM.S_congr;intro j _;rw[Wl];show(if B t.rows 0 ((leaves t.rows).getD j 0) i=true then _ else _)=_
 congr 1
 rw[En];rfl
theorem P4 (t:Table) (i:Nat):(colSum t i:Int)=Bq t.cols (M8 t) 0 i:=by
 unfold colSum Bq;rw[G9 _ _ 0];apply FM.S_congr;intro j _;rw[Wl];show(if B t.cols 0 ((leaves t.cols).getD j 0) i=true then _ else _)=_
 congr 1
 rw[En];rfl
theorem V4 (a b:Nat):List.range (a+b)=List.range a++(List.range b).map (fun i=>a+i):=by
 induction b with
 |zero=>simp
 |succ b ih=>rw[<-Nat.add_assoc,List.range_succ,ih,List.range_succ,List.map_append,List.append_assoc];rfl
theorem J1n {α:Type} (F:Nat->α) (W:Nat): ∀R,(List.range R).flatMap (fun r=>(List.range W).map (fun c=>F (r*W+c)))=(List.range (R*W)).map F:=by
 intro R
 induction R with
 |zero=>simp
 |succ R ih=>
  rw[List.range_succ,List.flatMap_append,ih,Nat.succ_mul,V4,List.map_append,List.map_map];simp[Function.comp_def]
theorem Ua {α β:Type} {l:List α} {f h:α->List β} (e: ∀j∈l,f j=h j):l.flatMap f=l.flatMap h:=by
 induction l with
 |nil=>rfl
 |cons a l ih=>rw[List.flatMap_cons,List.flatMap_cons,e a List.mem_cons_self,ih (fun j hj=>e j (List.mem_cons_of_mem _ hj))]
theorem Ma {α:Type} (t:Table) (hl:t.cells.length=(leaves t.rows).length*(leaves t.cols).length) (f:Nat->α):
  (leaves t.rows).zipIdx.flatMap (fun r=>(leaves t.cols).zipIdx.map (fun c=>f (cellAt t r.2 c.2)))=t.cells.map f:=by
 have e1:(leaves t.rows).zipIdx.flatMap (fun r=>(leaves t.cols).zipIdx.map (fun c=>f (cellAt t r.2 c.2)))=(List.range (leaves t.rows).length).flatMap (fun r=>(List.range (leaves t.cols).length).map (fun c=>f (t.cells.getD (r*(leaves t.cols).length+c) 0))):=by
  rw[FM.A4 (leaves t.rows) 0,List.flatMap_map];apply Ua;intro r _;rw[FM.A4 (leaves t.cols) 0,List.map_map];rfl
 rw[e1,J1n (fun k=>f (t.cells.getD k 0)),<-hl];apply List.ext_getElem (by simp);intro i h1 h2;simp only[List.getElem_map,List.getElem_range];have:i<t.cells.length:=by simpa using h2
 rw[List.getD_eq_getElem?_getD,List.getElem?_eq_getElem this];rfl
structure TOk (t:Table):Prop where
 rows:Tree t.rows
 cols:Tree t.cols
 cells:t.cells.length=(leaves t.rows).length*(leaves t.cols).length
theorem TN (n:Nat) (h:1<=n) {α:Type} (f:Nat->α):(List.range n).map f=f 0::((List.range n).drop 1).map f:=by
 obtain⟨m,rfl⟩: ∃m,n=m+1:=⟨n-1,by omega⟩;rw[List.range_succ_eq_map];simp
theorem So {t:Table} (ok:TOk t):(told t).map (fun a=>(a.2.2.1:Int))=(List.range t.rows.length).map (fun i=>Bq t.rows (Nt t) 0 i)++t.cells.map (fun c:Nat=>(c:Int))++((List.range t.cols.length).drop 1).map (fun i=>Bq t.cols (M8 t) 0 i):=by
 unfold told;dsimp only;rw[List.map_append,List.map_append,List.map_append,List.map_map,List.map_map,List.map_flatMap]
 have e1:(leaves t.rows).zipIdx.flatMap (fun r=>((leaves t.cols).zipIdx.map (fun c=>(r.1,t.rows.length+c.1,cellAt t r.2 c.2,t.cellWeight))).map (fun a:Nat×Nat×Nat×Nat=>(a.2.2.1:Int)))=t.cells.map (fun c:Nat=>(c:Int)):=by
  rw[<-Ma t ok.cells (fun c:Nat=>(c:Int))];apply Ua;intro r _;rw[List.map_map];rfl
 rw[e1,TN _ ok.rows.pos]
 congr 1
 ·congr 1
  show[(rowSum t 0:Int)]++_=_;rw[IB,List.singleton_append]
  congr 1
  apply List.map_congr_left;intro i _;exact IB t i
 ·apply List.map_congr_left;intro i _;exact P4 t i
theorem Hh {t:Table} (ok:TOk t):(told t).map (fun a=>(a.2.2.2:Int))=List.replicate t.rows.length (t.sumWeight:Int)++List.replicate t.cells.length (t.cellWeight:Int)++List.replicate (t.cols.length-1) (t.sumWeight:Int):=by
 unfold told;dsimp only;rw[List.map_append,List.map_append,List.map_append,List.map_map,List.map_map,List.map_flatMap]
 have cst: ∀(l:List Nat) (f:Nat->Int) (z:Int),(∀i,f i=z)->l.map f=List.replicate l.length z:=by
  intro l f z h
  induction l with
  |nil=>rfl
  |cons a l ih=>rw[List.map_cons,ih,h a];rfl
 have e1:(leaves t.rows).zipIdx.flatMap (fun r=>((leaves t.cols).zipIdx.map (fun c=>(r.1,t.rows.length+c.1,cellAt t r.2 c.2,t.cellWeight))).map (fun a:Nat×Nat×Nat×Nat=>(a.2.2.2:Int)))=List.replicate t.cells.length (t.cellWeight:Int):=by
  have h1:=Ma t ok.cells (fun _=>(t.cellWeight:Int));rw[cst _ _ (t.cellWeight:Int) (fun _=>rfl)] at h1;rw[<-h1];apply Ua;intro r _;rw[List.map_map];rfl
 rw[e1,cst ((List.range t.rows.length).drop 1) ((fun a:Nat×Nat×Nat×Nat=>(a.2.2.2:Int))∘fun i=>(t.rows.getD i 0,i,rowSum t i,t.sumWeight)) (t.sumWeight:Int) (fun _=>rfl),
  cst ((List.range t.cols.length).drop 1) ((fun a:Nat×Nat×Nat×Nat=>(a.2.2.2:Int))∘fun j=>(t.rows.length+j,t.rows.length+t.cols.getD j 0,colSum t j,t.sumWeight)) (t.sumWeight:Int) (fun _=>rfl)]
 have p:=ok.rows.pos;rw[List.length_drop,List.length_range,List.length_drop,List.length_range]
 congr 2
 show(t.sumWeight:Int)::List.replicate (t.rows.length-1) _=_;rw[<-List.replicate_succ]
 congr 1
 omega
theorem Sh {α β:Type} (l:List α) (f:α->β):l.zipIdx.map (fun c=>f c.1)=l.map f:=by
 have:l.zipIdx.map (fun c=>f c.1)=(l.zipIdx.map (fun c=>c.1)).map f:=by rw[List.map_map];rfl
 rw[this,List.zipIdx_map_fst]
theorem Wd {α β:Type} (l:List α) (f:α->List β):l.zipIdx.flatMap (fun c=>f c.1)=l.flatMap f:=by
 have:l.zipIdx.flatMap (fun c=>f c.1)=(l.zipIdx.map (fun c=>c.1)).flatMap f:=by rw[List.flatMap_map]
 rw[this,List.zipIdx_map_fst]
theorem A6 (t:Table):(told t).map (fun a=>(a.1,a.2.1))=[(t.rows.length,0)]++((List.range t.rows.length).drop 1).map (fun i=>(t.rows.getD i 0,i))++
  (leaves t.rows).flatMap (fun a=>(leaves t.cols).map (fun c=>(a,t.rows.length+c)))++((List.range t.cols.length).drop 1).map (fun j=>(t.rows.length+j,t.rows.length+t.cols.getD j 0)):=by
 unfold told;dsimp only;rw[List.map_append,List.map_append,List.map_append,List.map_map,List.map_map,List.map_flatMap]
 congr 2
 rw[<-Wd (leaves t.rows) (fun a=>(leaves t.cols).map (fun c=>(a,t.rows.length+c)))];apply Ua;intro r _;rw[List.map_map,<-Sh (leaves t.cols) (fun c=>(r.1,t.rows.length+c))];rfl
theorem QA {t:Table} (ok:TOk t):(told t).length=t.rows.length+t.cells.length+(t.cols.length-1):=by
 have:=congrArg List.length (Hh ok);simp at this;omega
end TM
namespace TM
open Vbcsaf
open VbcsFlow (Net Arc)
def JC (t:Table) (j:Nat):Nat×Nat×Nat×Nat:=(told t).getD j (0,0,0,0)
theorem A5 (t:Table):(netOf t).arcs.length=(told t).length:=by simp[netOf]
theorem Er (t:Table) {j:Nat} (h:j<(told t).length):FM.arc (netOf t) j=arcOf t (JC t j,j):=by
 unfold FM.arc netOf;dsimp only;rw[List.getD_eq_getElem?_getD,List.getElem?_map,List.getElem?_zipIdx,List.getElem?_eq_getElem h];unfold JC;rw[List.getD_eq_getElem?_getD,List.getElem?_eq_getElem h];simp
theorem Au (t:Table) {j:Nat} (h:j<(told t).length):JC t j∈told t:=by
 unfold JC;rw[List.getD_eq_getElem?_getD,List.getElem?_eq_getElem h];exact List.getElem_mem h
theorem C4 (t:Table) {α:Type} (f:Nat×Nat×Nat×Nat->α) {j:Nat} (h:j<(told t).length):((told t).map f)[j]?=some (f (JC t j)):=by
 rw[List.getElem?_map,List.getElem?_eq_getElem h];unfold JC;rw[List.getD_eq_getElem?_getD,List.getElem?_eq_getElem h];rfl
structure Bd (t:Table):Prop where
 ok:TOk t
 base:1<=t.base/\t.base<=100
 rl:t.rows.length<=8
 cl:t.cols.length<=8
 cells: ∀c∈t.cells,c<=1000000
 cw:t.cellWeight<=9
 sw:t.sumWeight<=9
 kept: ∀k∈t.kept,0<=k.2/\k.2<=1000000
theorem II {t:Table} (b:Bd t) (r c:Nat):cellAt t r c<=1000000:=by
 unfold cellAt;rw[List.getD_eq_getElem?_getD];cases e:t.cells[r*(leaves t.cols).length+c]? with
 |none=>exact Nat.zero_le _
 |some z=>exact b.cells z (List.mem_of_getElem? e)
theorem S_bound {n:Nat} {f:Nat->Int} {M:Int} (h: ∀i,i<n->0<=f i/\f i<=M):0<=FM.S n f/\FM.S n f<=(n:Int)*M:=by
 induction n with
 |zero=>simp[FM.S]
 |succ n ih=>
  have a:=ih (fun i hi=>h i (by omega));have b:=h n (by omega);simp only[FM.S];have e:((n+1:Nat):Int)*M=(n:Int)*M+M:=by push_cast;rw[Int.add_mul,Int.one_mul]
  rw[e];omega
theorem MD {l:List Nat} (hl:l.length<=8) {v:Nat->Int} (h: ∀j,j<(leaves l).length->0<=v j/\v j<=8000000) (k i:Nat):0<=Bq l v k i/\Bq l v k i<=64000000:=by
 have a:=S_bound (n:=(leaves l).length) (f:=fun j=>if B l k ((leaves l).getD j 0) i=true then v j else 0) (M:=8000000) (fun j hj=>by
  have:=h j hj;split<;>omega)
 have b:(leaves l).length<=8:=Nat.le_trans (Yx l) hl;unfold Bq;omega
theorem Sw {t:Table} (b:Bd t) (r:Nat):0<=Nt t r/\Nt t r<=8000000:=by
 have a:=S_bound (n:=(leaves t.cols).length) (f:=fun c=>(cellAt t r c:Int)) (M:=1000000) (fun c _=>by
  have:=II b r c;omega)
 have l:(leaves t.cols).length<=8:=Nat.le_trans (Yx _) b.cl;unfold Nt;omega
theorem S2 {t:Table} (b:Bd t) (c:Nat):0<=M8 t c/\M8 t c<=8000000:=by
 have a:=S_bound (n:=(leaves t.rows).length) (f:=fun r=>(cellAt t r c:Int)) (M:=1000000) (fun r _=>by
  have:=II b r c;omega)
 have l:(leaves t.rows).length<=8:=Nat.le_trans (Yx _) b.rl;unfold M8;omega
theorem P5 {l:List Nat} (t:Tree l) {i:Nat} (h:i<l.length):l.getD i 0<l.length:=by
 by_cases h0:0<i
 ·have:=t.up i h0 h;omega
 ·have e:i=0:=by omega
  subst e;have r:=t.root;rw[List.getD_eq_getElem?_getD,List.getElem?_eq_getElem h] at r ⊢;have r':l[0]=0:=r;show l[0]<_;rw[r'];exact h
theorem Dj {n i:Nat} (h:i∈(List.range n).drop 1):i<n:=List.mem_range.mp (List.mem_of_mem_drop h)
theorem Am {t:Table} (b:Bd t): ∀a∈told t,a.1<t.rows.length+t.cols.length/\a.2.1<t.rows.length+t.cols.length/\a.2.2.1<=64000000/\a.2.2.2<=9:=by
 have rp:=b.ok.rows.pos;have cp:=b.ok.cols.pos
 have rs: ∀i,rowSum t i<=64000000:=fun i=>by
  have:=IB t i;have:=MD b.rl (v:=Nt t) (fun j _=>Sw b j) 0 i;omega
 have cs: ∀i,colSum t i<=64000000:=fun i=>by
  have:=P4 t i;have:=MD b.cl (v:=M8 t) (fun j _=>S2 b j) 0 i;omega
 have sw:=b.sw;have cw:=b.cw;intro a ha;unfold told at ha;dsimp only at ha;rcases List.mem_append.mp ha with ha|ha
 ·rcases List.mem_append.mp ha with ha|ha
  ·rcases List.mem_append.mp ha with ha|ha
   ·rw[List.mem_singleton] at ha;subst ha;exact⟨by dsimp only;omega,by dsimp only;omega,rs 0,sw⟩
   ·obtain⟨i,hi,rfl⟩:=List.mem_map.mp ha;have:=Dj hi;have u:=P5 b.ok.rows this;exact⟨by dsimp only;omega,by dsimp only;omega,rs i,sw⟩
  ·obtain⟨r,hr,ha⟩:=List.mem_flatMap.mp ha;obtain⟨c,hc,rfl⟩:=List.mem_map.mp ha;have h1:r.1<t.rows.length:=FG (List.fst_mem_of_mem_zipIdx hr);have h2:c.1<t.cols.length:=FG (List.fst_mem_of_mem_zipIdx hc);have:=II b r.2 c.2;exact⟨by dsimp only;omega,by dsimp only;omega,by dsimp only;omega,cw⟩
 ·obtain⟨i,hi,rfl⟩:=List.mem_map.mp ha;have:=Dj hi;have u:=P5 b.ok.cols this;exact⟨by dsimp only;omega,by dsimp only;omega,cs i,sw⟩
theorem W6 (v b w:Nat) (hb:0<b):
  ((v/b:Nat):Int)=(v:Int)/(b:Int)/\(if v%b=0 then((v/b:Nat):Int) else((v/b:Nat):Int)+1)=((v:Int)+(b:Int)-1)/(b:Int)/\
  (if v%b=0 then(0:Int) else(w:Int)*((b:Int)-2*((v%b:Nat):Int)))=(((((v:Int)+(b:Int)-1)/(b:Int))*(b:Int)-(v:Int))-((v:Int)-((v:Int)/(b:Int))*(b:Int)))*(w:Int):=by
 have e1:((v/b:Nat):Int)=(v:Int)/(b:Int):=by push_cast;rfl
 have dm:=Nat.div_add_mod v b;have lt:=Nat.mod_lt v hb;generalize hq:v/b=q at*;generalize hr:v%b=r at*
 have hv:(v:Int)=(b:Int)*(q:Int)+(r:Int):=by
  have:((b*q+r:Nat):Int)=(v:Int):=by rw[dm]
  rw[<-this];push_cast;rfl
 have e2:(if r=0 then(q:Int) else(q:Int)+1)=((v:Int)+(b:Int)-1)/(b:Int):=by
  by_cases h:r=0
  ·rw[if_pos h,hv,h];have:(b:Int)*(q:Int)+((0:Nat):Int)+(b:Int)-1=((b:Int)-1)+(b:Int)*(q:Int):=by omega
   rw[this,Int.add_mul_ediv_left _ _ (by omega),Int.ediv_eq_zero_of_lt (by omega) (by omega)];omega
  ·rw[if_neg h,hv];have:(b:Int)*(q:Int)+(r:Int)+(b:Int)-1=((r:Int)-1)+(b:Int)*((q:Int)+1):=by rw[Int.mul_add];omega
   rw[this,Int.add_mul_ediv_left _ _ (by omega),Int.ediv_eq_zero_of_lt (by omega) (by omega)];omega
 refine⟨e1,e2,?_⟩;rw[<-e2,<-e1];by_cases h:r=0
 ·rw[if_pos h,if_pos h,hv,h,Int.mul_comm (q:Int)];simp
 ·rw[if_neg h,if_neg h,hv,Int.add_mul,Int.mul_comm (q:Int),Int.mul_comm (w:Int)]
  congr 1
  omega
theorem Tn (t:Table) (x:(Nat×Nat×Nat×Nat)×Nat):(arcOf t x).src=x.1.1/\(arcOf t x).dst=x.1.2.1:=by
 unfold arcOf;dsimp only;split<;>exact⟨rfl,rfl⟩
theorem OW {t:Table} (b:Bd t) {x:(Nat×Nat×Nat×Nat)×Nat} (h1:x.1.2.2.1<=64000000) (h2:x.1.2.2.2<=9):(arcOf t x).least<=(arcOf t x).most/\0<=(arcOf t x).least/\(arcOf t x).most<=100000000/\ -10000<=(arcOf t x).price/\(arcOf t x).price<=10000:=by
 unfold arcOf;dsimp only;have bp:=b.base;split
 ·rename_i k e
  have:=b.kept k (List.mem_of_find?_eq_some e);dsimp only;omega
 ·have d:=Nat.div_le_self x.1.2.2.1 t.base;have m:=Nat.mod_lt x.1.2.2.1 (show 0<t.base by omega);dsimp only;have dn:(0:Int)<=((x.1.2.2.1/t.base:Nat):Int):=Int.natCast_nonneg _;refine⟨by split<;>omega,dn,by split<;>omega,?_,?_⟩
  ·split
   ·omega
   ·have:(x.1.2.2.2:Int)*(-100)<=(x.1.2.2.2:Int)*((t.base:Int)-2*((x.1.2.2.1%t.base:Nat):Int)):=Int.mul_le_mul_of_nonneg_left (by omega) (by omega);omega
  ·split
   ·omega
   ·have:(x.1.2.2.2:Int)*((t.base:Int)-2*((x.1.2.2.1%t.base:Nat):Int))<=(x.1.2.2.2:Int)*100:=Int.mul_le_mul_of_nonneg_left (by omega) (by omega);omega
theorem Vr {t:Table} (b:Bd t):FM.Wf (netOf t):=by
 refine⟨fun j hj=>?_,fun j hj=>?_,?_⟩
 ·rw[A5] at hj;rw[Er t hj];obtain⟨e1,e2⟩:=Tn t (JC t j,j);rw[e1,e2];have:=Am b _ (Au t hj);exact⟨this.1,this.2.1⟩
 ·rw[A5] at hj;rw[Er t hj];have:=Am b _ (Au t hj);exact(OW b (x:=(JC t j,j)) this.2.2.1 this.2.2.2).1
 ·have:FM.S (netOf t).n (VbcsFlow.at_ (netOf t).supply)=FM.S (netOf t).n (fun _=>0):=FM.S_congr (fun i _=>by
   unfold netOf VbcsFlow.at_;dsimp only;rw[List.getD_eq_getElem?_getD,List.getElem?_replicate];split<;>rfl)
  rw[this,FM.S_zero]
end TM
namespace NM
open VbcsFlow (Arc Net at_)
open Vbcsaf (arcsIn inr)
theorem inr_iff {n lo hi:Int}:inr n lo hi=true↔lo<=n/\n<=hi:=by
 unfold inr;rw[Bool.and_eq_true,decide_eq_true_eq,decide_eq_true_eq]
def Jx (a:List Int) (j k:Nat):Int:=a.getD (5*j+k) 0
def ZE (a:List Int) (j:Nat):Arc:=⟨(Jx a j 0).toNat,(Jx a j 1).toNat,Jx a j 2,Jx a j 3,Jx a j 4⟩
structure OkArc (a:List Int) (j:Nat):Prop where
 s:0<=Jx a j 0/\Jx a j 0<=11
 d:0<=Jx a j 1/\Jx a j 1<=11
 l: -1000<=Jx a j 2/\Jx a j 2<=1000
 m: -1000<=Jx a j 3/\Jx a j 3<=1000
 o:Jx a j 2<=Jx a j 3
 p: -1000<=Jx a j 4/\Jx a j 4<=1000
def Zm (a:List Int):List Arc:=(List.range (a.length/5)).map (ZE a)
theorem Ix (x0 x1 x2 x3 x4:Int) (r:List Int) (j k:Nat):Jx (x0::x1::x2::x3::x4::r) (j+1) k=Jx r j k:=by
 unfold Jx;rw[show 5*(j+1)+k=5*j+k+1+1+1+1+1 by omega];simp only[List.getD_cons_succ]
theorem Nk (x0 x1 x2 x3 x4:Int) (r:List Int):Zm (x0::x1::x2::x3::x4::r)=⟨x0.toNat,x1.toNat,x2,x3,x4⟩::Zm r:=by
 unfold Zm
 have:(x0::x1::x2::x3::x4::r).length/5=r.length/5+1:=by
  simp only[List.length_cons];omega
 rw[this,List.range_succ_eq_map,List.map_cons,List.map_map]
 have:(ZE (x0::x1::x2::x3::x4::r))∘Nat.succ=ZE r:=by
  funext j
  show ZE _ (j+1)=ZE r j;unfold ZE;simp only[Ix]
 rw[this];rfl
theorem OS: ∀(a:List Int),(a.length%5=0/\ ∀j,j<a.length/5->OkArc a j)->arcsIn a=some (Zm a)
 |[],_=>rfl
 |[_],⟨h,_⟩=>by simp at h
 |[_,_],⟨h,_⟩=>by simp at h
 |[_,_,_],⟨h,_⟩=>by simp at h
 |[_,_,_,_],⟨h,_⟩=>by simp at h
 |x0::x1::x2::x3::x4::r,⟨h1,h2⟩=>by
  have o:=h2 0 (by simp only[List.length_cons];omega)
  have ih:=OS r ⟨by simp only[List.length_cons] at h1;omega,fun j hj=>by
   have q:=h2 (j+1) (by simp only[List.length_cons];omega);obtain⟨a1,a2,a3,a4,a5,a6⟩:=q;simp only[Ix] at a1 a2 a3 a4 a5 a6;exact⟨a1,a2,a3,a4,a5,a6⟩⟩
  show(if _ then(arcsIn r).map _ else none)=_;obtain⟨a1,a2,a3,a4,a5,a6⟩:=o;rw[if_pos,ih,Nk]
  ·rfl
  ·simp only[Bool.and_eq_true,inr_iff,decide_eq_true_eq];exact⟨a1,a2,a3,a4,a5,a6⟩
theorem DZ: ∀(a:List Int) (l:List Arc),arcsIn a=some l->a.length%5=0/\(∀j,j<a.length/5->OkArc a j)/\l=Zm a
 |[],l,h=>by cases h;exact⟨rfl,fun j hj=>by simp at hj,rfl⟩
 |[_],_,h=>by cases h
 |[_,_],_,h=>by cases h
 |[_,_,_],_,h=>by cases h
 |[_,_,_,_],_,h=>by cases h
 |x0::x1::x2::x3::x4::r,l,h=>by
  have h':(if(inr x0 0 11&&(inr x1 0 11&&(inr x2 (-1000) 1000&&(inr x3 (-1000) 1000&&(decide (x2<=x3)&&inr x4 (-1000) 1000)))))=true then(arcsIn r).map (fun q=>(⟨x0.toNat,x1.toNat,x2,x3,x4⟩:Arc)::q) else none)=some l:=h;by_cases c:(inr x0 0 11&&(inr x1 0 11&&(inr x2 (-1000) 1000&&(inr x3 (-1000) 1000&&(decide (x2<=x3)&&inr x4 (-1000) 1000)))))=true
  ·rw[if_pos c] at h';cases e:arcsIn r with
   |none=>rw[e] at h';cases h'
   |some q=>
    rw[e] at h';have hl:(⟨x0.toNat,x1.toNat,x2,x3,x4⟩:Arc)::q=l:=Option.some.inj h';obtain⟨i1,i2,i3⟩:=DZ r q e;simp only[Bool.and_eq_true,inr_iff,decide_eq_true_eq] at c;obtain⟨a1,a2,a3,a4,a5,a6⟩:=c;refine⟨by simp only[List.length_cons];omega,fun j hj=>?_,by rw[Nk,<-hl,i3]⟩;cases j with
    |zero=>exact⟨a1,a2,a3,a4,a5,a6⟩
    |succ j=>
     obtain⟨b1,b2,b3,b4,b5,b6⟩:=i2 j (by simp only[List.length_cons] at hj;omega);constructor<;>(simp only[Ix];assumption)
  ·rw[if_neg c] at h';cases h'
theorem ES (a:List Int):(arcsIn a).isSome=true↔a.length%5=0/\ ∀j,j<a.length/5->OkArc a j:=by
 constructor
 ·intro h;obtain⟨l,e⟩:=Option.isSome_iff_exists.mp h;obtain⟨h1,h2,_⟩:=DZ a l e;exact⟨h1,h2⟩
 ·intro h;rw[OS a h];rfl
theorem IR (a:List Int):(Zm a).length=a.length/5:=by unfold Zm;simp
theorem El {n:Nat} {u a:List Int} {j:Nat} (h:j<a.length/5):FM.arc ⟨n,u,Zm a⟩ j=ZE a j:=by
 unfold FM.arc Zm;show(((List.range (a.length/5)).map (ZE a)).getD j _)=_;rw[List.getD_eq_getElem?_getD,List.getElem?_map,List.getElem?_range h];rfl
theorem S_total (u:List Int):FM.S u.length (at_ u)=VbcsFlow.total u:=by
 have h:=FM.BB (fun a:Int×Nat=>a.1) 0 u 0;rw[List.zipIdx_map_fst] at h;rw[h];rfl
theorem J0k {n:Nat} {u a:List Int} (ok: ∀j,j<a.length/5->OkArc a j) (e: ∀j,j<a.length/5->(ZE a j).src<n/\(ZE a j).dst<n) (hu:u.length=n) (ht:VbcsFlow.total u=0):FM.Wf ⟨n,u,Zm a⟩:=by
 refine⟨fun j hj=>?_,fun j hj=>?_,?_⟩
 ·have hj':j<a.length/5:=by rw[<-IR];exact hj
  rw[El hj'];exact e j hj'
 ·have hj':j<a.length/5:=by rw[<-IR];exact hj
  rw[El hj'];exact(ok j hj').o
 ·show FM.S n (at_ u)=0;rw[<-hu,S_total,ht]
end NM
namespace CM
open Vbcsaf (near roundsCube choices cubeWays Cube)
def spans (n:Nat):List (List Nat):=[List.range n]++(List.range n).map fun i=>[i]
def placesOf (b c:Nat) (fs ss ts:List Nat):List Nat:=fs.flatMap fun f=>ss.flatMap fun s=>ts.map fun t=>(f*b+s)*c+t
def allPl (a b c:Nat):List (List Nat):=(spans a).flatMap fun fs=>(spans b).flatMap fun ss=>(spans c).map fun ts=>placesOf b c fs ss ts
def chk (a b c:Nat):Bool:=(allPl a b c).all (fun s=>((Vbcsaf.sums ⟨1,a,b,c,[]⟩).contains s||(List.range (a*b*c)).any fun p=>s==[p])&&(s.all (fun p=>decide (p<=s.getLastD 0)&&decide (p<a*b*c))&&(!s.isEmpty&&decide (s.length<=27))))&&
 ((Vbcsaf.sums ⟨1,a,b,c,[]⟩).all (fun s=>(allPl a b c).contains s)&&(List.range (a*b*c)).all fun p=>(allPl a b c).contains [p])
theorem WW: ∀a,a<4-> ∀b,b<4-> ∀c,c<4->(a=0∨b=0∨c=0∨chk a b c=true):=by decide+kernel
theorem XY {a b c:Nat} (ha:1<=a/\a<=3) (hb:1<=b/\b<=3) (hc:1<=c/\c<=3):chk a b c=true:=by
 rcases WW a (by omega) b (by omega) c (by omega) with h|h|h|h
 ·omega
 ·omega
 ·omega
 ·exact h
theorem len_all: ∀a,a<4-> ∀b,b<4-> ∀c,c<4->(allPl a b c).length<=64:=by decide+kernel
theorem T4 (k:Cube):Vbcsaf.sums k=Vbcsaf.sums ⟨1,k.a,k.b,k.c,[]⟩:=rfl
structure Fine (a b c:Nat):Prop where
 pl: ∀s∈allPl a b c,s∈Vbcsaf.sums ⟨1,a,b,c,[]⟩∨ ∃p,p<a*b*c/\s=[p]
 last: ∀s∈allPl a b c,∀p∈s,p<=s.getLastD 0/\p<a*b*c
 ne: ∀s∈allPl a b c,s≠[]
 sh: ∀s∈allPl a b c,s.length<=27
 su: ∀s∈Vbcsaf.sums ⟨1,a,b,c,[]⟩,s∈allPl a b c
 ce: ∀p,p<a*b*c->[p]∈allPl a b c
theorem fine {a b c:Nat} (ha:1<=a/\a<=3) (hb:1<=b/\b<=3) (hc:1<=c/\c<=3):Fine a b c:=by
 have h:=XY ha hb hc;unfold chk at h;rw[Bool.and_eq_true,Bool.and_eq_true,List.all_eq_true,List.all_eq_true,List.all_eq_true] at h;obtain⟨h1,h2,h3⟩:=h;refine⟨fun s hs=>?_,fun s hs p hp=>?_,fun s hs z=>?_,fun s hs=>?_,fun s hs=>?_,fun p hp=>?_⟩
 ·have q:=h1 s hs;rw[Bool.and_eq_true,Bool.or_eq_true,List.any_eq_true] at q;rcases q.1 with q|⟨p,hp,e⟩
  ·exact .inl (List.contains_iff_mem.mp q)
  ·exact .inr ⟨p,List.mem_range.mp hp,eq_of_beq e⟩
 ·have q:=h1 s hs;rw[Bool.and_eq_true,Bool.and_eq_true,List.all_eq_true] at q;have:=q.2.1 p hp;rw[Bool.and_eq_true,decide_eq_true_eq,decide_eq_true_eq] at this;exact this
 ·have q:=h1 s hs;rw[Bool.and_eq_true,Bool.and_eq_true,Bool.and_eq_true] at q;rw[z] at q;exact absurd q.2.2.1 (by decide)
 ·have q:=h1 s hs;rw[Bool.and_eq_true,Bool.and_eq_true,Bool.and_eq_true,decide_eq_true_eq] at q;exact q.2.2.2
 ·exact List.contains_iff_mem.mp (h2 s hs)
 ·exact List.contains_iff_mem.mp (h3 p (List.mem_range.mpr hp))
def lo (b v:Nat):Int:=(v:Int)/(b:Int)
def hi (b v:Nat):Int:=((v:Int)+(b:Int)-1)/(b:Int)
theorem near_iff {b v x:Nat} (hb:1<=b):near b v x=true↔ ¬((x:Int)<lo b v)/\ ¬(hi b v<(x:Int)):=by
 unfold near lo hi;rw[Bool.and_eq_true,decide_eq_true_eq,decide_eq_true_eq];have hb':(0:Int)<b:=by omega
 have e1: ¬((x:Int)<(v:Int)/(b:Int))↔v<x*b+b:=by
  rw[Int.not_lt];constructor
  ·intro h;have h1:=Int.lt_ediv_add_one_mul_self (v:Int) hb';have h2:((v:Int)/(b:Int)+1)*(b:Int)<=((x:Int)+1)*(b:Int):=Int.mul_le_mul_of_nonneg_right (by omega) (by omega);have h3:((x:Int)+1)*(b:Int)=((x*b+b:Nat):Int):=by rw[Int.add_mul];simp
   omega
  ·intro h;apply Int.le_of_lt_add_one;apply Int.ediv_lt_of_lt_mul hb';have h3:((x:Int)+1)*(b:Int)=((x*b+b:Nat):Int):=by rw[Int.add_mul];simp
   omega
 have e2: ¬(((v:Int)+(b:Int)-1)/(b:Int)<(x:Int))↔x*b<v+b:=by
  rw[Int.not_lt,Int.le_ediv_iff_mul_le hb'];have h3:(x:Int)*(b:Int)=((x*b:Nat):Int):=by simp
  omega
 rw[e1,e2];exact And.comm
def sumAt (x:List Nat) (s:List Nat):Nat:=Vbcsaf.sum (s.map fun i=>x.getD i 0)
def okAt (b:Nat) (cells x:List Nat) (s:List Nat):Bool:=near b (sumAt cells s) (sumAt x s)
theorem Tb (v:Nat):Vbcsaf.sum [v]=v:=by unfold Vbcsaf.sum;simp
theorem SF {x s:List Nat} {u:Nat} (h: ∀p∈s,p<x.length):sumAt (x++[u]) s=sumAt x s:=by
 unfold sumAt
 congr 1
 apply List.map_congr_left;intro p hp;have:=h p hp;simp[List.getD_eq_getElem?_getD,List.getElem?_append_left this]
theorem rounds_iff {k:Cube} (F:Fine k.a k.b k.c) (hl:k.cells.length=k.a*k.b*k.c) (x:List Nat):
  roundsCube k x=(decide (x.length=k.cells.length)&&(allPl k.a k.b k.c).all (okAt k.base k.cells x)):=by
 unfold roundsCube;by_cases hx:x.length=k.cells.length
 ·rw[decide_eq_true hx,show(x.length==k.cells.length)=true by simp[hx],Bool.true_and,Bool.true_and]
  have cell: ∀p,p<k.a*k.b*k.c->okAt k.base k.cells x [p]=near k.base (k.cells.getD p 0) (x.getD p 0):=fun p _=>by
   unfold okAt sumAt;rw[List.map_cons,List.map_nil,List.map_cons,List.map_nil,Tb,Tb]
  rw[Bool.eq_iff_iff,Bool.and_eq_true,List.all_eq_true,List.all_eq_true,List.all_eq_true];constructor
  ·rintro⟨h1,h2⟩ s hs;rcases F.pl s hs with q|⟨p,hp,rfl⟩
   ·exact h2 s (by rw[T4];exact q)
   ·rw[cell p hp];have a1:p<k.cells.length:=by omega
    have a2:p<x.length:=by omega
    have:=h1 (k.cells[p],x[p]) (by
     have:(k.cells.zip x)[p]'(by simp;omega)=(k.cells[p],x[p]):=by simp
     rw[<-this];exact List.getElem_mem _)
    simpa [List.getD_eq_getElem?_getD,a1,a2] using this
  ·intro h;refine⟨fun y hy=>?_,fun s hs=>h s (F.su s (by rw[<-T4];exact hs))⟩;obtain⟨p,hp,e⟩:=List.getElem_of_mem hy;rw[List.length_zip] at hp;have a1:p<k.cells.length:=by omega
   have a2:p<x.length:=by omega
   rw[<-e,List.getElem_zip];have:=h [p] (F.ce p (by omega));rw[cell p (by omega)] at this
   simpa [List.getD_eq_getElem?_getD,a1,a2] using this
 ·rw[decide_eq_false hx,show(x.length==k.cells.length)=false by simp[hx],Bool.false_and,Bool.false_and]
def units (b v:Nat):List Nat:=if v%b=0 then[v/b] else[v/b,v/b+1]
theorem Ub (b v:Nat) (r:List Nat):choices b (v::r)=(units b v).flatMap fun n=>(choices b r).map fun l=>n::l:=rfl
theorem Hg (b:Nat): ∀(l:List Nat) (v:Nat),choices b (l++[v])=(choices b l).flatMap fun r=>(units b v).map fun u=>r++[u]
 |[],v=>by
  show choices b [v]=([[]]:List (List Nat)).flatMap _;rw[Ub,List.flatMap_cons,List.flatMap_nil,List.append_nil];show((units b v).flatMap fun n=>([[]]:List (List Nat)).map fun l=>n::l)=_;simp only[List.map_cons,List.map_nil,List.nil_append]
  induction units b v with
  |nil=>rfl
  |cons a l ih=>rw[List.flatMap_cons,ih];rfl
 |a::l,v=>by
  rw[List.cons_append,Ub,Ub,List.flatMap_assoc]
  congr 1
  funext n
  rw[Hg b l v,List.map_flatMap,List.flatMap_map]
  congr 1
  funext r
  rw[List.map_map];rfl
theorem choices_len (b:Nat): ∀(l r:List Nat),r∈choices b l->r.length=l.length
 |[],r,h=>by
  have:r=[]:=by simpa [choices] using h
  rw[this]
 |v::l,r,h=>by
  rw[Ub,List.mem_flatMap] at h;obtain⟨n,_,h⟩:=h;rw[List.mem_map] at h;obtain⟨q,h,rfl⟩:=h;rw[List.length_cons,List.length_cons,choices_len b l q h]
theorem units_len (b v:Nat):(units b v).length<=2:=by unfold units;split<;>simp
theorem GN (b:Nat): ∀(l:List Nat),(choices b l).length<=2^l.length
 |[]=>by simp[choices]
 |v::l=>by
  rw[Ub,List.length_cons,Nat.pow_succ]
  have go: ∀us:List Nat,(us.flatMap fun n=>(choices b l).map fun l=>n::l).length=us.length*(choices b l).length:=by
   intro us
   induction us with
   |nil=>simp
   |cons a us ih=>rw[List.flatMap_cons,List.length_append,ih,List.length_map,List.length_cons,Nat.add_mul];omega
  rw[go];have h1:=units_len b v;have h2:=GN b l
  calc (units b v).length*(choices b l).length<=2*2^l.length:=Nat.mul_le_mul h1 h2
   _=2^l.length*2:=Nat.mul_comm _ _
theorem units_range {b v:Nat} (hb:1<=b):((List.range ((hi b v+1-lo b v).toNat)).map fun i:Nat=>lo b v+(i:Int))=(units b v).map fun u:Nat=>(u:Int):=by
 unfold lo hi units;have hb':(0:Int)<b:=by omega
 have e0:(v:Int)=(b:Int)*((v/b:Nat):Int)+((v%b:Nat):Int):=by
  have:=Nat.div_add_mod v b
  exact_mod_cast this.symm
 have hr:v%b<b:=Nat.mod_lt _ hb;have e1:(v:Int)/(b:Int)=((v/b:Nat):Int):=by simp
 rw[e1];by_cases h:v%b=0
 ·rw[if_pos h]
  have e2:((v:Int)+(b:Int)-1)/(b:Int)=((v/b:Nat):Int):=by
   rw[e0,h,show(b:Int)*((v/b:Nat):Int)+((0:Nat):Int)+(b:Int)-1=((b:Int)-1)+(b:Int)*((v/b:Nat):Int) by omega,Int.add_mul_ediv_left _ _ (by omega),Int.ediv_eq_zero_of_lt (by omega) (by omega),Int.zero_add]
  rw[e2,show(((v/b:Nat):Int)+1-((v/b:Nat):Int)).toNat=1 by omega];simp[List.range_succ]
 ·rw[if_neg h]
  have e2:((v:Int)+(b:Int)-1)/(b:Int)=((v/b:Nat):Int)+1:=by
   rw[show(v:Int)+(b:Int)-1=(((v%b:Nat):Int)-1)+(b:Int)*(((v/b:Nat):Int)+1) by rw[Int.mul_add];omega,Int.add_mul_ediv_left _ _ (by omega),Int.ediv_eq_zero_of_lt (by omega) (by omega),Int.zero_add]
  rw[e2,show(((v/b:Nat):Int)+1+1-((v/b:Nat):Int)).toNat=2 by omega];simp[List.range_succ]
def rowsAt (k:Cube) (n:Nat):List (List Nat):=(choices k.base (k.cells.take n)).filter fun r=>(allPl k.a k.b k.c).all fun s=>decide (n<=s.getLastD 0)||okAt k.base k.cells r s
def wholeAt (k:Cube) (n:Nat):List (List Nat):=(allPl k.a k.b k.c).filter fun s=>decide (s.getLastD 0=n)
def longer (k:Cube) (n v:Nat):List (List Nat):=(rowsAt k n).flatMap fun r=>(units k.base v).map fun u=>r++[u]
theorem rows_zero (k:Cube):rowsAt k 0=[[]]:=by
 unfold rowsAt;rw[List.take_zero];show([[]]:List (List Nat)).filter _=_;simp
theorem Ti {α:Type} (l:List α) (p q r:α->Bool) (h: ∀a∈l,p a=(q a&&r a)):l.all p=(l.all q&&l.all r):=by
 induction l with
 |nil=>rfl
 |cons a l ih=>
  rw[List.all_cons,List.all_cons,List.all_cons,h a List.mem_cons_self,ih (fun b hb=>h b (List.mem_cons_of_mem _ hb))];cases q a<;>cases r a<;>cases l.all q<;>rfl
theorem rows_len {k:Cube} {n:Nat} (hn:n<=k.cells.length) {r:List Nat} (h:r∈rowsAt k n):r.length=n:=by
 unfold rowsAt at h;have:=choices_len _ _ _ (List.mem_filter.mp h).1;rw[List.length_take] at this;omega
theorem rows_step {k:Cube} (F:Fine k.a k.b k.c) {n v:Nat} (hv:k.cells[n]?=some v):
  rowsAt k (n+1)=(longer k n v).filter fun r=>(wholeAt k n).all (okAt k.base k.cells r):=by
 have hn:n<k.cells.length:=(List.getElem?_eq_some_iff.mp hv).1;unfold longer;show(choices k.base (k.cells.take (n+1))).filter _=_;rw[List.take_add_one,hv];show(choices k.base (k.cells.take n++[v])).filter _=_;rw[Hg];unfold rowsAt;have len:=fun r h=>choices_len k.base (k.cells.take n) r h;generalize choices k.base (k.cells.take n)=L at len
 induction L with
 |nil=>rfl
 |cons r L ih=>
  have ih:=ih (fun q hq=>len q (List.mem_cons_of_mem _ hq));have hr:=len r List.mem_cons_self;rw[List.length_take] at hr
  have key: ∀u,((allPl k.a k.b k.c).all fun s=>decide (n+1<=s.getLastD 0)||okAt k.base k.cells (r++[u]) s)=(((allPl k.a k.b k.c).all fun s=>decide (n<=s.getLastD 0)||okAt k.base k.cells r s)&&(wholeAt k n).all (okAt k.base k.cells (r++[u]))):=by
   intro u;unfold wholeAt;rw[List.all_filter];apply Ti;intro s hs
   have cut:s.getLastD 0<n->okAt k.base k.cells (r++[u]) s=okAt k.base k.cells r s:=fun h=>by
    unfold okAt;rw[SF (fun p hp=>by have:=(F.last s hs p hp).1;omega)]
   rcases Nat.lt_trichotomy (s.getLastD 0) n with h|h|h
   ·rw[cut h,decide_eq_false (show¬n+1<=s.getLastD 0 by omega),decide_eq_false (show¬n<=s.getLastD 0 by omega),decide_eq_false (show¬s.getLastD 0=n by omega)];simp
   ·rw[decide_eq_false (show¬n+1<=s.getLastD 0 by omega),decide_eq_true (show n<=s.getLastD 0 by omega),decide_eq_true (show s.getLastD 0=n by omega)];simp
   ·rw[decide_eq_true (show n+1<=s.getLastD 0 by omega),decide_eq_true (show n<=s.getLastD 0 by omega),decide_eq_false (show¬s.getLastD 0=n by omega)];simp
  rw[List.flatMap_cons,List.filter_append,ih,List.filter_cons];by_cases h:((allPl k.a k.b k.c).all fun s=>decide (n<=s.getLastD 0)||okAt k.base k.cells r s)=true
  ·rw[if_pos h,List.flatMap_cons,List.filter_append]
   congr 1
   apply List.filter_congr;intro q hq;rw[List.mem_map] at hq;obtain⟨u,_,rfl⟩:=hq;rw[key u,h,Bool.true_and]
  ·rw[if_neg h]
   have:((units k.base v).map fun u=>r++[u]).filter (fun r=>(allPl k.a k.b k.c).all fun s=>decide (n+1<=s.getLastD 0)||okAt k.base k.cells r s)=[]:=by
    rw[List.filter_eq_nil_iff];intro q hq;rw[List.mem_map] at hq;obtain⟨u,_,rfl⟩:=hq;rw[key u];simp only[Bool.not_eq_true] at h;rw[h];simp
   rw[this,List.nil_append]
theorem rows_all {k:Cube} (F:Fine k.a k.b k.c) (hl:k.cells.length=k.a*k.b*k.c):rowsAt k k.cells.length=cubeWays k:=by
 unfold rowsAt cubeWays;rw[List.take_length];apply List.filter_congr;intro r hr;rw[rounds_iff F hl,choices_len _ _ _ hr,decide_eq_true rfl,Bool.true_and];rw[Bool.eq_iff_iff,List.all_eq_true,List.all_eq_true]
 have lt: ∀s∈allPl k.a k.b k.c,s.getLastD 0<k.cells.length:=fun s hs=>by
  have hne:=F.ne s hs;have:=(F.last s hs _ (List.getLast_mem hne)).2;rw[List.getLastD_eq_getLast?,List.getLast?_eq_some_getLast hne];show s.getLast hne<_;omega
 constructor
 ·intro h s hs;have:=h s hs;rw[decide_eq_false (by have:=lt s hs;omega),Bool.false_or] at this;exact this
 ·intro h s hs;rw[h s hs,Bool.or_true]
theorem rows_many (k:Cube) (n:Nat):(rowsAt k n).length<=2^n:=by
 unfold rowsAt;refine Nat.le_trans (List.length_filter_le _ _) (Nat.le_trans (GN _ _) (Nat.pow_le_pow_right (by decide) ?_));rw[List.length_take];exact Nat.min_le_left _ _
end CM
namespace Pf
inductive CallIs:Int->List Int->List (List Int)->Vbcsaf.Call->Prop
 |c0 (b r c x):CallIs 0 [b] [r,c,x] (.table b r c x)
 |c1 (c w):CallIs 1 [c,w] [] (.weights c w)
 |c2 (i n):CallIs 2 [i,n] [] (.keep i n)
 |c3 (i):CallIs 3 [i] [] (.free i)
 |c4:CallIs 4 [] [] .arcs
 |c5:CallIs 5 [] [] .round
 |c6:CallIs 6 [] [] .prices
 |c7 (x c):CallIs 7 [] [x,c] (.check x c)
 |c8 (l):CallIs 8 [] [l] (.shows l)
 |c9:CallIs 9 [] [] .truth
 |c10 (x):CallIs 10 [] [x] (.distance x)
 |c11 (r c n):CallIs 11 [r,c,n] [] (.cell r c n)
 |c12 (b i j l x):CallIs 12 [b,i,j,l] [x] (.cube b i j l x)
 |c13 (b i j l x y):CallIs 13 [b,i,j,l] [x,y] (.cubeCheck b i j l x y)
 |c14 (n u a):CallIs 14 [n] [u,a] (.net n u a)
 |c15:CallIs 15 [] [] .flow
 |c16:CallIs 16 [] [] .flowPrices
 |c17 (x c):CallIs 17 [] [x,c] (.flowCheck x c)
 |c18:CallIs 18 [] [] .flowNone
 |c19 (l):CallIs 19 [] [l] (.flowShows l)
 |c20 (x):CallIs 20 [] [x] (.cost x)
 |c21:CallIs 21 [] [] .sizes
end Pf
namespace Pm
open PyFlat
theorem Xi {α:Type} {c:Prop} [Decidable c] {a b d:α} (h:(if c then a else b)=d):(c/\a=d)∨b=d:=by
 by_cases e:c
 ·rw[if_pos e] at h;exact .inl ⟨e,h⟩
 ·rw[if_neg e] at h;exact .inr h
section
variable {α:Type} {l:List α}
theorem l0 (h:0=l.length):l=[]:=List.length_eq_zero_iff.mp h.symm
theorem l1 (h:1=l.length): ∃a,l=[a]:=match l,h with|[a],_=>⟨a,rfl⟩
theorem l2 (h:2=l.length): ∃a b,l=[a,b]:=match l,h with|[a,b],_=>⟨a,b,rfl⟩
theorem l3 (h:3=l.length): ∃a b c,l=[a,b,c]:=match l,h with|[a,b,c],_=>⟨a,b,c,rfl⟩
theorem l4 (h:4=l.length): ∃a b c d,l=[a,b,c,d]:=match l,h with|[a,b,c,d],_=>⟨a,b,c,d,rfl⟩
end
theorem Wa {p:Int} {a:List Int} {xs:List (List Int)} (h:PyVbcsaf.shape p=some (a.length,xs.length)): ∃d,Pf.CallIs p a xs d:=by
 unfold PyVbcsaf.shape at h
 iterate 22
  rcases Xi h with⟨rfl,h⟩|h
  ·injection h with h
   injection h with h1 h2
   (first|obtain rfl:=l0 h1|obtain⟨_,rfl⟩:=l1 h1|obtain⟨_,_,rfl⟩:=l2 h1|obtain⟨_,_,_,rfl⟩:=l3 h1|obtain⟨_,_,_,_,rfl⟩:=l4 h1)
   (first|obtain rfl:=l0 h2|obtain⟨_,rfl⟩:=l1 h2|obtain⟨_,_,rfl⟩:=l2 h2|obtain⟨_,_,_,rfl⟩:=l3 h2)
   exact⟨_,by constructor⟩
 cases h
theorem VQ {p:Int} {a:List Int} {xs:List (List Int)} {d:Vbcsaf.Call} (C:Pf.CallIs p a xs d):PyVbcsaf.whole ((p::a)::xs)=(p::a)::xs:=by cases C<;>rfl
theorem TV {p:Int} {a:List Int} {xs:List (List Int)} {d:Vbcsaf.Call} (C:Pf.CallIs p a xs d):VbcsafNeutral.callOf ((p::a)::xs)=some d:=by cases C<;>rfl
theorem b1 {p:Prop} [Decidable p] {c:Bool} (h:(decide p&&c)=true):p/\c=true:=by
 rw[Bool.and_eq_true,decide_eq_true_eq] at h;exact h
theorem b2 {b c:Bool} (h:(b&&c)=true):c=true:=by
 rw[Bool.and_eq_true] at h;exact h.2
theorem m1 {P:List Int->Prop} {x:List Int} (h:P x): ∀r∈[x],P r:=fun r hr=>by rw[List.mem_singleton.mp hr];exact h
theorem mc {P:List Int->Prop} {x:List Int} {l:List (List Int)} (h:P x) (k: ∀r∈l,P r): ∀r∈x::l,P r:=fun r hr=>(List.mem_cons.mp hr).elim (fun e=>e▸h) (k r)
theorem X6 {p:Int} {a:List Int} {xs:List (List Int)} {d:Vbcsaf.Call} (C:Pf.CallIs p a xs d) (h:VbcsafNeutral.asked1 ((p::a)::xs)=true): ∀r∈xs,r.length<=160:=by
 cases C
 case c0=>have h:=b1 (b2 h);exact mc h.1 (mc (b1 h.2).1 (m1 (b1 (b1 h.2).2).1))
 case c7=>have h:=b1 h;exact mc h.1 (m1 (b1 h.2).1)
 case c8=>exact m1 (b1 h).1
 case c10=>exact m1 (b1 h).1
 case c12=>exact m1 (b1 (b2 (b2 (b2 (b2 h))))).1
 case c13=>have h:=b1 (b2 (b2 (b2 (b2 h))));exact mc h.1 (m1 (b1 h.2).1)
 case c14=>have h:=b1 (b2 h);exact mc h.1 (m1 (b1 h.2).1)
 case c17=>have h:=b1 h;exact mc h.1 (m1 (b1 h.2).1)
 case c19=>exact m1 (b1 h).1
 case c20=>exact m1 (b1 h).1
 all_goals exact fun r hr=>absurd hr List.not_mem_nil
theorem VZ {l:List Int} (h:PyVbcsaf.answers_asked l=true): ∃raw,l=put raw/\(∀c∈raw,∃p a xs d,c=(p::a)::xs/\Pf.CallIs p a xs d/\VbcsafNeutral.callOf c=some d/\ ∀r∈xs,r.length<=160)/\PyVbcsaf.answers l=told (played VbcsafNeutral.step VbcsafNeutral.start raw)/\(PyVbcsaf.answers l).length<=10000000:=by
 unfold PyVbcsaf.answers_asked at h;cases e:PyFlat.calls PyVbcsaf.shape l.length l with
 |none=>rw[e] at h;cases h
 |some raw=>
  rw[e] at h;simp only[Bool.and_eq_true] at h;obtain⟨⟨⟨⟨h1,h2⟩,h3⟩,h4⟩,h5⟩:=h;obtain⟨p1,p2⟩:=put_calls _ _ _ e
  have ew:raw.map PyVbcsaf.whole=raw:=by
   rw[List.map_congr_left (g:=id) (fun c hc=>by
    obtain⟨p,a,xs,ec,hs⟩:=p2 c hc;obtain⟨d,C⟩:=Wa hs;rw[ec];exact VQ C),List.map_id]
  rw[ew] at h4;unfold VbcsafNeutral.asked at h4;rw[Bool.and_eq_true,List.all_eq_true] at h4;refine⟨raw,p1,fun c hc=>?_,?_,?_⟩
  ·obtain⟨p,a,xs,ec,hs⟩:=p2 c hc;obtain⟨d,C⟩:=Wa hs;have q:=h4.1 c hc;rw[ec] at q;exact⟨p,a,xs,d,ec,C,by rw[ec];exact TV C,X6 C q⟩
  ·unfold PyVbcsaf.answers PyVbcsaf.calls;rw[e];show told (played _ _ (raw.map PyVbcsaf.whole))=_;rw[ew]
  ·unfold PyFlat.short at h5;exact of_decide_eq_true h5
end Pm
set_option maxRecDepth 100000
namespace L2
open PySem PySem.Spec PyProof.Rows
abbrev Key:=Sum Int Str
def Ox:Key->Value->Bool
 | .inl k,v=>Value.isInt k v
 | .inr x,v=>Value.isStrOf x v
def J1o (w:World):Key->Int
 | .inl k=>hashInt k
 | .inr x=>hashStr w x
theorem YD: ∀{k:Key} {v:Value},Ox k v=true->(∃i t,k=Sum.inl i/\v=Value.int i t)∨(∃x t,k=Sum.inr x/\v=Value.str x t)
 | .inl i,v,h=>by
  obtain⟨t,e⟩:=Value.isInt_shape (k:=i) (v:=v) h;exact .inl ⟨i,t,rfl,e⟩
 | .inr x,v,h=>by
  obtain⟨t,e⟩:=Value.isStrOf_shape (x:=x) (v:=v) h;exact .inr ⟨x,t,rfl,e⟩
theorem TF (i:Int) (t:Tok):Ox (.inl i) (.int i t)=true:=by simp[Ox,Value.isInt]
theorem Tl (x:Str) (t:Tok):Ox (.inr x) (.str x t)=true:=by simp[Ox,Value.isStrOf]
theorem J0c (a b:Int):decide ((Sum.inl a:Key)=Sum.inl b)=(a==b):=by
 by_cases e:a=b
 ·subst e;simp
 ·have h: ¬(Sum.inl a:Key)=Sum.inl b:=fun q=>e (Sum.inl.inj q);rw[decide_eq_false h];exact(beq_eq_false_iff_ne.mpr e).symm
theorem XH (a b:Str):decide ((Sum.inr a:Key)=Sum.inr b)=decide (a=b):=by
 by_cases e:a=b
 ·subst e;simp
 ·have h: ¬(Sum.inr a:Key)=Sum.inr b:=fun q=>e (Sum.inr.inj q);rw[decide_eq_false h,decide_eq_false e]
theorem XG (a:Int) (b:Str):decide ((Sum.inl a:Key)=Sum.inr b)=false:=decide_eq_false (fun q=>nomatch q)
theorem J0a (a:Str) (b:Int):decide ((Sum.inr a:Key)=Sum.inl b)=false:=decide_eq_false (fun q=>nomatch q)
def Z4 (prog:Program) (w:World):PySem.KeyKind prog w Key where
 is:=Ox
 hash:=J1o w
 inj:=fun v a b ha hb=>by
  rcases YD ha with⟨i,t,rfl,rfl⟩|⟨x,t,rfl,rfl⟩
  ·rcases YD hb with⟨j,u,rfl,e⟩|⟨y,u,rfl,e⟩
   ·injection e with e1 _;rw[e1]
   ·exact nomatch e
  ·rcases YD hb with⟨j,u,rfl,e⟩|⟨y,u,rfl,e⟩
   ·exact nomatch e
   ·injection e with e1 _;rw[e1]
 byValue:=fun k v h=>by
  rcases YD h with⟨i,t,rfl,rfl⟩|⟨x,t,rfl,rfl⟩<;>rfl
 pyHash:=fun hv h=>by
  rcases YD hv with⟨i,t,rfl,rfl⟩|⟨x,t,rfl,rfl⟩
  ·exact wpAny_pyHash_int h
  ·exact wpAny_pyHash_str h
 eqBool:=fun hu hv h=>by
  rcases YD hu with⟨i,t,rfl,rfl⟩|⟨x,t,rfl,rfl⟩
  ·rcases YD hv with⟨j,u,rfl,rfl⟩|⟨y,u,rfl,rfl⟩
   ·rw[J0c] at h;exact wpAny_eqBool_int h
   ·rw[XG] at h;exact SeqAt.EqAt.int_str i t y u _ _ _ _ h
  ·rcases YD hv with⟨j,u,rfl,rfl⟩|⟨y,u,rfl,rfl⟩
   ·rw[J0a] at h;exact SeqAt.EqAt.str_int x t j u _ _ _ _ h
   ·rw[XH] at h;exact wpAny_eqBool_str h
 «strs» :=fun k x t v h=>by
  rcases YD h with⟨i,u,rfl,e⟩|⟨y,u,rfl,e⟩
  ·exact nomatch e
  ·injection e with e1 _
   subst e1;cases v<;>rfl
theorem RM (prog:Program) (w:World) (i:Int) (t:Tok):(Z4 prog w).is (.inl i) (.int i t)=true:=TF i t
theorem QQ (prog:Program) (w:World) (x:Str) (t:Tok):(Z4 prog w).is (.inr x) (.str x t)=true:=Tl x t
end L2
namespace L2
open PySem PySem.Spec PyProof.Rows
inductive V where
 |non|bl (b:Bool)|int (i:Int)|str (x:Str)|byt (b:Array UInt8)|flt (b:UInt64)|ref (a:Addr)|ty (n:String)
 deriving DecidableEq
def RelV:V->Value->Prop
 | .non,u=>u=Value.none
 | .bl b,u=>u=Value.bool b
 | .int i,u=> ∃t,u=Value.int i t
 | .str x,u=> ∃t,u=Value.str x t
 | .byt b,u=> ∃t,u=Value.bytes b t
 | .flt b,u=> ∃t,u=Value.float b t
 | .ref a,u=>u=Value.ref a
 | .ty n,u=>u=Value.type n
abbrev Vals:List V->List Value->Prop:=Paired RelV
theorem Vals.length {xs:List V} {us:List Value} (r:Vals xs us):xs.length=us.length:=Paired.length r
theorem Vals.get: ∀{xs:List V} {us:List Value} {i:Nat} {x:V},Vals xs us->xs[i]?=some x-> ∃u,us[i]?=some u/\RelV x u
 |_,_,_,_, .nil,e=>by simp at e
 |_,_,0,_, .cons r _,e=>by simp at e;subst e;exact⟨_,rfl,r⟩
 |_,_,i+1,x, .cons _ t,e=>by
  obtain⟨u,h1,h2⟩:=Vals.get (i:=i) (x:=x) t (by simpa using e);exact⟨u,by simpa using h1,h2⟩
theorem Vals.set {x:V} {u:Value} (r:RelV x u): ∀{xs:List V} {us:List Value} (i:Nat),Vals xs us->Vals (xs.set i x) (us.set i u)
 |_,_,_, .nil=> .nil
 |_,_,0, .cons _ t=> .cons r t
 |_,_,i+1, .cons q t=> .cons q (Vals.set r i t)
theorem Vals.append: ∀{xs ys:List V} {us ws:List Value},Vals xs us->Vals ys ws->Vals (xs++ys) (us++ws)
 |_,_,_,_, .nil,s=>s
 |_,_,_,_, .cons r t,s=> .cons r (Vals.append t s)
theorem Vals.take: ∀{xs:List V} {us:List Value} (n:Nat),Vals xs us->Vals (xs.take n) (us.take n)
 |_,_,0,_=> .nil
 |_,_,_+1, .nil=> .nil
 |_,_,n+1, .cons r t=> .cons r (Vals.take n t)
theorem Vals.drop: ∀{xs:List V} {us:List Value} (n:Nat),Vals xs us->Vals (xs.drop n) (us.drop n)
 |_,_,0,r=>r
 |_,_,_+1, .nil=> .nil
 |_,_,n+1, .cons _ t=>Vals.drop n t
def RelO:Option V->Option Value->Prop
 |some v,some u=>RelV v u
 |none,none=>True
 |_,_=>False
def KV {κ:Type}:List (κ×V)->List (κ×Value)->Prop:=Paired fun(p:κ×V) (q:κ×Value)=>p.1=q.1/\RelV p.2 q.2
def kV:Key->V
 | .inl i=> .int i
 | .inr x=> .str x
inductive HO where
 |lst (xs:List V)
 |tup (xs:List V)
 |dK (kvs:List (Key×V))|dT (kvs:List (List Key×V))
 |set (S:Int->Bool) (n:Nat)
 |ins (C dx:Addr) (fs:List (Str×V))
 |own (x:Addr)
 |xd (fs:List (Str×V))
 |met (f x:Addr)
 |rng (lo hi:Int)
 |frz (o:Obj) (u:HO)
 |tbl (ps:Array Value)
 |ext (φ:Heap->Prop)
abbrev Hp:=Addr->Option HO
def upd (H:Hp) (a:Addr) (o:HO):Hp:=fun b=>if b=a then some o else H b
theorem J2 {H:Hp} {a:Addr} {o:HO}:upd H a o a=some o:=by unfold upd;rw[if_pos rfl]
theorem Ja {H:Hp} {a b:Addr} {o:HO} (h:b≠a):upd H a o b=H b:=by unfold upd;rw[if_neg h]
theorem Jz {H:Hp} {a:Addr} {o u:HO}:upd (upd H a o) a u=upd H a u:=by
 funext b;unfold upd;split<;>rfl
theorem JY {H:Hp} {a b:Addr} {o u:HO} (h:H a=some o) (h':H b=some u) (d:o≠u):a≠b:=by
 intro e;subst e;rw[h] at h';exact d (Option.some.inj h')
theorem Jv {H:Hp} {a b:Addr} {o:HO} (h:H a=some o) (h':H b=none):a≠b:=by
 intro e;subst e;rw[h] at h';cases h'
section
variable (P:Program) (w:World)
def ObjOk (H:Hp) (h:Heap) (a:Addr):HO->Prop
 | .lst xs=>xs.length<=sizeLine/\ ∃(its:List Value) (n:Nat),Vals xs its/\h.get? a=some {cls:= .type "list",data:= .seq its.toArray n}
 | .tup xs=>xs.length<=sizeLine/\ ∃its:List Value,Vals xs its/\IsTup h a its.toArray
 | .dK kvs=>kvs.length<=sizeLine/\(a==sysModules)=false/\ ∃vs,KV kvs vs/\h.DictOf (Z4 P w) a vs
 | .dT kvs=>kvs.length<=sizeLine/\(a==sysModules)=false/\ ∃xs:List (List Key×Addr×Value),
   Paired (fun(p:List Key×V) (q:List Key×Addr×Value)=>p.1=q.1/\H q.2.1=some (.tup (p.1.map kV))/\RelV p.2 q.2.2) kvs xs/\
   ∃o es ep,h.get? a=some o/\o.ExactDict/\o.data= .dict es ep/\es.toList=xs.map (entryOfKey (tupleKind (Z4 P w)))/\(xs.map (·.1)).Nodup
 | .set S n=>h.SetOf (intKind P w) a S n
 | .ins C dx fs=>H dx=some (.own a)/\fs.length<=1000/\dx≠a/\h.get? a=some (PySem.W.instObj C dx)/\
   ∃mA,h.Ns1 dx mA/\(∀f,RelO (fs.lookup f) (mA f))/\PySem.Within mA (fs.map (·.1))
 | .own _=> ∃o,h.get? a=some o
 | .xd fs=> ∃mA,h.Ns1 a mA/\ ∀f,RelO (fs.lookup f) (mA f)
 | .rng lo hi=> ∃t u v,h.get? a=some {cls:= .type "range",data:= .fields #[.int lo t, .int hi u, .int 1 v]}
 | .frz o u=>h.get? a=some o/\ObjOk H h a u
 | .tbl ps=>h.get? a=some {cls:= .none,data:= .fields ps}
 | .met f x=>h.get? a=some (PySem.W.methodObj (.ref f) (.ref x))
 | .ext φ=>φ h/\(∃o,h.get? a=some o)/\ ∀h1 h2:Heap,φ h1->(∀o,h1.get? a=some o->h2.get? a=some o)->φ h2
def HOk (H:Hp) (h:Heap):Prop:= ∀a o,H a=some o->ObjOk P w H h a o
end
section
variable {P:Program} {w:World} {H H':Hp} {h h':Heap} {a:Addr} {o:HO}
theorem ObjOk.lt (x:ObjOk P w H h a o):a<h.objs.size:=by
 cases o with
 |lst xs=>obtain⟨_,_,_,_,e⟩:=x;exact Heap.lt_size e
 |tup xs=>obtain⟨_,_,_,p⟩:=x;exact p.lt
 |dK kvs=>obtain⟨_,_,_,_,o,_,_,e,_⟩:=x;exact Heap.lt_size e
 |dT kvs=>obtain⟨_,_,_,_,o,_,_,e,_⟩:=x;exact Heap.lt_size e
 |set S n=>obtain⟨o,_,_,_,e,_⟩:=x;exact Heap.lt_size e
 |ins C dx fs=>obtain⟨_,_,_,e,_⟩:=x;exact Heap.lt_size e
 |own y=>obtain⟨_,e⟩:=x;exact Heap.lt_size e
 |xd fs=>obtain⟨_,⟨_,_,_,e,_⟩,_⟩:=x;exact Heap.lt_size e
 |rng lo hi=>obtain⟨_,_,_,e⟩:=x;exact Heap.lt_size e
 |frz ob u=>obtain⟨e,_⟩:=x;exact Heap.lt_size e
 |tbl ps=>exact Heap.lt_size (show h.get? a=some _ from x)
 |met f y=>exact Heap.lt_size (show h.get? a=some _ from x)
 |ext φ=>obtain⟨_,⟨_,e⟩,_⟩:=x;exact Heap.lt_size e
theorem Paired.mapP {α β:Type} {F G:α->β->Prop}: ∀{l₁:List α} {l₂:List β},Paired F l₁ l₂->(∀a b,F a b->G a b)->Paired G l₁ l₂
 |_,_, .nil,_=> .nil
 |_,_, .cons r t,f=> .cons (f _ _ r) (Paired.mapP t f)
theorem ObjOk.stay (x:ObjOk P w H h a o) (k: ∀b u,(b=a∨H b=some (.own a))->h.get? b=some u->h'.get? b=some u)
  (ho: ∀b,H b=some (.own a)->H' b=some (.own a)) (ht: ∀b xs,H b=some (.tup xs)->H' b=some (.tup xs)):ObjOk P w H' h' a o:=by
 induction o with
 |lst xs=>obtain⟨z,its,n,r,e⟩:=x;exact⟨z,its,n,r,k _ _ (.inl rfl) e⟩
 |tup xs=>obtain⟨z,its,r,ob,e,c⟩:=x;exact⟨z,its,r,ob,k _ _ (.inl rfl) e,c⟩
 |dK kvs=>obtain⟨z,y,vs,r,ob,es,ep,e,c⟩:=x;exact⟨z,y,vs,r,ob,es,ep,k _ _ (.inl rfl) e,c⟩
 |dT kvs=>
  obtain⟨z,y,xs,r,ob,es,ep,e,c⟩:=x;exact⟨z,y,xs,Paired.mapP r fun p q z=>⟨z.1,ht _ _ z.2.1,z.2.2⟩,ob,es,ep,k _ _ (.inl rfl) e,c⟩
 |set S n=>obtain⟨ob,es,ep,t,e,c⟩:=x;exact⟨ob,es,ep,t,k _ _ (.inl rfl) e,c⟩
 |ins C dx fs=>
  obtain⟨d,z,ne,e,mA,⟨od,es,ep,e2,c⟩,r⟩:=x;exact⟨ho _ d,z,ne,k _ _ (.inl rfl) e,mA,⟨od,es,ep,k _ _ (.inr d) e2,c⟩,r⟩
 |own y=>obtain⟨ob,e⟩:=x;exact⟨ob,k _ _ (.inl rfl) e⟩
 |xd fs=>obtain⟨mA,⟨od,es,ep,e,c⟩,r⟩:=x;exact⟨mA,⟨od,es,ep,k _ _ (.inl rfl) e,c⟩,r⟩
 |rng lo hi=>obtain⟨t,u,v,e⟩:=x;exact⟨t,u,v,k _ _ (.inl rfl) e⟩
 |frz ob u ih=>obtain⟨e,q⟩:=x;exact⟨k _ _ (.inl rfl) e,ih q⟩
 |tbl ps=>
  have e:h.get? a=some {cls:= .none,data:= .fields ps}:=x;show h'.get? a=some {cls:= .none,data:= .fields ps};exact k a _ (.inl rfl) e
 |met f y=>
  have e:h.get? a=some (PySem.W.methodObj (.ref f) (.ref y)):=x;show h'.get? a=some (PySem.W.methodObj (.ref f) (.ref y));exact k a _ (.inl rfl) e
 |ext φ=>obtain⟨p,⟨o,e⟩,st⟩:=x;exact⟨st _ _ p fun o q=>k _ _ (.inl rfl) q,⟨o,k _ _ (.inl rfl) e⟩,st⟩
theorem HOk.lt (x:HOk P w H h) (e:H a=some o):a<h.objs.size:=(x a o e).lt
theorem HOk.fresh (x:HOk P w H h) (e:h.objs.size<=a):H a=none:=by
 cases q:H a with
 |none=>rfl
 |some u=>exact absurd (Nat.lt_of_lt_of_le (x.lt q) e) (Nat.lt_irrefl _)
theorem HOk.kept (x:HOk P w H h) (k: ∀b u,h.get? b=some u->h'.get? b=some u):HOk P w H h':=fun a o e=>
 (x a o e).stay (fun b u _ q=>k b u q) (fun _ q=>q) fun _ _ q=>q
theorem HOk.laid (x:HOk P w H h) (k: ∀b u,h.get? b=some u->h'.get? b=some u) (hp:h.objs.size<=a) (new:ObjOk P w (upd H a o) h' a o):HOk P w (upd H a o) h':=fun b u e=>by
 have hn:=x.fresh hp;by_cases hb:b=a
 ·subst hb;rw[J2] at e;cases e;exact new
 ·rw[Ja hb] at e;exact(x b u e).stay (fun c v _ q=>k c v q) (fun c q=>by rw[Ja (Jv q hn)];exact q) fun c xs q=>by rw[Ja (Jv q hn)];exact q
end
def Rd (H:Hp) (a:Addr) (u:HO):Prop:=H a=some u∨ ∃o,H a=some (.frz o u)
theorem Rd.ok {P:Program} {w:World} {H:Hp} {h:Heap} {a:Addr} {u:HO} (r:Rd H a u) (x:HOk P w H h):ObjOk P w H h a u:=by
 rcases r with r|⟨o,r⟩
 ·exact x a u r
 ·obtain⟨_,q⟩:=x a _ r;exact q
def Mut:Option HO->Prop
 |some (.lst _)=>True
 |some (.dK _)=>True
 |some (.dT _)=>True
 |some (.set _ _)=>True
 |some (.ins _ _ _)=>True
 |some (.ext _)=>True
 |_=>False
section
variable {P:Program} {w:World} {H:Hp} {h h':Heap} {x e:Addr} {o':HO}
theorem HOk.write (ok:HOk P w H h) (mu:Mut (H x)) (he:e=x∨H e=some (.own x)) (k: ∀b u,b≠e->h.get? b=some u->h'.get? b=some u) (heo: ∃u,h'.get? e=some u)
  (new:ObjOk P w (upd H x o') h' x o'):HOk P w (upd H x o') h':=fun b u q=>by
 have nown: ∀c y,H c=some (.own y)->c≠x:=fun c y r z=>by subst z;rw[r] at mu;exact mu
 have ntup: ∀c xs,H c=some (.tup xs)->c≠x:=fun c xs r z=>by subst z;rw[r] at mu;exact mu
 by_cases hb:b=x
 ·subst hb;rw[J2] at q;cases q;exact new
 ·rw[Ja hb] at q;by_cases hbe:b=e
  ·have q':H b=some (.own x):=by
    rcases he with z|z
    ·exact absurd (hbe.trans z) hb
    ·rw[hbe];exact z
   rw[q] at q';cases q';obtain⟨v,hv⟩:=heo;exact⟨v,by rw[hbe];exact hv⟩
  ·refine(ok b u q).stay (fun c v hc r=>k c v ?_ r) (fun c r=>by rw[Ja (nown c b r)];exact r) fun c xs r=>by rw[Ja (ntup c xs r)];exact r
   rcases hc with rfl|hc
   ·exact hbe
   ·rintro rfl;rcases he with z|z
    ·exact nown c b hc z
    ·rw[hc] at z;cases z;exact hb rfl
end
structure Un (fs ex:List Addr) (H H':Hp) (h h':Heap):Prop where
 keep: ∀b o,h.get? b=some o->H b=none->b∉fs->b∉ex->h'.get? b=some o
 slot: ∀b o,h.get? b=some o->H b=none->b∈fs->b∉ex-> ∃sl,h'.get? b=some {o with slots:=sl}
 free: ∀b o,h.get? b=some o->H b=none->b∉ex->H' b=none
 there: ∀b o,h.get? b=some o->b∉ex-> ∃o',h'.get? b=some o'
 tups: ∀b xs,H b=some (.tup xs)->H' b=some (.tup xs)
 frzs: ∀b o u,H b=some (.frz o u)->H' b=some (.frz o u)
 tbls: ∀b ps,H b=some (.tbl ps)-> ∃more,H' b=some (.tbl (ps++more))
section
variable {fs fs' ex ex':List Addr} {H H1 H2:Hp} {h h1 h2 h':Heap} {a x e:Addr} {o:HO}
theorem Un.any (u:Un fs ex H H1 h h1) {b:Addr} {ob:Obj} (q:h.get? b=some ob) (n:H b=none) (hx:b∉ex): ∃sl,h1.get? b=some {ob with slots:=sl}:=by
 by_cases hb:b∈fs
 ·exact u.slot b ob q n hb hx
 ·exact⟨ob.slots,u.keep b ob q n hb hx⟩
theorem Un.kept (k: ∀b u,h.get? b=some u->h'.get? b=some u):Un fs ex H H h h':=
 ⟨fun b ob q _ _ _=>k b ob q,fun b ob q _ _ _=>⟨ob.slots,k b ob q⟩,fun _ _ _ n _=>n,fun b ob q _=>⟨ob,k b ob q⟩,fun _ _ q=>q,fun _ _ _ q=>q,fun _ ps q=>⟨#[],by rw[q];simp⟩⟩
theorem Un.refl:Un fs ex H H h h:=Un.kept fun _ _ q=>q
theorem Un.laid (k: ∀b u,h.get? b=some u->h'.get? b=some u) (hp:h.objs.size<=a) (hn:H a=none):Un fs ex H (upd H a o) h h' where
 keep:=fun b u q _ _ _=>k b u q
 slot:=fun b u q _ _ _=>⟨u.slots,k b u q⟩
 free:=fun b u q n _=>by rw[Ja (Nat.ne_of_lt (Nat.lt_of_lt_of_le (Heap.lt_size q) hp))];exact n
 there:=fun b u q _=>⟨u,k b u q⟩
 tups:=fun b xs q=>by rw[Ja (Jv q hn)];exact q
 frzs:=fun b u xs q=>by rw[Ja (Jv q hn)];exact q
 tbls:=fun b ps q=>⟨#[],by rw[Ja (Jv q hn),q];simp⟩
theorem Un.write (mu:Mut (H x)) (he:e=x∨H e=some (.own x)) (k: ∀b u,b≠e->h.get? b=some u->h'.get? b=some u) (heo: ∃u,h'.get? e=some u):Un fs ex H (upd H x o) h h':=by
 have hx: ∀b,H b=none->b≠x:=fun b n z=>by subst z;rw[n] at mu;exact mu
 have hb: ∀b,H b=none->b≠e:=fun b n z=>by
  subst z;rcases he with r|r
  ·exact hx b n r
  ·rw[n] at r;cases r
 have hm: ∀b u,H b=some u-> ¬Mut (some u)->b≠x:=fun b u q nm z=>by subst z;rw[q] at mu;exact nm mu
 refine⟨fun b u q n _ _=>k b u (hb b n) q,fun b u q n _ _=>⟨u.slots,k b u (hb b n) q⟩,fun b u q n _=>by rw[Ja (hx b n)];exact n,fun b u q _=>?_,
  fun b xs q=>by rw[Ja (hm b _ q fun z=>z)];exact q,fun b u xs q=>by rw[Ja (hm b _ q fun z=>z)];exact q,fun b ps q=>⟨#[],by rw[Ja (hm b _ q fun z=>z),q];simp⟩⟩
 by_cases hbe:b=e
 ·subst hbe;exact heo
 ·exact⟨u,k b u hbe q⟩
end
def trk (h:Heap) (H:Hp):List Addr:=(List.range h.objs.size).filter fun a=>(H a).isSome
def Q5 (h:Heap) (H:Hp):Heap:=PySem.W.hideAll h (trk h H)
theorem Tz (h:Heap) (H:Hp):(Q5 h H).objs.size=h.objs.size:=PySem.W.hideAll_size _ _
theorem VA {h:Heap} {H:Hp} {b:Addr} {o:Obj} (e:h.get? b=some o) (n:H b=none):(Q5 h H).get? b=some o:=
 PySem.W.hideAll_get _ e fun hm=>by
  have q:(H b).isSome=true:=(List.mem_filter.mp hm).2;rw[n] at q;simp at q
theorem WS {h:Heap} {H:Hp} {b:Addr} {o:Obj} (e:(Q5 h H).get? b=some o):h.get? b=some o/\H b=none:=by
 have e':h.get? b=some o:=PySem.W.of_hideAll (trk h H) e;refine⟨e',?_⟩;cases q:H b with
 |none=>rfl
 |some x=>
  have hm:b∈trk h H:=List.mem_filter.mpr ⟨List.mem_range.mpr (Heap.lt_size e'),by simp[q]⟩;have z:(Q5 h H).get? b=none:=PySem.W.hideAll_none (trk h H) hm;rw[z] at e;cases e
end L2
namespace L2
open PySem PySem.Spec PyProof.Rows
structure Mod (K:PySem.W.Frag) (mg:Str->Option Value) (base:Heap):Prop where
 kin:K.In base
 glob:base.Ns mainGlobals mg
 blt: ∃mb,base.Ns builtinsNs mb/\ ∀x:Str,x≠"__name__"->mb x=bootBuiltins x
 nolimit:base.NoLimit
structure Cx where
 prog:Program
 w:World
 K:PySem.W.Frag
 mg:Str->Option Value
 base:Heap
 A:Around
 N:List Str
 s_0:Shared
 H_0:Hp
 env:Env
 outer:List Env
 stack:List Env
 ex:List Addr
 fn:Str->Bool
 calm:Bool
 pn:List (Addr×Obj)
 xe:Value->Shared->Prop
def Wq (l:List Env):List Addr:=l.filterMap (·.frame)
abbrev Cx.fs (X:Cx):List Addr:=Wq X.outer
def Vis (sc:Scope) (x:Str):Prop:=sc.names.lookup x=some .local∨sc.names.lookup x=some .cell∨sc.names.lookup x=some .free
def Loc (sc:Scope) (x:Str):Prop:=sc.names.lookup x=some .local∨sc.names.lookup x=some .cell
def Look (env:Env) (h:Heap) (m:Str->Option Value) (x:Str) (u:Value):Prop:=
 (env.kindOf x=some .local/\m x=some u)∨((env.kindOf x=some .cell∨env.kindOf x=some .free)/\ ∃c,env.cells.lookup x=some c/\h.IsCell c (some u))
structure Cx.Ok (X:Cx):Prop where
 mod:Mod X.K X.mg X.base
 kind:X.env.scope.kind= .function
 glob:X.env.globals=mainGlobals
 blt:X.env.builtins=builtinsNs
 above:X.s_0.heap.objs.size<=X.env.locals
 inj: ∀x y c,X.env.cells.lookup x=some c->X.env.cells.lookup y=some c->x=y
 has: ∀x,(X.env.kindOf x=some .cell∨X.env.kindOf x=some .free)-> ∃c,X.env.cells.lookup x=some c
 cab: ∀x c,X.fn x=true->X.env.cells.lookup x=some c->X.s_0.heap.objs.size<=c
 hd:X.calm=true->X.A.handled=none
 frames:X.A.frames=some X.stack
 stk:X.stack=X.outer∨(X.stack=X.env::X.outer/\X.env.frame=some X.env.locals)
 exf: ∀b∈X.ex,b≠X.env.locals/\ ∀x c,X.env.cells.lookup x=some c->c≠b
 bs: ∀b o,X.base.get? b=some o->X.s_0.heap.get? b=some o/\X.H_0 b=none
 bsz:X.base.objs.size<=X.s_0.heap.objs.size
 noex: ∀b o,X.base.get? b=some o->b∉X.ex
 exfs: ∀b∈X.ex,b∉X.fs
 funs:X.s_0.heap.FunFrames X.base X.outer
 frf: ∀b∈X.fs,X.H_0 b=none
structure Inv (X:Cx) (pins:List (Addr×Obj)) (σ:List (Option V)) (H:Hp) (s:Shared):Prop where
 ok:X.Ok
 os:s.os=X.s_0.os
 bare:AllBare s.gens
 base:Un X.fs X.ex X.H_0 H X.s_0.heap s.heap
 loc: ∃m,s.heap.Ns X.env.locals m/\ ∀(i:Nat) (x:Str) (v:V),X.N[i]?=some x->σ[i]?=some (some v)->Vis X.env.scope x-> ∃u,RelV v u/\Look X.env s.heap m x u
 cell: ∀x c,X.env.cells.lookup x=some c-> ∃v,s.heap.IsCell c v
 free:H X.env.locals=none
 freeC: ∀x c,X.env.cells.lookup x=some c->H c=none
 pin: ∀p∈X.pn++pins,s.heap.get? p.1=some p.2/\H p.1=none/\p.1≠X.env.locals/\p.1∉X.fs/\ ∀v,p.2.data≠ .cell v
 hok:HOk X.prog X.w H s.heap
 len:σ.length=X.N.length
section
variable {X:Cx} {pins:List (Addr×Obj)} {σ:List (Option V)} {H H':Hp} {s:Shared} {h':Heap}
theorem Cx.Ok.nofr (ok:X.Ok) {b:Addr} {o:Obj} (e:X.base.get? b=some o):b∉X.fs:=fun hb=>by
 have:=(ok.funs.mem hb).1;rw[e] at this;cases this
theorem Inv.bs (I:Inv X pins σ H s): ∀b o,X.base.get? b=some o->s.heap.get? b=some o/\H b=none:=fun b o e=>
 ⟨I.base.keep b o (I.ok.bs b o e).1 (I.ok.bs b o e).2 (I.ok.nofr e) (I.ok.noex b o e),I.base.free b o (I.ok.bs b o e).1 (I.ok.bs b o e).2 (I.ok.noex b o e)⟩
theorem Inv.bk (I:Inv X pins σ H s): ∀b o,X.base.get? b=some o->s.heap.get? b=some o:=fun b o e=>(I.bs b o e).1
theorem Inv.mod (I:Inv X pins σ H s):Mod X.K X.mg X.base:=I.ok.mod
theorem Inv.kIn (I:Inv X pins σ H s):X.K.In s.heap:=I.ok.mod.kin.keeps I.bk
theorem Inv.lt (I:Inv X pins σ H s):X.env.locals<s.heap.objs.size:=let ⟨_,hn,_⟩:=I.loc;hn.lt
theorem Inv.sz (I:Inv X pins σ H s):X.s_0.heap.objs.size<=s.heap.objs.size:=Nat.le_trans I.ok.above (Nat.le_of_lt I.lt)
theorem Inv.nofs (I:Inv X pins σ H s) {a:Addr} (h:s.heap.objs.size<=a):a∉X.fs:=fun hb=>by
 obtain⟨_,o,ho,_⟩:=I.ok.funs.mem hb;exact absurd (Nat.lt_of_lt_of_le (Heap.lt_size ho) (Nat.le_trans I.sz h)) (Nat.lt_irrefl _)
theorem Inv.cne (I:Inv X pins σ H s): ∀x c,X.env.cells.lookup x=some c->c≠X.env.locals:=fun x c e z=>by
 obtain⟨v,o,ho,hd⟩:=I.cell x c e;obtain⟨m,⟨o',es,ep,ho',hd',_⟩,_⟩:=I.loc;rw[z,ho'] at ho;cases ho;rw[hd'] at hd;cases hd
theorem Inv.funs (I:Inv X pins σ H s):s.heap.FunFrames X.base X.outer:=by
 have all: ∀(l:List Env),(∀b∈Wq l,b∈X.fs)->X.s_0.heap.FunFrames X.base l->s.heap.FunFrames X.base l:=by
  intro l
  induction l with
  |nil=>intro _ _;trivial
  |cons env r ih=>
   intro hs hl;obtain⟨hk,⟨L,o,hf,hn,ho,hd⟩,hr⟩:=hl;have hL:L∈X.fs:=hs L (by unfold Wq;rw[List.filterMap_cons,hf];exact List.mem_cons_self);obtain⟨sl,e⟩:=I.base.slot L o ho (I.ok.frf L hL) hL fun z=>I.ok.exfs L z hL;exact⟨hk,⟨L,_,hf,hn,e,hd⟩,ih (fun b hb=>hs b (by unfold Wq;rw[List.filterMap_cons,hf];exact List.mem_cons_of_mem _ hb)) hr⟩
 exact all X.outer (fun _ hb=>hb) I.ok.funs
theorem Inv.stack (I:Inv X pins σ H s):s.heap.FunFrames X.base X.stack:=by
 rcases I.ok.stk with e|⟨e,hf⟩
 ·rw[e];exact I.funs
 ·rw[e];obtain⟨m,hn,_⟩:=I.loc;refine .cons (by rw[I.ok.kind];decide) hf hn ?_ I.funs;exact Heap.get?_none_of_le (Nat.le_trans I.ok.bsz I.ok.above)
theorem Inv.stkSub (I:Inv X pins σ H s): ∀b∈Wq X.stack,b∈X.env.locals::X.fs:=fun b hb=>by
 rcases I.ok.stk with e|⟨e,hf⟩
 ·rw[e] at hb;exact List.mem_cons_of_mem _ hb
 ·rw[e] at hb;unfold Wq at hb;rw[List.filterMap_cons,hf] at hb;exact hb
theorem Inv.stkFree (I:Inv X pins σ H s): ∀b∈Wq X.stack,H b=none:=fun b hb=>by
 rcases List.mem_cons.mp (I.stkSub b hb) with e|hb
 ·rw[e];exact I.free
 ·obtain⟨_,o,ho,_⟩:=I.ok.funs.mem hb;exact I.base.free b o ho (I.ok.frf b hb) fun z=>I.ok.exfs b z hb
theorem Inv.step {g':Array GenState} {t':Nat} {d':Drawn} {ch:List Addr} (I:Inv X pins σ H s)
  (hch: ∀b∈ch,(b∈X.ex∨X.s_0.heap.objs.size<=b)/\b≠X.env.locals/\(∀x c,X.env.cells.lookup x=some c->c≠b)/\ ∀p∈X.pn++pins,p.1≠b)
  (keep: ∀b o,b≠X.env.locals->b∉X.fs->b∉ch->s.heap.get? b=some o->H b=none->h'.get? b=some o)
  (slot: ∀b o,b≠X.env.locals->b∈X.fs->b∉ch->s.heap.get? b=some o->H b=none-> ∃sl,h'.get? b=some {o with slots:=sl}) (free: ∀b o,b∉ch->s.heap.get? b=some o->H b=none->H' b=none)
  (there: ∀b o,b∉ch->s.heap.get? b=some o-> ∃o',h'.get? b=some o')
  (tups: ∀b xs,H b=some (.tup xs)->H' b=some (.tup xs)) (frzs: ∀b o u,H b=some (.frz o u)->H' b=some (.frz o u)) (tbls: ∀b ps,H b=some (.tbl ps)-> ∃more,H' b=some (.tbl (ps++more)))
  (ns: ∀m,s.heap.Ns X.env.locals m->h'.Ns X.env.locals m) (hok:HOk X.prog X.w H' h') (hg:AllBare g'):
  Inv X pins σ H' {s with heap:=h',gens:=g',drawn:=d',toks:=t'}:=by
 have neL: ∀b o,X.s_0.heap.get? b=some o->b≠X.env.locals:=fun b o e=>Nat.ne_of_lt (Nat.lt_of_lt_of_le (Heap.lt_size e) I.ok.above)
 have neC: ∀b o,X.s_0.heap.get? b=some o->b∉X.ex->b∉ch:=fun b o e hx hb=>by
  rcases(hch b hb).1 with z|z
  ·exact hx z
  ·exact absurd (Nat.lt_of_lt_of_le (Heap.lt_size e) z) (Nat.lt_irrefl _)
 have cellK: ∀x c,X.env.cells.lookup x=some c-> ∀v,s.heap.IsCell c v->h'.IsCell c v:=fun x c e v ⟨o,ho,hd⟩=>by
  have nch:c∉ch:=fun z=>(hch c z).2.2.1 x c e rfl;by_cases hc:c∈X.fs
  ·obtain⟨sl,q⟩:=slot c o (I.cne x c e) hc nch ho (I.freeC x c e);exact⟨_,q,hd⟩
  ·exact⟨o,keep c o (I.cne x c e) hc nch ho (I.freeC x c e),hd⟩
 refine⟨I.ok,I.os,hg,⟨fun b o e n hb hx=>?_,fun b o e n hb hx=>?_,fun b o e n hx=>?_,fun b o e hx=>?_,fun b xs e=>tups b xs (I.base.tups b xs e),fun b o xs e=>frzs b o xs (I.base.frzs b o xs e),fun b ps e=>?_⟩,?_,fun x c e=>?_,?_,fun x c e=>?_,fun p hp=>?_,hok,I.len⟩
 ·exact keep b o (neL b o e) hb (neC b o e hx) (I.base.keep b o e n hb hx) (I.base.free b o e n hx)
 ·obtain⟨sl,e1⟩:=I.base.slot b o e n hb hx;obtain⟨sl',e2⟩:=slot b _ (neL b o e) hb (neC b o e hx) e1 (I.base.free b o e n hx);exact⟨sl',e2⟩
 ·obtain⟨o',e1⟩:=I.base.there b o e hx;exact free b o' (neC b o e hx) e1 (I.base.free b o e n hx)
 ·obtain⟨o',e1⟩:=I.base.there b o e hx;exact there b o' (neC b o e hx) e1
 ·obtain⟨m1,e1⟩:=I.base.tbls b ps e;obtain⟨m2,e2⟩:=tbls b _ e1;exact⟨m1++m2,by rw[e2,Array.append_assoc]⟩
 ·obtain⟨m,hn,hl⟩:=I.loc;refine⟨m,ns m hn,fun i x v e1 e2 e3=>?_⟩;obtain⟨u,r,l⟩:=hl i x v e1 e2 e3;refine⟨u,r,?_⟩;rcases l with l|⟨k,c,e,z⟩
  ·exact .inl l
  ·exact .inr ⟨k,c,e,cellK x c e _ z⟩
 ·obtain⟨v,z⟩:=I.cell x c e;exact⟨v,cellK x c e v z⟩
 ·obtain⟨m,⟨o,_,_,ho,_⟩,_⟩:=I.loc;exact free _ o (fun z=>(hch _ z).2.1 rfl) ho I.free
 ·obtain⟨v,o,ho,hd⟩:=I.cell x c e;exact free c o (fun z=>(hch c z).2.2.1 x c e rfl) ho (I.freeC x c e)
 ·obtain⟨e,n,ne,nf,d⟩:=I.pin p hp;have nch:p.1∉ch:=fun z=>(hch p.1 z).2.2.2 p hp rfl;exact⟨keep p.1 p.2 ne nf nch e n,free p.1 p.2 nch e n,ne,nf,d⟩
theorem Inv.un {t':Nat} (I:Inv X pins σ H s) (u:Un X.fs [] H H' s.heap h') (hok:HOk X.prog X.w H' h'):Inv X pins σ H' {s with heap:=h',toks:=t'}:=by
 obtain⟨m,⟨o,es,ep,ho,r⟩,_⟩:=id I.loc;obtain⟨sl,hL⟩:=u.any ho I.free (by simp)
 exact I.step (g':=s.gens) (d':=s.drawn) (ch:=[]) (fun _ z=>nomatch z) (fun b o _ hb _ e n=>u.keep b o e n hb (by simp)) (fun b o _ hb _ e n=>u.slot b o e n hb (by simp)) (fun b o _ e n=>u.free b o e n (by simp)) (fun b o _ e=>u.there b o e (by simp)) u.tups u.frzs u.tbls (fun m' hm=>by
  obtain⟨o',es',ep',ho',r'⟩:=hm;rw[ho] at ho';cases ho';exact⟨_,es',ep',hL,r'⟩) hok I.bare
theorem Inv.call {g':Array GenState} {t':Nat} {d':Drawn} {ch:List Addr} (I:Inv X pins σ H s) (u:Un (Wq X.stack) ch H H' s.heap h') (hok:HOk X.prog X.w H' h') (hg:AllBare g')
  (hch: ∀b∈ch,(b∈X.ex∨X.s_0.heap.objs.size<=b)/\b≠X.env.locals/\(∀x c,X.env.cells.lookup x=some c->c≠b)/\ ∀p∈X.pn++pins,p.1≠b):
  Inv X pins σ H' {s with heap:=h',gens:=g',drawn:=d',toks:=t'}:=by
 obtain⟨m,⟨o,es,ep,ho,r⟩,_⟩:=id I.loc;obtain⟨sl,hL⟩:=u.any ho I.free fun z=>(hch _ z).2.1 rfl
 exact I.step (ch:=ch) hch (fun b o hL hb hc e n=>u.keep b o e n (fun z=>(List.mem_cons.mp (I.stkSub b z)).elim hL hb) hc) (fun b o _ _ hc e n=>u.any e n hc) (fun b o hc e n=>u.free b o e n hc) (fun b o hc e=>u.there b o e hc) u.tups u.frzs u.tbls (fun m' hm=>by
  obtain⟨o',es',ep',ho',r'⟩:=hm;rw[ho] at ho';cases ho';exact⟨_,es',ep',hL,r'⟩) hok hg
theorem Inv.turned {t':Nat} {it:Addr} (I:Inv X pins σ H s) (k: ∀b o,b≠it->s.heap.get? b=some o->h'.get? b=some o) (hn:H it=none) (hL:it≠X.env.locals)
  (h1:it∈X.ex∨X.s_0.heap.objs.size<=it) (h2: ∀x c,X.env.cells.lookup x=some c->c≠it) (h3: ∀p∈X.pn++pins,p.1≠it):Inv X pins σ H {s with heap:=h',toks:=t'}:=by
 have nit: ∀b u,H b=some u->b≠it:=fun b u e z=>by rw[z,hn] at e;cases e
 refine I.step (g':=s.gens) (d':=s.drawn) (ch:=[it]) (fun b hb=>?_) (fun b o _ _ hc e _=>k b o (fun z=>hc (by simp[z])) e) (fun b o _ _ hc e _=>⟨o.slots,k b o (fun z=>hc (by simp[z])) e⟩) (fun _ _ _ _ n=>n)
  (fun b o hc e=>⟨o,k b o (fun z=>hc (by simp[z])) e⟩) (fun _ _ e=>e) (fun _ _ _ e=>e) (fun b ps e=>⟨#[],by rw[e];simp⟩) (fun m hm=>?_) (fun b u e=>?_) I.bare
 ·have e:b=it:=by simpa using hb
  subst e;exact⟨h1,hL,h2,h3⟩
 ·obtain⟨o,es,ep,ho,r⟩:=hm;exact⟨o,es,ep,k _ o (Ne.symm hL) ho,r⟩
 ·refine(I.hok b u e).stay (fun c v hc q=>k c v ?_ q) (fun _ q=>q) fun _ _ q=>q;rcases hc with z|z
  ·rw[z];exact nit b u e
  ·exact nit c _ z
theorem Inv.tok (I:Inv X pins σ H s) (t:Nat):Inv X pins σ H {s with toks:=t}:=I.un (h':=s.heap) (t':=t) Un.refl I.hok
theorem Inv.kept {t':Nat} (I:Inv X pins σ H s) (k: ∀b u,s.heap.get? b=some u->h'.get? b=some u):Inv X pins σ H {s with heap:=h',toks:=t'}:=I.un (Un.kept k) (I.hok.kept k)
theorem Inv.laid {a:Addr} {o:HO} {t':Nat} (I:Inv X pins σ H s) (k: ∀b u,s.heap.get? b=some u->h'.get? b=some u) (hp:s.heap.objs.size<=a) (new:ObjOk X.prog X.w (upd H a o) h' a o):
  Inv X pins σ (upd H a o) {s with heap:=h',toks:=t'}:=I.un (Un.laid k hp (I.hok.fresh hp)) (I.hok.laid k hp new)
theorem Inv.write {x e:Addr} {o:HO} {t':Nat} (I:Inv X pins σ H s) (mu:Mut (H x)) (he:e=x∨H e=some (.own x)) (k: ∀b u,b≠e->s.heap.get? b=some u->h'.get? b=some u) (heo: ∃u,h'.get? e=some u)
  (new:ObjOk X.prog X.w (upd H x o) h' x o):Inv X pins σ (upd H x o) {s with heap:=h',toks:=t'}:=I.un (Un.write mu he k heo) (I.hok.write mu he k heo new)
theorem Inv.weak {σ':List (Option V)} (I:Inv X pins σ H s) (hl:σ'.length=σ.length) (w: ∀(i:Nat) v,σ'[i]?=some (some v)->σ[i]?=some (some v)):Inv X pins σ' H s:=
 ⟨I.ok,I.os,I.bare,I.base,let ⟨m,hn,hl'⟩:=I.loc;⟨m,hn,fun i x v e1 e2 e3=>hl' i x v e1 (w i v e2) e3⟩,I.cell,I.free,I.freeC,I.pin,I.hok,hl.trans I.len⟩
theorem Inv.pins_of {pins':List (Addr×Obj)} (I:Inv X pins σ H s) (h: ∀p∈pins',s.heap.get? p.1=some p.2/\H p.1=none/\p.1≠X.env.locals/\p.1∉X.fs/\ ∀v,p.2.data≠ .cell v):Inv X pins' σ H s:=
 ⟨I.ok,I.os,I.bare,I.base,I.loc,I.cell,I.free,I.freeC,fun p hp=>(List.mem_append.mp hp).elim (fun z=>I.pin p (List.mem_append_left _ z)) (h p),I.hok,I.len⟩
theorem Mi {N:List Str} (hN:N.Nodup) {i j:Nat} {x:Str} (a:N[i]?=some x) (b:N[j]?=some x):i=j:=by
 obtain⟨h1,e1⟩:=List.getElem?_eq_some_iff.mp a;obtain⟨h2,e2⟩:=List.getElem?_eq_some_iff.mp b;exact(List.getElem_inj hN).mp (e1.trans e2.symm)
theorem OY {M:Model} {A:Around} {E:Value->Shared->Prop} {i:Nat} {x:Str} {v:V} {u:Value} {Q:Unit->Shared->Prop} (I:Inv X pins σ H s) (hN:X.N.Nodup) (hi:X.N[i]?=some x) (hx:Loc X.env.scope x) (r:RelV v u)
  (h: ∀s',Inv X pins (σ.set i (some v)) H s'->(∃a,Heap.SameBut a s.heap s'.heap/\(a=X.env.locals∨X.env.cells.lookup x=some a))->Q () s') (hf:X.fn x=true∨X.env.scope.names.lookup x=some .local:=by first|exact .inl rfl|exact .inr rfl|assumption):wpAny M A (storeName X.env x u) Q E s:=by
 obtain⟨m,hn,hl⟩:=id I.loc;have hcls:(X.env.scope.kind== .class||(X.env.scope.kind== .module&&X.env.locals !=X.env.globals))=false:=by rw[I.ok.kind];rfl
 have hiσ:i<σ.length:=by rw[I.len];exact(List.getElem?_eq_some_iff.mp hi).1
 have cne:=I.cne
 have tracked: ∀{a:Addr} {h':Heap},(∃o,s.heap.get? a=some o/\H a=none)->Heap.SameBut a s.heap h'->HOk X.prog X.w H h':=fun{a h'} ha hs b ob e=>by
  obtain⟨_,_,hfree⟩:=ha;refine(I.hok b ob e).stay (fun c w' hc q=>(hs.2 c ?_).trans q) (fun _ q=>q) fun _ _ q=>q;rintro rfl;rcases hc with rfl|hc
  ·rw[hfree] at e;cases e
  ·rw[hfree] at hc;cases hc
 rcases hx with hk|hk
 ·refine wpAny_storeName_local hk hn (fun h' hn' hs=>?_) hcls;obtain⟨oL,_,_,hoL,_⟩:=id hn;refine h _ ⟨I.ok,I.os,I.bare,⟨fun b o e n hb hx=>?_,fun b o e n hb hx=>?_,I.base.free,fun b o e hx=>?_,I.base.tups,I.base.frzs,I.base.tbls⟩,⟨_,hn',fun j y v' e1 e2 e3=>?_⟩,fun y c e=>?_,I.free,I.freeC,fun p hp=>?_,tracked ⟨oL,hoL,I.free⟩ hs,by simpa using I.len⟩ ⟨_,hs, .inl rfl⟩
  ·exact(hs.2 b (Nat.ne_of_lt (Nat.lt_of_lt_of_le (Heap.lt_size e) I.ok.above))).trans (I.base.keep b o e n hb hx)
  ·obtain⟨sl,e1⟩:=I.base.slot b o e n hb hx;exact⟨sl,(hs.2 b (Nat.ne_of_lt (Nat.lt_of_lt_of_le (Heap.lt_size e) I.ok.above))).trans e1⟩
  ·obtain⟨o',e1⟩:=I.base.there b o e hx;exact⟨o',(hs.2 b (Nat.ne_of_lt (Nat.lt_of_lt_of_le (Heap.lt_size e) I.ok.above))).trans e1⟩
  ·by_cases hj:j=i
   ·subst hj;rw[hi] at e1;cases e1;rw[List.getElem?_set_self hiσ] at e2;cases e2;exact⟨u,r, .inl ⟨hk,by simp⟩⟩
   ·rw[List.getElem?_set_ne (Ne.symm hj)] at e2;obtain⟨u',r',q⟩:=hl j y v' e1 e2 e3;refine⟨u',r',?_⟩;rcases q with⟨k,e⟩|⟨k,c,e,z⟩
    ·refine .inl ⟨k,?_⟩;have:y≠x:=fun e=>hj (Mi hN e1 (e▸hi));simp[this,e]
    ·exact .inr ⟨k,c,e,z.sameBut hs (cne y c e)⟩
  ·obtain⟨w',z⟩:=I.cell y c e;exact⟨w',z.sameBut hs (cne y c e)⟩
  ·obtain⟨e,n,ne,nf,d⟩:=I.pin p hp;exact⟨(hs.2 p.1 ne).trans e,n,ne,nf,d⟩
 ·have hfn:X.fn x=true:=by
   rcases hf with z|z
   ·exact z
   ·rw[z] at hk;cases hk
  obtain⟨c,hc⟩:=I.ok.has x (.inl hk);obtain⟨w',z⟩:=I.cell x c hc;refine wpAny_storeName_cell I.ok.kind hk hc z (fun h' hc' hs=>?_);obtain⟨oc,hoc,hocd⟩:=id z;refine h {s with heap:=h'} ⟨I.ok,I.os,I.bare,⟨fun b o e n hb hx=>?_,fun b o e n hb hx=>?_,I.base.free,fun b o e hx=>?_,I.base.tups,I.base.frzs,I.base.tbls⟩,⟨m,hn.sameBut hs (Ne.symm (cne x c hc)),fun j y v' e1 e2 e3=>?_⟩,fun y c' e=>?_,I.free,I.freeC,fun p hp=>?_,tracked ⟨oc,hoc,I.freeC x c hc⟩ hs,by simpa using I.len⟩ ⟨c,hs, .inr hc⟩
  ·exact(hs.2 b (Nat.ne_of_lt (Nat.lt_of_lt_of_le (Heap.lt_size e) (I.ok.cab x c hfn hc)))).trans (I.base.keep b o e n hb hx)
  ·obtain⟨sl,e1⟩:=I.base.slot b o e n hb hx;exact⟨sl,(hs.2 b (Nat.ne_of_lt (Nat.lt_of_lt_of_le (Heap.lt_size e) (I.ok.cab x c hfn hc)))).trans e1⟩
  ·obtain⟨o',e1⟩:=I.base.there b o e hx;exact⟨o',(hs.2 b (Nat.ne_of_lt (Nat.lt_of_lt_of_le (Heap.lt_size e) (I.ok.cab x c hfn hc)))).trans e1⟩
  ·by_cases hj:j=i
   ·subst hj;rw[hi] at e1;cases e1;rw[List.getElem?_set_self hiσ] at e2;cases e2;exact⟨u,r, .inr ⟨.inl hk,c,hc,hc'⟩⟩
   ·rw[List.getElem?_set_ne (Ne.symm hj)] at e2;obtain⟨u',r',q⟩:=hl j y v' e1 e2 e3;refine⟨u',r',?_⟩;rcases q with q|⟨k,c',e,z'⟩
    ·exact .inl q
    ·refine .inr ⟨k,c',e,z'.sameBut hs ?_⟩;rintro rfl;exact hj (Mi hN e1 (I.ok.inj _ _ _ e hc▸hi))
  ·by_cases hcc:c'=c
   ·subst hcc;exact⟨_,hc'⟩
   ·obtain⟨w2,z2⟩:=I.cell y c' e;exact⟨w2,z2.sameBut hs hcc⟩
  ·obtain⟨e,n,ne,nf,d⟩:=I.pin p hp;refine⟨(hs.2 p.1 ?_).trans e,n,ne,nf,d⟩;intro q;rw[q,hoc] at e;have q':oc=p.2:=Option.some.inj e;exact d w' (by rw[<-q'];exact hocd)
theorem Nf {M:Model} {A:Around} {E:Value->Shared->Prop} {i:Nat} {x:Str} {v:V} {u:Value} {Q:Unit->Shared->Prop} (I:Inv X pins σ H s) (hN:X.N.Nodup) (hi:X.N[i]?=some x) (hx:Loc X.env.scope x) (r:RelV v u)
  (h: ∀s',Inv X pins (σ.set i (some v)) H s'->Q () s') (hf:X.fn x=true∨X.env.scope.names.lookup x=some .local:=by first|exact .inl rfl|exact .inr rfl|assumption):wpAny M A (storeName X.env x u) Q E s:=
 OY I hN hi hx r (fun s' I' _=>h s' I') hf
theorem Inv.call' {s':Shared} {ch:List Addr} (I:Inv X pins σ H s) (ho:s'.os=s.os) (u:Un (Wq X.stack) ch H H' s.heap s'.heap) (hok:HOk X.prog X.w H' s'.heap) (hg:AllBare s'.gens)
  (hch: ∀b∈ch,(b∈X.ex∨X.s_0.heap.objs.size<=b)/\b≠X.env.locals/\(∀x c,X.env.cells.lookup x=some c->c≠b)/\ ∀p∈X.pn++pins,p.1≠b):Inv X pins σ H' s':=by
 obtain⟨h',g',d',t',o'⟩:=s';have e:o'=s.os:=ho;subst e;exact I.call (g':=g') (t':=t') (d':=d') u hok hg hch
end
abbrev XK:=Value->Option Addr->Hp->Prop
abbrev St:=List (Option V)
abbrev VK:=V->Hp->Prop
abbrev TE:=St->Hp->VK->Prop
abbrev TT:=St->Hp->(Bool->Hp->Prop)->Prop
abbrev TA:=St->Hp->(List V->Hp->Prop)->Prop
structure Ends where
 nx:St->Hp->Prop
 rt:VK
 bk:St->Hp->Prop:=fun _ _=>False
 ct:St->Hp->Prop:=fun _ _=>False
abbrev TS:=Ends->St->Hp->Prop
def EP (X:Cx) (pins:List (Addr×Obj)) (σ:St) (Q:VK) (u:Value) (s':Shared):Prop:= ∃v H',Inv X pins σ H' s'/\RelV v u/\Q v H'
def TP (X:Cx) (pins:List (Addr×Obj)) (σ:St) (Q:Bool->Hp->Prop) (b:Bool) (s':Shared):Prop:= ∃H',Inv X pins σ H' s'/\Q b H'
def AP (X:Cx) (pins:List (Addr×Obj)) (σ:St) (Q:List V->Hp->Prop) (us:List Value) (s':Shared):Prop:= ∃vs H',Inv X pins σ H' s'/\Vals vs us/\Q vs H'
def SP (X:Cx) (pins:List (Addr×Obj)) (D:Ends) (f:Flow) (s':Shared):Prop:=
 match f with
 | .next=> ∃σ' H',Inv X pins σ' H' s'/\D.nx σ' H'
 | .brk=> ∃σ' H',Inv X pins σ' H' s'/\D.bk σ' H'
 | .cont=> ∃σ' H',Inv X pins σ' H' s'/\D.ct σ' H'
 | .ret u=> ∃v σ' H',Inv X pins σ' H' s'/\RelV v u/\D.rt v H'
def PE (X:Cx) (e:Expr) (t:TE):Prop:=
 ∀(pins:List (Addr×Obj)) (s:Shared) (σ:St) (H:Hp) (Q:VK),Inv X pins σ H s->t σ H Q->wpAny (model X.prog X.w) X.A (eval e X.env) (EP X pins σ Q) X.xe s
def PT (X:Cx) (e:Expr) (t:TT):Prop:=
 ∀(pins:List (Addr×Obj)) (s:Shared) (σ:St) (H:Hp) (Q:Bool->Hp->Prop),Inv X pins σ H s->t σ H Q->wpAny (model X.prog X.w) X.A (isTrue e X.env (eval e X.env)) (TP X pins σ Q) X.xe s
def PW (X:Cx) (e:Expr) (t:TT):Prop:=
 ∀(whole:Sem Value) (pins:List (Addr×Obj)) (s:Shared) (σ:St) (H:Hp) (Q:Bool->Hp->Prop),Inv X pins σ H s->t σ H Q->wpAny (model X.prog X.w) X.A (isTrue e X.env whole) (TP X pins σ Q) X.xe s
theorem PW.pt {X:Cx} {e:Expr} {t:TT} (h:PW X e t):PT X e t:=h _
def PA (X:Cx) (es:List Expr) (t:TA):Prop:=
 ∀(pos:Pos) (pins:List (Addr×Obj)) (s:Shared) (σ:St) (H:Hp) (Q:List V->Hp->Prop),Inv X pins σ H s->t σ H Q->wpAny (model X.prog X.w) X.A (spliced (backTo pos (starEach es X.env))) (AP X pins σ Q) X.xe s
def PS (X:Cx) (st:Stmt) (t:TS):Prop:=
 ∀(pins:List (Addr×Obj)) (s:Shared) (σ:St) (H:Hp) (D:Ends),Inv X pins σ H s->t D σ H->wpAny (model X.prog X.w) X.A (exec st X.env) (SP X pins D) X.xe s
def PSs (X:Cx) (st:List Stmt) (t:TS):Prop:=
 ∀(pins:List (Addr×Obj)) (s:Shared) (σ:St) (H:Hp) (D:Ends),Inv X pins σ H s->t D σ H->wpAny (model X.prog X.w) X.A (execs st X.env) (SP X pins D) X.xe s
theorem Yz {α:Type} {t:Sem α} {Q Q':α->Shared->Prop} {M:Model} {A:Around} {E:Value->Shared->Prop} {s:Shared} (h:wpAny M A t Q E s) (hQ: ∀a s,Q a s->Q' a s):wpAny M A t Q' E s:=wpAny_mono h hQ fun _ _ x=>x
end L2
namespace L2
open PySem PySem.Spec PyProof.Rows
section
variable {X:Cx}
def Jf (i:Nat):TE:=fun σ H Q=> ∃v,σ[i]?=some (some v)/\Q v H
def tC (v:V):TE:=fun _ H Q=>Q v H
theorem J03 {i:Nat} {x:Str} {pos:Pos} (hN:X.N[i]?=some x) (hv:Vis X.env.scope x) (hd:(x==("__debug__":Str))=false:=by decide) (hcd:(x==("__classdict__":Str))=false:=by decide):PE X (.Name x pos) (Jf i):=by
 intro pins s σ H Q I h;obtain⟨v,e,h⟩:=h;obtain⟨m,hn,hl⟩:=I.loc;obtain⟨u,r,l⟩:=hl i x v hN e hv;have fin:EP X pins σ Q u s:=⟨v,H,I,r,h⟩;rcases l with⟨hk,hm⟩|⟨hk,c,hc,hcell⟩
 ·exact wpAny_Name (wpAny_loadName_local I.ok.kind hk hn hm fin) hd
 ·rcases hk with hk|hk
  ·exact wpAny_Name (wpAny_loadName_cell I.ok.kind hk hc hcell fin) hd
  ·exact wpAny_Name (wpAny_loadName_free I.ok.kind hk hc hcell fin hcd) hd
theorem J5 {i j pos}:PE X (.Constant (.int i) j pos) (tC (.int i)):=fun _ _ _ H _ I h=>wpAny_Constant_int ⟨.int i,H,I.tok _,⟨_,rfl⟩,h⟩
theorem Aj {b j pos}:PE X (.Constant (.bool b) j pos) (tC (.bl b)):=fun _ _ _ H _ I h=>Constant_bool ⟨.bl b,H,I,rfl,h⟩
theorem Nj {j pos}:PE X (.Constant .none j pos) (tC .non):=fun _ _ _ H _ I h=>Constant_none ⟨.non,H,I,rfl,h⟩
def Gl (X:Cx) (x:Str):Prop:=X.env.kindOf x=some .globalImplicit
theorem LC {E:Value->Shared->Prop} {pins:List (Addr×Obj)} {s:Shared} {σ:St} {H:Hp} {x:Str} {u:Value} {pos:Pos} {Q:Value->Shared->Prop} (I:Inv X pins σ H s) (hg:Gl X x) (hm:X.mg x=some u) (h:Q u s)
  (hd:(x==("__debug__":Str))=false:=by decide):wpAny (model X.prog X.w) X.A (eval (.Name x pos) X.env) Q E s:=
 Calls.Name_function_global I.ok.kind hg (Calls.loadGlobal_global (by rw[I.ok.glob];exact I.mod.glob.keeps I.bk) hm h) hd
theorem Ck {E:Value->Shared->Prop} {pins:List (Addr×Obj)} {s:Shared} {σ:St} {H:Hp} {x:Str} {u:Value} {pos:Pos} {Q:Value->Shared->Prop} (I:Inv X pins σ H s) (hg:Gl X x) (hm:X.mg x=none) (hv:bootBuiltins x=some u) (h:Q u s)
  (hn:x≠"__name__":=by decide) (hd:(x==("__debug__":Str))=false:=by decide):wpAny (model X.prog X.w) X.A (eval (.Name x pos) X.env) Q E s:=by
 obtain⟨mb,h1,h2⟩:=I.mod.blt;exact Calls.Name_function_global I.ok.kind hg (Calls.loadGlobal_builtin (by rw[I.ok.glob];exact I.mod.glob.keeps I.bk) hm (by rw[I.ok.blt];exact h1.keeps I.bk) ((h2 x hn).trans hv) h) hd
theorem T8 {x:Str} {v:V} {u:Value} {pos:Pos} (hg:Gl X x) (hm:X.mg x=some u) (r:RelV v u) (hd:(x==("__debug__":Str))=false:=by decide):PE X (.Name x pos) (tC v):=
 fun _ _ _ H _ I h=>LC I hg hm ⟨v,H,I,r,h⟩ hd
variable {a b:Expr} {ta tb:TE} {pos:Pos}
def PC (X:Cx) (op:CmpOp) (a b:Expr) (t:TE):Prop:=
 ∀(pins:List (Addr×Obj)) (s:Shared) (σ:St) (H:Hp) (Q:VK),Inv X pins σ H s->t σ H Q->
  wpAny (model X.prog X.w) X.A (eval a X.env) (fun v s₁=>wpAny (model X.prog X.w) X.A (eval b X.env) (fun u s₂=>wpAny (model X.prog X.w) X.A (compareOp op v u) (EP X pins σ Q) X.xe s₂) X.xe s₁) X.xe s
theorem WB (b:Expr) {op:CmpOp} (h:op≠ .In) (h2:op≠ .NotIn):behindInMarks op b=false:=by
 have e1:(op==CmpOp.In)=false:=by cases op<;>first|rfl|exact absurd rfl h
 have e2:(op==CmpOp.NotIn)=false:=by cases op<;>first|rfl|exact absurd rfl h2
 cases b<;>simp[behindInMarks,e1,e2]
def J1q (ta:TE):TE:=fun σ H Q=>ta σ H fun x H1=>Q (.bl (decide (x= .non))) H1
def XB (ta:TE):TE:=fun σ H Q=>ta σ H fun x H1=>Q (.bl (!decide (x= .non))) H1
theorem RelV.none_iff {x:V} {v:Value} (r:RelV x v):(v==Value.none)=decide (x= .non):=by
 cases x with
 |non=>cases r;rfl
 |bl _=>cases r;rfl
 |int _=>obtain⟨t,rfl⟩:=r;rfl
 |str _=>obtain⟨t,rfl⟩:=r;rfl
 |byt _=>obtain⟨t,rfl⟩:=r;rfl
 |flt _=>obtain⟨t,rfl⟩:=r;rfl
 |ref _=>cases r;rfl
 |ty _=>cases r;rfl
theorem YO {j pos'} (ha:PE X a ta):PC X .Is a (.Constant .none j pos') (J1q ta):=by
 intro pins s σ H Q I h;refine Yz (ha pins s σ H _ I h) fun v s1 ⟨x,H1,I1,r1,q1⟩=>?_;exact Constant_none (is_none_gen ⟨.bl _,H1,I1,by rw[r1.none_iff];rfl,q1⟩)
theorem C8 {j pos'} (ha:PE X a ta):PC X .IsNot a (.Constant .none j pos') (XB ta):=by
 intro pins s σ H Q I h;refine Yz (ha pins s σ H _ I h) fun v s1 ⟨x,H1,I1,r1,q1⟩=>?_;exact Constant_none (isnot_none_gen ⟨.bl _,H1,I1,by rw[r1.none_iff];rfl,q1⟩)
def tB (t:TE):TT:=fun σ H Q=>t σ H fun x H1=> ∃c,x= .bl c/\Q c H1
theorem Y5 {op:CmpOp} {t:TE} (h:PC X op a b t) (h1:behindInMarks op b=false:=by first|exact WB _ (by decide) (by decide)|rfl):PT X (.Compare a [op] [b] pos) (tB t):=by
 intro pins s σ H Q I hw;refine wpAny_isTrue_Compare1 (Yz (h pins s σ H _ I hw) fun v s1 h1=>Yz h1 fun u s2 h2=>Yz h2 fun c s3 ⟨x,H1,I1,r1,q1⟩=>?_) h1;obtain⟨d,rfl,q⟩:=q1;cases r1;exact wpAny_truthy_bool ⟨H1,I1,q⟩
theorem JT {e:Expr} {t:TE} (h:PE X e t) (he: ∀whole,isTrue e X.env whole=(do let v<-whole;standAt e.pos;holding [v] (truthy v)):=by intro _;rfl):PT X e (tB t):=by
 intro pins s σ H Q I hw;refine isTrue_plain (Yz (h pins s σ H _ I hw) fun v s1 ⟨x,H1,I1,r1,q1⟩=>?_) (he _);obtain⟨d,rfl,q⟩:=q1;cases r1;exact wpAny_truthy_bool ⟨H1,I1,q⟩
variable {tA tB':TT} {rest:List Expr}
def SJ (t u:TT):TT:=fun σ H Q=>t σ H fun c H1=>if c=true then u σ H1 Q else Q false H1
def tOr (t u:TT):TT:=fun σ H Q=>t σ H fun c H1=>if c=true then Q true H1 else u σ H1 Q
def XZ (t:TT):TT:=fun σ H Q=>t σ H fun c H1=>Q (!c) H1
theorem Zf (ha:PT X a tA):PW X (.BoolOp .And [a] pos) tA:=by
 intro wh pins s σ H Q I h;refine isTrue_and (Yz (ha pins s σ H Q I h) fun c s1 e=>?_);cases c with
 |true=>exact isTrue_and_nil e
 |false=>exact e
theorem IN (ha:PT X a tA):PW X (.BoolOp .Or [a] pos) tA:=by
 intro wh pins s σ H Q I h;refine isTrue_or (Yz (ha pins s σ H Q I h) fun c s1 e=>?_);cases c with
 |false=>exact isTrue_or_nil e
 |true=>exact e
theorem Zo (ha:PT X a tA) (hb:PW X (.BoolOp .And (b::rest) pos) tB'):PW X (.BoolOp .And (a::b::rest) pos) (SJ tA tB'):=by
 intro wh pins s σ H Q I h;refine isTrue_and (Yz (ha pins s σ H _ I h) fun c s1 ⟨H1,I1,q1⟩=>?_);cases c with
 |true=>exact hb wh pins s1 σ H1 Q I1 q1
 |false=>exact⟨H1,I1,q1⟩
theorem Pb (ha:PT X a tA) (hb:PW X (.BoolOp .Or (b::rest) pos) tB'):PW X (.BoolOp .Or (a::b::rest) pos) (tOr tA tB'):=by
 intro wh pins s σ H Q I h;refine isTrue_or (Yz (ha pins s σ H _ I h) fun c s1 ⟨H1,I1,q1⟩=>?_);cases c with
 |true=>exact⟨H1,I1,q1⟩
 |false=>exact hb wh pins s1 σ H1 Q I1 q1
theorem YS (ha:PT X a tA):PT X (.UnaryOp .Not a pos) (XZ tA):=by
 intro pins s σ H Q I h;exact isTrue_not (ha pins s σ H (fun c H1=>Q (!c) H1) I h)
def Xx (ta tb:TE):TE:=fun σ H Q=>ta σ H fun x H1=> ∃c,x= .bl c/\if c=true then tb σ H1 Q else Q (.bl false) H1
theorem Bl {op} {t:TE} (h:PE X a t):PE X (.BoolOp op [a] pos) t:=fun pins s σ H Q I hw=>BoolOp_one (h pins s σ H Q I hw)
theorem Ae (ha:PE X a ta) (hb:PE X (.BoolOp .And (b::rest) pos) tb):PE X (.BoolOp .And (a::b::rest) pos) (Xx ta tb):=by
 intro pins s σ H Q I h;refine BoolOp_and (Yz (ha pins s σ H _ I h) fun v s1 ⟨x,H1,I1,r1,q1⟩=>?_);obtain⟨c,rfl,q1⟩:=q1;cases r1;refine wpAny_truthy_bool ?_;cases c with
 |true=>exact hb pins s1 σ H1 Q I1 q1
 |false=>exact⟨.bl false,H1,I1,rfl,q1⟩
def tIf (t:TT) (ta tb:TE):TE:=fun σ H Q=>t σ H fun c H1=>if c=true then ta σ H1 Q else tb σ H1 Q
theorem VP {c:Expr} (hc:PT X c tA) (ha:PE X a ta) (hb:PE X b tb):PE X (.IfExp c a b pos) (tIf tA ta tb):=by
 intro pins s σ H Q I h;refine wpAny_IfExp (Yz (hc pins s σ H _ I h) fun d s1 ⟨H1,I1,q1⟩=>?_);cases d with
 |true=>exact ha pins s1 σ H1 Q I1 q1
 |false=>exact hb pins s1 σ H1 Q I1 q1
end
end L2
namespace L2
open PySem PySem.Spec PyProof.Rows
def SqL (K:PySem.W.Frag) (H:Hp) (a:Addr) (xs:List V):Prop:=
 Rd H a (.lst xs)∨
  ∃(o:Obj) (its:Array Value) (n:Nat),K.lookup a=some o/\o.cls= .type "list"/\o.dict=none/\o.data= .seq its n/\its.size<=sizeLine/\Vals xs its.toList
def SqT (K:PySem.W.Frag) (H:Hp) (a:Addr) (xs:List V):Prop:=
 Rd H a (.tup xs)∨
  ∃(o:Obj) (its:Array Value) (n:Nat),K.lookup a=some o/\o.cls= .type "tuple"/\o.data= .seq its n/\its.size<=sizeLine/\Vals xs its.toList
def J16:Value->Option V
 | .none=>some .non
 | .bool b=>some (.bl b)
 | .int i _=>some (.int i)
 | .str x _=>some (.str x)
 | .bytes b _=>some (.byt b)
 | .float b _=>some (.flt b)
 | .ref a=>some (.ref a)
 | .type n=>some (.ty n)
 |_=>none
theorem RelV.abs {x:V} {u:Value} (r:RelV x u):J16 u=some x:=by
 cases x with
 |non=>cases r;rfl
 |bl _=>cases r;rfl
 |int _=>obtain⟨t,rfl⟩:=r;rfl
 |str _=>obtain⟨t,rfl⟩:=r;rfl
 |byt _=>obtain⟨t,rfl⟩:=r;rfl
 |flt _=>obtain⟨t,rfl⟩:=r;rfl
 |ref _=>cases r;rfl
 |ty _=>cases r;rfl
theorem RelV.inj {x y:V} {u:Value} (r:RelV x u) (q:RelV y u):x=y:=Option.some.inj (r.abs.symm.trans q.abs)
theorem Vals.inj: ∀{xs ys:List V} {us:List Value},Vals xs us->Vals ys us->xs=ys
 |_,_,_, .nil, .nil=>rfl
 |_,_,_, .cons r t, .cons r' t'=>by rw[r.inj r',Vals.inj t t']
section
variable {X:Cx} {pins:List (Addr×Obj)} {σ:St} {H:Hp} {s:Shared} {a:Addr} {xs ys:List V}
theorem SqL.of {K:PySem.W.Frag} (h:H a=some (.lst xs)):SqL K H a xs:= .inl (.inl h)
theorem SqT.of {K:PySem.W.Frag} (h:H a=some (.tup xs)):SqT K H a xs:= .inl (.inl h)
theorem Inv.list (I:Inv X pins σ H s) (h:SqL X.K H a xs): ∃its:List Value,Vals xs its/\PlainL s.heap a its.toArray/\xs.length<=sizeLine:=by
 rcases h with h|⟨o,its,n,hk,hc,hd,hs,hz,r⟩
 ·obtain⟨z,its,n,r,e⟩:=h.ok I.hok;exact⟨its,r,⟨_,n,e,rfl,rfl,rfl⟩,z⟩
 ·refine⟨its.toList,r,⟨o,n,I.kIn a o hk,hc,hd,by simpa using hs⟩,?_⟩;have e:=r.length;simp only[Array.length_toList] at e;omega
theorem Inv.tuple (I:Inv X pins σ H s) (h:SqT X.K H a xs): ∃its:List Value,Vals xs its/\IsTup s.heap a its.toArray/\xs.length<=sizeLine:=by
 rcases h with h|⟨o,its,n,hk,hc,hs,hz,r⟩
 ·obtain⟨z,its,r,p⟩:=h.ok I.hok;exact⟨its,r,p,z⟩
 ·refine⟨its.toList,r,⟨o,I.kIn a o hk,hc,n,by simpa using hs⟩,?_⟩;have e:=r.length;simp only[Array.length_toList] at e;omega
theorem Inv.list_inj (I:Inv X pins σ H s) (h:SqL X.K H a xs) (h':SqL X.K H a ys):xs=ys:=by
 obtain⟨its,r,⟨o,n,e,_,_,d⟩,_⟩:=I.list h;obtain⟨its',r',⟨o',n',e',_,_,d'⟩,_⟩:=I.list h';rw[e] at e';cases e';rw[d] at d';injection d' with d1 _
 have:its=its':=by simpa using congrArg Array.toList d1
 subst this;exact r.inj r'
end
abbrev Cx.wish (X:Cx) (E:Value->Shared->Prop):Cx:={X with xe:=E}
abbrev Cx.nox (X:Cx):Cx:=X.wish fun _ _=>False
theorem Cx.Ok.wish {X:Cx} (ok:X.Ok) (E:Value->Shared->Prop):(X.wish E).Ok:=
 ⟨ok.mod,ok.kind,ok.glob,ok.blt,ok.above,ok.inj,ok.has,ok.cab,ok.hd,ok.frames,ok.stk,ok.exf,ok.bs,ok.bsz,ok.noex,ok.exfs,ok.funs,ok.frf⟩
theorem Cx.Ok.unwish {X:Cx} {E:Value->Shared->Prop} (ok:(X.wish E).Ok):X.Ok:=
 ⟨ok.mod,ok.kind,ok.glob,ok.blt,ok.above,ok.inj,ok.has,ok.cab,ok.hd,ok.frames,ok.stk,ok.exf,ok.bs,ok.bsz,ok.noex,ok.exfs,ok.funs,ok.frf⟩
section
variable {X:Cx} {pins:List (Addr×Obj)} {σ:St} {H:Hp} {s:Shared} {E:Value->Shared->Prop}
theorem Inv.wish (I:Inv X pins σ H s) (E:Value->Shared->Prop):Inv (X.wish E) pins σ H s:=⟨I.ok.wish E,I.os,I.bare,I.base,I.loc,I.cell,I.free,I.freeC,I.pin,I.hok,I.len⟩
theorem Inv.unwish (I:Inv (X.wish E) pins σ H s):Inv X pins σ H s:=⟨I.ok.unwish,I.os,I.bare,I.base,I.loc,I.cell,I.free,I.freeC,I.pin,I.hok,I.len⟩
theorem SP.unwish {D:Ends} {f:Flow} {s':Shared} (h:SP (X.wish E) pins D f s'):SP X pins D f s':=by
 cases f with
 |next=>obtain⟨σ',H',I,q⟩:=h;exact⟨σ',H',I.unwish,q⟩
 |brk=>obtain⟨σ',H',I,q⟩:=h;exact⟨σ',H',I.unwish,q⟩
 |cont=>obtain⟨σ',H',I,q⟩:=h;exact⟨σ',H',I.unwish,q⟩
 |ret u=>obtain⟨v,σ',H',I,r,q⟩:=h;exact⟨v,σ',H',I.unwish,r,q⟩
theorem PSs.nox {st:List Stmt} {t:TS} (h:PSs X.nox st t):PSs X st t:=fun pins s σ H D I hw=>
 wpAny_mono (h pins s σ H D (I.wish _) hw) (fun _ _ q=>q.unwish) fun _ _ z=>False.elim z
end
section
variable {X:Cx} {st:Stmt} {rest:List Stmt} {t u:TS} {e:Expr} {te:TE} {pos:Pos}
def B9:TS:=fun D σ H=>D.nx σ H
def Yr (t u:TS):TS:=fun D σ H=>t {D with nx:=u D} σ H
theorem Jb:PSs X [] B9:=fun _ _ σ H _ I h=>wpAny_execs_nil ⟨σ,H,I,h⟩
theorem J3 (h1:PS X st t) (h2:PSs X rest u):PSs X (st::rest) (Yr t u):=by
 intro pins s σ H D I h;refine wpAny_execs_cons (Yz (h1 pins s σ H {D with nx:=u D} I h) fun f s1 q=>?_);cases f with
 |next=>
  obtain⟨σ',H',I',q⟩:=q;exact h2 pins s1 σ' H' D I' q
 |ret v=>exact q
 |brk=>exact q
 |cont=>exact q
theorem J4 (h1:PS X st t):PSs X [st] t:=by
 intro pins s σ H D I h;refine wpAny_execs_cons (Yz (h1 pins s σ H D I h) fun f s1 q=>?_);cases f with
 |next=>exact wpAny_execs_nil q
 |ret v=>exact q
 |brk=>exact q
 |cont=>exact q
def J04:TS:=fun D σ H=>D.bk σ H
theorem WI:PS X (.Pass pos) B9:=fun _ _ σ H _ I h=>wpAny_Pass ⟨σ,H,I,h⟩
theorem VV:PS X (.Break pos) J04:=fun _ _ σ H _ I h=>wpAny_Break ⟨σ,H,I,h⟩
theorem Inv.quiet {pins:List (Addr×Obj)} {σ:St} {H:Hp} {s:Shared} (I:Inv X pins σ H s):interactive X.env=false:=by simp[interactive,I.ok.kind]
def OU (te:TE):TS:=fun D σ H=>te σ H fun _ H1=>D.nx σ H1
theorem Yi (he:PE X e te) (hs:swapsWith e none pos.line X.env=pure false:=by rfl):PS X (.Expr e pos) (OU te):=by
 intro pins s σ H D I h;exact wpAny_Expr_any (Yz (he pins s σ H _ I h) fun v s1 ⟨x,H1,I1,r1,q1⟩=>⟨σ,H1,I1,q1⟩) I.quiet hs
def AC (te:TE):TS:=fun D σ H=>te σ H D.rt
theorem J7 (he:PE X e te):PS X (.Return (some e) pos) (AC te):=by
 intro pins s σ H D I h;exact wpAny_Return_some (Yz (he pins s σ H _ I h) fun v s1 ⟨x,H1,I1,r1,q1⟩=>⟨x,σ,H1,I1,r1,q1⟩)
def Ls (c:TT) (t u:TS):TS:=fun D σ H=>c σ H fun b H1=>if b=true then t D σ H1 else u D σ H1
theorem Jm {c:Expr} {a b:List Stmt} {tc:TT} (hc:PT X c tc) (ha:PSs X a t) (hb:PSs X b u):PS X (.If c a b pos) (Ls tc t u):=by
 intro pins s σ H D I h;refine wpAny_If (Yz (hc pins s σ H _ I h) fun d s1 ⟨H1,I1,q1⟩=>?_);cases d with
 |true=>exact ha pins s1 σ H1 D I1 q1
 |false=>exact hb pins s1 σ H1 D I1 q1
end
abbrev TG:=V->St->Hp->(St->Hp->Prop)->Prop
abbrev TGs:=List V->St->Hp->(St->Hp->Prop)->Prop
def PG (X:Cx) (target:Expr) (t:TG):Prop:=
 ∀(pins:List (Addr×Obj)) (s:Shared) (σ:St) (H:Hp) (v:V) (u:Value) (Q:St->Hp->Prop),Inv X pins σ H s->RelV v u->t v σ H Q->
  wpAny (model X.prog X.w) X.A (assign target X.env u) (fun _ s'=> ∃σ' H',Inv X pins σ' H' s'/\Q σ' H') X.xe s
def PGs (X:Cx) (ts:List Expr) (t:TGs):Prop:=
 ∀(pins:List (Addr×Obj)) (s:Shared) (σ:St) (H:Hp) (vs:List V) (us:List Value) (Q:St->Hp->Prop),Inv X pins σ H s->Vals vs us->t vs σ H Q->
  wpAny (model X.prog X.w) X.A (assignInOrder ((assignEach ts X.env).map (·.2)) us) (fun _ s'=> ∃σ' H',Inv X pins σ' H' s'/\Q σ' H') X.xe s
abbrev TSet:=V->V->V->Hp->(Hp->Prop)->Prop
def PSet (X:Cx) (t:TSet):Prop:=
 ∀(pins:List (Addr×Obj)) (s:Shared) (σ:St) (H:Hp) (o i v:V) (ov iv u:Value) (Q:Hp->Prop),Inv X pins σ H s->RelV o ov->RelV i iv->RelV v u->t o i v H Q->
  wpAny (model X.prog X.w) X.A (setItem ov iv u) (fun _ s'=> ∃H',Inv X pins σ H' s'/\Q H') X.xe s
abbrev TIp:=V->V->Hp->VK->Prop
def PIp (X:Cx) (op:Operator) (t:TIp):Prop:=
 ∀(pins:List (Addr×Obj)) (s:Shared) (σ:St) (H:Hp) (x y:V) (v u:Value) (Q:VK),Inv X pins σ H s->RelV x v->RelV y u->t x y H Q->
  wpAny (model X.prog X.w) X.A (inplaceOp op v u) (EP X pins σ Q) X.xe s
section
variable {X:Cx} {pos:Pos}
def JA (i:Nat):TG:=fun v σ H Q=>Q (σ.set i (some v)) H
theorem WG {i:Nat} {x:Str} (hN:X.N.Nodup) (hi:X.N[i]?=some x) (hx:Loc X.env.scope x) (hf:X.fn x=true∨X.env.scope.names.lookup x=some .local:=by first|exact .inl rfl|exact .inr rfl|assumption):PG X (.Name x pos) (JA i):=by
 intro pins s σ H v u Q I r h;exact wpAny_assign_Name (Nf I hN hi hx r (fun s' I'=>⟨_,H,I',h⟩) hf)
def RW:TGs:=fun vs σ H Q=>vs=[]/\Q σ H
def Br (t:TG) (u:TGs):TGs:=fun vs σ H Q=> ∃v r,vs=v::r/\t v σ H fun σ' H'=>u r σ' H' Q
theorem Zh:PGs X [] RW:=by
 intro pins s σ H vs us Q I r h;obtain⟨e,h⟩:=h;subst e;cases r;exact assignInOrder_nil ⟨σ,H,I,h⟩
theorem JE {e:Expr} {es:List Expr} {t:TG} {u:TGs} (h1:PG X e t) (h2:PGs X es u)
  (hs:(assignEach (e::es) X.env).map (·.2)=assign e X.env::(assignEach es X.env).map (·.2):=by rfl):PGs X (e::es) (Br t u):=by
 intro pins s σ H vs us Q I r h;obtain⟨v,vr,e1,h⟩:=h;subst e1;cases r with
 |cons r rr=>
  rw[hs];refine assignInOrder_cons (Yz (h1 pins s σ H _ _ _ I r h) fun _ s1 ⟨σ1,H1,I1,q1⟩=>?_);exact h2 pins s1 σ1 H1 _ _ Q I1 rr q1
def Su (K:PySem.W.Frag) (n:Nat) (t:TGs):TG:=fun v σ H Q=> ∃a xs,v= .ref a/\SqT K H a xs/\xs.length=n/\t xs σ H Q
theorem Uc {es:List Expr} {k:Nat} {t:TGs} {n:Nat} (hc:X.calm=true) (h:PGs X es t)
  (hn:(assignEach es X.env).length=n:=by rfl) (hst:(assignEach es X.env).findIdx? (·.1)=none:=by rfl):PG X (.Tuple es k pos) (Su X.K n t):=by
 intro pins s σ H v u Q I r hw;obtain⟨a,xs,e1,hq,hl,hw⟩:=hw;subst e1;cases r;obtain⟨its,rv,ht,hz⟩:=I.tuple hq;refine assign_Tuple_tuple (I.ok.hd hc) ht (by simp[hn,<-hl,rv.length]) hst fun h' hx=>?_;have I1:Inv X pins σ H {s with heap:=h'}:=I.kept (t':=s.toks) fun b o e=>hx b o (Nat.ne_of_lt (Heap.lt_size e)) e;exact h pins _ σ H xs _ Q I1 (by simpa using rv) hw
def XO (to ti:TE) (t:TSet):TG:=fun v σ H Q=>to σ H fun o H1=>ti σ H1 fun i H2=>t o i v H2 fun H3=>Q σ H3
theorem Mo {o i:Expr} {to ti:TE} {t:TSet} (ho:PE X o to) (hi:PE X i ti) (hs:PSet X t)
  (ha: ∀v,assign (.Subscript o i pos) X.env v=(do
    let ov<-holding [v] (eval o X.env)
    let iv<-holding [v,ov] (eval i X.env)
    standAt pos
    holding [v,ov,iv] (setItem ov iv v)
    release [v,ov,iv] []):=by intro _;rfl):PG X (.Subscript o i pos) (XO to ti t):=by
 intro pins s σ H v u Q I r h;rw[ha];refine wpAny_bind (wpAny_holding (Yz (ho pins s σ H _ I h) fun ov s1 ⟨x,H1,I1,r1,q1⟩=>?_));refine wpAny_bind (wpAny_holding (Yz (hi pins s1 σ H1 _ I1 q1) fun iv s2 ⟨y,H2,I2,r2,q2⟩=>?_));refine wpAny_bind (wpAny_standAt (wpAny_bind (wpAny_holding (Yz (hs pins s2 σ H2 x y v ov iv u _ I2 r1 r2 r q2) fun _ s3 ⟨H3,I3,q3⟩=>?_))));exact wpAny_release ⟨σ,H3,I3,q3⟩
def Zw (te:TE) (g:TG):TS:=fun D σ H=>te σ H fun x H1=>g x σ H1 D.nx
theorem Mx {tg e:Expr} {te:TE} {g:TG} (he:PE X e te) (hg:PG X tg g) (hs:swapsWithSole [tg] e pos.line X.env=pure false:=by rfl) (hw:swappedStores [tg] e X.env=pure none:=by rfl)
  (h1:(assignEach [tg] X.env).map (·.2)=[assign tg X.env]:=by rfl):PS X (.Assign [tg] e pos) (Zw te g):=by
 intro pins s σ H D I h;refine wpAny_Assign_stores (Yz (he pins s σ H _ I h) fun v s1 ⟨x,H1,I1,r1,q1⟩=>?_) hs hw;rw[h1];exact Yz (hg pins s1 σ H1 x v _ I1 r1 q1) fun _ s2 q=>q
theorem J01 {i:Nat} {x:Str} {e:Expr} {te:TE} {pos':Pos} (hN:X.N.Nodup) (hi:X.N[i]?=some x) (hx:Loc X.env.scope x) (he:PE X e te) (hs:swapsWith e (some (.Name x pos')) pos.line X.env=pure false:=by rfl) (hf:X.fn x=true∨X.env.scope.names.lookup x=some .local:=by first|exact .inl rfl|exact .inr rfl|assumption):
  PS X (.Assign [.Name x pos'] e pos) (Zw te (JA i)):=by
 intro pins s σ H D I h;refine wpAny_Assign_Name (Yz (he pins s σ H _ I h) fun v s1 ⟨y,H1,I1,r1,q1⟩=>?_) hs;exact Nf I1 hN hi hx r1 (fun s2 I2=>⟨_,H1,I2,q1⟩) hf
def Vq (i:Nat) (te:TE) (ti:TIp):TS:=fun D σ H=> ∃x,σ[i]?=some (some x)/\te σ H fun y H1=>ti x y H1 fun z H2=>D.nx (σ.set i (some z)) H2
theorem Pn {i:Nat} {x:Str} {e:Expr} {te:TE} {op:Operator} {ti:TIp} {pos':Pos} (hN:X.N.Nodup) (hi:X.N[i]?=some x) (hx:Loc X.env.scope x) (he:PE X e te) (ho:PIp X op ti) (hf:X.fn x=true∨X.env.scope.names.lookup x=some .local:=by first|exact .inl rfl|exact .inr rfl|assumption):
  PS X (.AugAssign (.Name x pos') op e pos) (Vq i te ti):=by
 intro pins s σ H D I h;obtain⟨v,e1,h⟩:=h;obtain⟨m,hn,hl⟩:=I.loc;have vis:Vis X.env.scope x:=by rcases hx with k|k;exact .inl k;exact .inr (.inl k)
 obtain⟨u,r,l⟩:=hl i x v hi e1 vis;refine wpAny_AugAssign_Name ?_
 have go:wpAny (model X.prog X.w) X.A (eval e X.env) (fun w s₂=>wpAny (model X.prog X.w) X.A (inplaceOp op u w) (fun r s₃=>wpAny (model X.prog X.w) X.A (storeName X.env x r) (fun _=>SP X pins D .next) X.xe s₃) X.xe s₂) X.xe s:=by
  refine Yz (he pins s σ H _ I h) fun w s1 ⟨y,H1,I1,r1,q1⟩=>?_;refine Yz (ho pins s1 σ H1 v y u w _ I1 r r1 q1) fun z s2 ⟨zv,H2,I2,r2,q2⟩=>?_;exact Nf I2 hN hi hx r2 (fun s3 I3=>⟨_,H2,I3,q2⟩) hf
 rcases l with⟨hk,hm⟩|⟨hk,c,hc,hcell⟩
 ·exact wpAny_loadName_local I.ok.kind hk hn hm go
 ·rcases hk with hk|hk
  ·exact wpAny_loadName_cell I.ok.kind hk hc hcell go
  ·rcases hx with k|k
   ·have:X.env.scope.names.lookup x=some .free:=hk;rw[k] at this;cases this
   ·have:X.env.scope.names.lookup x=some .free:=hk;rw[k] at this;cases this
def Xr (to ti te:TE) (tget:V->V->Hp->VK->Prop) (tip:TIp) (tset:TSet):TS:=fun D σ H=>to σ H fun o H1=>ti σ H1 fun i H2=>tget o i H2 fun x H3=>te σ H3 fun y H4=>tip x y H4 fun z H5=>tset o i z H5 fun H6=>D.nx σ H6
def PGet (X:Cx) (t:V->V->Hp->VK->Prop):Prop:=
 ∀(pins:List (Addr×Obj)) (s:Shared) (σ:St) (H:Hp) (o i:V) (ov iv:Value) (Q:VK),Inv X pins σ H s->RelV o ov->RelV i iv->t o i H Q->
  wpAny (model X.prog X.w) X.A (getItem ov iv) (EP X pins σ Q) X.xe s
theorem Lw {o i e:Expr} {to ti te:TE} {tget:V->V->Hp->VK->Prop} {tip:TIp} {tset:TSet} {op:Operator} {tpos:Pos} (ho:PE X o to) (hi:PE X i ti) (hg:PGet X tget) (he:PE X e te) (hp:PIp X op tip) (hs:PSet X tset)
  (ha: ∀ov iv new,augStore i ov iv new=(do holding [new,ov,iv] (setItem ov iv new);release [new,ov,iv] [];pure .next):=by intros;rfl):PS X (.AugAssign (.Subscript o i tpos) op e pos) (Xr to ti te tget tip tset):=by
 intro pins s σ H D I h;refine wpAny_AugAssign_SubscriptAny (Yz (ho pins s σ H _ I h) fun ov s1 ⟨x1,H1,I1,r1,q1⟩=>?_) ha;refine Yz (hi pins s1 σ H1 _ I1 q1) fun iv s2 ⟨x2,H2,I2,r2,q2⟩=>?_;refine Yz (hg pins s2 σ H2 x1 x2 ov iv _ I2 r1 r2 q2) fun old s3 ⟨x3,H3,I3,r3,q3⟩=>?_;refine Yz (he pins s3 σ H3 _ I3 q3) fun v s4 ⟨x4,H4,I4,r4,q4⟩=>?_;refine Yz (hp pins s4 σ H4 x3 x4 old v _ I4 r3 r4 q4) fun new s5 ⟨x5,H5,I5,r5,q5⟩=>?_;exact Yz (hs pins s5 σ H5 x1 x2 x5 ov iv new _ I5 r1 r2 r5 q5) fun _ s6 ⟨H6,I6,q6⟩=>⟨σ,H6,I6,q6⟩
def ipI (f:Int->Int->Int):TIp:=fun x y H Q=> ∃i j,x= .int i/\y= .int j/\Q (.int (f i j)) H
theorem LS:PIp X .Add (ipI fun i j=>i+j):=by
 intro pins s σ H x y v u Q I r1 r2 h;obtain⟨i,j,e1,e2,q⟩:=h;subst e1;subst e2;obtain⟨t,rfl⟩:=r1;obtain⟨t',rfl⟩:=r2;exact iadd_int ⟨.int _,H,I.tok _,⟨_,rfl⟩,q⟩
theorem Wb:PIp X .Sub (ipI fun i j=>i-j):=by
 intro pins s σ H x y v u Q I r1 r2 h;obtain⟨i,j,e1,e2,q⟩:=h;subst e1;subst e2;obtain⟨t,rfl⟩:=r1;obtain⟨t',rfl⟩:=r2;exact isub_int ⟨.int _,H,I.tok _,⟨_,rfl⟩,q⟩
end
section
variable {X:Cx} {pos:Pos}
def VD (c:TT) (tb:TS):TS:=fun D σ H=> ∃W:Nat->St->Hp->Prop,(∃m,W m σ H)/\ ∀m σ H,W m σ H->
 c σ H fun b H1=>if b=true then∃N:St->Hp->Prop,(∀σ' H',N σ' H'-> ∃m',m'<m/\W m' σ' H')/\tb {D with nx:=N,ct:=N,bk:=D.nx} σ H1 else D.nx σ H1
theorem GK {c:Expr} {body:List Stmt} {tc:TT} {tb:TS} (hp:PassesOwn (model X.prog X.w) X.A X.env X.xe) (hc:PT X c tc) (hb:PSs X body tb):PS X (.While c body [] pos) (VD tc tb):=by
 intro pins s σ H D I h;obtain⟨W,⟨m0,w0⟩,turn⟩:=h;refine wpAny_While (codeAny_whileLoop (fun n s'=> ∃σ' H',Inv X pins σ' H' s'/\W n σ' H') ?_ m0 ⟨σ,H,I,w0⟩);rintro n s1 ⟨σ1,H1,I1,w1⟩;refine wpAny_passesOwn hp (Yz (hc pins s1 σ1 H1 _ I1 (turn n σ1 H1 w1)) fun b s2 ⟨H2,I2,q2⟩=>?_);cases b with
 |true=>
  obtain⟨N,hN,q2⟩:=q2;rw[if_pos rfl];refine wpAny_passesOwn hp (Yz (hb pins s2 σ1 H2 _ I2 q2) fun f s3 q3=>?_);cases f with
  |next=>
   obtain⟨σ3,H3,I3,n3⟩:=q3;obtain⟨m',hm,w3⟩:=hN σ3 H3 n3;exact⟨m',hm,σ3,H3,I3,w3⟩
  |cont=>
   obtain⟨σ3,H3,I3,n3⟩:=q3;obtain⟨m',hm,w3⟩:=hN σ3 H3 n3;exact⟨m',hm,σ3,H3,I3,w3⟩
  |brk=>exact q3
  |ret v=>exact q3
 |false=>
  rw[if_neg Bool.false_ne_true];exact wpAny_execs_nil ⟨σ1,H2,I2,q2⟩
end
structure It where
 go:Nat->Hp->Prop
 yld:Nat->Hp->V->Hp->Prop
 stop:Nat->Hp->Prop
def FpOk (X:Cx) (pins:List (Addr×Obj)) (H:Hp) (b:Addr):Prop:=
 H b=none/\b≠X.env.locals/\b∉X.fs/\(b∈X.ex∨X.s_0.heap.objs.size<=b)/\(∀x c,X.env.cells.lookup x=some c->c≠b)/\ ∀p∈X.pn++pins,p.1≠b
theorem Inv.fpOk {X:Cx} {pins:List (Addr×Obj)} {σ:St} {H H':Hp} {s:Shared} {b:Addr} (I:Inv X pins σ H s) (hb:s.heap.objs.size<=b) (hn:H' b=none):FpOk X pins H' b:=by
 refine⟨hn,Nat.ne_of_gt (Nat.lt_of_lt_of_le I.lt hb),I.nofs hb, .inr (Nat.le_trans I.sz hb),fun x c e z=>?_,fun p hp z=>?_⟩
 ·obtain⟨v,q⟩:=I.cell x c e;exact absurd (Nat.lt_of_lt_of_le q.lt (by rw[z];exact hb)) (Nat.lt_irrefl _)
 ·exact absurd (Nat.lt_of_lt_of_le (Heap.lt_size (I.pin p hp).1) (by rw[z];exact hb)) (Nat.lt_irrefl _)
structure Turn (P:Program) (w:World) (K:PySem.W.Frag) (tg:Expr) (J:It) (fp:List Addr) (it:Addr) (tn:Nat->Heap->Prop):Prop where
 mem:it∈fp
 obj: ∀i h,tn i h-> ∀b∈fp,∃o,h.get? b=some o/\ ∀v,o.data≠ .cell v
 keep: ∀i h h',tn i h->(∀b∈fp,∀o,h.get? b=some o->h'.get? b=some o)->tn i h'
 item: ∀(X:Cx),X.prog=P->X.w=w->X.K=K->X.calm=true-> ∀(i:Nat) (pins:List (Addr×Obj)) (s:Shared) (σ:St) (H:Hp) (E:Value->Shared->Prop),Inv X pins σ H s->(∀b∈fp,FpOk X pins H b)->tn i s.heap->J.go i H->
  wpAny (model P w) X.A (pyNext (.ref it)) (fun r s1=> ∃u,r=some u/\
   wpAny (model P w) X.A (letOwnedTupleGo tg (.ref it) u) (fun _ s2=> ∃x H',Inv X pins σ H' s2/\RelV x u/\J.yld i H x H'/\tn (i+1) s2.heap/\ ∀b∈fp,H' b=none) E s1) E s
 done: ∀(X:Cx),X.prog=P->X.w=w->X.K=K->X.calm=true-> ∀(i:Nat) (pins:List (Addr×Obj)) (s:Shared) (σ:St) (H:Hp) (E:Value->Shared->Prop),Inv X pins σ H s->(∀b∈fp,FpOk X pins H b)->tn i s.heap->J.stop i H->
  wpAny (model P w) X.A (pyNext (.ref it)) (fun r s1=>r=none/\Inv X pins σ H s1) E s
 self: ∀(A:Around) (i:Nat) (s:Shared) (Q:Value->Shared->Prop) (E:Value->Shared->Prop),tn i s.heap->Q (.ref it) s->wpAny (model P w) A (pyIter (.ref it)) Q E s
abbrev TI:=St->Hp->(It->Hp->Prop)->Prop
def PIE (X:Cx) (pins:List (Addr×Obj)) (σ:St) (tg:Expr) (R:It->Hp->Prop) (itv:Value) (s2:Shared):Prop:=
 ∃(it:Addr) (fp:List Addr) (tn:Nat->Heap->Prop) (J:It) (H':Hp),itv= .ref it/\Inv X pins σ H' s2/\Turn X.prog X.w X.K tg J fp it tn/\tn 0 s2.heap/\(∀b∈fp,FpOk X pins H' b)/\R J H'
def PI (X:Cx) (tg iter:Expr) (wi:TI):Prop:=
 ∀(pins:List (Addr×Obj)) (s:Shared) (σ:St) (H:Hp) (R:It->Hp->Prop),Inv X pins σ H s->wi σ H R->
  wpAny (model X.prog X.w) X.A (eval iter X.env) (fun v s1=>wpAny (model X.prog X.w) X.A (pyIter v) (PIE X pins σ tg R) X.xe s1) X.xe s
theorem SL {M:Model} {A:Around} {E:Value->Shared->Prop} {s:Shared} {tg:Expr} {it:Addr} {u:Value} {o:Obj} {n:String} {vs:Array Value} {Q:Unit->Shared->Prop} (ho:s.heap.get? it=some o) (hc:o.cls= .type n) (hd:o.data= .fields vs)
  (hn:["enumerate","zip","dict_itemiterator","dict_reverseitemiterator","odict_iterator","itertools.zip_longest","itertools.pairwise"].contains n=false) (hQ:Q () s):wpAny M A (letOwnedTupleGo tg (.ref it) u) Q E s:=by
 unfold letOwnedTupleGo
 cases tg<;>first
  |exact wpAny_pure hQ
  |(cases u<;>first
     |exact wpAny_pure hQ
     |(refine wpAny_bind (wpAny_load ho ?_)
       rw[hc,hd];show wpAny M A (if(["enumerate","zip","dict_itemiterator","dict_reverseitemiterator","odict_iterator","itertools.zip_longest","itertools.pairwise"].contains n&&vs[0]?==some (rawInt _))=true then _ else _) Q E s;rw[if_neg (by intro h;rw[hn,Bool.false_and] at h;cases h)];exact wpAny_pure hQ))
def Itl (K:PySem.W.Frag) (a:Addr):It:=
 ⟨fun i H=> ∃xs x,SqL K H a xs/\xs[i]?=some x,fun i H x H'=>H'=H/\ ∀xs,SqL K H a xs->xs[i]?=some x,fun i H=> ∃xs,SqL K H a xs/\xs.length<=i⟩
def Itr (lo:Int) (n:Nat):It:=⟨fun i _=>i<n,fun i H x H'=>H'=H/\x= .int (lo+i),fun i _=>n<=i⟩
theorem Tj {P:Program} {w:World} {K:PySem.W.Frag} {tg:Expr} (a it:Addr):Turn P w K tg (Itl K a) [it] it (fun i h=>h.IsListIter it a i) where
 mem:=by simp
 obj:=fun i h st b hb=>by
  have e:b=it:=by simpa using hb
  subst e;obtain⟨o,e,c,d⟩:=st;exact⟨o,e,fun v z=>by rw[d] at z;cases z⟩
 keep:=fun i h h' st k=>st.at fun o e=>k it (by simp) o e
 item:=by
  intro X hP hw hK hc i pins s σ H E I hf st hg;subst hP hw hK;obtain⟨xs,x,hq,hx⟩:=hg;obtain⟨its,rv,p,hz⟩:=I.list hq;obtain⟨u,hu,ru⟩:=rv.get hx;obtain⟨f0,f1,f2,f3,f4,f5⟩:=hf it (by simp);refine wpAny_pyNext_list_item st p.isList (x:=u) (by simpa using hu) fun h' st' sb=>?_;have I1:Inv X pins σ H {s with heap:=h'}:=I.turned (t':=s.toks) (fun b o hb e=>(sb.2 b hb).trans e) f0 f1 f3 f4 f5;obtain⟨o,e,c,d⟩:=id st';exact⟨u,rfl,SL (s:={s with heap:=h'}) e c d (by decide) ⟨x,H,I1,ru,⟨rfl,fun ys hy=>by rw[I.list_inj hy hq];exact hx⟩,st',fun b hb=>(hf b hb).1⟩⟩
 done:=by
  intro X hP hw hK hc i pins s σ H E I hf st hg;subst hP hw hK;obtain⟨xs,hq,hx⟩:=hg;obtain⟨its,rv,p,hz⟩:=I.list hq;obtain⟨f0,f1,f2,f3,f4,f5⟩:=hf it (by simp);have hl:=rv.length;exact wpAny_pyNext_list_end (I.ok.hd hc) st p.isList (by simp;omega) fun h' eb=>⟨rfl,I.turned (t':=s.toks) (fun b o hb e=>eb b o hb e) f0 f1 f3 f4 f5⟩
 self:=fun _ _ _ _ _ st h=>wpAny_pyIter_listiter st h
theorem RX {P:Program} {w:World} {K:PySem.W.Frag} {tg:Expr} (it:Addr) (lo:Int) (n:Nat):Turn P w K tg (Itr lo n) [it] it (fun i h=>IsRangeIter h it (lo+(i:Nat)*1) ((n:Int)-(i:Nat)) 1) where
 mem:=by simp
 obj:=fun i h st b hb=>by
  have e:b=it:=by simpa using hb
  subst e
  exact⟨_,st,fun v z=>by
   have z':Data.fields _=Data.cell v:=z;cases z'⟩
 keep:=fun i h h' st k=>k it (by simp) _ st
 item:=by
  intro X hP hw hK hc i pins s σ H E I hf st hg;subst hP hw hK;obtain⟨f0,f1,f2,f3,f4,f5⟩:=hf it (by simp);have W:=Walks.range (prog:=X.prog) (w:=X.w) (I.ok.hd hc) it lo 1 n;refine W.item i s _ _ hg st fun v h' tk hv st' kk=>?_;obtain⟨t,rfl⟩:=hv;have I1:Inv X pins σ H {s with heap:=h',toks:=tk}:=I.turned (fun b o hb e=>kk b o (by simpa using hb) e) f0 f1 f3 f4 f5;refine⟨_,rfl,SL (s:={s with heap:=h',toks:=tk}) (n:="range_iterator") st' rfl rfl (by decide) ⟨.int (lo+i),H,I1,⟨t,?_⟩,⟨rfl,rfl⟩,st',fun b hb=>(hf b hb).1⟩⟩;rw[Int.mul_one]
 done:=by
  intro X hP hw hK hc i pins s σ H E I hf st hg;subst hP hw hK;obtain⟨f0,f1,f2,f3,f4,f5⟩:=hf it (by simp);exact wpAny_pyNext_range_end (I.ok.hd hc) st (by have:n<=i:=hg;omega) fun h' eb=>⟨rfl,I.turned (t':=s.toks) (fun b o hb e=>eb b o hb e) f0 f1 f3 f4 f5⟩
 self:=fun _ _ _ _ _ st h=>wpAny_pyIter_rangeiter st h
end L2
namespace L2
open PySem PySem.Spec PyProof.Rows
section
variable {X:Cx} {tg:Expr}
def Ut (K:PySem.W.Frag) (tl:TE):TI:=fun σ H R=>tl σ H fun x H1=> ∃a,x= .ref a/\(∃xs,SqL K H1 a xs)/\R (Itl K a) H1
theorem JQ {l:Expr} {tl:TE} (hl:PE X l tl):PI X tg l (Ut X.K tl):=by
 intro pins s σ H R I h;refine Yz (hl pins s σ H _ I h) fun v s1 ⟨x,H1,I1,r1,q1⟩=>?_;obtain⟨a,e,⟨xs,hq⟩,q⟩:=q1;subst e;cases r1;obtain⟨its,rv,p,hz⟩:=I1.list hq;refine wpAny_pyIter_list p.isList ?_;refine⟨s1.heap.objs.size,[s1.heap.objs.size],_,_,H1,rfl,I1.kept (t':=s1.toks) fun b o e=>Heap.get?_push_of_some _ e,Tj a _,⟨_,Heap.get?_push_size _ rfl,rfl,rfl⟩,fun b hb=>?_,q⟩;have e:b=s1.heap.objs.size:=by simpa using hb
 subst e;exact I1.fpOk (Nat.le_refl _) (I1.hok.fresh (Nat.le_refl _))
theorem QY {pins:List (Addr×Obj)} {σ:St} {H:Hp} {s:Shared} {R:It->Hp->Prop} {E:Value->Shared->Prop} {lo hi:Int} {t u v:Tok} {tk:Nat} (I:Inv X pins σ H s) (h1: -(2^62)<=lo) (h2:lo<2^62) (h3: -(2^62)<=hi) (h4:hi<2^62)
  (q:R (Itr lo (hi-lo).toNat) H):wpAny (model X.prog X.w) X.A (pyIter (.ref s.heap.objs.size)) (PIE X pins σ tg R) E {s with heap:=s.heap.push {cls:= .type "range",data:= .fields #[.int lo t, .int hi u, .int 1 v]},toks:=tk}:=by
 refine wpAny_pyIter_range (IsRange.new ..) (small_one h1 h2 h3 h4) ?_;have I1:Inv X pins σ H {s with heap:=s.heap.push {cls:= .type "range",data:= .fields #[.int lo t, .int hi u, .int 1 v]},toks:=tk}:=I.kept fun b o e=>Heap.get?_push_of_some _ e
 refine⟨(s.heap.push {cls:= .type "range",data:= .fields #[.int lo t, .int hi u, .int 1 v]}).objs.size,[(s.heap.push {cls:= .type "range",data:= .fields #[.int lo t, .int hi u, .int 1 v]}).objs.size],_,_,H,rfl,
  I1.kept (t':=tk) fun b o e=>Heap.get?_push_of_some _ e,RX _ lo (hi-lo).toNat,?_,fun b hb=>?_,q⟩
 ·have e1:lo+((0:Nat):Int)*1=lo:=by simp
  have e2:(((hi-lo).toNat:Nat):Int)-((0:Nat):Int)=Builtin.Range.rangeSize lo hi 1:=by rw[rangeSize_one];split<;>omega
  show IsRangeIter _ _ (lo+((0:Nat):Int)*1) ((((hi-lo).toNat:Nat):Int)-((0:Nat):Int)) 1;rw[e1,e2];exact Heap.get?_push_size _ rfl
 ·have e:b=(s.heap.push {cls:= .type "range",data:= .fields #[.int lo t, .int hi u, .int 1 v]}).objs.size:=by simpa using hb
  subst e;exact I1.fpOk (Nat.le_refl _) (I1.hok.fresh (Nat.le_refl _))
def VI (ta:TA):TI:=fun σ H R=>ta σ H fun vs H1=> ∃j:Int,vs=[.int j]/\ -(2^62)<=j/\j<2^62/\R (Itr 0 j.toNat) H1
def Wv (ta:TA):TI:=fun σ H R=>ta σ H fun vs H1=> ∃i j:Int,vs=[.int i, .int j]/\(-(2^62)<=i/\i<2^62/\ -(2^62)<=j/\j<2^62)/\R (Itr i (j-i).toNat) H1
theorem Es {a:Expr} {ta:TA} {p pos:Pos} (hg:Gl X "range") (hm:X.mg "range"=none) (ha:PA X [a] ta) (hs:starEach [a] X.env=[(false,eval a X.env)]:=by rfl):PI X tg (.Call (.Name "range" p) [a] [] pos) (VI ta):=by
 intro pins s σ H R I h;refine Call_ (Ck I hg hm boot_range (PyProof.Rows.callWith_type1 (Yz (ha pos pins s σ H _ I h) fun us s1 ⟨vs,H1,I1,r1,q1⟩=>?_) hs rfl));obtain⟨j,e,q1,q2,q⟩:=q1;subst e;cases r1 with
 |cons r rr=>
  cases rr;obtain⟨t,rfl⟩:=r;exact call_range_1 (QY I1 (by omega) (by omega) q1 q2 (by simpa using q))
theorem Eu {a b:Expr} {ta:TA} {p pos:Pos} (hg:Gl X "range") (hm:X.mg "range"=none) (ha:PA X [a,b] ta) (hs:starEach [a,b] X.env=[(false,eval a X.env),(false,eval b X.env)]:=by rfl) (hs2:starEach [b] X.env=[(false,eval b X.env)]:=by rfl):
  PI X tg (.Call (.Name "range" p) [a,b] [] pos) (Wv ta):=by
 intro pins s σ H R I h;refine Call_ (Ck I hg hm boot_range (PyProof.Rows.callWith_type1 (Yz (ha pos pins s σ H _ I h) fun us s1 ⟨vs,H1,I1,r1,q1⟩=>?_) (by rw[hs,hs2]) (by rw[hs2];rfl)));obtain⟨i,j,e,⟨q1,q2,q3,q4⟩,q⟩:=q1;subst e;cases r1 with
 |cons r rr=>
  cases rr with
  |cons r' rr=>
   cases rr;obtain⟨t,rfl⟩:=r;obtain⟨t',rfl⟩:=r';exact call_range_2 (QY I1 q1 q2 q3 q4 q)
def Od (wi:TI) (g:TG) (tb:TS):TS:=fun D σ H=>wi σ H fun J H1=> ∃W:Nat->Nat->St->Hp->Prop,(∃m,W 0 m σ H1)/\ ∀i m σ H,W i m σ H->
 (J.stop i H/\D.nx σ H)∨(J.go i H/\ ∃N:St->Hp->Prop,(∀σ' H',N σ' H'-> ∃m',m'<m/\W (i+1) m' σ' H')/\ ∀x H',J.yld i H x H'->g x σ H' fun σ2 H2=>tb {D with nx:=N,ct:=N,bk:=D.nx} σ2 H2)
def MS (fp:List Addr) (h:Heap):List (Addr×Obj):=fp.filterMap fun b=>(h.get? b).map fun o=>(b,o)
theorem G2 {fp:List Addr} {h:Heap} {b:Addr} {o:Obj} (hb:b∈fp) (e:h.get? b=some o):(b,o)∈MS fp h:=List.mem_filterMap.mpr ⟨b,hb,by rw[e];rfl⟩
theorem TU {fp:List Addr} {h:Heap} {p:Addr×Obj} (hp:p∈MS fp h):p.1∈fp/\h.get? p.1=some p.2:=by
 obtain⟨b,hb,e⟩:=List.mem_filterMap.mp hp;cases q:h.get? b with
 |none=>rw[q] at e;cases e
 |some o=>
  rw[q] at e;have e':(b,o)=p:=Option.some.inj e;subst e';exact⟨hb,q⟩
theorem Inv.pinned {pins:List (Addr×Obj)} {σ:St} {H:Hp} {s:Shared} {fp:List Addr} (I:Inv X pins σ H s) (hf: ∀b∈fp,FpOk X pins H b) (ho: ∀b∈fp,∃o,s.heap.get? b=some o/\ ∀v,o.data≠ .cell v):Inv X (pins++MS fp s.heap) σ H s:=
 I.pins_of fun p hp=>(List.mem_append.mp hp).elim (fun z=>I.pin p (List.mem_append_right _ z)) fun z=>by
  obtain⟨hb,e⟩:=TU z;obtain⟨f0,f1,f2,_⟩:=hf p.1 hb;obtain⟨o,e',d⟩:=ho p.1 hb;rw[e] at e';cases e';exact⟨e,f0,f1,f2,d⟩
theorem Inv.unpinned {pins pl:List (Addr×Obj)} {σ:St} {H:Hp} {s:Shared} (I:Inv X (pins++pl) σ H s):Inv X pins σ H s:=I.pins_of fun p hp=>I.pin p (List.mem_append_right _ (List.mem_append_left _ hp))
theorem Y6 {iter:Expr} {body:List Stmt} {wi:TI} {g:TG} {tb:TS} {pos:Pos} (hp:PassesOwn (model X.prog X.w) X.A X.env X.xe) (hc:X.calm=true) (hi:PI X tg iter wi) (hg:PG X tg g) (hb:PSs X body tb)
  (hs: ∀x,foldedSetIterable iter X.env x=pure x:=by intro _;rfl):PS X (.For tg iter body [] pos) (Od wi g tb):=by
 intro pins s σ H D I h;refine wpAny_For (Yz (hi pins s σ H _ I h) fun v s1 h1=>Yz h1 fun itv s2 h2=>?_) hs;obtain⟨it,fp,tn,J,H2,e,I2,T,st2,f2,W,⟨m0,w0⟩,turn⟩:=h2;subst e;have stat: ∀{H':Hp},(∀b∈fp,H' b=none)-> ∀b∈fp,FpOk X pins H' b:=fun hn b hb=>⟨hn b hb,(f2 b hb).2⟩;refine codeAny_forLoop_any (fun n s'=> ∃i σ' H',Inv X pins σ' H' s'/\tn i s'.heap/\(∀b∈fp,H' b=none)/\W i n σ' H') ?_ m0 ⟨0,σ,H2,I2,st2,fun b hb=>(f2 b hb).1,w0⟩;rintro n s3 ⟨i,σ3,H3,I3,st3,fr3,w3⟩;rcases turn i n σ3 H3 w3 with⟨stop,qn⟩|⟨go,N,hN,step⟩
 ·refine wpAny_passesOwn hp (Yz (T.done X rfl rfl rfl hc i pins s3 σ3 H3 X.xe I3 (stat fr3) st3 stop) fun r s4 ⟨hr,I4⟩=>?_);subst hr;exact wpAny_execs_nil ⟨σ3,H3,I4,qn⟩
 ·refine wpAny_passesOwn hp (Yz (T.item X rfl rfl rfl hc i pins s3 σ3 H3 X.xe I3 (stat fr3) st3 go) fun r s4 ⟨u,hr,h4⟩=>?_);subst hr;refine wpAny_passesOwn hp (Yz h4 fun _ s5 ⟨x,H5,I5,r5,y5,st5,fr5⟩=>?_);have I5':=I5.pinned (stat fr5) (T.obj _ _ st5);refine wpAny_passesOwn hp (Yz (hg _ s5 σ3 H5 x u _ I5' r5 (step x H5 y5)) fun _ s6 ⟨σ6,H6,I6,q6⟩=>?_);refine wpAny_passesOwn hp (Yz (hb _ s6 σ6 H6 _ I6 q6) fun f s7 q7=>?_)
  have again: ∀{σ7:St} {H7:Hp},Inv X (pins++MS fp s5.heap) σ7 H7 s7->N σ7 H7-> ∃m,m<n/\ ∃i σ' H',Inv X pins σ' H' s7/\tn i s7.heap/\(∀b∈fp,H' b=none)/\W i m σ' H':=fun{σ7 H7} I7 n7=>by
   obtain⟨m',hm,w7⟩:=hN σ7 H7 n7;refine⟨m',hm,i+1,σ7,H7,I7.unpinned,T.keep _ _ _ st5 fun b hb o e=>(I7.pin (b,o) (List.mem_append_right _ (List.mem_append_right _ (G2 hb e)))).1,fun b hb=>?_,w7⟩;obtain⟨o,e,d⟩:=T.obj _ _ st5 b hb;exact(I7.pin (b,o) (List.mem_append_right _ (List.mem_append_right _ (G2 hb e)))).2.1
  cases f with
  |next=>obtain⟨σ7,H7,I7,n7⟩:=q7;exact again I7 n7
  |cont=>obtain⟨σ7,H7,I7,n7⟩:=q7;exact again I7 n7
  |brk=>obtain⟨σ7,H7,I7,q7⟩:=q7;exact⟨σ7,H7,I7.unpinned,q7⟩
  |ret v=>obtain⟨x7,σ7,H7,I7,r7,q7⟩:=q7;exact⟨x7,σ7,H7,I7.unpinned,r7,q7⟩
end
theorem HI {K:PySem.W.Frag} {a:Addr} {xs:List V} {g:TG} {tb:TS} {D:Ends} {σ:St} {H:Hp} (Pv:Nat->St->Hp->Prop) (h0:Pv 0 σ H) (hl: ∀i σ H,i<=xs.length->Pv i σ H->SqL K H a xs)
  (hs: ∀i x σ H,xs[i]?=some x->Pv i σ H->g x σ H fun σ2 H2=>tb {D with nx:=Pv (i+1),ct:=Pv (i+1),bk:=D.nx} σ2 H2) (hd: ∀σ H,Pv xs.length σ H->D.nx σ H):
  ∃W:Nat->Nat->St->Hp->Prop,(∃m,W 0 m σ H)/\ ∀i m σ H,W i m σ H->
   ((Itl K a).stop i H/\D.nx σ H)∨((Itl K a).go i H/\ ∃N:St->Hp->Prop,(∀σ' H',N σ' H'-> ∃m',m'<m/\W (i+1) m' σ' H')/\ ∀x H',(Itl K a).yld i H x H'->g x σ H' fun σ2 H2=>tb {D with nx:=N,ct:=N,bk:=D.nx} σ2 H2):=by
 refine⟨fun i m σ H=>m=xs.length-i/\i<=xs.length/\Pv i σ H,⟨xs.length,by simp,Nat.zero_le _,h0⟩,?_⟩;rintro i m σ H ⟨rfl,hi,p⟩;have q:=hl i σ H hi p;by_cases hlt:i<xs.length
 ·refine .inr ⟨⟨xs,xs[i],q,by simp[hlt]⟩,Pv (i+1),fun σ' H' p'=>⟨xs.length-(i+1),by omega,rfl,hlt,p'⟩,fun x H' y=>?_⟩;obtain⟨e,y⟩:=y;subst e;exact hs i x σ _ (y xs q) p
 ·have e:i=xs.length:=by omega
  subst e;exact .inl ⟨⟨xs,q,Nat.le_refl _⟩,hd σ H p⟩
theorem P8 {lo:Int} {n:Nat} {g:TG} {tb:TS} {D:Ends} {σ:St} {H:Hp} (Pv:Nat->St->Hp->Prop) (h0:Pv 0 σ H)
  (hs: ∀i σ H,i<n->Pv i σ H->g (.int (lo+i)) σ H fun σ2 H2=>tb {D with nx:=Pv (i+1),ct:=Pv (i+1),bk:=D.nx} σ2 H2) (hd: ∀σ H,Pv n σ H->D.nx σ H):
  ∃W:Nat->Nat->St->Hp->Prop,(∃m,W 0 m σ H)/\ ∀i m σ H,W i m σ H->
   ((Itr lo n).stop i H/\D.nx σ H)∨((Itr lo n).go i H/\ ∃N:St->Hp->Prop,(∀σ' H',N σ' H'-> ∃m',m'<m/\W (i+1) m' σ' H')/\ ∀x H',(Itr lo n).yld i H x H'->g x σ H' fun σ2 H2=>tb {D with nx:=N,ct:=N,bk:=D.nx} σ2 H2):=by
 refine⟨fun i m σ H=>m=n-i/\i<=n/\Pv i σ H,⟨n,by simp,Nat.zero_le _,h0⟩,?_⟩;rintro i m σ H ⟨rfl,hi,p⟩;by_cases hlt:i<n
 ·refine .inr ⟨hlt,Pv (i+1),fun σ' H' p'=>⟨n-(i+1),by omega,rfl,hlt,p'⟩,fun x H' y=>?_⟩;obtain⟨e,y⟩:=y;subst e y;exact hs i σ _ hlt p
 ·have e:i=n:=by omega
  subst e;exact .inl ⟨Nat.le_refl _,hd σ H p⟩
end L2
namespace L2
open PySem PySem.Spec PyProof.Rows
abbrev R2:=V->V->Hp->VK->Prop
def OpR (X:Cx) (f:Value->Value->Sem Value) (r:R2):Prop:=
 ∀(pins:List (Addr×Obj)) (s:Shared) (σ:St) (H:Hp) (x y:V) (v u:Value) (Q:VK),Inv X pins σ H s->RelV x v->RelV y u->r x y H Q->
  wpAny (model X.prog X.w) X.A (f v u) (EP X pins σ Q) X.xe s
def UnR (X:Cx) (f:Value->Sem Value) (r:V->Hp->VK->Prop):Prop:=
 ∀(pins:List (Addr×Obj)) (s:Shared) (σ:St) (H:Hp) (x:V) (v:Value) (Q:VK),Inv X pins σ H s->RelV x v->r x H Q->
  wpAny (model X.prog X.w) X.A (f v) (EP X pins σ Q) X.xe s
def CallR (X:Cx) (f:Value) (r:List V->Hp->VK->Prop):Prop:=
 ∀(pins:List (Addr×Obj)) (s:Shared) (σ:St) (H:Hp) (xs:List V) (us:List Value) (Q:VK),Inv X pins σ H s->Vals xs us->r xs H Q->
  wpAny (model X.prog X.w) X.A (call f us) (EP X pins σ Q) X.xe s
def TruR (X:Cx) (r:V->Hp->(Bool->Hp->Prop)->Prop):Prop:=
 ∀(pins:List (Addr×Obj)) (s:Shared) (σ:St) (H:Hp) (x:V) (v:Value) (Q:Bool->Hp->Prop),Inv X pins σ H s->RelV x v->r x H Q->
  wpAny (model X.prog X.w) X.A (truthy v) (TP X pins σ Q) X.xe s
def Ur (r:R2) (ta tb:TE):TE:=fun σ H Q=>ta σ H fun x H1=>tb σ H1 fun y H2=>r x y H2 Q
def tUn (r:V->Hp->VK->Prop) (ta:TE):TE:=fun σ H Q=>ta σ H fun x H1=>r x H1 Q
def rI (C:Int->Int->Prop) (g:Int->Int->V):R2:=fun x y H Q=> ∃i j,x= .int i/\y= .int j/\C i j/\Q (g i j) H
def Nb (g:Int->Int->V):R2:=fun x y H Q=> ∃i j,x= .int i/\y= .int j/\Q (g i j) H
def rU (g:Int->V):V->Hp->VK->Prop:=fun x H Q=> ∃i,x= .int i/\Q (g i) H
section
variable {X:Cx} {a b c:Expr} {ta tb tc:TE} {pos:Pos}
theorem J07 (ha:PE X a ta) (hb:PE X b tb) {pins:List (Addr×Obj)} {s:Shared} {σ:St} {H:Hp} {R:V->V->Hp->Prop} (I:Inv X pins σ H s)
  (h:ta σ H fun x H1=>tb σ H1 fun y H2=>R x y H2) {Q:Value->Shared->Prop} {f:Value->Value->Sem Value}
  (hf: ∀v u s2 x y H2,Inv X pins σ H2 s2->RelV x v->RelV y u->R x y H2->wpAny (model X.prog X.w) X.A (f v u) Q X.xe s2):
  wpAny (model X.prog X.w) X.A (eval a X.env) (fun v s₁=>wpAny (model X.prog X.w) X.A (eval b X.env) (fun u s₂=>wpAny (model X.prog X.w) X.A (f v u) Q X.xe s₂) X.xe s₁) X.xe s:=by
 refine Yz (ha pins s σ H _ I h) fun v s1 ⟨x,H1,I1,r1,q1⟩=>?_;refine Yz (hb pins s1 σ H1 _ I1 q1) fun u s2 ⟨y,H2,I2,r2,q2⟩=>?_;exact hf v u s2 x y H2 I2 r1 r2 q2
theorem Jr {op:Operator} {r:R2} (ho:OpR X (binaryOp op) r) (ha:PE X a ta) (hb:PE X b tb):PE X (.BinOp a op b pos) (Ur r ta tb):=by
 intro pins s σ H Q I h;exact wpAny_BinOp (J07 ha hb I h fun v u s2 x y H2 I2 rx ry q=>ho pins s2 σ H2 x y v u Q I2 rx ry q)
theorem GV {op:UnaryOp} {r:V->Hp->VK->Prop} (ho:UnR X (unaryOp op) r) (ha:PE X a ta):PE X (.UnaryOp op a pos) (tUn r ta):=by
 intro pins s σ H Q I h;exact UnaryOp_ (Yz (ha pins s σ H _ I h) fun v s1 ⟨x,H1,I1,r1,q1⟩=>ho pins s1 σ H1 x v Q I1 r1 q1)
theorem opI {f:Value->Value->Sem Value} {C:Int->Int->Prop} {g:Int->Int->Int}
  (rule: ∀(i j:Int) (t u:Tok) (s:Shared) (Q:Value->Shared->Prop) (E:Value->Shared->Prop),C i j->Q (.int (g i j) s.toks) {s with toks:=s.toks+1}->wpAny (model X.prog X.w) X.A (f (.int i t) (.int j u)) Q E s):
  OpR X f (rI C fun i j=> .int (g i j)):=by
 intro pins s σ H x y v u Q I rx ry h;obtain⟨i,j,rfl,rfl,hc,q⟩:=h;obtain⟨t,rfl⟩:=rx;obtain⟨t',rfl⟩:=ry;exact rule i j t t' s _ _ hc ⟨.int (g i j),H,I.tok _,⟨_,rfl⟩,q⟩
theorem J0Q {f:Value->Value->Sem Value} {g:Int->Int->Int}
  (rule: ∀(i j:Int) (t u:Tok) (s:Shared) (Q:Value->Shared->Prop) (E:Value->Shared->Prop),Q (.int (g i j) s.toks) {s with toks:=s.toks+1}->wpAny (model X.prog X.w) X.A (f (.int i t) (.int j u)) Q E s):
  OpR X f (Nb fun i j=> .int (g i j)):=by
 intro pins s σ H x y v u Q I rx ry h;obtain⟨i,j,rfl,rfl,q⟩:=h;obtain⟨t,rfl⟩:=rx;obtain⟨t',rfl⟩:=ry;exact rule i j t t' s _ _ ⟨.int (g i j),H,I.tok _,⟨_,rfl⟩,q⟩
theorem Xb {f:Value->Value->Sem Value} {g:Int->Int->Bool}
  (rule: ∀(i j:Int) (t u:Tok) (s:Shared) (Q:Value->Shared->Prop) (E:Value->Shared->Prop),Q (.bool (g i j)) s->wpAny (model X.prog X.w) X.A (f (.int i t) (.int j u)) Q E s):
  OpR X f (Nb fun i j=> .bl (g i j)):=by
 intro pins s σ H x y v u Q I rx ry h;obtain⟨i,j,rfl,rfl,q⟩:=h;obtain⟨t,rfl⟩:=rx;obtain⟨t',rfl⟩:=ry;exact rule i j t t' s _ _ ⟨.bl (g i j),H,I,rfl,q⟩
def CDiv (i j:Int):Prop:=0<j/\j<1073741824
def CMul (i j:Int):Prop:=(-(2^64)<i/\i<2^64)∨(-(2^64)<j/\j<2^64)
theorem CMul.ok {i j:Int} (h:CMul i j):IntMulOk i j:=by
 rcases h with⟨h1,h2⟩|⟨h1,h2⟩
 ·exact .of_left (intBits_le_64 h1 h2)
 ·exact .of_right (intBits_le_64 h1 h2)
theorem Ym:OpR X (binaryOp .Add) (Nb fun i j=> .int (i+j)):=J0Q fun _ _ _ _ _ _ _ q=>add_int q
theorem UB:OpR X (binaryOp .Sub) (Nb fun i j=> .int (i-j)):=J0Q fun _ _ _ _ _ _ _ q=>sub_int q
theorem Ug:OpR X (binaryOp .Mult) (rI CMul fun i j=> .int (i*j)):=opI fun _ _ _ _ _ _ _ hc q=>mul_int q hc.ok
theorem SQ:OpR X (binaryOp .FloorDiv) (rI CDiv fun i j=> .int (i/j)):=opI fun i j _ _ _ _ _ hc q=>by
 have h1:(0:Int)<j:=hc.1;have h2:j<1073741824:=hc.2;exact floordiv_int (by omega) (by rw[Int.fdiv_eq_ediv_of_nonneg i (by omega)];exact q) (.inl (PyProof.noPylong_small (by omega)))
theorem J0l:OpR X (binaryOp .Mod) (rI (fun _ j=>0<j) fun i j=> .int (i%j)):=opI fun i j _ _ _ _ _ hc q=>by
 have h1:(0:Int)<j:=hc;exact mod_int' (by omega) (by rw[Int.fmod_eq_emod_of_nonneg i (by omega)];exact q)
theorem Xp:OpR X (inplaceOp .Mult) (rI CMul fun i j=> .int (i*j)):=opI fun _ _ _ _ _ _ _ hc q=>imul_int q hc.ok
theorem unI {f:Value->Sem Value} {g:Int->Int}
  (rule: ∀(i:Int) (t:Tok) (s:Shared) (Q:Value->Shared->Prop) (E:Value->Shared->Prop),Q (.int (g i) s.toks) {s with toks:=s.toks+1}->wpAny (model X.prog X.w) X.A (f (.int i t)) Q E s):
  UnR X f (rU fun i=> .int (g i)):=by
 intro pins s σ H x v Q I rx h;obtain⟨i,rfl,q⟩:=h;obtain⟨t,rfl⟩:=rx;exact rule i t s _ _ ⟨.int (g i),H,I.tok _,⟨_,rfl⟩,q⟩
theorem Cs:UnR X (unaryOp .USub) (rU fun i=> .int (-i)):=unI fun _ _ _ _ _ q=>neg_int q
end
def J0X:V->V->Bool
 | .non, .non=>true| .non, .int _=>true| .int _, .non=>true| .non, .bl _=>true| .bl _, .non=>true| .non, .str _=>true| .str _, .non=>true
 | .int _, .int _=>true| .bl _, .bl _=>true| .str _, .str _=>true| .byt _, .byt _=>true
 | .int _, .str _=>true| .str _, .int _=>true| .bl _, .str _=>true| .str _, .bl _=>true
 |_,_=>false
def rEq:R2:=fun x y H Q=>J0X x y=true/\Q (.bl (decide (x=y))) H
def rNe:R2:=fun x y H Q=>J0X x y=true/\Q (.bl (!decide (x=y))) H
theorem SR {i j:Int}:decide (V.int i=V.int j)=(i==j):=by
 rw[Bool.eq_iff_iff];simp
theorem VJ {i j:Bool}:decide (V.bl i=V.bl j)=(i==j):=by
 rw[Bool.eq_iff_iff];simp
theorem SM {i j:Str}:decide (V.str i=V.str j)=(i==j):=by
 rw[Bool.eq_iff_iff];simp
theorem SO {i j:Array UInt8}:decide (V.byt i=V.byt j)=(i.toList==j.toList):=by
 rw[Bool.eq_iff_iff];cases i;cases j;simp
section
variable {X:Cx} {a b c:Expr} {ta tb tc:TE} {pos:Pos}
theorem Y4 {pins:List (Addr×Obj)} {σ:St} {H:Hp} {s:Shared} {Q:VK} {k k':Bool} (I:Inv X pins σ H s) (q:Q (.bl k) H) (e:k=k'):EP X pins σ Q (.bool k') s:=by
 subst e;exact⟨.bl k,H,I,rfl,q⟩
theorem ZG:OpR X (compareOp .Eq) rEq:=by
 intro pins s σ H x y v u Q I rx ry h;obtain⟨hs,q⟩:=h;cases x with
 |non=>
  cases rx;cases y with
  |non=>cases ry;exact PySem.EqNone.eq_none_none (Y4 I q (by simp))
  |bl j=>cases ry;exact PySem.EqNone.eq_none_bool (Y4 I q (by simp))
  |int j=>obtain⟨t',rfl⟩:=ry;exact PySem.EqNone.eq_none_int (Y4 I q (by simp))
  |str j=>obtain⟨t',rfl⟩:=ry;exact PySem.EqNone.eq_none_str (Y4 I q (by simp))
  |_=>exact absurd (show false=true from hs) Bool.false_ne_true
 |bl i=>
  cases rx;cases y with
  |non=>cases ry;exact PySem.EqNone.eq_bool_none (Y4 I q (by simp))
  |bl j=>cases ry;exact eq_bool (Y4 I q VJ)
  |str j=>obtain⟨t',rfl⟩:=ry;exact PySem.EqMixed.eq_bool_str (Y4 I q (by simp))
  |_=>exact absurd (show false=true from hs) Bool.false_ne_true
 |int i=>
  obtain⟨t,rfl⟩:=rx;cases y with
  |non=>cases ry;exact PySem.EqNone.eq_int_none (Y4 I q (by simp))
  |int j=>obtain⟨t',rfl⟩:=ry;exact eq_int (Y4 I q SR)
  |str j=>obtain⟨t',rfl⟩:=ry;exact PySem.EqMixed.eq_int_str (Y4 I q (by simp))
  |_=>exact absurd (show false=true from hs) Bool.false_ne_true
 |str i=>
  obtain⟨t,rfl⟩:=rx;cases y with
  |non=>cases ry;exact PySem.EqNone.eq_str_none (Y4 I q (by simp))
  |bl j=>cases ry;exact PySem.EqMixed.eq_str_bool (Y4 I q (by simp))
  |int j=>obtain⟨t',rfl⟩:=ry;exact PySem.EqMixed.eq_str_int (Y4 I q (by simp))
  |str j=>obtain⟨t',rfl⟩:=ry;exact eq_str (Y4 I q SM)
  |_=>exact absurd (show false=true from hs) Bool.false_ne_true
 |byt i=>
  obtain⟨t,rfl⟩:=rx;cases y with
  |byt j=>obtain⟨t',rfl⟩:=ry;exact PySem.W.eq_bytes (Y4 I q SO)
  |_=>exact absurd (show false=true from hs) Bool.false_ne_true
 |_=>cases y<;>exact absurd (show false=true from hs) Bool.false_ne_true
theorem BF:OpR X (compareOp .NotEq) rNe:=by
 intro pins s σ H x y v u Q I rx ry h;obtain⟨hs,q⟩:=h;cases x with
 |non=>
  cases rx;cases y with
  |non=>cases ry;exact PySem.EqNone.ne_none_none (Y4 I q (by simp))
  |bl j=>cases ry;exact PySem.EqNone.ne_none_bool (Y4 I q (by simp))
  |int j=>obtain⟨t',rfl⟩:=ry;exact PySem.EqNone.ne_none_int (Y4 I q (by simp))
  |str j=>obtain⟨t',rfl⟩:=ry;exact PySem.EqNone.ne_none_str (Y4 I q (by simp))
  |_=>exact absurd (show false=true from hs) Bool.false_ne_true
 |bl i=>
  cases rx;cases y with
  |non=>cases ry;exact PySem.EqNone.ne_bool_none (Y4 I q (by simp))
  |bl j=>cases ry;exact ne_bool (Y4 I q (congrArg not VJ))
  |str j=>obtain⟨t',rfl⟩:=ry;exact PySem.EqMixed.ne_bool_str (Y4 I q (by simp))
  |_=>exact absurd (show false=true from hs) Bool.false_ne_true
 |int i=>
  obtain⟨t,rfl⟩:=rx;cases y with
  |non=>cases ry;exact PySem.EqNone.ne_int_none (Y4 I q (by simp))
  |int j=>obtain⟨t',rfl⟩:=ry;exact ne_int (Y4 I q (congrArg not SR))
  |str j=>obtain⟨t',rfl⟩:=ry;exact PySem.EqMixed.ne_int_str (Y4 I q (by simp))
  |_=>exact absurd (show false=true from hs) Bool.false_ne_true
 |str i=>
  obtain⟨t,rfl⟩:=rx;cases y with
  |non=>cases ry;exact PySem.EqNone.ne_str_none (Y4 I q (by simp))
  |bl j=>cases ry;exact PySem.EqMixed.ne_str_bool (Y4 I q (by simp))
  |int j=>obtain⟨t',rfl⟩:=ry;exact PySem.EqMixed.ne_str_int (Y4 I q (by simp))
  |str j=>obtain⟨t',rfl⟩:=ry;exact ne_str (Y4 I q (congrArg not SM))
  |_=>exact absurd (show false=true from hs) Bool.false_ne_true
 |byt i=>
  obtain⟨t,rfl⟩:=rx;cases y with
  |byt j=>obtain⟨t',rfl⟩:=ry;exact PySem.W.ne_bytes (Y4 I q (congrArg not SO))
  |_=>exact absurd (show false=true from hs) Bool.false_ne_true
 |_=>cases y<;>exact absurd (show false=true from hs) Bool.false_ne_true
theorem DN:OpR X (compareOp .Lt) (Nb fun i j=> .bl (decide (i<j))):=Xb fun _ _ _ _ _ _ _ q=>lt_int q
theorem Ee:OpR X (compareOp .LtE) (Nb fun i j=> .bl (decide (i<=j))):=Xb fun _ _ _ _ _ _ _ q=>le_int q
theorem Km:OpR X (compareOp .Gt) (Nb fun i j=> .bl (decide (j<i))):=Xb fun _ _ _ _ _ _ _ q=>gt_int q
theorem VN:OpR X (compareOp .GtE) (Nb fun i j=> .bl (decide (j<=i))):=Xb fun _ _ _ _ _ _ _ q=>ge_int q
theorem Jn (b:Expr) {op:CmpOp} (h:op≠ .In:=by decide) (h2:op≠ .NotIn:=by decide):behindInMarks op b=false:=by
 have e1:(op==CmpOp.In)=false:=by cases op<;>first|rfl|exact absurd rfl h
 have e2:(op==CmpOp.NotIn)=false:=by cases op<;>first|rfl|exact absurd rfl h2
 cases b<;>simp[behindInMarks,e1,e2]
theorem Ze {op:CmpOp} {r:R2} (ho:OpR X (compareOp op) r) (ha:PE X a ta) (hb:PE X b tb) (hm:behindInMarks op b=false):PE X (.Compare a [op] [b] pos) (Ur r ta tb):=by
 intro pins s σ H Q I h;exact wpAny_Compare1 (J07 ha hb I h fun v u s2 x y H2 I2 rx ry q=>ho pins s2 σ H2 x y v u Q I2 rx ry q) hm
def Uo (t:TE):TT:=fun σ H Q=>t σ H fun x H'=> ∃k,x= .bl k/\Q k H'
theorem Jk {op:CmpOp} {r:R2} (ho:OpR X (compareOp op) r) (ha:PE X a ta) (hb:PE X b tb) (hm:behindInMarks op b=false):PT X (.Compare a [op] [b] pos) (Uo (Ur r ta tb)):=by
 intro pins s σ H Q I h
 refine wpAny_isTrue_Compare1 (Yz (ha pins s σ H _ I h) fun v s1 ⟨x,H1,I1,r1,q1⟩=>Yz (hb pins s1 σ H1 _ I1 q1) fun u s2 ⟨y,H2,I2,r2,q2⟩=>
  Yz (ho pins s2 σ H2 x y v u _ I2 r1 r2 q2) fun c s3 ⟨z,H3,I3,r3,k,e,q3⟩=>?_) hm
 subst e;cases r3;exact wpAny_truthy_bool ⟨H3,I3,q3⟩
def TruV (K:PySem.W.Frag) (x:V) (H:Hp) (k:Bool):Prop:=
 match x with
 | .non=>k=false
 | .bl b=>k=b
 | .int i=>k=(i !=0)
 | .str y=>y.length<=sizeLine/\k=((y.length:Int) !=0)
 | .byt y=>y.size<=sizeLine/\k=((y.size:Int) !=0)
 | .ref p=>(∃xs,SqL K H p xs/\k=!xs.isEmpty)∨(∃xs,SqT K H p xs/\k=!xs.isEmpty)∨ ∃kvs,H p=some (.dK kvs)/\k=!kvs.isEmpty
 |_=>False
theorem S3 {κ:Type} {kvs:List (κ×V)} {vs:List (κ×Value)} (r:KV kvs vs):(!vs.isEmpty)=!kvs.isEmpty:=by
 cases r<;>rfl
theorem LX {xs:List V} {its:List Value} (r:Vals xs its):(!its.toArray.isEmpty)=!xs.isEmpty:=by
 cases r<;>simp
theorem Iu:(sizeLine:Nat)<2^63:=by rw[sizeLine_eq];decide
theorem XR:TruR X (fun x H Q=> ∃k,TruV X.K x H k/\Q k H):=by
 intro pins s σ H x v Q I rx h;obtain⟨k,e,q⟩:=h;have hl:=Iu;have hs:sizeLine=16777216:=sizeLine_eq;cases x with
 |non=>
  cases rx;have e':k=false:=e;subst e';exact truthy_none ⟨H,I,q⟩
 |bl b=>
  cases rx;have e':k=b:=e;subst e';exact wpAny_truthy_bool ⟨H,I,q⟩
 |int i=>
  obtain⟨t,rfl⟩:=rx;have e':k=(i !=0):=e;subst e';exact PySem.P.truthy_int ⟨H,I,q⟩
 |str y=>
  obtain⟨t,rfl⟩:=rx;obtain⟨hy,e'⟩:y.length<=sizeLine/\k=((y.length:Int) !=0):=e;subst e';exact PySem.P.truthy_str (by omega) ⟨H,I.tok _,q⟩
 |byt y=>
  obtain⟨t,rfl⟩:=rx;obtain⟨hy,e'⟩:y.size<=sizeLine/\k=((y.size:Int) !=0):=e;subst e';exact PySem.W.truthy_bytes (by omega) ⟨H,I.tok _,q⟩
 |ref p=>
  cases rx;have e':(∃xs,SqL X.K H p xs/\k=!xs.isEmpty)∨(∃xs,SqT X.K H p xs/\k=!xs.isEmpty)∨ ∃kvs,H p=some (.dK kvs)/\k=!kvs.isEmpty:=e;rcases e' with⟨xs,hx,e'⟩|⟨xs,hx,e'⟩|⟨kvs,hx,e'⟩
  ·subst e';obtain⟨its,r,pl,hz⟩:=I.list hx;have hlen:=r.length;exact wpAny_truthy_list pl.isList (by simp only[List.size_toArray];omega) ⟨H,I.tok _,by rw[LX r];exact q⟩
  ·subst e';obtain⟨its,r,pl,hz⟩:=I.tuple hx;have hlen:=r.length;exact truthy_tuple pl (by simp only[List.size_toArray];omega) ⟨H,I.tok _,by rw[LX r];exact q⟩
  ·subst e';obtain⟨hz,hS,vs,r,m⟩:kvs.length<=sizeLine/\(p==sysModules)=false/\ ∃vs,KV kvs vs/\s.heap.DictOf (Z4 X.prog X.w) p vs:=I.hok p _ hx;have hlen:kvs.length=vs.length:=Paired.length r;exact wpAny_truthy_dict hS m (by omega) ⟨H,I.tok _,by rw[S3 r];exact q⟩
 |_=>exact(show False from e).elim
theorem Qs (ha:PE X a ta) (he: ∀whole,isTrue a X.env whole=(do let v<-whole;standAt a.pos;holding [v] (truthy v))):
  PT X a (fun σ H Q=>ta σ H fun x H'=> ∃k,TruV X.K x H' k/\Q k H'):=by
 intro pins s σ H Q I h;exact isTrue_plain (Yz (ha pins s σ H _ I h) fun v s1 ⟨x,H1,I1,r1,q1⟩=>XR pins s1 σ H1 x v Q I1 r1 q1) (he _)
theorem Fe {x:V} {us:List Value} (r:Vals [x] us): ∃u,us=[u]/\RelV x u:=by
 cases r with
 |cons r1 r2=>cases r2;exact⟨_,rfl,r1⟩
theorem Xw {x y:V} {us:List Value} (r:Vals [x,y] us): ∃u w',us=[u,w']/\RelV x u/\RelV y w':=by
 cases r with
 |cons r1 r2=>
  cases r2 with
  |cons r3 r4=>cases r4;exact⟨_,_,rfl,r1,r3⟩
theorem Wz:CallR X (.builtin "abs") (fun xs H Q=> ∃i,xs=[.int i]/\Q (.int (if i<0 then-i else i)) H):=by
 intro pins s σ H xs us Q I r h;obtain⟨i,rfl,q⟩:=h;obtain⟨u,rfl,t,rfl⟩:=Fe r;exact call_abs_int fun u tk=>⟨.int (if i<0 then-i else i),H,I.tok _,⟨_,rfl⟩,q⟩
theorem J0p (hc:X.calm=true):CallR X (.builtin "max") (fun xs H Q=> ∃i j,xs=[.int i, .int j]/\Q (.int (if j>i then j else i)) H):=by
 intro pins s σ H xs us Q I r h;obtain⟨i,j,rfl,q⟩:=h;obtain⟨u,w',rfl,⟨t,rfl⟩,⟨t',rfl⟩⟩:=Xw r;refine max_two_ints (I.ok.hd hc) fun h' tk k=>⟨_,H,I.kept k,?_,q⟩;by_cases hj:j>i
 ·rw[if_pos hj,if_pos hj];exact⟨_,rfl⟩
 ·rw[if_neg hj,if_neg hj];exact⟨_,rfl⟩
theorem TJ (hc:X.calm=true):CallR X (.builtin "min") (fun xs H Q=> ∃i j,xs=[.int i, .int j]/\Q (.int (if j<i then j else i)) H):=by
 intro pins s σ H xs us Q I r h;obtain⟨i,j,rfl,q⟩:=h;obtain⟨u,w',rfl,⟨t,rfl⟩,⟨t',rfl⟩⟩:=Xw r;refine min_two_ints (I.ok.hd hc) fun h' tk k=>⟨_,H,I.kept k,?_,q⟩;by_cases hj:j<i
 ·rw[if_pos hj,if_pos hj];exact⟨_,rfl⟩
 ·rw[if_neg hj,if_neg hj];exact⟨_,rfl⟩
theorem Ts:CallR X (.type "int") (fun xs H Q=>(∃i,xs=[.int i]/\Q (.int i) H)∨ ∃k,xs=[.bl k]/\Q (.int (if k then 1 else 0)) H):=by
 intro pins s σ H xs us Q I r h;rcases h with⟨i,rfl,q⟩|⟨k,rfl,q⟩
 ·obtain⟨u,rfl,t,rfl⟩:=Fe r;exact call_int_int ⟨.int i,H,I,⟨_,rfl⟩,q⟩
 ·obtain⟨u,rfl,r1⟩:=Fe r;cases r1;exact call_int_bool ⟨.int (if k then 1 else 0),H,I.tok _,⟨_,rfl⟩,q⟩
end
end L2
namespace L2
open PySem PySem.Spec PyProof.Rows
structure ObjM (h:Heap) (x dx C:Addr) (mA:Str->Option Value):Prop where
 obj:h.get? x=some (PySem.W.instObj C dx)
 ns:h.Ns1 dx mA
 ne:dx≠x
theorem V5 {h:Heap} {dx:Addr} {mA:Str->Option Value} (n:h.Ns1 dx mA): ∃od,h.get? dx=some od/\ ∀name,PySem.W.lookIn name od=some (mA name):=by
 obtain⟨o,es,ep,ho,hd,hk,_,hm⟩:=n;refine⟨o,ho,fun name=>?_⟩;have e:=hm name;unfold nsFind findBy at e;rw[<-Array.find?_toList] at e;unfold PySem.W.lookIn;rw[hd];dsimp only;split
 ·rename_i y q
  rw[q] at e;exact congrArg some e
 ·rename_i q
  rw[q] at e
  have a:es.toList.any (·.refKey)=false:=by
   rw[List.any_eq_false];intro y hy;obtain⟨z,t,hkey⟩:=hk y (Array.mem_toList_iff.mp hy);simp[DictEntry.refKey,hkey]
  have a': ¬es.toList.any (·.refKey)=true:=by rw[a];exact Bool.false_ne_true
  rw[if_neg a'];exact congrArg some e
theorem ObjM.look {h:Heap} {x dx C:Addr} {mA:Str->Option Value} (I:ObjM h x dx C mA): ∃od,PySem.W.InstAt h x (PySem.W.instObj C dx) C (some od)/\ ∀name,PySem.W.lookIn name od=some (mA name):=
 let ⟨od,ho,hl⟩:=V5 I.ns
 ⟨od,⟨I.obj,rfl,rfl,ho⟩,hl⟩
section
variable {prog:Program} {w:World} {A:Around} {E:Value->Shared->Prop} {s:Shared} {K:PySem.W.Frag} {x dx C f:Addr} {mA:Str->Option Value} {name:Str} {v:Value}
theorem WJ {expr:Bool} {Q:Value->Shared->Prop} (X:K.In s.heap) (I:ObjM s.heap x dx C mA) (hg:PySem.W.plainGet K C name=true) (hh:PySem.W.hasDictIn K C=true)
  (ha:PySem.W.findIn K (.ref C) name=some none) (hv:mA name=some v) (hv':PySem.W.handedIn v=true) (h:Q v {s with toks:=s.toks+1}):
  wpAny (model prog w) A (getAttr (.ref x) name expr) Q E s:=by
 obtain⟨od,J,hl⟩:=I.look;exact PySem.W.get_value X J (PySem.W.plainGet_of hg).1 (PySem.W.findObj_own hh ha rfl (by rw[hl,hv])) hv' h
theorem EB {ns:List Str} {Q:Unit->Shared->Prop} (X:K.In s.heap) (I:ObjM s.heap x dx C mA)
  (hs:PySem.W.findIn K (.ref C) "__setattr__"=some (some (.builtin "object.__setattr__"))) (hp:PySem.W.plainOver K C=true) (ht:PySem.W.takerIn K C name=some none) (hh:PySem.W.hasDictIn K C=true)
  (hw:PySem.Within mA ns) (hsz:ns.length<=sizeLine)
  (h: ∀h',ObjM h' x dx C (fun y=>if y=name then some v else mA y)->Heap.SameBut dx s.heap h'->Q () {s with heap:=h',toks:=s.toks+2}):
  wpAny (model prog w) A (setAttr (.ref x) name v) Q E s:=by
 obtain⟨od,J,hl⟩:=I.look;refine PySem.W.set_plain X J hs (PySem.W.osa_open (s:={s with toks:=s.toks+1}) (r:=none) X J hp ht fun b=>?_);obtain⟨cd,hc,hd'⟩:=PySem.W.any_some hh;have hx:s.heap.get? x=some ⟨.ref C,some dx, .plain, #[]⟩:=I.obj;refine wpAny_bind (wpAny_pure (wpAny_bind (wpAny_bind (wpAny_loadPart hx (wpAny_bind (PySem.W.Looks.here (s:={s with toks:=s.toks+1}) (PySem.W.looks_clsIn X hc) ?_))))));rw[hd'];refine wpAny_pure (a:=some dx) (wpAny_bind (wpAny_pure (wpAny_bind ?_)));refine wpAny_nsSet1 (s:={s with toks:=s.toks+1}) I.ns fun h' hn2 hs2=>?_;obtain⟨oD,esD,epD,hoD,hdD,hcD⟩:=hn2.count (PySem.Within.cons name v hw);refine wpAny_bind (wpAny_lookBehind hoD (by rw[hdD];exact pastItsLine_dict (Nat.le_trans hcD (by rw[List.length_cons];omega))) ?_);exact wpAny_pure (h _ ⟨(hs2.2 _ (Ne.symm I.ne)).trans I.obj,hn2,I.ne⟩ hs2)
theorem Vn {R:Result->Shared->Prop} {vs:List Value} {kw:List (Str×Value)} (X:K.In s.heap) (hm:PySem.W.makesIn K C=true)
  (hi:PySem.W.findIn K (.ref C) "__init__"=some (some (.ref f))) (hf:PySem.W.typeIn K (.ref f)=some (.type "function"))
  (h:codeAny (model prog w) (A.under (.builtin "type.__call__" ⟨.ref C::vs,kw⟩)) (.call (.ref f) ⟨.ref (s.heap.objs.size+1)::vs,kw⟩) (PySem.W.InitBack (s.heap.objs.size+1) R)
    {s with heap:=(s.heap.push PySem.W.emptyDict).push (PySem.W.instObj C s.heap.objs.size)}):
  codeAny (model prog w) A (.call (.ref C) ⟨vs,kw⟩) R s:=by
 obtain⟨hh,g,d,t,os⟩:=s;exact PySem.W.make_core (PySem.W.makes_of X hm) (PySem.W.looks_findIn X hi) (fun self=>PySem.W.bind_fn X self hf) (.inl rfl) h
end
def YB (f:Str) (v:V):List (Str×V)->List (Str×V)
 |[]=>[(f,v)]
 |(g,x)::r=>if g=f then(g,v)::r else(g,x)::YB f v r
theorem Zk (f g:Str) (v:V): ∀fs:List (Str×V),(YB f v fs).lookup g=if g=f then some v else fs.lookup g
 |[]=>by
  show List.lookup g [(f,v)]=_;by_cases h:g=f
  ·have hb:(g==f)=true:=beq_iff_eq.mpr h;simp only[List.lookup,hb,if_pos h]
  ·have hb:(g==f)=false:=beq_eq_false_iff_ne.mpr h;simp only[List.lookup,hb,if_neg h]
 |(k,x)::r=>by
  have ih:=Zk f g v r;rw[show YB f v ((k,x)::r)=(if k=f then(k,v)::r else(k,x)::YB f v r) from rfl];by_cases hk:k=f
  ·rw[if_pos hk];by_cases h:g=k
   ·have hb:(g==k)=true:=beq_iff_eq.mpr h;simp only[List.lookup,hb,if_pos (h.trans hk)]
   ·have hb:(g==k)=false:=beq_eq_false_iff_ne.mpr h;simp only[List.lookup,hb,if_neg (fun e:g=f=>h (e.trans hk.symm))]
  ·rw[if_neg hk];by_cases h:g=k
   ·have hb:(g==k)=true:=beq_iff_eq.mpr h;simp only[List.lookup,hb,if_neg (fun e:g=f=>hk (h.symm.trans e))]
   ·have hb:(g==k)=false:=beq_eq_false_iff_ne.mpr h;simp only[List.lookup,hb];exact ih
theorem Im (f:Str) (v:V): ∀fs:List (Str×V),f∈(YB f v fs).map (·.1)/\ ∀g,g∈fs.map (·.1)->g∈(YB f v fs).map (·.1)
 |[]=>⟨by simp[YB],fun g h=>by simp at h⟩
 |(k,x)::r=>by
  obtain⟨i1,i2⟩:=Im f v r;rw[show YB f v ((k,x)::r)=(if k=f then(k,v)::r else(k,x)::YB f v r) from rfl];by_cases hk:k=f
  ·rw[if_pos hk];subst hk;exact⟨by simp,fun g h=>by simpa using h⟩
  ·rw[if_neg hk];refine⟨?_,fun g h=>?_⟩
   ·rw[List.map_cons];exact List.mem_cons_of_mem _ i1
   ·rw[List.map_cons] at h ⊢;rcases List.mem_cons.mp h with e|e
    ·exact List.mem_cons.mpr (.inl e)
    ·exact List.mem_cons_of_mem _ (i2 g e)
theorem Ka (f:Str) (v:V): ∀fs:List (Str×V),(YB f v fs).length<=fs.length+1
 |[]=>by simp[YB]
 |(k,x)::r=>by
  have ih:=Ka f v r;rw[show YB f v ((k,x)::r)=(if k=f then(k,v)::r else(k,x)::YB f v r) from rfl];by_cases hk:k=f
  ·rw[if_pos hk,List.length_cons,List.length_cons];omega
  ·rw[if_neg hk,List.length_cons,List.length_cons];omega
theorem RelO.some_of {v:V} {o:Option Value} (r:RelO (some v) o): ∃u,o=some u/\RelV v u:=by
 cases o with
 |none=>exact(show False from r).elim
 |some u=>exact⟨u,rfl,r⟩
theorem Tw {v:V} {u:Value} (r:RelV v u):PySem.W.handedIn u=true:=by
 cases v with
 |non=>cases(show u=Value.none from r);rfl
 |bl b=>cases(show u=Value.bool b from r);rfl
 |int i=>obtain⟨t,e⟩:=(show∃t,u=Value.int i t from r);cases e;rfl
 |str x=>obtain⟨t,e⟩:=(show∃t,u=Value.str x t from r);cases e;rfl
 |byt b=>obtain⟨t,e⟩:=(show∃t,u=Value.bytes b t from r);cases e;rfl
 |flt b=>obtain⟨t,e⟩:=(show∃t,u=Value.float b t from r);cases e;rfl
 |ref a=>cases(show u=Value.ref a from r);rfl
 |ty n=>cases(show u=Value.type n from r);rfl
section
variable {P:Program} {w:World} {H H':Hp} {h h':Heap} {a C dx:Addr} {fs fs':List (Str×V)}
theorem T5 (hok:HOk P w H h) (e:H a=some (.ins C dx fs)): ∃mA,ObjM h a dx C mA/\(∀f,RelO (fs.lookup f) (mA f))/\PySem.Within mA (fs.map (·.1))/\fs.length<=1000/\H dx=some (.own a):=by
 obtain⟨d,z,ne,ob,mA,n,r,q⟩:=(show ObjOk P w H h a (.ins C dx fs) from hok a _ e);exact⟨mA,⟨ob,n,ne⟩,r,q,z,d⟩
end
structure Cls (K:PySem.W.Frag) (C:Addr):Prop where
 pg:PySem.W.plainGet K C Str.empty=true
 hd:PySem.W.hasDictIn K C=true
 po:PySem.W.plainOver K C=true
 sa:PySem.W.findIn K (.ref C) "__setattr__"=some (some (.builtin "object.__setattr__"))
theorem Cls.get {K:PySem.W.Frag} {C:Addr} (c:Cls K C) (f:Str):PySem.W.plainGet K C f=true:=c.pg
def NoAttr (K:PySem.W.Frag) (C:Addr) (f:Str):Prop:=PySem.W.findIn K (.ref C) f=some none
theorem NoAttr.taker {K:PySem.W.Frag} {C:Addr} {f:Str} (n:NoAttr K C f):PySem.W.takerIn K C f=some none:=by
 unfold PySem.W.takerIn;rw[show PySem.W.findIn K (.ref C) f=some none from n];rfl
section
variable {X:Cx} {pins:List (Addr×Obj)} {σ:St} {H:Hp} {s:Shared} {a C dx:Addr} {fs:List (Str×V)} {f:Str} {v:V} {A:Around} {E:Value->Shared->Prop}
theorem Si {b:Bool} {Q:Value->Shared->Prop} (I:Inv X pins σ H s) (e:H a=some (.ins C dx fs)) (c:Cls X.K C) (n:NoAttr X.K C f) (l:fs.lookup f=some v)
  (h: ∀u s',Inv X pins σ H s'->RelV v u->Q u s'):wpAny (model X.prog X.w) A (getAttr (.ref a) f b) Q E s:=by
 obtain⟨mA,O,r,_,_,_⟩:=T5 I.hok e;obtain⟨u,hu,ru⟩:=RelO.some_of (v:=v) (o:=mA f) (by rw[<-l];exact r f);exact WJ I.kIn O (c.get f) c.hd n hu (Tw ru) (h u _ (I.tok _) ru)
theorem SB {y:V} {u:Value} {Q:Unit->Shared->Prop} (I:Inv X pins σ H s) (e:H a=some (.ins C dx fs)) (c:Cls X.K C) (n:NoAttr X.K C f) (hl:fs.length<1000) (ry:RelV y u)
  (h: ∀s',Inv X pins σ (upd H a (.ins C dx (YB f y fs))) s'->Q () s'):wpAny (model X.prog X.w) A (setAttr (.ref a) f u) Q E s:=by
 obtain⟨mA,O,r,wi,_,ho⟩:=T5 I.hok e;have hz:(fs.map (·.1)).length<=sizeLine:=by rw[List.length_map,sizeLine_eq];omega
 refine EB I.kIn O c.sa c.po n.taker c.hd wi hz fun h' O' sb=>h _ ?_;have hd: ∃o,h'.get? dx=some o:=let ⟨o,_,_,e',_⟩:=O'.ns;⟨o,e'⟩
 refine I.write (x:=a) (e:=dx) (by rw[e];exact True.intro) (.inr ho) (fun b q hb z=>(sb.2 b hb).trans z) hd ?_;refine⟨by rw[Ja O.ne];exact ho,?_,O.ne,O'.obj,_,O'.ns,fun g=>?_,fun g hg=>?_⟩
 ·have:=Ka f y fs;omega
 ·show RelO ((YB f y fs).lookup g) (if g=f then some u else mA g);rw[Zk];by_cases q:g=f
  ·rw[if_pos q,if_pos q];exact ry
  ·rw[if_neg q,if_neg q];exact r g
 ·by_cases q:g=f
  ·rw[q];exact(Im f y fs).1
  ·refine(Im f y fs).2 g (wi g fun z=>hg ?_);show(if g=f then some u else mA g)=none;rw[if_neg q];exact z
theorem Inv.made (I:Inv X pins σ H s):Inv X pins σ (upd (upd H s.heap.objs.size (.own (s.heap.objs.size+1))) (s.heap.objs.size+1) (.ins C s.heap.objs.size []))
  {s with heap:=(s.heap.push PySem.W.emptyDict).push (PySem.W.instObj C s.heap.objs.size)}:=by
 have e1:(s.heap.push PySem.W.emptyDict).get? s.heap.objs.size=some PySem.W.emptyDict:=Heap.get?_push_size s.heap rfl
 have e2:((s.heap.push PySem.W.emptyDict).push (PySem.W.instObj C s.heap.objs.size)).get? (s.heap.objs.size+1)=some (PySem.W.instObj C s.heap.objs.size):=by
  have:=Heap.get?_push_size (s.heap.push PySem.W.emptyDict) (o:=PySem.W.instObj C s.heap.objs.size) rfl
  rwa [Heap.size_push] at this
 have e3:(s.heap.push PySem.W.emptyDict).Ns s.heap.objs.size (fun _=>none):=⟨PySem.W.emptyDict, #[],_,e1,rfl,(fun e he=>absurd he (by simp)),fun _=>rfl⟩;have I1:=I.laid (a:=s.heap.objs.size) (o:= .own (s.heap.objs.size+1)) (h':=s.heap.push PySem.W.emptyDict) (t':=s.toks) (fun b u q=>Heap.get?_push_of_some _ q) (Nat.le_refl _) ⟨_,e1⟩;refine I1.laid (a:=s.heap.objs.size+1) (o:= .ins C s.heap.objs.size []) (t':=s.toks) (fun b u q=>Heap.get?_push_of_some _ q) (Nat.le_of_eq (Heap.size_push _ _)) ?_;have ne:s.heap.objs.size≠s.heap.objs.size+1:=Nat.ne_of_lt (Nat.lt_succ_self _);refine⟨by rw[Ja ne,J2],Nat.zero_le _,ne,e2,fun _=>none,(Heap.Ns1.of_empty e3).at fun o q=>Heap.get?_push_of_some _ q,fun _=>True.intro,fun y hy=>absurd rfl hy⟩
theorem X3 {prog:Program} {w:World} {env:Env} {e:Expr} {f:Str} {pos:Pos} {s:Shared} {Q:Value->Shared->Prop} (hb:attributeBase e f env (eval e env)=eval e env)
  (h:wpAny (model prog w) A (eval e env) (fun o s₁=>wpAny (model prog w) A (getAttr o f true) Q E s₁) E s):wpAny (model prog w) A (eval (.Attribute e f pos) env) Q E s:=
 Attribute_any_ h (by rw[arm_eval_Attribute,hb])
end
def Yg (K:PySem.W.Frag) (ta:TE) (f:Str):TE:=fun σ H Q=>ta σ H fun x H1=> ∃a C dx fs v,x= .ref a/\H1 a=some (.ins C dx fs)/\Cls K C/\NoAttr K C f/\fs.lookup f=some v/\Q v H1
def J0w (K:PySem.W.Frag) (ta tv:TE) (f:Str):TS:=fun D σ H=>tv σ H fun y H1=>ta σ H1 fun x H2=> ∃a C dx fs,x= .ref a/\H2 a=some (.ins C dx fs)/\Cls K C/\NoAttr K C f/\fs.length<1000/\
 D.nx σ (upd H2 a (.ins C dx (YB f y fs)))
section
variable {X:Cx} {o e value:Expr} {f:Str} {pos pos' tpos:Pos} {ta tv:TE}
theorem J6 (he:PE X e ta) (hb:attributeBase e f X.env (eval e X.env)=eval e X.env):PE X (.Attribute e f pos) (Yg X.K ta f):=by
 intro pins s σ H Q I h;refine X3 hb (Yz (he pins s σ H _ I h) fun u s1 ⟨x,H1,I1,rx,a,C,dx,fs,v,ex,ea,c,n,l,q⟩=>?_);subst ex;obtain rfl:u=Value.ref a:=rx;exact Si I1 ea c n l fun u' s2 I2 ru=>⟨v,H1,I2,ru,q⟩
theorem JP (ha:PE X o ta) (hv:PE X value tv) (hs:swapsWith value (some (.Attribute o f pos')) pos.line X.env=pure false):PS X (.Assign [.Attribute o f pos'] value pos) (J0w X.K ta tv f):=by
 intro pins s σ H D I h;refine plainObj_wpAny_Assign_Attribute (Yz (hv pins s σ H _ I h) fun u s1 ⟨y,H1,I1,ry,q⟩=>Yz (ha pins s1 σ H1 _ I1 q) fun ov s2 ⟨x,H2,I2,rx,a,C,dx,fs,ex,ea,c,n,l,q2⟩=>?_) hs;subst ex;obtain rfl:ov=Value.ref a:=rx;exact SB I2 ea c n l ry fun s3 I3=>⟨σ,_,I3,q2⟩
end
section
variable {X:Cx} {pins:List (Addr×Obj)} {σ:St} {H:Hp} {s:Shared} {A:Around} {E:Value->Shared->Prop} {Q:Value->Shared->Prop} {c:Value} {b:Bool}
end
end L2
namespace L2
open PySem PySem.Spec PyProof.Rows
structure Room (k:Nat) (A:Around):Prop where
 hd:A.handled=none
 dp:A.depth+3*k+5<recursionLimit
 un:A.units+16*k+200<cLine
theorem Room.mono {j k:Nat} {A:Around} (r:Room k A) (h:j<=k):Room j A:=⟨r.hd,by have:=r.dp;omega,by have:=r.un;omega⟩
theorem Room.deeper {k:Nat} {A:Around} (r:Room (k+1) A) (env:Env):Room k (A.deeper env):=
 ⟨r.hd,by have:=r.dp;show A.depth+1+3*k+5<_;omega,by have:=r.un;show A.units+3+16*k+200<_;omega⟩
theorem Sk {A:Around} {C:Addr} {us:List Value} {kw:List (Str×Value)}:(A.under (.builtin "type.__call__" ⟨.ref C::us,kw⟩)).depth=A.depth+1:=by
 first|rfl|simp[Around.under,Code.weight,Code.isCreation,Code.isGuard,Code.isCaller,Code.frames,Code.isFrame,guardIds]
theorem SK {A:Around} {C:Addr} {us:List Value} {kw:List (Str×Value)}:(A.under (.builtin "type.__call__" ⟨.ref C::us,kw⟩)).units=A.units+1:=by
 first|rfl|simp[Around.under,Code.cUnits,Code.frames,Code.isFrame]
theorem Room.make {k:Nat} {A:Around} (r:Room (k+1) A) (C:Addr) (us:List Value) (kw:List (Str×Value)):Room k (A.under (.builtin "type.__call__" ⟨.ref C::us,kw⟩)):=
 ⟨r.hd,by have:=r.dp;rw[Sk];omega,by have:=r.un;rw[SK];omega⟩
theorem Room.depth {k:Nat} {A:Around} (r:Room k A):A.depth<recursionLimit:=by have:=r.dp;omega
theorem Room.units {k:Nat} {A:Around} (r:Room k A):A.units+64<cLine:=by have:=r.un;omega
def JK:TA:=fun _ H Q=>Q [] H
def Jj (ta:TE) (tr:TA):TA:=fun σ H Q=>ta σ H fun x H1=>tr σ H1 fun xs H2=>Q (x::xs) H2
section
variable {X:Cx} {e:Expr} {es:List Expr} {te:TE} {t:TA} {pos:Pos}
theorem J1:PA X [] JK:=fun _ _ _ _ H Q I h=>Calls.spliced_nil ⟨[],H,I, .nil,h⟩
theorem J0 (ha:PE X e te) (hr:PA X es t) (hs:starEach (e::es) X.env=(false,eval e X.env)::starEach es X.env:=by rfl):PA X (e::es) (Jj te t):=by
 intro pos pins s σ H Q I h;rw[hs];show wpAny _ _ (spliced ((false,eval e X.env)::backTo pos (starEach es X.env))) _ _ s;refine Calls.spliced_cons (Yz (ha pins s σ H _ I h) fun u s1 ⟨x,H1,I1,r1,q1⟩=>?_);exact Yz (hr pos pins s1 σ H1 _ I1 q1) fun us s2 ⟨xs,H2,I2,r2,q2⟩=>⟨x::xs,H2,I2, .cons r1 r2,q2⟩
def J1l (t:TA):TE:=fun σ H Q=>t σ H fun xs H1=>xs.length<=sizeLine/\ ∀p,H1 p=none->Q (.ref p) (upd H1 p (.tup xs))
def Dc (t:TA):TE:=fun σ H Q=>t σ H fun xs H1=>xs.length<=sizeLine/\ ∀p,H1 p=none->Q (.ref p) (upd H1 p (.lst xs))
theorem ML {x1} (h:PA X es t):PE X (.Tuple es x1 pos) (J1l t):=by
 intro pins s σ H Q I hq;refine wpAny_Tuple_spliced (Yz (h pos pins s σ H _ I hq) fun us s1 ⟨xs,H1,I1,r,z,q⟩=>⟨by rw[<-r.length];exact z,?_⟩);have hf:H1 s1.heap.objs.size=none:=I1.hok.fresh (Nat.le_refl _);refine⟨.ref s1.heap.objs.size,upd H1 s1.heap.objs.size (.tup xs),I1.laid (t':=s1.toks) (fun b u e=>Heap.get?_push_of_some _ e) (Nat.le_refl _) ?_,rfl,q _ hf⟩;exact⟨z,us,r,⟨_,Heap.get?_push_size _ rfl,rfl,_,rfl⟩⟩
theorem Jd (h:PA X es t):PE X (.List es pos) (Dc t):=by
 intro pins s σ H Q I hq;refine wpAny_List_spliced (Yz (h pos pins s σ H _ I hq) fun us s1 ⟨xs,H1,I1,r,z,q⟩=>⟨by rw[<-r.length];exact z,?_⟩);have hf:H1 s1.heap.objs.size=none:=I1.hok.fresh (Nat.le_refl _);refine⟨.ref s1.heap.objs.size,upd H1 s1.heap.objs.size (.lst xs),I1.laid (t':=s1.toks) (fun b u e=>Heap.get?_push_of_some _ e) (Nat.le_refl _) ?_,rfl,q _ hf⟩;exact⟨z,us,0,r,Heap.get?_push_size _ rfl⟩
end
abbrev Sp:=List V->Hp->VK->XK->Prop
abbrev CXT:=List Env->Hp->Shared->XK->Value->Shared->Prop
structure Env0 (P:Program) (w:World) (K:PySem.W.Frag) (mg:Str->Option Value) (base:Heap) (A:Around) (outer:List Env) (s:Shared) (H:Hp):Prop where
 frames:A.frames=some outer
 mod:Mod K mg base
 bs: ∀b o,base.get? b=some o->s.heap.get? b=some o/\H b=none
 bsz:base.objs.size<=s.heap.objs.size
 funs:s.heap.FunFrames base outer
 frf: ∀b∈Wq outer,H b=none
 hok:HOk P w H s.heap
 bare:AllBare s.gens
def CE (outer:List Env) (P:Program) (w:World) (H:Hp) (s:Shared) (Q:VK) (u:Value) (s':Shared):Prop:=
 ∃v H',s'.os=s.os/\AllBare s'.gens/\Un (Wq outer) [] H H' s.heap s'.heap/\HOk P w H' s'.heap/\RelV v u/\Q v H'
def CR (CX:CXT) (outer:List Env) (P:Program) (w:World) (H:Hp) (s:Shared) (Q:VK) (E:XK) (r:Result) (s':Shared):Prop:=
 match r with
 | .ok (.ret u)=>CE outer P w H s Q u s'
 | .ok _=>False
 | .error e=>CX outer H s E e s'
structure FnOk (P:Program) (w:World) (K:PySem.W.Frag) (mg:Str->Option Value) (base:Heap) (CX:CXT) (k:Nat) (f:Addr) (fd:FuncData) (ps:List Str) (sp:Sp):Prop where
 len: ∀vs H Q E,sp vs H Q E->vs.length=ps.length
 run: ∀(A:Around) (outer:List Env) (s:Shared) (H:Hp) (args:Args) (us:List Value) (vs:List V) (Q:VK) (E:XK),Room k A->Env0 P w K mg base A outer s H->BindsTo s fd args (ps.zip us)->Vals vs us->sp vs H Q E->
  codeAny (model P w) A (.call (.ref f) args) (CR CX outer P w H s Q E) s
theorem Env0.make {P:Program} {w:World} {K:PySem.W.Frag} {mg:Str->Option Value} {base:Heap} {A:Around} {outer:List Env} {s:Shared} {H:Hp} (e:Env0 P w K mg base A outer s H) (C:Addr) (us:List Value) (kw:List (Str×Value)):
  Env0 P w K mg base (A.under (.builtin "type.__call__" ⟨.ref C::us,kw⟩)) outer s H:=⟨by first|exact e.frames|(simpa [Around.under,Code.envs,Code.isFrame,pushEnvs] using e.frames),e.mod,e.bs,e.bsz,e.funs,e.frf,e.hok,e.bare⟩
section
variable {X:Cx} {pins:List (Addr×Obj)} {σ:St} {H:Hp} {s s':Shared}
theorem Inv.env0 (I:Inv X pins σ H s):Env0 X.prog X.w X.K X.mg X.base X.A X.stack s H:=
 ⟨I.ok.frames,I.ok.mod,I.bs,Nat.le_trans I.ok.bsz I.sz,I.stack,I.stkFree,I.hok,I.bare⟩
theorem Inv.after {Q:VK} {u:Value} (I:Inv X pins σ H s) (h:CE X.stack X.prog X.w H s Q u s'):EP X pins σ Q u s':=by
 obtain⟨v,H',os,bare,un,hok,r,q⟩:=h;obtain⟨hh,g,d,t,os'⟩:=s';obtain rfl:os'=s.os:=os;exact⟨v,H',I.call (h':=hh) (g':=g) (d':=d) (t':=t) (ch:=[]) un hok bare (fun b z=>absurd z (by simp)),r,q⟩
end
def Zd (sp:Sp) (dvs:List V) (E:XK) (t:TA):TE:=fun σ H Q=>t σ H fun vs H1=>sp (vs++dvs) H1 Q E
def Mz (C:Addr) (sp:Sp) (dvs:List V) (E:XK) (t:TA):TE:=fun σ H Q=>t σ H fun vs H1=> ∀x dx,H1 x=none->H1 dx=none->dx≠x->
 sp (.ref x::(vs++dvs)) (upd (upd H1 dx (.own x)) x (.ins C dx [])) (fun v H2=>v= .non/\Q (.ref x) H2) E
def Binds (K:PySem.W.Frag) (fd:FuncData) (ps:List Str) (ds:List Value):Prop:=
 ∀(s:Shared) (us:List Value),K.In s.heap->(us++ds).length=ps.length->BindsTo s fd ⟨us,[]⟩ (ps.zip (us++ds))
theorem Binds.all {K:PySem.W.Frag} {fd:FuncData} {ps:List Str} (h: ∀us:List Value,us.length=ps.length->bindArgs fd ⟨us,[]⟩=pure (ps.zip us)):Binds K fd ps []:=fun s us _ hl=>by
 rw[List.append_nil] at hl ⊢;exact .of_eq (h us hl)
def Passes (CX:CXT) (X:Cx) (E:XK):Prop:= ∀(pins:List (Addr×Obj)) (σ:St) (H:Hp) (s:Shared) (e:Value) (s':Shared),Inv X pins σ H s->CX X.stack H s E e s'->X.xe e s'
section
variable {X:Cx} {CX:CXT} {k:Nat} {f C:Addr} {fd:FuncData} {ps:List Str} {sp:Sp} {dvs:List V} {ds:List Value} {E:XK} {x m:Str} {p pos apos:Pos} {e o:Expr} {es:List Expr} {ta:TE} {t:TA}
theorem XW {pins:List (Addr×Obj)} {σ:St} {H:Hp} {s:Shared} {Q:VK} {us:List Value} {vs:List V} (F:FnOk X.prog X.w X.K X.mg X.base CX k f fd ps sp) (hr:Room k X.A) (hb:Binds X.K fd ps ds) (hd:Vals dvs ds) (hx:Passes CX X E)
  (I:Inv X pins σ H s) (r:Vals vs us) (h:sp (vs++dvs) H Q E):wpAny (model X.prog X.w) X.A (call (.ref f) us) (EP X pins σ Q) X.xe s:=by
 have r2:Vals (vs++dvs) (us++ds):=r.append hd;have hl:(us++ds).length=ps.length:=by rw[<-r2.length];exact F.len _ _ _ _ h
 refine wpAny_call (codeAny_mono (F.run X.A X.stack s H ⟨us,[]⟩ (us++ds) (vs++dvs) Q E hr I.env0 (hb s us I.kIn hl) r2 h) fun r s' hq=>?_);cases r with
 |error e=>exact hx pins σ H s e s' I hq
 |ok fl=>
  cases fl with
  |ret u=>exact I.after hq
  |next=>exact False.elim hq
  |brk=>exact False.elim hq
  |cont=>exact False.elim hq
theorem Xj (F:FnOk X.prog X.w X.K X.mg X.base CX k f fd ps sp) (hr:Room k X.A) (hg:Gl X x) (hm:X.mg x=some (.ref f)) (hk:PySem.W.keepIn X.K (.ref f)=true) (hb:Binds X.K fd ps ds) (hd:Vals dvs ds) (hx:Passes CX X E)
  (ha:PA X (e::es) t) (hdb:(x==("__debug__":Str))=false:=by decide) (he:starEach (e::es) X.env=(false,eval e X.env)::starEach es X.env:=by rfl) (hpl:(backTo pos (starEach es X.env)).any (·.1)=false:=by rfl):
  PE X (.Call (.Name x p) (e::es) [] pos) (Zd sp dvs E t):=by
 intro pins s σ H Q I h;refine wpAny_Call_Name_kw (LC I hg hm ?_ hdb);refine PySem.W.callWith_K (h₀:=X.base) I.ok.mod.kin hk (Yz (ha pos pins s σ H _ I h) fun us s1 ⟨vs,H1,I1,r,q⟩=>⟨I1.kIn,?_⟩) he hpl;exact XW F hr hb hd hx I1 r q
structure Mk (K:PySem.W.Frag) (C f:Addr):Prop where
 makes:PySem.W.makesIn K C=true
 init:PySem.W.findIn K (.ref C) "__init__"=some (some (.ref f))
 fn:PySem.W.isFn K (.ref f)=true
 kp:PySem.W.keepIn K (.ref C)=true
theorem Rm {pins:List (Addr×Obj)} {σ:St} {H:Hp} {s:Shared} {Q:VK} {us:List Value} {vs:List V} (M:Mk X.K C f) (F:FnOk X.prog X.w X.K X.mg X.base CX k f fd ps sp) (hr:Room (k+1) X.A) (hb:Binds X.K fd ps ds) (hd:Vals dvs ds)
  (hx:Passes CX X E) (I:Inv X pins σ H s) (r:Vals vs us)
  (h: ∀x dx,H x=none->H dx=none->dx≠x->sp (.ref x::(vs++dvs)) (upd (upd H dx (.own x)) x (.ins C dx [])) (fun v H2=>v= .non/\Q (.ref x) H2) E):
  wpAny (model X.prog X.w) X.A (call (.ref C) us) (EP X pins σ Q) X.xe s:=by
 have hq:=h (s.heap.objs.size+1) s.heap.objs.size (I.hok.fresh (Nat.le_succ _)) (I.hok.fresh (Nat.le_refl _)) (Nat.ne_of_lt (Nat.lt_succ_self _));have I2:=Inv.made (C:=C) I;have r2:Vals (V.ref (s.heap.objs.size+1)::(vs++dvs)) (Value.ref (s.heap.objs.size+1)::(us++ds)):= .cons rfl (r.append hd)
 have hl:(Value.ref (s.heap.objs.size+1)::us++ds).length=ps.length:=by
  have e:=r2.length;rw[F.len _ _ _ _ hq] at e;exact e.symm
 refine wpAny_call (Vn (f:=f) I.kIn M.makes M.init (beq_iff_eq.mp M.fn) (codeAny_mono (F.run _ X.stack _ _ ⟨Value.ref (s.heap.objs.size+1)::us,[]⟩ (Value.ref (s.heap.objs.size+1)::(us++ds)) _ _ E (hr.make C us [])
  (I2.env0.make C us []) (hb _ (Value.ref (s.heap.objs.size+1)::us) I2.kIn hl) r2 hq) fun r s' hq'=>?_))
 cases r with
 |error e=>exact hx pins σ _ _ e s' I2 hq'
 |ok fl=>
  cases fl with
  |ret u=>
   obtain⟨v,H',I3,rv,ev,q3⟩:=I2.after hq';subst ev;exact⟨rv,⟨V.ref (s.heap.objs.size+1),H',I3,rfl,q3⟩⟩
  |next=>exact False.elim hq'
  |brk=>exact False.elim hq'
  |cont=>exact False.elim hq'
theorem X4 (M:Mk X.K C f) (F:FnOk X.prog X.w X.K X.mg X.base CX k f fd ps sp) (hr:Room (k+1) X.A) (hg:Gl X x) (hm:X.mg x=some (.ref C)) (hb:Binds X.K fd ps ds) (hd:Vals dvs ds) (hx:Passes CX X E)
  (ha:PA X (e::es) t) (hdb:(x==("__debug__":Str))=false:=by decide) (he:starEach (e::es) X.env=(false,eval e X.env)::starEach es X.env:=by rfl) (hpl:(backTo pos (starEach es X.env)).any (·.1)=false:=by rfl):
  PE X (.Call (.Name x p) (e::es) [] pos) (Mz C sp dvs E t):=by
 intro pins s σ H Q I h;refine wpAny_Call_Name_kw (LC I hg hm ?_ hdb);refine PySem.W.callWith_K (h₀:=X.base) I.ok.mod.kin M.kp (Yz (ha pos pins s σ H _ I h) fun us s1 ⟨vs,H1,I1,r,q⟩=>⟨I1.kIn,?_⟩) he hpl;exact Rm M F hr hb hd hx I1 r q
theorem We (M:Mk X.K C f) (F:FnOk X.prog X.w X.K X.mg X.base CX k f fd ps sp) (hr:Room (k+1) X.A) (hg:Gl X x) (hm:X.mg x=some (.ref C)) (hb:Binds X.K fd ps ds) (hd:Vals dvs ds) (hx:Passes CX X E)
  (hdb:(x==("__debug__":Str))=false:=by decide):PE X (.Call (.Name x p) [] [] pos) (Mz C sp dvs E JK):=by
 intro pins s σ H Q I h;refine wpAny_Call_Name_kw (LC I hg hm ?_ hdb);exact PySem.W.callWith_K0 I.kIn M.kp (Rm (us:=[]) M F hr hb hd hx I .nil h)
end
section
variable {X:Cx} {CX:CXT} {k:Nat} {f C:Addr} {fd:FuncData} {ps ks:List Str} {sp:Sp} {E:XK} {x m:Str} {p pos apos kpos:Pos} {e o:Expr} {es:List Expr} {kws:List Keyword} {te ta:TE} {t tk:TA} {nm:Option Str}
variable {g:List Value->List Value->List Value} {gV:List V->List V->List V}
end
structure FnScope (N P:List Str) (sc:Scope):Prop where
 kind:sc.kind= .function
 co:sc.isCoroutine=false
 gen:sc.isGenerator=false
 nd:N.Nodup
 pre:N.take P.length=P
 par: ∀x∈P,sc.names.lookup x=some .local∨sc.names.lookup x=some .cell
 nofree: ∀y∈sc.names,y.2≠ .free
theorem Oo {kindOf:Str->Option NameKind} {x:Str}: ∀{binds:List (Str×Value)} {m:Str->Option Value},(∀v,(x,v)∉binds)->bindL kindOf binds m x=m x
 |[],_,_=>rfl
 |(n,v)::r,m,h=>by
  unfold bindL;rw[Oo fun w hw=>h w (List.mem_cons_of_mem _ hw)];split
  ·have:x≠n:=by rintro rfl;exact h v List.mem_cons_self
   simp[this]
  ·rfl
theorem OB {kindOf:Str->Option NameKind} {x:Str}: ∀{binds:List (Str×Value)} {m:Str->Option Value},(∀v,(x,v)∉binds)->bindC kindOf binds m x=m x
 |[],_,_=>rfl
 |(n,v)::r,m,h=>by
  unfold bindC;rw[OB fun w hw=>h w (List.mem_cons_of_mem _ hw)];split
  ·rfl
  ·have:x≠n:=by rintro rfl;exact h v List.mem_cons_self
   simp[this]
theorem Pa {kindOf:Str->Option NameKind} {x:Str} {v:Value}: ∀{P:List Str} {vs:List Value} {i:Nat} {m:Str->Option Value},P.Nodup->P[i]?=some x->vs[i]?=some v->kindOf x=some .local->
  bindL kindOf (P.zip vs) m x=some v
 |[],_,_,_,_,h,_,_=>by simp at h
 |_::_,[],_,_,_,_,h,_=>by simp at h
 |p::P,w::vs,0,m,nd,h1,h2,hk=>by
  simp at h1 h2;subst h1;subst h2;show bindL kindOf ((p,w)::P.zip vs) m p=_;unfold bindL;rw[Oo fun v hv=>(List.nodup_cons.mp nd).1 (List.of_mem_zip hv).1,if_pos hk];simp
 |p::P,w::vs,i+1,m,nd,h1,h2,hk=>by
  show bindL kindOf ((p,w)::P.zip vs) m x=_;unfold bindL;exact Pa (i:=i) (List.nodup_cons.mp nd).2 (by simpa using h1) (by simpa using h2) hk
theorem OO {kindOf:Str->Option NameKind} {x:Str} {v:Value}: ∀{P:List Str} {vs:List Value} {i:Nat} {m:Str->Option Value},P.Nodup->P[i]?=some x->vs[i]?=some v->kindOf x≠some .local->
  bindC kindOf (P.zip vs) m x=some v
 |[],_,_,_,_,h,_,_=>by simp at h
 |_::_,[],_,_,_,_,h,_=>by simp at h
 |p::P,w::vs,0,m,nd,h1,h2,hk=>by
  simp at h1 h2;subst h1;subst h2;show bindC kindOf ((p,w)::P.zip vs) m p=_;unfold bindC;rw[OB fun v hv=>(List.nodup_cons.mp nd).1 (List.of_mem_zip hv).1,if_neg hk];simp
 |p::P,w::vs,i+1,m,nd,h1,h2,hk=>by
  show bindC kindOf ((p,w)::P.zip vs) m x=_;unfold bindC;exact OO (i:=i) (List.nodup_cons.mp nd).2 (by simpa using h1) (by simpa using h2) hk
def start (N:List Str) (vs:List V):St:=vs.map some++List.replicate (N.length-vs.length) none
def Sy (CX:CXT) (P:Program) (w:World) (K:PySem.W.Frag) (mg:Str->Option Value) (base:Heap) (N:List Str) (qual:Str) (scope:Scope) (f:Addr) (cd:Value) (A:Around) (outer:List Env) (s:Shared) (H:Hp) (E:XK):Cx where
 prog:=P
 w:=w
 K:=K
 mg:=mg
 base:=base
 A:=A.deeper (envOfC qual scope s.heap.objs.size f cd)
 N:=N
 s_0:=s
 H_0:=H
 env:=envOfC qual scope s.heap.objs.size f cd
 outer:=outer
 stack:=envOfC qual scope s.heap.objs.size f cd::outer
 ex:=[]
 calm:=true
 fn:=fun _=>true
 pn:=[]
 xe:=fun e s'=>wpAny (model P w) (A.deeper (envOfC qual scope s.heap.objs.size f cd)) (leaving (envOfC qual scope s.heap.objs.size f cd) e) (fun _ s''=>CX outer H s E e s'') (fun e' s''=>CX outer H s E e' s'') s'
theorem Ry {sc:Scope} {n:Nat} {x:Str} (h:sc.names.lookup x=some .cell): ∃c,(cellsFrom n sc.names []).lookup x=some c:=by
 have q:=PySem.W.cellsFrom_some sc.names n [] (.inl h);exact Option.isSome_iff_exists.mp q
theorem Tv {CX:CXT} {P:Program} {w:World} {K:PySem.W.Frag} {mg:Str->Option Value} {base:Heap} {N ps:List Str} {qual:Str} {scope:Scope} {f:Addr} {cd:Value} {A:Around} {outer:List Env} {s s1:Shared} {H:Hp} {E:XK} {us:List Value} {vs:List V}
  (S:FnScope N ps scope) (hd:A.handled=none) (e0:Env0 P w K mg base A outer s H) (hl:vs.length=ps.length) (r:Vals vs us)
  (x:InCallC s s.heap.objs.size (bindL (envOfC qual scope s.heap.objs.size f cd).kindOf (ps.zip us) fun _=>none) (cellsFrom (s.heap.objs.size+1) scope.names []) (bindC (envOfC qual scope s.heap.objs.size f cd).kindOf (ps.zip us) fun _=>none) s1):
  Inv (Sy CX P w K mg base N qual scope f cd A outer s H E) [] (start N vs) H s1:=by
 have hpl:ps.length<=N.length:=by have:=congrArg List.length S.pre;rw[List.length_take] at this;omega
 obtain⟨h1,tk,rfl,hk⟩:=x.done;have noA: ∀b:Addr,b∉(Sy CX P w K mg base N qual scope f cd A outer s H E).ex:=fun b z=>absurd (show b∈([]:List Addr) from z) (by simp)
 refine⟨⟨e0.mod,S.kind,rfl,rfl,Nat.le_refl _,fun y z c h1 h2=>?_,fun y hy=>?_,fun y c _ h=>?_,fun _=>hd,Around.frames_deeper e0.frames, .inr ⟨rfl,rfl⟩,fun b z=>absurd z (noA b),e0.bs,e0.bsz,fun b _ _=>noA b,fun b z=>absurd z (noA b),e0.funs,e0.frf⟩,
  rfl,e0.bare,Un.kept hk,⟨_,x.toInCall.ns,fun i y v h1 h2 h3=>?_⟩,fun y c h=>⟨_,x.cell y c h⟩,e0.hok.fresh (Nat.le_refl _),fun y c h=>?_,fun p hp=>absurd (show p∈([]:List (Addr×Obj)) from hp) (by simp),e0.hok.kept hk,?_⟩
 ·exact name_of_addr x.apart (PySem.mem_of_lookup h1) (PySem.mem_of_lookup h2)
 ·have hy:scope.names.lookup y=some .cell∨scope.names.lookup y=some .free:=hy;rcases hy with hy|hy
  ·exact Ry hy
  ·exact absurd rfl (S.nofree _ (PySem.mem_of_lookup hy))
 ·exact Nat.le_of_lt (x.above y c (PySem.mem_of_lookup h))
 ·have hi:i<vs.length:=by
   unfold start at h2;by_cases hi:i<vs.length
   ·exact hi
   ·rw[List.getElem?_append_right (by simpa using hi)] at h2;rw[List.getElem?_replicate] at h2;split at h2<;>cases h2
  have ha:vs[i]?=some v:=by
   unfold start at h2;rw[List.getElem?_append_left (by simpa using hi),List.getElem?_map] at h2;cases e:vs[i]? with
   |none=>rw[e] at h2;cases h2
   |some a=>rw[e] at h2;cases h2;rfl
  obtain⟨u,hu,rv⟩:=r.get ha
  have hp:ps[i]?=some y:=by
   rw[<-S.pre,List.getElem?_take_of_lt (by omega)];exact h1
  have ndP:ps.Nodup:=by rw[<-S.pre];exact S.nd.sublist (List.take_sublist _ _)
  refine⟨u,rv,?_⟩;rcases S.par y (List.mem_of_getElem? hp) with k|k
  ·exact .inl ⟨k,Pa ndP hp hu k⟩
  ·obtain⟨c,e⟩:=Ry (n:=s.heap.objs.size+1) k;refine .inr ⟨.inl k,c,e,?_⟩;have q:=x.cell y c e;rw[OO ndP hp hu (by show scope.names.lookup y≠_;rw[k];decide)] at q;exact q
 ·exact e0.hok.fresh (Nat.le_of_lt (x.above y c (PySem.mem_of_lookup h)))
 ·unfold start;show _=N.length;rw[List.length_append,List.length_map,List.length_replicate];omega
theorem J0E {CX:CXT} {P:Program} {w:World} {K:PySem.W.Frag} {mg:Str->Option Value} {base:Heap} {k:Nat} {f:Addr} {name qual:Str} {params:Arguments} {body:List Stmt} {scope:Scope} {dV kV doc pm cdv ct oc:Value} {an od:Option Addr}
  {osl:Array (Option Value)} {N ps:List Str} {sp:Sp} (lk:K.lookup f=some ⟨oc,od, .func (PySem.W.fnOf name qual params body scope dV kV doc pm an cdv ct),osl⟩) (hcd:PySem.W.codeIn K cdv qual=true) (S:FnScope N ps scope)
  (len: ∀vs H Q E,sp vs H Q E->vs.length=ps.length)
  (hbody: ∀(A:Around) (outer:List Env) (s:Shared) (H:Hp) (vs:List V) (Q:VK) (E:XK),Room k (A.deeper (envOfC qual scope s.heap.objs.size f cdv))->sp vs H Q E->
    ∃t,PSs (Sy CX P w K mg base N qual scope f cdv A outer s H E) body t/\t {nx:=fun _ H'=>Q .non H',rt:=Q} (start N vs) H):
  FnOk P w K mg base CX (k+1) f (PySem.W.fnOf name qual params body scope dV kV doc pm an cdv ct) ps sp:=by
 refine⟨len,fun A outer s H args us vs Q E hr e0 hb r hsp=>?_⟩;have hl:=len _ _ _ _ hsp;have KX:K.In s.heap:=e0.mod.kin.keeps fun b o e=>(e0.bs b o e).1;have lim:s.heap.NoLimit:=e0.mod.nolimit.keeps fun b o e=>(e0.bs b o e).1
 have hkind: ∀y∈ps.zip us,scope.names.lookup y.1=some .local∨(scope.names.lookup y.1=some .cell/\((cellsFrom (s.heap.objs.size+1) scope.names []).lookup y.1).isSome=true):=fun⟨n,v⟩ hy=>by
  rcases S.par n (List.of_mem_zip hy).1 with q|q
  ·exact .inl q
  ·exact .inr ⟨q,PySem.W.cellsFrom_some _ _ _ (.inl q)⟩
 refine codeAny_call_function hr.depth (KX _ _ lk) rfl S.co S.gen rfl (PySem.W.codeRec_of KX hcd) (hb _ _ _ _ ?_);refine wpAny_newFunctionEnv_cells S.kind hkind fun env he s1 x=>?_;subst he;refine⟨lim.keeps x.toInCall.keep,codeAny_func ?_⟩;obtain⟨t,ht,hq⟩:=hbody A outer s H vs Q E (hr.deeper _) hsp;have I:Inv (Sy CX P w K mg base N qual scope f cdv A outer s H E) [] (start N vs) H s1:=Tv S hr.hd e0 hl r x;refine wpAny_mono (ht [] s1 (start N vs) H _ I hq) (fun fl s' hs=>?_) fun e s' hs=>hs
 have fin: ∀{σ':St} {H':Hp} {v:V} {u:Value},Inv (Sy CX P w K mg base N qual scope f cdv A outer s H E) [] σ' H' s'->RelV v u->Q v H'->CE outer P w H s Q u s':=
  fun{σ' H' v u} J rv q=>⟨v,H',J.os,J.bare,J.base,J.hok,rv,q⟩
 cases fl with
 |ret u=>
  obtain⟨v,σ',H',J,rv,q⟩:=hs;exact fin J rv q
 |next=>
  obtain⟨σ',H',J,q⟩:=hs;exact fin (v:=V.non) (u:=Value.none) J rfl q
 |brk=>
  obtain⟨_,_,_,q⟩:=hs;exact False.elim q
 |cont=>
  obtain⟨_,_,_,q⟩:=hs;exact False.elim q
end L2
namespace L2
open PySem PySem.Spec PyProof.Rows
section
variable {X:Cx} {x:Str} {p pos:Pos} {e:Expr} {es:List Expr} {t:TA} {id T:String} {r:List V->Hp->VK->Prop}
def Lh (r:List V->Hp->VK->Prop) (t:TA):TE:=fun σ H Q=>t σ H fun vs H1=>r vs H1 Q
theorem Jc (hc:CallR X (.builtin id) r) (hg:Gl X x) (hm:X.mg x=none) (hv:bootBuiltins x=some (.builtin id)) (ha:PA X (e::es) t) (hn:x≠"__name__":=by decide) (hdb:(x==("__debug__":Str))=false:=by decide)
  (he:starEach (e::es) X.env=(false,eval e X.env)::starEach es X.env:=by rfl) (hpl:(backTo pos (starEach es X.env)).any (·.1)=false:=by rfl):PE X (.Call (.Name x p) (e::es) [] pos) (Lh r t):=by
 intro pins s σ H Q I h;refine wpAny_Call_Name_kw (Ck I hg hm hv ?_ hn hdb);exact PyProof.Rows.callWith_builtin1 (Yz (ha pos pins s σ H _ I h) fun us s1 ⟨vs,H1,I1,r1,q1⟩=>hc pins s1 σ H1 vs us Q I1 r1 q1) he hpl
theorem Yq (hc:CallR X (.type T) r) (hg:Gl X x) (hm:X.mg x=none) (hv:bootBuiltins x=some (.type T)) (ha:PA X (e::es) t) (hn:x≠"__name__":=by decide) (hdb:(x==("__debug__":Str))=false:=by decide)
  (he:starEach (e::es) X.env=(false,eval e X.env)::starEach es X.env:=by rfl) (hpl:(backTo pos (starEach es X.env)).any (·.1)=false:=by rfl):PE X (.Call (.Name x p) (e::es) [] pos) (Lh r t):=by
 intro pins s σ H Q I h;refine wpAny_Call_Name_kw (Ck I hg hm hv ?_ hn hdb);exact PyProof.Rows.callWith_type1 (Yz (ha pos pins s σ H _ I h) fun us s1 ⟨vs,H1,I1,r1,q1⟩=>hc pins s1 σ H1 vs us Q I1 r1 q1) he hpl
end
end L2
namespace HT
open PySem PyProof.Rows
section
open PySem.SeqAt
open PySem.AutoSeq1 (wpAny_loadPart')
open PySem.MeetsSeq PySem.MeetsSeq2 PySem.MeetsSeq3
end
section
variable {prog:Program} {w:World} {A:Around} {E:Value->Shared->Prop} {s:Shared}
def sIx (n d:Nat):Option Int->Nat
 |none=>d
 |some v=>if v<0 then(v+(n:Int)).toNat else min v.toNat n
theorem sIx_none (n d:Nat):sIx n d none=d:=rfl
theorem sIx_nat (n d k:Nat):sIx n d (some (k:Int))=min k n:=by
 show(if(k:Int)<0 then((k:Int)+(n:Int)).toNat else min (k:Int).toNat n)=min k n;rw[if_neg (by omega),Int.toNat_natCast]
end
end HT
namespace L2
open PySem PySem.Spec PyProof.Rows
abbrev TO:=St->Hp->(Option Int->Hp->Prop)->Prop
def PO (X:Cx) (e:Option Expr) (t:TO):Prop:=
 ∀(pins:List (Addr×Obj)) (s:Shared) (σ:St) (H:Hp) (Q:Option Int->Hp->Prop),Inv X pins σ H s->t σ H Q->
  wpAny (model X.prog X.w) X.A (evalPart e X.env) (fun u s'=> ∃o H',Inv X pins σ H' s'/\IsPart u o/\Q o H') X.xe s
def Pr:TO:=fun _ H Q=>Q none H
def RN (t:TE):TO:=fun σ H Q=>t σ H fun x H1=> ∃i,x= .int i/\Q (some i) H1
theorem SH {ns:List Int}: ∀{us:List Value},Vals (ns.map V.int) us->IntsAre us ns:=by
 induction ns with
 |nil=>intro us r;rw[List.map_nil] at r;cases r;exact .nil
 |cons n ns ih=>
  intro us r;rw[List.map_cons] at r;cases r with
  |cons r1 r2=>
   obtain⟨t,e⟩:=r1;subst e;exact .cons n t (ih r2)
section
variable {X:Cx} {e:Expr} {te:TE} {lo hi:Option Expr} {tl th:TO} {pos p2:Pos}
theorem LF:PO X none Pr:=by
 intro pins s σ H Q I h;rw[evalPart_none];exact wpAny_pure ⟨none,H,I, .none,h⟩
theorem ZQ (h:PE X e te):PO X (some e) (RN te):=by
 intro pins s σ H Q I hw;rw[evalPart_some];refine Yz (h pins s σ H _ I hw) fun u s1 ⟨x,H1,I1,r1,q1⟩=>?_;obtain⟨i,rfl,q⟩:=q1;obtain⟨t,rfl⟩:=r1;exact⟨some i,H1,I1, .int i t,q⟩
def SlR (X:Cx) (r:V->Option Int->Option Int->Hp->VK->Prop):Prop:=
 ∀(pins:List (Addr×Obj)) (s:Shared) (σ:St) (H:Hp) (x:V) (v vl vu:Value) (lo hi:Option Int) (sl:Addr) (Q:VK),Inv X pins σ H s->RelV x v->s.heap.IsSliceOf sl vl vu .none->IsPart vl lo->IsPart vu hi->r x lo hi H Q->
  ∃T id,typeLookup (.type T) "__getitem__"=pure (some (.builtin id))/\s.TypeIs v T/\wpAny (model X.prog X.w) X.A (getItem v (.ref sl)) (EP X pins σ Q) X.xe s
def tSl (r:V->Option Int->Option Int->Hp->VK->Prop) (te:TE) (tl th:TO):TE:=fun σ H Q=>te σ H fun x H1=>tl σ H1 fun l H2=>th σ H2 fun u H3=>r x l u H3 Q
theorem UN {r:V->Option Int->Option Int->Hp->VK->Prop} (hr:SlR X r) (he:PE X e te) (hl:PO X lo tl) (hu:PO X hi th):PE X (.Subscript e (.Slice lo hi none p2) pos) (tSl r te tl th):=by
 intro pins s σ H Q I h;refine Subscript_ (Yz (he pins s σ H _ I h) fun v s1 ⟨x,H1,I1,r1,q1⟩=>?_);refine wpAny_Slice (Yz (hl pins s1 σ H1 _ I1 q1) fun vl s2 ⟨l,H2,I2,pl,q2⟩=>Yz (hu pins s2 σ H2 _ I2 q2) fun vu s3 ⟨u,H3,I3,pu,q3⟩=>?_);rw[evalPart_none];refine wpAny_pure ?_;have I4:Inv X pins σ H3 {s3 with heap:=s3.heap.push {cls:= .type "slice",data:= .fields #[vl,vu, .none]}}:=I3.kept (t':=s3.toks) fun b ob q=>Heap.get?_push_of_some _ q;obtain⟨T,id,hT,ht,hg⟩:=hr pins {s3 with heap:=s3.heap.push {cls:= .type "slice",data:= .fields #[vl,vu, .none]}} σ H3 x v vl vu l u s3.heap.objs.size Q I4 r1 (Heap.IsSliceOf.new ..) pl pu q3;show wpAny (model X.prog X.w) X.A (subscriptTail e (.Slice lo hi none p2) v (.ref s3.heap.objs.size)) (EP X pins σ Q) X.xe {s3 with heap:=s3.heap.push {cls:= .type "slice",data:= .fields #[vl,vu, .none]}};exact tail_any (ops:=[.ref s3.heap.objs.size,v]) ht hT hg (by with_unfolding_all rfl)
def DA (xs:List V) (lo hi:Option Int):List V:=(xs.drop (HT.sIx xs.length 0 lo)).take (HT.sIx xs.length xs.length hi-HT.sIx xs.length 0 lo)
theorem Rl (xs:List V) (lo hi:Option Int):(DA xs lo hi).length<=xs.length:=by
 unfold DA;rw[List.length_take,List.length_drop];omega
end
end L2
namespace L2
open PySem PySem.Spec PyProof.Rows
def Tq (n:Nat) (i:Int):Option Nat:=if 0<=i then(if i<n then some i.toNat else none) else if-(n:Int)<=i then some (i+n).toNat else none
def Nu {α:Type} (xs:List α) (i:Int):Option α:=(Tq xs.length i).bind fun j=>xs[j]?
theorem Tc {n:Nat} {i:Int} {j:Nat} (h:Tq n i=some j):seqIndex? i n=some j/\j<n/\ -(n:Int)<=i/\i<n:=by
 unfold Tq at h;by_cases h0:0<=i
 ·rw[if_pos h0] at h;by_cases h1:i<n
  ·rw[if_pos h1] at h;have e:i.toNat=j:=Option.some.inj h;exact⟨by rw[seqIndex_of h0 h1,e],by omega,by omega,h1⟩
  ·rw[if_neg h1] at h;cases h
 ·rw[if_neg h0] at h;by_cases h1: -(n:Int)<=i
  ·rw[if_pos h1] at h;have e:(i+n).toNat=j:=Option.some.inj h;exact⟨by rw[seqIndex_neg (by omega) h1,e],by omega,h1,by omega⟩
  ·rw[if_neg h1] at h;cases h
theorem Py {α:Type} {xs:List α} {i:Int} {v:α} (h:Nu xs i=some v): ∃j,seqIndex? i xs.length=some j/\xs[j]?=some v/\j<xs.length/\ -(xs.length:Int)<=i/\i<xs.length:=by
 unfold Nu at h;cases e:Tq xs.length i with
 |none=>rw[e] at h;cases h
 |some j=>
  rw[e] at h;obtain⟨h1,h2,h3,h4⟩:=Tc e;exact⟨j,h1,h,h2,h3,h4⟩
theorem A0 {α:Type} {xs:List α} {j:Nat} {v:α} (h:xs[j]?=some v):Nu xs (j:Int)=some v:=by
 have hj:j<xs.length:=(List.getElem?_eq_some_iff.mp h).1
 have e:Tq xs.length (j:Int)=some j:=by
  unfold Tq;rw[if_pos (by omega),if_pos (by omega)];simp
 unfold Nu;rw[e];exact h
theorem RJ {α:Type} (xs:List α) (v:α):Nu (xs++[v]) (-1)=some v:=by
 have hl:(xs++[v]).length=xs.length+1:=by simp
 have e:Tq (xs++[v]).length (-1)=some xs.length:=by
  unfold Tq;rw[hl,if_neg (by decide),if_pos (by omega)]
  congr 1
  omega
 unfold Nu;rw[e];show(xs++[v])[xs.length]?=some v;simp
def PlainIx (b:Expr):Prop:= ∀o i,subscripted b false o i=operate [o,i] (getItem o i)
def IxR (X:Cx) (r:R2):Prop:=
 ∀(value slice:Expr) (pins:List (Addr×Obj)) (s:Shared) (σ:St) (H:Hp) (x y:V) (v u:Value) (Q:VK),Inv X pins σ H s->RelV x v->RelV y u->r x y H Q->
  subscripted slice false v u=operate [v,u] (getItem v u)->wpAny (model X.prog X.w) X.A (subscriptTail value slice v u) (EP X pins σ Q) X.xe s
def MtR (X:Cx) (id:String) (r:V->List V->Hp->VK->Prop):Prop:=
 ∀(pins:List (Addr×Obj)) (s:Shared) (σ:St) (H:Hp) (x:V) (xs:List V) (v:Value) (us:List Value) (Q:VK),Inv X pins σ H s->RelV x v->Vals xs us->r x xs H Q->
  wpAny (model X.prog X.w) X.A (call (.builtin id) (v::us)) (EP X pins σ Q) X.xe s
section
variable {X:Cx} {a b:Expr} {ta tb:TE} {pos:Pos}
theorem Jq {r:R2} (hr:IxR X r) (ha:PE X a ta) (hb:PE X b tb) (hs:PlainIx b):PE X (.Subscript a b pos) (Ur r ta tb):=by
 intro pins s σ H Q I h;exact Subscript_ (J07 ha hb I h fun v u s2 x y H2 I2 rx ry q=>hr a b pins s2 σ H2 x y v u Q I2 rx ry q (hs _ _))
def Hs (K:PySem.W.Frag):R2:=fun x y H Q=> ∃p xs i v,x= .ref p/\y= .int i/\SqL K H p xs/\Nu xs i=some v/\Q v H
def Vs (K:PySem.W.Frag):R2:=fun x y H Q=> ∃p xs i v,x= .ref p/\y= .int i/\SqT K H p xs/\Nu xs i=some v/\Q v H
theorem Ji:IxR X (Hs X.K):=by
 intro value slice pins s σ H x y v u Q I rx ry h hs;obtain⟨p,xs,i,z,rfl,rfl,hq,he,q⟩:=h;cases rx;obtain⟨t,rfl⟩:=ry;obtain⟨its,r,pl,hz⟩:=I.list hq;obtain⟨j,h1,h2,h3,h4,h5⟩:=Py he;obtain⟨w,ew,rw'⟩:=r.get h2;have hl:=r.length;have hn:=Iu;have fin:EP X pins σ Q w s:=⟨z,H,I,rw',q⟩;by_cases h0:0<=i
 ·have hj:i.toNat=j:=by
   rw[seqIndex_of h0 h5] at h1;exact Option.some.inj h1
  exact item_listR pl.isList h0 (by omega) (by rw[hj];simpa using ew) fin hs
 ·have hj:(i+(its.toArray.size:Int)).toNat=j:=by
   rw[seqIndex_neg (by omega) h4] at h1;rw[List.size_toArray,<-hl];exact Option.some.inj h1
  exact subscriptTail_builtinR (x:=w) pl.isList.typeIs slot_list_getitem.lookup
   (wpAny_getItem_list_neg (Q:=fun r s'=>r=w/\EP X pins σ Q r s') pl.isList (by omega) (by rw[List.size_toArray]<;>omega) (by omega) (by rw[hj];simpa using ew) ⟨rfl,fin⟩) hs
theorem Ui:IxR X (Vs X.K):=by
 intro value slice pins s σ H x y v u Q I rx ry h hs;obtain⟨p,xs,i,z,rfl,rfl,hq,he,q⟩:=h;cases rx;obtain⟨t,rfl⟩:=ry;obtain⟨its,r,pl,hz⟩:=I.tuple hq;obtain⟨j,h1,h2,h3,h4,h5⟩:=Py he;obtain⟨w,ew,rw'⟩:=r.get h2;have hl:=r.length;have hn:=Iu;have fin:EP X pins σ Q w s:=⟨z,H,I,rw',q⟩
 exact subscriptTail_builtinR (x:=w) pl.typeIs slot_tuple_getitem.lookup
  (getItem_tuple (j:=j) (Q:=fun r s'=>r=w/\EP X pins σ Q r s') pl (by omega) (by omega) (by rw[List.size_toArray,<-hl];exact h1) (by simpa using ew) ⟨rfl,fin⟩) hs
theorem RZ (its:List Value) (n j:Nat) (u:Value):Obj.mapSeq (·.setIfInBounds j u) {cls:= .type "list",data:= .seq its.toArray n}={cls:= .type "list",data:= .seq (its.set j u).toArray n}:=by
 simp[Obj.mapSeq]
theorem Inv.lst {pins:List (Addr×Obj)} {σ:St} {H:Hp} {s:Shared} {p:Addr} {xs:List V} (I:Inv X pins σ H s) (h:H p=some (.lst xs)):
  ∃(its:List Value) (n:Nat),Vals xs its/\s.heap.get? p=some {cls:= .type "list",data:= .seq its.toArray n}/\xs.length<=sizeLine:=by
 obtain⟨z,its,n,r,e⟩:=I.hok p _ h;exact⟨its,n,r,e,z⟩
theorem Inv.lstUpd {pins:List (Addr×Obj)} {σ:St} {H:Hp} {s:Shared} {p:Addr} {xs ys:List V} {its its':List Value} {n n':Nat} {f:Obj->Obj} (I:Inv X pins σ H s) (h:H p=some (.lst xs))
  (ho:s.heap.get? p=some {cls:= .type "list",data:= .seq its.toArray n}) (hf:f {cls:= .type "list",data:= .seq its.toArray n}={cls:= .type "list",data:= .seq its'.toArray n'}) (r:Vals ys its') (hz:ys.length<=sizeLine) (t:Nat):
  Inv X pins σ (upd H p (.lst ys)) {s with heap:=s.heap.update p f,toks:=t}:=by
 have e:(s.heap.update p f).get? p=some {cls:= .type "list",data:= .seq its'.toArray n'}:=by
  rw[Heap.get?_update_self f ho (by rw[hf]<;>rfl),hf]
 refine I.write (x:=p) (e:=p) (by rw[h];trivial) (.inl rfl) (fun b u hb q=>(Heap.get?_update_other _ _ (Ne.symm hb)).trans q) ⟨_,e⟩ ?_;exact⟨hz,its',n',r,e⟩
def SV:V->V->V->Hp->(Hp->Prop)->Prop:=fun o i v H Q=> ∃p xs k j,o= .ref p/\i= .int k/\H p=some (.lst xs)/\Tq xs.length k=some j/\Q (upd H p (.lst (xs.set j v)))
theorem Uh:PSet X SV:=by
 intro pins s σ H o i v ov iv u Q I ro ri rv h;obtain⟨p,xs,k,j,rfl,rfl,hp,hj,q⟩:=h;cases ro;obtain⟨t,rfl⟩:=ri;obtain⟨its,n,r,ho,hz⟩:=I.lst hp;obtain⟨h1,h2,h3,h4⟩:=Tc hj;have hl:=r.length;have hn:=Iu
 have I':Inv X pins σ (upd H p (.lst (xs.set j v))) {s with heap:=s.heap.update p (Obj.mapSeq (·.setIfInBounds j u))}:=
  I.lstUpd hp ho (RZ its n j u) (r.set rv j) (by rw[List.length_set];exact hz) s.toks
 by_cases h0:0<=k
 ·have hk:k.toNat=j:=by
   rw[seqIndex_of h0 h4] at h1;exact Option.some.inj h1
  exact PySem.W.ki_setAt ho h0 (by omega) (by rw[List.size_toArray,<-hl];exact h4) (by rw[hk];exact⟨_,I',q⟩)
 ·have hk:(k+(its.toArray.size:Int)).toNat=j:=by
   rw[seqIndex_neg (by omega) h3] at h1;rw[List.size_toArray,<-hl];exact Option.some.inj h1
  exact PySem.W.ki_setBack ho (by omega) (by rw[List.size_toArray,<-hl];exact h3) (by omega) (by rw[hk];exact⟨_,I',q⟩)
theorem PV (lo hi:Option Int) (n:Nat):(sliceBounds lo hi none n).1=((HT.sIx n 0 lo:Nat):Int)/\(sliceBounds lo hi none n).2.1=((HT.sIx n n hi:Nat):Int)/\(sliceBounds lo hi none n).2.2=1:=by
 refine⟨?_,?_,rfl⟩
 ·cases lo with
  |none=>simp[sliceBounds,HT.sIx]
  |some i=>
   simp only[sliceBounds,HT.sIx,Option.getD_none,show(1:Int)>0 by decide,if_true];by_cases h:i<0
   ·simp only[h,if_true]<;>omega
   ·simp only[h,if_false]<;>omega
 ·cases hi with
  |none=>simp[sliceBounds,HT.sIx]
  |some i=>
   simp only[sliceBounds,HT.sIx,Option.getD_none,show(1:Int)>0 by decide,if_true];by_cases h:i<0
   ·simp only[h,if_true]<;>omega
   ·simp only[h,if_false]<;>omega
theorem O2 (its:List Value) (lo hi:Option Int):slicePick its.toArray lo hi none=((its.drop (HT.sIx its.length 0 lo)).take (HT.sIx its.length its.length hi-HT.sIx its.length 0 lo)).toArray:=by
 obtain⟨h1,h2,h3⟩:=PV lo hi its.toArray.size;unfold slicePick;rw[h1,h2,h3];simp only[sliceRange_one,pick_run,List.size_toArray]<;>rfl
def WY (K:PySem.W.Frag):V->Option Int->Option Int->Hp->VK->Prop:=fun x lo hi H Q=> ∃a xs,x= .ref a/\SqL K H a xs/\ ∀p,H p=none->Q (.ref p) (upd H p (.lst (DA xs lo hi)))
theorem AX:SlR X (WY X.K):=by
 intro pins s σ H x v vl vu lo hi sl Q I rx hs pl pu h;obtain⟨a,xs,rfl,hx,q⟩:=h;cases rx;obtain⟨its,r,ht,hz⟩:=I.list hx;have hlen:=r.length;refine⟨"list",_,slot_list_getitem.lookup,ht.isList.typeIs,?_⟩;refine wpAny_getItem_list_slice ht.isList hs pl pu .none (by simp) ?_ (by rw[List.size_toArray]<;>omega);rw[O2,<-hlen];refine⟨.ref s.heap.objs.size,_,I.laid (t':=s.toks) (o:= .lst (DA xs lo hi)) (fun b ob q=>Heap.get?_push_of_some _ q) (Nat.le_refl _) ?_,rfl,q _ (I.hok.fresh (Nat.le_refl _))⟩;exact⟨Nat.le_trans (Rl xs lo hi) hz,_,0,(r.drop (HT.sIx xs.length 0 lo)).take (HT.sIx xs.length xs.length hi-HT.sIx xs.length 0 lo),Heap.get?_push_size _ rfl⟩
def Du:V->Bool
 | .non=>true
 | .bl _=>true
 | .int _=>true
 | .str _=>true
 |_=>false
def Xy:V->V->Bool
 | .non, .non=>true
 | .bl a, .bl b=>a==b
 | .bl a, .int b=>(if a then 1 else 0)==b
 | .int a, .bl b=>a==(if b then 1 else 0)
 | .int a, .int b=>a==b
 | .str a, .str b=>a==b
 |_,_=>false
theorem XM {A:Around} {s:Shared} {y x:V} {u v:Value} (ry:RelV y u) (rx:RelV x v) (fy:Du y=true) (fx:Du x=true):SeqAt.EqAt A s u v (Xy y x):=by
 cases y with
 |non=>
  cases ry;cases x with
  |non=>cases rx;exact SeqAt.EqAt.same _
  |bl b=>cases rx;exact SeqAt.EqAt.none_bool b
  |int b=>obtain⟨t,rfl⟩:=rx;exact SeqAt.EqAt.none_int b t
  |str b=>obtain⟨t,rfl⟩:=rx;exact SeqAt.EqAt.none_str b t
  |_=>exact absurd (show false=true from fx) Bool.false_ne_true
 |bl a=>
  cases ry;cases x with
  |non=>cases rx;exact SeqAt.EqAt.bool_none a
  |bl b=>cases rx;exact SeqAt.EqAt.bool_bool a b
  |int b=>obtain⟨t,rfl⟩:=rx;exact SeqAt.EqAt.bool_int a b t
  |str b=>obtain⟨t,rfl⟩:=rx;exact SeqAt.EqAt.bool_str a b t
  |_=>exact absurd (show false=true from fx) Bool.false_ne_true
 |int a=>
  obtain⟨t',rfl⟩:=ry;cases x with
  |non=>cases rx;exact SeqAt.EqAt.int_none a t'
  |bl b=>cases rx;exact SeqAt.EqAt.int_bool a t' b
  |int b=>obtain⟨t,rfl⟩:=rx;exact SeqAt.EqAt.int_int a t' b t
  |str b=>obtain⟨t,rfl⟩:=rx;exact SeqAt.EqAt.int_str a t' b t
  |_=>exact absurd (show false=true from fx) Bool.false_ne_true
 |str a=>
  obtain⟨t',rfl⟩:=ry;cases x with
  |non=>cases rx;exact SeqAt.EqAt.str_none a t'
  |bl b=>cases rx;exact SeqAt.EqAt.str_bool a t' b
  |int b=>obtain⟨t,rfl⟩:=rx;exact SeqAt.EqAt.str_int a t' b t
  |str b=>obtain⟨t,rfl⟩:=rx;exact SeqAt.EqAt.str_str a t' b t
  |_=>exact absurd (show false=true from fx) Bool.false_ne_true
 |_=>exact absurd (show false=true from fy) Bool.false_ne_true
def Sr (x:V) (u:Value):Bool:=match u with
 | .none=>Xy .non x
 | .bool b=>Xy (.bl b) x
 | .int i _=>Xy (.int i) x
 | .str z _=>Xy (.str z) x
 |_=>false
theorem VO {x y:V} {u:Value} (r:RelV y u) (f:Du y=true):Sr x u=Xy y x:=by
 cases y with
 |non=>cases r;rfl
 |bl b=>cases r;rfl
 |int i=>obtain⟨t,rfl⟩:=r;rfl
 |str z=>obtain⟨t,rfl⟩:=r;rfl
 |_=>exact absurd (show false=true from f) Bool.false_ne_true
theorem Hw {x:V}: ∀{xs:List V} {us:List Value},Vals xs us->xs.all Du=true->us.any (Sr x)=xs.any fun y=>Xy y x
 |_,_, .nil,_=>rfl
 |y::xs,u::us, .cons r t,f=>by
  rw[List.all_cons,Bool.and_eq_true] at f;rw[List.any_cons,List.any_cons,VO r f.1,Hw t f.2]
theorem E5 {A:Around} {s:Shared} {x:V} {v:Value} (rx:RelV x v) (fx:Du x=true): ∀{xs:List V} {us:List Value},Vals xs us->xs.all Du=true-> ∀u∈us,SeqAt.EqAt A s u v (Sr x u)
 |_,_, .nil,_=>fun u hu=>by cases hu
 |y::xs,u::us, .cons r t,f=>fun u' hu=>by
  rw[List.all_cons,Bool.and_eq_true] at f;rcases List.mem_cons.mp hu with rfl|hu
  ·rw[VO r f.1];exact XM r rx f.1 fx
  ·exact E5 rx fx t f.2 u' hu
def Wn (x:V) (xs:List V):Bool:=xs.any fun y=>Xy y x
def X1 (K:PySem.W.Frag) (neg:Bool):R2:=fun x y H Q=> ∃p xs,y= .ref p/\(SqL K H p xs∨SqT K H p xs)/\Du x=true/\xs.all Du=true/\Q (.bl (if neg then !Wn x xs else Wn x xs)) H
theorem Os:OpR X (compareOp .In) (X1 X.K false):=by
 intro pins s σ H x y v u Q I rx ry h;obtain⟨p,xs,rfl,hq,fx,fs,q⟩:=h;cases ry;rcases hq with hq|hq
 ·obtain⟨its,r,pl,hz⟩:=I.list hq;refine SeqAt.in_listAt (Sr x) pl.isList (fun w hw=>E5 rx fx r fs w (by simpa using hw)) ⟨.bl _,H,I,rfl,?_⟩;rw[show its.toArray.any (Sr x)=its.any (Sr x) by simp,Hw r fs];exact q
 ·obtain⟨its,r,pl,hz⟩:=I.tuple hq;refine SeqAt.in_tupleAt (Sr x) pl (fun w hw=>E5 rx fx r fs w (by simpa using hw)) ⟨.bl _,H,I,rfl,?_⟩;rw[show its.toArray.any (Sr x)=its.any (Sr x) by simp,Hw r fs];exact q
theorem Ce:OpR X (compareOp .NotIn) (X1 X.K true):=by
 intro pins s σ H x y v u Q I rx ry h;obtain⟨p,xs,rfl,hq,fx,fs,q⟩:=h;cases ry;rcases hq with hq|hq
 ·obtain⟨its,r,pl,hz⟩:=I.list hq;refine SeqAt.notIn_listAt (Sr x) pl.isList (fun w hw=>E5 rx fx r fs w (by simpa using hw)) ⟨.bl _,H,I,rfl,?_⟩;rw[show its.toArray.any (Sr x)=its.any (Sr x) by simp,Hw r fs];exact q
 ·obtain⟨its,r,pl,hz⟩:=I.tuple hq;refine SeqAt.notIn_tupleAt (Sr x) pl (fun w hw=>E5 rx fx r fs w (by simpa using hw)) ⟨.bl _,H,I,rfl,?_⟩;rw[show its.toArray.any (Sr x)=its.any (Sr x) by simp,Hw r fs];exact q
theorem PP:CallR X (.builtin "len") (fun xs H Q=> ∃p ys,xs=[.ref p]/\(SqL X.K H p ys∨SqT X.K H p ys)/\Q (.int ys.length) H):=by
 intro pins s σ H xs us Q I r h;obtain⟨p,ys,rfl,hq,q⟩:=h;obtain⟨u,rfl,rx⟩:=Fe r;cases rx;have hn:=Iu;rcases hq with hq|hq
 ·obtain⟨its,r',pl,hz⟩:=I.list hq;have hlen:=r'.length;exact Calls.call_len_list pl.isList (by simp only[List.size_toArray]<;>omega) ⟨.int ys.length,H,I.tok _,⟨s.toks+1,by rw[List.size_toArray,hlen]⟩,q⟩
 ·obtain⟨its,r',pl,hz⟩:=I.tuple hq;have hlen:=r'.length;exact len_tuple pl (by simp only[List.size_toArray]<;>omega) ⟨.int ys.length,H,I.tok _,⟨s.toks+1,by rw[List.size_toArray,hlen]⟩,q⟩
theorem PN:CallR X (.type "list") (fun xs H Q=> ∃p ys,xs=[.ref p]/\(SqL X.K H p ys∨SqT X.K H p ys)/\ ∀l,H l=none->Q (.ref l) (upd H l (.lst ys))):=by
 intro pins s σ H xs us Q I r h;obtain⟨p,ys,rfl,hq,q⟩:=h;obtain⟨u,rfl,rx⟩:=Fe r;cases rx
 have fin: ∀(its:List Value),Vals ys its->ys.length<=sizeLine-> ∀(h':Heap) (c':Nat),(∀b o',s.heap.get? b=some o'->h'.get? b=some o')->
   h'.get? s.heap.objs.size=some {cls:= .type "list",dict:=none,data:= .seq its.toArray c',slots:= #[]}->EP X pins σ Q (.ref s.heap.objs.size) {s with heap:=h'}:=fun its r' hz h' c' kp e=>
  ⟨.ref s.heap.objs.size,_,I.laid (t':=s.toks) kp (Nat.le_refl _) (show ObjOk X.prog X.w _ h' _ (.lst ys) from⟨hz,its,c',r',e⟩),rfl,q _ (I.hok.fresh (Nat.le_refl _))⟩
 rcases hq with hq|hq
 ·obtain⟨its,r',pl,hz⟩:=I.list hq;have hlen:=r'.length;obtain⟨o,ho,hc,n,hd⟩:=pl.isList;exact call_list_seq p (.inl rfl) ho hc hd (fun h' c' kp e=>fin its r' hz h' c' kp e) (by simp only[List.size_toArray]<;>omega)
 ·obtain⟨its,r',pl,hz⟩:=I.tuple hq;have hlen:=r'.length;obtain⟨o,ho,hc,n,hd⟩:=pl;exact call_list_seq p (.inr rfl) ho hc hd (fun h' c' kp e=>fin its r' hz h' c' kp e) (by simp only[List.size_toArray]<;>omega)
def tyV (K:PySem.W.Frag) (T:String) (x:V) (H:Hp):Prop:=match x with
 | .str _=>T="str"
 | .int _=>T="int"
 | .ref p=>(T="list"/\ ∃xs,SqL K H p xs)∨(T="tuple"/\ ∃o,K.lookup p=some o/\o.cls= .type "tuple"/\o.dict=none)∨
   (T="dict"/\((∃kvs,H p=some (.dK kvs))∨ ∃kvs,H p=some (.dT kvs)))∨(T="set"/\ ∃S n,H p=some (.set S n))
 |_=>False
theorem VR {pins:List (Addr×Obj)} {σ:St} {H:Hp} {s:Shared} {T:String} {x:V} {v:Value} (I:Inv X pins σ H s) (r:RelV x v) (ty:tyV X.K T x H):
  s.TypeIs v T/\ ∀a,v= .ref a-> ∃ob,s.heap.get? a=some ob/\ob.dict=none:=by
 cases x with
 |str z=>
  obtain⟨t,rfl⟩:=r;cases(show T="str" from ty);exact⟨typeIs_str s z t,fun _ e=>nomatch e⟩
 |int i=>
  obtain⟨t,rfl⟩:=r;cases(show T="int" from ty);exact⟨typeIs_int s i t,fun _ e=>nomatch e⟩
 |ref p=>
  cases r;rcases ty with⟨rfl,xs,hq⟩|⟨rfl,o,hk,hc,hd⟩|⟨rfl,hk⟩|⟨rfl,S,n,hk⟩
  ·obtain⟨its,_,pl,_⟩:=I.list hq;refine⟨pl.isList.typeIs,fun a e=>?_⟩;cases e;obtain⟨o,n,e,c,hd,_⟩:=pl;exact⟨o,e,hd⟩
  ·refine⟨⟨o,I.kIn p o hk,hc⟩,fun a e=>?_⟩;cases e;exact⟨o,I.kIn _ o hk,hd⟩
  ·have z: ∃o,s.heap.get? p=some o/\o.ExactDict:=by
    rcases hk with⟨kvs,hk⟩|⟨kvs,hk⟩
    ·obtain⟨_,_,_,_,o,_,_,e,ex,_⟩:=I.hok p _ hk;exact⟨o,e,ex⟩
    ·obtain⟨_,_,_,_,o,_,_,e,ex,_⟩:=I.hok p _ hk;exact⟨o,e,ex⟩
   obtain⟨o,e,ex⟩:=z;refine⟨⟨o,e,ex.1⟩,fun a e2=>?_⟩;cases e2;exact⟨o,e,ex.2.1⟩
  ·obtain⟨o,_,_,_,e,ex,_⟩:=I.hok p _ hk;refine⟨⟨o,e,ex.1⟩,fun a e2=>?_⟩;cases e2;exact⟨o,e,ex.2.1⟩
 |_=>exact False.elim ty
def J0M (K:PySem.W.Frag) (T:String) (r:V->List V->Hp->VK->Prop) (to:TE):TE:=fun σ H Q=>to σ H fun x H1=>tyV K T x H1/\r x [] H1 Q
def tBM (K:PySem.W.Frag) (T:String) (r:V->List V->Hp->VK->Prop) (to:TE) (t:TA):TE:=fun σ H Q=>to σ H fun x H1=>tyV K T x H1/\t σ H1 fun xs H2=>r x xs H2 Q
variable {o e:Expr} {es:List Expr} {to:TE} {t:TA} {name:Str} {apos cpos:Pos} {T id:String} {r:V->List V->Hp->VK->Prop}
theorem XF (pa:PlainAttrs T) (slot:Slot T name id) (hty:typeOf (.builtin id)=pure (.type "method_descriptor")) (hm:MtR X id r) (ho:PE X o to)
  (hbase:attributeBase o name X.env (eval o X.env)=eval o X.env:=by rfl) (hline:(apos.endLine==cpos.line)=true:=by rfl):PE X (.Call (.Attribute o name apos) [] [] cpos) (J0M X.K T r to):=by
 intro pins s σ H Q I h;refine wpAny_Call_method0_late hbase hline (Yz (ho pins s σ H _ I h) fun v s1 ⟨x,H1,I1,r1,ty,q1⟩=>?_);obtain⟨h1,h2⟩:=VR I1 r1 ty;exact⟨T,id,pa,slot,hty,h1,h2,Calls.callWith_builtin rfl (PySem.evalArgs_none (hm pins s1 σ H1 x [] v [] Q I1 r1 .nil q1))⟩
theorem UP (pa:PlainAttrs T) (slot:Slot T name id) (hty:typeOf (.builtin id)=pure (.type "method_descriptor")) (hm:MtR X id r) (ho:PE X o to) (ha:PA X (e::es) t)
  (hbase:attributeBase o name X.env (eval o X.env)=eval o X.env:=by rfl)
  (hfew:((backTo cpos (starEach (e::es) X.env)).all (fun x=>!x.1)&&(backToKw cpos (keywordEach [] X.env)).all (fun x=>x.1.isSome)
    &&decide ((e::es).length+([]:List Keyword).length+(if([]:List Keyword).isEmpty then 0 else 1)<30))=true:=by rfl)
  (hline:(apos.endLine==cpos.line)=true:=by rfl) (hs:starEach (e::es) X.env=(false,eval e X.env)::starEach es X.env:=by rfl) (hplain:(backTo cpos (starEach es X.env)).any (·.1)=false:=by rfl):
  PE X (.Call (.Attribute o name apos) (e::es) [] cpos) (tBM X.K T r to t):=by
 intro pins s σ H Q I h;refine wpAny_Call_method_late hbase hfew hline rfl (Yz (ho pins s σ H _ I h) fun v s1 ⟨x,H1,I1,r1,ty,q1⟩=>?_);obtain⟨h1,h2⟩:=VR I1 r1 ty;refine⟨T,id,pa,slot,hty,h1,h2,?_⟩;have hA:=ha cpos pins s1 σ H1 _ I1 q1;rw[hs] at hA ⊢;refine Calls.callWith_builtin (by show(false||(backTo cpos (starEach es X.env)).any (·.1))=false;rw[hplain]<;>rfl) (Calls.evalArgs_plain ?_);exact Yz hA fun us s2 ⟨vs,H2,I2,r2,q2⟩=>hm pins s2 σ H2 x vs v us Q I2 r1 r2 q2
end
end L2
namespace L2
open PySem PySem.Spec PyProof.Rows
def MtM (X:Cx) (id:String) (r:V->List V->Hp->VK->Prop):Prop:=
 ∀(pins:List (Addr×Obj)) (s:Shared) (σ:St) (H:Hp) (x:V) (xs:List V) (v:Value) (us:List Value) (Q:VK),Inv X pins σ H s->RelV x v->Vals xs us->r x xs H Q->
  wpAny (model X.prog X.w) X.A (call (.builtin id) (v::us)) (EP X pins σ Q) X.xe s
theorem Vals.one: ∀{x:V} {us:List Value},Vals [x] us-> ∃u,us=[u]/\RelV x u
 |_,_, .cons r .nil=>⟨_,rfl,r⟩
theorem Vals.zero: ∀{us:List Value},Vals [] us->us=[]
 |_, .nil=>rfl
theorem Vals.reverse {xs:List V} {us:List Value} (h:Vals xs us):Vals xs.reverse us.reverse:=by
 induction h with
 |nil=>exact .nil
 |cons r t ih=>rw[List.reverse_cons,List.reverse_cons];exact Vals.append ih (.cons r .nil)
theorem Vals.rep {xs:List V} {us:List Value} (h:Vals xs us): ∀k:Nat,Vals (List.replicate k xs).flatten (List.replicate k us).flatten
 |0=> .nil
 |k+1=>by
  rw[List.replicate_succ,List.replicate_succ,List.flatten_cons,List.flatten_cons];exact Vals.append h (Vals.rep h k)
theorem ON (its:List Value): ∀(k:Nat) (acc:List Value),
  List.foldl (fun x1 x2=>x1++x2) acc.toArray (List.replicate k its.toArray)=(acc++(List.replicate k its).flatten).toArray
 |0,acc=>by simp
 |k+1,acc=>by
  have e:acc.toArray++its.toArray=(acc++its).toArray:=by simp
  have e2:(acc++its)++(List.replicate k its).flatten=acc++(List.replicate (k+1) its).flatten:=by
   rw[List.replicate_succ,List.flatten_cons,List.append_assoc]
  rw[<-e2,<-ON its k (acc++its),<-e,List.replicate_succ,List.foldl_cons]
section
variable {X:Cx} {pins:List (Addr×Obj)} {σ:St} {H:Hp} {s:Shared} {l b:Addr} {xs ys zs:List V}
theorem Inv.lset {its its':List Value} {n:Nat} {f:Array Value->Array Value} {t':Nat} (I:Inv X pins σ H s) (hH:H l=some (.lst xs))
  (e:s.heap.get? l=some {cls:= .type "list",data:= .seq its.toArray n}) (hf:f its.toArray=its'.toArray) (hv:Vals ys its') (hz:ys.length<=sizeLine):
  Inv X pins σ (upd H l (.lst ys)) {s with heap:=s.heap.update l (Obj.mapSeq f),toks:=t'}:=by
 have q:=PySem.IsL.update e f;rw[hf] at q;refine I.write (x:=l) (e:=l) (by rw[hH];exact trivial) (.inl rfl) (fun b' u hb hu=>(Heap.get?_update_other s.heap (Obj.mapSeq f) (Ne.symm hb)).trans hu) ⟨_,q⟩ ?_;exact⟨hz,its',_,hv,q⟩
theorem Inv.lnew {its:List Value} {t':Nat} (I:Inv X pins σ H s) (hv:Vals ys its) (hz:ys.length<=sizeLine):
  Inv X pins σ (upd H s.heap.objs.size (.lst ys)) {s with heap:=s.heap.push {cls:= .type "list",data:= .seq its.toArray},toks:=t'}:=
 I.laid (fun _ _ q=>Heap.get?_push_of_some _ q) (Nat.le_refl _) ⟨hz,its,0,hv,Heap.get?_push_size _ rfl⟩
theorem Inv.fresh (I:Inv X pins σ H s):H s.heap.objs.size=none:=I.hok.fresh (Nat.le_refl _)
theorem Inv.lstM (I:Inv X pins σ H s) (hH:H l=some (.lst xs)):xs.length<=sizeLine/\ ∃(its:List Value) (n:Nat),Vals xs its/\xs.length=its.length/\s.heap.get? l=some {cls:= .type "list",data:= .seq its.toArray n}:=by
 obtain⟨z,its,n,r,e⟩:=I.hok l _ hH;exact⟨z,its,n,r,r.length,e⟩
theorem QP {n:Nat} (h:n<=sizeLine):Builtin.List.listTooLong n=false:=by
 unfold Builtin.List.listTooLong;exact decide_eq_false (by omega)
end
section
variable {X:Cx}
def Hx:V->List V->Hp->VK->Prop:=fun x vs H Q=> ∃l xs y,x= .ref l/\vs=[y]/\H l=some (.lst xs)/\xs.length<sizeLine/\Q .non (upd H l (.lst (xs++[y])))
theorem Yh:MtM X "list.append" Hx:=by
 intro pins s σ H x vs v us Q I rx rv h;obtain⟨l,xs,y,rfl,rfl,hH,hz,q⟩:=h;cases rx;obtain⟨u,rfl,ru⟩:=rv.one;obtain⟨z,its,n,r,hl,e⟩:=I.lstM hH;refine call_meets F.slot_list_append ⟨_,e,rfl⟩ F.entry_list_append (F.args_list_append_2 _ _) (PySem.list_append l its.toArray n u (by rw[List.size_toArray];omega)) ⟨e,?_⟩;refine⟨.non,_,I.lset (its':=its++[u]) hH e (by simp) (r.append (.cons ru .nil)) ?_,rfl,q⟩;rw[List.length_append,List.length_singleton];omega
def SX:V->List V->Hp->VK->Prop:=fun x vs H Q=> ∃l b xs zs,x= .ref l/\vs=[.ref b]/\H l=some (.lst xs)/\H b=some (.lst zs)/\xs.length+zs.length<=sizeLine/\Q .non (upd H l (.lst (xs++zs)))
theorem Iv:MtM X "list.extend" SX:=by
 intro pins s σ H x vs v us Q I rx rv h;obtain⟨l,b,xs,zs,rfl,rfl,hH,hB,hz,q⟩:=h;cases rx;obtain⟨u,rfl,ru⟩:=rv.one;cases ru;obtain⟨z,its,n,r,hl,e⟩:=I.lstM hH;obtain⟨z2,its2,n2,r2,hl2,e2⟩:=I.lstM hB;have hsz:its.toArray.size+its2.toArray.size<=sizeLine:=by rw[List.size_toArray,List.size_toArray];omega
 have hlong: ¬(!its.toArray.isEmpty&&Builtin.List.listTooLong (its.toArray.size+its2.toArray.size))=true:=by
  rw[QP hsz,Bool.and_false];exact Bool.false_ne_true
 refine call_meets F.slot_list_extend ⟨_,e,rfl⟩ F.entry_list_extend (F.args_list_extend_2 _ _)
  (AutoSeq1.list_extend_list_list_0 l its.toArray n b its2.toArray n2 hlong (by rw[List.size_toArray];omega) (by omega)) ⟨e,e2,?_⟩
 refine⟨.non,_,I.lset (its':=its++its2) hH e (by simp) (r.append r2) ?_,rfl,q⟩;rw[List.length_append];omega
def RG:V->List V->Hp->VK->Prop:=fun x vs H Q=> ∃l xs,x= .ref l/\vs=[]/\H l=some (.lst xs)/\Q .non (upd H l (.lst xs.reverse))
theorem S7:MtM X "list.reverse" RG:=by
 intro pins s σ H x vs v us Q I rx rv h;obtain⟨l,xs,rfl,rfl,hH,q⟩:=h;cases rx;have hus:=rv.zero;subst hus;obtain⟨z,its,n,r,hl,e⟩:=I.lstM hH;refine call_meets F.slot_list_reverse ⟨_,e,rfl⟩ F.entry_list_reverse (F.args_list_reverse_1 _) (AutoSeq1.list_reverse_list_0 l its.toArray n (by rw[List.size_toArray];omega)) ⟨e,?_⟩;refine⟨.non,_,I.lset (its':=its.reverse) hH e (by simp) r.reverse ?_,rfl,q⟩;rw[List.length_reverse];omega
def QK:R2:=fun x y H Q=> ∃l b xs zs,x= .ref l/\y= .ref b/\H l=some (.lst xs)/\H b=some (.lst zs)/\xs.length+zs.length<=sizeLine/\ ∀p,H p=none->Q (.ref p) (upd H p (.lst (xs++zs)))
theorem Zc:OpR X (binaryOp .Add) QK:=by
 intro pins s σ H x y v u Q I rx ry h;obtain⟨l,b,xs,zs,rfl,rfl,hH,hB,hz,q⟩:=h;cases rx;cases ry;obtain⟨z,its,n,r,hl,e⟩:=I.lstM hH;obtain⟨z2,its2,n2,r2,hl2,e2⟩:=I.lstM hB;refine PySem.P.add_list e e2 ?_ (by rw[List.size_toArray,List.size_toArray];omega);have ea:its.toArray++its2.toArray=(its++its2).toArray:=by simp
 rw[ea];exact⟨.ref _,_,I.lnew (t':=s.toks) (r.append r2) (by rw[List.length_append];omega),rfl,q _ I.fresh⟩
def J0R:R2:=fun x y H Q=> ∃l k xs,x= .ref l/\y= .int k/\H l=some (.lst xs)/\ -(2^63)<=k/\k<2^63/\xs.length*k.toNat<=sizeLine/\
 ∀p,H p=none->Q (.ref p) (upd H p (.lst (List.replicate k.toNat xs).flatten))
theorem Xl {α:Type} (xs:List α) (k:Nat):(List.replicate k xs).flatten.length=k*xs.length:=by
 induction k with
 |zero=>simp
 |succ k ih=>rw[List.replicate_succ,List.flatten_cons,List.length_append,ih,Nat.succ_mul,Nat.add_comm]
theorem Ei:OpR X (binaryOp .Mult) J0R:=by
 intro pins s σ H x y v u Q I rx ry h;obtain⟨l,k,xs,rfl,rfl,hH,h1,h2,hz,q⟩:=h;cases rx;obtain⟨t,rfl⟩:=ry;obtain⟨z,its,n,r,hl,e⟩:=I.lstM hH;have hlen:its.toArray.size*k.toNat<=sizeLine:=by rw[List.size_toArray,<-hl];exact hz
 have hcap: ¬its.toArray.size*k.toNat>(2^63-1)/8:=by
  have:(sizeLine:Nat)<=(2^63-1)/8:=by decide
  omega
 have hfit: ¬(!Builtin.List.listFitsIndex k)=true:=by
  rw[fitsIndex_both h1 h2];exact Bool.false_ne_true
 have hlong: ¬Builtin.List.listTooLong (its.toArray.size*k.toNat)=true:=by
  rw[QP hlen];exact Bool.false_ne_true
 have hnew:List.foldl (fun x1 x2=>x1++x2) #[] (List.replicate (if its.toArray.isEmpty=true then 0 else k.toNat) its.toArray)=(List.replicate k.toNat its).flatten.toArray:=by
  have f0: ∀m:Nat,List.foldl (fun x1 x2=>x1++x2) #[] (List.replicate m its.toArray)=(List.replicate m its).flatten.toArray:=fun m=>by
   have:=ON its m [];rw[List.nil_append] at this;exact this
  rw[f0];cases its with
  |nil=>simp
  |cons a r'=>rw[if_neg (by simp)]
 refine wpAny_binaryOp_repeat_ref (T:="list") (U:="int") (by decide) ⟨_,e,rfl⟩ (fun s'=>typeIs_int s' k t) noFill_list_mul F.fills_int_mul F.slot_int_rmul repeat_list F.slot_int_index.lookup
  (call_meets F.slot_int_rmul (typeIs_int s k t) F.entry_int_rmul (F.args_int_rmul_2 _ _) (int___rmul___int_list k t l its.toArray n)
    ⟨e,rfl,⟨_,e,rfl⟩,call_meets F.slot_list_mul ⟨_,e,rfl⟩ F.entry_list_mul (F.args_list_mul_2 _ _) (AutoListH.list___mul___list_int_3 l its.toArray n k t hfit hcap hlong) ⟨e,?_⟩⟩)
 rw[hnew];exact⟨.ref _,_,I.lnew (t':=s.toks) (r.rep k.toNat) (by rw[Xl,Nat.mul_comm];exact hz),rfl,q _ I.fresh⟩
end
section
variable {prog:Program} {w:World} {A:Around} {E:Value->Shared->Prop} {s:Shared}
set_option maxRecDepth 100000 in
end
section
variable {X:Cx}
end
end L2
namespace L2
open PySem PySem.Spec PyProof.Rows
theorem Vals.ints: ∀{ns:List Int} {us:List Value},Vals (ns.map V.int) us->IntsAre us ns
 |[],us,h=>by
  rw[List.map_nil] at h;cases h;exact IntsAre.nil
 |n::ns,us,h=>by
  rw[List.map_cons] at h;cases h with
  |cons r t=>
   obtain⟨k,rfl⟩:=r;exact IntsAre.cons n k (Vals.ints t)
theorem Vals.bls: ∀{bs:List Bool} {us:List Value},Vals (bs.map V.bl) us->us=bs.map Value.bool
 |[],us,h=>by
  rw[List.map_nil] at h;cases h;rfl
 |b::bs,us,h=>by
  rw[List.map_cons] at h;cases h with
  |cons r t=>
   cases r;rw[Vals.bls t,List.map_cons]
theorem Vals.ref1 {a:Addr} {us:List Value} (r:Vals [V.ref a] us):us=[Value.ref a]:=by
 cases r with
 |cons r t=>
  cases t;cases r;rfl
section
variable {prog:Program} {w:World} {A:Around} {E:Value->Shared->Prop} {s:Shared} {l:Addr} {its:List Value} {ns:List Int} {Q:Value->Shared->Prop}
theorem Xg (hh:A.handled=none) (hl:s.heap.IsList l its.toArray) (hi:IntsAre its ns)
  (h: ∀h' tk t',(∀b o,s.heap.get? b=some o->h'.get? b=some o)->Q (.int ns.sum t') {s with heap:=h',toks:=tk}):wpAny (model prog w) A (call (.builtin "sum") [.ref l]) Q E s:=by
 obtain⟨xs,e⟩:=hi.allInts.items;have hn:numsOf (intItems xs).toList=ns:=by rw[<-e];exact hi.numsOf
 rw[nums_intItems] at hn;rw[e] at hl;refine PySem.sum_intListG hh hl fun h' tk t' hk=>?_;have:=h h' tk t' hk;rw[preSum_eq,List.take_of_length_le (by simp),hn];exact this
theorem X2 (hh:A.handled=none) (hl:s.heap.IsList l its.toArray) (hi:IntsAre its ns) (hne:0<ns.length)
  (h: ∀h' tk M t',(∀b o,s.heap.get? b=some o->h'.get? b=some o)->M∈ns->(∀a,a∈ns->M<=a)->Q (.int M t') {s with heap:=h',toks:=tk}):wpAny (model prog w) A (call (.builtin "min") [.ref l]) Q E s:=by
 obtain⟨xs,e⟩:=hi.allInts.items;have hn:numsOf (intItems xs).toList=ns:=by rw[<-e];exact hi.numsOf
 rw[nums_intItems] at hn;subst hn;rw[e] at hl;have hsz:0<xs.size:=by simpa using hne
 refine PySem.min_intList hh hl hsz fun v h' tk hv hk=>?_;obtain⟨t,rfl⟩:=intItems_at hv;obtain⟨h1,h2⟩:=argBest_lt (numAt xs) (xs.size-1);refine h h' tk _ t hk ?_ fun a ha=>?_
 ·rw[numAt_eq];exact PySem.getD_mem (by rw[List.length_map,Array.length_toList];omega)
 ·obtain⟨j,hj,rfl⟩:=mem_getD ha;rw[List.length_map,Array.length_toList] at hj;rw[<-numAt_eq];exact h2 j (by omega)
end
section
variable {X:Cx}
def Qz (K:PySem.W.Frag):List V->Hp->VK->Prop:=fun vs H Q=> ∃(a:Addr) (ns:List Int),vs=[V.ref a]/\SqL K H a (ns.map V.int)/\Q (.int ns.sum) H
def J0K (K:PySem.W.Frag):List V->Hp->VK->Prop:=fun vs H Q=> ∃(a:Addr) (ns:List Int),vs=[V.ref a]/\SqL K H a (ns.map V.int)/\0<ns.length/\ ∀m,m∈ns->(∀y,y∈ns->m<=y)->Q (.int m) H
theorem FV (hc:X.calm=true):CallR X (.builtin "sum") (Qz X.K):=by
 intro pins s σ H vs us Q I r h;obtain⟨a,ns,rfl,hs,q⟩:=h;obtain⟨its,rv,hl,_⟩:=I.list hs;rw[Vals.ref1 r];exact Xg (I.ok.hd hc) hl.isList rv.ints fun h' tk t' hk=>⟨.int _,H,I.kept hk,⟨_,rfl⟩,q⟩
theorem XI (hc:X.calm=true):CallR X (.builtin "min") (J0K X.K):=by
 intro pins s σ H vs us Q I r h;obtain⟨a,ns,rfl,hs,hne,q⟩:=h;obtain⟨its,rv,hl,_⟩:=I.list hs;rw[Vals.ref1 r];exact X2 (I.ok.hd hc) hl.isList rv.ints hne fun h' tk m t' hk h1 h2=>⟨.int _,H,I.kept hk,⟨_,rfl⟩,q m h1 h2⟩
end
section
variable {X:Cx}
end
section
variable {X:Cx}
end
theorem Wx {prog:Program} {w:World} {A:Around} {E:Value->Shared->Prop} {s:Shared} {l:Addr} {items:Array Value} {Q:Value->Shared->Prop} (hl:s.heap.IsList l items)
  (h: ∀s₂:Shared,s₂={s with heap:=s.heap.push {cls:= .type "list_iterator",data:= .fields #[.ref l, .int 0 0]}}->
    (s₂.heap.IsListIter s.heap.objs.size l 0/\s₂.heap.IsList l items)->l≠s.heap.objs.size->Q (.ref s.heap.objs.size) s₂):wpAny (model prog w) A (pyIter (.ref l)) Q E s:=by
 have hlt:l<s.heap.objs.size:=by obtain⟨_,e,_⟩:=hl;exact Heap.lt_size e
 exact wpAny_pyIter_list hl (h _ rfl ⟨⟨_,Heap.get?_push_size _ rfl,rfl,rfl⟩,hl.push _⟩ (Nat.ne_of_lt hlt))
theorem R9 {prog:Program} {w:World} {A:Around} {bs:List Bool} {its:List Value} (e:its=bs.map Value.bool):
  TruthOf prog w A (fun i v=>its.toArray[i]?=some v) (fun i=>bs.getD i false):=fun i v s Q E hv hq=>by
 have hv':its[i]?=some v:=by simpa using hv
 rw[e,List.getElem?_map] at hv';obtain⟨b,hb,rfl⟩:=Option.map_eq_some_iff.mp hv';have hg:bs.getD i false=b:=by rw[List.getD_eq_getElem?_getD,hb]<;>rfl
 have hq':Q (bs.getD i false) s:=hq;rw[hg] at hq';exact wpAny_truthy_bool hq'
theorem OE: ∀bs:List Bool,(List.range bs.length).all (fun i=>bs.getD i false)=bs.all id
 |[]=>rfl
 |b::bs=>by
  rw[List.length_cons,List.range_succ_eq_map,List.all_cons,List.all_map,List.all_cons,<-OE bs]
  all_goals rfl
section
variable {X:Cx}
def XE (K:PySem.W.Frag):List V->Hp->VK->Prop:=fun vs H Q=> ∃(a:Addr) (bs:List Bool),vs=[V.ref a]/\SqL K H a (bs.map V.bl)/\Q (.bl (bs.all id)) H
theorem LH (hc:X.calm=true):CallR X (.builtin "all") (XE X.K):=by
 intro pins s σ H vs us Q I r h;obtain⟨a,bs,rfl,hs,q⟩:=h;obtain⟨its,rv,hl,_⟩:=I.list hs;rw[Vals.ref1 r];have hb:=rv.bls;refine call_all_walk (Wx hl.isList fun s₂ e2 st hne=>?_);subst e2;refine⟨_,_,_,_,_,_,_,rfl,Walks.list (A:=X.A.in1) (I.ok.hd hc) _ a hne its.toArray,st,R9 hb,fun h' tk hk=>?_⟩;refine⟨.bl _,H,I.kept fun b o eo=>hk b o (fun hmem=>?_) (Heap.get?_push_of_some _ eo),?_,q⟩
 ·rcases List.mem_cons.mp hmem with e1|hmem
  ·exact absurd (e1▸Heap.lt_size eo) (Nat.lt_irrefl _)
  ·cases hmem
 ·show Value.bool _=Value.bool _;rw[<-OE,hb,List.size_toArray,List.length_map]
end
section
variable {X:Cx} {pins:List (Addr×Obj)} {σ:St} {H:Hp} {s:Shared}
end
section
variable {X:Cx}
end
end L2
namespace L2
open PySem PySem.Spec PyProof.Rows
abbrev CellAt (h:Heap) (c:Addr) (v:Option Value):Prop:=h.IsCell c v
def J1b (scope sc:Scope):Scope:=
 {scope with names:=scope.names.map fun(n,k)=>if(k== .free&&sc.kind== .function&&sc.names.lookup n==some .cell) then(n, .cell) else(n,k)}
def Yb (cells:List (Str×Addr)):List (Str×NameKind)->List (Str×Addr)->List (Str×Addr)
 |[],acc=>acc
 |(n,k)::r,acc=>if k== .free then Yb cells r ((n,(cells.lookup n).getD 0)::acc) else Yb cells r acc
theorem Hl (env:Env) (f:Str×NameKind->List (Str×Addr)->Sem (ForInStep (List (Str×Addr))))
  (hf: ∀n k c,f (n,k) c=if k== .free then(do let a<-cellOf env n;pure (.yield ((n,a)::c))) else pure (.yield c)):
  ∀(names:List (Str×NameKind)) (acc:List (Str×Addr)),(∀y∈names,y.2= .free-> ∃c,env.cells.lookup y.1=some c)->forIn names acc f=pure (Yb env.cells names acc)
 |[],acc,_=>by rw[List.forIn_nil];rfl
 |(n,k)::r,acc,h=>by
  rw[List.forIn_cons,hf];have ih:=fun acc=>Hl env f hf r acc fun y hy=>h y (List.mem_cons_of_mem _ hy);unfold Yb;by_cases hk:(k==NameKind.free)=true
  ·rw[if_pos hk,if_pos hk];obtain⟨c,hc⟩:=h (n,k) List.mem_cons_self (by simpa using hk);have e:cellOf env n=pure c:=by unfold cellOf;rw[hc]
   rw[e];have e2:(env.cells.lookup n).getD 0=c:=by rw[hc];rfl
   rw[e2];exact ih _
  ·rw[if_neg hk,if_neg hk];exact ih _
theorem Sf {scope:Scope} {env:Env} (h: ∀y∈scope.names,y.2= .free-> ∃c,env.cells.lookup y.1=some c):closureFor scope env=pure (Yb env.cells scope.names []):=by
 simp only[closureFor];rw[Hl env _ (fun n k c=>rfl) scope.names [] h];rfl
theorem FX {α:Type}: ∀{l:List (Str×α)} {n:Str} {c:α},(n,c)∈l-> ∃c',l.lookup n=some c'
 |(k,v)::r,n,c,h=>by
  rw[List.lookup_cons];cases hb:n==k with
  |true=>exact⟨_,rfl⟩
  |false=>
   rcases List.mem_cons.mp h with e|h
   ·cases e;simp at hb
   ·exact FX h
theorem B7 {cells:List (Str×Addr)}: ∀{names:List (Str×NameKind)} {acc:List (Str×Addr)} {n:Str} {c:Addr},(n,c)∈Yb cells names acc->(n,c)∈acc∨((n, .free)∈names/\c=(cells.lookup n).getD 0)
 |[],_,_,_,h=> .inl h
 |(m,k)::r,acc,n,c,h=>by
  unfold Yb at h;split at h
  ·rename_i hk
   have hk:k= .free:=by simpa using hk
   rcases B7 h with h|⟨h1,h2⟩
   ·rcases List.mem_cons.mp h with e|h
    ·cases e;exact .inr ⟨hk▸List.mem_cons_self,rfl⟩
    ·exact .inl h
   ·exact .inr ⟨List.mem_cons_of_mem _ h1,h2⟩
  ·rcases B7 h with h|⟨h1,h2⟩
   ·exact .inl h
   ·exact .inr ⟨List.mem_cons_of_mem _ h1,h2⟩
theorem DH {cells:List (Str×Addr)}: ∀{names:List (Str×NameKind)} {acc:List (Str×Addr)} {p:Str×Addr},p∈acc->p∈Yb cells names acc
 |[],_,_,h=>h
 |(m,k)::r,acc,p,h=>by
  unfold Yb;split
  ·exact DH (List.mem_cons_of_mem _ h)
  ·exact DH h
theorem DJ {cells:List (Str×Addr)}: ∀{names:List (Str×NameKind)} {acc:List (Str×Addr)} {n:Str},(n, .free)∈names->(n,(cells.lookup n).getD 0)∈Yb cells names acc
 |(m,k)::r,acc,n,h=>by
  unfold Yb;rcases List.mem_cons.mp h with e|h
  ·cases e;exact DH List.mem_cons_self
  ·split
   ·exact DJ h
   ·exact DJ h
theorem Bx: ∀{names:List (Str×NameKind)} {h:Heap} {acc:List (Str×Addr)} {x:Str} {c:Addr},(x,c)∈cellsFrom h.objs.size names acc->
  (x,c)∈acc∨((x, .cell)∈names/\h.objs.size<=c/\CellAt (pushCells h names) c none)
 |[],_,_,_,_,h=> .inl h
 |(n,k)::r,h,acc,x,c,hm=>by
  unfold cellsFrom at hm;unfold pushCells;split at hm
  ·rename_i hk
   rw[if_pos hk];have hk:k= .cell:=by simpa using hk
   rw[<-Heap.size_push h {cls:= .type "cell",data:= .cell none}] at hm;rcases Bx hm with hm|⟨h1,h2,h3⟩
   ·rcases List.mem_cons.mp hm with e|hm
    ·cases e;exact .inr ⟨hk▸List.mem_cons_self,Nat.le_refl _,_,pushCells_keeps r _ _ _ (Heap.get?_push_size _ rfl),rfl⟩
    ·exact .inl hm
   ·rw[Heap.size_push] at h2;exact .inr ⟨List.mem_cons_of_mem _ h1,Nat.le_of_succ_le h2,h3⟩
  ·rename_i hk
   rw[if_neg hk];rcases Bx hm with hm|⟨h1,h2,h3⟩
   ·exact .inl hm
   ·exact .inr ⟨List.mem_cons_of_mem _ h1,h2,h3⟩
theorem Ev: ∀{names:List (Str×NameKind)} {n:Nat} {acc:List (Str×Addr)} {p:Str×Addr},p∈acc->p∈cellsFrom n names acc
 |[],_,_,_,h=>h
 |(m,k)::r,n,acc,p,h=>by
  unfold cellsFrom;split
  ·exact Ev (List.mem_cons_of_mem _ h)
  ·exact Ev h
theorem IA: ∀{names:List (Str×NameKind)} {n:Nat} {acc:List (Str×Addr)} {x:Str},(x, .cell)∈names-> ∃c,(x,c)∈cellsFrom n names acc
 |(m,k)::r,n,acc,x,h=>by
  unfold cellsFrom;rcases List.mem_cons.mp h with e|h
  ·cases e;exact⟨n,Ev List.mem_cons_self⟩
  ·split
   ·exact IA h
   ·exact IA h
theorem Ir: ∀{names:List (Str×NameKind)} {h:Heap} {acc:List (Str×Addr)} {x y:Str} {c:Addr},(∀p∈acc,p.2<h.objs.size)->(∀x y c,(x,c)∈acc->(y,c)∈acc->x=y)->
  (x,c)∈cellsFrom h.objs.size names acc->(y,c)∈cellsFrom h.objs.size names acc->x=y
 |[],_,_,_,_,_,_,hi,h1,h2=>hi _ _ _ h1 h2
 |(n,k)::r,h,acc,x,y,c,hl,hi,h1,h2=>by
  unfold cellsFrom at h1 h2;split at h1
  ·rename_i hk
   rw[if_pos hk] at h2;rw[<-Heap.size_push h {cls:= .type "cell",data:= .cell none}] at h1 h2;refine Ir (h:=h.push _) (fun p hp=>?_) (fun x y c a b=>?_) h1 h2
   ·rw[Heap.size_push];rcases List.mem_cons.mp hp with rfl|hp
    ·exact Nat.lt_succ_self _
    ·exact Nat.lt_succ_of_lt (hl p hp)
   ·rcases List.mem_cons.mp a with e|a<;>rcases List.mem_cons.mp b with e'|b
    ·cases e;cases e';rfl
    ·cases e;exact absurd (hl _ b) (Nat.lt_irrefl _)
    ·cases e';exact absurd (hl _ a) (Nat.lt_irrefl _)
    ·exact hi _ _ _ a b
  ·rename_i hk
   rw[if_neg hk] at h2;exact Ir hl hi h1 h2
theorem Ri {M:Model} {A:Around} {E:Value->Shared->Prop} {s:Shared} {scope:Scope} {globals:Addr} {closure:List (Str×Addr)} {qual:Str} {func:Option Addr} {code:Value} {around:Env} {builtins:Addr} {Q:Env->Shared->Prop}
  (h:Q (newEnv scope s.heap.objs.size globals (cellsFrom (s.heap.objs.size+1) scope.names closure) qual func code (some around) builtins)
    {s with heap:=pushCells (s.heap.push {cls:= .type "dict",data:= .dict #[]}) scope.names}):
  wpAny M A (newFunctionEnv scope globals closure [] qual func code (some around) builtins) Q E s:=by
 simp only[newFunctionEnv,Option.isSome_some,if_true];refine wpAny_bind (wpAny_alloc ?_);refine wpAny_bind (wpAny_layCells _ (fun n k c=>rfl) scope.names closure _ _ ?_);rw[show({s with heap:=s.heap.push {cls:= .type "dict",data:= .dict #[]}}:Shared).heap.objs.size=s.heap.objs.size+1 from Heap.size_push ..];rw[List.forIn_nil];exact wpAny_bind (wpAny_pure (wpAny_pure h))
theorem Dn {sc:Scope}: ∀{names:List (Str×NameKind)} {x:Str} {k:NameKind},
  (names.map fun(n,k)=>if(k==NameKind.free&&sc.kind== .function&&sc.names.lookup n==some .cell) then(n,NameKind.cell) else(n,k)).lookup x=some k->
  ∃k',names.lookup x=some k'/\(k=k'∨(k'= .free/\k= .cell))
 |[],_,_,h=>by simp at h
 |(n,k₀)::r,x,k,h=>by
  have ih:= @Dn sc r x k;have h':List.lookup x ((if(k₀==NameKind.free&&sc.kind== .function&&sc.names.lookup n==some .cell)=true then(n,NameKind.cell) else(n,k₀))::(r.map _))=some k:=h;cases hx:x==n with
  |true=>
   simp only[List.lookup_cons,hx];by_cases hc:(k₀==NameKind.free&&sc.kind== .function&&sc.names.lookup n==some .cell)=true
   ·rw[if_pos hc] at h';simp only[List.lookup_cons,hx] at h';cases h';simp only[Bool.and_eq_true,beq_iff_eq] at hc;exact⟨k₀,rfl, .inr ⟨hc.1.1,rfl⟩⟩
   ·rw[if_neg hc] at h';simp only[List.lookup_cons,hx] at h';cases h';exact⟨_,rfl, .inl rfl⟩
  |false=>
   simp only[List.lookup_cons,hx];by_cases hc:(k₀==NameKind.free&&sc.kind== .function&&sc.names.lookup n==some .cell)=true
   ·rw[if_pos hc] at h';simp only[List.lookup_cons,hx] at h';exact ih h'
   ·rw[if_neg hc] at h';simp only[List.lookup_cons,hx] at h';exact ih h'
structure BlkOk (N:List Str) (sc scope:Scope) (own:List (Str×Nat)):Prop where
 kind:scope.kind= .function
 uniq: ∀y∈scope.names,scope.names.lookup y.1=some y.2
 ix: ∀p∈own,N[p.2]?=some p.1
 free: ∀y∈scope.names,y.2= .free->sc.names.lookup y.1=some .cell∨sc.names.lookup y.1=some .free
 own: ∀y∈scope.names,y.2= .local∨y.2= .cell->y.1∈own.map (·.1)∨y.1∉N
def Zb (σ:St):List Nat->St
 |[]=>σ
 |v::vs=>(Zb σ vs).set v none
theorem Dh (σ:St): ∀vs:List Nat,(Zb σ vs).length=σ.length
 |[]=>rfl
 |v::vs=>by unfold Zb;rw[List.length_set,Dh σ vs]
theorem Ih {σ:St} {i:Nat} {x:V}: ∀{vs:List Nat},(Zb σ vs)[i]?=some (some x)->σ[i]?=some (some x)/\i∉vs
 |[],h=>⟨h,by simp⟩
 |v::vs,h=>by
  unfold Zb at h;by_cases hi:v=i
  ·subst hi;by_cases hv:v<(Zb σ vs).length
   ·rw[List.getElem?_set_self hv] at h;cases h
   ·rw[List.getElem?_eq_none (by simpa using hv)] at h;cases h
  ·rw[List.getElem?_set_ne hi] at h;obtain⟨h1,h2⟩:=Ih h;exact⟨h1,by simp only[List.mem_cons,not_or];exact⟨fun e=>hi e.symm,h2⟩⟩
abbrev Cx.blk (X:Cx) (s:Shared) (H:Hp) (scope:Scope) (cenv:Env) (fp:List Addr):Cx:={X with s_0:=s,H_0:=H,env:=cenv,outer:=X.stack,ex:=fp,fn:=fun x=>scope.names.lookup x==some .cell,pn:=[],xe:=fun _ _=>False}
section
variable {X:Cx} {pins:List (Addr×Obj)} {σ:St} {H:Hp} {s:Shared}
theorem QJ {scope:Scope} {own:List (Str×Nat)} {fp:List Addr} (I:Inv X pins σ H s) (ok:BlkOk X.N X.env.scope scope own) (hN:X.N.Nodup) (hfp: ∀b∈fp,FpOk X pins H b/\b<s.heap.objs.size):
  Inv (X.blk s H scope (compEnvC scope (cellsFrom (s.heap.objs.size+1) scope.names (Yb X.env.cells scope.names [])) s.heap.objs.size X.env) fp) [] (Zb σ (own.map (·.2))) H {s with heap:=pushCells (s.heap.push {cls:= .type "dict",data:= .dict #[]}) scope.names}:=by
 have hfree: ∀y∈scope.names,y.2= .free-> ∃c,X.env.cells.lookup y.1=some c:=fun y hy e=>by
  rcases ok.free y hy e with k|k
  ·exact I.ok.has _ (.inl k)
  ·exact I.ok.has _ (.inr k)
 generalize hcenv:compEnvC scope (cellsFrom (s.heap.objs.size+1) scope.names (Yb X.env.cells scope.names [])) s.heap.objs.size X.env=cenv;have kp: ∀b o,s.heap.get? b=some o->(pushCells (s.heap.push {cls:= .type "dict",data:= .dict #[]}) scope.names).get? b=some o:=fun b o e=>pushCells_keeps _ _ _ _ (Heap.get?_push_of_some _ e);have hL:cenv.locals=s.heap.objs.size:=by rw[<-hcenv];rfl
 have hcl:cenv.cells=cellsFrom (s.heap.objs.size+1) scope.names (Yb X.env.cells scope.names []):=by rw[<-hcenv];rfl
 have hsc:cenv.scope=J1b scope X.env.scope:=by rw[<-hcenv];rfl
 rw[<-Heap.size_push s.heap {cls:= .type "dict",data:= .dict #[]}] at hcl
 have cm: ∀{y c},(y,c)∈Yb X.env.cells scope.names []->X.env.cells.lookup y=some c/\c<s.heap.objs.size:=fun{y c} hm=>by
  rcases B7 hm with hm|⟨h1,rfl⟩
  ·cases hm
  ·obtain⟨c,hc⟩:=hfree _ h1 rfl;rw[hc];obtain⟨w,z⟩:=I.cell _ _ hc;exact⟨rfl,z.lt⟩
 have mem: ∀{y c},cenv.cells.lookup y=some c->(X.env.cells.lookup y=some c/\c<s.heap.objs.size)∨(s.heap.objs.size+1<=c/\CellAt (pushCells (s.heap.push {cls:= .type "dict",data:= .dict #[]}) scope.names) c none):=fun{y c} e=>by
  rw[hcl] at e;rcases Bx (PySem.mem_of_lookup e) with hm|⟨_,h2,h3⟩
  ·exact .inl (cm hm)
  ·rw[Heap.size_push] at h2;exact .inr ⟨h2,h3⟩
 have look: ∀{y},scope.names.lookup y=some .free-> ∃c,cenv.cells.lookup y=some c/\X.env.cells.lookup y=some c:=fun{y} hl=>by
  have hy:(y,NameKind.free)∈scope.names:=PySem.mem_of_lookup hl;obtain⟨c',e'⟩:=FX (Ev (names:=scope.names) (n:=(s.heap.push {cls:= .type "dict",data:= .dict #[]}).objs.size) (DJ (cells:=X.env.cells) (acc:=[]) hy));rw[<-hcl] at e';refine⟨c',e',?_⟩;rw[hcl] at e';rcases Bx (PySem.mem_of_lookup e') with hm|⟨h1,_,_⟩
  ·exact(cm hm).1
  ·have:=ok.uniq _ h1;rw[hl] at this;cases this
 have Xs:(X.blk s H scope cenv fp).Ok:=by
  refine⟨I.ok.mod,by show cenv.scope.kind=_;rw[hsc];exact ok.kind,by show cenv.globals=_;rw[<-hcenv];exact I.ok.glob,by show cenv.builtins=_;rw[<-hcenv];exact I.ok.blt,by show s.heap.objs.size<=cenv.locals;rw[hL];exact Nat.le_refl _,
   fun y z c e1 e2=>?_,fun y hy=>?_,fun y c z e=>?_,I.ok.hd,I.ok.frames, .inl rfl,fun b hb=>⟨?_,fun y c e z=>?_⟩,I.bs,Nat.le_trans I.ok.bsz I.sz,fun b o e hb=>?_,fun b hb z=>?_,I.stack,I.stkFree⟩
  ·have e1:cenv.cells.lookup y=some c:=e1;have e2:cenv.cells.lookup z=some c:=e2;rw[hcl] at e1 e2;refine Ir (fun p hp=>?_) (fun y z c a b=>I.ok.inj y z c (cm a).1 (cm b).1) (PySem.mem_of_lookup e1) (PySem.mem_of_lookup e2);rw[Heap.size_push];exact Nat.lt_succ_of_lt (cm (y:=p.1) (c:=p.2) hp).2
  ·show∃c,cenv.cells.lookup y=some c
   have key: ∀k,cenv.kindOf y=some k->(k= .cell∨k= .free)-> ∃c,cenv.cells.lookup y=some c:=fun k hk hk'=>by
    unfold Env.kindOf at hk;rw[hsc] at hk;obtain⟨k',e,r⟩:=Dn hk
    have:k'= .cell∨k'= .free:=by
     rcases r with rfl|⟨rfl,_⟩
     ·exact hk'
     ·exact .inr rfl
    rcases this with rfl|rfl
    ·obtain⟨c,hm⟩:=IA (n:=(s.heap.push {cls:= .type "dict",data:= .dict #[]}).objs.size) (acc:=Yb X.env.cells scope.names []) (PySem.mem_of_lookup e);obtain⟨c',e'⟩:=FX hm;exact⟨c',by rw[hcl];exact e'⟩
    ·obtain⟨c,h1,_⟩:=look e;exact⟨c,h1⟩
   rcases hy with hy|hy
   ·exact key _ hy (.inl rfl)
   ·exact key _ hy (.inr rfl)
  ·have z:(scope.names.lookup y==some NameKind.cell)=true:=z;have z:scope.names.lookup y=some .cell:=by simpa using z
   have e:cenv.cells.lookup y=some c:=e;rw[hcl] at e;rcases Bx (PySem.mem_of_lookup e) with hm|⟨_,h2,_⟩
   ·rcases B7 hm with hm|⟨h1,_⟩
    ·cases hm
    ·have q:=ok.uniq _ h1;rw[z] at q;cases q
   ·rw[Heap.size_push] at h2;exact Nat.le_of_succ_le h2
  ·show b≠cenv.locals;rw[hL];exact Nat.ne_of_lt (hfp b hb).2
  ·have e:cenv.cells.lookup y=some c:=e;rcases mem e with⟨h1,_⟩|⟨h1,_⟩
   ·exact(hfp b hb).1.2.2.2.2.1 y c h1 z
   ·have h2:s.heap.objs.size+1<=b:=by rw[<-z];exact h1
    exact absurd (Nat.lt_of_lt_of_le (hfp b hb).2 (Nat.le_of_succ_le h2)) (Nat.lt_irrefl _)
  ·rcases(hfp b hb).1.2.2.2.1 with z|z
   ·exact I.ok.noex b o e z
   ·exact absurd (Nat.lt_of_lt_of_le (Heap.lt_size e) (Nat.le_trans I.ok.bsz z)) (Nat.lt_irrefl _)
  ·rcases List.mem_cons.mp (I.stkSub b z) with z|z
   ·exact(hfp b hb).1.2.1 z
   ·exact(hfp b hb).1.2.2.1 z
 refine⟨Xs,rfl,I.bare,Un.kept kp,⟨fun _=>none,?_,fun i y av e1 e2 e3=>?_⟩,fun y c e=>?_,?_,fun y c e=>?_,fun p hp=>?_,I.hok.kept kp,by rw[Dh];exact I.len⟩
 ·show Heap.Ns _ cenv.locals _;rw[hL];exact Heap.Ns.keeps (Heap.Ns.new ..) fun b o e=>pushCells_keeps _ _ _ _ e
 ·obtain⟨e2,hne⟩:=Ih e2
  have hfr:scope.names.lookup y=some .free/\(cenv.kindOf y=some .cell∨cenv.kindOf y=some .free):=by
   have key: ∀k,cenv.scope.names.lookup y=some k->k= .local∨k= .cell∨k= .free->scope.names.lookup y=some .free/\(cenv.kindOf y=some .cell∨cenv.kindOf y=some .free):=fun k hk hk'=>by
    have hk0:=hk;rw[hsc] at hk;obtain⟨k',e,r⟩:=Dn hk
    have no: ¬(k'= .local∨k'= .cell):=fun hh=>by
     rcases ok.own _ (PySem.mem_of_lookup e) hh with e'|e'
     ·obtain⟨p,hp,hpy⟩:=List.mem_map.mp e';have e3:=ok.ix p hp;have:p.1=y:=hpy;rw[this] at e3;exact hne (List.mem_map.mpr ⟨p,hp,Mi hN e3 e1⟩)
     ·exact e' (List.mem_of_getElem? e1)
    rcases r with rfl|⟨rfl,rfl⟩
    ·rcases hk' with rfl|rfl|rfl
     ·exact absurd (.inl rfl) no
     ·exact absurd (.inr rfl) no
     ·exact⟨e, .inr hk0⟩
    ·exact⟨e, .inl hk0⟩
   have e3:Vis cenv.scope y:=e3;rcases e3 with e3|e3|e3
   ·exact key _ e3 (.inl rfl)
   ·exact key _ e3 (.inr (.inl rfl))
   ·exact key _ e3 (.inr (.inr rfl))
  obtain⟨m,hn,hl⟩:=I.loc;have hvis:Vis X.env.scope y:=(ok.free _ (PySem.mem_of_lookup hfr.1) rfl).elim (fun k=> .inr (.inl k)) (fun k=> .inr (.inr k));obtain⟨w,r,q⟩:=hl i y av e1 e2 hvis;refine⟨w,r, .inr ⟨hfr.2,?_⟩⟩;obtain⟨c,h1,h2⟩:=look hfr.1;rcases q with⟨k,_⟩|⟨_,c',e',z⟩
  ·have k:X.env.scope.names.lookup y=some .local:=k;rcases ok.free _ (PySem.mem_of_lookup hfr.1) rfl with k'|k'<;>rw[show X.env.scope.names.lookup y=_ from k'] at k<;>cases k
  ·rw[h2] at e';cases e';exact⟨c,h1,z.keeps kp⟩
 ·have e:cenv.cells.lookup y=some c:=e;rcases mem e with⟨h1,_⟩|⟨_,z⟩
  ·obtain⟨w,z⟩:=I.cell y c h1;exact⟨w,z.keeps kp⟩
  ·exact⟨_,z⟩
 ·show H cenv.locals=none;rw[hL];exact I.hok.fresh (Nat.le_refl _)
 ·have e:cenv.cells.lookup y=some c:=e;rcases mem e with⟨h1,_⟩|⟨h1,_⟩
  ·exact I.freeC y c h1
  ·exact I.hok.fresh (Nat.le_of_succ_le h1)
 ·exact absurd (show p∈([]:List (Addr×Obj))++[] from hp) (by simp)
theorem J0j {E:Value->Shared->Prop} {D:Addr} {xs:List V} {y:V} {v:Value} {Q:Value->Shared->Prop} (I:Inv X pins σ H s) (hD:H D=some (.lst xs)) (hz:xs.length<sizeLine) (r:RelV y v)
  (h: ∀s',Inv X pins σ (upd H D (.lst (xs++[y]))) s'->Q .none s'):wpAny (model X.prog X.w) X.A (call (.builtin "list.append") [.ref D,v]) Q E s:=by
 obtain⟨hz',its,n,ri,e⟩:=I.hok D _ hD;have hl:=ri.length;refine append_at (hsz:=by rw[List.size_toArray];omega) e fun h' sb ho'=>?_;refine h {s with heap:=h'} (I.write (t':=s.toks) (by rw[hD];trivial) (.inl rfl) (fun b u hb q=>(sb.2 b hb).trans q) ⟨_,ho'⟩ ⟨by rw[List.length_append];exact hz,its++[v],n+1,ri.append (.cons r .nil),?_⟩);rw[ho'];simp
def PTs (X:Cx) (ifs:List Expr) (t:TT):Prop:=
 ∀(pins:List (Addr×Obj)) (s:Shared) (σ:St) (H:Hp) (Q:Bool->Hp->Prop),Inv X pins σ H s->t σ H Q->
  wpAny (model X.prog X.w) X.A (forIn ifs true fun c r=>if r=true then do let ok<-isTrue c X.env (eval c X.env);pure (ForInStep.yield ok) else pure (ForInStep.yield r)) (TP X pins σ Q) X.xe s
def FC:TT:=fun _ H Q=>Q true H
theorem Yw:PTs X [] FC:=fun _ _ _ H _ I h=>wpAny_tests_nil ⟨H,I,h⟩
theorem Hn {c:Expr} {t:TT} (h:PT X c t):PTs X [c] t:=fun pins s σ H Q I hw=>wpAny_tests_one (h pins s σ H Q I hw)
end
theorem TY {α:Type} {t:Sem α} {Q Q':α->Shared->Prop} {M:Model} {A:Around} {E:Value->Shared->Prop} {s:Shared} (h:wpAny M A t Q (fun _ _=>False) s) (hQ: ∀a s,Q a s->Q' a s):wpAny M A t Q' E s:=wpAny_mono h hQ fun _ _ z=>False.elim z
theorem Q0 {prog:Program} {w:World} {A:Around} {R:Result->Shared->Prop} {s:Shared} {elt target iter:Expr} {ifs:List Expr} {scope:Scope} {pos:Pos} {it acc:Value} {env:Env} (I:Nat->Shared->Prop)
  (turn: ∀n s,I n s->wpAny (model prog w) A (pyNext it) (fun r s₁=>match r with
    |none=>R (.ok .next) s₁
    |some v=>wpAny (model prog w) A (letOwnedTupleGo target it v) (fun _ s₁'=>wpAny (model prog w) A (assign target env v) (fun _ s₂=>
      wpAny (model prog w) A (forIn ifs true fun c r=>if r=true then do let ok<-isTrue c env (eval c env);pure (ForInStep.yield ok) else pure (ForInStep.yield r)) (fun ok s₃=>
       if ok=true then wpAny (model prog w) A (eval elt env) (fun x s₄=>
        wpAny (model prog w) A (call (.builtin "list.append") [acc,x]) (fun _ s₅=> ∃m,m<n/\I m s₅) (notedBy (model prog w) A env fun e s'=>R (.error e) s') s₄) (notedBy (model prog w) A env fun e s'=>R (.error e) s') s₃
       else∃m,m<n/\I m s₃) (notedBy (model prog w) A env fun e s'=>R (.error e) s') s₂) (notedBy (model prog w) A env fun e s'=>R (.error e) s') s₁') (notedBy (model prog w) A env fun e s'=>R (.error e) s') s₁) (notedBy (model prog w) A env fun e s'=>R (.error e) s') s)
  (n:Nat) (h:I n s):
  codeAny (model prog w) A (.compLoop (.ListComp elt [⟨target,iter,ifs,0⟩] scope pos) 0 it acc env) R s:=by
 refine codeAny_loop rfl I (fun n s hI=>?_) n h;show wpAny _ A ((compTurn (.ListComp elt [⟨target,iter,ifs,0⟩] scope pos) 0 it acc env).onRaise (fun x=>do noteFrame x env;theTreesLotGoes x)) _ _ s;refine wpAny_noted ?_;rw[compTurn_list];refine wpAny_bind (wpAny_standAt (wpAny_bind (wpAny_mono (turn n s hI) (fun r s₁ h₁=>?_) fun _ _ h'=>h')));cases r with
 |none=>exact wpAny_pure h₁
 |some v=>
  refine wpAny_bind (wpAny_mono h₁ (fun _ s₁' h₁'=>?_) fun _ _ h'=>h');refine wpAny_bind (wpAny_mono h₁' (fun _ s₂ h₂=>wpAny_bind (wpAny_mono h₂ (fun ok s₃ h₃=>?_) fun _ _ h'=>h')) fun _ _ h'=>h');cases ok with
  |false=>exact wpAny_pure ⟨rfl,h₃⟩
  |true=>
   exact wpAny_bind (wpAny_bind (wpAny_mono h₃ (fun x s₄ h₄=>wpAny_bind (wpAny_mono h₄ (fun _ s₅ h₅=>wpAny_pure (wpAny_pure ⟨rfl,h₅⟩)) fun _ _ h'=>h')) fun _ _ h'=>h'))
section
variable {X:Cx}
def Ng (wi:TI) (g:TG) (tt:TT) (te:TE) (vs:List Nat):TE:=fun σ H Q=>wi σ H fun J H1=> ∀D,H1 D=none-> ∃W:Nat->Nat->Hp->Prop,(∃m,W 0 m (upd H1 D (.lst [])))/\ ∀i m H,W i m H->
 (J.stop i H/\Q (.ref D) H)∨(J.go i H/\ ∃Nx:Hp->Prop,(∀H',Nx H'-> ∃m',m'<m/\W (i+1) m' H')/\ ∀x H',J.yld i H x H'->g x (Zb σ vs) H' fun σ2 H2=>Zb σ2 vs=Zb σ vs/\tt σ2 H2 fun b H3=>
  if b=true then te σ2 H3 fun y H4=> ∃acc,H4 D=some (.lst acc)/\acc.length<sizeLine/\Nx (upd H4 D (.lst (acc++[y]))) else Nx H3)
theorem Ta {pins:List (Addr×Obj)} {s:Shared} {σ:St} {H:Hp} {Q:VK} {elt tg iter:Expr} {ifs:List Expr} {scope:Scope} {own:List (Str×Nat)} {pos pos':Pos} {wi:TI} {g:TG} {tt:TT} {te:TE} {use:Option (Value->Sem Unit)} {Qf:Value->Shared->Prop}
  (hc:X.calm=true) (hN:X.N.Nodup) (I:Inv X pins σ H s) (hi:PI X tg iter wi) (ok:BlkOk X.N X.env.scope scope own)
  (hg: ∀(s:Shared) (H:Hp) (C:Addr) (cl:List (Str×Addr)) (fp:List Addr),PG (X.blk s H scope (compEnvC scope cl C X.env) fp) tg g) (ht: ∀(s:Shared) (H:Hp) (C:Addr) (cl:List (Str×Addr)) (fp:List Addr),PTs (X.blk s H scope (compEnvC scope cl C X.env) fp) ifs tt)
  (he: ∀(s:Shared) (H:Hp) (C:Addr) (cl:List (Str×Addr)) (fp:List Addr),PE (X.blk s H scope (compEnvC scope cl C X.env) fp) elt te) (hs: ∀x,foldedSetIterable iter X.env x=pure x)
  (h:Ng wi g tt te (own.map (·.2)) σ H Q)
  (hRR: ∀D C s' m H',Inv X pins σ H' s'->Q (.ref D) H'->s'.heap.Ns C m->FpOk X pins H' C->compPost (model X.prog X.w) X.A X.xe use Qf (.ref D) C (.ok .next) s'):
  wpAny (model X.prog X.w) X.A (comprehension (.ListComp elt [⟨tg,iter,ifs,0⟩] scope pos) scope X.env pos' (newList []) false (eval iter X.env) use) Qf X.xe s:=by
 have hfree: ∀y∈scope.names,y.2= .free-> ∃c,X.env.cells.lookup y.1=some c:=fun y hy e=>by
  rcases ok.free y hy e with k|k
  ·exact I.ok.has _ (.inl k)
  ·exact I.ok.has _ (.inr k)
 refine wpAny_comprehension_free (use:=use) rfl hs (Sf hfree) ok.kind (fun y hy e=>by rw[ok.uniq y hy,e])
  (Yz (hi pins s σ H _ I h) fun xv s1 hx=>Yz hx fun itv s2 h2=>?_)
 obtain⟨it,fp,tn,J,H2,e,I2,T,st2,f2,q⟩:=h2;subst e;refine wpAny_newObj_type (Ri ?_) (by show 0<=sizeLine;decide);generalize hD:s2.heap.objs.size=D;have hDn:H2 D=none:=I2.hok.fresh (Nat.le_of_eq hD);obtain⟨W,⟨m0,w0⟩,turn⟩:=q D hDn;generalize hs3:({s2 with heap:=s2.heap.push {cls:= .type "list",data:= .seq ([]:List Value).toArray}}:Shared)=s3
 have I3:Inv X pins σ (upd H2 D (.lst [])) s3:=by
  rw[<-hs3];refine I2.laid (t':=s2.toks) (fun b o e=>Heap.get?_push_of_some _ e) (Nat.le_of_eq hD) ⟨Nat.zero_le _,[],0, .nil,?_⟩;rw[<-hD];exact Heap.get?_push_size _ rfl
 have h3:s3.heap=s2.heap.push {cls:= .type "list",data:= .seq ([]:List Value).toArray}:=by rw[<-hs3]
 have sz: ∀b∈fp,b<s2.heap.objs.size:=fun b hb=>by
  obtain⟨o,e,_⟩:=T.obj _ _ st2 b hb;exact Heap.lt_size e
 have f3: ∀b∈fp,FpOk X pins (upd H2 D (.lst [])) b/\b<s3.heap.objs.size:=fun b hb=>by
  have hlt:=sz b hb;refine⟨⟨?_,(f2 b hb).2⟩,by rw[h3,Heap.size_push];exact Nat.lt_succ_of_lt hlt⟩;rw[Ja (by rw[<-hD];exact Nat.ne_of_lt hlt)];exact(f2 b hb).1
 have st3:tn 0 s3.heap:=T.keep _ _ _ st2 fun b _ o e=>by rw[h3];exact Heap.get?_push_of_some _ e
 have I4:=QJ I3 ok hN f3;have pg:=hg s3 (upd H2 D (.lst [])) s3.heap.objs.size (cellsFrom (s3.heap.objs.size+1) scope.names (Yb X.env.cells scope.names [])) fp;have pt:=ht s3 (upd H2 D (.lst [])) s3.heap.objs.size (cellsFrom (s3.heap.objs.size+1) scope.names (Yb X.env.cells scope.names [])) fp;have pe:=he s3 (upd H2 D (.lst [])) s3.heap.objs.size (cellsFrom (s3.heap.objs.size+1) scope.names (Yb X.env.cells scope.names [])) fp;show codeAny _ _ (.compStart (.ListComp elt [⟨tg,iter,ifs,0⟩] scope pos) 0 (.ref it) (.ref D) (compEnvC scope (cellsFrom (s3.heap.objs.size+1) scope.names (Yb X.env.cells scope.names [])) s3.heap.objs.size X.env)) (compPost (model X.prog X.w) X.A X.xe use Qf (.ref D) s3.heap.objs.size) {s3 with heap:=pushCells (s3.heap.push {cls:= .type "dict",data:= .dict #[]}) scope.names};have nfp: ∀b∈fp,(upd H2 D (.lst [])) b=none:=fun b hb=>(f3 b hb).1.1;generalize hce:compEnvC scope (cellsFrom (s3.heap.objs.size+1) scope.names (Yb X.env.cells scope.names [])) s3.heap.objs.size X.env=ce at I4 pg pt pe ⊢;have cL:ce.locals=s3.heap.objs.size:=by subst hce;rfl
 generalize hH3:upd H2 D (.lst [])=H3 at I3 I4 pg pt pe w0 nfp f3;generalize hs4:({s3 with heap:=pushCells (s3.heap.push {cls:= .type "dict",data:= .dict #[]}) scope.names}:Shared)=s4 at I4 ⊢;have st4:tn 0 s4.heap:=T.keep _ _ _ st3 fun b _ o e=>by rw[<-hs4];exact pushCells_keeps _ _ _ _ (Heap.get?_push_of_some _ e)
 have stat: ∀{σ':St} {H':Hp} {s':Shared},Inv (X.blk s3 H3 scope ce fp) [] σ' H' s'->(∀b∈fp,H' b=none)-> ∀b∈fp,FpOk (X.blk s3 H3 scope ce fp) [] H' b:=fun{σ' H' s'} I' hn b hb=>
  ⟨hn b hb,(I'.ok.exf b hb).1,I'.ok.exfs b hb, .inl hb,fun x c e=>(I'.ok.exf b hb).2 x c e,fun p hp=>absurd (show p∈([]:List (Addr×Obj))++[] from hp) (by simp)⟩
 have loop:codeAny (model X.prog X.w) X.A (.compLoop (.ListComp elt [⟨tg,iter,ifs,0⟩] scope pos) 0 (.ref it) (.ref D) ce) (compPost (model X.prog X.w) X.A X.xe use Qf (.ref D) s3.heap.objs.size) s4:=by
  refine Q0 (fun n s'=> ∃i H',Inv (X.blk s3 H3 scope ce fp) [] (Zb σ (own.map (·.2))) H' s'/\tn i s'.heap/\(∀b∈fp,H' b=none)/\W i n H') ?_ m0 ⟨0,H3,I4,st4,nfp,w0⟩;rintro n s5 ⟨i,H5,I5,st5,n5,w5⟩;rcases turn i n H5 w5 with⟨stop,qq⟩|⟨go,Nx,hNx,step⟩
  ·have td:=T.done (X.blk s3 H3 scope ce fp) rfl rfl rfl hc i [] s5 _ H5 (fun _ _=>False) I5 (stat I5 n5) st5 stop;refine TY td fun r s6 ⟨hr,I6⟩=>?_;subst hr;have I7:Inv X pins σ H5 s6:=I3.call' (ch:=fp) I6.os I6.base I6.hok I6.bare fun b hb=>⟨(f3 b hb).1.2.2.2.1,(f3 b hb).1.2.1,(f3 b hb).1.2.2.2.2.1,(f3 b hb).1.2.2.2.2.2⟩
   have nC:H5 s3.heap.objs.size=none:=by
    have z:H5 ce.locals=none:=I6.free;rw[cL] at z;exact z
   obtain⟨m,hn,_⟩:=I6.loc;have hn:s6.heap.Ns ce.locals m:=hn;rw[cL] at hn;exact hRR D s3.heap.objs.size s6 m H5 I7 qq hn (I3.fpOk (Nat.le_refl _) nC)
  ·have ti:=T.item (X.blk s3 H3 scope ce fp) rfl rfl rfl hc i [] s5 _ H5 (fun _ _=>False) I5 (stat I5 n5) st5 go;refine TY ti fun r s6 ⟨u,hr,h6⟩=>?_;subst hr;refine TY h6 fun _ s7 ⟨x,H7,I7,r7,y7,st7,n7⟩=>?_;have I7':=I7.pinned (stat I7 n7) (T.obj _ _ st7);refine TY (pg _ s7 _ H7 x u _ I7' r7 (step x H7 y7)) fun _ s8 ⟨σ8,H8,I8,hw8,q8⟩=>?_;refine TY (pt _ s8 σ8 H8 _ I8 q8) fun b s9 ⟨H9,I9,q9⟩=>?_
   have fin: ∀{s':Shared} {H':Hp},Inv (X.blk s3 H3 scope ce fp) ([]++MS fp s7.heap) σ8 H' s'->Nx H'-> ∃m,m<n/\ ∃i H',Inv (X.blk s3 H3 scope ce fp) [] (Zb σ (own.map (·.2))) H' s'/\tn i s'.heap/\(∀b∈fp,H' b=none)/\W i m H':=fun{s' H'} I' nx=>by
    obtain⟨m',hm,w'⟩:=hNx H' nx
    have pin': ∀b∈fp,∀o,s7.heap.get? b=some o->s'.heap.get? b=some o/\H' b=none:=fun b hb o e=>
     let z:=I'.pin (b,o) (List.mem_append_right _ (List.mem_append_right _ (G2 hb e)))
     ⟨z.1,z.2.1⟩
    have hl:(Zb σ (own.map (·.2))).length=σ8.length:=by rw[<-hw8,Dh]
    refine⟨m',hm,i+1,H',(I'.unpinned (pins:=[])).weak hl (fun j v e=>?_),T.keep _ _ _ st7 fun b hb o e=>(pin' b hb o e).1,fun b hb=>?_,w'⟩
    ·rw[<-hw8] at e;exact(Ih e).1
    ·obtain⟨o,e,_⟩:=T.obj _ _ st7 b hb;exact(pin' b hb o e).2
   cases b with
   |false=>
    simp only[Bool.false_eq_true,if_false] at q9 ⊢;exact fin I9 q9
   |true=>
    simp only[if_true] at q9 ⊢;refine TY (pe _ s9 σ8 H9 _ I9 q9) fun z s10 ⟨yv,H10,I10,r10,acc,hD10,hz10,nx⟩=>?_;exact J0j (X:=X.blk s3 H3 scope ce fp) I10 hD10 hz10 r10 fun s11 I11=>fin I11 nx
 exact codeAny_compStart_list loop (T.self X.A 0 _ _ _ st4 loop)
theorem Us {elt tg iter:Expr} {ifs:List Expr} {scope:Scope} {own:List (Str×Nat)} {pos:Pos} {wi:TI} {g:TG} {tt:TT} {te:TE} (hc:X.calm=true) (hN:X.N.Nodup) (hi:PI X tg iter wi) (ok:BlkOk X.N X.env.scope scope own)
  (hg: ∀(s:Shared) (H:Hp) (C:Addr) (cl:List (Str×Addr)) (fp:List Addr),PG (X.blk s H scope (compEnvC scope cl C X.env) fp) tg g) (ht: ∀(s:Shared) (H:Hp) (C:Addr) (cl:List (Str×Addr)) (fp:List Addr),PTs (X.blk s H scope (compEnvC scope cl C X.env) fp) ifs tt)
  (he: ∀(s:Shared) (H:Hp) (C:Addr) (cl:List (Str×Addr)) (fp:List Addr),PE (X.blk s H scope (compEnvC scope cl C X.env) fp) elt te) (hs: ∀x,foldedSetIterable iter X.env x=pure x:=by intro _;rfl):
  PE X (.ListComp elt [⟨tg,iter,ifs,0⟩] scope pos) (Ng wi g tt te (own.map (·.2))):=by
 intro pins s σ H Q I h;rw[eval_ListComp];refine Ta hc hN I hi ok hg ht he hs h fun D C s' m H' I' q hn f=>⟨m,hn,fun h'' sb=>?_⟩;obtain⟨f0,f1,f2,f3,f4,f5⟩:=f;exact⟨.ref D,H',I'.turned (t':=s'.toks) (fun b o hb e=>(sb.2 b hb).trans e) f0 f1 f3 f4 f5,rfl,q⟩
theorem DX {i:Nat} {y:Str} {py:Pos} {elt tg iter:Expr} {ifs:List Expr} {scope:Scope} {own:List (Str×Nat)} {pos spos:Pos} {wi:TI} {g:TG} {tt:TT} {te:TE} (hc:X.calm=true) (hN:X.N.Nodup) (hy:X.N[i]?=some y) (hyl:X.env.scope.names.lookup y=some .local)
  (hsw:swapsWith (.ListComp elt [⟨tg,iter,ifs,0⟩] scope pos) (some (.Name y py)) spos.line X.env=pure true) (hi:PI X tg iter wi) (ok:BlkOk X.N X.env.scope scope own)
  (hg: ∀(s:Shared) (H:Hp) (C:Addr) (cl:List (Str×Addr)) (fp:List Addr),PG (X.blk s H scope (compEnvC scope cl C X.env) fp) tg g) (ht: ∀(s:Shared) (H:Hp) (C:Addr) (cl:List (Str×Addr)) (fp:List Addr),PTs (X.blk s H scope (compEnvC scope cl C X.env) fp) ifs tt)
  (he: ∀(s:Shared) (H:Hp) (C:Addr) (cl:List (Str×Addr)) (fp:List Addr),PE (X.blk s H scope (compEnvC scope cl C X.env) fp) elt te) (hs: ∀x,foldedSetIterable iter X.env x=pure x:=by intro _;rfl):
  PS X (.Assign [.Name y py] (.ListComp elt [⟨tg,iter,ifs,0⟩] scope pos) spos) (Zw (Ng wi g tt te (own.map (·.2))) (JA i)):=by
 intro pins s σ H D I h;rw[exec_Assign_Name_used _ _ _ _ hsw];refine wpAny_bind (wpAny_standAt (wpAny_bind ?_));show wpAny _ X.A (do let _<-comprehension (.ListComp elt [⟨tg,iter,ifs,0⟩] scope pos) scope X.env (firstIterPos [⟨tg,iter,ifs,0⟩] pos) (newList []) false (eval iter X.env) (some (assign (.Name y py) X.env))) _ _ s;have h:Ng wi g tt te (own.map (·.2)) σ H (fun x H1=>JA i x σ H1 D.nx):=h;refine wpAny_bind (Yz (Ta (Qf:=fun _ s'=>SP X pins D .next s') hc hN I hi ok hg ht he hs h fun L C s' m H' I' q hn f=>?_) fun _ s' hq=>wpAny_pure (wpAny_pure hq));show wpAny _ _ (assign (.Name y py) X.env (.ref L)) _ _ _;refine wpAny_assign_Name (OY (v:=V.ref L) I' hN hy (.inl hyl) rfl (fun s2 I2 ⟨a,sb,ha⟩=>?_) (.inr hyl));obtain⟨f0,f1,f2,f3,f4,f5⟩:=f
 have haC:C≠a:=by
  rcases ha with z|z
  ·rw[z];exact f1
  ·exact fun e=>f4 y a z e.symm
 refine⟨m,hn.sameBut sb haC,fun h3 sb3=>?_⟩;exact⟨_,H',I2.turned (t':=s2.toks) (fun b o hb e=>(sb3.2 b hb).trans e) f0 f1 f3 f4 f5,q⟩
theorem HJ {elt:Expr} {gs:List Comprehension} {scope:Scope} {pos py:Pos} {y:Str} {l:Nat} {env:Env} (hk:env.scope.kind= .function) (hy:env.scope.names.lookup y=some .local) (hl:(py.line==pos.line)=true)
  (ha:(scope.names.any fun(n,k)=>n==y&&(k== .local||k== .cell))=false):swapsWith (.ListComp elt gs scope pos) (some (.Name y py)) l env=pure true:=by
 have ky:env.kindOf y=some .local:=hy;have hb:env.blockKind= .function:=by unfold Env.blockKind;rw[hk];rfl
 unfold swapsWith;simp only[hb,ky,ha,Expr.pos,hl];rfl
end
theorem Dv {lo:Int} {n:Nat} {g:TG} {tt:TT} {te:TE} {vs:List Nat} {σ:St} {H1:Hp} {D:Addr} {Qd:Hp->Prop} (Pv:Nat->Hp->Prop) (h0:Pv 0 (upd H1 D (.lst [])))
  (hs: ∀i H,i<n->Pv i H->g (.int (lo+i)) (Zb σ vs) H fun σ2 H2=>Zb σ2 vs=Zb σ vs/\tt σ2 H2 fun b H3=>
    if b=true then te σ2 H3 fun y H4=> ∃acc,H4 D=some (.lst acc)/\acc.length<sizeLine/\Pv (i+1) (upd H4 D (.lst (acc++[y]))) else Pv (i+1) H3) (hd: ∀H,Pv n H->Qd H):
  ∃W:Nat->Nat->Hp->Prop,(∃m,W 0 m (upd H1 D (.lst [])))/\ ∀i m H,W i m H->
   ((Itr lo n).stop i H/\Qd H)∨((Itr lo n).go i H/\ ∃Nx:Hp->Prop,(∀H',Nx H'-> ∃m',m'<m/\W (i+1) m' H')/\ ∀x H',(Itr lo n).yld i H x H'->g x (Zb σ vs) H' fun σ2 H2=>Zb σ2 vs=Zb σ vs/\tt σ2 H2 fun b H3=>
    if b=true then te σ2 H3 fun y H4=> ∃acc,H4 D=some (.lst acc)/\acc.length<sizeLine/\Nx (upd H4 D (.lst (acc++[y]))) else Nx H3):=by
 refine⟨fun i m H=>m=n-i/\i<=n/\Pv i H,⟨n,by simp,Nat.zero_le _,h0⟩,?_⟩;rintro i m H ⟨rfl,hi,p⟩;by_cases hlt:i<n
 ·refine .inr ⟨hlt,Pv (i+1),fun H' p'=>⟨n-(i+1),by omega,rfl,hlt,p'⟩,fun x H' y=>?_⟩;obtain⟨e,y⟩:=y;subst e y;exact hs i _ hlt p
 ·have e:i=n:=by omega
  subst e;exact .inl ⟨Nat.le_refl _,hd H p⟩
theorem Zt {K:PySem.W.Frag} {a:Addr} {xs:List V} {g:TG} {tt:TT} {te:TE} {vs:List Nat} {σ:St} {H1:Hp} {D:Addr} {Qd:Hp->Prop} (Pv:Nat->Hp->Prop) (h0:Pv 0 (upd H1 D (.lst []))) (hl: ∀i H,i<=xs.length->Pv i H->SqL K H a xs)
  (hs: ∀i x H,xs[i]?=some x->Pv i H->g x (Zb σ vs) H fun σ2 H2=>Zb σ2 vs=Zb σ vs/\tt σ2 H2 fun b H3=>
    if b=true then te σ2 H3 fun y H4=> ∃acc,H4 D=some (.lst acc)/\acc.length<sizeLine/\Pv (i+1) (upd H4 D (.lst (acc++[y]))) else Pv (i+1) H3) (hd: ∀H,Pv xs.length H->Qd H):
  ∃W:Nat->Nat->Hp->Prop,(∃m,W 0 m (upd H1 D (.lst [])))/\ ∀i m H,W i m H->
   ((Itl K a).stop i H/\Qd H)∨((Itl K a).go i H/\ ∃Nx:Hp->Prop,(∀H',Nx H'-> ∃m',m'<m/\W (i+1) m' H')/\ ∀x H',(Itl K a).yld i H x H'->g x (Zb σ vs) H' fun σ2 H2=>Zb σ2 vs=Zb σ vs/\tt σ2 H2 fun b H3=>
    if b=true then te σ2 H3 fun y H4=> ∃acc,H4 D=some (.lst acc)/\acc.length<sizeLine/\Nx (upd H4 D (.lst (acc++[y]))) else Nx H3):=by
 refine⟨fun i m H=>m=xs.length-i/\i<=xs.length/\Pv i H,⟨xs.length,by simp,Nat.zero_le _,h0⟩,?_⟩;rintro i m H ⟨rfl,hi,p⟩;have q:=hl i H hi p;by_cases hlt:i<xs.length
 ·refine .inr ⟨⟨xs,xs[i],q,by simp[hlt]⟩,Pv (i+1),fun H' p'=>⟨xs.length-(i+1),by omega,rfl,hlt,p'⟩,fun x H' y=>?_⟩;obtain⟨e,y⟩:=y;subst e;exact hs i x _ (y xs q) p
 ·have e:i=xs.length:=by omega
  subst e;exact .inl ⟨⟨xs,q,Nat.le_refl _⟩,hd H p⟩
def J0n (N:List Str) (sc scope:Scope) (own:List (Str×Nat)):Bool:=
 (match scope.kind with| .function=>true|_=>false)&&(scope.names.all fun y=>decide (scope.names.lookup y.1=some y.2))&&(own.all fun p=>decide (N[p.2]?=some p.1))&&
  (scope.names.all fun y=>match y.2 with
    | .free=>(match sc.names.lookup y.1 with|some .cell=>true|some .free=>true|_=>false)
    | .local=>decide (y.1∈own.map (·.1))||decide (y.1∉N)
    | .cell=>decide (y.1∈own.map (·.1))||decide (y.1∉N)
    |_=>true)
theorem Wj {N:List Str} {sc scope:Scope} {own:List (Str×Nat)} (h:J0n N sc scope own=true):BlkOk N sc scope own:=by
 unfold J0n at h;simp only[Bool.and_eq_true,List.all_eq_true,decide_eq_true_eq] at h;obtain⟨⟨⟨h1,h2⟩,h3⟩,h4⟩:=h;refine⟨?_,h2,h3,fun y hy e=>?_,fun y hy e=>?_⟩
 ·split at h1
  ·assumption
  ·cases h1
 ·have q:=h4 y hy;simp only[e] at q;split at q<;>first|exact .inl (by assumption)|exact .inr (by assumption)|cases q
 ·have q:=h4 y hy;rcases e with e|e<;>(simp only[e,Bool.or_eq_true,decide_eq_true_eq] at q;exact q)
end L2
namespace L2
open PySem PySem.Spec PyProof.Rows
section
variable {prog:Program} {w:World} {A:Around} {R:Result->Shared->Prop} {s:Shared} {elt t0 i0 t1 i1:Expr} {ifs0 ifs1:List Expr} {scope:Scope} {pos:Pos} {it acc:Value} {env:Env}
end
section
variable {X:Cx}
end
end L2
namespace L2
open PySem PySem.Spec PyProof.Rows
section
variable {κ:Type} [DecidableEq κ]
def ZH (kvs:List (κ×V)) (k:κ):Option V:=(kvs.find? fun kv=>decide (kv.1=k)).map (·.2)
def Cb (kvs:List (κ×V)) (k:κ) (v:V):List (κ×V):=
 if(kvs.any fun kv=>decide (kv.1=k))=true then kvs.map (fun kv=>if kv.1=k then(kv.1,v) else kv) else kvs++[(k,v)]
def Um (kvs:List (κ×V)) (k:κ):List (κ×V):=kvs.filter fun kv=>decide (kv.1≠k)
theorem YX {p:κ×V} {r:List (κ×V)} {k:κ} (e:p.1=k):ZH (p::r) k=some p.2:=by simp[ZH,List.find?_cons,e]
theorem YE {p:κ×V} {r:List (κ×V)} {k:κ} (e: ¬p.1=k):ZH (p::r) k=ZH r k:=by simp[ZH,List.find?_cons,e]
theorem Uf (k:κ): ∀kvs:List (κ×V),(kvs.any fun kv=>decide (kv.1=k))=(ZH kvs k).isSome
 |[]=>rfl
 |p::r=>by
  rw[List.any_cons];by_cases e:p.1=k
  ·simp only[YX e,decide_eq_true e,Bool.true_or,Option.isSome_some]
  ·rw[YE e,decide_eq_false e,Bool.false_or];exact Uf k r
theorem Qu (k j:κ) (y:V): ∀kvs:List (κ×V),ZH (kvs.map fun kv=>if kv.1=k then(kv.1,y) else kv) j=(ZH kvs j).map fun x=>if j=k then y else x
 |[]=>rfl
 |p::r=>by
  have ih:=Qu k j y r;rw[List.map_cons];by_cases h:p.1=k
  ·rw[if_pos h];by_cases e:p.1=j
   ·rw[YX (p:=(p.1,y)) e,YX e,Option.map_some,if_pos (e.symm.trans h)]
   ·rw[YE (p:=(p.1,y)) e,YE e,ih]
  ·rw[if_neg h];by_cases e:p.1=j
   ·rw[YX (p:=p) e,YX e,Option.map_some,if_neg (fun z=>h (e.trans z))]
   ·rw[YE (p:=p) e,YE e,ih]
theorem Oq (k j:κ) (y:V): ∀kvs:List (κ×V),ZH kvs k=none->ZH (kvs++[(k,y)]) j=if j=k then some y else ZH kvs j
 |[],_=>by
  by_cases e:k=j
  ·rw[if_pos e.symm];exact YX (p:=(k,y)) e
  ·rw[if_neg (fun z=>e z.symm)];exact YE (p:=(k,y)) e
 |p::r,hn=>by
  rw[List.cons_append];have hk: ¬p.1=k:=fun z=>by rw[YX z] at hn;cases hn
  rw[YE hk] at hn;have ih:=Oq k j y r hn;by_cases e:p.1=j
  ·rw[YX e,YX e,if_neg (fun z=>hk (e.trans z))]
  ·rw[YE e,YE e,ih]
theorem Vm (kvs:List (κ×V)) (k j:κ) (y:V):ZH (Cb kvs k y) j=if j=k then some y else ZH kvs j:=by
 unfold Cb;by_cases a:(kvs.any fun kv=>decide (kv.1=k))=true
 ·rw[if_pos a,Qu];rw[Uf] at a;by_cases e:j=k
  ·obtain⟨x,hx⟩:=Option.isSome_iff_exists.mp a;rw[if_pos e,e,hx,Option.map_some,if_pos rfl]
  ·rw[if_neg e];cases ZH kvs j with
   |none=>rfl
   |some x=>rw[Option.map_some,if_neg e]
 ·rw[if_neg a];refine Oq k j y kvs ?_;rw[Uf] at a;cases q:ZH kvs k with
  |none=>rfl
  |some x=>rw[q] at a;exact(a rfl).elim
theorem KU (kvs:List (κ×V)) (k:κ) (v:V):(Cb kvs k v).length<=kvs.length+1:=by
 unfold Cb;split
 ·rw[List.length_map];omega
 ·rw[List.length_append,List.length_cons,List.length_nil];omega
theorem Qy {kvs:List (κ×V)} {k:κ} (v:V) (h:ZH kvs k=none):Cb kvs k v=kvs++[(k,v)]:=by
 unfold Cb;rw[Uf,h];exact if_neg (by decide)
theorem RelO.isSome_eq {o:Option V} {u:Option Value} (r:RelO o u):o.isSome=u.isSome:=by
 cases o with
 |none=>cases u with
  |none=>rfl
  |some _=>exact(show False from r).elim
 |some _=>cases u with
  |none=>exact(show False from r).elim
  |some _=>rfl
theorem KV.val {kvs:List (κ×V)} {vs:List (κ×Value)} (r:KV kvs vs) (k:κ):RelO (ZH kvs k) (valueAt vs k):=by
 unfold KV at r
 induction r with
 |nil=>exact True.intro
 | @cons p q ps qs h t ih=>
  obtain⟨h1,h2⟩:=h;by_cases e:p.1=k
  ·have e':q.1=k:=h1.symm.trans e;have b:valueAt (q::qs) k=some q.2:=by simp[valueAt,List.find?_cons,e']
   rw[YX e,b];exact h2
  ·have e': ¬q.1=k:=fun z=>e (h1.trans z);have b:valueAt (q::qs) k=valueAt qs k:=by simp[valueAt,List.find?_cons,e']
   rw[YE e,b];exact ih
theorem KV.any {kvs:List (κ×V)} {vs:List (κ×Value)} (r:KV kvs vs) (k:κ):(kvs.any fun kv=>decide (kv.1=k))=vs.any fun kv=>decide (kv.1=k):=by
 unfold KV at r
 induction r with
 |nil=>rfl
 |cons h t ih=>rw[List.any_cons,List.any_cons,ih,h.1]
theorem KV.repl {kvs:List (κ×V)} {vs:List (κ×Value)} (r:KV kvs vs) (k:κ) {y:V} {u:Value} (ry:RelV y u):
  KV (kvs.map fun kv=>if kv.1=k then(kv.1,y) else kv) (vs.map fun kv=>if kv.1=k then(kv.1,u) else kv):=by
 unfold KV at r ⊢
 induction r with
 |nil=>exact .nil
 | @cons p q ps qs h t ih=>
  rw[List.map_cons,List.map_cons];refine .cons ?_ ih;obtain⟨h1,h2⟩:=h;by_cases e:p.1=k
  ·rw[if_pos e,if_pos (h1.symm.trans e)];exact⟨h1,ry⟩
  ·rw[if_neg e,if_neg (fun z=>e (h1.trans z))];exact⟨h1,h2⟩
theorem KV.put {kvs:List (κ×V)} {vs:List (κ×Value)} (r:KV kvs vs) (k:κ) {y:V} {u:Value} (ry:RelV y u):KV (Cb kvs k y) (stored vs k u):=by
 unfold Cb stored;rw[r.any k];by_cases e:(vs.any fun kv=>decide (kv.1=k))=true
 ·rw[if_pos e,if_pos e];exact r.repl k ry
 ·rw[if_neg e,if_neg e];exact Paired.snoc r ⟨rfl,ry⟩
theorem KV.drop {kvs:List (κ×V)} {vs:List (κ×Value)} (r:KV kvs vs) (k:κ):KV (Um kvs k) (without vs k):=by
 unfold KV at r ⊢;unfold Um without
 induction r with
 |nil=>exact .nil
 | @cons p q ps qs h t ih=>
  obtain⟨h1,h2⟩:=h;rw[List.filter_cons,List.filter_cons];by_cases e:p.1=k
  ·have a: ¬decide (p.1≠k)=true:=by simp[e]
   have b: ¬decide (q.1≠k)=true:=by simp[h1.symm.trans e]
   rw[if_neg a,if_neg b];exact ih
  ·have e': ¬q.1=k:=fun z=>e (h1.trans z);have a:decide (p.1≠k)=true:=by simp[e]
   have b:decide (q.1≠k)=true:=by simp[e']
   rw[if_pos a,if_pos b];exact .cons ⟨h1,h2⟩ ih
theorem KV.length {kvs:List (κ×V)} {vs:List (κ×Value)} (r:KV kvs vs):kvs.length=vs.length:=Paired.length r
theorem VW (kvs:List (κ×V)) (k:κ):(Um kvs k).length<=kvs.length:=List.length_filter_le _ _
end
theorem Ou {P:Program} {w:World} {k:Key} {u:Value} (r:RelV (kV k) u):(Z4 P w).is k u=true:=by
 cases k with
 |inl i=>obtain⟨t,e⟩:=(show∃t,u=Value.int i t from r);subst e;exact RM P w i t
 |inr x=>obtain⟨t,e⟩:=(show∃t,u=Value.str x t from r);subst e;exact QQ P w x t
theorem Ol {P:Program} {w:World}: ∀{ks:List Key} {us:List Value},Vals (ks.map kV) us->ItemsAre (Z4 P w) ks us
 |[],_,r=>by rw[List.map_nil] at r;cases r;exact .nil
 |k::ks,_,r=>by
  rw[List.map_cons] at r;cases r with
  |cons h t=>exact .cons (Ou h) (Ol t)
abbrev KT (H:Hp):List (List Key×V)->List (List Key×Addr×Value)->Prop:=Paired fun p q=>p.1=q.1/\H q.2.1=some (.tup (p.1.map kV))/\RelV p.2 q.2.2
theorem KT.val {H:Hp} {kvs:List (List Key×V)} {xs:List (List Key×Addr×Value)} (r:KT H kvs xs) (k:List Key):RelO (ZH kvs k) ((atKey xs k).map (·.2)):=by
 induction r with
 |nil=>exact True.intro
 | @cons p q ps qs h t ih=>
  obtain⟨h1,_,h2⟩:=h;by_cases e:p.1=k
  ·have e':q.1=k:=h1.symm.trans e;have b:atKey (q::qs) k=some q.2:=by simp[atKey,List.find?_cons,e']
   rw[YX e,b];exact h2
  ·have e': ¬q.1=k:=fun z=>e (h1.trans z);have b:atKey (q::qs) k=atKey qs k:=by simp[atKey,List.find?_cons,e']
   rw[YE e,b];exact ih
theorem KT.repl {H:Hp} {kvs:List (List Key×V)} {xs:List (List Key×Addr×Value)} (r:KT H kvs xs) (k:List Key) {y:V} {u:Value} (ry:RelV y u):
  KT H (kvs.map fun kv=>if kv.1=k then(kv.1,y) else kv) (xs.map (putAt k u)):=by
 induction r with
 |nil=>exact .nil
 | @cons p q ps qs h t ih=>
  rw[List.map_cons,List.map_cons];refine .cons ?_ ih;obtain⟨h1,h2,h3⟩:=h;unfold putAt;by_cases e:p.1=k
  ·rw[if_pos e,if_pos (h1.symm.trans e)];exact⟨h1,h2,ry⟩
  ·rw[if_neg e,if_neg (fun z=>e (h1.trans z))];exact⟨h1,h2,h3⟩
theorem KT.put {H:Hp} {kvs:List (List Key×V)} {xs:List (List Key×Addr×Value)} (r:KT H kvs xs) (k:List Key) {b:Addr} {y:V} {u:Value} (hb:H b=some (.tup (k.map kV))) (ry:RelV y u):
  KT H (Cb kvs k y) (storedH xs k b u):=by
 have e:(kvs.any fun kv=>decide (kv.1=k))=(atKey xs k).isSome:=by
  rw[Uf,(r.val k).isSome_eq,Option.isSome_map]
 unfold Cb storedH;rw[e];by_cases q:(atKey xs k).isSome=true
 ·rw[if_pos q,if_pos q];exact r.repl k ry
 ·rw[if_neg q,if_neg q];exact Paired.snoc r ⟨rfl,hb,ry⟩
theorem KT.keeps {H H':Hp} {kvs:List (List Key×V)} {xs:List (List Key×Addr×Value)} (r:KT H kvs xs) (ht: ∀b ys,H b=some (.tup ys)->H' b=some (.tup ys)):KT H' kvs xs:=
 Paired.mapP r fun _ _ z=>⟨z.1,ht _ _ z.2.1,z.2.2⟩
section
variable {P:Program} {w:World} {H:Hp} {h:Heap} {a:Addr}
theorem SY {u:HO} (ok:HOk P w H h) (e:Rd H a u):ObjOk P w H h a u:=e.ok ok
theorem LW {kvs:List (Key×V)} (ok:HOk P w H h) (e:Rd H a (.dK kvs)):kvs.length<=sizeLine/\(a==sysModules)=false/\ ∃vs,KV kvs vs/\h.DictOf (Z4 P w) a vs:=
 show ObjOk P w H h a (.dK kvs) from SY ok e
theorem Xt {kvs:List (Key×V)} (ok:HOk P w H h) (e:H a=some (.dK kvs)):kvs.length<=sizeLine/\(a==sysModules)=false/\ ∃vs,KV kvs vs/\h.DictOf (Z4 P w) a vs:=LW ok (.inl e)
theorem MK {ks:List Key} (ok:HOk P w H h) (e:H a=some (.tup (ks.map kV))):(tupleKind (Z4 P w)).is h ks a:=by
 obtain⟨_,its,r,o,h1,h2,n,h3⟩:=(show ObjOk P w H h a (.tup (ks.map kV)) from ok a _ e);exact⟨o,its.toArray,n,h1,h2,h3,by simpa using Ol r⟩
theorem OJ {kvs:List (List Key×V)} (ok:HOk P w H h) (e:Rd H a (.dT kvs)):kvs.length<=sizeLine/\(a==sysModules)=false/\
  ∃xs,KT H kvs xs/\h.DictOfH (tupleKind (Z4 P w)) a xs:=by
 obtain⟨z,y,xs,r,o,es,ep,h1,h2,h3,h4,h5⟩:=(show ObjOk P w H h a (.dT kvs) from SY ok e);refine⟨z,y,xs,r,o,es,ep,h1,h2,h3,h4,fun x hx=>?_,h5⟩
 have all: ∀{l:List (List Key×V)} {m:List (List Key×Addr×Value)},KT H l m-> ∀x∈m,(tupleKind (Z4 P w)).is h x.1 x.2.1:=by
  intro l m q
  induction q with
  |nil=>intro x hx;exact nomatch hx
  | @cons p q ps qs hq t ih=>
   intro x hx;rcases List.mem_cons.mp hx with e|hx
   ·subst e;exact MK ok (by rw[<-hq.1];exact hq.2.1)
   ·exact ih x hx
 exact all r x hx
theorem J0L {kvs:List (List Key×V)} (ok:HOk P w H h) (e:H a=some (.dT kvs)):kvs.length<=sizeLine/\(a==sysModules)=false/\
  ∃xs,KT H kvs xs/\h.DictOfH (tupleKind (Z4 P w)) a xs:=OJ ok (.inl e)
end
def DGet (H:Hp) (a:Addr) (y:V) (r:Option V):Prop:=
 (∃kvs k,Rd H a (.dK kvs)/\y=kV k/\r=ZH kvs k)∨ ∃kvs k b,Rd H a (.dT kvs)/\y= .ref b/\H b=some (.tup (k.map kV))/\r=ZH kvs k
def DPut (H:Hp) (a:Addr) (y v:V) (H':Hp):Prop:=
 (∃kvs k,H a=some (.dK kvs)/\y=kV k/\kvs.length<sizeLine/\H'=upd H a (.dK (Cb kvs k v)))∨
 ∃kvs k b,H a=some (.dT kvs)/\y= .ref b/\H b=some (.tup (k.map kV))/\kvs.length<sizeLine/\H'=upd H a (.dT (Cb kvs k v))
theorem DGet.k {H:Hp} {a:Addr} {kvs:List (Key×V)} {k:Key} (e:H a=some (.dK kvs)):DGet H a (kV k) (ZH kvs k):= .inl ⟨kvs,k, .inl e,rfl,rfl⟩
theorem DPut.k {H:Hp} {a:Addr} {kvs:List (Key×V)} {k:Key} {v:V} (e:H a=some (.dK kvs)) (hl:kvs.length<sizeLine):DPut H a (kV k) v (upd H a (.dK (Cb kvs k v))):= .inl ⟨kvs,k,e,rfl,hl,rfl⟩
section
variable {X:Cx} {pins:List (Addr×Obj)} {σ:St} {H:Hp} {s:Shared} {a:Addr} {y v:V} {u r:Value} {o:Option V} {A:Around} {E:Value->Shared->Prop}
theorem Inv.big (I:Inv X pins σ H s):sysModules<s.heap.objs.size:=by
 have h:mainGlobals<s.heap.objs.size:=(I.mod.glob.keeps I.bk).lt;exact Nat.lt_trans (by decide) h
theorem Vd {Q:Value->Shared->Prop} (hu:A.units+1<cLine) (I:Inv X pins σ H s) (g:DGet H a y (some v)) (ry:RelV y u) (h: ∀w' s',Inv X pins σ H s'->RelV v w'->Q w' s'):
  wpAny (model X.prog X.w) A (getItem (.ref a) u) Q E s:=by
 rcases g with⟨kvs,k,e,ey,l⟩|⟨kvs,k,b,e,ey,eb,l⟩
 ·subst ey;obtain⟨z,hd,vs,rel,dd⟩:=LW I.hok e;obtain⟨w',hw,rw'⟩:=RelO.some_of (v:=v) (o:=valueAt vs k) (by rw[l];exact rel.val k);exact wpAny_getItem_of (Ou ry) dd.mapOf hw (h w' _ (I.tok _) rw')
 ·subst ey;cases(show u=Value.ref b from ry);obtain⟨z,hd,xs,rel,dd⟩:=OJ I.hok e;obtain⟨w',hw,rw'⟩:=RelO.some_of (v:=v) (o:=(atKey xs k).map (·.2)) (by rw[l];exact rel.val k);obtain⟨p,hp,hp2⟩:=Option.map_eq_some_iff.mp hw;refine wpAny_getItem_heap (tupleKind_room_in1 hu) (MK I.hok eb) dd hp ?_;rw[hp2];exact h w' _ (I.tok _) rw'
theorem J1d {Q:Value->Shared->Prop} (hu:A.units+1<cLine) (I:Inv X pins σ H s) (g:DGet H a y o) (ry:RelV y u) (h: ∀s',Inv X pins σ H s'->Q (.bool o.isSome) s'):
  wpAny (model X.prog X.w) A (compareOp .In u (.ref a)) Q E s:=by
 rcases g with⟨kvs,k,e,ey,l⟩|⟨kvs,k,b,e,ey,eb,l⟩
 ·subst ey;obtain⟨z,hd,vs,rel,dd⟩:=LW I.hok e;refine wpAny_in_of (Ou ry) hd dd.mapOf ?_;rw[<-(rel.val k).isSome_eq,<-l];exact h _ (I.tok _)
 ·subst ey;cases(show u=Value.ref b from ry);obtain⟨z,hd,xs,rel,dd⟩:=OJ I.hok e;refine wpAny_in_heap (tupleKind_room_in1 hu) (MK I.hok eb) hd dd ?_;have q:=(rel.val k).isSome_eq;rw[Option.isSome_map] at q;rw[<-q,<-l];exact h _ (I.tok _)
theorem WR {Q:Value->Shared->Prop} (hu:A.units+1<cLine) (I:Inv X pins σ H s) (g:DGet H a y o) (ry:RelV y u) (h: ∀s',Inv X pins σ H s'->Q (.bool (!o.isSome)) s'):
  wpAny (model X.prog X.w) A (compareOp .NotIn u (.ref a)) Q E s:=by
 rcases g with⟨kvs,k,e,ey,l⟩|⟨kvs,k,b,e,ey,eb,l⟩
 ·subst ey;obtain⟨z,hd,vs,rel,dd⟩:=LW I.hok e;refine wpAny_notIn_of (Ou ry) hd dd.mapOf ?_;rw[<-(rel.val k).isSome_eq,<-l];exact h _ (I.tok _)
 ·subst ey;cases(show u=Value.ref b from ry);obtain⟨z,hd,xs,rel,dd⟩:=OJ I.hok e;refine wpAny_notIn_heap (tupleKind_room_in1 hu) (MK I.hok eb) hd dd ?_;have q:=(rel.val k).isSome_eq;rw[Option.isSome_map] at q;rw[<-q,<-l];exact h _ (I.tok _)
theorem Qj {h':Heap} {t':Nat} {ob:HO} (I:Inv X pins σ H s) (mu:Mut (H a)) (hs:Heap.SameBut a s.heap h') (he: ∃q,h'.get? a=some q) (new:ObjOk X.prog X.w (upd H a ob) h' a ob):
  Inv X pins σ (upd H a ob) {s with heap:=h',toks:=t'}:=
 I.write (x:=a) (e:=a) mu (.inl rfl) (fun b q hb z=>(hs.2 b hb).trans z) he new
theorem Wk {P:Program} {w:World} {H':Hp} {h':Heap} {kvs:List (Key×V)} {vs:List (Key×Value)} (z:kvs.length<=sizeLine) (hd:(a==sysModules)=false) (rel:KV kvs vs) (dd:h'.DictOf (Z4 P w) a vs):
  ObjOk P w H' h' a (.dK kvs):=⟨z,hd,vs,rel,dd⟩
theorem V7 {H':Hp} {Q:Unit->Shared->Prop} (hu:A.units+1<cLine) (I:Inv X pins σ H s) (g:DPut H a y v H') (ry:RelV y u) (rv:RelV v r) (h: ∀s',Inv X pins σ H' s'->Q () s'):
  wpAny (model X.prog X.w) A (setItem (.ref a) u r) Q E s:=by
 rcases g with⟨kvs,k,e,ey,l,eH⟩|⟨kvs,k,b,e,ey,eb,l,eH⟩
 ·subst ey eH;obtain⟨z,hd,vs,rel,dd⟩:=Xt I.hok e;have hz:vs.length<=sizeLine:=by rw[<-rel.length];exact z
  have hl:(Cb kvs k v).length<=sizeLine:=by have:=KU kvs k v;omega
  refine wpAny_setItem_pairs (hsz:=hz) (Ou ry) dd fun h' dd' hs=>h _ ?_;have he: ∃q,h'.get? a=some q:=let ⟨q,_,_,hq,_⟩:=dd';⟨q,hq⟩
  exact Qj I (by rw[e];exact True.intro) hs he (Wk hl hd (rel.put k rv) dd')
 ·subst ey eH;cases(show u=Value.ref b from ry);obtain⟨z,hd,xs,rel,dd⟩:=J0L I.hok e;have hz:xs.length<=sizeLine:=by rw[<-Paired.length rel];exact z
  have hl:(Cb kvs k v).length<=sizeLine:=by have:=KU kvs k v;omega
  refine wpAny_setItem_heap (hsz:=hz) (tupleKind_room_in1 hu) (MK I.hok eb) dd fun h' dd' hs=>h _ ?_;obtain⟨q,es,ep,hq,h2,h3,h4,_,h5⟩:=dd';refine Qj I (by rw[e];exact True.intro) hs ⟨q,hq⟩ ⟨hl,hd,_,(rel.put k eb rv).keeps fun c ys ec=>?_,q,es,ep,hq,h2,h3,h4,h5⟩;rw[Ja (JY ec e (fun z=>nomatch z))];exact ec
end
section
variable {X:Cx} {pins:List (Addr×Obj)} {σ:St} {H:Hp} {s:Shared} {a:Addr} {kvs:List (Key×V)} {k:Key} {u:Value} {A:Around} {E:Value->Shared->Prop}
theorem J0y {v:V} {more:List Value} {Q:Value->Shared->Prop} (I:Inv X pins σ H s) (e:H a=some (.dK kvs)) (ry:RelV (kV k) u) (l:ZH kvs k=some v) (hm:more=[]∨ ∃x,more=[x])
  (h: ∀w' s',Inv X pins σ (upd H a (.dK (Um kvs k))) s'->RelV v w'->Q w' s'):wpAny (model X.prog X.w) A (call (.builtin "dict.pop") (.ref a::u::more)) Q E s:=by
 obtain⟨z,hd,vs,rel,dd⟩:=Xt I.hok e;obtain⟨w',hw,rw'⟩:=RelO.some_of (v:=v) (o:=valueAt vs k) (by rw[<-l];exact rel.val k)
 have hp:(keyPart u).isSome=true:=by
  cases k with
  |inl i=>obtain⟨t,q⟩:=(show∃t,u=Value.int i t from ry);subst q;rfl
  |inr x=>obtain⟨t,q⟩:=(show∃t,u=Value.str x t from ry);subst q;rfl
 have ha:argsOk "dict.pop" ⟨.ref a::u::more,[]⟩:=by
  rcases hm with q|⟨x,q⟩
  ·subst q;exact PySem.F.args_dict_pop_2 _ _
  ·subst q;exact PySem.F.args_dict_pop_3 _ _ _
 refine call_meetsIn PySem.F.slot_dict_pop dd.typeIs PySem.F.entry_dict_pop ha (meets_dict_pop_there (Z4 X.prog X.w) a (Ou ry) more hm hp)
  ⟨vs,w',dd,by rw[<-rel.length];exact z,hw,fun h' dd' hs=>h w' _ ?_ rw'⟩
 have he: ∃q,h'.get? a=some q:=let ⟨q,_,_,hq,_⟩:=dd';⟨q,hq⟩
 exact Qj I (by rw[e];exact True.intro) hs he (Wk (Nat.le_trans (VW kvs k) z) hd (rel.drop k) dd')
theorem J0I {Q:Value->Shared->Prop} (I:Inv X pins σ H s) (e:Rd H a (.dK kvs)) (h: ∀t s',Inv X pins σ H s'->Q (.int kvs.length t) s'):wpAny (model X.prog X.w) A (call (.builtin "len") [.ref a]) Q E s:=by
 obtain⟨z,hd,vs,rel,dd⟩:=LW I.hok e;refine call_len_dict hd dd (by rw[<-rel.length];rw[sizeLine_eq] at z;omega) ?_;rw[<-rel.length];exact h _ _ (I.tok _)
end
def NoSl (i:Expr):Prop:= ∀ov iv,subscripted i false ov iv=operate [ov,iv] (getItem ov iv)
theorem SN {prog:Program} {w:World} {A:Around} {E:Value->Shared->Prop} {s:Shared} {env:Env} {value slice:Expr} {pos:Pos} {T id:String} {Q:Value->Shared->Prop}
  (hl:typeLookup (.type T) "__getitem__"=pure (some (.builtin id))) (hs:NoSl slice)
  (h:wpAny (model prog w) A (eval value env) (fun o s₁=>wpAny (model prog w) A (eval slice env) (fun i s₂=>s₂.TypeIs o T/\wpAny (model prog w) A (getItem o i) Q E s₂) E s₁) E s):
  wpAny (model prog w) A (eval (.Subscript value slice pos) env) Q E s:=by
 refine Subscript_ (wpAny_mono h (fun o s₁ h₁=>wpAny_mono h₁ (fun i s₂ h₂=>?_) fun _ _ x=>x) fun _ _ x=>x);obtain⟨hT,h₂⟩:=h₂;unfold subscriptTail;refine wpAny_bind ?_;rw[getitemInPython_of_ne hT.not_modules];refine wpAny_bind (wpAny_specialOf hT hl ?_)
 have fin:wpAny (model prog w) A (subscripted slice false o i) (fun r s₃=>wpAny (model prog w) A (letTemporaryGo value o r>>=fun _=>pure r) Q E s₃) E s₂:=by
  rw[hs o i];exact wpAny_operating (wpAny_mono h₂ (fun r s₃ h₃=>wpAny_bind (wpAny_letTemporaryGo (wpAny_pure h₃))) fun _ _ x=>x)
 first
  |exact wpAny_pure (wpAny_bind fin)
  |exact wpAny_bind (wpAny_pure (wpAny_bind fin))
  |exact wpAny_bind fin
theorem QU {X:Cx} {pins:List (Addr×Obj)} {σ:St} {H:Hp} {s:Shared} {a:Addr} {y:V} {o:Option V} (I:Inv X pins σ H s) (g:DGet H a y o):s.TypeIs (.ref a) "dict":=by
 rcases g with⟨kvs,k,e,_,_⟩|⟨kvs,k,b,e,_,_,_⟩
 ·obtain⟨_,_,vs,_,dd⟩:=LW I.hok e;exact dd.typeIs
 ·obtain⟨_,_,xs,_,dd⟩:=OJ I.hok e;exact dd.typeIs
def J0J (td ty:TE):TE:=fun σ H Q=>td σ H fun x H1=>ty σ H1 fun y H2=> ∃a v,x= .ref a/\DGet H2 a y (some v)/\Q v H2
def J1f (ty td:TE):TE:=fun σ H Q=>ty σ H fun y H1=>td σ H1 fun x H2=> ∃a o,x= .ref a/\DGet H2 a y o/\Q (.bl o.isSome) H2
def WE (ty td:TE):TE:=fun σ H Q=>ty σ H fun y H1=>td σ H1 fun x H2=> ∃a o,x= .ref a/\DGet H2 a y o/\Q (.bl (!o.isSome)) H2
def J0u (td ty tv:TE):TS:=fun D σ H=>tv σ H fun v H1=>td σ H1 fun x H2=>ty σ H2 fun y H3=> ∃a H4,x= .ref a/\DPut H3 a y v H4/\D.nx σ H4
section
variable {X:Cx} {o i e value:Expr} {pos pos' tpos:Pos} {td ty tv:TE}
theorem SW (hu:X.A.units+1<cLine) (ho:PE X o td) (hi:PE X i ty) (hs:NoSl i):PE X (.Subscript o i pos) (J0J td ty):=by
 intro pins s σ H Q I h;refine SN PySem.F.slot_dict_getitem.lookup hs (Yz (ho pins s σ H _ I h) fun u s1 ⟨x,H1,I1,rx,q1⟩=>Yz (hi pins s1 σ H1 _ I1 q1) fun iv s2 ⟨y,H2,I2,ry,a,v,ex,g,q2⟩=>?_);subst ex;obtain rfl:u=Value.ref a:=rx;exact⟨QU I2 g,Vd hu I2 g ry fun w' s3 I3 rw'=>⟨v,H2,I3,rw',q2⟩⟩
theorem XU (hu:X.A.units+1<cLine) (hi:PE X i ty) (ho:PE X o td):PC X .In i o (J1f ty td):=by
 intro pins s σ H Q I h;refine Yz (hi pins s σ H _ I h) fun iv s1 ⟨y,H1,I1,ry,q1⟩=>Yz (ho pins s1 σ H1 _ I1 q1) fun u s2 ⟨x,H2,I2,rx,a,ov,ex,g,q2⟩=>?_;subst ex;obtain rfl:u=Value.ref a:=rx;exact J1d hu I2 g ry fun s3 I3=>⟨.bl ov.isSome,H2,I3,rfl,q2⟩
theorem Tu (hu:X.A.units+1<cLine) (hi:PE X i ty) (ho:PE X o td):PC X .NotIn i o (WE ty td):=by
 intro pins s σ H Q I h;refine Yz (hi pins s σ H _ I h) fun iv s1 ⟨y,H1,I1,ry,q1⟩=>Yz (ho pins s1 σ H1 _ I1 q1) fun u s2 ⟨x,H2,I2,rx,a,ov,ex,g,q2⟩=>?_;subst ex;obtain rfl:u=Value.ref a:=rx;exact WR hu I2 g ry fun s3 I3=>⟨.bl (!ov.isSome),H2,I3,rfl,q2⟩
theorem WU (hu:X.A.units+1<cLine) (ho:PE X o td) (hi:PE X i ty) (hv:PE X value tv) (hs:swapsWith value (some (.Subscript o i pos')) pos.line X.env=pure false):
  PS X (.Assign [.Subscript o i pos'] value pos) (J0u td ty tv):=by
 intro pins s σ H D I h;refine wpAny_Assign_Subscript (Yz (hv pins s σ H _ I h) fun r s1 ⟨v,H1,I1,rv,q1⟩=>Yz (ho pins s1 σ H1 _ I1 q1) fun u s2 ⟨x,H2,I2,rx,q2⟩=>Yz (hi pins s2 σ H2 _ I2 q2) fun iv s3 ⟨y,H3,I3,ry,a,H4,ex,g,q3⟩=>?_) hs;subst ex;obtain rfl:u=Value.ref a:=rx;exact V7 hu I3 g ry rv fun s4 I4=>⟨σ,H4,I4,q3⟩
end
theorem Vy {P:Program} {w:World} {H:Hp} (h:Heap) (hb:sysModules<h.objs.size):ObjOk P w H (h.push {cls:= .type "dict",data:= .dict #[]}) h.objs.size (.dK []):=
 ⟨Nat.zero_le _,beq_eq_false_iff_ne.mpr (Ne.symm (Nat.ne_of_lt hb)),[], .nil,Heap.DictOf.new h⟩
def XS:TE:=fun _ H Q=> ∀p,H p=none->Q (.ref p) (upd H p (.dK []))
section
variable {X:Cx} {pos:Pos}
theorem Vx:PE X (.Dict [] [] pos) XS:=fun pins s σ H Q I h=>
 wpAny_Dict_empty ⟨.ref s.heap.objs.size,_,I.laid (a:=s.heap.objs.size) (o:= .dK []) (t':=s.toks) (fun _ _ q=>Heap.get?_push_of_some _ q) (Nat.le_refl _) (Vy s.heap I.big),rfl,h _ (I.hok.fresh (Nat.le_refl _))⟩
end
structure M1 (X:Cx) (o:Expr) (m:Str) (apos:Pos) (e:Expr) (cpos:Pos):Prop where
 base:attributeBase o m X.env (eval o X.env)=eval o X.env
 few:((backTo cpos (starEach [e] X.env)).all (fun x=>!x.1)&&(backToKw cpos (keywordEach [] X.env)).all (fun x=>x.1.isSome)
  &&decide (([e]:List Expr).length+([]:List Keyword).length+(if([]:List Keyword).isEmpty then 0 else 1)<30))=true
 line:(apos.endLine==cpos.line)=true
 trees:backTo cpos (starEach [e] X.env)=[(false,eval e X.env)]
def IsD (H:Hp) (a:Addr):Prop:=(∃kvs,Rd H a (.dK kvs))∨ ∃kvs,Rd H a (.dT kvs)
theorem J08 {X:Cx} {pins:List (Addr×Obj)} {σ:St} {H:Hp} {s:Shared} {a:Addr} (I:Inv X pins σ H s) (d:IsD H a):
  s.TypeIs (.ref a) "dict"/\(∀b,Value.ref a= .ref b-> ∃ob,s.heap.get? b=some ob/\ob.dict=none)/\(a==sysModules)=false:=by
 rcases d with⟨kvs,e⟩|⟨kvs,e⟩
 ·obtain⟨_,hd,vs,_,dd⟩:=LW I.hok e;refine⟨dd.typeIs,fun b q=>?_,hd⟩;cases q;obtain⟨ob,_,_,h1,h2,_⟩:=dd;exact⟨ob,h1,h2.2.1⟩
 ·obtain⟨_,hd,xs,_,dd⟩:=OJ I.hok e;refine⟨dd.typeIs,fun b q=>?_,hd⟩;cases q;obtain⟨ob,_,_,h1,h2,_⟩:=dd;exact⟨ob,h1,h2.2.1⟩
section
variable {X:Cx} {pins:List (Addr×Obj)} {σ:St} {H:Hp} {s:Shared} {a:Addr} {y d:V} {u r:Value} {o:Option V} {A:Around} {E:Value->Shared->Prop}
end
def XX (td ty:TE):TE:=fun σ H Q=>td σ H fun x H1=> ∃a,x= .ref a/\IsD H1 a/\ty σ H1 fun y H2=> ∃kvs k v,H2 a=some (.dK kvs)/\y=kV k/\ZH kvs k=some v/\Q v (upd H2 a (.dK (Um kvs k)))
section
variable {X:Cx} {o e f:Expr} {apos cpos:Pos} {td ty tx:TE}
theorem Vk (ho:PE X o td) (he:PE X e ty) (m:M1 X o "pop" apos e cpos):PE X (.Call (.Attribute o "pop" apos) [e] [] cpos) (XX td ty):=by
 intro pins s σ H Q I h;refine wpAny_Call_method m.base m.few m.line PySem.F.plainAttrs_dict PySem.F.slot_dict_pop PySem.F.type_dict_pop (Yz (ho pins s σ H _ I h) fun u s1 ⟨x,H1,I1,rx,a,ex,d,q1⟩=>?_);subst ex;obtain rfl:u=Value.ref a:=rx;obtain⟨t1,t2,_⟩:=J08 I1 d;refine⟨t1,t2,?_⟩;rw[m.trees];refine Calls.callWith_builtin rfl (Calls.evalArgs_plain (Calls.spliced_cons (Yz (he pins s1 σ H1 _ I1 q1) fun iv s2 ⟨y,H2,I2,ry,kvs,k,v,ea,ey,l,q2⟩=>Calls.spliced_nil ?_)));subst ey;exact J0y I2 ea ry l (.inl rfl) fun w' s3 I3 rw'=>⟨v,_,I3,rw',q2⟩
end
section
variable {X:Cx} {pins:List (Addr×Obj)} {σ:St} {H:Hp} {s:Shared} {a:Addr} {kvs:List (Key×V)} {A:Around} {E:Value->Shared->Prop}
end
section
variable {X:Cx} {pins:List (Addr×Obj)} {σ:St} {H:Hp} {s:Shared} {a:Addr} {y:V} {u:Value} {A:Around} {E:Value->Shared->Prop}
end
end L2
namespace L2
open PySem PySem.Spec PyProof.Rows
section
variable {prog:Program} {w:World} {A:Around} {E:Value->Shared->Prop}
end
section
variable {X:Cx}
end
end L2
namespace L2
open PySem PySem.Spec PyProof.Rows
theorem N5:bootBuiltins "reversed"=some (.type "reversed"):=by decide+kernel
section
variable {X:Cx} {pins:List (Addr×Obj)} {σ:St} {H:Hp} {s:Shared} {h':Heap}
theorem Inv.turnedL {t':Nat} {ch:List Addr} (I:Inv X pins σ H s) (k: ∀b o,b∉ch->s.heap.get? b=some o->h'.get? b=some o) (hf: ∀b∈ch,FpOk X pins H b):Inv X pins σ H {s with heap:=h',toks:=t'}:=by
 have nit: ∀b u,H b=some u->b∉ch:=fun b u e z=>by
  have q:=(hf b z).1;rw[q] at e;cases e
 refine I.step (g':=s.gens) (d':=s.drawn) (ch:=ch) (fun b hb=>⟨(hf b hb).2.2.2.1,(hf b hb).2.1,(hf b hb).2.2.2.2.1,(hf b hb).2.2.2.2.2⟩) (fun b o _ _ hc e _=>k b o hc e) (fun b o _ _ hc e _=>⟨o.slots,k b o hc e⟩)
  (fun _ _ _ _ n=>n) (fun b o hc e=>⟨o,k b o hc e⟩) (fun _ _ e=>e) (fun _ _ _ e=>e) (fun b ps e=>⟨#[],by rw[e];simp⟩) (fun m hm=>?_) (fun b u e=>?_) I.bare
 ·obtain⟨o,es,ep,ho,r⟩:=hm;exact⟨o,es,ep,k _ o (fun z=>(hf _ z).2.1 rfl) ho,r⟩
 ·refine(I.hok b u e).stay (fun c v hc q=>k c v ?_ q) (fun _ q=>q) fun _ _ q=>q;rcases hc with z|z
  ·rw[z];exact nit b u e
  ·exact nit c _ z
theorem Inv.turnedNew {t':Nat} {ch:List Addr} {T:Addr} {ob:HO} (I:Inv X pins σ H s) (k: ∀b o,b∉ch->s.heap.get? b=some o->h'.get? b=some o) (hf: ∀b∈ch,FpOk X pins H b) (hT:s.heap.objs.size<=T)
  (new:ObjOk X.prog X.w (upd H T ob) h' T ob):Inv X pins σ (upd H T ob) {s with heap:=h',toks:=t'}:=by
 have hn:H T=none:=I.hok.fresh hT
 have nit: ∀b u,H b=some u->b∉ch:=fun b u e z=>by
  have q:=(hf b z).1;rw[q] at e;cases e
 refine I.step (g':=s.gens) (d':=s.drawn) (ch:=ch) (fun b hb=>⟨(hf b hb).2.2.2.1,(hf b hb).2.1,(hf b hb).2.2.2.2.1,(hf b hb).2.2.2.2.2⟩) (fun b o _ _ hc e _=>k b o hc e) (fun b o _ _ hc e _=>⟨o.slots,k b o hc e⟩)
  (fun b o _ e n=>?_) (fun b o hc e=>⟨o,k b o hc e⟩) (fun b xs e=>?_) (fun b o u e=>?_) (fun b ps e=>⟨#[],?_⟩) (fun m hm=>?_) (fun b u e=>?_) I.bare
 ·rw[Ja (Nat.ne_of_lt (Nat.lt_of_lt_of_le (Heap.lt_size e) hT))];exact n
 ·rw[Ja (Jv e hn)];exact e
 ·rw[Ja (Jv e hn)];exact e
 ·rw[Ja (Jv e hn),e];simp
 ·obtain⟨o,es,ep,ho,r⟩:=hm;exact⟨o,es,ep,k _ o (fun z=>(hf _ z).2.1 rfl) ho,r⟩
 ·by_cases hb:b=T
  ·subst hb;rw[J2] at e;cases e;exact new
  ·rw[Ja hb] at e;refine(I.hok b u e).stay (fun c v hc q=>k c v ?_ q) (fun c q=>by rw[Ja (Jv q hn)];exact q) fun c xs q=>by rw[Ja (Jv q hn)];exact q
   rcases hc with z|z
   ·rw[z];exact nit b u e
   ·exact nit c _ z
end
section
variable {X:Cx}
theorem Ws {tg:Expr} {pins:List (Addr×Obj)} {σ:St} {H:Hp} {s:Shared} {R:It->Hp->Prop} {J:It} {tn:Nat->Heap->Prop} {tk:Nat} (I:Inv X pins σ H s) (o:Obj)
  (T:Turn X.prog X.w X.K tg J [s.heap.objs.size] s.heap.objs.size tn) (st:tn 0 (s.heap.push o)) (q:R J H):PIE X pins σ tg R (.ref s.heap.objs.size) {s with heap:=s.heap.push o,toks:=tk}:=by
 refine⟨s.heap.objs.size,[s.heap.objs.size],tn,J,H,rfl,I.kept fun b ob e=>Heap.get?_push_of_some _ e,T,st,fun b hb=>?_,q⟩;have e:b=s.heap.objs.size:=by simpa using hb
 subst e;exact I.fpOk (Nat.le_refl _) (I.hok.fresh (Nat.le_refl _))
end
def Itc (lo c:Int) (n:Nat):It:=⟨fun i _=>i<n,fun i H x H'=>H'=H/\x= .int (lo+(i:Nat)*c),fun i _=>n<=i⟩
theorem RC {P:Program} {w:World} {K:PySem.W.Frag} {tg:Expr} (it:Addr) (lo c:Int) (n:Nat):Turn P w K tg (Itc lo c n) [it] it (fun i h=>IsRangeIter h it (lo+(i:Nat)*c) ((n:Int)-(i:Nat)) c) where
 mem:=by simp
 obj:=fun i h st b hb=>by
  have e:b=it:=by simpa using hb
  subst e;exact⟨_,st,fun v z=>nomatch z⟩
 keep:=fun i h h' st k=>k it (by simp) _ st
 item:=by
  intro X hP hw hK hc i pins s σ H E I hf st hg;subst hP hw hK;obtain⟨f0,f1,f2,f3,f4,f5⟩:=hf it (by simp);have W:=Walks.range (prog:=X.prog) (w:=X.w) (I.ok.hd hc) it lo c n;refine W.item i s _ _ hg st fun v h' tk hv st' kk=>?_;obtain⟨t,rfl⟩:=hv;have I1:Inv X pins σ H {s with heap:=h',toks:=tk}:=I.turned (fun b o hb e=>kk b o (by simpa using hb) e) f0 f1 f3 f4 f5;exact⟨_,rfl,SL (s:={s with heap:=h',toks:=tk}) (n:="range_iterator") st' rfl rfl (by decide) ⟨.int (lo+(i:Nat)*c),H,I1,⟨t,rfl⟩,⟨rfl,rfl⟩,st',fun b hb=>(hf b hb).1⟩⟩
 done:=by
  intro X hP hw hK hc i pins s σ H E I hf st hg;subst hP hw hK;obtain⟨f0,f1,f2,f3,f4,f5⟩:=hf it (by simp);exact wpAny_pyNext_range_end (I.ok.hd hc) st (by have:n<=i:=hg;omega) fun h' eb=>⟨rfl,I.turned (t':=s.toks) (fun b o hb e=>eb b o hb e) f0 f1 f3 f4 f5⟩
 self:=fun A i s Q E st h=>wpAny_pyIter_rangeiter st h
def RgC (i j c:Int) (n:Nat):Prop:=c≠0/\c.natAbs<1073741824/\Builtin.Range.small i j c=true/\Builtin.Range.rangeSize i j c=n
theorem RgC.neg {i j:Int} (ha: -(2^62)<=i) (ha':i<2^62) (hb: -(2^62)<=j) (hb':j<2^62):RgC i j (-1) (i-j).toNat:=
 ⟨by decide,by decide,PySem.W.small_down ha ha' hb hb',PySem.W.rangeSize_downNat i j⟩
def J0S (ta:TA):TI:=fun σ H R=>ta σ H fun vs H1=> ∃(i j c:Int) (n:Nat),vs=[.int i, .int j, .int c]/\RgC i j c n/\R (Itc i c n) H1
section
variable {X:Cx} {tg:Expr}
theorem OR {a b c:Expr} {ta:TA} {p pos:Pos} (hg:Gl X "range") (hm:X.mg "range"=none) (ha:PA X [a,b,c] ta)
  (hs:starEach [a,b,c] X.env=(false,eval a X.env)::starEach [b,c] X.env:=by rfl) (hpl:(backTo pos (starEach [b,c] X.env)).any (·.1)=false:=by rfl):
  PI X tg (.Call (.Name "range" p) [a,b,c] [] pos) (J0S ta):=by
 intro pins s σ H R I h;refine Call_ (Ck I hg hm boot_range (PyProof.Rows.callWith_type1 (Yz (ha pos pins s σ H _ I h) fun us s1 ⟨vs,H1,I1,r1,q1⟩=>?_) hs hpl));obtain⟨i,j,k,n,e,⟨c0,c1,c2,c3⟩,q⟩:=q1;subst e;cases r1 with
 |cons r rr=>
  cases rr with
  |cons r' rr=>
   cases rr with
   |cons r'' rr=>
    cases rr;obtain⟨t,rfl⟩:=r;obtain⟨t',rfl⟩:=r';obtain⟨t'',rfl⟩:=r'';refine call_range_3 c0 ?_ (.inl (PyProof.noPylong_small c1));refine wpAny_pyIter_range (IsRange.new ..) c2 ?_;have I2:Inv X pins σ H1 {s1 with heap:=s1.heap.push {cls:= .type "range",data:= .fields #[.int i t, .int j t', .int k t'']}}:=I1.kept (t':=s1.toks) fun b o e=>Heap.get?_push_of_some _ e;refine Ws (tk:=s1.toks) I2 _ (RC _ i k n) ?_ q;have e1:i+((0:Nat):Int)*k=i:=by simp
    have e2:(n:Int)-((0:Nat):Int)=Builtin.Range.rangeSize i j k:=by rw[c3];simp
    show IsRangeIter _ _ (i+((0:Nat):Int)*k) ((n:Int)-((0:Nat):Int)) k;rw[e1,e2];exact Heap.get?_push_size _ rfl
end
theorem Ni {lo c:Int} {n:Nat} {g:TG} {tb:TS} {D:Ends} {σ:St} {H:Hp} (Pv:Nat->St->Hp->Prop) (h0:Pv 0 σ H)
  (hs: ∀i σ H,i<n->Pv i σ H->g (.int (lo+(i:Nat)*c)) σ H fun σ2 H2=>tb {D with nx:=Pv (i+1),ct:=Pv (i+1),bk:=D.nx} σ2 H2) (hd: ∀σ H,Pv n σ H->D.nx σ H):
  ∃W:Nat->Nat->St->Hp->Prop,(∃m,W 0 m σ H)/\ ∀i m σ H,W i m σ H->
   ((Itc lo c n).stop i H/\D.nx σ H)∨((Itc lo c n).go i H/\ ∃N:St->Hp->Prop,(∀σ' H',N σ' H'-> ∃m',m'<m/\W (i+1) m' σ' H')/\ ∀x H',(Itc lo c n).yld i H x H'->g x σ H' fun σ2 H2=>tb {D with nx:=N,ct:=N,bk:=D.nx} σ2 H2):=by
 refine⟨fun i m σ H=>m=n-i/\i<=n/\Pv i σ H,⟨n,by simp,Nat.zero_le _,h0⟩,?_⟩;rintro i m σ H ⟨rfl,hi,p⟩;by_cases hlt:i<n
 ·refine .inr ⟨hlt,Pv (i+1),fun σ' H' p'=>⟨n-(i+1),by omega,rfl,hlt,p'⟩,fun x H' y=>?_⟩;obtain⟨e,y⟩:=y;subst e y;exact hs i σ _ hlt p
 ·have e:i=n:=by omega
  subst e;exact .inl ⟨Nat.le_refl _,hd σ H p⟩
def Itv (K:PySem.W.Frag) (a:Addr) (n:Nat):It:=
 ⟨fun i H=>i<n/\ ∃(xs:List V) (x:V),SqL K H a xs/\xs[n-1-i]?=some x,fun i H x H'=>H'=H/\ ∀xs,SqL K H a xs->xs[n-1-i]?=some x,fun i _=>n<=i⟩
theorem W3 {P:Program} {w:World} {K:PySem.W.Frag} {tg:Expr} (a it:Addr) (n:Nat):Turn P w K tg (Itv K a n) [it] it (fun i h=>i<=n/\h.IsRevIter it a ((n:Int)-1-(i:Nat))) where
 mem:=by simp
 obj:=fun i h st b hb=>by
  have e:b=it:=by simpa using hb
  subst e;obtain⟨_,o,e,c,d⟩:=st;exact⟨o,e,fun v z=>by rw[d] at z;cases z⟩
 keep:=fun i h h' st k=>⟨st.1,st.2.at fun o e=>k it (by simp) o e⟩
 item:=by
  intro X hP hw hK hc i pins s σ H E I hf st hg;subst hP hw hK;obtain⟨hin,xs,x,hq,hx⟩:=hg;obtain⟨its,rv,p,hz⟩:=I.list hq;obtain⟨u,hu,ru⟩:=rv.get hx;obtain⟨f0,f1,f2,f3,f4,f5⟩:=hf it (by simp);obtain⟨_,hit⟩:=st;have e1:(n:Int)-1-((i:Nat):Int)=((n-1-i:Nat):Int):=by omega
  rw[e1] at hit;refine wpAny_pyNext_rev_item hit p.isList (x:=u) (by simpa using hu) fun h' st' sb=>?_;have e2:((n-1-i:Nat):Int)-1=(n:Int)-1-((i+1:Nat):Int):=by omega
  rw[e2] at st';have I1:Inv X pins σ H {s with heap:=h'}:=I.turned (t':=s.toks) (fun b o hb e=>(sb.2 b hb).trans e) f0 f1 f3 f4 f5;obtain⟨o,e,c,d⟩:=id st';exact⟨u,rfl,SL (s:={s with heap:=h'}) e c d (by decide) ⟨x,H,I1,ru,⟨rfl,fun ys hy=>by rw[I.list_inj hy hq];exact hx⟩,⟨hin,st'⟩,fun b hb=>(hf b hb).1⟩⟩
 done:=by
  intro X hP hw hK hc i pins s σ H E I hf st hg;subst hP hw hK;obtain⟨f0,f1,f2,f3,f4,f5⟩:=hf it (by simp);obtain⟨hin,hit⟩:=st;have hge:n<=i:=hg;have e1:(n:Int)-1-((i:Nat):Int)= -1:=by omega
  rw[e1] at hit;exact wpAny_pyNext_rev_end (I.ok.hd hc) hit fun h' eb=>⟨rfl,I.turned (t':=s.toks) (fun b o hb e=>eb b o hb e) f0 f1 f3 f4 f5⟩
 self:=fun A i s Q E st h=>wpAny_pyIter_revIter st.2 h
def J0v (K:PySem.W.Frag) (ta:TA):TI:=fun σ H R=>ta σ H fun vs H1=> ∃(a:Addr) (xs:List V),vs=[.ref a]/\SqL K H1 a xs/\R (Itv K a xs.length) H1
section
variable {X:Cx} {tg:Expr}
theorem RK {e:Expr} {ta:TA} {p pos:Pos} (hg:Gl X "reversed") (hm:X.mg "reversed"=none) (ha:PA X [e] ta) (hs:starEach [e] X.env=[(false,eval e X.env)]:=by rfl):PI X tg (.Call (.Name "reversed" p) [e] [] pos) (J0v X.K ta):=by
 intro pins s σ H R I h;refine Call_ (Ck I hg hm N5 (PyProof.Rows.callWith_type1 (Yz (ha pos pins s σ H _ I h) fun us s1 ⟨vs,H1,I1,r1,q1⟩=>?_) hs rfl));obtain⟨a,xs,e,hq,q⟩:=q1;subst e;cases r1 with
 |cons r rr=>
  cases rr;cases r;obtain⟨its,rv,p',hz⟩:=I1.list hq;have hl:=rv.length;have e1:((its.toArray.size:Nat):Int)-1=(xs.length:Int)-1-((0:Nat):Int):=by simp only[List.size_toArray];omega
  refine call_reversed_list p'.isList (wpAny_pyIter_revIter (l:=a) (i:=((its.toArray.size:Nat):Int)-1) ⟨_,Heap.get?_push_size _ rfl,rfl,rfl⟩ ?_);refine Ws (tk:=s1.toks) I1 _ (W3 a _ xs.length) ⟨Nat.zero_le _,?_⟩ q;rw[<-e1];exact⟨_,Heap.get?_push_size _ rfl,rfl,rfl⟩
end
section
variable {prog:Program} {w:World} {A:Around} {E:Value->Shared->Prop} {s:Shared}
end
section
variable {X:Cx} {pins:List (Addr×Obj)} {σ:St} {H:Hp} {s:Shared} {d:Addr} {o:Obj}
end
section
variable {P:Program} {w:World} {K:PySem.W.Frag} {tg:Expr} {d:Addr} {o:Obj} {es:Array DictEntry} {ep:Nat}
end
section
variable {X:Cx} {tg e:Expr} {td:TE} {apos cpos:Pos}
end
def Ite (K:PySem.W.Frag) (a:Addr):It:=
 ⟨fun i H=> ∃(xs:List V) (x:V),SqL K H a xs/\xs[i]?=some x,fun i H v H'=> ∃T x,v= .ref T/\H T=none/\H'=upd H T (.tup [.int (i:Nat),x])/\ ∀xs,SqL K H a xs->xs[i]?=some x,fun i H=> ∃xs:List V,SqL K H a xs/\xs.length<=i⟩
theorem V9 {P:Program} {w:World} {K:PySem.W.Frag} {elts:List Expr} {kk:Nat} {tpos:Pos} (a e it:Addr):
  Turn P w K (.Tuple elts kk tpos) (Ite K a) [e,it] e (fun i h=>(∃old,IsEnum h e it ((i:Nat):Int) old)/\h.IsListIter it a i/\e≠it) where
 mem:=by simp
 obj:=fun i h st b hb=>by
  obtain⟨⟨old,he⟩,⟨o,ho,hc,hd⟩,_⟩:=st;have e':b=e∨b=it:=by simpa using hb
  rcases e' with z|z
  ·rw[z];exact⟨_,he,fun v q=>nomatch q⟩
  ·rw[z];exact⟨o,ho,fun v q=>by rw[hd] at q;cases q⟩
 keep:=fun i h h' st k=>let ⟨⟨old,he⟩,hi,hne⟩:=st;⟨⟨old,k e (by simp) _ he⟩,hi.at fun o q=>k it (by simp) o q,hne⟩
 item:=by
  intro X hP hw hK hc i pins s σ H E I hf st hg;subst hP hw hK;obtain⟨⟨old,he⟩,hit,hne⟩:=st;obtain⟨xs,x,hq,hx⟩:=hg;obtain⟨its,rv,p,hz⟩:=I.list hq;obtain⟨u,hu,ru⟩:=rv.get hx;have hel:e<s.heap.objs.size:=Heap.lt_size he;have hil:it<s.heap.objs.size:=by obtain⟨_,q,_⟩:=hit;exact Heap.lt_size q
  refine wpAny_pyNext_enum_item he hit p.isList (x:=u) (by simpa using hu) hne fun h' ho hit' hT hsz hk=>?_;refine⟨_,rfl,wpAny_letOwnedTupleGo_enum (s:={s with heap:=h',toks:=s.toks+1}) ho fun h'' he' sb=>?_⟩;have hT2:h''.get? s.heap.objs.size=some {cls:= .type "tuple",data:= .seq #[.int i s.toks,u]}:=(sb.2 _ (Nat.ne_of_gt hel)).trans hT
  have new:ObjOk X.prog X.w (upd H s.heap.objs.size (.tup [.int (i:Nat),x])) h'' s.heap.objs.size (.tup [.int (i:Nat),x]):=
   ⟨by show 2<=sizeLine;decide,[.int i s.toks,u], .cons ⟨_,rfl⟩ (.cons ru .nil),⟨_,hT2,rfl,_,rfl⟩⟩
  have I1:Inv X pins σ (upd H s.heap.objs.size (.tup [.int (i:Nat),x])) {s with heap:=h'',toks:=s.toks+1}:=
   I.turnedNew (ch:=[e,it]) (fun b ob hb q=>(sb.2 b (fun z=>hb (by simp[z]))).trans (hk b ob (fun z=>hb (by simp[z])) (fun z=>hb (by simp[z])) q)) hf (Nat.le_refl _) new
  refine⟨.ref s.heap.objs.size,_,I1,rfl,⟨_,x,rfl,I.hok.fresh (Nat.le_refl _),rfl,fun ys hy=>by rw[I.list_inj hy hq];exact hx⟩,⟨⟨u,?_⟩,hit'.at fun o q=>(sb.2 it (Ne.symm hne)).trans q,hne⟩,fun b hb=>?_⟩
  ·have e1:((i+1:Nat):Int)=(i:Int)+1:=by omega
   rw[e1];exact he'
  ·have hb':b<s.heap.objs.size:=by
    have e':b=e∨b=it:=by simpa using hb
    rcases e' with z|z
    ·rw[z];exact hel
    ·rw[z];exact hil
   rw[Ja (Nat.ne_of_lt hb')];exact(hf b hb).1
 done:=by
  intro X hP hw hK hc i pins s σ H E I hf st hg;subst hP hw hK;obtain⟨⟨old,he⟩,hit,hne⟩:=st;obtain⟨xs,hq,hx⟩:=hg;obtain⟨its,rv,p,hz⟩:=I.list hq;obtain⟨f0,f1,f2,f3,f4,f5⟩:=hf it (by simp);have hl:=rv.length;exact wpAny_pyNext_enum_end (I.ok.hd hc) he hit p.isList (by simp;omega) fun h' eb=>⟨rfl,I.turned (t':=s.toks) (fun b o hb q=>eb b o hb q) f0 f1 f3 f4 f5⟩
 self:=fun A i s Q E st h=>let ⟨⟨_,he⟩,_⟩:=st;wpAny_pyIter_enum he h
def T2 (K:PySem.W.Frag) (ta:TA):TI:=fun σ H R=>ta σ H fun vs H1=> ∃a xs,vs=[.ref a]/\SqL K H1 a xs/\R (Ite K a) H1
theorem Ew {X:Cx} {e:Expr} {ta:TA} {p pos tpos:Pos} {elts:List Expr} {kk:Nat} (hg:Gl X "enumerate") (hm:X.mg "enumerate"=none) (ha:PA X [e] ta) (hs:starEach [e] X.env=[(false,eval e X.env)]:=by rfl):
  PI X (.Tuple elts kk tpos) (.Call (.Name "enumerate" p) [e] [] pos) (T2 X.K ta):=by
 intro pins s σ H R I h;refine Call_ (Ck I hg hm boot_enumerate (PyProof.Rows.callWith_type1 (Yz (ha pos pins s σ H _ I h) fun us s1 ⟨vs,H1,I1,r1,q1⟩=>?_) hs rfl));obtain⟨a,xs,ex,hq,q⟩:=q1;subst ex;cases r1 with
 |cons r rr=>
  cases rr;cases r;obtain⟨its,rv,p',hz⟩:=I1.list hq;refine call_enumerate_list p'.isList fun h' he hit hsz hk=>wpAny_pyIter_enum he ?_;have I2:Inv X pins σ H1 {s1 with heap:=h'}:=I1.kept (t':=s1.toks) hk;refine⟨s1.heap.objs.size+1,[s1.heap.objs.size+1,s1.heap.objs.size],_,_,H1,rfl,I2,V9 a (s1.heap.objs.size+1) s1.heap.objs.size,⟨⟨.none,he⟩,hit,Nat.succ_ne_self _⟩,fun b hb=>?_,q⟩;have e':b=s1.heap.objs.size+1∨b=s1.heap.objs.size:=by simpa using hb
  have hle:s1.heap.objs.size<=b:=by
   rcases e' with z|z
   ·rw[z];exact Nat.le_add_right _ _
   ·rw[z];exact Nat.le_refl _
  exact I1.fpOk hle (I1.hok.fresh hle)
theorem P2:bootBuiltins "zip"=some (.type "zip"):=by decide+kernel
def Itz (K:PySem.W.Frag) (a b:Addr):It:=
 ⟨fun i H=> ∃(xs ys:List V) (x y:V),SqL K H a xs/\SqL K H b ys/\xs[i]?=some x/\ys[i]?=some y,
   fun i H v H'=> ∃T x y,v= .ref T/\H T=none/\H'=upd H T (.tup [x,y])/\(∀xs,SqL K H a xs->xs[i]?=some x)/\ ∀ys,SqL K H b ys->ys[i]?=some y,
   fun i H=> ∃xs ys:List V,SqL K H a xs/\SqL K H b ys/\(xs.length<=i∨ys.length<=i)⟩
theorem VS {P:Program} {w:World} {K:PySem.W.Frag} {elts:List Expr} {kk:Nat} {tpos:Pos} {a b z TI TO i1 i2:Addr} (D:ZipApart z TI TO i1 i2 a b):
  Turn P w K (.Tuple elts kk tpos) (Itz K a b) [z,TI,TO,i1,i2] z (fun i h=>IsZip h z TI TO .none/\IsPair h TI (.ref i1) (.ref i2)/\(∃x y,IsPair h TO x y)/\h.IsListIter i1 a i/\h.IsListIter i2 b i) where
 mem:=by simp
 obj:=fun i h st c hc=>by
  obtain⟨hz,hTI,⟨x,y,hTO⟩,⟨o1,e1,_,d1⟩,⟨o2,e2,_,d2⟩⟩:=st;have e':c=z∨c=TI∨c=TO∨c=i1∨c=i2:=by simpa using hc
  rcases e' with q|q|q|q|q
  ·rw[q];exact⟨_,hz,fun v q=>nomatch q⟩
  ·rw[q];exact⟨_,hTI,fun v q=>nomatch q⟩
  ·rw[q];exact⟨_,hTO,fun v q=>nomatch q⟩
  ·rw[q];exact⟨o1,e1,fun v q=>by rw[d1] at q;cases q⟩
  ·rw[q];exact⟨o2,e2,fun v q=>by rw[d2] at q;cases q⟩
 keep:=fun i h h' st k=>by
  obtain⟨hz,hTI,⟨x,y,hTO⟩,h1,h2⟩:=st;exact⟨k z (by simp) _ hz,k TI (by simp) _ hTI,⟨x,y,k TO (by simp) _ hTO⟩,h1.at fun o q=>k i1 (by simp) o q,h2.at fun o q=>k i2 (by simp) o q⟩
 item:=by
  intro X hP hw hK hc i pins s σ H E I hf st hg;subst hP hw hK;obtain⟨hz,hTI,⟨x0,y0,hTO⟩,h1,h2⟩:=st;obtain⟨xs,ys,x,y,hqx,hqy,hx,hy⟩:=hg;obtain⟨its,rv,p,_⟩:=I.list hqx;obtain⟨its2,rv2,p2,_⟩:=I.list hqy;obtain⟨u,hu,ru⟩:=rv.get hx;obtain⟨u2,hu2,ru2⟩:=rv2.get hy;have hzl:z<s.heap.objs.size:=Heap.lt_size hz;refine wpAny_pyNext_zip_item D hz hTI hTO h1 h2 p.isList p2.isList (x:=u) (y:=u2) (by simpa using hu) (by simpa using hu2) fun h' z' TO' h1' h2' hT hsz hk=>?_;refine⟨_,rfl,wpAny_letOwnedTupleGo_zip (s:={s with heap:=h'}) z' fun h'' z'' sb=>?_⟩;have hT2:h''.get? s.heap.objs.size=some {cls:= .type "tuple",data:= .seq #[u,u2]}:=(sb.2 _ (Nat.ne_of_gt hzl)).trans hT
  have new:ObjOk X.prog X.w (upd H s.heap.objs.size (.tup [x,y])) h'' s.heap.objs.size (.tup [x,y]):=
   ⟨by show 2<=sizeLine;decide,[u,u2], .cons ru (.cons ru2 .nil),⟨_,hT2,rfl,_,rfl⟩⟩
  have I1:Inv X pins σ (upd H s.heap.objs.size (.tup [x,y])) {s with heap:=h''}:=
   I.turnedNew (t':=s.toks) (ch:=[z,TI,TO,i1,i2]) (fun c o hb q=>(sb.2 c (fun q'=>hb (by simp[q']))).trans (hk c o (fun q'=>hb (by simp[q'])) (fun q'=>hb (by simp[q'])) (fun q'=>hb (by simp[q'])) (fun q'=>hb (by simp[q'])) q)) hf (Nat.le_refl _) new
  refine⟨.ref s.heap.objs.size,_,I1,rfl,⟨_,x,y,rfl,I.hok.fresh (Nat.le_refl _),rfl,fun l hl=>by rw[I.list_inj hl hqx];exact hx,fun l hl=>by rw[I.list_inj hl hqy];exact hy⟩,⟨z'',?_,⟨u,u2,?_⟩,?_,?_⟩,fun c hcm=>?_⟩
  ·exact(sb.2 _ D.TIz).trans (hk _ _ D.TIz D.TITO D.TIi1 D.TIi2 hTI)
  ·exact(sb.2 _ D.TOz).trans TO'
  ·exact h1'.at fun o q=>(sb.2 _ D.i1z).trans q
  ·exact h2'.at fun o q=>(sb.2 _ D.i2z).trans q
  ·have hlt:c<s.heap.objs.size:=by
    have e':c=z∨c=TI∨c=TO∨c=i1∨c=i2:=by simpa using hcm
    rcases e' with q|q|q|q|q
    ·rw[q];exact hzl
    ·rw[q];exact Heap.lt_size hTI
    ·rw[q];exact Heap.lt_size hTO
    ·rw[q];obtain⟨_,e1,_⟩:=h1;exact Heap.lt_size e1
    ·rw[q];obtain⟨_,e2,_⟩:=h2;exact Heap.lt_size e2
   rw[Ja (Nat.ne_of_lt hlt)];exact(hf c hcm).1
 done:=by
  intro X hP hw hK hc i pins s σ H E I hf st hg;subst hP hw hK;obtain⟨hz,hTI,⟨x0,y0,hTO⟩,h1,h2⟩:=st;obtain⟨xs,ys,hqx,hqy,hend⟩:=hg;obtain⟨its,rv,p,_⟩:=I.list hqx;obtain⟨its2,rv2,p2,_⟩:=I.list hqy;have l1:=rv.length;have l2:=rv2.length
  have he:its.toArray[i]?=none∨its2.toArray[i]?=none:=by
   rcases hend with q|q
   ·exact .inl (by simp;omega)
   ·exact .inr (by simp;omega)
  exact wpAny_pyNext_zip_end (I.ok.hd hc) D hz hTI hTO h1 h2 p.isList p2.isList he fun h' hk=>⟨rfl,I.turnedL (t':=s.toks) (ch:=[z,TI,TO,i1,i2]) (fun c o hb q=>
   hk c o (fun q'=>hb (by simp[q'])) (fun q'=>hb (by simp[q'])) (fun q'=>hb (by simp[q'])) (fun q'=>hb (by simp[q'])) q) hf⟩
 self:=fun A i s Q E st h=>wpAny_pyIter_zip st.1 h
def WZ (K:PySem.W.Frag) (ta:TA):TI:=fun σ H R=>ta σ H fun vs H1=> ∃a b xs ys,vs=[.ref a, .ref b]/\SqL K H1 a xs/\SqL K H1 b ys/\R (Itz K a b) H1
theorem Fz {X:Cx} {e e2:Expr} {ta:TA} {p pos tpos:Pos} {elts:List Expr} {kk:Nat} (hg:Gl X "zip") (hm:X.mg "zip"=none) (ha:PA X [e,e2] ta)
  (hs:starEach [e,e2] X.env=(false,eval e X.env)::starEach [e2] X.env:=by rfl) (hpl:(backTo pos (starEach [e2] X.env)).any (·.1)=false:=by rfl):
  PI X (.Tuple elts kk tpos) (.Call (.Name "zip" p) [e,e2] [] pos) (WZ X.K ta):=by
 intro pins s σ H R I h;refine Call_ (Ck I hg hm P2 (PyProof.Rows.callWith_type1 (Yz (ha pos pins s σ H _ I h) fun us s1 ⟨vs,H1,I1,r1,q1⟩=>?_) hs hpl));obtain⟨a,b,xs,ys,ex,hqx,hqy,q⟩:=q1;subst ex;cases r1 with
 |cons r rr=>
  cases rr with
  |cons r' rr=>
   cases rr;cases r;cases r';obtain⟨its,rv,p1,_⟩:=I1.list hqx;obtain⟨its2,rv2,p2,_⟩:=I1.list hqy;have la:a<s1.heap.objs.size:=p1.lt;have lb:b<s1.heap.objs.size:=p2.lt;refine call_zip_2 p1.isList p2.isList fun h' hz hTI hTO h1 h2 hsz hk=>wpAny_pyIter_zip hz ?_;have I2:Inv X pins σ H1 {s1 with heap:=h'}:=I1.kept (t':=s1.toks) hk;refine⟨s1.heap.objs.size+4,[s1.heap.objs.size+4,s1.heap.objs.size+2,s1.heap.objs.size+3,s1.heap.objs.size,s1.heap.objs.size+1],_,_,H1,rfl,I2,VS (PySem.W.ktu_apart s1.heap.objs.size a b la lb),⟨hz,hTI,⟨_,_,hTO⟩,h1,h2⟩,fun c hcm=>?_,q⟩;have e':c=s1.heap.objs.size+4∨c=s1.heap.objs.size+2∨c=s1.heap.objs.size+3∨c=s1.heap.objs.size∨c=s1.heap.objs.size+1:=by simpa using hcm
   have hle:s1.heap.objs.size<=c:=by
    rcases e' with z|z|z|z|z
    ·rw[z];exact Nat.le_add_right _ _
    ·rw[z];exact Nat.le_add_right _ _
    ·rw[z];exact Nat.le_add_right _ _
    ·rw[z];exact Nat.le_refl _
    ·rw[z];exact Nat.le_add_right _ _
   exact I1.fpOk hle (I1.hok.fresh hle)
end L2
section
namespace Bits
open PySem PyProof.Rows
end Bits
end
section
namespace TL
open PySem PySem.Builtin PySem.Builtin.Str PySem.StrLaws
end TL
end
namespace L2
open PySem PySem.Spec PyProof.Rows
section
variable {X:Cx} {pins:List (Addr×Obj)} {σ:St} {H:Hp} {s:Shared} {Q:VK}
end
section
variable {X:Cx}
end
section
variable {X:Cx} {o e:Expr} {to te:TE}
end
end L2
namespace L2
open PySem PySem.Spec PyProof.Rows
section
variable {X:Cx}
end
end L2
namespace Att
open PySem PySem.W PySem.Calls PyProof.Rows
section
variable {prog:Program} {w:World} {A:Around} {E:Value->Shared->Prop} {s:Shared} {K:Frag}
end
end Att
namespace L2
open PySem PySem.Spec PyProof.Rows
end L2
namespace L2
open PySem PySem.Spec PyProof.Rows
end L2
namespace L2
open PySem PySem.Spec PyProof.Rows
def UZ (s:Stmt) (j:Nat):Stmt:=match s with
 | .ClassDef _ _ _ body _ _ _ _ _ _ _=>body.getD j (.Pass ⟨0,0,0,0⟩)
 |_=> .Pass ⟨0,0,0,0⟩
def UJ (s:Stmt):Arguments:=match s with
 | .FunctionDef _ a _ _ _ _ _ _ _ _=>a
 |_=>{posonlyargs:=[],args:=[],vararg:=none,kwonlyargs:=[],kw_defaults:=[],kwarg:=none,defaults:=[]}
def ZU (s:Stmt):List Stmt:=match s with
 | .FunctionDef _ _ b _ _ _ _ _ _ _=>b
 |_=>[]
def J8 (s:Stmt):Scope:=match s with
 | .FunctionDef _ _ _ _ _ _ sc _ _ _=>sc
 |_=>{kind:= .function,names:=[],isGenerator:=false,isCoroutine:=false}
abbrev CX0:CXT:=fun _ _ _ _ _ _=>False
abbrev E0:XK:=fun _ _ _=>False
theorem Vl {X:Cx}:Passes CX0 X E0:=fun _ _ _ _ _ _ _ h=>h.elim
structure Fun (K:PySem.W.Frag) (x qual:Str) (st:Stmt) (f:Addr) (fd:FuncData):Prop where
 ex: ∃(oc:Value) (od:Option Addr) (kV doc pm:Value) (an:Option Addr) (cdv ct:Value) (osl:Array (Option Value)),
  fd=PySem.W.fnOf x qual (UJ st) (ZU st) (J8 st) .none kV doc pm an cdv ct/\K.lookup f=some ⟨oc,od, .func fd,osl⟩/\PySem.W.codeIn K cdv qual=true
 kp:PySem.W.keepIn K (.ref f)=true
section
variable {P:Program} {w:World} {K:PySem.W.Frag} {mg:Str->Option Value} {base:Heap}
theorem Fun.ok {x qual:Str} {st:Stmt} {f:Addr} {fd:FuncData} {N ps:List Str} {k:Nat} {sp:Sp} (F:Fun K x qual st f fd) (S:FnScope N ps (J8 st)) (len: ∀vs H Q E,sp vs H Q E->vs.length=ps.length)
  (hbody: ∀(cdv:Value) (A:Around) (outer:List Env) (s:Shared) (H:Hp) (vs:List V) (Q:VK) (E:XK),Room k (A.deeper (envOfC qual (J8 st) s.heap.objs.size f cdv))->sp vs H Q E->
    ∃t,PSs (Sy CX0 P w K mg base N qual (J8 st) f cdv A outer s H E).nox (ZU st) t/\t {nx:=fun _ H'=>Q .non H',rt:=Q} (start N vs) H):FnOk P w K mg base CX0 (k+1) f fd ps sp:=by
 obtain⟨oc,od,kV,doc,pm,an,cdv,ct,osl,rfl,lk,hcd⟩:=F.ex;refine J0E lk hcd S len fun A outer s H vs Q E hr hsp=>?_;obtain⟨t,h,q⟩:=hbody cdv A outer s H vs Q E hr hsp;exact⟨t,h.nox,q⟩
theorem Fun.binds {x qual:Str} {st:Stmt} {f:Addr} {fd:FuncData} {ps:List Str} (F:Fun K x qual st f fd)
  (h: ∀(kV doc pm:Value) (an:Option Addr) (cdv ct:Value) (us:List Value),us.length=ps.length->bindArgs (PySem.W.fnOf x qual (UJ st) (ZU st) (J8 st) .none kV doc pm an cdv ct) ⟨us,[]⟩=pure (ps.zip us)):Binds K fd ps []:=by
 obtain⟨oc,od,kV,doc,pm,an,cdv,ct,osl,rfl,lk,hcd⟩:=F.ex;exact .all (h kV doc pm an cdv ct)
theorem Q1 {x qual:Str} {st:Stmt} {f:Addr} {oc:Value} {od an:Option Addr} {osl:Array (Option Value)} {kV doc pm cdv ct:Value} (l:K.lookup f=some ⟨oc,od, .func (PySem.W.fnOf x qual (UJ st) (ZU st) (J8 st) .none kV doc pm an cdv ct),osl⟩)
  (c:PySem.W.codeIn K cdv qual=true) (k:PySem.W.keepIn K (.ref f)=true):Fun K x qual st f (PySem.W.fnOf x qual (UJ st) (ZU st) (J8 st) .none kV doc pm an cdv ct):=⟨⟨oc,od,kV,doc,pm,an,cdv,ct,osl,rfl,l,c⟩,k⟩
end
theorem QZ {A:Around} {k:Nat} (hr:Room k A):A.units+1<cLine:=Nat.lt_of_le_of_lt (Nat.add_le_add_left (by decide:1<=64) _) hr.units
section
variable {X:Cx}
theorem pv (i:Nat) {x:Str} {pos:Pos} (hN:X.N[i]?=some x:=by rfl) (hv:Vis X.env.scope x:=by first|exact Or.inl rfl|exact Or.inr (Or.inl rfl)|exact Or.inr (Or.inr rfl)) (hd:(x==("__debug__":Str))=false:=by decide)
  (hcd:(x==("__classdict__":Str))=false:=by decide):PE X (.Name x pos) (Jf i):=J03 hN hv hd hcd
theorem TZ:CallR X (.builtin "len") (fun xs H Q=> ∃a kvs,xs=[V.ref a]/\H a=some (.dK kvs)/\Q (.int kvs.length) H):=by
 intro pins s σ H xs us Q I r h;obtain⟨a,kvs,rfl,ha,q⟩:=h;obtain⟨u,rfl,ru⟩:=Fe r;cases ru;exact J0I I (.inl ha) fun t s' I'=>⟨.int kvs.length,H,I',⟨t,rfl⟩,q⟩
end
theorem Ya {A B:Prop} (h:B):if false=true then A else B:=by
 rw[if_neg Bool.false_ne_true];exact h
theorem JV {A B:Prop} (h:A):if true=true then A else B:=by
 rw[if_pos rfl];exact h
theorem J0T {c A B:Prop} [Decidable c] (h1:c->A) (h2: ¬c->B):if c then A else B:=by
 by_cases h:c
 ·rw[if_pos h];exact h1 h
 ·rw[if_neg h];exact h2 h
def Same (H H':Hp):Prop:= ∀b o,H b=some o->H' b=some o
theorem Same.refl (H:Hp):Same H H:=fun _ _ h=>h
theorem Same.trans {H H1 H2:Hp} (a:Same H H1) (b:Same H1 H2):Same H H2:=fun c o h=>b c o (a c o h)
theorem Same.free {H H':Hp} (e:Same H H') {l:Addr} (h:H' l=Option.none):H l=Option.none:=by
 cases q:H l with
 |none=>rfl
 |some o=>
  rw[e l o q] at h;cases h
theorem Same.seq {K:PySem.W.Frag} {H H':Hp} {a:Addr} {xs:List V} (e:Same H H') (h:SqL K H a xs):SqL K H' a xs:=by
 rcases h with(h|⟨o,h⟩)|h
 ·exact .inl (.inl (e _ _ h))
 ·exact .inl (.inr ⟨o,e _ _ h⟩)
 ·exact .inr h
section
variable {κ:Type} [DecidableEq κ]
theorem VE {kvs:List (κ×V)} {k:κ} (h:ZH kvs k=none): ¬k∈kvs.map (·.1):=by
 intro m;obtain⟨p,hp,e⟩:=List.mem_map.mp m;have q:(kvs.any fun kv=>decide (kv.1=k))=true:=List.any_eq_true.mpr ⟨p,hp,decide_eq_true e⟩;rw[Uf,h] at q;exact absurd q (by simp)
theorem X7 {kvs:List (κ×V)} {k:κ} {v:V} (h:ZH kvs k=some v):k∈kvs.map (·.1):=by
 have q:(kvs.any fun kv=>decide (kv.1=k))=true:=by
  rw[Uf,h]
  all_goals rfl
 obtain⟨p,hp,e⟩:=List.any_eq_true.mp q;exact List.mem_map.mpr ⟨p,hp,of_decide_eq_true e⟩
theorem LA: ∀{l:List κ} {k:κ},l.Nodup-> ¬k∈l->(l++[k]).Nodup
 |[],k,_,_=>by simp
 |a::r,k,h,hk=>by
  obtain⟨h1,h2⟩:=List.nodup_cons.mp h;show(a::(r++[k])).Nodup;refine List.nodup_cons.mpr ⟨fun m=>?_,LA h2 fun m=>hk (List.mem_cons.mpr (Or.inr m))⟩;rcases List.mem_append.mp m with q|q
  ·exact h1 q
  ·exact hk (List.mem_cons.mpr (Or.inl (List.mem_singleton.mp q).symm))
theorem WM {kvs:List (κ×V)} {k:κ} (v:V) (hn:(kvs.map (·.1)).Nodup) (h:ZH kvs k=none):((Cb kvs k v).map (·.1)).Nodup:=by
 rw[Qy v h,List.map_append];exact LA hn (VE h)
theorem IL {p:κ×V} {r:List (κ×V)} {k:κ} (e:p.1=k):Um (p::r) k=Um r k:=by
 unfold Um;rw[List.filter_cons,if_neg (by simp[e])]
theorem Em {p:κ×V} {r:List (κ×V)} {k:κ} (e: ¬p.1=k):Um (p::r) k=p::Um r k:=by
 unfold Um;rw[List.filter_cons,if_pos (by simp[e])]
theorem QX: ∀{kvs:List (κ×V)} {k:κ},¬k∈kvs.map (·.1)->Um kvs k=kvs
 |[],_,_=>rfl
 |p::r,k,h=>by
  have h': ¬k∈r.map (·.1):=fun m=>by
   obtain⟨q,hq,e⟩:=List.mem_map.mp m;exact h (List.mem_map.mpr ⟨q,List.mem_cons.mpr (Or.inr hq),e⟩)
  rw[Em fun e=>h (List.mem_map.mpr ⟨p,List.mem_cons.mpr (Or.inl rfl),e⟩),QX h']
theorem Tx {kvs:List (κ×V)} {k:κ} {p:κ×V} (h:p∈Um kvs k):p∈kvs:=(List.mem_filter.mp h).1
theorem MP: ∀{kvs:List (κ×V)} {k:κ},(kvs.map (·.1)).Nodup->((Um kvs k).map (·.1)).Nodup
 |[],_,_=>List.nodup_nil
 |p::r,k,h=>by
  have h:(p.1::r.map (·.1)).Nodup:=h;obtain⟨h1,h2⟩:=List.nodup_cons.mp h;by_cases e:p.1=k
  ·rw[IL e];exact MP h2
  ·rw[Em e];show(p.1::(Um r k).map (·.1)).Nodup;refine List.nodup_cons.mpr ⟨fun m=>h1 ?_,MP h2⟩;obtain⟨q,hq,eq⟩:=List.mem_map.mp m;exact List.mem_map.mpr ⟨q,Tx hq,eq⟩
theorem P7: ∀{kvs:List (κ×V)} {k:κ},(kvs.map (·.1)).Nodup->k∈kvs.map (·.1)->(Um kvs k).length+1=kvs.length
 |[],_,_,m=>by simp at m
 |p::r,k,h,m=>by
  have h:(p.1::r.map (·.1)).Nodup:=h;have m:k=p.1∨k∈r.map (·.1):=List.mem_cons.mp m;obtain⟨h1,h2⟩:=List.nodup_cons.mp h;by_cases e:p.1=k
  ·subst e;rw[IL rfl,QX h1]
   all_goals rfl
  ·have m':k∈r.map (·.1):=m.resolve_left fun z=>e z.symm;have q:=P7 h2 m';rw[Em e,List.length_cons,List.length_cons];omega
end
theorem J0q {xs:List V} {z:Int} {j:Nat} {v:V} (e:z=(j:Int)) (h:xs[j]?=some v):Nu xs z=some v:=by
 rw[e];exact A0 h
end L2
section
set_option maxRecDepth 100000
set_option maxHeartbeats 2000000
namespace L2
open PySem PySem.Spec PyProof.Rows
open PySem.W (WData Codec OpenSpec Well WellAll ReadsW ReadsAllW)
mutual
inductive Dw (K:PySem.W.Frag) (H:Hp):V->WData->Prop
 |non:Dw K H .non .none
 |bl (b:Bool):Dw K H (.bl b) (.bool b)
 |int (i:Int):Dw K H (.int i) (.int i)
 |str (x:Str):Dw K H (.str x) (.str x)
 |byt (b:Array UInt8):Dw K H (.byt b) (.bytes b.toList)
 |lst {a:Addr} {xs:List V} {ds:List WData}:SqL K H a xs->DwAll K H xs ds->Dw K H (.ref a) (.list ds)
 |tup {a:Addr} {xs:List V} {ds:List WData}:SqT K H a xs->DwAll K H xs ds->Dw K H (.ref a) (.tuple ds)
inductive DwAll (K:PySem.W.Frag) (H:Hp):List V->List WData->Prop
 |nil:DwAll K H [] []
 |cons {v:V} {vs:List V} {d:WData} {ds:List WData}:Dw K H v d->DwAll K H vs ds->DwAll K H (v::vs) (d::ds)
end
theorem Tf {K:PySem.W.Frag} {H:Hp}: ∀ns:List Int,DwAll K H (ns.map V.int) (ns.map WData.int)
 |[]=> .nil
 |n::r=> .cons (.int n) (Tf r)
theorem T9 {K:PySem.W.Frag} {H:Hp}: ∀(ns:List Int) (xs:List V),DwAll K H xs (ns.map WData.int)->xs=ns.map V.int
 |[],xs,h=>by
  cases h;rfl
 |n::r,xs,h=>by
  cases h with
  |cons h1 h2=>
   cases h1;rw[T9 r _ h2]<;>rfl
section
variable {P:Program} {w:World} {K:PySem.W.Frag} {H:Hp} {h:Heap} {R:PySem.W.WRecords} {cl:Str->Option Addr}
theorem J02 {a:Addr} {xs:List V} (hok:HOk P w H h) (KX:K.In h) (q:SqL K H a xs): ∃(its:List Value) (o:Obj) (n:Nat),Vals xs its/\h.get? a=some o/\o.cls= .type "list"/\o.data= .seq its.toArray n:=by
 rcases q with q|⟨o,its,n,e,hc,_,hd,_,hv⟩
 ·obtain⟨_,its,n,hv,e⟩:=(show ObjOk P w H h a (.lst xs) from q.ok hok);exact⟨its,_,n,hv,e,rfl,rfl⟩
 ·exact⟨its.toList,o,n,hv,KX _ _ e,hc,by simp[hd]⟩
theorem J0f {a:Addr} {xs:List V} (hok:HOk P w H h) (KX:K.In h) (q:SqT K H a xs): ∃(its:List Value) (o:Obj) (n:Nat),Vals xs its/\h.get? a=some o/\o.cls= .type "tuple"/\o.data= .seq its.toArray n:=by
 rcases q with q|⟨o,its,n,e,hc,hd,_,hv⟩
 ·obtain⟨_,its,hv,o,e,hc,n,hd⟩:=(show ObjOk P w H h a (.tup xs) from q.ok hok);exact⟨its,o,n,hv,e,hc,hd⟩
 ·exact⟨its.toList,o,n,hv,KX _ _ e,hc,by simp[hd]⟩
mutual
theorem Dw.reads (hok:HOk P w H h) (KX:K.In h): ∀(d:WData) (v:V) (u:Value),Dw K H v d->RelV v u-> ∃as,ReadsW R cl h u d as
 | .none,_,_,x,r=>by
  cases x;cases r;exact⟨_,ReadsW.none⟩
 | .bool b,_,_,x,r=>by
  cases x;cases r;exact⟨_,ReadsW.bool b⟩
 | .int i,_,_,x,r=>by
  cases x;obtain⟨t,rfl⟩:=r;exact⟨_,ReadsW.int i t⟩
 | .str s,_,_,x,r=>by
  cases x;obtain⟨t,rfl⟩:=r;exact⟨_,ReadsW.str s t⟩
 | .bytes b,_,_,x,r=>by
  cases x;obtain⟨t,rfl⟩:=r;exact⟨_,ReadsW.bytes _ t⟩
 | .list ds,_,_,x,r=>by
  cases x with
  |lst hs ha=>
   cases r;obtain⟨its,o,n,rv,ho,hc,hd⟩:=J02 hok KX hs;obtain⟨as,hr⟩:=Dw.readsAll hok KX ds _ its ha rv;exact⟨_,ReadsW.list ho hc hd hr⟩
 | .tuple ds,_,_,x,r=>by
  cases x with
  |tup hs ha=>
   cases r;obtain⟨its,o,n,rv,ho,hc,hd⟩:=J0f hok KX hs;obtain⟨as,hr⟩:=Dw.readsAll hok KX ds _ its ha rv;exact⟨_,ReadsW.tuple ho hc hd hr⟩
 | .float _,_,_,x,_=>by cases x
 | .dict _,_,_,x,_=>by cases x
 | .bytearray _,_,_,x,_=>by cases x
 | .set _,_,_,x,_=>by cases x
 | .frozenset _,_,_,x,_=>by cases x
 | .obj _ _,_,_,x,_=>by cases x
theorem Dw.readsAll (hok:HOk P w H h) (KX:K.In h): ∀(ds:List WData) (vs:List V) (us:List Value),DwAll K H vs ds->Vals vs us-> ∃as,ReadsAllW R cl h us ds as
 |[],_,_,x,r=>by
  cases x;cases r;exact⟨_,ReadsAllW.nil⟩
 |d::ds,_,_,x,r=>by
  cases x with
  |cons h1 h2=>
   cases r with
   |cons r1 r2=>
    obtain⟨as,q1⟩:=Dw.reads hok KX d _ _ h1 r1;obtain⟨bs,q2⟩:=Dw.readsAll hok KX ds _ _ h2 r2;exact⟨_,ReadsAllW.cons q1 q2⟩
end
end
mutual
def Tg:WData->Bool
 | .none=>true
 | .bool _=>true
 | .int _=>true
 | .str _=>true
 | .bytes _=>true
 | .list xs=>L8 xs
 | .tuple xs=>L8 xs
 |_=>false
def L8:List WData->Bool
 |[]=>true
 |x::r=>Tg x&&L8 r
end
theorem Rv {α:Type} {f:α->WData} (h: ∀a,Tg (f a)=true): ∀l:List α,L8 (l.map f)=true
 |[]=>rfl
 |x::r=>by
  show(Tg (f x)&&L8 (r.map f))=true;rw[h x,Rv h r]<;>rfl
theorem DC: ∀(c:Codec) (a:c.denote),Tg (c.enc a)=true
 | .unit,_=>rfl
 | .bool,_=>rfl
 | .int _ _,_=>rfl
 | .nat _ _,_=>rfl
 | .u8,_=>rfl
 | .bytes _ _,_=>rfl
 | .text _ _ _ _,_=>rfl
 | .list _ _ c,a=>Rv (fun x=>DC c x) a
 | .pair c d,a=>by
  show(Tg (c.enc a.1)&&(Tg (d.enc a.2)&&true))=true;rw[DC c a.1,DC d a.2]<;>rfl
 | .triple c d e,a=>by
  show(Tg (c.enc a.1)&&(Tg (d.enc a.2.1)&&(Tg (e.enc a.2.2)&&true)))=true;rw[DC c a.1,DC d a.2.1,DC e a.2.2]<;>rfl
 | .option c,none=>rfl
 | .option c,some x=>DC c x
theorem OQ: ∀(cs:List Codec) (a:Codec.denoteAll cs),L8 (Codec.encAll cs a)=true
 |[],_=>rfl
 |c::cs,a=>by
  show(Tg (c.enc a.1)&&L8 (Codec.encAll cs a.2))=true;rw[DC c a.1,OQ cs a.2]<;>rfl
theorem FS: ∀{xs:List WData} {d:WData},d∈xs->d.weight<=WData.weightAll xs
 |[],d,h=>absurd h (by simp)
 |x::r,d,h=>by
  show d.weight<=x.weight+1+WData.weightAll r;rcases List.mem_cons.mp h with e|m
  ·rw[e];omega
  ·have z:=FS m;omega
def QH:Value->V
 | .none=> .non
 | .bool b=> .bl b
 | .int i _=> .int i
 | .str x _=> .str x
 | .bytes b _=> .byt b
 | .ref a=> .ref a
 |_=> .non
def OkU (A:List Addr):Value->Prop
 | .none=>True
 | .bool _=>True
 | .int _ _=>True
 | .str _ _=>True
 | .bytes _ _=>True
 | .ref a=>a∈A
 |_=>False
theorem OkU.mono {A B:List Addr} (h: ∀a∈A,a∈B): ∀{u:Value},OkU A u->OkU B u:=fun{u} x=>by
 cases u with
 |ref a=>exact h a x
 |none=>trivial
 |bool b=>trivial
 |int i t=>trivial
 |str s t=>trivial
 |bytes b t=>trivial
 |_=>exact False.elim x
theorem Wg {A:List Addr} {u:Value} (x:OkU A u):RelV (QH u) u:=by
 cases u with
 |ref a=>rfl
 |none=>rfl
 |bool b=>rfl
 |int i t=>exact⟨t,rfl⟩
 |str s t=>exact⟨t,rfl⟩
 |bytes b t=>exact⟨t,rfl⟩
 |_=>exact False.elim x
theorem BU {A:List Addr}: ∀{vs:List Value},(∀u∈vs,OkU A u)->Vals (vs.map QH) vs
 |[],_=> .nil
 |u::r,h=> .cons (Wg (h u (List.mem_cons_self ..))) (BU fun x hx=>h x (List.mem_cons_of_mem _ hx))
def ArgOb (h:Heap) (A:List Addr) (a:Addr):Prop:= ∃vs:List Value,vs.length<=sizeLine/\(∀u∈vs,OkU A u)/\
 (h.get? a=some {cls:= .type "list",data:= .seq vs.toArray}∨h.get? a=some {cls:= .type "tuple",data:= .seq vs.toArray})
theorem ArgOb.mono {h:Heap} {A B:List Addr} {a:Addr} (k: ∀a∈A,a∈B) (x:ArgOb h A a):ArgOb h B a:=by
 obtain⟨vs,h1,h2,h3⟩:=x;exact⟨vs,h1,fun u hu=>(h2 u hu).mono k,h3⟩
theorem B1 {P:Params} {h:Heap}: ∀{vs:List Value} {ds:List WData},WellAll P h vs ds->vs.length=ds.length
 |_,_, .nil=>rfl
 |_,_, .cons _ b=>by
  show _+1=_+1;rw[B1 b]
theorem P0 {P:Params} {h:Heap} {v:Value} {ds:List WData} (x:Well P h v (.list ds)): ∃(a:Addr) (vs:List Value),v= .ref a/\h.get? a=some {cls:= .type "list",data:= .seq vs.toArray}/\WellAll P h vs ds:=by
 cases x with
 |list ho hall=>exact⟨_,_,rfl,ho,hall⟩
theorem M4 {P:Params} {h:Heap} {v:Value} {ds:List WData} (x:Well P h v (.tuple ds)): ∃(a:Addr) (vs:List Value),v= .ref a/\h.get? a=some {cls:= .type "tuple",data:= .seq vs.toArray}/\WellAll P h vs ds:=by
 cases x with
 |tuple ho hall=>exact⟨_,_,rfl,ho,hall⟩
theorem Om {P:Params} {h:Heap} {us:List Value} {d:WData} {ds:List WData} (x:WellAll P h us (d::ds)): ∃(v:Value) (vs:List Value),us=v::vs/\Well P h v d/\WellAll P h vs ds:=by
 cases x with
 |cons a b=>exact⟨_,_,rfl,a,b⟩
theorem SU {n:Nat} (h:n<=1048576):n<=sizeLine:=Nat.le_trans h (by decide)
section
variable {P:Params} {h:Heap}
mutual
theorem Wi: ∀(d:WData) (v:Value),Well P h v d->Tg d=true->d.weight<=1048576-> ∃A:List Addr,OkU A v/\ ∀a∈A,ArgOb h A a
 | .none,_,x,_,_=>by
  cases x;exact⟨[],trivial,fun a m=>absurd m (by simp)⟩
 | .bool b,_,x,_,_=>by
  cases x;exact⟨[],trivial,fun a m=>absurd m (by simp)⟩
 | .int i,_,x,_,_=>by
  cases x;exact⟨[],trivial,fun a m=>absurd m (by simp)⟩
 | .str s,_,x,_,_=>by
  cases x;exact⟨[],trivial,fun a m=>absurd m (by simp)⟩
 | .bytes b,_,x,_,_=>by
  cases x;exact⟨[],trivial,fun a m=>absurd m (by simp)⟩
 | .list ds,_,x,p,z=>by
  obtain⟨a,vs,rfl,ho,hall⟩:=P0 x;have z2:WData.weightAll ds<=1048576:=z;obtain⟨A,h1,h2⟩:=Hd ds _ hall p fun d hd=>Nat.le_trans (FS hd) z2;have k: ∀b∈A,b∈a::A:=fun b hb=>List.mem_cons_of_mem _ hb;refine⟨a::A,List.mem_cons_self ..,fun b hb=>?_⟩;rcases List.mem_cons.mp hb with e|m
  ·rw[e];exact⟨vs,SU (by rw[B1 hall];exact Nat.le_trans (PySem.W.length_le_weightAllW ds) z2),fun u hu=>(h1 u hu).mono k, .inl ho⟩
  ·exact(h2 b m).mono k
 | .tuple ds,_,x,p,z=>by
  obtain⟨a,vs,rfl,ho,hall⟩:=M4 x;have z2:WData.weightAll ds<=1048576:=z;obtain⟨A,h1,h2⟩:=Hd ds _ hall p fun d hd=>Nat.le_trans (FS hd) z2;have k: ∀b∈A,b∈a::A:=fun b hb=>List.mem_cons_of_mem _ hb;refine⟨a::A,List.mem_cons_self ..,fun b hb=>?_⟩;rcases List.mem_cons.mp hb with e|m
  ·rw[e];exact⟨vs,SU (by rw[B1 hall];exact Nat.le_trans (PySem.W.length_le_weightAllW ds) z2),fun u hu=>(h1 u hu).mono k, .inr ho⟩
  ·exact(h2 b m).mono k
 | .float _,_,_,p,_=>Bool.noConfusion (show false=true from p)
 | .dict _,_,_,p,_=>Bool.noConfusion (show false=true from p)
 | .bytearray _,_,_,p,_=>Bool.noConfusion (show false=true from p)
 | .set _,_,_,p,_=>Bool.noConfusion (show false=true from p)
 | .frozenset _,_,_,p,_=>Bool.noConfusion (show false=true from p)
 | .obj _ _,_,_,p,_=>Bool.noConfusion (show false=true from p)
theorem Hd: ∀(ds:List WData) (vs:List Value),WellAll P h vs ds->L8 ds=true->(∀d∈ds,d.weight<=1048576)-> ∃A:List Addr,(∀u∈vs,OkU A u)/\ ∀a∈A,ArgOb h A a
 |[],_,x,_,_=>by
  cases x;exact⟨[],fun u m=>absurd m (by simp),fun a m=>absurd m (by simp)⟩
 |d::ds,_,x,p,z=>by
  obtain⟨v,vs,rfl,x1,x2⟩:=Om x;have q:Tg d=true/\L8 ds=true:=Bool.and_eq_true_iff.mp p;obtain⟨A,a1,a2⟩:=Wi d v x1 q.1 (z d (List.mem_cons_self ..));obtain⟨B,b1,b2⟩:=Hd ds vs x2 q.2 fun e he=>z e (List.mem_cons_of_mem _ he);have kA: ∀b∈A,b∈A++B:=fun b hb=>List.mem_append.mpr (.inl hb);have kB: ∀b∈B,b∈A++B:=fun b hb=>List.mem_append.mpr (.inr hb);refine⟨A++B,fun u hu=>?_,fun b hb=>?_⟩
  ·rcases List.mem_cons.mp hu with e|m
   ·rw[e];exact a1.mono kA
   ·exact(b1 u m).mono kB
  ·rcases List.mem_append.mp hb with m|m
   ·exact(a2 b m).mono kA
   ·exact(b2 b m).mono kB
end
end
def WH (o:Obj):Option HO:=match o.data with
 | .seq vs _=>if(o.cls==Value.type "list")=true then some (.frz o (.lst (vs.toList.map QH))) else some (.frz o (.tup (vs.toList.map QH)))
 |_=>none
def C7 (K:PySem.W.Frag) (h:Heap) (A:List Addr):Hp:=fun b=>if b∈A then(if(K.lookup b).isNone=true then(h.get? b).bind WH else none) else none
def OnlyF (H:Hp):Prop:= ∀b,H b=none∨ ∃o u,H b=some (.frz o u)
theorem Rg (vs:List Value):WH {cls:= .type "list",data:= .seq vs.toArray}=some (.frz {cls:= .type "list",data:= .seq vs.toArray} (.lst (vs.map QH))):=by
 show(if(Value.type "list"==Value.type "list")=true then some (HO.frz {cls:= .type "list",data:= .seq vs.toArray} (.lst (vs.toArray.toList.map QH))) else some (HO.frz {cls:= .type "list",data:= .seq vs.toArray} (.tup (vs.toArray.toList.map QH))))=_;rw[if_pos (beq_self_eq_true _)]
theorem Rx (vs:List Value):WH {cls:= .type "tuple",data:= .seq vs.toArray}=some (.frz {cls:= .type "tuple",data:= .seq vs.toArray} (.tup (vs.map QH))):=by
 show(if(Value.type "tuple"==Value.type "list")=true then some (HO.frz {cls:= .type "tuple",data:= .seq vs.toArray} (.lst (vs.toArray.toList.map QH))) else some (HO.frz {cls:= .type "tuple",data:= .seq vs.toArray} (.tup (vs.toArray.toList.map QH))))=_;rw[if_neg (by decide)]
section
variable {P:Program} {w:World} {K:PySem.W.Frag} {h:Heap} {A:List Addr}
theorem Lv {b:Addr} {o:Obj} (hb:b∈A) (hk:K.lookup b=none) (e:h.get? b=some o):C7 K h A b=WH o:=by
 unfold C7;rw[if_pos hb,hk,if_pos (show(none:Option Obj).isNone=true from rfl),e]<;>rfl
theorem X0 {b:Addr} {u:HO} (q:C7 K h A b=some u):b∈A/\K.lookup b=none:=by
 unfold C7 at q;by_cases hb:b∈A
 ·rw[if_pos hb] at q;cases hk:K.lookup b with
  |none=>exact⟨hb,rfl⟩
  |some o=>
   rw[hk,if_neg (by simp)] at q;cases q
 ·rw[if_neg hb] at q;cases q
theorem Ly (ar: ∀a∈A,ArgOb h A a) {b:Addr} {u:HO} (q:C7 K h A b=some u):K.lookup b=none/\ ∃vs:List Value,vs.length<=sizeLine/\(∀u∈vs,OkU A u)/\
  ((h.get? b=some {cls:= .type "list",data:= .seq vs.toArray}/\u= .frz {cls:= .type "list",data:= .seq vs.toArray} (.lst (vs.map QH)))∨
   (h.get? b=some {cls:= .type "tuple",data:= .seq vs.toArray}/\u= .frz {cls:= .type "tuple",data:= .seq vs.toArray} (.tup (vs.map QH)))):=by
 obtain⟨hb,hk⟩:=X0 q;obtain⟨vs,h1,h2,h3⟩:=ar b hb;refine⟨hk,vs,h1,h2,?_⟩;rcases h3 with e|e
 ·rw[Lv hb hk e,Rg] at q;exact .inl ⟨e,(Option.some.inj q).symm⟩
 ·rw[Lv hb hk e,Rx] at q;exact .inr ⟨e,(Option.some.inj q).symm⟩
theorem Ve (ar: ∀a∈A,ArgOb h A a):OnlyF (C7 K h A):=fun b=>by
 cases q:C7 K h A b with
 |none=>exact .inl rfl
 |some u=>
  obtain⟨_,vs,_,_,⟨_,e⟩|⟨_,e⟩⟩:=Ly ar q
  ·exact .inr ⟨_,_,by rw[e]⟩
  ·exact .inr ⟨_,_,by rw[e]⟩
theorem X8 (ar: ∀a∈A,ArgOb h A a):HOk P w (C7 K h A) h:=fun b u q=>by
 obtain⟨_,vs,h1,h2,⟨e,rfl⟩|⟨e,rfl⟩⟩:=Ly ar q
 ·exact⟨e,by rw[List.length_map];exact h1,vs,_,BU h2,e⟩
 ·exact⟨e,by rw[List.length_map];exact h1,vs,BU h2,_,e,rfl,_,rfl⟩
theorem Lz {c c':Value} {vs us:List Value} (e:(some {cls:=c,data:= .seq vs.toArray}:Option Obj)=some {cls:=c',data:= .seq us.toArray}):c=c'/\vs=us:=by
 have e1:=Option.some.inj e;have e2:c=c':=congrArg Obj.cls e1;have e3:Data.seq vs.toArray=Data.seq us.toArray:=congrArg Obj.data e1;injection e3 with e4
 refine⟨e2,?_⟩;have e5:=congrArg Array.toList e4
 simpa using e5
theorem J1m (KX:K.In h) (ar: ∀a∈A,ArgOb h A a) {a:Addr} {vs:List Value} (ha:a∈A) (e:h.get? a=some {cls:= .type "list",data:= .seq vs.toArray}):(∀u∈vs,OkU A u)/\SqL K (C7 K h A) a (vs.map QH):=by
 obtain⟨us,h1,h2,h3⟩:=ar a ha
 have hu:us=vs:=by
  rcases h3 with q|q
  ·rw[e] at q;exact(Lz q).2.symm
  ·rw[e] at q;exact absurd (Value.type.inj (Lz q).1) (by decide)
 subst hu;refine⟨h2,?_⟩;cases hk:K.lookup a with
 |none=>exact .inl (.inr ⟨_,by rw[Lv ha hk e,Rg]⟩)
 |some o=>
  have e2:=KX a o hk;rw[e] at e2;obtain rfl:=Option.some.inj e2;exact .inr ⟨_,us.toArray,_,hk,rfl,rfl,rfl,by rw[List.size_toArray];exact h1,by simpa using BU h2⟩
theorem J17 (KX:K.In h) (ar: ∀a∈A,ArgOb h A a) {a:Addr} {vs:List Value} (ha:a∈A) (e:h.get? a=some {cls:= .type "tuple",data:= .seq vs.toArray}):(∀u∈vs,OkU A u)/\SqT K (C7 K h A) a (vs.map QH):=by
 obtain⟨us,h1,h2,h3⟩:=ar a ha
 have hu:us=vs:=by
  rcases h3 with q|q
  ·rw[e] at q;exact absurd (Value.type.inj (Lz q).1) (by decide)
  ·rw[e] at q;exact(Lz q).2.symm
 subst hu;refine⟨h2,?_⟩;cases hk:K.lookup a with
 |none=>exact .inl (.inr ⟨_,by rw[Lv ha hk e,Rx]⟩)
 |some o=>
  have e2:=KX a o hk;rw[e] at e2;obtain rfl:=Option.some.inj e2;exact .inr ⟨_,us.toArray,_,hk,rfl,rfl,by rw[List.size_toArray];exact h1,by simpa using BU h2⟩
mutual
theorem J0m {Pm:Params} (KX:K.In h) (ar: ∀a∈A,ArgOb h A a): ∀(d:WData) (v:Value),Well Pm h v d->Tg d=true->OkU A v->Dw K (C7 K h A) (QH v) d
 | .none,_,x,_,_=>by
  cases x;exact .non
 | .bool b,_,x,_,_=>by
  cases x;exact .bl b
 | .int i,_,x,_,_=>by
  cases x;exact .int i
 | .str s,_,x,_,_=>by
  cases x;exact .str s
 | .bytes b,_,x,_,_=>by
  cases x;have z:=Dw.byt (K:=K) (H:=C7 K h A) b.toArray;exact z
 | .list ds,_,x,p,hu=>by
  obtain⟨a,vs,rfl,ho,hall⟩:=P0 x;obtain⟨h2,hs⟩:=J1m KX ar hu ho;exact .lst hs (Pq KX ar ds _ hall p h2)
 | .tuple ds,_,x,p,hu=>by
  obtain⟨a,vs,rfl,ho,hall⟩:=M4 x;obtain⟨h2,hs⟩:=J17 KX ar hu ho;exact .tup hs (Pq KX ar ds _ hall p h2)
 | .float _,_,_,p,_=>Bool.noConfusion (show false=true from p)
 | .dict _,_,_,p,_=>Bool.noConfusion (show false=true from p)
 | .bytearray _,_,_,p,_=>Bool.noConfusion (show false=true from p)
 | .set _,_,_,p,_=>Bool.noConfusion (show false=true from p)
 | .frozenset _,_,_,p,_=>Bool.noConfusion (show false=true from p)
 | .obj _ _,_,_,p,_=>Bool.noConfusion (show false=true from p)
theorem Pq {Pm:Params} (KX:K.In h) (ar: ∀a∈A,ArgOb h A a): ∀(ds:List WData) (vs:List Value),WellAll Pm h vs ds->L8 ds=true->(∀u∈vs,OkU A u)->DwAll K (C7 K h A) (vs.map QH) ds
 |[],_,x,_,_=>by
  cases x;exact .nil
 |d::ds,_,x,p,hu=>by
  obtain⟨v,vs,rfl,x1,x2⟩:=Om x;have q:Tg d=true/\L8 ds=true:=Bool.and_eq_true_iff.mp p;exact .cons (J0m KX ar d v x1 q.1 (hu _ (List.mem_cons_self ..))) (Pq KX ar ds vs x2 q.2 fun u m=>hu u (List.mem_cons_of_mem _ m))
end
end
theorem V0 {P:Program} {w:World} {K:PySem.W.Frag} {mg mb:Str->Option Value} {CX:CXT} {k:Nat} {fa:Addr} {fd:FuncData} {ps:List Str} {sp:Sp} {s₁:Shared} {vals:List Value} {ds:List WData} {R:PySem.W.WRecords} {cl:Str->Option Addr} {d0:WData}
  (KX:K.In s₁.heap) (hns:s₁.heap.Ns mainGlobals mg) (hb:s₁.heap.Ns builtinsNs mb) (hbb: ∀x:Str,x≠"__name__"->mb x=bootBuiltins x) (hlim:s₁.heap.NoLimit) (hg:s₁.gens= #[])
  (hwl:WellAll w.params s₁.heap vals ds) (hpl:L8 ds=true) (hwt: ∀d∈ds,d.weight<=1048576) (hr:Room k callerA)
  (F: ∀base:Heap,K.In base->base.Ns mainGlobals mg->FnOk P w K mg base CX k fa fd ps sp) (hbind: ∀(s:Shared) (us:List Value),us.length=ps.length->BindsTo s fd ⟨us,[]⟩ (ps.zip us)) (hlen:ds.length=ps.length)
  (hsp: ∀(H:Hp) (xs:List V),OnlyF H->DwAll K H xs ds->sp xs H (fun v H'=>Dw K H' v d0) fun _ _ _=>False)
  (hCX: ∀H e s',CX [] H s₁ (fun _ _ _=>False) e s'->False):
  codeAny (model P w) callerA (.call (.ref fa) ⟨vals,[]⟩) (fun r s'=> ∃u as,r= .ok (.ret u)/\ReadsW R cl s'.heap u d0 as/\OldK s₁.heap s'.heap/\s'.os=s₁.os/\AllBare s'.gens) s₁:=by
 obtain⟨A,ho,ar⟩:=Hd ds vals hwl hpl hwt;have hO:OnlyF (C7 K s₁.heap A):=Ve ar;have hok:HOk P w (C7 K s₁.heap A) s₁.heap:=X8 ar;have hS:=Pq KX ar ds vals hwl hpl ho;have hV:=BU ho;have hK: ∀b u,C7 K s₁.heap A b=some u->K.lookup b=none:=fun b u q=>(Ly ar q).1
 have noA: ∀{b:Addr} {o:Obj} {es:Array DictEntry} {ep:Nat},s₁.heap.get? b=some o->o.data= .dict es ep->C7 K s₁.heap A b=none:=fun{b o es ep} e d=>by
  cases q:C7 K s₁.heap A b with
  |none=>rfl
  |some u=>
   obtain⟨_,vs,_,_,⟨e2,_⟩|⟨e2,_⟩⟩:=Ly ar q
   ·rw[e2] at e;cases e;have d':Data.seq vs.toArray _=Data.dict es ep:=d;cases d'
   ·rw[e2] at e;cases e;have d':Data.seq vs.toArray _=Data.dict es ep:=d;cases d'
 generalize C7 K s₁.heap A=H at hO hok hS hK noA;have base_of: ∀{b:Addr} {o:Obj},s₁.heap.get? b=some o->H b=none->(Q5 s₁.heap H).get? b=some o:=fun e n=>VA e n;have nsK: ∀{b:Addr} {m:Str->Option Value},s₁.heap.Ns b m->(Q5 s₁.heap H).Ns b m:=fun{b m} ⟨o,es,ep,e,d,r⟩=>⟨o,es,ep,base_of e (noA e d),d,r⟩
 have nK: ∀b o,K.lookup b=some o->H b=none:=fun b o e=>by
  cases q:H b with
  |none=>rfl
  |some u=>
   rw[hK b u q] at e;cases e
 have hKb:K.In (Q5 s₁.heap H):=fun b o e=>base_of (KX b o e) (nK b o e);have hM:Mod K mg (Q5 s₁.heap H):=⟨hKb,nsK hns,⟨mb,nsK hb,hbb⟩,let ⟨mc,h1,h2⟩:=hlim;⟨mc,nsK h1,h2⟩⟩;have e0:Env0 P w K mg (Q5 s₁.heap H) callerA [] s₁ H:=⟨rfl,hM,fun b o e=>WS e,Nat.le_of_eq (Tz _ _),trivial,fun b hb=>absurd (show b∈([]:List Addr) from hb) (by simp),hok, .of_eq hg⟩;have hl:vals.length=ps.length:=by rw[B1 hwl];exact hlen
 refine codeAny_mono ((F _ hKb (nsK hns)).run callerA [] s₁ H ⟨vals,[]⟩ vals (vals.map QH) _ _ hr e0 (hbind s₁ vals hl) hV (hsp H _ hO hS)) fun r s' x=>?_;cases r with
 |error e=>exact(hCX H e s' x).elim
 |ok fl=>
  cases fl with
  |next=>exact False.elim x
  |brk=>exact False.elim x
  |cont=>exact False.elim x
  |ret u=>
   obtain⟨v,H',os,bare,un,hok',r',q⟩:=x
   have kept: ∀b o,s₁.heap.get? b=some o->s'.heap.get? b=some o:=fun b o e=>by
    cases q2:H b with
    |none=>exact un.keep b o e q2 (by intro z;exact absurd (show b∈([]:List Addr) from z) (by simp)) (by simp)
    |some u2=>
     rcases hO b with z|⟨ob,u3,z⟩
     ·rw[q2] at z;cases z
     ·have z2:=un.frzs b ob _ z;obtain⟨e1,_⟩:=hok b _ z;obtain⟨e2,_⟩:=hok' b _ z2;rw[e] at e1;cases e1;exact e2
   have KX':K.In s'.heap:=fun b o e=>kept b o (KX b o e);obtain⟨as,hrd⟩:=Dw.reads (R:=R) (cl:=cl) hok' KX' d0 v u q r';exact⟨u,as,rfl,hrd,OldK.of_keep kept,os,bare⟩
theorem ME {ds:List WData} (h:WData.layableAll ds=true): ∀d∈ds,d.weight<=1048576:=fun d hd=>
 (PySem.W.layableW_iff.mp (List.all_eq_true.mp h d hd)).2.2
theorem LM: ∀(cs:List Codec) (a:Codec.denoteAll cs),(Codec.encAll cs a).length=cs.length
 |[],_=>rfl
 |c::cs,a=>by
  show(Codec.encAll cs a.2).length+1=cs.length+1;rw[LM cs a.2]
theorem V8 {r:OpenSpec} {k:Nat} {q:Program} {loose:List Str} {XP:(Str->Option Value)->Heap->Prop} {YP:World->Heap->Prop} {d:DefRec} {K:Params->PySem.W.Frag} {CX:World->CXT} {ps:List Str} {sp:World->Sp}
  (hwell:r.wellSaid=true) (hdf:d.params.defaults=[]) (hlen:r.args.length=ps.length) (hr:Room k callerA)
  (hY: ∀(w:World) (h:Heap),YP w h->(K w.params).In h)
  (F: ∀(w:World) (mg:Str->Option Value) (fa:Addr) (h:Heap),YP w h->(K w.params).In h->h.Ns mainGlobals mg->mg d.name=some (.ref fa)->
    ∃fd:FuncData,(∀(s:Shared) (us:List Value),us.length=ps.length->BindsTo s fd ⟨us,[]⟩ (ps.zip us))/\
     ∀base:Heap,(K w.params).In base->base.Ns mainGlobals mg->FnOk r.prog w (K w.params) mg base (CX w) k fa fd ps (sp w))
  (hsp: ∀(w:World) (H:Hp) (xs:List V) (a:Codec.denoteAll r.args),OnlyF H->Codec.withinAll r.args a=true->Codec.app r.args r.asked a=true->DwAll (K w.params) H xs (Codec.encAll r.args a)->
    sp w xs H (fun v H'=>Dw (K w.params) H' v (r.ret.enc (Codec.app r.args r.f a))) fun _ _ _=>False)
  (hCX: ∀(w:World) (H:Hp) (s:Shared) (e:Value) (s':Shared),CX w [] H s (fun _ _ _=>False) e s'->False):
  PySem.W.WalkOS q loose XP YP r d [] (fun f vs=>PySem.call f vs):=by
 intro w s_0 s₁ mg mb G Y fa o pm cd doc dV kV ho hd hcd hD hmg hg args vals as hpre hlay hrd hwl hlo;obtain⟨a,e1,e2⟩:=PySem.W.os_pre_some hpre;obtain⟨e3,hwi⟩:=Codec.encAll_of_decAll r.args args a e1;subst e3;have KX:=hY w _ Y;obtain⟨fd,hb,hF⟩:=F w mg fa _ Y KX G.T.g hmg
 refine PySem.W.enter_call (codeAny_mono (V0 (R:=[]) (cl:=classAt s_0.heap) (d0:=r.ret.enc (Codec.app r.args r.f a)) KX G.T.g G.T.b G.T.builtins G.T.nolimit hg hwl (OQ _ _) (ME hlay) hr hF hb (by rw[LM];exact hlen)
  (fun H xs hO hS=>hsp w H xs a hO hwi e2 hS) fun H e s'=>hCX w H s₁ e s') fun r' s' hq=>?_)
 obtain⟨u,as',rfl,h1,h2,h3,h4⟩:=hq;exact⟨.inl ⟨u,_,as',rfl,fun _=>rfl,h1,(OpenSpec.post_iff hwell hwi _ _).mpr rfl,fun z=>Bool.noConfusion (show false=true from z)⟩,h2,h3,h4⟩
theorem SC {r:OpenSpec} {k:Nat} {q:Program} {loose:List Str} {XP:(Str->Option Value)->Heap->Prop} {YP:World->Heap->Prop} {d:DefRec} {K:Params->PySem.W.Frag} {CX:CXT} {ps:List Str} {sp:PySem.W.Frag->Sp}
  (hwell:r.wellSaid=true) (hdf:d.params.defaults=[]) (hlen:r.args.length=ps.length) (hr:Room k callerA)
  (hY: ∀(w:World) (h:Heap),YP w h->(K w.params).In h)
  (F: ∀(w:World) (mg:Str->Option Value) (fa:Addr) (h:Heap),YP w h->(K w.params).In h->h.Ns mainGlobals mg->mg d.name=some (.ref fa)->
    ∃fd:FuncData,(∀(s:Shared) (us:List Value),us.length=ps.length->BindsTo s fd ⟨us,[]⟩ (ps.zip us))/\
     ∀base:Heap,(K w.params).In base->base.Ns mainGlobals mg->FnOk r.prog w (K w.params) mg base CX k fa fd ps (sp (K w.params)))
  (hsp: ∀(K:PySem.W.Frag) (H:Hp) (xs:List V) (a:Codec.denoteAll r.args),OnlyF H->Codec.withinAll r.args a=true->Codec.app r.args r.asked a=true->DwAll K H xs (Codec.encAll r.args a)->
    sp K xs H (fun v H'=>Dw K H' v (r.ret.enc (Codec.app r.args r.f a))) fun _ _ _=>False)
  (hCX: ∀(H:Hp) (s:Shared) (e:Value) (s':Shared),CX [] H s (fun _ _ _=>False) e s'->False):
  PySem.W.WalkOS q loose XP YP r d [] (fun f vs=>PySem.call f vs):=
 V8 (K:=K) (CX:=fun _=>CX) (sp:=fun w=>sp (K w.params)) hwell hdf hlen hr hY F (fun w H xs a h1 h2 h3 h4=>hsp (K w.params) H xs a h1 h2 h3 h4) fun _ H s e s'=>hCX H s e s'
end L2
end
namespace Pf
open PySem PySem.Spec PyProof.Rows L2
def NG (K:PySem.W.Frag):List V->Hp->VK->Prop:=fun xs H Q=> ∃p ys,xs=[.ref p]/\(SqL K H p ys∨SqT K H p ys)/\Q (.int ys.length) H
def J0B:List V->Hp->VK->Prop:=fun xs H Q=> ∃a kvs,xs=[V.ref a]/\H a=some (.dK kvs)/\Q (.int kvs.length) H
def J19:List V->Hp->VK->Prop:=fun xs H Q=> ∃i,xs=[.int i]/\Q (.int (if i<0 then-i else i)) H
def J0C (K:PySem.W.Frag):List V->Hp->VK->Prop:=fun xs H Q=> ∃p ys,xs=[.ref p]/\(SqL K H p ys∨SqT K H p ys)/\ ∀l,H l=none->Q (.ref l) (upd H l (.lst ys))
def J1h:List V->Hp->VK->Prop:=fun xs H Q=>(∃i,xs=[.int i]/\Q (.int i) H)∨ ∃k,xs=[.bl k]/\Q (.int (if k then 1 else 0)) H
def J0F:List V->Hp->VK->Prop:=fun xs H Q=> ∃i j,xs=[.int i, .int j]/\Q (.int (if j<i then j else i)) H
def J1x (K:PySem.W.Frag) (ta:TE):TT:=fun σ H Q=>ta σ H fun x H'=> ∃k,TruV K x H' k/\Q k H'
section
variable {X:Cx}
theorem Ju:CallR X (.builtin "len") (NG X.K):=PP
theorem WK:CallR X (.builtin "len") J0B:=TZ
theorem XT:CallR X (.builtin "abs") J19:=Wz
theorem WV:CallR X (.type "list") (J0C X.K):=PN
theorem MH:CallR X (.type "int") J1h:=Ts
theorem Xd (hc:X.calm=true):CallR X (.builtin "min") J0F:=TJ hc
theorem Js:bootBuiltins "len"=some (.builtin "len"):=by decide+kernel
theorem J06:bootBuiltins "abs"=some (.builtin "abs"):=by decide+kernel
theorem Fw:bootBuiltins "sum"=some (.builtin "sum"):=by decide+kernel
theorem MU:bootBuiltins "all"=some (.builtin "all"):=by decide+kernel
theorem Vw:bootBuiltins "min"=some (.builtin "min"):=by decide+kernel
theorem Lx:bootBuiltins "list"=some (.type "list"):=by decide+kernel
theorem LQ:bootBuiltins "int"=some (.type "int"):=by decide+kernel
theorem Hi:PGet X (Hs X.K):=by
 intro pins s σ H o i ov iv Q I ro ri h;obtain⟨p,xs,k,z,rfl,rfl,hq,he,q⟩:=h;cases ro;obtain⟨t,rfl⟩:=ri;obtain⟨its,r,pl,hz⟩:=I.list hq;obtain⟨j,h1,h2,h3,h4,h5⟩:=Py he;obtain⟨w,ew,rw'⟩:=r.get h2;have hl:=r.length;have hn:=Iu;have fin:EP X pins σ Q w s:=⟨z,H,I,rw',q⟩;by_cases h0:0<=k
 ·have hj:k.toNat=j:=by
   rw[seqIndex_of h0 h5] at h1;exact Option.some.inj h1
  exact wpAny_getItem_list pl.isList h0 (by omega) (by rw[hj];simpa using ew) fin
 ·have hj:(k+(its.toArray.size:Int)).toNat=j:=by
   rw[seqIndex_neg (by omega) h4] at h1;rw[List.size_toArray,<-hl];exact Option.some.inj h1
  exact wpAny_getItem_list_neg pl.isList (by omega) (by rw[List.size_toArray]<;>omega) (by omega) (by rw[hj];simpa using ew) fin
end
theorem Px {K:PySem.W.Frag} {a b:Addr} {xs ys:List V} {g:TG} {tb:TS} {D:Ends} {σ:L2.St} {H:Hp} (Pv:Nat->L2.St->Hp->Prop) (h0:Pv 0 σ H)
  (hl: ∀i σ H,Pv i σ H->SqL K H a xs/\SqL K H b ys)
  (hs: ∀i x y σ H Tp,xs[i]?=some x->ys[i]?=some y->H Tp=none->Pv i σ H->g (.ref Tp) σ (upd H Tp (.tup [x,y])) fun σ2 H2=>tb {D with nx:=Pv (i+1),ct:=Pv (i+1),bk:=D.nx} σ2 H2)
  (hd: ∀σ H,Pv (min xs.length ys.length) σ H->D.nx σ H):
  ∃W:Nat->Nat->L2.St->Hp->Prop,(∃m,W 0 m σ H)/\ ∀i m σ H,W i m σ H->
   ((Itz K a b).stop i H/\D.nx σ H)∨((Itz K a b).go i H/\ ∃N:L2.St->Hp->Prop,(∀σ' H',N σ' H'-> ∃m',m'<m/\W (i+1) m' σ' H')/\ ∀x H',(Itz K a b).yld i H x H'->g x σ H' fun σ2 H2=>tb {D with nx:=N,ct:=N,bk:=D.nx} σ2 H2):=by
 refine⟨fun i m σ H=>m=min xs.length ys.length-i/\i<=min xs.length ys.length/\Pv i σ H,⟨_,rfl,Nat.zero_le _,h0⟩,?_⟩;rintro i m σ H ⟨rfl,hi,p⟩;obtain⟨q1,q2⟩:=hl i σ H p;by_cases hlt:i<min xs.length ys.length
 ·have l1:i<xs.length:=by omega
  have l2:i<ys.length:=by omega
  refine .inr ⟨⟨xs,ys,xs[i],ys[i],q1,q2,by simp[l1],by simp[l2]⟩,Pv (i+1),fun σ' H' p'=>⟨min xs.length ys.length-(i+1),by omega,rfl,by omega,p'⟩,fun v H' y=>?_⟩;obtain⟨Tp,x,z,e1,e2,e3,e4,e5⟩:=y;subst e1 e3;exact hs i x z σ _ Tp (e4 xs q1) (e5 ys q2) e2 p
 ·have e:i=min xs.length ys.length:=by omega
  subst e;exact .inl ⟨⟨xs,ys,q1,q2,by omega⟩,hd σ H p⟩
theorem GC {K:PySem.W.Frag} {a:Addr} {xs:List V} {g:TG} {tb:TS} {D:Ends} {σ:L2.St} {H:Hp} (Pv:Nat->L2.St->Hp->Prop) (h0:Pv 0 σ H)
  (hl: ∀i σ H,Pv i σ H->SqL K H a xs)
  (hs: ∀i x σ H Tp,xs[i]?=some x->H Tp=none->Pv i σ H->g (.ref Tp) σ (upd H Tp (.tup [.int (i:Nat),x])) fun σ2 H2=>tb {D with nx:=Pv (i+1),ct:=Pv (i+1),bk:=D.nx} σ2 H2)
  (hd: ∀σ H,Pv xs.length σ H->D.nx σ H):
  ∃W:Nat->Nat->L2.St->Hp->Prop,(∃m,W 0 m σ H)/\ ∀i m σ H,W i m σ H->
   ((Ite K a).stop i H/\D.nx σ H)∨((Ite K a).go i H/\ ∃N:L2.St->Hp->Prop,(∀σ' H',N σ' H'-> ∃m',m'<m/\W (i+1) m' σ' H')/\ ∀x H',(Ite K a).yld i H x H'->g x σ H' fun σ2 H2=>tb {D with nx:=N,ct:=N,bk:=D.nx} σ2 H2):=by
 refine⟨fun i m σ H=>m=xs.length-i/\i<=xs.length/\Pv i σ H,⟨_,rfl,Nat.zero_le _,h0⟩,?_⟩;rintro i m σ H ⟨rfl,hi,p⟩;have q1:=hl i σ H p;by_cases hlt:i<xs.length
 ·refine .inr ⟨⟨xs,xs[i],q1,by simp[hlt]⟩,Pv (i+1),fun σ' H' p'=>⟨xs.length-(i+1),by omega,rfl,by omega,p'⟩,fun v H' y=>?_⟩;obtain⟨Tp,x,e1,e2,e3,e4⟩:=y;subst e1 e3;exact hs i x σ _ Tp (e4 xs q1) e2 p
 ·have e:i=xs.length:=by omega
  subst e;exact .inl ⟨⟨xs,q1,by omega⟩,hd σ H p⟩
theorem Xq {K:PySem.W.Frag} {a:Addr} {xs:List V} {g:TG} {tb:TS} {D:Ends} {σ:L2.St} {H:Hp} (Pv:Nat->L2.St->Hp->Prop) (h0:Pv 0 σ H)
  (hl: ∀i σ H,Pv i σ H->SqL K H a xs)
  (hs: ∀i x σ H,i<xs.length->xs[xs.length-1-i]?=some x->Pv i σ H->g x σ H fun σ2 H2=>tb {D with nx:=Pv (i+1),ct:=Pv (i+1),bk:=D.nx} σ2 H2)
  (hd: ∀σ H,Pv xs.length σ H->D.nx σ H):
  ∃W:Nat->Nat->L2.St->Hp->Prop,(∃m,W 0 m σ H)/\ ∀i m σ H,W i m σ H->
   ((Itv K a xs.length).stop i H/\D.nx σ H)∨((Itv K a xs.length).go i H/\ ∃N:L2.St->Hp->Prop,(∀σ' H',N σ' H'-> ∃m',m'<m/\W (i+1) m' σ' H')/\ ∀x H',(Itv K a xs.length).yld i H x H'->g x σ H' fun σ2 H2=>tb {D with nx:=N,ct:=N,bk:=D.nx} σ2 H2):=by
 refine⟨fun i m σ H=>m=xs.length-i/\i<=xs.length/\Pv i σ H,⟨_,rfl,Nat.zero_le _,h0⟩,?_⟩;rintro i m σ H ⟨rfl,hi,p⟩;have q1:=hl i σ H p;by_cases hlt:i<xs.length
 ·have l2:xs.length-1-i<xs.length:=by omega
  refine .inr ⟨⟨hlt,xs,xs[xs.length-1-i],q1,by simp[l2]⟩,Pv (i+1),fun σ' H' p'=>⟨xs.length-(i+1),by omega,rfl,by omega,p'⟩,fun v H' y=>?_⟩;obtain⟨e1,e2⟩:=y;subst e1;exact hs i v σ _ hlt (e2 xs q1) p
 ·have e:i=xs.length:=by omega
  subst e;exact .inl ⟨Nat.le_refl _,hd σ H p⟩
theorem Sz {K:PySem.W.Frag} {a b:Addr} {xs ys:List V} {g:TG} {tt:TT} {te:TE} {vs:List Nat} {σ:L2.St} {H1:Hp} {D:Addr} {Qd:Hp->Prop} (Pv:Nat->Hp->Prop) (h0:Pv 0 (upd H1 D (.lst []))) (hl: ∀i H,Pv i H->SqL K H a xs/\SqL K H b ys)
  (hs: ∀i x y H Tp,xs[i]?=some x->ys[i]?=some y->H Tp=none->Pv i H->g (.ref Tp) (Zb σ vs) (upd H Tp (.tup [x,y])) fun σ2 H2=>Zb σ2 vs=Zb σ vs/\tt σ2 H2 fun b H3=>
    if b=true then te σ2 H3 fun y H4=> ∃acc,H4 D=some (.lst acc)/\acc.length<sizeLine/\Pv (i+1) (upd H4 D (.lst (acc++[y]))) else Pv (i+1) H3) (hd: ∀H,Pv (min xs.length ys.length) H->Qd H):
  ∃W:Nat->Nat->Hp->Prop,(∃m,W 0 m (upd H1 D (.lst [])))/\ ∀i m H,W i m H->
   ((Itz K a b).stop i H/\Qd H)∨((Itz K a b).go i H/\ ∃Nx:Hp->Prop,(∀H',Nx H'-> ∃m',m'<m/\W (i+1) m' H')/\ ∀x H',(Itz K a b).yld i H x H'->g x (Zb σ vs) H' fun σ2 H2=>Zb σ2 vs=Zb σ vs/\tt σ2 H2 fun b H3=>
    if b=true then te σ2 H3 fun y H4=> ∃acc,H4 D=some (.lst acc)/\acc.length<sizeLine/\Nx (upd H4 D (.lst (acc++[y]))) else Nx H3):=by
 refine⟨fun i m H=>m=min xs.length ys.length-i/\i<=min xs.length ys.length/\Pv i H,⟨_,rfl,Nat.zero_le _,h0⟩,?_⟩;rintro i m H ⟨rfl,hi,p⟩;obtain⟨q1,q2⟩:=hl i H p;by_cases hlt:i<min xs.length ys.length
 ·have l1:i<xs.length:=by omega
  have l2:i<ys.length:=by omega
  refine .inr ⟨⟨xs,ys,xs[i],ys[i],q1,q2,by simp[l1],by simp[l2]⟩,Pv (i+1),fun H' p'=>⟨min xs.length ys.length-(i+1),by omega,rfl,by omega,p'⟩,fun v H' y=>?_⟩;obtain⟨Tp,x,z,e1,e2,e3,e4,e5⟩:=y;subst e1 e3;exact hs i x z _ Tp (e4 xs q1) (e5 ys q2) e2 p
 ·have e:i=min xs.length ys.length:=by omega
  subst e;exact .inl ⟨⟨xs,ys,q1,q2,by omega⟩,hd H p⟩
theorem T6 {K:PySem.W.Frag} {a:Addr} {xs:List V} {g:TG} {tt:TT} {te:TE} {vs:List Nat} {σ:L2.St} {H1:Hp} {D:Addr} {Qd:Hp->Prop} (Pv:Nat->Hp->Prop) (h0:Pv 0 (upd H1 D (.lst []))) (hl: ∀i H,Pv i H->SqL K H a xs)
  (hs: ∀i x H Tp,xs[i]?=some x->H Tp=none->Pv i H->g (.ref Tp) (Zb σ vs) (upd H Tp (.tup [.int (i:Nat),x])) fun σ2 H2=>Zb σ2 vs=Zb σ vs/\tt σ2 H2 fun b H3=>
    if b=true then te σ2 H3 fun y H4=> ∃acc,H4 D=some (.lst acc)/\acc.length<sizeLine/\Pv (i+1) (upd H4 D (.lst (acc++[y]))) else Pv (i+1) H3) (hd: ∀H,Pv xs.length H->Qd H):
  ∃W:Nat->Nat->Hp->Prop,(∃m,W 0 m (upd H1 D (.lst [])))/\ ∀i m H,W i m H->
   ((Ite K a).stop i H/\Qd H)∨((Ite K a).go i H/\ ∃Nx:Hp->Prop,(∀H',Nx H'-> ∃m',m'<m/\W (i+1) m' H')/\ ∀x H',(Ite K a).yld i H x H'->g x (Zb σ vs) H' fun σ2 H2=>Zb σ2 vs=Zb σ vs/\tt σ2 H2 fun b H3=>
    if b=true then te σ2 H3 fun y H4=> ∃acc,H4 D=some (.lst acc)/\acc.length<sizeLine/\Nx (upd H4 D (.lst (acc++[y]))) else Nx H3):=by
 refine⟨fun i m H=>m=xs.length-i/\i<=xs.length/\Pv i H,⟨_,rfl,Nat.zero_le _,h0⟩,?_⟩;rintro i m H ⟨rfl,hi,p⟩;have q1:=hl i H p;by_cases hlt:i<xs.length
 ·refine .inr ⟨⟨xs,xs[i],q1,by simp[hlt]⟩,Pv (i+1),fun H' p'=>⟨xs.length-(i+1),by omega,rfl,by omega,p'⟩,fun v H' y=>?_⟩;obtain⟨Tp,x,e1,e2,e3,e4⟩:=y;subst e1 e3;exact hs i x _ Tp (e4 xs q1) e2 p
 ·have e:i=xs.length:=by omega
  subst e;exact .inl ⟨⟨xs,q1,by omega⟩,hd H p⟩
end Pf
namespace Pf
open PySem PySem.Spec PyProof.Rows L2
def FK (r:Addr) (a b c:Int):HO:= .ext (fun h=> ∃t u v,IsRange h r a b c t u v)
def XC:List V->Hp->VK->Prop:=fun xs H Q=> ∃j:Int,xs=[.int j]/\ ∀r,H r=none->Q (.ref r) (upd H r (FK r 0 j 1))
def Xu:List V->Hp->VK->Prop:=fun xs H Q=> ∃i j c:Int,xs=[.int i, .int j, .int c]/\c≠0/\c.natAbs<1073741824/\ ∀r,H r=none->Q (.ref r) (upd H r (FK r i j c))
def Mt:List V->Hp->VK->Prop:=fun xs H Q=> ∃(r:Addr) (a b c:Int) (n:Nat),xs=[.ref r]/\H r=some (FK r a b c)/\Builtin.Range.small a b c=true/\Builtin.Range.rangeSize a b c=n/\n<=100000/\
 ∀l,H l=none->Q (.ref l) (upd H l (.lst (((List.range n).map (fun i:Nat=>a+(i:Int)*c)).map V.int)))
section
variable {X:Cx}
theorem VU {P:Program} {w:World} {H:Hp} {h:Heap} {a b c:Int} {t u v:Tok}:ObjOk P w H (h.push {cls:= .type "range",data:= .fields #[.int a t, .int b u, .int c v]}) h.objs.size (FK h.objs.size a b c):=
 ⟨⟨t,u,v,IsRange.new ..⟩,⟨_,Heap.get?_push_size _ rfl⟩,fun h1 h2 ⟨t,u,v,q⟩ k=>⟨t,u,v,k _ q⟩⟩
theorem P9:CallR X (.type "range") XC:=by
 intro pins s σ H xs us Q I r h;obtain⟨j,rfl,q⟩:=h;obtain⟨u,rfl,t,rfl⟩:=Fe r;refine call_range_1 ?_;exact⟨.ref s.heap.objs.size,_,I.laid (fun b u e=>Heap.get?_push_of_some _ e) (Nat.le_refl _) VU,rfl,q _ (I.hok.fresh (Nat.le_refl _))⟩
theorem Tt:CallR X (.type "range") Xu:=by
 intro pins s σ H xs us Q I r h;obtain⟨i,j,c,rfl,c0,c1,q⟩:=h;cases r with
 |cons r rr=>
  cases rr with
  |cons r' rr=>
   cases rr with
   |cons r'' rr=>
    cases rr;obtain⟨t,rfl⟩:=r;obtain⟨t',rfl⟩:=r';obtain⟨t'',rfl⟩:=r'';refine call_range_3 c0 ?_ (.inl (PyProof.noPylong_small c1));exact⟨.ref s.heap.objs.size,_,I.laid (t':=s.toks) (fun b u e=>Heap.get?_push_of_some _ e) (Nat.le_refl _) VU,rfl,q _ (I.hok.fresh (Nat.le_refl _))⟩
theorem Sx {F:Nat->Int} {n:Nat} {acc:Array Value} (h:ItemsOf (fun i v=> ∃t,v= .int (F i) t) acc n):Vals (((List.range n).map F).map V.int) acc.toList:=by
 obtain⟨h1,h2⟩:=h
 have go: ∀(l:List Value) (G:Nat->Int) (n:Nat),l.length=n->(∀j v,l[j]?=some v-> ∃t,v=Value.int (G j) t)->Vals (((List.range n).map G).map V.int) l:=by
  intro l
  induction l with
  |nil=>intro G n hn _;subst hn;exact .nil
  |cons a l ih=>
   intro G n hn hv;subst hn;rw[List.length_cons,List.range_succ_eq_map,List.map_cons,List.map_cons];refine .cons (hv 0 a rfl) ?_;have:=ih (fun j=>G (j+1)) l.length rfl (fun j v e=>hv (j+1) v (by simpa using e));rw[List.map_map,List.map_map];rw[List.map_map] at this;exact this
 exact go acc.toList F n (by simp[h1]) (fun j v e=>h2 j v (by simpa using e))
theorem FU (hc:X.calm=true):CallR X (.type "list") Mt:=by
 intro pins s σ H xs us Q I rr h;obtain⟨r,a,b,c,n,rfl,hr,hs,hn,hl,q⟩:=h;obtain⟨u,rfl,rx⟩:=Fe rr;cases rx;obtain⟨⟨t,u,v,ir⟩,_,_⟩:=I.hok r _ hr;refine call_list_range (I.ok.hd hc) ir hs hn (by omega) fun h' tk acc' c' hk hS' hacc=>?_;refine⟨.ref s.heap.objs.size,_,I.laid (o:= .lst (((List.range n).map (fun i:Nat=>a+(i:Int)*c)).map V.int)) hk (Nat.le_refl _) ?_,rfl,q _ (I.hok.fresh (Nat.le_refl _))⟩;refine⟨?_,acc'.toList,c',Sx hacc,by simpa using hS'⟩;rw[List.length_map,List.length_map,List.length_range,sizeLine_eq];omega
theorem Mf:bootBuiltins "range"=some (.type "range"):=by decide+kernel
end
end Pf
namespace Pf
open PySem PySem.Spec PyProof.Rows L2
def J1c (K:PySem.W.Frag):List V->Hp->VK->Prop:=fun xs H Q=> ∃(p:Addr) (ns:List Int),xs=[.ref p]/\SqL K H p (ns.map V.int)/\ns.length<=1000/\
 ∀(l:Addr) (S:Int->Bool),H l=none->Q (.ref l) (upd H l (.set S (firstMet (fun i=>ns.getD i 0) ns.length).length))
def J0x:List V->Hp->VK->Prop:=fun xs H Q=> ∃(p:Addr) (S:Int->Bool) (n:Nat),xs=[.ref p]/\H p=some (.set S n)/\Q (.int n) H
section
variable {X:Cx}
theorem XN (hc:X.calm=true):CallR X (.type "set") (J1c X.K):=by
 intro pins s σ H xs us Q I rr h;obtain⟨p,ns,rfl,hq,hl,q⟩:=h;obtain⟨u,rfl,rx⟩:=Fe rr;cases rx;obtain⟨its,rv,pl,hz⟩:=I.list hq;have hlen:=rv.length;rw[List.length_map] at hlen;have hsz:its.toArray.size=ns.length:=by rw[List.size_toArray];exact hlen.symm
 refine call_set_list (I.ok.hd hc) pl.isList (SH (by simpa using rv)) (by rw[hsz];show ns.length+1<4096;omega) fun h' tk hS hk=>?_;rw[hsz] at hS;refine⟨.ref s.heap.objs.size,_,I.laid (t':=tk) (o:= .set _ _) (fun b o e=>hk b o (Heap.lt_size e) e) (Nat.le_refl _) hS,rfl,q _ _ (I.hok.fresh (Nat.le_refl _))⟩
theorem WT:CallR X (.builtin "len") J0x:=by
 intro pins s σ H xs us Q I rr h;obtain⟨p,S,n,rfl,hp,q⟩:=h;obtain⟨u,rfl,rx⟩:=Fe rr;cases rx;obtain⟨o,es,ep,t,h1,h2,h3,h4,h5,h6,h7,h8⟩:=I.hok p _ hp;subst h8;refine call_len_set h1 h2 h3 h7 (by have:scanBound=4096:=rfl;omega) ?_;exact⟨.int es.size,H,I.tok _,⟨_,rfl⟩,q⟩
theorem J0e:bootBuiltins "set"=some (.type "set"):=by decide+kernel
end
theorem Gw (l:List Int):(firstMet (fun i=>l.getD i 0) l.length).length=l.length↔l.Nodup:=by
 have e:(List.range l.length).map (fun i=>l.getD i 0)=l:=by
  apply List.ext_getElem (by simp);intro i h1 h2;simp[List.getD_eq_getElem?_getD,List.getElem?_eq_getElem h2]
 unfold firstMet;rw[e]
 have go: ∀(l acc:List Int),(l.foldl step_dedup acc).length<=acc.length+l.length/\((l.foldl step_dedup acc).length=acc.length+l.length↔l.Nodup/\ ∀x∈l,x∉acc):=by
  intro l
  induction l with
  |nil=>intro acc;exact⟨by simp,by simp⟩
  |cons a l ih=>
   intro acc;rw[List.foldl_cons];by_cases h:acc.any (· ==a)=true
   ·rw[show step_dedup acc a=acc by unfold step_dedup;rw[if_pos h]]
    have hm:a∈acc:=by
     rw[List.any_eq_true] at h;obtain⟨x,hx,e⟩:=h;rw[<-beq_iff_eq.mp e];exact hx
    obtain⟨i1,i2⟩:=ih acc;refine⟨by rw[List.length_cons];omega,⟨fun q=>?_,fun q=>absurd hm (q.2 a List.mem_cons_self)⟩⟩;rw[List.length_cons] at q;have i1':(l.foldl step_dedup acc).length<=acc.length+l.length:=i1;have q':(l.foldl step_dedup acc).length=acc.length+(l.length+1):=q;omega
   ·rw[show step_dedup acc a=acc++[a] by unfold step_dedup;rw[if_neg h]];have hm:a∉acc:=fun z=>h (List.any_eq_true.mpr ⟨a,z,by simp⟩);obtain⟨i1,i2⟩:=ih (acc++[a]);rw[List.length_append,List.length_singleton] at i1 i2;refine⟨by rw[List.length_cons];have:(l.foldl step_dedup (acc++[a])).length<=acc.length+1+l.length:=i1;exact Nat.le_trans this (by omega),?_⟩;rw[List.length_cons,show acc.length+(l.length+1)=acc.length+1+l.length by omega];refine Iff.trans i2 ?_;rw[List.nodup_cons];constructor
    ·rintro⟨h1,h2⟩;refine⟨⟨fun z=>(h2 a z) (by simp),h1⟩,fun x hx=>?_⟩;rcases List.mem_cons.mp hx with q|q
     ·rw[q];exact hm
     ·exact fun z=>h2 x q (by simp[z])
    ·rintro⟨⟨h1,h2⟩,h3⟩;refine⟨h2,fun x hx=>?_⟩;rw[List.mem_append,List.mem_singleton];rintro(z|z)
     ·exact h3 x (List.mem_cons_of_mem _ hx) z
     ·rw[z] at hx;exact h1 hx
 have:=(go l []).2;rw[List.length_nil,Nat.zero_add] at this;rw[this];simp
theorem NP (l:List Nat):(l.eraseDups.length==l.length)=decide l.Nodup:=by
 have sub: ∀(l:List Nat),l.eraseDups.length<=l.length:=by
  intro l
  induction hn:l.length using Nat.strongRecOn generalizing l with
  |_ n ih=>
   cases l with
   |nil=>simp
   |cons a l=>
    rw[List.eraseDups_cons,List.length_cons];have h1:=List.length_filter_le (fun b=>!b==a) l;have:=ih (l.filter (fun b=>!b==a)).length (by rw[<-hn,List.length_cons];omega) _ rfl;rw[List.length_cons] at hn;omega
 have go: ∀(l:List Nat),l.eraseDups.length=l.length↔l.Nodup:=by
  intro l
  induction l with
  |nil=>simp
  |cons a l ih=>
   rw[List.eraseDups_cons,List.length_cons,List.length_cons,List.nodup_cons];have h1:=List.length_filter_le (fun b=>!b==a) l;have h2:=sub (l.filter (fun b=>!b==a));constructor
   ·intro h;have h3:(l.filter (fun b=>!b==a)).length=l.length:=by omega
    have h4:l.filter (fun b=>!b==a)=l:=(List.length_filter_eq_length_iff.mp h3|>List.filter_eq_self.mpr);rw[h4] at h;refine⟨fun z=>?_,ih.mp (by omega)⟩;have:=List.filter_eq_self.mp h4 a z;simp at this
   ·rintro⟨h,hn⟩
    have h4:l.filter (fun b=>!b==a)=l:=List.filter_eq_self.mpr (fun b hb=>by
     have:b≠a:=fun z=>h (z▸hb);simp[this])
    rw[h4,ih.mpr hn]
 by_cases h:l.Nodup
 ·rw[decide_eq_true h,beq_iff_eq];exact(go l).mpr h
 ·rw[decide_eq_false h];exact beq_eq_false_iff_ne.mpr (fun z=>h ((go l).mp z))
end Pf
namespace L2
open PySem PySem.Spec PyProof.Rows
def RowsIn (K:PySem.W.Frag):List DictEntry->List (Int×List Int)->Prop
 |[],[]=>True
 |e::es,r::rs=>(∃t,e.key= .int r.1 t)/\e.hash=hashInt r.1/\(∃c o its n,e.val= .ref c/\K.lookup c=some o/\o.cls= .type "tuple"/\o.data= .seq its n/\its.size<=100/\Vals (r.2.map V.int) its.toList)/\RowsIn K es rs
 |_,_=>False
def KdOk (K:PySem.W.Frag) (a:Addr) (rows:List (Int×List Int)):Prop:= ∃es ep,K.lookup a=some ⟨.type "dict",none, .dict es ep, #[]⟩/\RowsIn K es.toList rows
def tKD (K:PySem.W.Frag) (rows:List (Int×List Int)) (ty:TE):TE:=fun σ H Q=>ty σ H fun y H1=> ∃i l,y= .int i/\rows.lookup i=some l/\ ∀c,(∀H2,SqT K H2 c (l.map V.int))->Q (.ref c) H1
theorem KG {K:PySem.W.Frag}: ∀{es:List DictEntry} {rows:List (Int×List Int)},RowsIn K es rows-> ∀e∈es,∃k t,e.key= .int k t/\e.hash=hashInt k
 |[],_,_,e,he=>nomatch he
 |_::_,[],h,_,_=>nomatch h
 |e0::es,r::rs,⟨⟨t,h1⟩,h2,_,h4⟩,e,he=>by
  rcases List.mem_cons.mp he with rfl|he
  ·exact⟨_,t,h1,h2⟩
  ·exact KG h4 e he
theorem OG {K:PySem.W.Frag} {i:Int} {l:List Int}: ∀{es:List DictEntry} {rows:List (Int×List Int)},RowsIn K es rows->rows.lookup i=some l-> ∃c,(es.find? fun e=>Value.isInt i e.key).map (·.val)=some (.ref c)/\ ∀H,SqT K H c (l.map V.int)
 |[],[],_,h=>nomatch h
 |[],_::_,h,_=>nomatch h
 |_::_,[],h,_=>nomatch h
 |e0::es,r::rs,⟨⟨t,h1⟩,h2,⟨c,o,its,n,v1,v2,v3,v4,v5,v6⟩,h4⟩,h=>by
  by_cases q:i=r.1
  ·rw[List.lookup_cons,q,beq_self_eq_true] at h;cases h;refine⟨c,?_,fun H=> .inr ⟨o,its,n,v2,v3,v4,Nat.le_trans v5 (by decide),v6⟩⟩;rw[List.find?_cons,h1,q];have:Value.isInt r.1 (Value.int r.1 t)=true:=by simp[Value.isInt]
   rw[this];show some e0.val=_;rw[v1]
  ·have b:(i==r.1)=false:=beq_eq_false_iff_ne.mpr q;rw[List.lookup_cons,b] at h;obtain⟨c,e1,e2⟩:=OG h4 h;refine⟨c,?_,e2⟩;rw[List.find?_cons,h1]
   have:Value.isInt i (Value.int r.1 t)=false:=by
    simp[Value.isInt];exact fun z=>q z.symm
   rw[this];exact e1
section
variable {X:Cx} {o i:Expr} {pos:Pos} {ty:TE}
theorem W4 {a:Addr} {rows:List (Int×List Int)} (hk:KdOk X.K a rows) (ho:PE X o (tC (.ref a))) (hi:PE X i ty) (hs:NoSl i):PE X (.Subscript o i pos) (tKD X.K rows ty):=by
 intro pins s σ H Q I h;refine SN PySem.F.slot_dict_getitem.lookup hs (Yz (ho pins s σ H (fun x H1=>x= .ref a/\H1=H) I ⟨rfl,rfl⟩) fun u s1 ⟨x,H1,I1,rx,ex,eh⟩=>?_);subst ex eh;obtain rfl:u=Value.ref a:=rx;refine Yz (hi pins s1 σ H1 _ I1 h) fun iv s2 ⟨y,H2,I2,ry,i,l,ey,hl,q⟩=>?_;subst ey;obtain⟨es,ep,e1,e2⟩:=hk;obtain⟨c,f1,f2⟩:=OG e2 hl
 have hm:s2.heap.MapOf (intKind X.prog X.w) a (findBy (intKind X.prog X.w).is es):=⟨_,es,ep,I2.kIn a _ e1,⟨rfl,rfl,rfl⟩,rfl,fun e he=>by
  obtain⟨k,t,z1,z2⟩:=KG e2 e (by simpa using he);exact⟨k,by rw[z1];exact intKind_is _ _ k t,z2⟩,fun _=>rfl⟩
 obtain⟨t,rfl⟩:=(show∃t,iv=Value.int i t from ry);refine⟨hm.typeIs,wpAny_getItem_of (knd:=intKind X.prog X.w) (k:=i) (v:= .ref c) (intKind_is _ _ i t) hm ?_ ⟨.ref c,H2,I2.tok _,rfl,q c f2⟩⟩;unfold findBy;rw[<-Array.find?_toList];exact f1
end
end L2
namespace Pf
open PySem PySem.Spec PyProof.Rows L2
structure FT (K:PySem.W.Frag) (mg:Str->Option Value) (x:Str) (st:Stmt) (ps:List Str) (f:Addr) (d:FuncData):Prop where
 F:Fun K x x st f d
 b:Binds K d ps []
 k:PySem.W.keepIn K (.ref f)=true
 m:mg x=some (.ref f)
 q: ∀us:List Value,us.length=ps.length->bindArgs d ⟨us,[]⟩=pure (ps.zip us)
theorem J0N {K:PySem.W.Frag} {h:Heap} {mg:Str->Option Value} (X:K.In h) (G:h.Ns mainGlobals mg) {x:Str} {st:Stmt} {f:Addr} {oc:Value} {od an:Option Addr} {osl:Array (Option Value)} {kV doc pm cdv ct:Value} {ps:List Str}
  (a:PySem.W.nsIn K mainGlobals x=some (some (.ref f))) (l:K.lookup f=some ⟨oc,od, .func (PySem.W.fnOf x x (UJ st) (ZU st) (J8 st) .none kV doc pm an cdv ct),osl⟩)
  (c:PySem.W.codeIn K cdv x=true) (k:PySem.W.keepIn K (.ref f)=true)
  (b: ∀(kV doc pm:Value) (an:Option Addr) (cdv ct:Value) (us:List Value),us.length=ps.length->bindArgs (PySem.W.fnOf x x (UJ st) (ZU st) (J8 st) .none kV doc pm an cdv ct) ⟨us,[]⟩=pure (ps.zip us)):FT K mg x st ps f (PySem.W.fnOf x x (UJ st) (ZU st) (J8 st) .none kV doc pm an cdv ct):=
 ⟨Q1 l c k,(Q1 (st:=st) l c k).binds b,k,PySem.W.mg_of X G a,b kV doc pm an cdv ct⟩
def AllNo (K:PySem.W.Frag) (C:Addr):List Str->Prop
 |[]=>True
 |f::r=>PySem.W.findIn K (.ref C) f=some none/\AllNo K C r
structure CT (K:PySem.W.Frag) (mg:Str->Option Value) (x q:Str) (st:Stmt) (ps fs:List Str) (C f:Addr) (d:FuncData):Prop where
 F:Fun K "__init__" q st f d
 b:Binds K d ps []
 k:PySem.W.keepIn K (.ref f)=true
 c:Cls K C
 M:Mk K C f
 m:mg x=some (.ref C)
 n:AllNo K C fs
theorem J0H {K:PySem.W.Frag} {h:Heap} {mg:Str->Option Value} (X:K.In h) (G:h.Ns mainGlobals mg) {x q:Str} {st:Stmt} {C f:Addr} {oc:Value} {od an:Option Addr} {osl:Array (Option Value)} {kV doc pm cdv ct:Value} {ps fs:List Str}
  (aC:PySem.W.nsIn K mainGlobals x=some (some (.ref C))) (a:PySem.W.findIn K (.ref C) "__init__"=some (some (.ref f))) (i:PySem.W.isFn K (.ref f)=true)
  (l:K.lookup f=some ⟨oc,od, .func (PySem.W.fnOf "__init__" q (UJ st) (ZU st) (J8 st) .none kV doc pm an cdv ct),osl⟩)
  (c:PySem.W.codeIn K cdv q=true) (k:PySem.W.keepIn K (.ref f)=true)
  (b: ∀(kV doc pm:Value) (an:Option Addr) (cdv ct:Value) (us:List Value),us.length=ps.length->bindArgs (PySem.W.fnOf "__init__" q (UJ st) (ZU st) (J8 st) .none kV doc pm an cdv ct) ⟨us,[]⟩=pure (ps.zip us))
  (pg:PySem.W.plainGet K C Str.empty=true) (hd:PySem.W.hasDictIn K C=true) (po:PySem.W.plainOver K C=true) (sa:PySem.W.findIn K (.ref C) "__setattr__"=some (some (.builtin "object.__setattr__"))) (mk:PySem.W.makesIn K C=true) (kc:PySem.W.keepIn K (.ref C)=true)
  (n:AllNo K C fs):CT K mg x q st ps fs C f (PySem.W.fnOf "__init__" q (UJ st) (ZU st) (J8 st) .none kV doc pm an cdv ct):=
 ⟨Q1 l c k,(Q1 (st:=st) l c k).binds b,k,⟨pg,hd,po,sa⟩,⟨mk,a,i,kc⟩,PySem.W.mg_of X G aC,n⟩
theorem TW {K:PySem.W.Frag} {h:Heap} {mg:Str->Option Value} (X:K.In h) (G:h.Ns mainGlobals mg) {x:Str} {i z:Int} {t:Tok} (a:PySem.W.nsIn K mainGlobals x=some (some (.int i t))) (e:i=z):mg x=some (.int z t):=by
 subst e;exact PySem.W.mg_of X G a
theorem J0Z {K:PySem.W.Frag} {h:Heap} {mg:Str->Option Value} (X:K.In h) (G:h.Ns mainGlobals mg) {x:Str} {c:Addr} {es:Array DictEntry} {ep:Nat} {rows:List (Int×List Int)} (a:PySem.W.nsIn K mainGlobals x=some (some (.ref c)))
  (l:K.lookup c=some ⟨.type "dict",none, .dict es ep, #[]⟩) (r:RowsIn K es.toList rows):mg x=some (.ref c)/\KdOk K c rows:=⟨PySem.W.mg_of X G a,es,ep,l,r⟩
section
variable {P:Program} {w:World} {K:PySem.W.Frag} {mg:Str->Option Value} {base:Heap}
def Bd (P:Program) (w:World) (K:PySem.W.Frag) (mg:Str->Option Value) (base:Heap) (N:List Str) (x:Str) (st:Stmt) (f:Addr) (k n:Nat) (H:Hp) (vs:List V) (Q:VK) (E:XK):Prop:=
 vs.length=n/\ ∀(cdv:Value) (A:Around) (outer:List Env) (s:Shared),Room k (A.deeper (envOfC x (J8 st) s.heap.objs.size f cdv))->
  ∃t,PSs (Sy CX0 P w K mg base N x (J8 st) f cdv A outer s H E).nox (ZU st) t/\t {nx:=fun _ H'=>Q .non H',rt:=Q} (start N vs) H
theorem FT.ok {x:Str} {st:Stmt} {f:Addr} {fd:FuncData} {N ps qs:List Str} {k:Nat} {sp:Sp} (F:FT K mg x st qs f fd) (S:FnScope N ps (J8 st)) (hb: ∀H vs Q E,sp vs H Q E->Bd P w K mg base N x st f k ps.length H vs Q E):FnOk P w K mg base CX0 (k+1) f fd ps sp:=
 F.F.ok S (fun vs H Q E h=>(hb H vs Q E h).1) (fun cdv A outer s H vs Q E hr h=>(hb H vs Q E h).2 cdv A outer s hr)
theorem CT.ok {x q:Str} {st:Stmt} {C f:Addr} {fd:FuncData} {N ps qs fs:List Str} {k:Nat} {sp:Sp} (F:CT K mg x q st qs fs C f fd) (S:FnScope N ps (J8 st)) (hb: ∀H vs Q E,sp vs H Q E->Bd P w K mg base N q st f k ps.length H vs Q E):FnOk P w K mg base CX0 (k+1) f fd ps sp:=
 F.F.ok S (fun vs H Q E h=>(hb H vs Q E h).1) (fun cdv A outer s H vs Q E hr h=>(hb H vs Q E h).2 cdv A outer s hr)
end
section
variable {X:Cx} {k n:Nat} {f C:Addr} {fd:FuncData} {ps fs:List Str} {sp:Sp} {x q:Str} {st:Stmt} {e:Expr} {es:List Expr} {t:TA} {p pos:Pos}
theorem pk (G:FnOk X.prog X.w X.K X.mg X.base CX0 k f fd ps sp) (hr:Room n X.A) (F:FT X.K X.mg x st ps f fd) (ha:PA X (e::es) t) (le:k<=n:=by decide) (hg:Gl X x:=by rfl) (hdb:(x==("__debug__":Str))=false:=by decide)
  (he:starEach (e::es) X.env=(false,eval e X.env)::starEach es X.env:=by rfl) (hpl:(backTo pos (starEach es X.env)).any (·.1)=false:=by rfl):PE X (.Call (.Name x p) (e::es) [] pos) (Zd sp [] E0 t):=Xj G (hr.mono le) hg F.m F.k F.b .nil Vl ha hdb he hpl
theorem pm (G:FnOk X.prog X.w X.K X.mg X.base CX0 k f fd ps sp) (hr:Room n X.A) (F:CT X.K X.mg x q st ps fs C f fd) (ha:PA X (e::es) t) (le:k+1<=n:=by decide) (hg:Gl X x:=by rfl) (hdb:(x==("__debug__":Str))=false:=by decide)
  (he:starEach (e::es) X.env=(false,eval e X.env)::starEach es X.env:=by rfl) (hpl:(backTo pos (starEach es X.env)).any (·.1)=false:=by rfl):PE X (.Call (.Name x p) (e::es) [] pos) (Mz C sp [] E0 t):=X4 F.M G (hr.mono le) hg F.m F.b .nil Vl ha hdb he hpl
theorem pm0 (G:FnOk X.prog X.w X.K X.mg X.base CX0 k f fd ps sp) (hr:Room n X.A) (F:CT X.K X.mg x q st ps fs C f fd) (le:k+1<=n:=by decide) (hg:Gl X x:=by rfl) (hdb:(x==("__debug__":Str))=false:=by decide):PE X (.Call (.Name x p) [] [] pos) (Mz C sp [] E0 JK):=We F.M G (hr.mono le) hg F.m F.b .nil Vl hdb
theorem ZF (i:Nat) (hN:X.N.Nodup) (hi:X.N[i]?=some x:=by rfl) (hx:Loc X.env.scope x:=by first|exact Or.inl rfl|exact Or.inr rfl) (hf:X.fn x=true∨X.env.scope.names.lookup x=some .local:=by first|exact .inl rfl|exact .inr rfl|assumption):PG X (.Name x pos) (JA i):=WG hN hi hx hf
theorem YL (i:Nat) {te:TE} {p':Pos} (hN:X.N.Nodup) (he:PE X e te) (hi:X.N[i]?=some x:=by rfl) (hx:Loc X.env.scope x:=by first|exact Or.inl rfl|exact Or.inr rfl) (hs:swapsWith e (some (.Name x p')) pos.line X.env=pure false:=by rfl) (hf:X.fn x=true∨X.env.scope.names.lookup x=some .local:=by first|exact .inl rfl|exact .inr rfl|assumption):PS X (.Assign [.Name x p'] e pos) (Zw te (JA i)):=J01 hN hi hx he hs hf
end
theorem JH {N ps:List Str} {sc:Scope} (h1:sc.kind= .function) (h2:sc.isCoroutine=false) (h3:sc.isGenerator=false) (h:(decide N.Nodup&&(decide (N.take ps.length=ps)&&((ps.all fun x=>decide (sc.names.lookup x=some .local)||decide (sc.names.lookup x=some .cell))&&sc.names.all fun y=>decide (y.2≠ .free))))=true):FnScope N ps sc:=by
 simp only[Bool.and_eq_true,Bool.or_eq_true,decide_eq_true_eq,List.all_eq_true] at h;exact⟨h1,h2,h3,h.1,h.2.1,h.2.2.1,h.2.2.2⟩
theorem bo {N:List Str} {sc scope:Scope} (own:List (Str×Nat)) (h:J0n N sc scope own=true:=by kernel_rfl):BlkOk N sc scope own:=Wj h
theorem J9 {α:Sort _} {p q:α->Prop} {v:α} (e:p v) (r:q v): ∃x,p x/\q x:=⟨v,e,r⟩
theorem Y9 {α β:Sort _} {p q R:α->β->Prop} {i:α} {j:β} (e:p i j) (f:q i j) (r:R i j): ∃i j,p i j/\q i j/\R i j:=⟨i,j,e,f,r⟩
theorem JM {α β:Sort _} {p:α->Prop} {q R:α->β->Prop} {v:α} {u:β} (e:p v) (f:q v u) (r:R v u): ∃x,p x/\ ∃y,q x y/\R x y:=⟨v,e,u,f,r⟩
theorem Zi {α β:Sort _} {p a:α->Prop} {q R:α->β->Prop} {v:α} {u:β} (e:p v) (g:a v) (f:q v u) (r:R v u): ∃x,p x/\a x/\ ∃y,q x y/\R x y:=⟨v,e,g,u,f,r⟩
theorem JX {α β:Sort _} {p s R:α->β->Prop} {a:α} {b:β} (e:p a b) (h:s a b) (r:R a b): ∃x y,p x y/\s x y/\R x y:=⟨a,b,e,h,r⟩
theorem Vj {α β γ:Sort _} {p:α->Prop} {q:γ->Prop} {s:α->β->Prop} {t:β->Prop} {R:α->β->γ->Prop} {a:α} {b:β} {c:γ} (e:p a) (f:q c) (h:s a b) (g:t b) (r:R a b c): ∃x y z,p x/\q z/\s x y/\t y/\R x y z:=⟨a,b,c,e,f,h,g,r⟩
theorem YJ {α β γ δ:Sort _} {p:α->Prop} {q:γ->Prop} {s:α->β->Prop} {l:β->γ->δ->Prop} {R:α->β->δ->Prop} {a:α} {b:β} {c:γ} {d:δ} (e:p a) (f:q c) (h:s a b) (g:l b c d) (r:R a b d): ∃x y z u,p x/\q z/\s x y/\l y z u/\R x y u:=⟨a,b,c,d,e,f,h,g,r⟩
theorem Tk {K:PySem.W.Frag} {H:Hp} {p C dx:Addr} {fs:List (Str×V)} {f:Str} {v:V} {R:V->Prop} (hp:H p=some (.ins C dx fs)) (c:Cls K C) (n:NoAttr K C f) (l:fs.lookup f=some v) (r:R v): ∃a C dx fs v,V.ref p= .ref a/\H a=some (.ins C dx fs)/\Cls K C/\NoAttr K C f/\fs.lookup f=some v/\R v:=⟨p,C,dx,fs,v,rfl,hp,c,n,l,r⟩
theorem JB {K:PySem.W.Frag} {H:Hp} {σ:L2.St} {i:Nat} {p C dx:Addr} {fs:List (Str×V)} {f:Str} {v:V} {R:V->Prop} (e:σ[i]?=some (some (.ref p))) (hp:H p=some (.ins C dx fs)) (c:Cls K C) (n:NoAttr K C f) (l:fs.lookup f=some v) (r:R v): ∃x,σ[i]?=some (some x)/\ ∃a C dx fs v,x= .ref a/\H a=some (.ins C dx fs)/\Cls K C/\NoAttr K C f/\fs.lookup f=some v/\R v:=⟨_,e,p,C,dx,fs,v,rfl,hp,c,n,l,r⟩
abbrev FL (J:It) (g:TG) (tb:TS) (D:Ends) (σ:L2.St) (H:Hp):Prop:= ∃W:Nat->Nat->L2.St->Hp->Prop,(∃m,W 0 m σ H)/\ ∀i m σ H,W i m σ H->
 (J.stop i H/\D.nx σ H)∨(J.go i H/\ ∃N:L2.St->Hp->Prop,(∀σ' H',N σ' H'-> ∃m',m'<m/\W (i+1) m' σ' H')/\ ∀x H',J.yld i H x H'->g x σ H' fun σ2 H2=>tb {D with nx:=N,ct:=N,bk:=D.nx} σ2 H2)
section
variable {K:PySem.W.Frag} {a b:Addr} {xs ys:List V} {g:TG} {tb:TS} {D:Ends} {σ:L2.St} {H:Hp} (Pv:Nat->L2.St->Hp->Prop) (h0:Pv 0 σ H)
include h0
theorem Lj (hl: ∀i σ H,i<=xs.length->Pv i σ H->SqL K H a xs) (hs: ∀(E:Ends) i x σ H,(∀σ H,Pv (i+1) σ H->E.nx σ H)->xs[i]?=some x->Pv i σ H->g x σ H fun σ2 H2=>tb E σ2 H2) (hd: ∀σ H,Pv xs.length σ H->D.nx σ H):FL (Itl K a) g tb D σ H:=
 HI Pv h0 hl (fun i x σ H=>hs _ i x σ H (fun _ _ h=>h)) hd
theorem J0D (hl: ∀i σ H,i<=xs.length->Pv i σ H->SqL K H a xs) (hs: ∀(E:Ends) i x σ H,(∀σ H,Pv (i+1) σ H->E.nx σ H)->(∀v H,D.rt v H->E.rt v H)->xs[i]?=some x->Pv i σ H->g x σ H fun σ2 H2=>tb E σ2 H2) (hd: ∀σ H,Pv xs.length σ H->D.nx σ H):FL (Itl K a) g tb D σ H:=
 HI Pv h0 hl (fun i x σ H=>hs _ i x σ H (fun _ _ h=>h) (fun _ _ h=>h)) hd
theorem J0Y (hl: ∀i σ H,Pv i σ H->SqL K H a xs/\SqL K H b ys)
  (hs: ∀(E:Ends) i x y σ H Tp,(∀σ H,Pv (i+1) σ H->E.nx σ H)->(∀v H,D.rt v H->E.rt v H)->xs[i]?=some x->ys[i]?=some y->H Tp=none->Pv i σ H->g (.ref Tp) σ (upd H Tp (.tup [x,y])) fun σ2 H2=>tb E σ2 H2)
  (hd: ∀σ H,Pv (min xs.length ys.length) σ H->D.nx σ H):FL (Itz K a b) g tb D σ H:=
 Px Pv h0 hl (fun i x y σ H Tp=>hs _ i x y σ H Tp (fun _ _ h=>h) (fun _ _ h=>h)) hd
theorem J0r (hl: ∀i σ H,Pv i σ H->SqL K H a xs)
  (hs: ∀(E:Ends) i x σ H Tp,(∀σ H,Pv (i+1) σ H->E.nx σ H)->(∀v H,D.rt v H->E.rt v H)->xs[i]?=some x->H Tp=none->Pv i σ H->g (.ref Tp) σ (upd H Tp (.tup [.int (i:Nat),x])) fun σ2 H2=>tb E σ2 H2)
  (hd: ∀σ H,Pv xs.length σ H->D.nx σ H):FL (Ite K a) g tb D σ H:=
 GC Pv h0 hl (fun i x σ H Tp=>hs _ i x σ H Tp (fun _ _ h=>h) (fun _ _ h=>h)) hd
theorem J11 {lo:Int} {n:Nat} (hs: ∀(E:Ends) i σ H,(∀σ H,Pv (i+1) σ H->E.nx σ H)->i<n->Pv i σ H->g (.int (lo+i)) σ H fun σ2 H2=>tb E σ2 H2) (hd: ∀σ H,Pv n σ H->D.nx σ H):FL (Itr lo n) g tb D σ H:=
 P8 Pv h0 (fun i σ H=>hs _ i σ H (fun _ _ h=>h)) hd
theorem J0P (hl: ∀i σ H,Pv i σ H->SqL K H a xs/\SqL K H b ys)
  (hs: ∀(E:Ends) i x y σ H Tp,(∀σ H,Pv (i+1) σ H->E.nx σ H)->xs[i]?=some x->ys[i]?=some y->H Tp=none->Pv i σ H->g (.ref Tp) σ (upd H Tp (.tup [x,y])) fun σ2 H2=>tb E σ2 H2)
  (hd: ∀σ H,Pv (min xs.length ys.length) σ H->D.nx σ H):FL (Itz K a b) g tb D σ H:=
 Px Pv h0 hl (fun i x y σ H Tp=>hs _ i x y σ H Tp (fun _ _ h=>h)) hd
theorem J1k (hl: ∀i σ H,Pv i σ H->SqL K H a xs)
  (hs: ∀(E:Ends) i x σ H Tp,(∀σ H,Pv (i+1) σ H->E.nx σ H)->xs[i]?=some x->H Tp=none->Pv i σ H->g (.ref Tp) σ (upd H Tp (.tup [.int (i:Nat),x])) fun σ2 H2=>tb E σ2 H2)
  (hd: ∀σ H,Pv xs.length σ H->D.nx σ H):FL (Ite K a) g tb D σ H:=
 GC Pv h0 hl (fun i x σ H Tp=>hs _ i x σ H Tp (fun _ _ h=>h)) hd
end
theorem u1 {P:List Value->Prop} (k: ∀a,P [a]) (us:List Value) (h:us.length=1):P us:=match us,h with|[a],_=>k a
theorem u2 {P:List Value->Prop} (k: ∀a b,P [a,b]) (us:List Value) (h:us.length=2):P us:=match us,h with|[a,b],_=>k a b
theorem u3 {P:List Value->Prop} (k: ∀a b c,P [a,b,c]) (us:List Value) (h:us.length=3):P us:=match us,h with|[a,b,c],_=>k a b c
theorem u4 {P:List Value->Prop} (k: ∀a b c d,P [a,b,c,d]) (us:List Value) (h:us.length=4):P us:=match us,h with|[a,b,c,d],_=>k a b c d
theorem u5 {P:List Value->Prop} (k: ∀a b c d e,P [a,b,c,d,e]) (us:List Value) (h:us.length=5):P us:=match us,h with|[a,b,c,d,e],_=>k a b c d e
theorem u6 {P:List Value->Prop} (k: ∀a b c d e f,P [a,b,c,d,e,f]) (us:List Value) (h:us.length=6):P us:=match us,h with|[a,b,c,d,e,f],_=>k a b c d e f
theorem u7 {P:List Value->Prop} (k: ∀a b c d e f g,P [a,b,c,d,e,f,g]) (us:List Value) (h:us.length=7):P us:=match us,h with|[a,b,c,d,e,f,g],_=>k a b c d e f g
theorem zl0:0<=sizeLine:=by decide
theorem LE:1<=sizeLine:=by decide
theorem Qr:2<=sizeLine:=by decide
theorem Vi:3<=sizeLine:=by decide
theorem zl4:4<=sizeLine:=by decide
theorem zl5:5<=sizeLine:=by decide
end Pf
namespace Z3
open PySem PySem.Spec PyProof.Rows L2
theorem VL (p q r:Value):checkTypeCall "zip" ⟨[p,q,r],[]⟩=pure ():=by kernel_rfl
theorem X5 (p q r:Value):checkBuiltinCall "zip.__new__" ⟨[.type "zip",p,q,r],[]⟩=pure ():=by kernel_rfl
theorem Wo (o p q r:Value):argsOk "object.__init__" ⟨[o,p,q,r],[]⟩:=by
 unfold argsOk;rw[signature?_of (id:="object.__init__") (n:=['_','_','t','i','n','i','_','_']) (o:=['t','c','e','j','b','o']) (by kernel_rfl) F.owner_object]
 kernel_rfl
abbrev Trip (h:Heap) (T:Addr) (p q r:Value):Prop:=h.get? T=some {cls:= .type "tuple",data:= .seq #[p,q,r]}
structure Ap (z u v i j k a b c:Addr):Prop where
 uz:u≠z
 vz:v≠z
 iz:i≠z
 jz:j≠z
 kz:k≠z
 uv:u≠v
 ui:u≠i
 uj:u≠j
 uk:u≠k
 vi:v≠i
 vj:v≠j
 vk:v≠k
 ij:i≠j
 ik:i≠k
 jk:j≠k
 az:a≠z
 av:a≠v
 ai:a≠i
 aj:a≠j
 ak:a≠k
 bz:b≠z
 bv:b≠v
 bi:b≠i
 bj:b≠j
 bk:b≠k
 cz:c≠z
 cv:c≠v
 ci:c≠i
 cj:c≠j
 ck:c≠k
section
variable {prog:Program} {w:World} {A:Around} {E:Value->Shared->Prop} {s:Shared}
theorem Wh {T:Addr} {p q r x:Value} {n:Nat} {Q:Unit->Shared->Prop} (t:Trip s.heap T p q r)
  (goes: ∀hp,hp.get? T=some {cls:= .type "tuple",data:= .seq ((#[p,q,r]:Array Value).setIfInBounds n x)}->Heap.SameBut T s.heap hp->Q () {s with heap:=hp}):
  wpAny (model prog w) A (updateSeq T (·.setIfInBounds n x)) Q E s:=by
 refine wpAny_updateSeq t rfl (goes _ ?_ (Heap.SameBut.update ..));rw[Heap.get?_update_self _ t rfl];simp[Obj.mapSeq]
def Kp (z v i j k:Addr) (h h':Heap):Prop:= ∀c o,c≠z->c≠v->c≠i->c≠j->c≠k->h.get? c=some o->h'.get? c=some o
theorem Tm {z u v i j k a b c:Addr} {n1 n2 n3:Nat} {xs ys zs:Array Value} {x y t p q r:Value} {Q:Value->Shared->Prop} (D:Ap z u v i j k a b c)
  (gz:IsZip s.heap z u v .none) (gu:Trip s.heap u (.ref i) (.ref j) (.ref k)) (gv:Trip s.heap v p q r)
  (g1:s.heap.IsListIter i a n1) (g2:s.heap.IsListIter j b n2) (g3:s.heap.IsListIter k c n3) (m1:s.heap.IsList a xs) (m2:s.heap.IsList b ys) (m3:s.heap.IsList c zs)
  (ex:xs[n1]?=some x) (ey:ys[n2]?=some y) (et:zs[n3]?=some t)
  (fin: ∀hp,IsZip hp z u v (rawInt s.heap.objs.size)->Trip hp v x y t->hp.IsListIter i a (n1+1)->hp.IsListIter j b (n2+1)->hp.IsListIter k c (n3+1)->Trip hp s.heap.objs.size x y t->hp.objs.size=s.heap.objs.size+1->
    Kp z v i j k s.heap hp->Q (.ref s.heap.objs.size) {s with heap:=hp}):
  wpAny (model prog w) A (Builtin.«zip.__next__» ⟨[.ref z],[]⟩) (fun f s'=> ∃val,f= .done (.ret val)/\Q val s') E s:=by
 show wpAny _ _ (field (.ref z) 2>>=_) _ _ _;refine wpAny_bind (wpAny_field gz rfl (x:= .bool false) rfl ?_);show wpAny _ _ (field (.ref z) 3>>=_) _ _ _;refine wpAny_bind (wpAny_field gz rfl (x:= .ref u) rfl ?_);refine wpAny_bind (wpAny_seqItems gu rfl ?_);show wpAny _ _ (Builtin.SmallTypes.ownedTupleIsFree (.ref z)>>=_) _ _ _;refine wpAny_bind ?_;unfold Builtin.SmallTypes.ownedTupleIsFree;refine wpAny_bind (wpAny_field gz rfl (x:= .none) rfl (wpAny_pure ?_));simp only[if_true];refine wpAny_bind (wpAny_rule ?_);refine wpAny_bind (wpAny_field gz rfl (x:= .ref v) rfl ?_);refine wpAny_bind (wpAny_setField_rec gz (by simp) fun e1 z1 k1=>?_)
 replace z1:IsZip e1 z u v .ellipsis:=z1
 refine wpAny_bind ?_;simp only[List.zipIdx_cons,List.zipIdx_nil,List.forIn_cons,List.forIn_nil];refine wpAny_bind (wpAny_bind (wpAny_onRaise ?_));show wpAny _ _ (Builtin.SmallTypes.nextOf (.ref i)>>=_) _ _ _;refine wpAny_bind (wpAny_nextOf_list_item (g1.extBut k1.extBut D.iz) (m1.extBut k1.extBut D.az) ex fun e2 a2 k2=>wpAny_pure ?_);have v2:Trip e2 v p q r:=k2.extBut _ _ D.vi (k1.extBut _ _ D.vz gv);refine wpAny_bind (wpAny_seqItems v2 rfl ?_);refine wpAny_bind (Wh v2 fun e3 v3 k3=>?_)
 replace v3:Trip e3 v x q r:=v3
 refine wpAny_bind (wpAny_letGo (wpAny_pure ?_));refine wpAny_bind (wpAny_bind (wpAny_onRaise ?_));show wpAny _ _ (Builtin.SmallTypes.nextOf (.ref j)>>=_) _ _ _
 refine wpAny_bind (wpAny_nextOf_list_item (((g2.extBut k1.extBut D.jz).extBut k2.extBut D.ij.symm).extBut k3.extBut D.vj.symm)
  (((m2.extBut k1.extBut D.bz).extBut k2.extBut D.bi).extBut k3.extBut D.bv) ey fun e4 a4 k4=>wpAny_pure ?_)
 have v4:Trip e4 v x q r:=k4.extBut _ _ D.vj v3;refine wpAny_bind (wpAny_seqItems v4 rfl ?_);refine wpAny_bind (Wh v4 fun e5 v5 k5=>?_)
 replace v5:Trip e5 v x y r:=v5
 refine wpAny_bind (wpAny_letGo (wpAny_pure ?_));refine wpAny_bind (wpAny_bind (wpAny_onRaise ?_));show wpAny _ _ (Builtin.SmallTypes.nextOf (.ref k)>>=_) _ _ _
 refine wpAny_bind (wpAny_nextOf_list_item (((((g3.extBut k1.extBut D.kz).extBut k2.extBut D.ik.symm).extBut k3.extBut D.vk.symm).extBut k4.extBut D.jk.symm).extBut k5.extBut D.vk.symm)
  (((((m3.extBut k1.extBut D.cz).extBut k2.extBut D.ci).extBut k3.extBut D.cv).extBut k4.extBut D.cj).extBut k5.extBut D.cv) et fun e6 a6 k6=>wpAny_pure ?_)
 have v6:Trip e6 v x y r:=k6.extBut _ _ D.vk v5;refine wpAny_bind (wpAny_seqItems v6 rfl ?_);refine wpAny_bind (Wh v6 fun e7 v7 k7=>?_)
 replace v7:Trip e7 v x y t:=v7
 refine wpAny_bind (wpAny_letGo (wpAny_pure (wpAny_pure ?_)));refine wpAny_bind (wpAny_seqItems v7 rfl ?_);refine wpAny_bind (wpAny_newTuple ?_);have sz:e7.objs.size=s.heap.objs.size:=by rw[k7.1,k6.1,k5.1,k4.1,k3.1,k2.1,k1.1]
 have z7:IsZip e7 z u v .ellipsis:=k7.extBut _ _ D.vz.symm (k6.extBut _ _ D.kz.symm (k5.extBut _ _ D.vz.symm (k4.extBut _ _ D.jz.symm (k3.extBut _ _ D.vz.symm (k2.extBut _ _ D.iz.symm z1)))));have kp7:Kp z v i j k s.heap e7:=fun d o d1 d2 d3 d4 d5 e=>k7.extBut _ _ d2 (k6.extBut _ _ d5 (k5.extBut _ _ d2 (k4.extBut _ _ d4 (k3.extBut _ _ d2 (k2.extBut _ _ d3 (k1.extBut _ _ d1 e))))));have i7:e7.IsListIter i a (n1+1):=((((a2.extBut k3.extBut D.vi.symm).extBut k4.extBut D.ij).extBut k5.extBut D.vi.symm).extBut k6.extBut D.ik).extBut k7.extBut D.vi.symm;have j7:e7.IsListIter j b (n2+1):=((a4.extBut k5.extBut D.vj.symm).extBut k6.extBut D.jk).extBut k7.extBut D.vj.symm;have l7:e7.IsListIter k c (n3+1):=a6.extBut k7.extBut D.vk.symm;have zl:z<e7.objs.size:=Heap.lt_size z7;show wpAny _ _ (Builtin.SmallTypes.ownedTupleHandOut (.ref z) (.ref e7.objs.size)>>=_) _ _ _;refine wpAny_bind ?_;unfold Builtin.SmallTypes.ownedTupleHandOut;have z8:IsZip (e7.push {cls:= .type "tuple",data:= .seq #[x,y,t]}) z u v .ellipsis:=Heap.get?_push_of_some _ z7;refine wpAny_bind (wpAny_setField_rec z8 (by simp) fun e9 z9 k9=>?_)
 replace z9:IsZip e9 z u v (rawInt e7.objs.size):=z9
 refine wpAny_setField_rec z9 (by simp) fun e10 z10 k10=>?_
 replace z10:IsZip e10 z u v (rawInt e7.objs.size):=z10
 have up: ∀d o,d≠z->e7.get? d=some o->e10.get? d=some o:=fun d o d1 e=>k10.extBut _ _ d1 (k9.extBut _ _ d1 (Heap.get?_push_of_some _ e));have t10:Trip e10 e7.objs.size x y t:=k10.extBut _ _ (Nat.ne_of_gt zl) (k9.extBut _ _ (Nat.ne_of_gt zl) (Heap.get?_push_size _ rfl));have s10:e10.objs.size=e7.objs.size+1:=by rw[k10.1,k9.1,Heap.size_push]
 rw[sz] at z10 t10 s10;refine wpAny_pure ⟨_,rfl,?_⟩;show Q (.ref e7.objs.size) _;rw[sz];exact fin e10 z10 (up _ _ D.vz v7) (i7.at fun o e=>up _ o D.iz e) (j7.at fun o e=>up _ o D.jz e) (l7.at fun o e=>up _ o D.kz e) t10 s10 fun d o d1 d2 d3 d4 d5 e=>up d o d1 (kp7 d o d1 d2 d3 d4 d5 e)
theorem Vv {z u v i j k a b c:Addr} {n1 n2 n3:Nat} {xs ys zs:Array Value} {p q r:Value} {Q:Fin->Shared->Prop} (hh:A.handled=none) (D:Ap z u v i j k a b c)
  (gz:IsZip s.heap z u v .none) (gu:Trip s.heap u (.ref i) (.ref j) (.ref k)) (gv:Trip s.heap v p q r)
  (g1:s.heap.IsListIter i a n1) (g2:s.heap.IsListIter j b n2) (g3:s.heap.IsListIter k c n3) (m1:s.heap.IsList a xs) (m2:s.heap.IsList b ys) (m3:s.heap.IsList c zs)
  (over:xs[n1]?=none∨ys[n2]?=none∨zs[n3]?=none)
  (fin: ∀hp e,Kp z v i j k s.heap hp->(∃o,hp.get? e=some o/\o.cls= .type "StopIteration")->E (.ref e) {s with heap:=hp}):
  wpAny (model prog w) A (Builtin.«zip.__next__» ⟨[.ref z],[]⟩) Q E s:=by
 show wpAny _ _ (field (.ref z) 2>>=_) _ _ _;refine wpAny_bind (wpAny_field gz rfl (x:= .bool false) rfl ?_);show wpAny _ _ (field (.ref z) 3>>=_) _ _ _;refine wpAny_bind (wpAny_field gz rfl (x:= .ref u) rfl ?_);refine wpAny_bind (wpAny_seqItems gu rfl ?_);show wpAny _ _ (Builtin.SmallTypes.ownedTupleIsFree (.ref z)>>=_) _ _ _;refine wpAny_bind ?_;unfold Builtin.SmallTypes.ownedTupleIsFree;refine wpAny_bind (wpAny_field gz rfl (x:= .none) rfl (wpAny_pure ?_));simp only[if_true];refine wpAny_bind (wpAny_rule ?_);refine wpAny_bind (wpAny_field gz rfl (x:= .ref v) rfl ?_);refine wpAny_bind (wpAny_setField_rec gz (by simp) fun e1 z1 k1=>?_)
 replace z1:IsZip e1 z u v .ellipsis:=z1
 refine wpAny_bind ?_;simp only[List.zipIdx_cons,List.zipIdx_nil,List.forIn_cons,List.forIn_nil];refine wpAny_bind (wpAny_bind (wpAny_onRaise ?_));show wpAny _ _ (Builtin.SmallTypes.nextOf (.ref i)>>=_) _ _ _;cases ex:xs[n1]? with
 |none=>
  refine wpAny_bind (wpAny_nextOf_list_end hh (g1.extBut k1.extBut D.iz) (m1.extBut k1.extBut D.az) ex fun e2 e k2 he=>?_);obtain⟨oe,hoe,hce⟩:=he;have z2:IsZip e2 z u v .ellipsis:=k2 _ _ D.iz.symm z1;have ne:e≠z:=fun w'=>by subst w';rw[z2] at hoe;cases hoe;simp at hce
  exact wpAny_setField_rec z2 (by simp) fun e3 _ k3=>fin e3 e (fun d o d1 _ d3 _ _ w'=>k3.extBut _ _ d1 (k2 _ _ d3 (k1.extBut _ _ d1 w'))) ⟨oe,k3.extBut _ _ ne hoe,hce⟩
 |some x=>
  refine wpAny_bind (wpAny_nextOf_list_item (g1.extBut k1.extBut D.iz) (m1.extBut k1.extBut D.az) ex fun e2 a2 k2=>wpAny_pure ?_);have v2:Trip e2 v p q r:=k2.extBut _ _ D.vi (k1.extBut _ _ D.vz gv);refine wpAny_bind (wpAny_seqItems v2 rfl ?_);refine wpAny_bind (Wh v2 fun e3 v3 k3=>?_)
  replace v3:Trip e3 v x q r:=v3
  refine wpAny_bind (wpAny_letGo (wpAny_pure ?_));refine wpAny_bind (wpAny_bind (wpAny_onRaise ?_));show wpAny _ _ (Builtin.SmallTypes.nextOf (.ref j)>>=_) _ _ _;cases ey:ys[n2]? with
  |none=>
   refine wpAny_bind (wpAny_nextOf_list_end hh (((g2.extBut k1.extBut D.jz).extBut k2.extBut D.ij.symm).extBut k3.extBut D.vj.symm)
    (((m2.extBut k1.extBut D.bz).extBut k2.extBut D.bi).extBut k3.extBut D.bv) ey fun e4 e k4 he=>?_)
   obtain⟨oe,hoe,hce⟩:=he;have z4:IsZip e4 z u v .ellipsis:=k4 _ _ D.jz.symm (k3.extBut _ _ D.vz.symm (k2.extBut _ _ D.iz.symm z1));have ne:e≠z:=fun w'=>by subst w';rw[z4] at hoe;cases hoe;simp at hce
   exact wpAny_setField_rec z4 (by simp) fun e5 _ k5=>fin e5 e (fun d o d1 d2 d3 d4 _ w'=>k5.extBut _ _ d1 (k4 _ _ d4 (k3.extBut _ _ d2 (k2.extBut _ _ d3 (k1.extBut _ _ d1 w'))))) ⟨oe,k5.extBut _ _ ne hoe,hce⟩
  |some y=>
   have et:zs[n3]?=none:=by
    rcases over with o1|o1|o1
    ·rw[ex] at o1;cases o1
    ·rw[ey] at o1;cases o1
    ·exact o1
   refine wpAny_bind (wpAny_nextOf_list_item (((g2.extBut k1.extBut D.jz).extBut k2.extBut D.ij.symm).extBut k3.extBut D.vj.symm)
    (((m2.extBut k1.extBut D.bz).extBut k2.extBut D.bi).extBut k3.extBut D.bv) ey fun e4 a4 k4=>wpAny_pure ?_)
   have v4:Trip e4 v x q r:=k4.extBut _ _ D.vj v3;refine wpAny_bind (wpAny_seqItems v4 rfl ?_);refine wpAny_bind (Wh v4 fun e5 v5 k5=>?_);refine wpAny_bind (wpAny_letGo (wpAny_pure ?_));refine wpAny_bind (wpAny_bind (wpAny_onRaise ?_));show wpAny _ _ (Builtin.SmallTypes.nextOf (.ref k)>>=_) _ _ _
   refine wpAny_bind (wpAny_nextOf_list_end hh (((((g3.extBut k1.extBut D.kz).extBut k2.extBut D.ik.symm).extBut k3.extBut D.vk.symm).extBut k4.extBut D.jk.symm).extBut k5.extBut D.vk.symm)
    (((((m3.extBut k1.extBut D.cz).extBut k2.extBut D.ci).extBut k3.extBut D.cv).extBut k4.extBut D.cj).extBut k5.extBut D.cv) et fun e6 e k6 he=>?_)
   obtain⟨oe,hoe,hce⟩:=he;have z6:IsZip e6 z u v .ellipsis:=k6 _ _ D.kz.symm (k5.extBut _ _ D.vz.symm (k4.extBut _ _ D.jz.symm (k3.extBut _ _ D.vz.symm (k2.extBut _ _ D.iz.symm z1))));have ne:e≠z:=fun w'=>by subst w';rw[z6] at hoe;cases hoe;simp at hce
   exact wpAny_setField_rec z6 (by simp) fun e7 _ k7=>fin e7 e (fun d o d1 d2 d3 d4 d5 w'=>k7.extBut _ _ d1 (k6 _ _ d5 (k5.extBut _ _ d2 (k4.extBut _ _ d4 (k3.extBut _ _ d2 (k2.extBut _ _ d3 (k1.extBut _ _ d1 w'))))))) ⟨oe,k7.extBut _ _ ne hoe,hce⟩
theorem next_item {z u v i j k a b c:Addr} {n1 n2 n3:Nat} {xs ys zs:Array Value} {x y t p q r:Value} {Q:Option Value->Shared->Prop} (D:Ap z u v i j k a b c)
  (gz:IsZip s.heap z u v .none) (gu:Trip s.heap u (.ref i) (.ref j) (.ref k)) (gv:Trip s.heap v p q r)
  (g1:s.heap.IsListIter i a n1) (g2:s.heap.IsListIter j b n2) (g3:s.heap.IsListIter k c n3) (m1:s.heap.IsList a xs) (m2:s.heap.IsList b ys) (m3:s.heap.IsList c zs)
  (ex:xs[n1]?=some x) (ey:ys[n2]?=some y) (et:zs[n3]?=some t)
  (fin: ∀hp,IsZip hp z u v (rawInt s.heap.objs.size)->Trip hp v x y t->hp.IsListIter i a (n1+1)->hp.IsListIter j b (n2+1)->hp.IsListIter k c (n3+1)->Trip hp s.heap.objs.size x y t->hp.objs.size=s.heap.objs.size+1->
    Kp z v i j k s.heap hp->Q (some (.ref s.heap.objs.size)) {s with heap:=hp}):
  wpAny (model prog w) A (pyNext (.ref z)) Q E s:=by
 have ty:s.TypeIs (.ref z) "zip":=⟨_,gz,rfl⟩;unfold pyNext
 exact wpAny_bind (wpAny_attempt (wpAny_callSpecial?_slot (name:=Str.ofString "__next__") ty F.slot_zip_next
  (wpAny_call_entry F.slot_zip_next ty F.entry_zip_next
    (Tm D gz gu gv g1 g2 g3 m1 m2 m3 ex ey et fun hp w1 w2 w3 w4 w5 w6 w7 w8=>wpAny_pure (fin hp w1 w2 w3 w4 w5 w6 w7 w8)) (F.args_zip_next_1 _))))
theorem next_end {z u v i j k a b c:Addr} {n1 n2 n3:Nat} {xs ys zs:Array Value} {p q r:Value} {Q:Option Value->Shared->Prop} (hh:A.handled=none) (D:Ap z u v i j k a b c)
  (gz:IsZip s.heap z u v .none) (gu:Trip s.heap u (.ref i) (.ref j) (.ref k)) (gv:Trip s.heap v p q r)
  (g1:s.heap.IsListIter i a n1) (g2:s.heap.IsListIter j b n2) (g3:s.heap.IsListIter k c n3) (m1:s.heap.IsList a xs) (m2:s.heap.IsList b ys) (m3:s.heap.IsList c zs)
  (over:xs[n1]?=none∨ys[n2]?=none∨zs[n3]?=none)
  (fin: ∀hp,Kp z v i j k s.heap hp->Q none {s with heap:=hp}):wpAny (model prog w) A (pyNext (.ref z)) Q E s:=by
 have ty:s.TypeIs (.ref z) "zip":=⟨_,gz,rfl⟩;unfold pyNext
 refine wpAny_bind (wpAny_attempt (wpAny_callSpecial?_slot (name:=Str.ofString "__next__") ty F.slot_zip_next
  (wpAny_call_entry F.slot_zip_next ty F.entry_zip_next (Vv hh D gz gu gv g1 g2 g3 m1 m2 m3 over fun hp e kk he=>?_) (F.args_zip_next_1 _))))
 obtain⟨o,ho,hc⟩:=he;refine wpAny_bind (wpAny_isInstance (T:="StopIteration") (b:=true) ⟨o,ho,hc⟩ isSubtype_stop ?_);exact wpAny_pure (fin _ kk)
end
abbrev SA (l:Addr):Obj:={cls:= .type "list_iterator",data:= .fields #[.ref l, .int 0 0]}
abbrev hA (h:Heap) (a b c:Addr):Heap:=((h.push (SA a)).push (SA b)).push (SA c)
abbrev hB (h:Heap) (a b c:Addr):Heap:=(hA h a b c).push {cls:= .type "tuple",data:= .seq #[.ref h.objs.size, .ref (h.push (SA a)).objs.size, .ref ((h.push (SA a)).push (SA b)).objs.size]}
abbrev hC (h:Heap) (a b c:Addr):Heap:=(hB h a b c).push {cls:= .type "tuple",data:= .seq #[.none, .none, .none]}
abbrev hD (h:Heap) (a b c:Addr):Heap:=(hC h a b c).push {cls:= .type "zip",data:= .fields #[.none, .bool false, .bool false, .ref (hA h a b c).objs.size, .ref (hB h a b c).objs.size]}
theorem made (a b c:Addr) (xs ys zs:Array Value):
  Meets (Builtin.«zip.__new__» ⟨[.type "zip", .ref a, .ref b, .ref c],[]⟩) (fun _ R s=>s.heap.IsList a xs/\s.heap.IsList b ys/\s.heap.IsList c zs/\
   R (.ok (.ret (.ref (hC s.heap a b c).objs.size))) {s with heap:=hD s.heap a b c}):=
 .of_wp fun prog w A R s h=>by
  obtain⟨hp,g,d,tk,os⟩:=s;obtain⟨m1,m2,m3,h⟩:=h;have hsub:=sub_zip;have n1:Heap.IsList (Shared.heap ⟨hp,g,d,tk,os⟩) a xs:=m1;have n2:Heap.IsList (Shared.heap ⟨hp.push (SA a),g,d,tk,os⟩) b ys:=Heap.IsList.push m2 _;have n3:Heap.IsList (Shared.heap ⟨(hp.push (SA a)).push (SA b),g,d,tk,os⟩) c zs:=Heap.IsList.push (Heap.IsList.push m3 _) _
  wp_walk using wpAny_pyIter_list n1,wpAny_pyIter_list n2,wpAny_pyIter_list n3
  exact⟨_,rfl,h⟩
section
variable {prog:Program} {w:World} {A:Around} {E:Value->Shared->Prop} {s:Shared}
theorem call3 {a b c:Addr} {xs ys zs:Array Value} {Q:Value->Shared->Prop} (m1:s.heap.IsList a xs) (m2:s.heap.IsList b ys) (m3:s.heap.IsList c zs)
  (fin: ∀hp,IsZip hp (s.heap.objs.size+5) (s.heap.objs.size+3) (s.heap.objs.size+4) .none->Trip hp (s.heap.objs.size+3) (.ref s.heap.objs.size) (.ref (s.heap.objs.size+1)) (.ref (s.heap.objs.size+2))->
    Trip hp (s.heap.objs.size+4) .none .none .none->hp.IsListIter s.heap.objs.size a 0->hp.IsListIter (s.heap.objs.size+1) b 0->hp.IsListIter (s.heap.objs.size+2) c 0->
    (∀d o,s.heap.get? d=some o->hp.get? d=some o)->Q (.ref (s.heap.objs.size+5)) {s with heap:=hp}):
  wpAny (model prog w) A (call (.type "zip") [.ref a, .ref b, .ref c]) Q E s:=by
 refine callType_new F.called_zip (by decide) (VL _ _ _) (X5 _ _ _) (fun obj=>Wo obj _ _ _) F.entry_zip_new (made a b c xs ys zs) ⟨m1,m2,m3,?_⟩;have z1:(s.heap.push (SA a)).objs.size=s.heap.objs.size+1:=Heap.size_push ..;have z2:((s.heap.push (SA a)).push (SA b)).objs.size=s.heap.objs.size+2:=by rw[Heap.size_push,z1]
 have z3:(hA s.heap a b c).objs.size=s.heap.objs.size+3:=by rw[Heap.size_push,z2]
 have z4:(hB s.heap a b c).objs.size=s.heap.objs.size+4:=by rw[Heap.size_push,z3]
 have z5:(hC s.heap a b c).objs.size=s.heap.objs.size+5:=by rw[Heap.size_push,z4]
 have up: ∀d o,(hA s.heap a b c).get? d=some o->(hD s.heap a b c).get? d=some o:=fun d o e=>Heap.get?_push_of_some _ (Heap.get?_push_of_some _ (Heap.get?_push_of_some _ e));have q6:(hD s.heap a b c).get? (hC s.heap a b c).objs.size=some _:=Heap.get?_push_size _ rfl;have q5:(hD s.heap a b c).get? (hB s.heap a b c).objs.size=some _:=Heap.get?_push_of_some _ (Heap.get?_push_size _ rfl);have q4:(hD s.heap a b c).get? (hA s.heap a b c).objs.size=some _:=Heap.get?_push_of_some _ (Heap.get?_push_of_some _ (Heap.get?_push_size _ rfl));have q3:(hD s.heap a b c).get? ((s.heap.push (SA a)).push (SA b)).objs.size=some _:=up _ _ (Heap.get?_push_size _ rfl);have q2:(hD s.heap a b c).get? (s.heap.push (SA a)).objs.size=some _:=up _ _ (Heap.get?_push_of_some _ (Heap.get?_push_size _ rfl));have q1:(hD s.heap a b c).get? s.heap.objs.size=some _:=up _ _ (Heap.get?_push_of_some _ (Heap.get?_push_of_some _ (Heap.get?_push_size _ rfl)));show _/\_;rw[z3,z4,z5] at q6;rw[z4] at q5;rw[z1,z2,z3] at q4;rw[z2] at q3;rw[z1] at q2;rw[z5];exact⟨⟨_,q6,rfl⟩,fin _ q6 q4 q5 ⟨_,q1,rfl,rfl⟩ ⟨_,q2,rfl,rfl⟩ ⟨_,q3,rfl,rfl⟩ fun d o e=>up _ _ (Heap.get?_push_of_some _ (Heap.get?_push_of_some _ (Heap.get?_push_of_some _ e)))⟩
end
end Z3
namespace Pf
open PySem PySem.Spec PyProof.Rows L2
def Itz3 (K:PySem.W.Frag) (a b c:Addr):It:=
 ⟨fun i H=> ∃(xs ys zs:List V) (x y z:V),SqL K H a xs/\SqL K H b ys/\SqL K H c zs/\xs[i]?=some x/\ys[i]?=some y/\zs[i]?=some z,
   fun i H v H'=> ∃T x y z,v= .ref T/\H T=none/\H'=upd H T (.tup [x,y,z])/\(∀xs,SqL K H a xs->xs[i]?=some x)/\(∀ys,SqL K H b ys->ys[i]?=some y)/\ ∀zs,SqL K H c zs->zs[i]?=some z,
   fun i H=> ∃xs ys zs:List V,SqL K H a xs/\SqL K H b ys/\SqL K H c zs/\(xs.length<=i∨ys.length<=i∨zs.length<=i)⟩
def St3 (z u v i j k a b c:Addr) (n:Nat) (h:Heap):Prop:=IsZip h z u v .none/\Z3.Trip h u (.ref i) (.ref j) (.ref k)/\(∃p q r,Z3.Trip h v p q r)/\h.IsListIter i a n/\h.IsListIter j b n/\h.IsListIter k c n
theorem TD {P:Program} {w:World} {K:PySem.W.Frag} {elts:List Expr} {kk:Nat} {tpos:Pos} {z u v i j k a b c:Addr} (D:Z3.Ap z u v i j k a b c):
  Turn P w K (.Tuple elts kk tpos) (Itz3 K a b c) [z,u,v,i,j,k] z (St3 z u v i j k a b c) where
 mem:=by simp
 obj:=fun n h st d hd=>by
  obtain⟨gz,gu,⟨p,q,r,gv⟩,⟨o1,e1,_,d1⟩,⟨o2,e2,_,d2⟩,⟨o3,e3,_,d3⟩⟩:=st;have e':d=z∨d=u∨d=v∨d=i∨d=j∨d=k:=by simpa using hd
  rcases e' with q|q|q|q|q|q
  ·rw[q];exact⟨_,gz,fun v q=>nomatch q⟩
  ·rw[q];exact⟨_,gu,fun v q=>nomatch q⟩
  ·rw[q];exact⟨_,gv,fun v q=>nomatch q⟩
  ·rw[q];exact⟨o1,e1,fun v q=>by rw[d1] at q;cases q⟩
  ·rw[q];exact⟨o2,e2,fun v q=>by rw[d2] at q;cases q⟩
  ·rw[q];exact⟨o3,e3,fun v q=>by rw[d3] at q;cases q⟩
 keep:=fun n h h' st kp=>by
  obtain⟨gz,gu,⟨p,q,r,gv⟩,g1,g2,g3⟩:=st;exact⟨kp z (by simp) _ gz,kp u (by simp) _ gu,⟨p,q,r,kp v (by simp) _ gv⟩,g1.at fun o q=>kp i (by simp) o q,g2.at fun o q=>kp j (by simp) o q,g3.at fun o q=>kp k (by simp) o q⟩
 item:=by
  intro X hP hw hK hc n pins s σ H E I hf st hg;subst hP hw hK;obtain⟨gz,gu,⟨p0,q0,r0,gv⟩,g1,g2,g3⟩:=st;obtain⟨xs,ys,zs,x,y,t,qx,qy,qz,ex,ey,et⟩:=hg;obtain⟨i1,r1,p1,_⟩:=I.list qx;obtain⟨i2,r2,p2,_⟩:=I.list qy;obtain⟨i3,r3,p3,_⟩:=I.list qz;obtain⟨u1,h1,v1⟩:=r1.get ex;obtain⟨u2,h2,v2⟩:=r2.get ey;obtain⟨u3,h3,v3⟩:=r3.get et;have zl:z<s.heap.objs.size:=Heap.lt_size gz;refine Z3.next_item D gz gu gv g1 g2 g3 p1.isList p2.isList p3.isList (x:=u1) (y:=u2) (t:=u3) (by simpa using h1) (by simpa using h2) (by simpa using h3) fun h' z' gv' g1' g2' g3' hT _ kp=>?_;refine⟨_,rfl,wpAny_letOwnedTupleGo_zip (s:={s with heap:=h'}) z' fun h'' z'' sb=>?_⟩;have hT2:h''.get? s.heap.objs.size=some {cls:= .type "tuple",data:= .seq #[u1,u2,u3]}:=(sb.2 _ (Nat.ne_of_gt zl)).trans hT
  have new:ObjOk X.prog X.w (upd H s.heap.objs.size (.tup [x,y,t])) h'' s.heap.objs.size (.tup [x,y,t]):=
   ⟨by show 3<=sizeLine;decide,[u1,u2,u3], .cons v1 (.cons v2 (.cons v3 .nil)),⟨_,hT2,rfl,_,rfl⟩⟩
  have I1:Inv X pins σ (upd H s.heap.objs.size (.tup [x,y,t])) {s with heap:=h''}:=
   I.turnedNew (t':=s.toks) (ch:=[z,u,v,i,j,k]) (fun d o hb q=>(sb.2 d (fun q'=>hb (by simp[q']))).trans (kp d o (fun q'=>hb (by simp[q'])) (fun q'=>hb (by simp[q'])) (fun q'=>hb (by simp[q'])) (fun q'=>hb (by simp[q'])) (fun q'=>hb (by simp[q'])) q)) hf (Nat.le_refl _) new
  refine⟨.ref s.heap.objs.size,_,I1,rfl,⟨_,x,y,t,rfl,I.hok.fresh (Nat.le_refl _),rfl,(fun l hl=>by rw[I.list_inj hl qx];exact ex),(fun l hl=>by rw[I.list_inj hl qy];exact ey),fun l hl=>by rw[I.list_inj hl qz];exact et⟩,⟨z'',?_,⟨u1,u2,u3,?_⟩,?_,?_,?_⟩,fun d hd=>?_⟩
  ·exact(sb.2 _ D.uz).trans (kp _ _ D.uz D.uv D.ui D.uj D.uk gu)
  ·exact(sb.2 _ D.vz).trans gv'
  ·exact g1'.at fun o q=>(sb.2 _ D.iz).trans q
  ·exact g2'.at fun o q=>(sb.2 _ D.jz).trans q
  ·exact g3'.at fun o q=>(sb.2 _ D.kz).trans q
  ·have lt:d<s.heap.objs.size:=by
    have e':d=z∨d=u∨d=v∨d=i∨d=j∨d=k:=by simpa using hd
    rcases e' with q|q|q|q|q|q
    ·rw[q];exact zl
    ·rw[q];exact Heap.lt_size gu
    ·rw[q];exact Heap.lt_size gv
    ·rw[q];obtain⟨_,e1,_⟩:=g1;exact Heap.lt_size e1
    ·rw[q];obtain⟨_,e2,_⟩:=g2;exact Heap.lt_size e2
    ·rw[q];obtain⟨_,e3,_⟩:=g3;exact Heap.lt_size e3
   rw[Ja (Nat.ne_of_lt lt)];exact(hf d hd).1
 done:=by
  intro X hP hw hK hc n pins s σ H E I hf st hg;subst hP hw hK;obtain⟨gz,gu,⟨p0,q0,r0,gv⟩,g1,g2,g3⟩:=st;obtain⟨xs,ys,zs,qx,qy,qz,over⟩:=hg;obtain⟨i1,r1,p1,_⟩:=I.list qx;obtain⟨i2,r2,p2,_⟩:=I.list qy;obtain⟨i3,r3,p3,_⟩:=I.list qz;have l1:=r1.length;have l2:=r2.length;have l3:=r3.length
  have he:i1.toArray[n]?=none∨i2.toArray[n]?=none∨i3.toArray[n]?=none:=by
   rcases over with q|q|q
   ·exact .inl (by simp;omega)
   ·exact .inr (.inl (by simp;omega))
   ·exact .inr (.inr (by simp;omega))
  exact Z3.next_end (I.ok.hd hc) D gz gu gv g1 g2 g3 p1.isList p2.isList p3.isList he fun h' kp=>⟨rfl,I.turnedL (t':=s.toks) (ch:=[z,u,v,i,j,k]) (fun d o hb q=>
   kp d o (fun q'=>hb (by simp[q'])) (fun q'=>hb (by simp[q'])) (fun q'=>hb (by simp[q'])) (fun q'=>hb (by simp[q'])) (fun q'=>hb (by simp[q'])) q) hf⟩
 self:=fun A n s Q E st h=>wpAny_pyIter_zip st.1 h
def J10 (K:PySem.W.Frag) (ta:TA):TI:=fun σ H R=>ta σ H fun vs H1=> ∃a b c xs ys zs,vs=[.ref a, .ref b, .ref c]/\SqL K H1 a xs/\SqL K H1 b ys/\SqL K H1 c zs/\R (Itz3 K a b c) H1
theorem J09 (n a b c:Nat) (ha:a<n) (hb:b<n) (hc:c<n):Z3.Ap (n+5) (n+3) (n+4) n (n+1) (n+2) a b c:=by
 constructor<;>(intro q;simp only[Addr] at q;omega)
theorem Xa {X:Cx} {e e2 e3:Expr} {ta:TA} {p pos tpos:Pos} {elts:List Expr} {kk:Nat} (hg:Gl X "zip") (hm:X.mg "zip"=none) (ha:PA X [e,e2,e3] ta)
  (hs:starEach [e,e2,e3] X.env=(false,eval e X.env)::starEach [e2,e3] X.env:=by rfl) (hpl:(backTo pos (starEach [e2,e3] X.env)).any (·.1)=false:=by rfl):
  PI X (.Tuple elts kk tpos) (.Call (.Name "zip" p) [e,e2,e3] [] pos) (J10 X.K ta):=by
 intro pins s σ H R I h;refine Call_ (Ck I hg hm P2 (PyProof.Rows.callWith_type1 (Yz (ha pos pins s σ H _ I h) fun us s1 ⟨vs,H1,I1,r1,q1⟩=>?_) hs hpl));obtain⟨a,b,c,xs,ys,zs,ex,qx,qy,qz,q⟩:=q1;subst ex;cases r1 with
 |cons r rr=>
  cases rr with
  |cons r' rr=>
   cases rr with
   |cons r'' rr=>
    cases rr;cases r;cases r';cases r'';obtain⟨i1,w1,p1,_⟩:=I1.list qx;obtain⟨i2,w2,p2,_⟩:=I1.list qy;obtain⟨i3,w3,p3,_⟩:=I1.list qz;refine Z3.call3 p1.isList p2.isList p3.isList fun h' gz gu gv g1 g2 g3 hk=>wpAny_pyIter_zip gz ?_;have I2:Inv X pins σ H1 {s1 with heap:=h'}:=I1.kept (t':=s1.toks) hk;refine⟨s1.heap.objs.size+5,[s1.heap.objs.size+5,s1.heap.objs.size+3,s1.heap.objs.size+4,s1.heap.objs.size,s1.heap.objs.size+1,s1.heap.objs.size+2],_,_,H1,rfl,I2,TD (J09 s1.heap.objs.size a b c p1.lt p2.lt p3.lt),⟨gz,gu,⟨_,_,_,gv⟩,g1,g2,g3⟩,fun d hd=>?_,q⟩
    have le:s1.heap.objs.size<=d:=by
     have e':d=s1.heap.objs.size+5∨d=s1.heap.objs.size+3∨d=s1.heap.objs.size+4∨d=s1.heap.objs.size∨d=s1.heap.objs.size+1∨d=s1.heap.objs.size+2:=by simpa using hd
     rcases e' with z|z|z|z|z|z
     ·rw[z];exact Nat.le_add_right _ _
     ·rw[z];exact Nat.le_add_right _ _
     ·rw[z];exact Nat.le_add_right _ _
     ·rw[z];exact Nat.le_refl _
     ·rw[z];exact Nat.le_add_right _ _
     ·rw[z];exact Nat.le_add_right _ _
    exact I1.fpOk le (I1.hok.fresh le)
theorem Vp {K:PySem.W.Frag} {a b c:Addr} {xs ys zs:List V} {g:TG} {tb:TS} {D:Ends} {σ:L2.St} {H:Hp} (Pv:Nat->L2.St->Hp->Prop) (n:Nat) (hn:xs.length=n/\ys.length=n/\zs.length=n) (h0:Pv 0 σ H)
  (hl: ∀i σ H,Pv i σ H->SqL K H a xs/\SqL K H b ys/\SqL K H c zs)
  (hs: ∀i x y z σ H Tp,xs[i]?=some x->ys[i]?=some y->zs[i]?=some z->H Tp=none->Pv i σ H->g (.ref Tp) σ (upd H Tp (.tup [x,y,z])) fun σ2 H2=>tb {D with nx:=Pv (i+1),ct:=Pv (i+1),bk:=D.nx} σ2 H2)
  (hd: ∀σ H,Pv n σ H->D.nx σ H):
  ∃W:Nat->Nat->L2.St->Hp->Prop,(∃m,W 0 m σ H)/\ ∀i m σ H,W i m σ H->
   ((Itz3 K a b c).stop i H/\D.nx σ H)∨((Itz3 K a b c).go i H/\ ∃N:L2.St->Hp->Prop,(∀σ' H',N σ' H'-> ∃m',m'<m/\W (i+1) m' σ' H')/\ ∀x H',(Itz3 K a b c).yld i H x H'->g x σ H' fun σ2 H2=>tb {D with nx:=N,ct:=N,bk:=D.nx} σ2 H2):=by
 obtain⟨n1,n2,n3⟩:=hn;refine⟨fun i m σ H=>m=n-i/\i<=n/\Pv i σ H,⟨_,rfl,Nat.zero_le _,h0⟩,?_⟩;rintro i m σ H ⟨rfl,hi,p⟩;obtain⟨q1,q2,q3⟩:=hl i σ H p;by_cases hlt:i<n
 ·have l1:i<xs.length:=by omega
  have l2:i<ys.length:=by omega
  have l3:i<zs.length:=by omega
  refine .inr ⟨⟨xs,ys,zs,xs[i],ys[i],zs[i],q1,q2,q3,by simp[l1],by simp[l2],by simp[l3]⟩,Pv (i+1),fun σ' H' p'=>⟨n-(i+1),by omega,rfl,by omega,p'⟩,fun v H' y=>?_⟩;obtain⟨Tp,x,y,z,e1,e2,e3,e4,e5,e6⟩:=y;subst e1 e3;exact hs i x y z σ _ Tp (e4 xs q1) (e5 ys q2) (e6 zs q3) e2 p
 ·have e:i=n:=by omega
  subst e;exact .inl ⟨⟨xs,ys,zs,q1,q2,q3,by omega⟩,hd σ H p⟩
end Pf
namespace Pf
open PySem PySem.Spec PyProof.Rows L2
theorem JW {X:Cx} {x:Str} {i:Int} {t:Tok} {pos:Pos} (hg:Gl X x) (hm:X.mg x=some (.int i t)) (hd:(x==("__debug__":Str))=false:=by decide):PE X (.Name x pos) (tC (.int i)):=T8 hg hm ⟨_,rfl⟩ hd
def YI (i:Nat):Stmt:=PySem.Challenge.pw_sumsstay_s01_answers.main.body.getD i (.Pass ⟨0,0,0,0⟩)
abbrev D8:Stmt:=YI 1
abbrev EX:Stmt:=UZ (YI 3) 0
abbrev IV:Stmt:=YI 4
abbrev Gq:Stmt:=YI 5
abbrev HY:Stmt:=YI 6
abbrev CF:Stmt:=YI 7
abbrev Ai:Stmt:=YI 8
abbrev BD:Stmt:=YI 9
abbrev OV:Stmt:=YI 17
abbrev Fm:Stmt:=YI 18
abbrev Hz:Stmt:=YI 19
abbrev DU:Stmt:=YI 20
abbrev Gj:Stmt:=YI 21
abbrev Ac:Stmt:=YI 22
abbrev Fr:Stmt:=YI 24
abbrev Fq:Stmt:=YI 25
abbrev GU:Stmt:=YI 26
abbrev Ba:Stmt:=YI 27
abbrev KL:Stmt:=UZ (YI 29) 0
abbrev KR:Stmt:=UZ (YI 30) 0
abbrev Bz:Stmt:=YI 31
abbrev Nq:Stmt:=YI 32
abbrev MT:Stmt:=YI 33
abbrev D0:Stmt:=YI 34
abbrev Ef:Stmt:=YI 35
abbrev HN:Stmt:=UZ (YI 37) 0
abbrev Gg:Stmt:=UZ (YI 38) 0
abbrev GG:Stmt:=UZ (YI 39) 0
abbrev D5:Stmt:=YI 40
abbrev CN:Stmt:=YI 41
abbrev BV:Stmt:=YI 42
abbrev D1:Stmt:=YI 43
abbrev Ag:Stmt:=YI 44
abbrev Av:Stmt:=YI 45
abbrev ER:Stmt:=YI 46
abbrev Fs:Stmt:=YI 47
abbrev K4:Stmt:=YI 48
abbrev DQ:Stmt:=YI 49
abbrev N7:Stmt:=YI 50
abbrev Eg:Stmt:=YI 51
abbrev By:Stmt:=YI 53
abbrev CD:Stmt:=YI 54
abbrev D4:Stmt:=YI 55
abbrev MO:Stmt:=YI 57
abbrev Fp:Stmt:=YI 58
abbrev Ek:Stmt:=YI 59
abbrev An:Stmt:=YI 60
abbrev KP:Stmt:=YI 61
abbrev HE:Stmt:=YI 62
abbrev Af:Stmt:=YI 63
abbrev AI:Stmt:=YI 64
abbrev BM:Stmt:=YI 65
abbrev AY:Stmt:=YI 66
abbrev Gh:Stmt:=YI 67
abbrev EI:Stmt:=UZ (YI 69) 0
abbrev LY:Stmt:=YI 70
abbrev HA:Stmt:=YI 71
abbrev F9:Stmt:=YI 72
abbrev Bw:Stmt:=YI 73
abbrev Kf:Stmt:=YI 74
abbrev Fc:Stmt:=YI 75
abbrev D6:Stmt:=YI 76
abbrev Eh:Stmt:=YI 77
abbrev OL:Stmt:=YI 78
abbrev LL:Stmt:=YI 79
abbrev Ds:Stmt:=YI 81
abbrev Fb:Stmt:=YI 82
abbrev CO:Stmt:=YI 83
abbrev Hj:Stmt:=YI 84
abbrev He:Stmt:=YI 85
abbrev Ic:Stmt:=YI 86
abbrev EM:Stmt:=YI 87
abbrev DO:Stmt:=YI 88
abbrev EC:Stmt:=YI 89
abbrev F6:Stmt:=YI 90
abbrev F5:Stmt:=YI 91
abbrev Bv:Stmt:=YI 92
abbrev HC:Stmt:=YI 93
abbrev Hb:Stmt:=UZ (YI 96) 0
abbrev GI:Stmt:=UZ (YI 97) 0
abbrev Hu:Stmt:=YI 98
abbrev Fa:Stmt:=YI 99
abbrev Up:Stmt:=YI 100
abbrev ZO:Stmt:=YI 101
abbrev Aq:Stmt:=YI 102
abbrev Ar:Stmt:=YI 103
abbrev DM:Stmt:=YI 104
abbrev MG:Stmt:=YI 105
set_option genInjectivity false in
structure Adr where
 (Ej Hm Nh KB Kq Dl AU CH RQ Gn KZ Fo K7 AT Gr Gx KC BX No MW CY P6 Ov DF Fk L4 KJ Ky Dp E9 D7 DL AO B3 Gy HM Nd ED Op Fh CB DP Dd OX Hc EH AQ LK KN Bb BN CS Bu KD Gd OA IU Hv Cy MQ Gv DK EL RE OH F4 GW Di Kz K6 Kr Gu Fl Hk HR GE Db Kk Kh IW IY GL Uw ZZ AS AR Ff OD:Addr)
 (Dx Ho LU K8 Ku Dy AW CW QC Go K3 EO K0 AF Ht Gz IZ BQ Nn Nm CG OT OM Ed Fi Kt KQ KO Dz DV Cu Dm AE AM GO HX M6 F8 OF EK CU E4 Dk P3 GR F0 B4 Na Ki AN BE Cw Bs Kv HD On Kb Ge Da My Hr Ec EV QT P1 EF HV De Kl KA Kd HP EY HZ GA Ha CP Kx KS KF KM Ga Ux U4 AL AZ EQ Oz:FuncData)
 (ZD Zg CQ Zs Bh DI YU JU UV:Addr)
 N6:Tok
 Lp:Tok
 Ro:Tok
 t_NO_TREE:Tok
 NW:Tok
 QR:Tok
 RH:Addr
def rows_SHAPES:List (Int×List Int):=[(0,[1,3]),(1,[2,0]),(2,[2,0]),(3,[1,0]),(4,[0,0]),(5,[0,0]),(6,[0,0]),(7,[0,2]),(8,[0,1]),(9,[0,0]),(10,[0,1]),(11,[3,0]),(12,[4,1]),(13,[4,2]),(14,[1,2]),(15,[0,0]),(16,[0,0]),(17,[0,2]),(18,[0,0]),(19,[0,1]),(20,[0,1]),(21,[0,0])]
structure Txt (K:PySem.W.Frag) (mg:Str->Option Value) (A:Adr):Prop where
 Uk:FT K mg "units_beside" D8 ["number","base"] A.Ej A.Dx
 Cn:FT K mg "spans_of" IV ["size"] A.Nh A.LU
 KI:FT K mg "places_of" Gq ["sizes","firsts","seconds","thirds"] A.KB A.K8
 Do:FT K mg "bounds_of" HY ["base","sizes","cells"] A.Kq A.Ku
 Aw:FT K mg "keeps_bounds" CF ["row","bounds"] A.Dl A.Dy
 B6:FT K mg "is_box_rounding" Ai ["base","sizes","cells","row"] A.AU A.AW
 CC:FT K mg "box_roundings" BD ["base","sizes","cells"] A.CH A.CW
 ZK:FT K mg "within" OV ["number","least","greatest"] A.RQ A.QC
 Y1:FT K mg "all_within" Fm ["numbers","least","greatest"] A.Gn A.Go
 AH:FT K mg "are_cells" Hz ["numbers","most"] A.KZ A.K3
 YK:FT K mg "are_amounts" DU ["numbers"] A.Fo A.EO
 E8:FT K mg "are_nodes" Gj ["numbers"] A.K7 A.K0
 B5:FT K mg "is_set_of_nodes" Ac ["numbers","count"] A.AT A.AF
 C0:FT K mg "may_be_box" Fr ["base","sizes","cells"] A.Gr A.Ht
 Cg:FT K mg "cell_count" Fq ["sizes"] A.Gx A.Gz
 Kw:FT K mg "call_cube" GU ["base","sizes","cells"] A.KC A.IZ
 BW:FT K mg "call_cubecheck" Ba ["base","sizes","cells","numbers"] A.BX A.BQ
 Z7:FT K mg "left_at_nodes" Bz ["net","amounts"] A.CY A.CG
 IJ:FT K mg "cost_of" Nq ["net","amounts"] A.P6 A.OT
 Et:FT K mg "is_flow" MT ["net","amounts"] A.Ov A.OM
 DY:FT K mg "proves_least" D0 ["net","amounts","node_prices"] A.DF A.Ed
 Bj:FT K mg "overfull_by" Ef ["net","nodes"] A.Fk A.Fi
 U8:FT K mg "rests_beside" D5 ["net","amounts","prices"] A.Dp A.Dz
 DB:FT K mg "take_cheaper" CN ["ways","rests"] A.E9 A.DV
 ZR:FT K mg "cheapest_ways" BV ["count","starts","rests"] A.D7 A.Cu
 DD:FT K mg "rests_on_way" D1 ["ways","goal"] A.DL A.Dm
 Uj:FT K mg "nodes_with_more" Ag ["left"] A.AO A.AE
 AV:FT K mg "ordering_prices" Av ["net"] A.B3 A.AM
 Hy:FT K mg "push_along" ER ["amounts","rests","most"] A.Gy A.GO
 GP:FT K mg "level_once" Fs ["net","amounts","prices"] A.HM A.HX
 MZ:FT K mg "levelled" K4 ["net"] A.Nd A.M6
 Fg:FT K mg "stuck_nodes" DQ ["net","amounts","more"] A.ED A.F8
 Bp:FT K mg "told_of" N7 ["net"] A.Op A.OF
 Ft:FT K mg "told_prices" Eg ["net","amounts"] A.Fh A.EK
 UU:FT K mg "prices_answer" By ["net"] A.CB A.CU
 As:FT K mg "check_answer" CD ["net","amounts","node_prices"] A.DP A.E4
 At:FT K mg "shows_answer" D4 ["net","nodes"] A.Dd A.Dk
 Iy:FT K mg "arcs_in" MO ["numbers"] A.OX A.P3
 Ia:FT K mg "may_be_arc" Fp ["arc"] A.Hc A.GR
 Fd:FT K mg "may_be_arcs" Ek ["numbers"] A.EH A.F0
 AK:FT K mg "may_be_supplies" An ["numbers"] A.AQ A.B4
 Mm:FT K mg "call_net" KP ["line","count","supplies","numbers"] A.LK A.Na
 IX:FT K mg "call_flow" HE ["line"] A.KN A.Ki
 B8:FT K mg "call_flowprices" Af ["line"] A.Bb A.AN
 BH:FT K mg "call_flowcheck" AI ["line","amounts","node_prices"] A.BN A.BE
 CJ:FT K mg "call_flownone" BM ["line"] A.CS A.Cw
 BI:FT K mg "call_flowshows" AY ["line","nodes"] A.Bu A.Bs
 L5:FT K mg "call_cost" Gh ["line","amounts"] A.KD A.Kv
 Ii:FT K mg "is_tree" LY ["above"] A.OA A.On
 YC:FT K mg "leaves_of" HA ["above"] A.IU A.Kb
 A3:FT K mg "told_count" F9 ["table"] A.Hv A.Ge
 UT:FT K mg "sums_of_nodes" Bw ["above","leaf_sums"] A.Cy A.Da
 C1:FT K mg "truth_of" Kf ["table"] A.MQ A.My
 Ch:FT K mg "weights_of" Fc ["table"] A.Gv A.Hr
 Eb:FT K mg "ends_of_arcs" D6 ["table"] A.DK A.Ec
 ET:FT K mg "rounded_arc" Eh ["ends","base","true","weight"] A.EL A.EV
 AA:FT K mg "net_of" OL ["table"] A.RE A.QT
 IP:FT K mg "how_far" LL ["table","amounts"] A.OH A.P1
 Be:FT K mg "may_be_tree" Ds ["numbers"] A.F4 A.EF
 Gs:FT K mg "call_table" Fb ["line","base","rows","columns","cells"] A.GW A.HV
 DR:FT K mg "call_weights" CO ["line","cell_weight","sum_weight"] A.Di A.De
 KW:FT K mg "call_keep" Hj ["line","number","amount"] A.Kz A.Kl
 Kn:FT K mg "call_free" He ["line","number"] A.K6 A.KA
 KK:FT K mg "call_arcs" Ic ["line"] A.Kr A.Kd
 GJ:FT K mg "call_round" EM ["line"] A.Gu A.HP
 Fn:FT K mg "call_prices" DO ["line"] A.Fl A.EY
 HH:FT K mg "call_check" EC ["line","amounts","node_prices"] A.Hk A.HZ
 GH:FT K mg "call_shows" F6 ["line","nodes"] A.HR A.GA
 GY:FT K mg "call_truth" F5 ["line"] A.GE A.Ha
 Cz:FT K mg "call_distance" Bv ["line","amounts"] A.Db A.CP
 K9:FT K mg "call_cell" HC ["line","row_place","column_place","number"] A.Kk A.Kx
 Ke:FT K mg "read_call" Hu ["calls","begin"] A.IY A.KM
 GT:FT K mg "call_sizes" Fa ["line"] A.GL A.Ga
 Uu:FT K mg "answer_table_change" Up ["line","number","numbers","lists"] A.Uw A.Ux
 U3:FT K mg "answer_table_question" ZO ["line","number","lists"] A.ZZ A.U4
 AG:FT K mg "answer_box_call" Aq ["number","numbers","lists"] A.AS A.AL
 AJ:FT K mg "answer_net_call" Ar ["line","number","numbers","lists"] A.AR A.AZ
 EE:FT K mg "answer_call" DM ["line","call"] A.Ff A.EQ
 IC:FT K mg "answers" MG ["calls"] A.OD A.Oz
 Zy:CT K mg "Bound" "Bound.__init__" EX ["self","places","least","greatest"] ["places","least","greatest"] A.ZD A.Hm A.Ho
 YM:CT K mg "Arc" "Arc.__init__" KL ["self","tail","head","least","greatest","price"] ["tail","head","least","greatest","price"] A.Zg A.No A.Nn
 UD:CT K mg "Net" "Net.__init__" KR ["self","supplies","arcs"] ["supplies","arcs"] A.CQ A.MW A.Nm
 Yp:CT K mg "Rest" "Rest.__init__" HN ["self","start","end","price","number","step","room"] ["start","end","price","number","step","room"] A.Zs A.L4 A.Kt
 U6:CT K mg "Told" "Told.__init__" Gg ["self","amounts","nodes"] ["amounts","nodes"] A.Bh A.KJ A.KQ
 UL:CT K mg "Ways" "Ways.__init__" GG ["self","costs","lasts"] ["costs","lasts"] A.DI A.Ky A.KO
 Yd:CT K mg "Table" "Table.__init__" EI ["self","base","rows","columns","cells"] ["base","rows","columns","cells","cell_weight","sum_weight","kept"] A.YU A.Gd A.HD
 UO:CT K mg "Line" "Line.__init__" Hb ["self"] ["table","net"] A.JU A.Kh A.KS
 Zp:CT K mg "Call" "Call.__init__" GI ["self","number","numbers","lists","end"] ["number","numbers","lists","end"] A.UV A.IW A.KF
 JF:mg "OUT_OF_RANGE"=some (.int (-1) A.N6)
 Jt:mg "NOTHING_BEGUN"=some (.int (-2) A.Lp)
 UK:mg "NOT_THERE"=some (.int (-3) A.Ro)
 c_NO_TREE:mg "NO_TREE"=some (.int (-5) A.t_NO_TREE)
 Za:mg "NOT_AS_MANY"=some (.int (-6) A.NW)
 QV:mg "NOT_LEVEL"=some (.int (-7) A.QR)
 Rq:mg "SHAPES"=some (.ref A.RH)/\KdOk K A.RH rows_SHAPES
 JG:mg "len"=none
 Ph:mg "list"=none
 Kj:mg "zip"=none
 U0:mg "enumerate"=none
 Zz:mg "range"=none
 RV:mg "reversed"=none
 Mw:mg "sum"=none
 Xz:mg "min"=none
 J0s:mg "abs"=none
 Ru:mg "all"=none
 Qv:mg "int"=none
 J0z:mg "set"=none
section
variable {K:PySem.W.Frag} {mg:Str->Option Value} {A:Adr} (T:Txt K mg A)
include T
theorem Txt.Ao:Cls K A.ZD:=T.Zy.c
theorem Txt.Ak:NoAttr K A.ZD "places":=T.Zy.n.1
theorem Txt.EU:NoAttr K A.ZD "least":=T.Zy.n.2.1
theorem Txt.BR:NoAttr K A.ZD "greatest":=T.Zy.n.2.2.1
theorem Txt.JD:Cls K A.Zg:=T.YM.c
theorem Txt.YQ:NoAttr K A.Zg "tail":=T.YM.n.1
theorem Txt.YR:NoAttr K A.Zg "head":=T.YM.n.2.1
theorem Txt.Yn:NoAttr K A.Zg "least":=T.YM.n.2.2.1
theorem Txt.JZ:NoAttr K A.Zg "greatest":=T.YM.n.2.2.2.1
theorem Txt.Zl:NoAttr K A.Zg "price":=T.YM.n.2.2.2.2.1
theorem Txt.Yf:Cls K A.CQ:=T.UD.c
theorem Txt.Y8:NoAttr K A.CQ "supplies":=T.UD.n.1
theorem Txt.JR:NoAttr K A.CQ "arcs":=T.UD.n.2.1
theorem Txt.YT:Cls K A.Zs:=T.Yp.c
theorem Txt.UY:NoAttr K A.Zs "start":=T.Yp.n.1
theorem Txt.Cp:NoAttr K A.Zs "end":=T.Yp.n.2.1
theorem Txt.HU:NoAttr K A.Zs "price":=T.Yp.n.2.2.1
theorem Txt.Fj:NoAttr K A.Zs "number":=T.Yp.n.2.2.2.1
theorem Txt.KH:NoAttr K A.Zs "step":=T.Yp.n.2.2.2.2.1
theorem Txt.Kc:NoAttr K A.Zs "room":=T.Yp.n.2.2.2.2.2.1
theorem Txt.Yv:Cls K A.Bh:=T.U6.c
theorem Txt.JJ:NoAttr K A.Bh "amounts":=T.U6.n.1
theorem Txt.Ue:NoAttr K A.Bh "nodes":=T.U6.n.2.1
theorem Txt.ZT:Cls K A.DI:=T.UL.c
theorem Txt.YG:NoAttr K A.DI "costs":=T.UL.n.1
theorem Txt.UX:NoAttr K A.DI "lasts":=T.UL.n.2.1
theorem Txt.Jl:Cls K A.YU:=T.Yd.c
theorem Txt.BZ:NoAttr K A.YU "base":=T.Yd.n.1
theorem Txt.Y7:NoAttr K A.YU "rows":=T.Yd.n.2.1
theorem Txt.JN:NoAttr K A.YU "columns":=T.Yd.n.2.2.1
theorem Txt.Yo:NoAttr K A.YU "cells":=T.Yd.n.2.2.2.1
theorem Txt.ZJ:NoAttr K A.YU "cell_weight":=T.Yd.n.2.2.2.2.1
theorem Txt.Z5:NoAttr K A.YU "sum_weight":=T.Yd.n.2.2.2.2.2.1
theorem Txt.YH:NoAttr K A.YU "kept":=T.Yd.n.2.2.2.2.2.2.1
theorem Txt.Jg:Cls K A.JU:=T.UO.c
theorem Txt.Je:NoAttr K A.JU "table":=T.UO.n.1
theorem Txt.Jo:NoAttr K A.JU "net":=T.UO.n.2.1
theorem Txt.Z0:Cls K A.UV:=T.Zp.c
theorem Txt.EZ:NoAttr K A.UV "number":=T.Zp.n.1
theorem Txt.Zq:NoAttr K A.UV "numbers":=T.Zp.n.2.1
theorem Txt.Zv:NoAttr K A.UV "lists":=T.Zp.n.2.2.1
theorem Txt.MJ:NoAttr K A.UV "end":=T.Zp.n.2.2.2.1
end
end Pf
namespace Pf
open PySem PySem.Spec PyProof.Rows L2
open VbcsFlow (Arc Net at_)
theorem _root_.L2.Same.put {H H1:Hp} {a:Addr} {o:HO} (s:Same H H1) (h:H a=none):Same H (upd H1 a o):=fun b u e=>by
 rw[Ja (Jv e h)];exact s b u e
theorem _root_.L2.Same.new {H H1:Hp} {a:Addr} {o:HO} (s:Same H H1) (h:H1 a=none):Same H (upd H1 a o):=s.put (s.free h)
theorem Y2 {H:Hp} {a b:Addr} {o u:HO} (e:H b=some u) (h:H a=none):upd H a o b=some u:=by
 rw[Ja (Jv e h)];exact e
theorem J0d {L:List Int} {i:Nat} (h:i<L.length):(L.map V.int)[i]?=some (.int (at_ L i)):=by
 rw[List.getElem?_map,List.getElem?_eq_getElem h];unfold at_
 rw[List.getD_eq_getElem?_getD,List.getElem?_eq_getElem h];rfl
theorem UC {L:List Int} {i:Nat} (h:i<L.length):Nu (L.map V.int) (i:Int)=some (.int (at_ L i)):=A0 (J0d h)
theorem Ea {α:Type} {L:List α} {i:Nat} (h:i<L.length):Tq L.length (i:Int)=some i:=by
 unfold Tq;rw[if_pos (by omega),if_pos (by omega)];simp
theorem EB {L:List Int} {i:Nat} {z:Int}:(L.map V.int).set i (.int z)=(L.set i z).map V.int:=by
 rw[List.map_set]
def DE (a:Arc):List (Str×V):=[("tail", .int a.src),("head", .int a.dst),("least", .int a.least),("greatest", .int a.most),("price", .int a.price)]
def ArcAt (A:Adr) (H:Hp) (p:Addr) (a:Arc):Prop:= ∃dx,H p=some (.ins A.Zg dx (DE a))
structure NetAt (A:Adr) (H:Hp) (p:Addr) (g:Net) (ps pa:Addr) (as:List Addr) (dx:Addr):Prop where
 obj:H p=some (.ins A.CQ dx [("supplies", .ref ps),("arcs", .ref pa)])
 sup:H ps=some (.lst (g.supply.map V.int))
 lst:H pa=some (.lst (as.map V.ref))
 len:as.length=g.arcs.length
 arc: ∀(j:Nat) (q:Addr),as[j]?=some q->ArcAt A H q (FM.arc g j)
 n:g.n=g.supply.length
 sm1:g.n<=100
 sm2:g.arcs.length<=1000
theorem ArcAt.same {A:Adr} {H H':Hp} {p:Addr} {a:Arc} (s:Same H H') (h:ArcAt A H p a):ArcAt A H' p a:=by
 obtain⟨dx,h⟩:=h;exact⟨dx,s _ _ h⟩
theorem NetAt.same {A:Adr} {H H':Hp} {p:Addr} {g:Net} {ps pa:Addr} {as:List Addr} {dx:Addr} (s:Same H H') (h:NetAt A H p g ps pa as dx):NetAt A H' p g ps pa as dx:=
 ⟨s _ _ h.obj,s _ _ h.sup,s _ _ h.lst,h.len,fun j q e=>(h.arc j q e).same s,h.n,h.sm1,h.sm2⟩
theorem Al (a:Arc):(DE a).lookup ("tail":Str)=some (.int a.src):=rfl
theorem Ab (a:Arc):(DE a).lookup ("head":Str)=some (.int a.dst):=rfl
theorem Uy (a:Arc):(DE a).lookup ("least":Str)=some (.int a.least):=rfl
theorem AB (a:Arc):(DE a).lookup ("greatest":Str)=some (.int a.most):=rfl
theorem BJ (a:Arc):(DE a).lookup ("price":Str)=some (.int a.price):=rfl
end Pf
namespace Pf
open PySem PySem.Spec PyProof.Rows L2
open VbcsFlow (Arc Net at_)
theorem Il {i j:Int} {A B:Prop} (h1:i≠j->A) (h2:i=j->B):if(!decide (V.int i=V.int j))=true then A else B:=by
 by_cases h:i=j
 ·subst h;rw[if_neg (by simp)];exact h2 rfl
 ·rw[if_pos (by simp[h])];exact h1 h
theorem Vu {i j:Int} {A B:Prop} (h1:i=j->A) (h2:i≠j->B):if(decide (V.int i=V.int j))=true then A else B:=by
 by_cases h:i=j
 ·subst h;rw[if_pos (by simp)];exact h1 rfl
 ·rw[if_neg (by simp[h])];exact h2 h
theorem Ig {c A B:Prop} [Decidable c] (h1:c->A) (h2: ¬c->B):if(decide c)=true then A else B:=by
 by_cases h:c
 ·rw[if_pos (by simp[h])];exact h1 h
 ·rw[if_neg (by simp[h])];exact h2 h
theorem Vh {b:Bool} {A B:Prop} (h1:b=true->A) (h2:b=false->B):if b=true then A else B:=by
 cases b
 ·exact Ya (h2 rfl)
 ·exact JV (h1 rfl)
theorem Y3 {as:List Addr} {i:Nat} {v:V} (h:(as.map V.ref)[i]?=some v): ∃c,as[i]?=some c/\v= .ref c:=by
 rw[List.getElem?_map] at h;cases e:as[i]? with
 |none=>rw[e] at h;cases h
 |some c=>rw[e] at h;exact⟨c,rfl,(Option.some.inj h).symm⟩
theorem ZW {x:List Int} {i:Nat} {v:V} (h:(x.map V.int)[i]?=some v):i<x.length/\v= .int (at_ x i):=by
 rw[List.getElem?_map] at h;cases e:x[i]? with
 |none=>rw[e] at h;cases h
 |some c=>
  rw[e] at h;refine⟨(List.getElem?_eq_some_iff.mp e).1,?_⟩;unfold VbcsFlow.at_;rw[List.getD_eq_getElem?_getD,e];exact(Option.some.inj h).symm
theorem JL {α:Type} {as:List α} {i:Nat} {c:α} (h:as[i]?=some c):i<as.length:=(List.getElem?_eq_some_iff.mp h).1
theorem QL (z:Int) (l:List Int):Wn (.int z) (l.map V.int)=decide (z∈l):=by
 unfold Wn;rw[List.any_map]
 induction l with
 |nil=>rfl
 |cons a l ih=>
  rw[List.any_cons,ih];show((a==z)||decide (z∈l))=decide (z∈a::l);by_cases h:a=z
  ·subst h;simp
  ·have h':(a==z)=false:=by simp[h]
   have h2: ¬z=a:=fun q=>h q.symm;rw[h'];simp[h2]
theorem BK (l:List Int):(l.map V.int).all Du=true:=by
 rw[List.all_map];simp[Du]
end Pf
namespace Pf
section
variable {P:Program} {w:World} {K:PySem.W.Frag} {mg:Str->Option Value} {base:Heap} {A:Adr}
open PySem PySem.Spec PyProof.Rows L2
theorem RB:FnScope ["self","tail","head","least","greatest","price"] ["self","tail","head","least","greatest","price"] (J8 KL):=JH rfl rfl rfl (by decide+kernel)
theorem Rn:FnScope ["self","supplies","arcs"] ["self","supplies","arcs"] (J8 KR):=JH rfl rfl rfl (by decide+kernel)
theorem ZB:FnScope ["net","amounts","left","arc","amount"] ["net","amounts"] (J8 Bz):=JH rfl rfl rfl (by decide+kernel)
theorem Aa:FnScope ["net","amounts","arc","amount","left"] ["net","amounts"] (J8 MT):=JH rfl rfl rfl (by decide+kernel)
theorem Cd:FnScope ["net","amounts","arc","amount"] ["net","amounts"] (J8 Nq):=JH rfl rfl rfl (by decide+kernel)
def TC (K:PySem.W.Frag) (A:Adr):TS:=
 (AC (Lh (Qz K) (Jj (Ng (WZ K (Jj (Yg K (Jf 0) "arcs") (Jj (Jf 1) JK))) (Su K 2 (Br (JA 2) (Br (JA 3) RW))) FC (Ur (rI CMul fun i j=> .int (i*j)) (Yg K (Jf 2) "price") (Jf 3)) [2,3]) JK)))
theorem ZS:FnScope ["net","amounts","node_prices","arc","amount","difference"] ["net","amounts","node_prices"] (J8 D0):=JH rfl rfl rfl (by decide+kernel)
theorem Yt:FnScope ["net","nodes","total","arc","node"] ["net","nodes"] (J8 Ef):=JH rfl rfl rfl (by decide+kernel)
def Nv (K:PySem.W.Frag) (A:Adr):TS:=
 (Yr (Zw (Lh (Qz K) (Jj (Ng (Ut K (Jf 1)) (JA 4) FC (Ur (Hs K) (Yg K (Jf 0) "supplies") (Jf 4)) [4]) JK)) (JA 2))
   (Yr (Od (Ut K (Yg K (Jf 0) "arcs")) (JA 3) (Yr (Ls (SJ (Uo (Ur (X1 K false) (Yg K (Jf 3) "tail") (Jf 1))) (Uo (Ur (X1 K true) (Yg K (Jf 3) "head") (Jf 1)))) (Vq 2 (Yg K (Jf 3) "greatest") (ipI fun i j=>i-j)) B9)
   (Ls (SJ (Uo (Ur (X1 K false) (Yg K (Jf 3) "head") (Jf 1))) (Uo (Ur (X1 K true) (Yg K (Jf 3) "tail") (Jf 1)))) (Vq 2 (Yg K (Jf 3) "least") (ipI fun i j=>i+j)) B9)))
   (AC (Jf 2))))
theorem Qg:FnScope ["self","start","end","price","number","step","room"] ["self","start","end","price","number","step","room"] (J8 HN):=JH rfl rfl rfl (by decide+kernel)
theorem Qh:FnScope ["self","costs","lasts"] ["self","costs","lasts"] (J8 GG):=JH rfl rfl rfl (by decide+kernel)
theorem Pd:FnScope ["self","amounts","nodes"] ["self","amounts","nodes"] (J8 Gg):=JH rfl rfl rfl (by decide+kernel)
theorem Yy:FnScope ["net","amounts","prices","rests","number","arc","above","below"] ["net","amounts","prices"] (J8 D5):=JH rfl rfl rfl (by decide+kernel)
theorem Yj:FnScope ["ways","rests","changed","rest","before","cost","known"] ["ways","rests"] (J8 CN):=JH rfl rfl rfl (by decide+kernel)
theorem ZA:FnScope ["count","starts","rests","ways","start","turn"] ["count","starts","rests"] (J8 BV):=JH rfl rfl rfl (by decide+kernel)
theorem ZV:FnScope ["ways","goal","found","last"] ["ways","goal"] (J8 D1):=JH rfl rfl rfl (by decide+kernel)
theorem Z1:FnScope ["left","node","amount"] ["left"] (J8 Ag):=JH rfl rfl rfl (by decide+kernel)
def Gp (K:PySem.W.Frag) (A:Adr):TS:=
 (AC (Ng (T2 K (Jj (Jf 0) JK)) (Su K 2 (Br (JA 1) (Br (JA 2) RW))) (Uo (Ur (Nb fun i j=> .bl (decide (j<i))) (Jf 2) (tC (.int 0)))) (Jf 1) [1,2]))
theorem JS:FnScope ["net","places","digits","arc","digit"] ["net"] (J8 Av):=JH rfl rfl rfl (by decide+kernel)
def Gi (K:PySem.W.Frag) (A:Adr):TS:=
 (Yr (Zw (tC (.int 1)) (JA 1))
   (Yr (Zw (Dc JK) (JA 2))
   (Yr (Od (J0v K (Jj (Yg K (Jf 0) "arcs") JK)) (JA 3) (Yr (OU (tBM K "list" Hx (Jf 2) (Jj (Jf 1) JK)))
   (Vq 1 (Ur (Nb fun i j=> .int (i+j)) (Ur (Nb fun i j=> .int (i-j)) (Yg K (Jf 3) "greatest") (Yg K (Jf 3) "least")) (tC (.int 1))) (rI CMul fun i j=> .int (i*j)))))
   (Yr (OU (J0M K "list" RG (Jf 2)))
   (AC (Ng (WZ K (Jj (Yg K (Jf 0) "arcs") (Jj (Jf 2) JK))) (Su K 2 (Br (JA 3) (Br (JA 4) RW))) FC (Ur (Nb fun i j=> .int (i+j)) (Ur (rI CMul fun i j=> .int (i*j)) (Yg K (Jf 3) "price") (Jf 1)) (Jf 4)) [3,4]))))))
theorem ZP:FnScope ["amounts","rests","most","by","rest"] ["amounts","rests","most"] (J8 ER):=JH rfl rfl rfl (by decide+kernel)
def Pc (K:PySem.W.Frag) (A:Adr):TS:=
 (Yr (Zw (Lh (J0K K) (Jj (Ur QK (Dc (Jj (Jf 2) JK)) (Ng (Ut K (Jf 1)) (JA 4) FC (Yg K (Jf 4) "room") [4])) JK)) (JA 3))
   (Od (Ut K (Jf 1)) (JA 4) (Xr (Jf 0) (Yg K (Jf 4) "number") (Ur (rI CMul fun i j=> .int (i*j)) (Yg K (Jf 4) "step") (Jf 3)) (Hs K) (ipI fun i j=>i+j) SV)))
theorem YN:FnScope ["net","amounts","prices","left","rests","ways","goal","amount","way"] ["net","amounts","prices"] (J8 Fs):=JH rfl rfl rfl (by decide+kernel)
theorem UQ:FnScope ["net","prices","amounts","arc","price"] ["net"] (J8 K4):=JH rfl rfl rfl (by decide+kernel)
def Se (K:PySem.W.Frag) (A:Adr) (s_ordering_prices:Sp) (s_level_once:Sp):TS:=
 (Yr (Zw (Zd s_ordering_prices [] E0 (Jj (Jf 0) JK)) (JA 1))
   (Yr (Zw (Ng (WZ K (Jj (Yg K (Jf 0) "arcs") (Jj (Jf 1) JK))) (Su K 2 (Br (JA 3) (Br (JA 4) RW))) FC (tIf (Uo (Ur (Nb fun i j=> .bl (decide (i<j))) (Jf 4) (tC (.int 0)))) (Yg K (Jf 3) "greatest") (Yg K (Jf 3) "least")) [3,4]) (JA 2))
   (Yr (VD (tB (Zd s_level_once [] E0 (Jj (Jf 0) (Jj (Jf 2) (Jj (Jf 1) JK))))) B9)
   (AC (Jf 2)))))
theorem YZ:FnScope ["net","amounts","more","no_prices","ways","node","cost"] ["net","amounts","more"] (J8 DQ):=JH rfl rfl rfl (by decide+kernel)
def O7 (K:PySem.W.Frag) (A:Adr) (s_rests_beside:Sp) (s_cheapest_ways:Sp):TS:=
 (Yr (Zw (Ur J0R (Dc (Jj (tC (.int 0)) JK)) (Lh (NG K) (Jj (Yg K (Jf 0) "arcs") JK))) (JA 3))
   (Yr (Zw (Zd s_cheapest_ways [] E0 (Jj (Lh (NG K) (Jj (Yg K (Jf 0) "supplies") JK)) (Jj (Jf 2) (Jj (Zd s_rests_beside [] E0 (Jj (Jf 0) (Jj (Jf 1) (Jj (Jf 3) JK)))) JK)))) (JA 4))
   (AC (Ng (T2 K (Jj (Yg K (Jf 4) "costs") JK)) (Su K 2 (Br (JA 5) (Br (JA 6) RW))) (tB (XB (Jf 6))) (Jf 5) [5,6]))))
theorem G0:FnScope ["net","amounts","more"] ["net"] (J8 N7):=JH rfl rfl rfl (by decide+kernel)
theorem Uq:FnScope ["net","amounts","prices","count","arc"] ["net","amounts"] (J8 Eg):=JH rfl rfl rfl (by decide+kernel)
def NR (K:PySem.W.Frag) (A:Adr) (s_rests_beside:Sp) (s_cheapest_ways:Sp):TS:=
 (Yr (Zw (Ng (Ut K (Yg K (Jf 0) "arcs")) (JA 4) FC (Yg K (Jf 4) "price") [4]) (JA 2))
   (Yr (Zw (Lh (NG K) (Jj (Yg K (Jf 0) "supplies") JK)) (JA 3))
   (AC (Yg K (Zd s_cheapest_ways [] E0 (Jj (Jf 3) (Jj (Lh Mt (Jj (Lh XC (Jj (Jf 3) JK)) JK)) (Jj (Zd s_rests_beside [] E0 (Jj (Jf 0) (Jj (Jf 1) (Jj (Jf 2) JK)))) JK)))) "costs"))))
theorem Vb:FnScope ["number","least","greatest"] ["number","least","greatest"] (J8 OV):=JH rfl rfl rfl (by decide+kernel)
theorem Bn:FnScope ["numbers","least","greatest","number"] ["numbers","least","greatest"] (J8 Fm):=JH rfl rfl rfl (by decide+kernel)
theorem Pl:FnScope ["numbers","most"] ["numbers","most"] (J8 Hz):=JH rfl rfl rfl (by decide+kernel)
theorem Mn:FnScope ["numbers"] ["numbers"] (J8 DU):=JH rfl rfl rfl (by decide+kernel)
theorem Q6:FnScope ["numbers"] ["numbers"] (J8 Gj):=JH rfl rfl rfl (by decide+kernel)
theorem FY:FnScope ["numbers","count"] ["numbers","count"] (J8 Ac):=JH rfl rfl rfl (by decide+kernel)
theorem Ll:FnScope ["number","base"] ["number","base"] (J8 D8):=JH rfl rfl rfl (by decide+kernel)
theorem Oc:FnScope ["self","base","rows","columns","cells"] ["self","base","rows","columns","cells"] (J8 EI):=JH rfl rfl rfl (by decide+kernel)
theorem G6:FnScope ["above","node"] ["above"] (J8 LY):=JH rfl rfl rfl (by decide+kernel)
def TH (K:PySem.W.Frag) (A:Adr):TS:=
 (Yr (Ls (Uo (Ur rNe (Ur (Hs K) (Jf 0) (tC (.int 0))) (tC (.int 0)))) (AC (tC (.bl false))) B9)
   (AC (Lh (XE K) (Jj (Ng (Wv (Jj (tC (.int 1)) (Jj (Lh (NG K) (Jj (Jf 0) JK)) JK))) (JA 1) FC (Ur (Nb fun i j=> .bl (decide (i<j))) (Ur (Hs K) (Jf 0) (Jf 1)) (Jf 1)) [1]) JK))))
theorem C2:FnScope ["above","node"] ["above"] (J8 HA):=JH rfl rfl rfl (by decide+kernel)
def Rp (K:PySem.W.Frag) (A:Adr):TS:=
 (AC (Ng (VI (Jj (Lh (NG K) (Jj (Jf 0) JK)) JK)) (JA 1) (Uo (Ur (X1 K true) (Jf 1) (tSl (WY K) (Jf 0) (RN (tC (.int 1))) Pr))) (Jf 1) [1]))
theorem NZ:FnScope ["table"] ["table"] (J8 F9):=JH rfl rfl rfl (by decide+kernel)
theorem YY:FnScope ["above","leaf_sums","sums","leaf","leaf_sum","node"] ["above","leaf_sums"] (J8 Bw):=JH rfl rfl rfl (by decide+kernel)
theorem UH:FnScope ["table","row_weights","cell_weights","column_weights"] ["table"] (J8 Fc):=JH rfl rfl rfl (by decide+kernel)
theorem Yk:FnScope ["table","shift","ends","node","row_leaf","column_leaf"] ["table"] (J8 D6):=JH rfl rfl rfl (by decide+kernel)
theorem Ad:FnScope ["ends","base","true","weight","units","price"] ["ends","base","true","weight"] (J8 Eh):=JH rfl rfl rfl (by decide+kernel)
theorem A8:FnScope ["table","truth","weights","arcs","number","ends"] ["table"] (J8 OL):=JH rfl rfl rfl (by decide+kernel)
theorem Ye:FnScope ["table","width","starts","row_sums","column_sums","told_rows","told_columns","start","place"] ["table"] (J8 Kf):=JH rfl rfl rfl (by decide+kernel)
def Sb (K:PySem.W.Frag) (A:Adr) (s_leaves_of:Sp) (s_sums_of_nodes:Sp):TS:=
 (Yr (Zw (Lh (NG K) (Jj (Zd s_leaves_of [] E0 (Jj (Yg K (Jf 0) "columns") JK)) JK)) (JA 1))
   (Yr (Zw (Lh Mt (Jj (Lh Xu (Jj (tC (.int 0)) (Jj (Lh (NG K) (Jj (Yg K (Jf 0) "cells") JK)) (Jj (Jf 1) JK)))) JK)) (JA 2))
   (Yr (Zw (Ng (Ut K (Jf 2)) (JA 7) FC (Lh (Qz K) (Jj (tSl (WY K) (Yg K (Jf 0) "cells") (RN (Jf 7)) (RN (Ur (Nb fun i j=> .int (i+j)) (Jf 7) (Jf 1)))) JK)) [7]) (JA 3))
   (Yr (Zw (Ng (VI (Jj (Jf 1) JK)) (JA 8) FC (Lh (Qz K) (Jj (Ng (Ut K (Jf 2)) (JA 7) FC (Ur (Hs K) (Yg K (Jf 0) "cells") (Ur (Nb fun i j=> .int (i+j)) (Jf 7) (Jf 8))) [7]) JK)) [8]) (JA 4))
   (Yr (Zw (Zd s_sums_of_nodes [] E0 (Jj (Yg K (Jf 0) "rows") (Jj (Jf 3) JK))) (JA 5))
   (Yr (Zw (Zd s_sums_of_nodes [] E0 (Jj (Yg K (Jf 0) "columns") (Jj (Jf 4) JK))) (JA 6))
   (AC (Ur QK (Ur QK (Jf 5) (Yg K (Jf 0) "cells")) (tSl (WY K) (Jf 6) (RN (tC (.int 1))) Pr)))))))))
theorem UE:FnScope ["table","amounts","total","amount","true","weight"] ["table","amounts"] (J8 LL):=JH rfl rfl rfl (by decide+kernel)
theorem LR:FnScope ["numbers"] ["numbers"] (J8 Ds):=JH rfl rfl rfl (by decide+kernel)
theorem NY:FnScope ["line","base","rows","columns","cells"] ["line","base","rows","columns","cells"] (J8 Fb):=JH rfl rfl rfl (by decide+kernel)
theorem CV:FnScope ["line","cell_weight","sum_weight","table"] ["line","cell_weight","sum_weight"] (J8 CO):=JH rfl rfl rfl (by decide+kernel)
theorem Cf:FnScope ["line","row_place","column_place","number","table","width"] ["line","row_place","column_place","number"] (J8 HC):=JH rfl rfl rfl (by decide+kernel)
theorem GQ:FnScope ["line","number","amount","table"] ["line","number","amount"] (J8 Hj):=JH rfl rfl rfl (by decide+kernel)
theorem HB:FnScope ["line","number","table"] ["line","number"] (J8 He):=JH rfl rfl rfl (by decide+kernel)
theorem C9:FnScope ["line","answer","arc"] ["line"] (J8 Ic):=JH rfl rfl rfl (by decide+kernel)
theorem EJ:FnScope ["line","told"] ["line"] (J8 EM):=JH rfl rfl rfl (by decide+kernel)
theorem Mc:FnScope ["line"] ["line"] (J8 DO):=JH rfl rfl rfl (by decide+kernel)
theorem O5:FnScope ["line","amounts","node_prices"] ["line","amounts","node_prices"] (J8 EC):=JH rfl rfl rfl (by decide+kernel)
theorem O4:FnScope ["line","nodes"] ["line","nodes"] (J8 F6):=JH rfl rfl rfl (by decide+kernel)
theorem NX:FnScope ["line"] ["line"] (J8 F5):=JH rfl rfl rfl (by decide+kernel)
theorem IT:FnScope ["line","amounts"] ["line","amounts"] (J8 Bv):=JH rfl rfl rfl (by decide+kernel)
theorem Qb:FnScope ["self"] ["self"] (J8 Hb):=JH rfl rfl rfl (by decide+kernel)
theorem Qk:FnScope ["self","number","numbers","lists","end"] ["self","number","numbers","lists","end"] (J8 GI):=JH rfl rfl rfl (by decide+kernel)
theorem YA:FnScope ["calls","begin","number","shape","place","numbers","lists","end"] ["calls","begin"] (J8 Hu):=JH rfl rfl rfl (by decide+kernel)
theorem ZN:FnScope ["line","table_sizes","net_sizes"] ["line"] (J8 Fa):=JH rfl rfl rfl (by decide+kernel)
theorem Cl:FnScope ["line","number","numbers","lists"] ["line","number","numbers","lists"] (J8 Up):=JH rfl rfl rfl (by decide+kernel)
theorem Bc:FnScope ["line","number","lists"] ["line","number","lists"] (J8 ZO):=JH rfl rfl rfl (by decide+kernel)
theorem Fu:FnScope ["number","numbers","lists"] ["number","numbers","lists"] (J8 Aq):=JH rfl rfl rfl (by decide+kernel)
theorem FB:FnScope ["line","number","numbers","lists"] ["line","number","numbers","lists"] (J8 Ar):=JH rfl rfl rfl (by decide+kernel)
theorem Df:FnScope ["line","call","number"] ["line","call"] (J8 DM):=JH rfl rfl rfl (by decide+kernel)
theorem ZY:FnScope ["calls","line","given","place","call","answer"] ["calls"] (J8 MG):=JH rfl rfl rfl (by decide+kernel)
theorem BP:FnScope ["net","amounts"] ["net"] (J8 By):=JH rfl rfl rfl (by decide+kernel)
theorem L7:FnScope ["net","amounts","node_prices"] ["net","amounts","node_prices"] (J8 CD):=JH rfl rfl rfl (by decide+kernel)
theorem CK:FnScope ["net","nodes","by"] ["net","nodes"] (J8 D4):=JH rfl rfl rfl (by decide+kernel)
theorem Cc:FnScope ["numbers","arcs","place","five"] ["numbers"] (J8 MO):=JH rfl rfl rfl (by decide+kernel)
theorem O6:FnScope ["arc"] ["arc"] (J8 Fp):=JH rfl rfl rfl (by decide+kernel)
theorem Ah:FnScope ["numbers","arc"] ["numbers"] (J8 Ek):=JH rfl rfl rfl (by decide+kernel)
theorem FQ:FnScope ["numbers"] ["numbers"] (J8 An):=JH rfl rfl rfl (by decide+kernel)
theorem AD:FnScope ["line","count","supplies","numbers","arcs","arc"] ["line","count","supplies","numbers"] (J8 KP):=JH rfl rfl rfl (by decide+kernel)
def Sl (K:PySem.W.Frag) (A:Adr) (s_may_be_arcs:Sp) (s_may_be_supplies:Sp) (s_within:Sp) (s_arcs_in:Sp) (s_init_Net:Sp):TS:=
 (Yr (Ls (XZ (SJ (tB (Zd s_within [] E0 (Jj (Jf 1) (Jj (tC (.int 1)) (Jj (tC (.int 12)) JK))))) (SJ (tB (Zd s_may_be_supplies [] E0 (Jj (Jf 2) JK))) (tB (Zd s_may_be_arcs [] E0 (Jj (Jf 3) JK)))))) (AC (Dc (Jj (tC (.int (-1))) JK))) B9)
   (Yr (Zw (Zd s_arcs_in [] E0 (Jj (Jf 3) JK)) (JA 4))
   (Yr (Ls (XZ (tB (Lh (XE K) (Jj (Ng (Ut K (Jf 4)) (JA 5) FC (Xx (Ur (Nb fun i j=> .bl (decide (i<j))) (Yg K (Jf 5) "tail") (Jf 1)) (Ur (Nb fun i j=> .bl (decide (i<j))) (Yg K (Jf 5) "head") (Jf 1))) [5]) JK)))) (AC (Dc (Jj (tC (.int (-3))) JK))) B9)
   (Yr (Ls (Uo (Ur rNe (Lh (NG K) (Jj (Jf 2) JK)) (Jf 1))) (AC (Dc (Jj (tC (.int (-6))) JK))) B9)
   (Yr (Ls (Uo (Ur rNe (Lh (Qz K) (Jj (Jf 2) JK)) (tC (.int 0)))) (AC (Dc (Jj (tC (.int (-7))) JK))) B9)
   (Yr (J0w K (Jf 0) (Mz A.CQ s_init_Net [] E0 (Jj (Jf 2) (Jj (Jf 4) JK))) "net")
   (AC (Dc (Jj (tC (.int 0)) (Jj (Lh (NG K) (Jj (Jf 4) JK)) JK))))))))))
theorem GX:FnScope ["line","told"] ["line"] (J8 HE):=JH rfl rfl rfl (by decide+kernel)
theorem G5:FnScope ["line"] ["line"] (J8 Af):=JH rfl rfl rfl (by decide+kernel)
theorem Hq:FnScope ["line","amounts","node_prices"] ["line","amounts","node_prices"] (J8 AI):=JH rfl rfl rfl (by decide+kernel)
theorem BO:FnScope ["line","told"] ["line"] (J8 BM):=JH rfl rfl rfl (by decide+kernel)
theorem Hf:FnScope ["line","nodes"] ["line","nodes"] (J8 AY):=JH rfl rfl rfl (by decide+kernel)
theorem Q4:FnScope ["line","amounts"] ["line","amounts"] (J8 Gh):=JH rfl rfl rfl (by decide+kernel)
theorem O1:FnScope ["self","places","least","greatest"] ["self","places","least","greatest"] (J8 EX):=JH rfl rfl rfl (by decide+kernel)
theorem DG:FnScope ["size","index"] ["size"] (J8 IV):=JH rfl rfl rfl (by decide+kernel)
theorem Ul:FnScope ["sizes","firsts","seconds","thirds","places","first","second","third"] ["sizes","firsts","seconds","thirds"] (J8 Gq):=JH rfl rfl rfl (by decide+kernel)
theorem Yl:FnScope ["base","sizes","cells","bounds","firsts","seconds","thirds","places","units","place"] ["base","sizes","cells"] (J8 HY):=JH rfl rfl rfl (by decide+kernel)
def QS (K:PySem.W.Frag) (A:Adr) (s_spans_of:Sp) (s_places_of:Sp) (s_units_beside:Sp) (s_init_Bound:Sp):TS:=
 (Yr (Zw (Dc JK) (JA 3))
   (Yr (Od (Ut K (Zd s_spans_of [] E0 (Jj (Ur (Hs K) (Jf 1) (tC (.int 0))) JK))) (JA 4) (Od (Ut K (Zd s_spans_of [] E0 (Jj (Ur (Hs K) (Jf 1) (tC (.int 1))) JK))) (JA 5) (Od (Ut K (Zd s_spans_of [] E0 (Jj (Ur (Hs K) (Jf 1) (tC (.int 2))) JK))) (JA 6) (Yr (Zw (Zd s_places_of [] E0 (Jj (Jf 1) (Jj (Jf 4) (Jj (Jf 5) (Jj (Jf 6) JK))))) (JA 7))
   (Yr (Zw (Zd s_units_beside [] E0 (Jj (Lh (Qz K) (Jj (Ng (Ut K (Jf 7)) (JA 9) FC (Ur (Hs K) (Jf 2) (Jf 9)) [9]) JK)) (Jj (Jf 0) JK))) (JA 8))
   (OU (tBM K "list" Hx (Jf 3) (Jj (Mz A.ZD s_init_Bound [] E0 (Jj (Jf 7) (Jj (Ur (Vs K) (Jf 8) (tC (.int 0))) (Jj (Ur (Vs K) (Jf 8) (tC (.int 1))) JK)))) JK))))))))
   (AC (Jf 3))))
theorem Z6:FnScope ["row","bounds","bound","total","place"] ["row","bounds"] (J8 CF):=JH rfl rfl rfl (by decide+kernel)
def MB (K:PySem.W.Frag) (A:Adr):TS:=
 (Yr (Od (Ut K (Jf 1)) (JA 2) (Yr (Zw (Lh (Qz K) (Jj (Ng (Ut K (Yg K (Jf 2) "places")) (JA 4) FC (Ur (Hs K) (Jf 0) (Jf 4)) [4]) JK)) (JA 3))
   (Ls (tOr (Uo (Ur (Nb fun i j=> .bl (decide (i<j))) (Jf 3) (Yg K (Jf 2) "least"))) (Uo (Ur (Nb fun i j=> .bl (decide (j<i))) (Jf 3) (Yg K (Jf 2) "greatest")))) (AC (tC (.bl false))) B9)))
   (AC (tC (.bl true))))
theorem G1:FnScope ["base","sizes","cells","row"] ["base","sizes","cells","row"] (J8 Ai):=JH rfl rfl rfl (by decide+kernel)
theorem Jw:FnScope ["base","sizes","cells","bounds","rows","place","cell","whole","units","longer","row","bound","unit"] ["base","sizes","cells"] (J8 BD):=JH rfl rfl rfl (by decide+kernel)
def Ld (K:PySem.W.Frag) (A:Adr) (s_bounds_of:Sp) (s_units_beside:Sp) (s_keeps_bounds:Sp):TS:=
 (Yr (Zw (Zd s_bounds_of [] E0 (Jj (Jf 0) (Jj (Jf 1) (Jj (Jf 2) JK)))) (JA 3))
   (Yr (Zw (Dc (Jj (Dc JK) JK)) (JA 4))
   (Yr (Od (T2 K (Jj (Jf 2) JK)) (Su K 2 (Br (JA 5) (Br (JA 6) RW))) (Yr (Zw (Ng (Ut K (Jf 3)) (JA 11) (Uo (Ur rEq (Ur (Hs K) (Yg K (Jf 11) "places") (tUn (rU fun i=> .int (-i)) (tC (.int 1)))) (Jf 5))) (Jf 11) [11]) (JA 7))
   (Yr (Zw (Zd s_units_beside [] E0 (Jj (Jf 6) (Jj (Jf 0) JK))) (JA 8))
   (Yr (Zw (Dc JK) (JA 9))
   (Yr (Od (Ut K (Jf 4)) (JA 10) (OU (tBM K "list" SX (Jf 9) (Jj (Ng (Wv (Jj (Ur (Vs K) (Jf 8) (tC (.int 0))) (Jj (Ur (Nb fun i j=> .int (i+j)) (Ur (Vs K) (Jf 8) (tC (.int 1))) (tC (.int 1))) JK))) (JA 12) FC (Ur QK (Jf 10) (Dc (Jj (Jf 12) JK))) [12]) JK))))
   (Zw (Ng (Ut K (Jf 9)) (JA 10) (tB (Zd s_keeps_bounds [] E0 (Jj (Jf 10) (Jj (Jf 7) JK)))) (Jf 10) [10]) (JA 4)))))))
   (AC (Jf 4)))))
theorem NJ:FnScope ["base","sizes","cells"] ["base","sizes","cells"] (J8 Fr):=JH rfl rfl rfl (by decide+kernel)
theorem O3:FnScope ["sizes"] ["sizes"] (J8 Fq):=JH rfl rfl rfl (by decide+kernel)
theorem Ie:FnScope ["base","sizes","cells","rows"] ["base","sizes","cells"] (J8 GU):=JH rfl rfl rfl (by decide+kernel)
theorem HF:FnScope ["base","sizes","cells","numbers"] ["base","sizes","cells","numbers"] (J8 Ba):=JH rfl rfl rfl (by decide+kernel)
open VbcsFlow (Arc Net at_ balance)
def Rk (A:Adr):Sp:=fun vs H Q _=> ∃(p dx:Addr) (v1 v2 v3 v4 v5:V),vs=[.ref p,v1,v2,v3,v4,v5]/\H p=some (.ins A.Zg dx [])/\
 Q .non (upd H p (.ins A.Zg dx [("tail",v1),("head",v2),("least",v3),("greatest",v4),("price",v5)]))
theorem Dq (T:Txt K mg A):FnOk P w K mg base CX0 1 A.No A.Nn ["self","tail","head","least","greatest","price"] (Rk A):=by
 refine T.YM.ok RB (fun H vs Q E h=>?_)
 ·obtain⟨p,dx,v1,v2,v3,v4,v5,rfl,hp,k⟩:=h;refine⟨rfl,fun _ _ _ _ hr=>?_⟩;refine⟨_,(J3 (JP (pv 0) (pv 1) rfl) (J3 (JP (pv 0) (pv 2) rfl) (J3 (JP (pv 0) (pv 3) rfl) (J3 (JP (pv 0) (pv 4) rfl) (J4 (JP (pv 0) (pv 5) rfl)))))),?_⟩;refine JM rfl rfl ⟨p,_,JX rfl hp ⟨T.JD,T.YQ,(by show 0<1000;decide),?_⟩⟩;refine JM rfl rfl ⟨p,_,JX rfl J2 ⟨T.JD,T.YR,(by show 1<1000;decide),?_⟩⟩;refine JM rfl rfl ⟨p,_,JX rfl J2 ⟨T.JD,T.Yn,(by show 2<1000;decide),?_⟩⟩;refine JM rfl rfl ⟨p,_,JX rfl J2 ⟨T.JD,T.JZ,(by show 3<1000;decide),?_⟩⟩;refine JM rfl rfl ⟨p,_,JX rfl J2 ⟨T.JD,T.Zl,(by show 4<1000;decide),?_⟩⟩;rw[Jz,Jz,Jz,Jz];exact k
def QW (A:Adr):Sp:=fun vs H Q _=> ∃(p dx:Addr) (v1 v2:V),vs=[.ref p,v1,v2]/\H p=some (.ins A.CQ dx [])/\
 Q .non (upd H p (.ins A.CQ dx [("supplies",v1),("arcs",v2)]))
theorem Kg (T:Txt K mg A):FnOk P w K mg base CX0 1 A.MW A.Nm ["self","supplies","arcs"] (QW A):=by
 refine T.UD.ok Rn (fun H vs Q E h=>?_)
 ·obtain⟨p,dx,v1,v2,rfl,hp,k⟩:=h;refine⟨rfl,fun _ _ _ _ hr=>?_⟩;refine⟨_,(J3 (JP (pv 0) (pv 1) rfl) (J4 (JP (pv 0) (pv 2) rfl))),?_⟩;refine JM rfl rfl ⟨p,_,JX rfl hp ⟨T.Yf,T.Y8,(by show 0<1000;decide),?_⟩⟩;refine JM rfl rfl ⟨p,_,JX rfl J2 ⟨T.Yf,T.JR,(by show 1<1000;decide),?_⟩⟩;rw[Jz];exact k
structure LeftInv (g:Net) (x:List Int) (k:Nat) (L:List Int):Prop where
 len:L.length=g.n
 at_: ∀i,i<g.n->at_ L i=at_ g.supply i+FM.S k (fun j=>(if(FM.arc g j).dst=i then at_ x j else 0)-(if(FM.arc g j).src=i then at_ x j else 0))
theorem LeftInv.step {g:Net} {x:List Int} {k:Nat} {L:List Int} (I:LeftInv g x k L) (h1:(FM.arc g k).dst<g.n) (h2:(FM.arc g k).src<g.n):
  LeftInv g x (k+1) ((L.set (FM.arc g k).dst (VbcsFlow.at_ L (FM.arc g k).dst+VbcsFlow.at_ x k)).set (FM.arc g k).src (VbcsFlow.at_ (L.set (FM.arc g k).dst (VbcsFlow.at_ L (FM.arc g k).dst+VbcsFlow.at_ x k)) (FM.arc g k).src-VbcsFlow.at_ x k)):=by
 refine⟨by simp[I.len],fun i hi=>?_⟩;have e:=I.at_ i hi;rw[FM.DW (by simp[I.len];exact h2),FM.DW (by rw[I.len];exact h1),FM.DW (by rw[I.len];exact h1)];simp only[FM.S];by_cases u:(FM.arc g k).src=i
 ·subst u;rw[if_pos rfl,if_pos rfl];by_cases v:(FM.arc g k).dst=(FM.arc g k).src
  ·rw[if_pos v,if_pos v,v];omega
  ·rw[if_neg v,if_neg v];omega
 ·rw[if_neg u,if_neg u];by_cases v:(FM.arc g k).dst=i
  ·subst v;rw[if_pos rfl,if_pos rfl];omega
  ·rw[if_neg v,if_neg v];omega
theorem LeftInv.whole {g:Net} {x:List Int} {L:List Int} (I:LeftInv g x g.arcs.length L):L=(List.range g.n).map (balance g x):=by
 apply List.ext_getElem (by simp[I.len]);intro i a b;have hi:i<g.n:=by rw[I.len] at a;exact a
 have e:=I.at_ i hi;unfold VbcsFlow.at_ at e;rw[List.getD_eq_getElem?_getD,List.getElem?_eq_getElem a] at e;simp only[List.getElem_map,List.getElem_range];rw[FM.U7];exact e
def EndsOk (g:Net):Prop:= ∀j,j<g.arcs.length->(FM.arc g j).src<g.n/\(FM.arc g j).dst<g.n
def WP (A:Adr) (K:PySem.W.Frag):Sp:=fun vs H Q _=> ∃(p a ps pa dx:Addr) (as:List Addr) (g:Net) (x:List Int),vs=[.ref p, .ref a]/\NetAt A H p g ps pa as dx/\SqL K H a (x.map V.int)/\x.length=g.arcs.length/\
 EndsOk g/\ ∀(H':Hp) (l:Addr),Same H H'->H l=none->H' l=some (.lst (((List.range g.n).map (balance g x)).map V.int))->Q (.ref l) H'
theorem ZC (T:Txt K mg A):FnOk P w K mg base CX0 1 A.CY A.CG ["net","amounts"] (WP A K):=by
 refine T.Z7.ok ZB (fun H vs Q E h=>?_)
 ·obtain⟨p,a,ps,pa,dx,as,g,x,rfl,N,hx,hlen,hends,k⟩:=h;refine⟨rfl,fun _ _ _ _ hr=>?_⟩;refine⟨_,(J3 (YL 2 ZB.nd (Yq WV (by rfl) T.Ph Lx (J0 (J6 (pv 0) rfl) J1))) (J3 (Y6 PassesOwn.never rfl (Fz (by rfl) T.Kj (J0 (J6 (pv 0) rfl) (J0 (pv 1) J1))) (Uc rfl (JE (ZF 3 ZB.nd) (JE (ZF 4 ZB.nd) Zh))) (J3 (Lw (pv 2) (J6 (pv 3) rfl) Hi (pv 4) LS Uh) (J4 (Lw (pv 2) (J6 (pv 3) rfl) Hi (pv 4) Wb Uh)))) (J4 (J7 (pv 2))))),?_⟩;refine JB rfl N.obj T.Yf T.Y8 rfl (JX rfl (.inl (SqL.of N.sup)) (fun l hl=>?_));have s1:Same H (upd H l (.lst (g.supply.map V.int))):=(Same.refl H).new hl;refine JB rfl (s1 _ _ N.obj) T.Yf T.JR rfl (J9 rfl ⟨pa,a,_,_,rfl,SqL.of (s1 _ _ N.lst),s1.seq hx,?_⟩)
  refine J0P (K:=K) (a:=pa) (b:=a) (xs:=as.map V.ref) (ys:=x.map V.int)
   (fun i σ H'=> ∃(L:List Int) (v3 v4:Option V),σ=[some (.ref p),some (.ref a),some (.ref l),v3,v4]/\Same H H'/\H' l=some (.lst (L.map V.int))/\LeftInv g x i L) ?_ ?_ ?_ ?_
  ·exact⟨g.supply,none,none,rfl,s1,J2,N.n.symm,fun i _=>by simp[FM.S]⟩
  ·rintro i σ H' ⟨L,v3,v4,_,s2,_,_⟩;exact⟨SqL.of (s2 _ _ N.lst),s2.seq hx⟩
  ·rintro Ez i q z σ H' Tp ez hq hz hT ⟨L,v3,v4,rfl,s2,hL,I⟩;obtain⟨c,eq,rfl⟩:=Y3 hq;obtain⟨hix,rfl⟩:=ZW hz;have hi:i<g.arcs.length:=by omega
   obtain⟨e1,e2⟩:=hends i hi;obtain⟨da,hc⟩:=N.arc i c eq;have s3:Same H (upd H' Tp (.tup [.ref c, .int (at_ x i)])):=s2.new hT;have hL2:upd H' Tp (.tup [.ref c, .int (at_ x i)]) l=some (.lst (L.map V.int)):=Y2 hL hT;refine⟨Tp,J9 rfl ⟨SqT.of J2,rfl,_,_,rfl,Y9 rfl rfl ?_⟩⟩;refine J9 rfl (JB rfl (s3 _ _ hc) T.JD T.YR (Ab _) (YJ rfl rfl (SqL.of hL2) (UC (by rw[I.len];exact e2)) (J9 rfl (Y9 rfl rfl (YJ rfl rfl hL2 (Ea (by rw[List.length_map,I.len];exact e2)) ?_)))));rw[EB];refine J9 rfl (JB rfl ((s3.put hl) _ _ hc) T.JD T.YQ (Al _) (YJ rfl rfl (SqL.of J2) (UC (by rw[List.length_set,I.len];exact e1)) (J9 rfl (Y9 rfl rfl (YJ rfl rfl J2 (Ea (by rw[List.length_map,List.length_set,I.len];exact e1)) ?_)))));rw[EB,Jz];exact ez _ _ ⟨_,_,_,rfl,s3.put hl,J2,I.step e2 e1⟩
  ·rintro σ H' ⟨L,v3,v4,rfl,s2,hL,I⟩;refine J9 rfl ?_;rw[List.length_map,List.length_map,N.len,hlen,Nat.min_self] at I;rw[I.whole] at hL;exact k H' l s2 hl hL
def S1 (A:Adr) (K:PySem.W.Frag):Sp:=fun vs H Q _=> ∃(p a ps pa dx:Addr) (as:List Addr) (g:Net) (x:List Int),vs=[.ref p, .ref a]/\NetAt A H p g ps pa as dx/\SqL K H a (x.map V.int)/\
 EndsOk g/\ ∀(H':Hp),Same H H'->Q (.bl (VbcsFlow.isFlow g x)) H'
theorem J0i {α:Type} (l:List α) (f:α->Bool):(l.map f).all id=l.all f:=by
 rw[List.all_map];rfl
theorem G4 (T:Txt K mg A):FnOk P w K mg base CX0 2 A.Ov A.OM ["net","amounts"] (S1 A K):=by
 refine T.Et.ok Aa (fun H vs Q E h=>?_)
 ·obtain⟨p,a,ps,pa,dx,as,g,x,rfl,N,hx,hends,k⟩:=h;refine⟨rfl,fun _ _ _ _ hr=>?_⟩;refine⟨_,(J3 (Jm (Jk BF (Jc Ju (by rfl) T.JG Js (J0 (pv 1) J1)) (Jc Ju (by rfl) T.JG Js (J0 (J6 (pv 0) rfl) J1)) (Jn _)) (J4 (J7 Aj)) Jb) (J3 (Y6 PassesOwn.never rfl (Fz (by rfl) T.Kj (J0 (J6 (pv 0) rfl) (J0 (pv 1) J1))) (Uc rfl (JE (ZF 2 Aa.nd) (JE (ZF 3 Aa.nd) Zh))) (J4 (Jm (PW.pt (Pb (Jk DN (pv 3) (J6 (pv 2) rfl) (Jn _)) (IN (Jk Km (pv 3) (J6 (pv 2) rfl) (Jn _))))) (J4 (J7 Aj)) Jb))) (J4 (J7 (Jc (LH rfl) (by rfl) T.Ru MU (J0 (Us rfl Aa.nd (JQ (pk (ZC T) hr T.Z7 (J0 (pv 0) (J0 (pv 1) J1)))) (bo [("left",4)]) (fun _ _ _ _ _=>(ZF 4 Aa.nd)) (fun _ _ _ _ _=>Yw) (fun _ _ _ _ _=>(Ze ZG (pv 4) J5 (Jn _)))) J1)))))),?_⟩;refine J9 rfl (JX rfl (.inl hx) (JB rfl N.obj T.Yf T.JR rfl (JX rfl (.inl (SqL.of N.lst)) ⟨rfl,J9 rfl (Il (fun h=>?_) (fun h=>?_))⟩)))
  ·have e:VbcsFlow.isFlow g x=false:=by
    unfold VbcsFlow.isFlow;rw[List.length_map,List.length_map,N.len] at h;rw[show(x.length==g.arcs.length)=false from by simp;omega];rfl
   have:=k H (Same.refl H);rw[e] at this;exact this
  ·rw[List.length_map,List.length_map,N.len] at h;have hlen:x.length=g.arcs.length:=by omega
   refine JB rfl N.obj T.Yf T.JR rfl (J9 rfl ⟨pa,a,_,_,rfl,SqL.of N.lst,hx,?_⟩)
   refine J0Y (K:=K) (a:=pa) (b:=a) (xs:=as.map V.ref) (ys:=x.map V.int)
    (fun i σ H'=> ∃(v2 v3:Option V),σ=[some (.ref p),some (.ref a),v2,v3,none]/\Same H H'/\ ∀j,j<i->(FM.arc g j).least<=at_ x j/\at_ x j<=(FM.arc g j).most) ?_ ?_ ?_ ?_
   ·exact⟨none,none,rfl,Same.refl H,fun j hj=>by omega⟩
   ·rintro i σ H' ⟨v2,v3,_,s2,_⟩;exact⟨SqL.of (s2 _ _ N.lst),s2.seq hx⟩
   ·rintro Ez i q z σ H' Tp ez rz hq hz hT ⟨v2,v3,rfl,s2,I⟩;obtain⟨c,eq,rfl⟩:=Y3 hq;obtain⟨hix,rfl⟩:=ZW hz;have hi:i<g.arcs.length:=by omega
    obtain⟨da,hc⟩:=N.arc i c eq;have s3:Same H (upd H' Tp (.tup [.ref c, .int (at_ x i)])):=s2.new hT
    have bad: ¬((FM.arc g i).least<=at_ x i/\at_ x i<=(FM.arc g i).most)->Q (.bl false) (upd H' Tp (.tup [.ref c, .int (at_ x i)])):=fun hb=>by
     have e:VbcsFlow.isFlow g x=false:=by
      cases q:VbcsFlow.isFlow g x with
      |false=>rfl
      |true=>exact absurd (((FM.BY g x).mp q).inb i hi) hb
     have:=k _ s3;rw[e] at this;exact this
    refine⟨Tp,J9 rfl ⟨SqT.of J2,rfl,_,_,rfl,Y9 rfl rfl ?_⟩⟩;refine J9 rfl (JB rfl (s3 _ _ hc) T.JD T.Yn (Uy _) (Y9 rfl rfl (J9 rfl (Ig (fun h=>JV ?_) (fun h=>?_)))))
    ·exact rz _ _ (bad (by omega))
    ·refine J9 rfl (JB rfl (s3 _ _ hc) T.JD T.JZ (AB _) (Y9 rfl rfl (J9 rfl (Ig (fun h2=>?_) (fun h2=>?_)))))
     ·exact rz _ _ (bad (by omega))
     ·refine ez _ _ ⟨_,_,rfl,s3,fun j hj=>?_⟩;by_cases e:j=i
      ·subst e;omega
      ·exact I j (by omega)
   ·rintro σ H' ⟨v2,v3,rfl,s2,I⟩;rw[List.length_map,List.length_map,N.len,hlen,Nat.min_self] at I;refine JM rfl rfl ?_;refine⟨p,a,ps,pa,dx,as,g,x,rfl,N.same s2,s2.seq hx,hlen,hends,fun H2 l s3 hl hL=>?_⟩
    refine⟨l,rfl,⟨_,SqL.of hL⟩,fun D hD=>Zt (K:=K) (a:=l) (xs:=((List.range g.n).map (balance g x)).map V.int)
     (fun i H'=>Same H2 H'/\H' D=some (.lst ((((List.range g.n).map (balance g x)).take i).map (fun z=>V.bl (decide (V.int z=V.int 0)))))) ?_ ?_ ?_ ?_⟩
    ·exact⟨(Same.refl H2).new hD,J2⟩
    ·rintro i H' _ ⟨s4,_⟩;exact SqL.of (s4 _ _ hL)
    ·rintro i y H' hy ⟨s4,hD'⟩;obtain⟨hi,rfl⟩:=ZW hy;refine⟨rfl,?_⟩;refine J9 rfl ⟨rfl,_,hD',?_,s4.put hD,?_⟩
     ·rw[List.length_map,List.length_take];have:=N.sm1;rw[List.length_map,List.length_range];exact Nat.lt_of_le_of_lt (Nat.min_le_right _ _) (Nat.lt_of_le_of_lt this (by show 100<sizeLine;decide))
     ·rw[J2]
      have hg:((List.range g.n).map (balance g x))[i]?=some (at_ ((List.range g.n).map (balance g x)) i):=by
       unfold VbcsFlow.at_;rw[List.getD_eq_getElem?_getD,List.getElem?_eq_getElem hi];rfl
      rw[List.take_add_one,hg,List.map_append];rfl
    ·rintro H' ⟨s4,hD'⟩;rw[List.length_map,List.take_length] at hD';have e0:((List.range g.n).map (balance g x)).map (fun z=>V.bl (decide (V.int z=V.int 0)))=(((List.range g.n).map (balance g x)).map (fun z=>decide (V.int z=V.int 0))).map V.bl:=by simp[List.map_map,Function.comp_def]
     rw[e0] at hD';refine⟨D,J9 rfl ⟨SqL.of hD',?_⟩⟩
     have e:((((List.range g.n).map (balance g x)).map (fun z=>decide (V.int z=V.int 0))).all id)=VbcsFlow.isFlow g x:=by
      rw[J0i,List.all_map];unfold VbcsFlow.isFlow;have e1:(x.length==g.arcs.length)=true:=by simp[hlen]
      have e2:((VbcsFlow.pairs g x).all (fun a=>decide (a.1.least<=a.2)&&decide (a.2<=a.1.most)))=true:=by
       rw[List.all_eq_true];intro q hq;unfold VbcsFlow.pairs at hq;rw[List.mem_map] at hq;obtain⟨⟨b,j⟩,h1,rfl⟩:=hq;have h':=List.mem_zipIdx' h1
       have eb:FM.arc g j=b:=by
        unfold FM.arc;rw[List.getD_eq_getElem?_getD,List.getElem?_eq_getElem h'.1];exact h'.2.symm
       have:=I j h'.1;rw[eb] at this;rw[Bool.and_eq_true,decide_eq_true_eq,decide_eq_true_eq];exact this
      rw[e1,e2,Bool.true_and,Bool.true_and]
      congr 1
      funext i
      show decide (V.int (balance g x i)=V.int 0)=(balance g x i==0);by_cases z:balance g x i=0
      ·rw[z];rfl
      ·simp[z]
     rw[e];exact k _ (s2.trans (s3.trans s4))
theorem V6 (g:Net) (x:List Int) (f:Arc×Int->Bool):(VbcsFlow.pairs g x).all f=true↔ ∀j,j<g.arcs.length->f (FM.arc g j,at_ x j)=true:=by
 rw[List.all_eq_true];constructor
 ·intro h j hj;refine h _ ?_;unfold VbcsFlow.pairs;rw[List.mem_map];exact⟨(FM.arc g j,j),by rw[List.mem_zipIdx_iff_getElem?];exact FM.Ib hj,rfl⟩
 ·intro h q hq;unfold VbcsFlow.pairs at hq;rw[List.mem_map] at hq;obtain⟨⟨b,j⟩,h1,rfl⟩:=hq;have h':=List.mem_zipIdx' h1
  have eb:FM.arc g j=b:=by
   unfold FM.arc;rw[List.getD_eq_getElem?_getD,List.getElem?_eq_getElem h'.1];exact h'.2.symm
  have:=h j h'.1;rw[eb] at this;exact this
def A2 (g:Net) (x c:List Int) (j:Nat):Prop:=
 ((FM.arc g j).most<=at_ x j∨0<=(FM.arc g j).price+at_ c (FM.arc g j).src-at_ c (FM.arc g j).dst)/\(at_ x j<=(FM.arc g j).least∨(FM.arc g j).price+at_ c (FM.arc g j).src-at_ c (FM.arc g j).dst<=0)
theorem LZ (g:Net) (x c:List Int):VbcsFlow.provesLeast g x c=true↔c.length=g.n/\ ∀j,j<g.arcs.length->A2 g x c j:=by
 unfold VbcsFlow.provesLeast;rw[Bool.and_eq_true,beq_iff_eq,V6];constructor
 ·rintro⟨a,b⟩;refine⟨a,fun j hj=>?_⟩;have:=b j hj;dsimp only at this;simp only[Bool.and_eq_true,Bool.or_eq_true,decide_eq_true_eq] at this;exact this
 ·rintro⟨a,b⟩;refine⟨a,fun j hj=>?_⟩;have:=b j hj;dsimp only;simp only[Bool.and_eq_true,Bool.or_eq_true,decide_eq_true_eq];exact this
def Lb (A:Adr) (K:PySem.W.Frag):Sp:=fun vs H Q _=> ∃(p a b ps pa dx:Addr) (as:List Addr) (g:Net) (x c:List Int),vs=[.ref p, .ref a, .ref b]/\NetAt A H p g ps pa as dx/\SqL K H a (x.map V.int)/\SqL K H b (c.map V.int)/\
 EndsOk g/\FM.Flow g x/\ ∀(H':Hp),Same H H'->Q (.bl (VbcsFlow.provesLeast g x c)) H'
theorem Lq (T:Txt K mg A):FnOk P w K mg base CX0 1 A.DF A.Ed ["net","amounts","node_prices"] (Lb A K):=by
 refine T.DY.ok ZS (fun H vs Q E h=>?_)
 ·obtain⟨p,a,b,ps,pa,dx,as,g,x,c,rfl,N,hx,hc,hends,hfl,k⟩:=h;refine⟨rfl,fun _ _ _ _ hr=>?_⟩
  have no:(¬(c.length=g.n/\ ∀j,j<g.arcs.length->A2 g x c j))-> ∀H',Same H H'->Q (.bl false) H':=fun h H' s'=>by
   have e:VbcsFlow.provesLeast g x c=false:=by
    cases q:VbcsFlow.provesLeast g x c with
    |false=>rfl
    |true=>exact absurd ((LZ g x c).mp q) h
   have:=k H' s';rw[e] at this;exact this
  have hlen:=hfl.len;refine⟨_,(J3 (Jm (Jk BF (Jc Ju (by rfl) T.JG Js (J0 (pv 2) J1)) (Jc Ju (by rfl) T.JG Js (J0 (J6 (pv 0) rfl) J1)) (Jn _)) (J4 (J7 Aj)) Jb) (J3 (Y6 PassesOwn.never rfl (Fz (by rfl) T.Kj (J0 (J6 (pv 0) rfl) (J0 (pv 1) J1))) (Uc rfl (JE (ZF 3 ZS.nd) (JE (ZF 4 ZS.nd) Zh))) (J3 (YL 5 ZS.nd (Jr UB (Jr Ym (J6 (pv 3) rfl) (Jq Ji (pv 2) (J6 (pv 3) rfl) (fun _ _=>rfl))) (Jq Ji (pv 2) (J6 (pv 3) rfl) (fun _ _=>rfl)))) (J3 (Jm (PW.pt (Zo (Jk DN (pv 5) J5 (Jn _)) (Zf (Jk BF (pv 4) (J6 (pv 3) rfl) (Jn _))))) (J4 (J7 Aj)) Jb) (J4 (Jm (PW.pt (Zo (Jk Km (pv 5) J5 (Jn _)) (Zf (Jk BF (pv 4) (J6 (pv 3) rfl) (Jn _))))) (J4 (J7 Aj)) Jb))))) (J4 (J7 Aj)))),?_⟩;refine J9 rfl (JX rfl (.inl hc) (JB rfl N.obj T.Yf T.Y8 rfl (JX rfl (.inl (SqL.of N.sup)) ⟨rfl,J9 rfl (Il (fun h=>?_) (fun h=>?_))⟩)))
  ·rw[List.length_map,List.length_map] at h;exact no (fun z=>h (by rw[z.1,N.n])) H (Same.refl H)
  ·rw[List.length_map,List.length_map] at h;have hcl:c.length=g.n:=by rw[N.n];omega
   refine JB rfl N.obj T.Yf T.JR rfl (J9 rfl ⟨pa,a,_,_,rfl,SqL.of N.lst,hx,?_⟩)
   refine Px (K:=K) (a:=pa) (b:=a) (xs:=as.map V.ref) (ys:=x.map V.int)
    (fun i σ H'=> ∃(v3 v4 v5:Option V),σ=[some (.ref p),some (.ref a),some (.ref b),v3,v4,v5]/\Same H H'/\ ∀j,j<i->A2 g x c j) ?_ ?_ ?_ ?_
   ·exact⟨none,none,none,rfl,Same.refl H,fun j hj=>by omega⟩
   ·rintro i σ H' ⟨v3,v4,v5,_,s2,_⟩;exact⟨SqL.of (s2 _ _ N.lst),s2.seq hx⟩
   ·rintro i q z σ H' Tp hq hz hT ⟨v3,v4,v5,rfl,s2,I⟩;obtain⟨e,eq,rfl⟩:=Y3 hq;obtain⟨hix,rfl⟩:=ZW hz;have hi:i<g.arcs.length:=by omega
    obtain⟨da,he⟩:=N.arc i e eq;obtain⟨e1,e2⟩:=hends i hi;have s3:Same H (upd H' Tp (.tup [.ref e, .int (at_ x i)])):=s2.new hT;have bd:(FM.arc g i).least<=at_ x i/\at_ x i<=(FM.arc g i).most:=hfl.inb i hi
    have bad: ¬A2 g x c i->Q (.bl false) (upd H' Tp (.tup [.ref e, .int (at_ x i)])):=fun hb=>no (fun z=>hb (z.2 i hi)) _ s3;refine⟨Tp,J9 rfl ⟨SqT.of J2,rfl,_,_,rfl,Y9 rfl rfl ?_⟩⟩
    refine⟨_,rfl,_,_,_,_,_,rfl,s3 _ _ he,T.JD,T.Zl,BJ _,_,rfl,_,rfl,_,_,_,_,_,rfl,s3 _ _ he,T.JD,T.YQ,Al _,b,_,_,_,rfl,rfl,s3.seq hc,UC (by omega),_,_,rfl,rfl,
     _,rfl,_,rfl,_,_,_,_,_,rfl,s3 _ _ he,T.JD,T.YR,Ab _,b,_,_,_,rfl,rfl,s3.seq hc,UC (by omega),_,_,rfl,rfl,?_⟩
    have next:A2 g x c i-> ∃(v3 v4 v5:Option V),[some (V.ref p),some (.ref a),some (.ref b),some (.ref e),some (.int (at_ x i)),some (.int ((FM.arc g i).price+at_ c (FM.arc g i).src-at_ c (FM.arc g i).dst))]=[some (V.ref p),some (.ref a),some (.ref b),v3,v4,v5]/\Same H (upd H' Tp (.tup [.ref e, .int (at_ x i)]))/\ ∀j,j<i+1->A2 g x c j:=fun ok=>
     ⟨_,_,_,rfl,s3,fun j hj=>by
       by_cases q:j=i
       ·subst q;exact ok
       ·exact I j (by omega)⟩
    have second:((FM.arc g i).most<=at_ x i∨0<=(FM.arc g i).price+at_ c (FM.arc g i).src-at_ c (FM.arc g i).dst)->Ls (SJ (Uo (Ur (Nb fun i j=> .bl (decide (j<i))) (Jf 5) (tC (.int 0)))) (Uo (Ur rNe (Jf 4) (Yg K (Jf 3) "least")))) (AC (tC (.bl false))) B9 {nx:=fun σ H'=> ∃(v3 v4 v5:Option V),σ=[some (.ref p),some (.ref a),some (.ref b),v3,v4,v5]/\Same H H'/\ ∀j,j<i+1->A2 g x c j,rt:=Q} [some (V.ref p),some (.ref a),some (.ref b),some (.ref e),some (.int (at_ x i)),some (.int ((FM.arc g i).price+at_ c (FM.arc g i).src-at_ c (FM.arc g i).dst))] (upd H' Tp (.tup [.ref e, .int (at_ x i)])):=fun h1=>by
     refine J9 rfl (Y9 rfl rfl (J9 rfl (Ig (fun h2=>?_) (fun h2=>Ya ?_))))
     ·refine J9 rfl (JB rfl (s3 _ _ he) T.JD T.Yn (Uy _) ⟨rfl,J9 rfl (Il (fun h3=>?_) (fun h3=>?_))⟩)
      ·exact bad (fun z=>by unfold A2 at z;omega)
      ·exact next ⟨h1, .inl (by omega)⟩
     ·exact next ⟨h1, .inr (by omega)⟩
    refine J9 rfl (Y9 rfl rfl (J9 rfl (Ig (fun h2=>?_) (fun h2=>Ya ?_))))
    ·refine J9 rfl (JB rfl (s3 _ _ he) T.JD T.JZ (AB _) ⟨rfl,J9 rfl (Il (fun h3=>?_) (fun h3=>?_))⟩)
     ·exact bad (fun z=>by unfold A2 at z;omega)
     ·exact second (.inl (by omega))
    ·exact second (.inr (by omega))
   ·rintro σ H' ⟨v3,v4,v5,rfl,s2,I⟩;rw[List.length_map,List.length_map,N.len,hlen,Nat.min_self] at I;have e:VbcsFlow.provesLeast g x c=true:=(LZ g x c).mpr ⟨hcl,I⟩;have:=k H' s2;rw[e] at this;exact this
def UW (g:Net) (s:List Int) (j:Nat):Int:=(if((FM.arc g j).src:Int)∈s/\ ¬((FM.arc g j).dst:Int)∈s then-(FM.arc g j).most else 0)+(if((FM.arc g j).dst:Int)∈s/\ ¬((FM.arc g j).src:Int)∈s then(FM.arc g j).least else 0)
theorem WF {l:List Nat} {n:Nat}:((n:Int)∈l.map (fun i:Nat=>(i:Int)))↔n∈l:=by
 rw[List.mem_map];constructor
 ·rintro⟨a,h,e⟩;rw[<-show a=n by omega];exact h
 ·intro h;exact⟨n,h,rfl⟩
theorem Ep (l:List Int):VbcsFlow.total l=l.sum:=by
 induction l with
 |nil=>rfl
 |cons a l ih=>rw[FM.MN,ih,List.sum_cons]
theorem Xc (g:Net) (s:List Nat):VbcsFlow.overfull g s=(s.map (at_ g.supply)).sum+FM.S g.arcs.length (UW g (s.map (fun i:Nat=>(i:Int)))):=by
 unfold VbcsFlow.overfull;rw[Ep]
 have e:VbcsFlow.total (g.arcs.map fun a=>if s.contains a.src=true/\s.contains a.dst=false then a.most else if s.contains a.dst=true/\s.contains a.src=false then-a.least else 0)= -FM.S g.arcs.length (UW g (s.map (fun i:Nat=>(i:Int)))):=by
  have e1:(g.arcs.map fun a=>if s.contains a.src=true/\s.contains a.dst=false then a.most else if s.contains a.dst=true/\s.contains a.src=false then-a.least else 0)=(g.arcs.zipIdx.map fun a=>if s.contains a.1.src=true/\s.contains a.1.dst=false then a.1.most else if s.contains a.1.dst=true/\s.contains a.1.src=false then-a.1.least else 0):=by
   rw[show g.arcs=g.arcs.zipIdx.map (fun a=>a.1) from(by rw[List.zipIdx_map_fst]),List.map_map];rw[List.zipIdx_map_fst];rfl
  rw[e1,FM.BB _ ⟨0,0,0,0,0⟩];rw[show-FM.S g.arcs.length (UW g (s.map (fun i:Nat=>(i:Int))))=(-1)*FM.S g.arcs.length (UW g (s.map (fun i:Nat=>(i:Int)))) by omega,<-FM.S_mul];apply FM.S_congr;intro j _;unfold UW;simp only[WF];show(if s.contains (FM.arc g j).src=true/\s.contains (FM.arc g j).dst=false then(FM.arc g j).most else if s.contains (FM.arc g j).dst=true/\s.contains (FM.arc g j).src=false then-(FM.arc g j).least else 0)=_;by_cases u:(FM.arc g j).src∈s<;>by_cases v:(FM.arc g j).dst∈s<;>simp[u,v]
 rw[e];omega
def M0 (A:Adr) (K:PySem.W.Frag):Sp:=fun vs H Q _=> ∃(p a ps pa dx:Addr) (as:List Addr) (g:Net) (s:List Nat),vs=[.ref p, .ref a]/\NetAt A H p g ps pa as dx/\SqL K H a ((s.map (fun i:Nat=>(i:Int))).map V.int)/\
 (∀i∈s,i<g.n)/\s.length<=1000/\ ∀(H':Hp),Same H H'->Q (.int (VbcsFlow.overfull g s)) H'
theorem Dg (T:Txt K mg A):FnOk P w K mg base CX0 1 A.Fk A.Fi ["net","nodes"] (M0 A K):=by
 refine T.Bj.ok Yt (fun H vs Q E h=>?_)
 ·obtain⟨p,a,ps,pa,dx,as,g,s,rfl,N,hs,hlt,hsm,k⟩:=h;refine⟨rfl,fun _ _ _ _ hr=>?_⟩;refine⟨Nv K A,(J3 (YL 2 Yt.nd (Jc (FV rfl) (by rfl) T.Mw Fw (J0 (Us rfl Yt.nd (JQ (pv 1)) (bo [("node",4)]) (fun _ _ _ _ _=>(ZF 4 Yt.nd)) (fun _ _ _ _ _=>Yw) (fun _ _ _ _ _=>(Jq Ji (J6 (pv 0) rfl) (pv 4) (fun _ _=>rfl)))) J1))) (J3 (Y6 PassesOwn.never rfl (JQ (J6 (pv 0) rfl)) (ZF 3 Yt.nd) (J3 (Jm (PW.pt (Zo (Jk Os (J6 (pv 3) rfl) (pv 1) (by with_unfolding_all rfl)) (Zf (Jk Ce (J6 (pv 3) rfl) (pv 1) (by with_unfolding_all rfl))))) (J4 (Pn (i:=2) Yt.nd rfl (by first|exact Or.inl rfl|exact Or.inr rfl) (J6 (pv 3) rfl) Wb)) Jb) (J4 (Jm (PW.pt (Zo (Jk Os (J6 (pv 3) rfl) (pv 1) (by with_unfolding_all rfl)) (Zf (Jk Ce (J6 (pv 3) rfl) (pv 1) (by with_unfolding_all rfl))))) (J4 (Pn (i:=2) Yt.nd rfl (by first|exact Or.inl rfl|exact Or.inr rfl) (J6 (pv 3) rfl) LS)) Jb)))) (J4 (J7 (pv 2))))),?_⟩
  refine⟨_,rfl,a,rfl,⟨_,hs⟩,fun D hD=>Zt (K:=K) (a:=a) (xs:=(s.map (fun i:Nat=>(i:Int))).map V.int)
   (fun i H'=>Same H H'/\H' D=some (.lst (((s.take i).map (at_ g.supply)).map V.int))) ?_ ?_ ?_ ?_⟩
  ·exact⟨(Same.refl H).new hD,J2⟩
  ·rintro i H' _ ⟨s4,_⟩;exact s4.seq hs
  ·rintro i y H' hy ⟨s4,hD'⟩;rw[List.map_map,List.getElem?_map] at hy;cases ei:s[i]? with
   |none=>rw[ei] at hy;cases hy
   |some c=>
    rw[ei] at hy;have hy':V.int (c:Int)=y:=Option.some.inj hy;subst hy';have hc:c<g.n:=hlt c (List.mem_of_getElem? ei);refine⟨rfl,?_⟩;refine JB rfl (s4 _ _ N.obj) T.Yf T.Y8 rfl (J9 rfl (YJ rfl rfl (SqL.of (s4 _ _ N.sup)) (UC (by rw[<-N.n];exact hc)) ⟨_,hD',?_,s4.put hD,?_⟩))
    ·rw[List.length_map,List.length_map,List.length_take];exact Nat.lt_of_le_of_lt (Nat.min_le_right _ _) (Nat.lt_of_le_of_lt hsm (by show 1000<sizeLine;decide))
    ·rw[J2,List.take_add_one,ei];simp
  ·rintro H' ⟨s4,hD'⟩;rw[List.length_map,List.length_map,List.take_length] at hD';refine⟨D,J9 rfl ⟨SqL.of hD',?_⟩⟩;refine JB rfl (s4 _ _ N.obj) T.Yf T.JR rfl ⟨pa,rfl,⟨_,SqL.of (s4 _ _ N.lst)⟩,?_⟩
   refine HI (K:=K) (a:=pa) (xs:=as.map V.ref)
    (fun i σ H'=> ∃(v3:Option V),σ=[some (.ref p),some (.ref a),some (.int ((s.map (at_ g.supply)).sum+FM.S i (UW g (s.map (fun i:Nat=>(i:Int)))))),v3,none]/\Same H H') ?_ ?_ ?_ ?_
   ·exact⟨none,by simp only[FM.S,Int.add_zero];rfl,s4⟩
   ·rintro i σ H' _ ⟨v3,_,s5⟩;exact SqL.of (s5 _ _ N.lst)
   ·rintro i q σ H' hq ⟨v3,rfl,s5⟩;obtain⟨e,eq,rfl⟩:=Y3 hq;obtain⟨da,he⟩:=N.arc i e eq;have inS: ∀(z:Int),Wn (.int z) ((s.map (fun i:Nat=>(i:Int))).map V.int)=decide (z∈s.map (fun i:Nat=>(i:Int))):=fun z=>QL z _;have mem:(∃z:Int,z=(s.map (at_ g.supply)).sum+FM.S i (UW g (s.map (fun i:Nat=>(i:Int))))):=⟨_,rfl⟩;obtain⟨z,hz⟩:=mem;rw[<-hz]
    have second: ∀z2:Int,z2+(if((FM.arc g i).dst:Int)∈s.map (fun i:Nat=>(i:Int))/\ ¬((FM.arc g i).src:Int)∈s.map (fun i:Nat=>(i:Int)) then(FM.arc g i).least else 0)=(s.map (at_ g.supply)).sum+FM.S (i+1) (UW g (s.map (fun i:Nat=>(i:Int))))->
      Ls (SJ (Uo (Ur (X1 K false) (Yg K (Jf 3) "head") (Jf 1))) (Uo (Ur (X1 K true) (Yg K (Jf 3) "tail") (Jf 1)))) (Vq 2 (Yg K (Jf 3) "least") (ipI fun i j=>i+j)) B9
       {nx:=fun σ H'=> ∃(v3:Option V),σ=[some (.ref p),some (.ref a),some (.int ((s.map (at_ g.supply)).sum+FM.S (i+1) (UW g (s.map (fun i:Nat=>(i:Int)))))),v3,none]/\Same H H',rt:=Q} [some (V.ref p),some (.ref a),some (.int z2),some (.ref e),none] H':=fun z2 hz2=>by
     refine JB rfl (s5 _ _ he) T.JD T.YR (Ab _) (J9 rfl (JX rfl (.inl (s5.seq hs)) ⟨rfl,BK _,J9 rfl ?_⟩));show if(Wn (V.int ((FM.arc g i).dst:Int)) ((s.map (fun i:Nat=>(i:Int))).map V.int))=true then _ else _
     rw[inS];refine Ig (fun h1=>?_) (fun h1=>Ya ?_)
     ·refine JB rfl (s5 _ _ he) T.JD T.YQ (Al _) (J9 rfl (JX rfl (.inl (s5.seq hs)) ⟨rfl,BK _,J9 rfl ?_⟩));show if(!Wn (V.int ((FM.arc g i).src:Int)) ((s.map (fun i:Nat=>(i:Int))).map V.int))=true then _ else _
      rw[inS];refine J0T (fun h2=>?_) (fun h2=>?_)
      ·have h2': ¬((FM.arc g i).src:Int)∈s.map (fun i:Nat=>(i:Int)):=by simpa using h2
       rw[if_pos ⟨h1,h2'⟩] at hz2;refine J9 rfl (JB rfl (s5 _ _ he) T.JD T.Yn (Uy _) (Y9 rfl rfl ?_));exact⟨_,by rw[<-hz2];rfl,s5⟩
      ·have h2':((FM.arc g i).src:Int)∈s.map (fun i:Nat=>(i:Int)):=by simpa using h2
       rw[if_neg (fun q=>q.2 h2'),Int.add_zero] at hz2;exact⟨_,by rw[<-hz2],s5⟩
     ·rw[if_neg (fun q=>h1 q.1),Int.add_zero] at hz2;exact⟨_,by rw[<-hz2],s5⟩
    refine JB rfl (s5 _ _ he) T.JD T.YQ (Al _) (J9 rfl (JX rfl (.inl (s5.seq hs)) ⟨rfl,BK _,J9 rfl ?_⟩));show if(Wn (V.int ((FM.arc g i).src:Int)) ((s.map (fun i:Nat=>(i:Int))).map V.int))=true then _ else _
    rw[inS];refine Ig (fun h1=>?_) (fun h1=>Ya ?_)
    ·refine JB rfl (s5 _ _ he) T.JD T.YR (Ab _) (J9 rfl (JX rfl (.inl (s5.seq hs)) ⟨rfl,BK _,J9 rfl ?_⟩));show if(!Wn (V.int ((FM.arc g i).dst:Int)) ((s.map (fun i:Nat=>(i:Int))).map V.int))=true then _ else _
     rw[inS];refine J0T (fun h2=>?_) (fun h2=>?_)
     ·have h2': ¬((FM.arc g i).dst:Int)∈s.map (fun i:Nat=>(i:Int)):=by simpa using h2
      refine J9 rfl (JB rfl (s5 _ _ he) T.JD T.JZ (AB _) (Y9 rfl rfl ?_));refine second _ ?_;simp only[FM.S,UW];rw[if_pos (c:=((FM.arc g i).src:Int)∈s.map (fun i:Nat=>(i:Int))/\ ¬((FM.arc g i).dst:Int)∈s.map (fun i:Nat=>(i:Int))) ⟨h1,h2'⟩];omega
     ·have h2':((FM.arc g i).dst:Int)∈s.map (fun i:Nat=>(i:Int)):=by simpa using h2
      refine second _ ?_;simp only[FM.S,UW];rw[if_neg (c:=((FM.arc g i).src:Int)∈s.map (fun i:Nat=>(i:Int))/\ ¬((FM.arc g i).dst:Int)∈s.map (fun i:Nat=>(i:Int))) (fun q=>q.2 h2')];omega
    ·refine second _ ?_;simp only[FM.S,UW];rw[if_neg (c:=((FM.arc g i).src:Int)∈s.map (fun i:Nat=>(i:Int))/\ ¬((FM.arc g i).dst:Int)∈s.map (fun i:Nat=>(i:Int))) (fun q=>h1 q.1)];omega
   ·rintro σ H' ⟨v3,rfl,s5⟩;refine J9 rfl ?_;rw[List.length_map,N.len,<-Xc];exact k H' s5
open VbcsFlow (Arc Net at_ balance Rest Reach reachAt)
def CZ (e:Rest):List (Str×V):=[("start", .int e.src),("end", .int e.dst),("price", .int e.price),("number", .int e.arc),("step", .int (if e.back=true then-1 else 1)),("room", .int e.room)]
def RestAt (A:Adr) (H:Hp) (q:Addr) (e:Rest):Prop:= ∃dx,H q=some (.ins A.Zs dx (CZ e))
theorem FF (e:Rest):(CZ e).lookup ("start":Str)=some (.int e.src):=rfl
theorem Mg (e:Rest):(CZ e).lookup ("end":Str)=some (.int e.dst):=rfl
theorem SE (e:Rest):(CZ e).lookup ("price":Str)=some (.int e.price):=rfl
theorem RI (e:Rest):(CZ e).lookup ("number":Str)=some (.int e.arc):=rfl
theorem To (e:Rest):(CZ e).lookup ("step":Str)=some (.int (if e.back=true then-1 else 1)):=rfl
theorem Th (e:Rest):(CZ e).lookup ("room":Str)=some (.int e.room):=rfl
theorem RestAt.same {H H':Hp} {q:Addr} {e:Rest} (s:Same H H') (h:RestAt A H q e):RestAt A H' q e:=by
 obtain⟨dx,h⟩:=h;exact⟨dx,s _ _ h⟩
structure RestsAt (A:Adr) (H:Hp) (cs:List Addr) (es:List Rest):Prop where
 len:cs.length=es.length
 at_: ∀(j:Nat) (c:Addr),cs[j]?=some c-> ∃e,es[j]?=some e/\RestAt A H c e
theorem RestsAt.same {H H':Hp} {cs:List Addr} {es:List Rest} (s:Same H H') (h:RestsAt A H cs es):RestsAt A H' cs es:=
 ⟨h.len,fun j c e=>by obtain⟨r,h1,h2⟩:=h.at_ j c e;exact⟨r,h1,h2.same s⟩⟩
theorem RestsAt.nil {H:Hp}:RestsAt A H [] []:=⟨rfl,fun j c e=>by simp at e⟩
theorem RestsAt.snoc {H:Hp} {cs:List Addr} {es:List Rest} {c:Addr} {e:Rest} (h:RestsAt A H cs es) (hc:RestAt A H c e):RestsAt A H (cs++[c]) (es++[e]):=by
 refine⟨by simp[h.len],fun j d hd=>?_⟩;by_cases q:j<cs.length
 ·rw[List.getElem?_append_left q] at hd;obtain⟨r,h1,h2⟩:=h.at_ j d hd;exact⟨r,by rw[List.getElem?_append_left (by rw[<-h.len];exact q)];exact h1,h2⟩
 ·have hl:=JL hd;rw[List.length_append,List.length_singleton] at hl;have ej:j=cs.length:=by omega
  subst ej;rw[List.getElem?_append_right (Nat.le_refl _),Nat.sub_self] at hd;have:c=d:=Option.some.inj hd;subst this;exact⟨e,by rw[h.len,List.getElem?_append_right (Nat.le_refl _),Nat.sub_self];rfl,hc⟩
def HK (A:Adr):Sp:=fun vs H Q _=> ∃(p dx:Addr) (v1 v2 v3 v4 v5 v6:V),vs=[.ref p,v1,v2,v3,v4,v5,v6]/\H p=some (.ins A.Zs dx [])/\
 Q .non (upd H p (.ins A.Zs dx [("start",v1),("end",v2),("price",v3),("number",v4),("step",v5),("room",v6)]))
theorem HW (T:Txt K mg A):FnOk P w K mg base CX0 1 A.L4 A.Kt ["self","start","end","price","number","step","room"] (HK A):=by
 refine T.Yp.ok Qg (fun H vs Q E h=>?_)
 ·obtain⟨p,dx,v1,v2,v3,v4,v5,v6,rfl,hp,k⟩:=h;refine⟨rfl,fun _ _ _ _ hr=>?_⟩;refine⟨_,(J3 (JP (pv 0) (pv 1) rfl) (J3 (JP (pv 0) (pv 2) rfl) (J3 (JP (pv 0) (pv 3) rfl) (J3 (JP (pv 0) (pv 4) rfl) (J3 (JP (pv 0) (pv 5) rfl) (J4 (JP (pv 0) (pv 6) rfl))))))),?_⟩;refine JM rfl rfl ⟨p,_,JX rfl hp ⟨T.YT,T.UY,(by show 0<1000;decide),?_⟩⟩;refine JM rfl rfl ⟨p,_,JX rfl J2 ⟨T.YT,T.Cp,(by show 1<1000;decide),?_⟩⟩;refine JM rfl rfl ⟨p,_,JX rfl J2 ⟨T.YT,T.HU,(by show 2<1000;decide),?_⟩⟩;refine JM rfl rfl ⟨p,_,JX rfl J2 ⟨T.YT,T.Fj,(by show 3<1000;decide),?_⟩⟩;refine JM rfl rfl ⟨p,_,JX rfl J2 ⟨T.YT,T.KH,(by show 4<1000;decide),?_⟩⟩;refine JM rfl rfl ⟨p,_,JX rfl J2 ⟨T.YT,T.Kc,(by show 5<1000;decide),?_⟩⟩;rw[Jz,Jz,Jz,Jz,Jz];exact k
def Q3 (A:Adr):Sp:=fun vs H Q _=> ∃(p dx:Addr) (v1 v2:V),vs=[.ref p,v1,v2]/\H p=some (.ins A.DI dx [])/\
 Q .non (upd H p (.ins A.DI dx [("costs",v1),("lasts",v2)]))
theorem Q2 (T:Txt K mg A):FnOk P w K mg base CX0 1 A.Ky A.KO ["self","costs","lasts"] (Q3 A):=by
 refine T.UL.ok Qh (fun H vs Q E h=>?_)
 ·obtain⟨p,dx,v1,v2,rfl,hp,k⟩:=h;refine⟨rfl,fun _ _ _ _ hr=>?_⟩;refine⟨_,(J3 (JP (pv 0) (pv 1) rfl) (J4 (JP (pv 0) (pv 2) rfl))),?_⟩;refine JM rfl rfl ⟨p,_,JX rfl hp ⟨T.ZT,T.YG,(by show 0<1000;decide),?_⟩⟩;refine JM rfl rfl ⟨p,_,JX rfl J2 ⟨T.ZT,T.UX,(by show 1<1000;decide),?_⟩⟩;rw[Jz];exact k
theorem Ud {n:Nat} (h:n<=3000):n<sizeLine:=Nat.lt_of_le_of_lt h (by show 3000<sizeLine;decide)
def Lm (A:Adr) (K:PySem.W.Frag):Sp:=fun vs H Q _=> ∃(p a b ps pa dx:Addr) (as:List Addr) (g:Net) (x q:List Int),vs=[.ref p, .ref a, .ref b]/\NetAt A H p g ps pa as dx/\SqL K H a (x.map V.int)/\SqL K H b (q.map V.int)/\
 x.length=g.arcs.length/\q.length=g.arcs.length/\ ∀(H':Hp) (l:Addr) (cs:List Addr),Same H H'->H l=none->H' l=some (.lst (cs.map V.ref))->RestsAt A H' cs (VbcsFlow.rests (FM.priced g (at_ q)) x)->Q (.ref l) H'
theorem Ow {H H1:Hp} {l c dx:Addr} {cs:List Addr} {es:List Rest} {e:Rest} (s1:Same H H1) (hl:H l=none) (hL:H1 l=some (.lst (cs.map V.ref))) (R:RestsAt A H1 cs es) (nc:H1 c=none) (nd:H1 dx=none) (ne:dx≠c):
  let H2:=upd (upd H1 dx (.own c)) c (.ins A.Zs dx (CZ e))
  H2 l=some (.lst (cs.map V.ref))/\Same H (upd H2 l (.lst ((cs++[c]).map V.ref)))/\RestsAt A (upd H2 l (.lst ((cs++[c]).map V.ref))) (cs++[c]) (es++[e]):=by
 have n2:upd H1 dx (.own c) c=none:=by rw[Ja (fun q=>ne q.symm)];exact nc
 have s2:Same H1 (upd (upd H1 dx (.own c)) c (.ins A.Zs dx (CZ e))):=((Same.refl H1).new nd).new n2;have hlc:l≠c:=Jv hL nc
 have RS: ∀{d:Addr} {f:Rest},RestAt A (upd (upd H1 dx (.own c)) c (.ins A.Zs dx (CZ e))) d f->RestAt A (upd (upd (upd H1 dx (.own c)) c (.ins A.Zs dx (CZ e))) l (.lst ((cs++[c]).map V.ref))) d f:=fun{d f} ⟨dd,hd⟩=>
  ⟨dd,by rw[Ja (JY hd (s2 _ _ hL) (by intro z;cases z))];exact hd⟩
 refine⟨s2 _ _ hL,(s1.trans s2).put hl,?_⟩;have R2:=R.same s2;exact(⟨R2.len,fun j d hd=>by obtain⟨f,h1,h2⟩:=R2.at_ j d hd;exact⟨f,h1,RS h2⟩⟩:RestsAt A _ cs es).snoc (RS ⟨dx,J2⟩)
theorem US (T:Txt K mg A):FnOk P w K mg base CX0 3 A.Dp A.Dz ["net","amounts","prices"] (Lm A K):=by
 refine T.U8.ok Yy (fun H vs Q E h=>?_)
 ·obtain⟨p,a,b,ps,pa,dx,as,g,x,q,rfl,N,hx,hq,lx,lq,k⟩:=h;refine⟨rfl,fun _ _ _ _ hr=>?_⟩;refine⟨_,(J3 (YL 3 Yy.nd (Jd J1)) (J3 (Y6 PassesOwn.never rfl (Ew (by rfl) T.U0 (J0 (J6 (pv 0) rfl) J1)) (Uc rfl (JE (ZF 4 Yy.nd) (JE (ZF 5 Yy.nd) Zh))) (J3 (YL 6 Yy.nd (Jr UB (J6 (pv 5) rfl) (Jq Ji (pv 1) (pv 4) (fun _ _=>rfl)))) (J3 (YL 7 Yy.nd (Jr UB (Jq Ji (pv 1) (pv 4) (fun _ _=>rfl)) (J6 (pv 5) rfl))) (J3 (Jm (Jk Km (pv 6) J5 (Jn _)) (J4 (Yi (UP PySem.F.plainAttrs_list PySem.F.slot_list_append PySem.F.type_list_append Yh (pv 3) (J0 (pm (HW T) hr T.Yp (J0 (J6 (pv 5) rfl) (J0 (J6 (pv 5) rfl) (J0 (Jq Ji (pv 2) (pv 4) (fun _ _=>rfl)) (J0 (pv 4) (J0 J5 (J0 (pv 6) J1))))))) J1)))) Jb) (J4 (Jm (Jk Km (pv 7) J5 (Jn _)) (J4 (Yi (UP PySem.F.plainAttrs_list PySem.F.slot_list_append PySem.F.type_list_append Yh (pv 3) (J0 (pm (HW T) hr T.Yp (J0 (J6 (pv 5) rfl) (J0 (J6 (pv 5) rfl) (J0 (GV Cs (Jq Ji (pv 2) (pv 4) (fun _ _=>rfl))) (J0 (pv 4) (J0 (GV Cs J5) (J0 (pv 7) J1))))))) J1)))) Jb)))))) (J4 (J7 (pv 3))))),?_⟩;refine⟨Nat.zero_le _,fun l hl=>?_⟩;have s1:Same H (upd H l (.lst [])):=(Same.refl H).new hl;refine JB rfl (s1 _ _ N.obj) T.Yf T.JR rfl (JX rfl (SqL.of (s1 _ _ N.lst)) ?_)
  refine GC (K:=K) (a:=pa) (xs:=as.map V.ref)
   (fun i σ H'=> ∃(cs:List Addr) (v4 v5 v6 v7:Option V),σ=[some (.ref p),some (.ref a),some (.ref b),some (.ref l),v4,v5,v6,v7]/\Same H H'/\H' l=some (.lst (cs.map V.ref))/\RestsAt A H' cs (FM.U9 g (at_ q) x i)) ?_ ?_ ?_ ?_
  ·exact⟨[],none,none,none,none,rfl,s1,J2,RestsAt.nil⟩
  ·rintro i σ H' ⟨cs,v4,v5,v6,v7,_,s2,_⟩;exact SqL.of (s2 _ _ N.lst)
  ·rintro i y σ H' Tp hy hT ⟨cs,v4,v5,v6,v7,rfl,s2,hL,R⟩;obtain⟨c,ec,rfl⟩:=Y3 hy;have hi:i<g.arcs.length:=by rw[<-N.len];exact JL ec
   obtain⟨da,hc⟩:=N.arc i c ec;have s3:Same H (upd H' Tp (.tup [.int (i:Nat), .ref c])):=s2.new hT;have hL3:=Y2 (o:= .tup [.int (i:Nat), .ref c]) hL hT;have R3:RestsAt A (upd H' Tp (.tup [.int (i:Nat), .ref c])) cs (FM.U9 g (at_ q) x i):=R.same ((Same.refl H').new hT);have hlen:cs.length<=2*i:=by rw[R.len];exact FM.RR g (at_ q) x i
   have hsm:=N.sm2;refine⟨Tp,J9 rfl ⟨SqT.of J2,rfl,_,_,rfl,Y9 rfl rfl ?_⟩⟩;generalize hH3:upd H' Tp (.tup [.int (i:Nat), .ref c])=H3 at s3 hL3 R3;refine JB rfl (s3 _ _ hc) T.JD T.JZ (AB _) (JM rfl rfl (YJ rfl rfl (s3.seq hx) (UC (by omega)) (Y9 rfl rfl ?_)));refine JM rfl rfl (YJ rfl rfl (s3.seq hx) (UC (by omega)) (JB rfl (s3 _ _ hc) T.JD T.Yn (Uy _) (Y9 rfl rfl ?_)))
   have second: ∀(H4:Hp) (cs4:List Addr) (es4:List Rest),Same H H4->H4 l=some (.lst (cs4.map V.ref))->RestsAt A H4 cs4 es4->cs4.length<=2*i+1->
     es4++(if(FM.arc g i).least<at_ x i then[⟨(FM.arc g i).dst,(FM.arc g i).src,at_ x i-(FM.arc g i).least,-at_ q i,i,true⟩] else[])=FM.U9 g (at_ q) x (i+1)->
     Ls (Uo (Ur (Nb fun i j=> .bl (decide (j<i))) (Jf 7) (tC (.int 0)))) (OU (tBM K "list" Hx (Jf 3) (Jj (Mz A.Zs (HK A) [] E0 (Jj (Yg K (Jf 5) "head") (Jj (Yg K (Jf 5) "tail") (Jj (tUn (rU fun i=> .int (-i)) (Ur (Hs K) (Jf 2) (Jf 4))) (Jj (Jf 4) (Jj (tUn (rU fun i=> .int (-i)) (tC (.int 1))) (Jj (Jf 7) JK))))))) JK))) B9
      {nx:=fun σ H'=> ∃(cs:List Addr) (v4 v5 v6 v7:Option V),σ=[some (.ref p),some (.ref a),some (.ref b),some (.ref l),v4,v5,v6,v7]/\Same H H'/\H' l=some (.lst (cs.map V.ref))/\RestsAt A H' cs (FM.U9 g (at_ q) x (i+1)),rt:=Q}
      [some (V.ref p),some (.ref a),some (.ref b),some (.ref l),some (.int (i:Nat)),some (.ref c),some (.int ((FM.arc g i).most-at_ x i)),some (.int (at_ x i-(FM.arc g i).least))] H4:=fun H4 cs4 es4 s4 hL4 R4 hl4 he=>by
    refine J9 rfl (Y9 rfl rfl (J9 rfl (Ig (fun h=>?_) (fun h=>?_))))
    ·rw[if_pos (show(FM.arc g i).least<at_ x i by omega)] at he;refine J9 rfl ⟨.inl ⟨rfl,_,SqL.of hL4⟩,JB rfl (s4 _ _ hc) T.JD T.YR (Ab _) (JB rfl (s4 _ _ hc) T.JD T.YQ (Al _) (JM rfl rfl (YJ rfl rfl (s4.seq hq) (UC (by omega)) (JM rfl rfl (JM rfl rfl (fun c2 d2 nc nd ne=>?_))))))⟩;refine⟨c2,d2,_,_,_,_,_,_,rfl,J2,rfl,?_⟩;rw[Jz];obtain⟨m1,m2,m3⟩:=Ow (A:=A) (e:=⟨(FM.arc g i).dst,(FM.arc g i).src,at_ x i-(FM.arc g i).least,-at_ q i,i,true⟩) s4 hl hL4 R4 nc nd ne;refine Vj rfl rfl m1 ?_ ?_
     ·rw[List.length_map];exact Ud (by omega)
     ·have e1:(cs4.map V.ref)++[V.ref c2]=(cs4++[c2]).map V.ref:=by simp
      rw[he] at m3;exact⟨cs4++[c2],_,_,_,_,rfl,by rw[e1];exact m2,by rw[e1];exact J2,by rw[e1];exact m3⟩
    ·rw[if_neg (show¬(FM.arc g i).least<at_ x i by omega),List.append_nil] at he;rw[he] at R4;exact⟨cs4,_,_,_,_,rfl,s4,hL4,R4⟩
   refine J9 rfl (Y9 rfl rfl (J9 rfl (Ig (fun h=>?_) (fun h=>?_))))
   ·refine J9 rfl ⟨.inl ⟨rfl,_,SqL.of hL3⟩,JB rfl (s3 _ _ hc) T.JD T.YQ (Al _) (JB rfl (s3 _ _ hc) T.JD T.YR (Ab _) (JM rfl rfl (YJ rfl rfl (s3.seq hq) (UC (by omega)) (JM rfl rfl (fun c2 d2 nc nd ne=>?_)))))⟩;refine⟨c2,d2,_,_,_,_,_,_,rfl,J2,rfl,?_⟩;rw[Jz];obtain⟨m1,m2,m3⟩:=Ow (A:=A) (e:=⟨(FM.arc g i).src,(FM.arc g i).dst,(FM.arc g i).most-at_ x i,at_ q i,i,false⟩) s3 hl hL3 R3 nc nd ne;refine Vj rfl rfl m1 ?_ ?_
    ·rw[List.length_map];exact Ud (by omega)
    ·have e1:(cs.map V.ref)++[V.ref c2]=(cs++[c2]).map V.ref:=by simp
     rw[e1];refine second _ (cs++[c2]) _ m2 J2 m3 (by rw[List.length_append,List.length_singleton];omega) ?_;rw[FM.Ct];unfold FM.rq;rw[if_pos (show at_ x i<(FM.arc g i).most by omega),List.append_assoc]
   ·refine second _ cs _ s3 hL3 R3 (by omega) ?_;rw[FM.Ct];unfold FM.rq;rw[if_neg (show¬at_ x i<(FM.arc g i).most by omega),List.nil_append]
  ·rintro σ H' ⟨cs,v4,v5,v6,v7,rfl,s2,hL,R⟩;refine J9 rfl ?_;rw[List.length_map,N.len,<-FM.W5] at R;exact k H' l cs s2 hl hL R
def Uv:Option (Int×Option Rest)->V
 |none=> .non
 |some u=> .int u.1
def LastAt (A:Adr) (H:Hp):Option (Int×Option Rest)->V->Prop
 |some (_,some e),v=> ∃c,v= .ref c/\RestAt A H c e
 |_,v=>v= .non
def Fr2 (a b:Addr) (H H':Hp):Prop:= ∀c o,H c=some o->c≠a->c≠b->H' c=some o
theorem Fr2.refl {a b:Addr} {H:Hp}:Fr2 a b H H:=fun _ _ h _ _=>h
theorem Fr2.trans {a b:Addr} {H H1 H2:Hp} (x:Fr2 a b H H1) (y:Fr2 a b H1 H2):Fr2 a b H H2:=fun c o h h1 h2=>y c o (x c o h h1 h2) h1 h2
theorem Fr2.fst {a b:Addr} {H:Hp} {o:HO}:Fr2 a b H (upd H a o):=fun c u h h1 _=>by rw[Ja h1];exact h
theorem Fr2.snd {a b:Addr} {H:Hp} {o:HO}:Fr2 a b H (upd H b o):=fun c u h _ h2=>by rw[Ja h2];exact h
theorem RestAt.fr {a b:Addr} {xs ys:List V} {H H':Hp} (f:Fr2 a b H H') (ha:H a=some (.lst xs)) (hb:H b=some (.lst ys)) {c:Addr} {e:Rest} (h:RestAt A H c e):RestAt A H' c e:=by
 obtain⟨dx,h⟩:=h;exact⟨dx,f _ _ h (JY h ha (by intro z;cases z)) (JY h hb (by intro z;cases z))⟩
structure WaysAt (A:Adr) (H:Hp) (w wc wl dx:Addr) (r:Reach) (lv:List V):Prop where
 obj:H w=some (.ins A.DI dx [("costs", .ref wc),("lasts", .ref wl)])
 cst:H wc=some (.lst (r.map Uv))
 lst:H wl=some (.lst lv)
 len:lv.length=r.length
 at_: ∀i,i<r.length-> ∃v,lv[i]?=some v/\LastAt A H (reachAt r i) v
 ne:wc≠wl
theorem LastAt.imp {H H':Hp} (f: ∀c e,RestAt A H c e->RestAt A H' c e): ∀{u:Option (Int×Option Rest)} {v:V},LastAt A H u v->LastAt A H' u v
 |none,_,h=>h
 |some (_,none),_,h=>h
 |some (_,some e),_,h=>by obtain⟨c,h1,h2⟩:=h;exact⟨c,h1,f c e h2⟩
theorem WaysAt.same {H H':Hp} {w wc wl dx:Addr} {r:Reach} {lv:List V} (s:Same H H') (W:WaysAt A H w wc wl dx r lv):WaysAt A H' w wc wl dx r lv:=
 ⟨s _ _ W.obj,s _ _ W.cst,s _ _ W.lst,W.len,fun i hi=>by obtain⟨v,h1,h2⟩:=W.at_ i hi;exact⟨v,h1,h2.imp fun c e h=>h.same s⟩,W.ne⟩
theorem PU {r:Reach} {i:Nat} (h:i<r.length):Nu (r.map Uv) (i:Int)=some (Uv (reachAt r i)):=by
 apply A0;rw[List.getElem?_map,List.getElem?_eq_getElem h];unfold VbcsFlow.reachAt;rw[List.getD_eq_getElem?_getD,List.getElem?_eq_getElem h];rfl
theorem Vo {r:Reach} {i:Nat} {z:Int} {e:Rest}:(r.map Uv).set i (.int z)=(r.set i (some (z,some e))).map Uv:=by
 rw[List.map_set];rfl
theorem WaysAt.upd {H:Hp} {w wc wl dx:Addr} {r:Reach} {lv:List V} (W:WaysAt A H w wc wl dx r lv) {e:Rest} {c:Addr} (hc:RestAt A H c e) (hd:e.dst<r.length) (z:Int):
  WaysAt A (L2.upd (L2.upd H wc (.lst ((r.set e.dst (some (z,some e))).map Uv))) wl (.lst (lv.set e.dst (.ref c)))) w wc wl dx (r.set e.dst (some (z,some e))) (lv.set e.dst (.ref c)):=by
 have f:Fr2 wc wl H (L2.upd (L2.upd H wc (.lst ((r.set e.dst (some (z,some e))).map Uv))) wl (.lst (lv.set e.dst (.ref c)))):=Fr2.fst.trans Fr2.snd;have RS: ∀c e,RestAt A H c e->RestAt A (L2.upd (L2.upd H wc (.lst ((r.set e.dst (some (z,some e))).map Uv))) wl (.lst (lv.set e.dst (.ref c)))) c e:=fun c' e' h=>h.fr (Fr2.fst.trans Fr2.snd) W.cst W.lst;refine⟨f _ _ W.obj (JY W.obj W.cst (by intro q;cases q)) (JY W.obj W.lst (by intro q;cases q)),by rw[Ja W.ne,J2],J2,by rw[List.length_set,List.length_set];exact W.len,fun i hi=>?_,W.ne⟩;rw[List.length_set] at hi;rw[FM.Zr hd];by_cases q:i=e.dst
 ·subst q;rw[if_pos rfl];exact⟨.ref c,List.getElem?_set_self (by rw[W.len];exact hi),c,rfl,hc.fr f W.cst W.lst⟩
 ·rw[if_neg q];obtain⟨v,h1,h2⟩:=W.at_ i hi;exact⟨v,by rw[List.getElem?_set_ne (fun y=>q y.symm)];exact h1,h2.imp fun c' e' h=>h.fr f W.cst W.lst⟩
def Lg (A:Adr) (K:PySem.W.Frag):Sp:=fun vs H Q _=> ∃(wa wc wl dx rl:Addr) (cs:List Addr) (r:Reach) (lv:List V) (es:List Rest),vs=[.ref wa, .ref rl]/\WaysAt A H wa wc wl dx r lv/\H rl=some (.lst (cs.map V.ref))/\RestsAt A H cs es/\rl≠wc/\rl≠wl/\
 (∀e∈es,e.src<r.length/\e.dst<r.length)/\ ∀(H':Hp) (lv':List V) (b:Bool),Fr2 wc wl H H'->WaysAt A H' wa wc wl dx (VbcsFlow.relax es r) lv'->(b=false->VbcsFlow.relax es r=r)->(b=true->VbcsFlow.costs (VbcsFlow.relax es r)≠VbcsFlow.costs r)->Q (.bl b) H'
theorem Lu (T:Txt K mg A):FnOk P w K mg base CX0 1 A.E9 A.DV ["ways","rests"] (Lg A K):=by
 refine T.DB.ok Yj (fun H vs Q E h=>?_)
 ·obtain⟨wa,wc,wl,dx,rl,cs,r,lv,es,rfl,W,hrl,R,n1,n2,hends,k⟩:=h;refine⟨rfl,fun _ _ _ _ hr=>?_⟩;refine⟨_,(J3 (YL 2 Yj.nd Aj) (J3 (Y6 PassesOwn.never rfl (JQ (pv 1)) (ZF 3 Yj.nd) (J3 (YL 4 Yj.nd (Jq Ji (J6 (pv 0) rfl) (J6 (pv 3) rfl) (fun _ _=>rfl))) (J4 (Jm (Y5 (C8 (pv 4))) (J3 (YL 5 Yj.nd (Jr Ym (pv 4) (J6 (pv 3) rfl))) (J3 (YL 6 Yj.nd (Jq Ji (J6 (pv 0) rfl) (J6 (pv 3) rfl) (fun _ _=>rfl))) (J4 (Jm (PW.pt (Pb (Y5 (YO (pv 6))) (IN (Jk DN (pv 5) (pv 6) (Jn _))))) (J3 (Mx (pv 5) (Mo (J6 (pv 0) rfl) (J6 (pv 3) rfl) Uh)) (J3 (Mx (pv 3) (Mo (J6 (pv 0) rfl) (J6 (pv 3) rfl) Uh)) (J4 (YL 2 Yj.nd Aj)))) Jb)))) Jb)))) (J4 (J7 (pv 2))))),?_⟩;refine J9 rfl ⟨rl,rfl,⟨_,SqL.of hrl⟩,?_⟩
  refine HI (K:=K) (a:=rl) (xs:=cs.map V.ref)
   (fun i σ H'=> ∃(r':Reach) (lv':List V) (b:Bool) (v3 v4 v5 v6:Option V),σ=[some (.ref wa),some (.ref rl),some (.bl b),v3,v4,v5,v6]/\r'=(es.take i).foldl FM.rstep r/\r'.length=r.length/\Fr2 wc wl H H'/\WaysAt A H' wa wc wl dx r' lv'/\(b=false->r'=r)/\(b=true->FM.Chg r.length r r')) ?_ ?_ ?_ ?_
  ·exact⟨r,lv,false,none,none,none,none,rfl,rfl,rfl,Fr2.refl,W,fun _=>rfl,fun z=>by cases z⟩
  ·rintro i σ H' _ ⟨r',lv',b,v3,v4,v5,v6,_,_,_,f,_⟩;exact SqL.of (f _ _ hrl n1 n2)
  ·rintro i y σ H' hy ⟨r',lv',b,v3,v4,v5,v6,rfl,hr',hl',f,W',hb0,hb1⟩;obtain⟨c,ec,rfl⟩:=Y3 hy;obtain⟨e,he,hc0⟩:=R.at_ i c ec;have hc:RestAt A H' c e:=hc0.fr f W.cst W.lst;obtain⟨h1,h2⟩:=hends e (List.mem_of_getElem? he);have s1:e.src<r'.length:=by rw[hl'];exact h1
   have s2:e.dst<r'.length:=by rw[hl'];exact h2
   have hnext:(es.take (i+1)).foldl FM.rstep r=FM.rstep r' e:=by
    rw[List.take_add_one,he,List.foldl_append,<-hr'];rfl
   have mono: ∀j,FM.Le (FM.C r' j) (FM.C r j):=fun j=>by
    rw[hr'];exact FM.BT (fun f hf=>(hends f (List.mem_of_mem_take hf)).2) j
   obtain⟨dc,hcc⟩:=hc
   have stay:FM.rstep r' e=r'-> ∀(v3 v4 v5 v6:Option V),∃(r':Reach) (lv':List V) (b_1:Bool) (v3_1 v4_1 v5_1 v6_1:Option V),[some (V.ref wa),some (.ref rl),some (.bl b),v3,v4,v5,v6]=[some (.ref wa),some (.ref rl),some (.bl b_1),v3_1,v4_1,v5_1,v6_1]/\r'=(es.take (i+1)).foldl FM.rstep r/\r'.length=r.length/\Fr2 wc wl H H'/\WaysAt A H' wa wc wl dx r' lv'/\(b_1=false->r'=r)/\(b_1=true->FM.Chg r.length r r'):=fun q v3 v4 v5 v6=>
    ⟨r',lv',b,_,_,_,_,rfl,by rw[hnext,q],hl',f,W',hb0,hb1⟩
   refine JB rfl W'.obj T.ZT T.YG rfl (JB rfl hcc T.YT T.UY (FF _) (YJ rfl rfl (SqL.of W'.cst) (PU s1) ?_));cases eu:reachAt r' e.src with
   |none=>
    refine JM rfl rfl ?_;show if(!decide (V.non=V.non))=true then _ else _
    rw[if_neg (by simp)];exact stay (by unfold FM.rstep;rw[eu]) _ _ _ _
   |some u=>
    refine JM rfl rfl ?_;show if(!decide (V.int u.1=V.non))=true then _ else _
    rw[if_pos (by simp)];refine J9 rfl (JB rfl hcc T.YT T.HU (SE _) (Y9 rfl rfl ?_));refine JB rfl W'.obj T.ZT T.YG rfl (JB rfl hcc T.YT T.Cp (Mg _) (YJ rfl rfl (SqL.of W'.cst) (PU s2) ?_))
    have update:(∀o,reachAt r' e.dst=some o->u.1+e.price<o.1)-> ∀v6:Option V,Yr (Zw (Jf 5) (XO (Yg K (Jf 0) "costs") (Yg K (Jf 3) "end") SV)) (Yr (Zw (Jf 3) (XO (Yg K (Jf 0) "lasts") (Yg K (Jf 3) "end") SV)) (Zw (tC (.bl true)) (JA 2)))
      {nx:=fun σ H'=> ∃(r':Reach) (lv':List V) (b:Bool) (v3 v4 v5 v6:Option V),σ=[some (.ref wa),some (.ref rl),some (.bl b),v3,v4,v5,v6]/\r'=(es.take (i+1)).foldl FM.rstep r/\r'.length=r.length/\Fr2 wc wl H H'/\WaysAt A H' wa wc wl dx r' lv'/\(b=false->r'=r)/\(b=true->FM.Chg r.length r r'),rt:=Q}
      [some (V.ref wa),some (.ref rl),some (.bl b),some (.ref c),some (.int u.1),some (.int (u.1+e.price)),v6] H':=fun lt v6=>by
     have est:FM.rstep r' e=r'.set e.dst (some (u.1+e.price,some e)):=by
      rcases FM.Zj r' e with⟨_,z⟩|⟨d,hd,_,q⟩
      ·obtain⟨o,ho,l⟩:=z u eu;have:=lt o ho;omega
      ·rw[eu] at hd;cases hd;exact q
     refine J9 rfl (JB rfl W'.obj T.ZT T.YG rfl (JB rfl hcc T.YT T.Cp (Mg _) (YJ rfl rfl W'.cst (Ea (by rw[List.length_map];exact s2)) ?_)));rw[Vo (e:=e)];have wo:wa≠wc:=JY W'.obj W'.cst (by intro q;cases q);have co:c≠wc:=JY hcc W'.cst (by intro q;cases q);refine J9 rfl (JB rfl (by rw[Ja wo];exact W'.obj) T.ZT T.UX rfl (JB rfl (by rw[Ja co];exact hcc) T.YT T.Cp (Mg _) (YJ rfl rfl (by rw[Ja W'.ne.symm];exact W'.lst) (Ea (by rw[W'.len];exact s2)) ?_)));refine⟨_,_,true,_,_,_,_,rfl,by rw[hnext,est],by rw[List.length_set];exact hl',f.trans (Fr2.fst.trans Fr2.snd),W'.upd ⟨dc,hcc⟩ s2 _,(fun z=>by cases z),fun _=>?_⟩;exact FM.Chg.now mono h2 s2 eu lt
    cases ev:reachAt r' e.dst with
    |none=>
     refine JM rfl rfl ?_;show if(decide (V.non=V.non))=true then _ else _
     rw[if_pos (by simp)];exact update (fun o ho=>by rw[ev] at ho;cases ho) _
    |some o=>
     refine JM rfl rfl ?_;show if(decide (V.int o.1=V.non))=true then _ else _
     rw[if_neg (by simp)];refine JM rfl rfl (Y9 rfl rfl (J9 rfl (Ig (fun h=>?_) (fun h=>?_))))
     ·exact update (fun o' ho=>by rw[ev] at ho;cases ho;exact h) _
     ·exact stay (by
       unfold FM.rstep;rw[eu,ev];dsimp only;rw[if_neg h]) _ _ _ _
  ·rintro σ H' ⟨r',lv',b,v3,v4,v5,v6,rfl,hr',hl',f,W',hb0,hb1⟩;rw[List.length_map,R.len,List.take_length,<-FM.Rt] at hr';subst hr';exact J9 rfl (k H' lv' b f W' hb0 (fun z=>(hb1 z).ne))
theorem T3 {α:Type} (n:Nat) (x:α):(List.replicate n [x]).flatten=List.replicate n x:=by
 induction n with
 |zero=>rfl
 |succ n ih=>rw[List.replicate_succ,List.flatten_cons,ih,List.replicate_succ];rfl
theorem S6 (n:Nat) (b:Nat->Bool) (i:Nat) (e:Int×Option Rest) (he:e=(0,none)):((FM.JI n b).map Uv).set i (.int 0)=(FM.JI n (fun j=>b j||decide (j=i))).map Uv:=by
 apply List.ext_getElem (by simp[FM.JI]);intro j h1 h2;have hj:j<n:=by simpa [FM.JI] using h2
 rw[List.getElem_set];simp only[List.getElem_map,FM.JI,List.getElem_range];by_cases q:i=j
 ·subst q;simp[Uv]
 ·have q': ¬j=i:=fun z=>q z.symm;simp[q,q']
theorem QN (n:Nat):(FM.JI n (fun _=>false)).map Uv=List.replicate n V.non:=by
 apply List.ext_getElem (by simp[FM.JI]);intro j h1 h2;simp[FM.JI,Uv]
theorem UF (n:Nat) (b:Nat->Bool):(FM.JI n b).length=n:=by simp[FM.JI]
theorem Ks (n:Nat) (b:Nat->Bool) (H:Hp) (i:Nat):LastAt A H (reachAt (FM.JI n b) i) .non:=by
 rw[FM.U5];split<;>rfl
theorem Tr (es:List Rest) (r:Reach):(VbcsFlow.relax es r).length=r.length:=FM.VB es r
def IM (A:Adr) (K:PySem.W.Frag):Sp:=fun vs H Q _=> ∃(n:Nat) (sl rl:Addr) (sts:List Nat) (cs:List Addr) (es:List Rest),vs=[.int n, .ref sl, .ref rl]/\SqL K H sl ((sts.map (fun i:Nat=>(i:Int))).map V.int)/\(∀i∈sts,i<n)/\H rl=some (.lst (cs.map V.ref))/\RestsAt A H cs es/\
 (∀e∈es,e.src<n/\e.dst<n)/\n<=100/\ ∀(H':Hp) (wa wc wl dx:Addr) (lv:List V),Same H H'->WaysAt A H' wa wc wl dx (VbcsFlow.relaxed es n (FM.JI n (fun i=>decide (i∈sts)))) lv->Q (.ref wa) H'
theorem UG (T:Txt K mg A):FnOk P w K mg base CX0 3 A.D7 A.Cu ["count","starts","rests"] (IM A K):=by
 refine T.ZR.ok ZA (fun H vs Q E h=>?_)
 ·obtain⟨n,sl,rl,sts,cs,es,rfl,hsl,hst,hrl,R,hends,hn,k⟩:=h;refine⟨rfl,fun _ _ _ _ hr=>?_⟩;refine⟨_,(J3 (YL 3 ZA.nd (pm (Q2 T) hr T.UL (J0 (Jr Ei (Jd (J0 Nj J1)) (pv 0)) (J0 (Jr Ei (Jd (J0 Nj J1)) (pv 0)) J1)))) (J3 (Y6 PassesOwn.never rfl (JQ (pv 1)) (ZF 4 ZA.nd) (J4 (Mx J5 (Mo (J6 (pv 3) rfl) (pv 4) Uh)))) (J3 (Y6 PassesOwn.never rfl (Es (by rfl) T.Zz (J0 (pv 0) J1)) (ZF 5 ZA.nd) (J4 (Jm (YS (JT (pk (Lu T) hr T.DB (J0 (pv 3) (J0 (pv 2) J1))))) (J4 VV) Jb))) (J4 (J7 (pv 3)))))),?_⟩
  have big:1*(n:Int).toNat<=sizeLine:=by
   have:(n:Int).toNat=n:=by omega
   rw[this];exact Nat.le_of_lt (Ud (by omega))
  refine⟨LE,fun l1 h1=>J9 rfl ⟨l1,(n:Int),J9 rfl ⟨rfl,J2,by omega,by omega,big,fun wc hwc=>?_⟩⟩⟩;refine⟨LE,fun l2 h2=>J9 rfl ⟨l2,(n:Int),J9 rfl ⟨rfl,J2,by omega,by omega,big,fun wl hwl=>?_⟩⟩⟩;refine fun wa dx nw nd ne=>?_;refine⟨wa,dx,_,_,rfl,J2,rfl,?_⟩;rw[Jz];have tn:(n:Int).toNat=n:=by omega
  rw[tn,T3] at h2 hwl nw nd ⊢;generalize hA1:upd H l1 (.lst [V.non])=H1 at hwc h2 hwl nw nd;have s1:Same H H1:=by rw[<-hA1];exact(Same.refl H).new h1
  generalize hA2:upd H1 wc (.lst (List.replicate n V.non))=H2 at h2 hwl nw nd;have s2:Same H H2:=by rw[<-hA2];exact s1.new hwc
  have c2:H2 wc=some (.lst (List.replicate n V.non)):=by rw[<-hA2];exact J2
  generalize hA3:upd H2 l2 (.lst [V.non])=H3 at hwl nw nd;have s3:Same H2 H3:=by rw[<-hA3];exact(Same.refl H2).new h2
  generalize hA4:upd H3 wl (.lst (List.replicate n V.non))=H4 at nw nd;have s4:Same H3 H4:=by rw[<-hA4];exact(Same.refl H3).new hwl
  have c4:H4 wl=some (.lst (List.replicate n V.non)):=by rw[<-hA4];exact J2
  have nw2:upd H4 dx (.own wa) wa=none:=by rw[Ja (fun q=>ne q.symm)];exact nw
  generalize hA5:upd (upd H4 dx (.own wa)) wa (.ins A.DI dx [("costs", .ref wc),("lasts", .ref wl)])=H5;have s5:Same H4 H5:=by rw[<-hA5];exact((Same.refl H4).new nd).new nw2
  have s:Same H H5:=s2.trans (s3.trans (s4.trans s5));have fc:H wc=none:=s1.free hwc;have fl:H wl=none:=(s2.trans s3).free hwl
  have W0:WaysAt A H5 wa wc wl dx (FM.JI n (fun j=>decide (j∈sts.take 0))) (List.replicate n V.non):=by
   have e0:(fun j=>decide (j∈sts.take 0))=(fun _:Nat=>false):=by funext j;simp
   rw[e0];refine⟨by rw[<-hA5];exact J2,by rw[QN];exact s5 _ _ (s4 _ _ (s3 _ _ c2)),s5 _ _ c4,by rw[UF];simp,fun i hi=>?_,Jv (s3 _ _ c2) hwl⟩;rw[UF] at hi;exact⟨.non,by rw[List.getElem?_replicate,if_pos hi],Ks n _ H5 i⟩
  clear hA1 hA2 hA3 hA4 hA5 s1 s2 s3 s4 s5 c2 c4 nw2 nw nd hwl hwc h1 h2;refine J9 rfl ⟨sl,rfl,⟨_,s.seq hsl⟩,?_⟩
  refine Lj (K:=K) (a:=sl) (xs:=(sts.map (fun i:Nat=>(i:Int))).map V.int)
   (fun i σ H'=> ∃(v4:Option V),σ=[some (.int n),some (.ref sl),some (.ref rl),some (.ref wa),v4,none]/\Same H H'/\WaysAt A H' wa wc wl dx (FM.JI n (fun j=>decide (j∈sts.take i))) (List.replicate n V.non)) ?_ ?_ ?_ ?_
  ·exact⟨none,rfl,s,W0⟩
  ·rintro i σ H' _ ⟨v4,_,s2,_⟩;exact s2.seq hsl
  ·rintro Ez i y σ H' ez hy ⟨v4,rfl,s2,W⟩;rw[List.map_map,List.getElem?_map] at hy;cases ei:sts[i]? with
   |none=>rw[ei] at hy;cases hy
   |some c=>
    rw[ei] at hy;have hy':V.int (c:Int)=y:=Option.some.inj hy;subst hy';have hc:c<n:=hst c (List.mem_of_getElem? ei);refine JB rfl W.obj T.ZT T.YG rfl (J9 rfl (YJ rfl rfl W.cst (Ea (by rw[List.length_map,UF];exact hc)) ?_));rw[S6 n _ c (0,none) rfl]
    have eb:(fun j=>decide (j∈sts.take i)||decide (j=c))=(fun j=>decide (j∈sts.take (i+1))):=by
     funext j
     rw[List.take_add_one,ei];by_cases q:j=c<;>simp[q]
    rw[eb];have f:Fr2 wc wl H' (upd H' wc (.lst ((FM.JI n (fun j=>decide (j∈sts.take (i+1)))).map Uv))):=Fr2.fst;refine ez _ _ (J9 rfl ⟨s2.put fc,⟨by rw[Ja (JY W.obj W.cst (by intro q;cases q))];exact W.obj,J2,by rw[Ja W.ne.symm];exact W.lst,by rw[UF];simp,fun j hj=>?_,W.ne⟩⟩);rw[UF] at hj;exact⟨.non,by rw[List.getElem?_replicate,if_pos hj],Ks n _ _ j⟩
  ·rintro σ H' ⟨v4,rfl,s2,W⟩;rw[List.length_map,List.length_map,List.take_length] at W;refine J9 rfl ⟨(n:Int),rfl,by omega,by omega,?_⟩;rw[tn]
   refine P8 (lo:=0) (n:=n)
    (fun i σ H'=> ∃(r:Reach) (lv:List V) (v4 v5:Option V),σ=[some (.int n),some (.ref sl),some (.ref rl),some (.ref wa),v4,v5]/\Same H H'/\WaysAt A H' wa wc wl dx r lv/\r.length=n/\VbcsFlow.relaxed es n (FM.JI n (fun i=>decide (i∈sts)))=VbcsFlow.relaxed es (n-i) r) ?_ ?_ ?_
   ·exact⟨_,_,_,none,rfl,s2,W,UF _ _,rfl⟩
   ·rintro i σ H' hi ⟨r,lv,v4,v5,rfl,s3,W',hrl',e⟩;have n1:rl≠wc:=Jv hrl fc;have n2:rl≠wl:=Jv hrl fl;refine JM rfl rfl ⟨wa,wc,wl,dx,rl,cs,r,lv,es,rfl,W',s3 _ _ hrl,R.same s3,n1,n2,(fun e he=>by rw[hrl'];exact hends e he),fun H2 lv2 b f W2 hb0 hb1=>J9 rfl ?_⟩;have s4:Same H H2:=fun c o hc=>f c o (s3 c o hc) (Jv hc fc) (Jv hc fl);cases b with
    |false=>
     have q:=hb0 rfl;have e2:VbcsFlow.relaxed es n (FM.JI n (fun i=>decide (i∈sts)))=r:=by rw[e,FM.PX _ q]
     rw[q,<-e2] at W2;exact J9 rfl (k H2 wa wc wl dx lv2 s4 W2)
    |true=>
     have q:=hb1 rfl;refine⟨_,_,_,_,rfl,s4,W2,by rw[Tr];exact hrl',?_⟩;rw[e,show n-i=(n-(i+1))+1 by omega,FM.Sd _ q]
   ·rintro σ H' ⟨r,lv,v4,v5,rfl,s3,W',hrl',e⟩;rw[Nat.sub_self] at e;have e2:VbcsFlow.relaxed es n (FM.JI n (fun i=>decide (i∈sts)))=r:=e;rw[<-e2] at W';exact J9 rfl (k H' wa wc wl dx lv s3 W')
def La (A:Adr) (K:PySem.W.Frag):Sp:=fun vs H Q _=> ∃(wa wc wl dx:Addr) (r:Reach) (lv:List V) (goal s:Nat) (way:List Rest),vs=[.ref wa, .int goal]/\WaysAt A H wa wc wl dx r lv/\FM.Way r goal way s/\goal<r.length/\(∀e∈way,e.src<r.length)/\way.length<=1000/\
 ∀(H':Hp) (l:Addr) (cs:List Addr),Same H H'->H l=none->H' l=some (.lst (cs.map V.ref))->RestsAt A H' cs way.reverse->Q (.ref l) H'
theorem Lc (T:Txt K mg A):FnOk P w K mg base CX0 1 A.DL A.Dm ["ways","goal"] (La A K):=by
 refine T.DD.ok ZV (fun H vs Q E h=>?_)
 ·obtain⟨wa,wc,wl,dx,r,lv,goal,s,way,rfl,W,hw,hg,hsrc,hsm,k⟩:=h;refine⟨rfl,fun _ _ _ _ hr=>?_⟩;refine⟨_,(J3 (YL 2 ZV.nd (Jd J1)) (J3 (YL 3 ZV.nd (Jq Ji (J6 (pv 0) rfl) (pv 1) (fun _ _=>rfl))) (J3 (GK PassesOwn.never (Y5 (C8 (pv 3))) (J3 (Yi (UP PySem.F.plainAttrs_list PySem.F.slot_list_append PySem.F.type_list_append Yh (pv 2) (J0 (pv 3) J1))) (J4 (YL 3 ZV.nd (Jq Ji (J6 (pv 0) rfl) (J6 (pv 3) rfl) (fun _ _=>rfl)))))) (J4 (J7 (pv 2)))))),?_⟩;refine⟨Nat.zero_le _,fun l hl=>?_⟩;have s1:Same H (upd H l (.lst [])):=(Same.refl H).new hl;obtain⟨v0,hv0,la0⟩:=W.at_ goal hg;refine JB rfl (s1 _ _ W.obj) T.ZT T.UX rfl (J9 rfl (YJ rfl rfl (SqL.of (s1 _ _ W.lst)) (A0 hv0) ?_))
  refine⟨fun m σ H'=> ∃(node:Nat) (w' done:List Rest) (cs:List Addr) (v:V),m=w'.length/\σ=[some (.ref wa),some (.int goal),some (.ref l),some v]/\Same H H'/\FM.Way r node w' s/\way=w'++done/\LastAt A H (reachAt r node) v/\H' l=some (.lst (cs.map V.ref))/\RestsAt A H' cs done.reverse,
   ⟨_,goal,way,[],[],v0,rfl,rfl,s1,hw,by simp,la0,J2,RestsAt.nil⟩,?_⟩
  rintro m σ H' ⟨node,w',done,cs,v,rfl,rfl,s2,hw',ew,la,hL,R⟩;cases hw' with
  |start hd=>
   rw[hd] at la;have la':v= .non:=la;subst la';refine JM rfl rfl ?_;show if(!decide (V.non=V.non))=true then _ else _
   rw[if_neg (by simp)];refine J9 rfl ?_;rw[show done=way by rw[ew];rfl] at R;exact k H' l cs s2 hl hL R
  | @more _ _ d e w'' hd hw''=>
   rw[hd] at la;obtain⟨c,rfl,hc⟩: ∃c,v= .ref c/\RestAt A H c e:=la;refine JM rfl rfl ?_;show if(!decide (V.ref c=V.non))=true then _ else _
   rw[if_pos (by simp)]
   refine⟨fun σ' H'=> ∃(node:Nat) (w' done:List Rest) (cs:List Addr) (v:V),w'.length<(w''++[e]).length/\σ'=[some (.ref wa),some (.int goal),some (.ref l),some v]/\Same H H'/\FM.Way r node w' s/\way=w'++done/\LastAt A H (reachAt r node) v/\H' l=some (.lst (cs.map V.ref))/\RestsAt A H' cs done.reverse,
    fun σ' H' ⟨node,w',done,cs,v,h1,h2⟩=>⟨_,h1,node,w',done,cs,v,rfl,h2⟩,?_⟩
   have hmem:e∈way:=by rw[ew];simp
   have hlen:cs.length<=way.length:=by
    have:=R.len;rw[List.length_reverse] at this;rw[this,ew,List.length_append];omega
   refine J9 rfl ⟨.inl ⟨rfl,_,SqL.of hL⟩,J9 rfl (Vj rfl rfl hL (by rw[List.length_map];exact Ud (by omega)) ?_)⟩;have e1:(cs.map V.ref)++[V.ref c]=(cs++[c]).map V.ref:=by simp
   rw[e1];have s3:Same H (upd H' l (.lst ((cs++[c]).map V.ref))):=s2.put hl;obtain⟨dc,hcc⟩:=hc;obtain⟨v1,hv1,la1⟩:=W.at_ e.src (hsrc e hmem);refine JB rfl (s3 _ _ W.obj) T.ZT T.UX rfl (JB rfl (s3 _ _ hcc) T.YT T.UY (FF _) (YJ rfl rfl (SqL.of (s3 _ _ W.lst)) (A0 hv1) ?_));refine⟨e.src,w'',e::done,cs++[c],v1,by simp,rfl,s3,hw'',by rw[ew];simp,la1,J2,?_⟩;rw[List.reverse_cons]
   have R2:RestsAt A (upd H' l (.lst ((cs++[c]).map V.ref))) cs done.reverse:=⟨R.len,fun j d hd=>by
    obtain⟨f,h1,dd,h2⟩:=R.at_ j d hd;exact⟨f,h1,dd,by rw[Ja (JY h2 hL (by intro z;cases z))];exact h2⟩⟩
   exact R2.snoc ⟨dc,s3 _ _ hcc⟩
def UA (L:List Int):List Nat:=(List.range L.length).filter (fun i=>decide (0<at_ L i))
def FI (A:Adr) (K:PySem.W.Frag):Sp:=fun vs H Q _=> ∃(a:Addr) (L:List Int),vs=[.ref a]/\SqL K H a (L.map V.int)/\L.length<=1000/\
 ∀(H':Hp) (l:Addr),Same H H'->H l=none->H' l=some (.lst (((UA L).map (fun i:Nat=>(i:Int))).map V.int))->Q (.ref l) H'
theorem Ay (T:Txt K mg A):FnOk P w K mg base CX0 1 A.AO A.AE ["left"] (FI A K):=by
 refine T.Uj.ok Z1 (fun H vs Q E h=>?_)
 ·obtain⟨a,L,rfl,hL,hsm,k⟩:=h;refine⟨rfl,fun _ _ _ _ hr=>?_⟩;refine⟨Gp K A,(J4 (J7 (Us rfl Z1.nd (Ew (by rfl) T.U0 (J0 (pv 0) J1)) (bo [("node",1),("amount",2)]) (fun _ _ _ _ _=>(Uc rfl (JE (ZF 1 Z1.nd) (JE (ZF 2 Z1.nd) Zh)))) (fun _ _ _ _ _=>(Hn (Jk Km (pv 2) J5 (Jn _)))) (fun _ _ _ _ _=>(pv 1))))),?_⟩
  refine⟨_,rfl,a,_,rfl,hL,fun D hD=>T6 (K:=K) (a:=a) (xs:=L.map V.int)
   (fun i H'=>Same H H'/\H' D=some (.lst ((((List.range i).filter (fun i=>decide (0<at_ L i))).map (fun i:Nat=>(i:Int))).map V.int))) ?_ ?_ ?_ ?_⟩
  ·exact⟨(Same.refl H).new hD,J2⟩
  ·rintro i H' ⟨s2,_⟩;exact s2.seq hL
  ·rintro i y H' Tp hy hT ⟨s2,hD'⟩;obtain⟨hi,rfl⟩:=ZW hy;refine⟨Tp,J9 rfl ⟨SqT.of J2,rfl,_,_,rfl,Y9 rfl rfl ⟨rfl,?_⟩⟩⟩;refine J9 rfl (Y9 rfl rfl (J9 rfl (Ig (fun h=>?_) (fun h=>?_))))
   ·refine J9 rfl ⟨_,Y2 hD' hT,?_,(s2.new hT).put hD,?_⟩
    ·rw[List.length_map,List.length_map];exact Nat.lt_of_le_of_lt (List.length_filter_le _ _) (by rw[List.length_range];exact Ud (by omega))
    ·rw[J2,List.range_succ,List.filter_append,List.filter_cons,if_pos (by simpa using h)];simp
   ·refine⟨s2.new hT,?_⟩;rw[Y2 hD' hT,List.range_succ,List.filter_append,List.filter_cons,if_neg (by simpa using h)];simp
  ·rintro H' ⟨s2,hD'⟩;rw[List.length_map] at hD';exact k H' D s2 hD hD'
structure Bnd (g:Net):Prop where
 least: ∀j,j<g.arcs.length-> -1000000000000<=(FM.arc g j).least/\(FM.arc g j).least<=1000000000000
 most: ∀j,j<g.arcs.length-> -1000000000000<=(FM.arc g j).most/\(FM.arc g j).most<=1000000000000
 price: ∀j,j<g.arcs.length-> -1000000000000<=(FM.arc g j).price/\(FM.arc g j).price<=1000000000000
def Xe (g:Net):List Int:=(List.range g.arcs.length).map (FM.oq g)
theorem ZM {f:Nat->Int} {n j:Nat} (h:j<n):at_ ((List.range n).map f) j=f j:=by
 unfold VbcsFlow.at_;rw[List.getD_eq_getElem?_getD,List.getElem?_map,List.getElem?_range h];rfl
def G7 (A:Adr) (K:PySem.W.Frag):Sp:=fun vs H Q _=> ∃(p ps pa dx:Addr) (as:List Addr) (g:Net),vs=[.ref p]/\NetAt A H p g ps pa as dx/\Bnd g/\
 ∀(H':Hp) (l:Addr),Same H H'->H l=none->H' l=some (.lst ((Xe g).map V.int))->Q (.ref l) H'
theorem Fv (T:Txt K mg A):FnOk P w K mg base CX0 1 A.B3 A.AM ["net"] (G7 A K):=by
 refine T.AV.ok JS (fun H vs Q E h=>?_)
 ·obtain⟨p,ps,pa,dx,as,g,rfl,N,B,k⟩:=h;refine⟨rfl,fun _ _ _ _ hr=>?_⟩;have hsm:=N.sm2;refine⟨Gi K A,(J3 (YL 1 JS.nd J5) (J3 (YL 2 JS.nd (Jd J1)) (J3 (Y6 PassesOwn.never rfl (RK (by rfl) T.RV (J0 (J6 (pv 0) rfl) J1)) (ZF 3 JS.nd) (J3 (Yi (UP PySem.F.plainAttrs_list PySem.F.slot_list_append PySem.F.type_list_append Yh (pv 2) (J0 (pv 1) J1))) (J4 (Pn (i:=1) JS.nd rfl (by first|exact Or.inl rfl|exact Or.inr rfl) (Jr Ym (Jr UB (J6 (pv 3) rfl) (J6 (pv 3) rfl)) J5) Xp)))) (J3 (Yi (XF PySem.F.plainAttrs_list PySem.F.slot_list_reverse PySem.F.type_list_reverse S7 (pv 2))) (J4 (J7 (Us rfl JS.nd (Fz (by rfl) T.Kj (J0 (J6 (pv 0) rfl) (J0 (pv 2) J1))) (bo [("arc",3),("digit",4)]) (fun _ _ _ _ _=>(Uc rfl (JE (ZF 3 JS.nd) (JE (ZF 4 JS.nd) Zh)))) (fun _ _ _ _ _=>Yw) (fun _ _ _ _ _=>(Jr Ym (Jr Ug (J6 (pv 3) rfl) (pv 1)) (pv 4)))))))))),?_⟩;refine⟨Nat.zero_le _,fun l hl=>?_⟩;have s1:Same H (upd H l (.lst [])):=(Same.refl H).new hl;refine JB rfl (s1 _ _ N.obj) T.Yf T.JR rfl (JX rfl (SqL.of (s1 _ _ N.lst)) ?_)
  refine Xq (K:=K) (a:=pa) (xs:=as.map V.ref)
   (fun i σ H'=> ∃(v3:Option V),σ=[some (.ref p),some (.int (FM.ZX g i)),some (.ref l),v3,none]/\Same H H'/\H' l=some (.lst (((List.range i).map (FM.ZX g)).map V.int))) ?_ ?_ ?_ ?_
  ·exact⟨none,rfl,s1,J2⟩
  ·rintro i σ H' ⟨v3,_,s2,_⟩;exact SqL.of (s2 _ _ N.lst)
  ·rintro i y σ H' hi hy ⟨v3,rfl,s2,hL⟩;rw[List.length_map] at hi hy;obtain⟨c,ec,rfl⟩:=Y3 hy;rw[N.len] at ec hi;obtain⟨da,hc⟩:=N.arc _ c ec;refine J9 rfl ⟨.inl ⟨rfl,_,SqL.of hL⟩,J9 rfl (Vj rfl rfl hL (by rw[List.length_map,List.length_map,List.length_range];exact Ud (by omega)) ?_)⟩;have s3:Same H (upd H' l (.lst (((List.range i).map (FM.ZX g)).map V.int++[V.int (FM.ZX g i)]))):=s2.put hl;have b1:=B.least (g.arcs.length-1-i) (by omega);have b2:=B.most (g.arcs.length-1-i) (by omega);refine J9 rfl (JB rfl (s3 _ _ hc) T.JD T.JZ (AB _) (JB rfl (s3 _ _ hc) T.JD T.Yn (Uy _) (Y9 rfl rfl ⟨_,_,rfl,rfl,Y9 rfl rfl ⟨.inr ⟨by omega,by omega⟩,?_⟩⟩)));refine J9 rfl ⟨s3,?_⟩;rw[J2,List.range_succ,List.map_append,List.map_append];rfl
  ·rintro σ H' ⟨v3,rfl,s2,hL⟩;rw[List.length_map,N.len] at hL;rw[List.length_map,N.len];refine J9 rfl ⟨.inl ⟨rfl,_,SqL.of hL⟩,JX rfl rfl ⟨hL,?_⟩⟩
   have er:(((List.range g.arcs.length).map (FM.ZX g)).map V.int).reverse=((List.range g.arcs.length).map (FM.ZL g)).map V.int:=by
    rw[<-List.map_reverse]
    congr 1
    apply List.ext_getElem (by simp);intro j h1 h2;rw[List.getElem_reverse];simp only[List.getElem_map,List.getElem_range,List.length_map,List.length_range];rfl
   rw[er];have s3:Same H (upd H' l (.lst (((List.range g.arcs.length).map (FM.ZL g)).map V.int))):=s2.put hl;generalize hH3:upd H' l (.lst (((List.range g.arcs.length).map (FM.ZL g)).map V.int))=H3 at s3;have hl3:H3 l=some (.lst (((List.range g.arcs.length).map (FM.ZL g)).map V.int)):=by rw[<-hH3];exact J2
   refine⟨_,rfl,_,_,_,_,_,rfl,s3 _ _ N.obj,T.Yf,T.JR,rfl,_,rfl,pa,l,_,_,rfl,SqL.of (s3 _ _ N.lst),SqL.of hl3,fun D hD=>Sz (K:=K) (a:=pa) (b:=l) (xs:=as.map V.ref) (ys:=((List.range g.arcs.length).map (FM.ZL g)).map V.int)
    (fun i H'=>Same H3 H'/\H' D=some (.lst (((List.range i).map (FM.oq g)).map V.int))) ?_ ?_ ?_ ?_⟩
   ·exact⟨(Same.refl H3).new hD,J2⟩
   ·rintro i H' ⟨s4,_⟩;exact⟨SqL.of (s4 _ _ (s3 _ _ N.lst)),SqL.of (s4 _ _ hl3)⟩
   ·rintro i y z H' Tp hy hz hT ⟨s4,hD'⟩;obtain⟨c,ec,rfl⟩:=Y3 hy;obtain⟨hi,rfl⟩:=ZW hz;rw[List.length_map,List.length_range] at hi;obtain⟨da,hc⟩:=N.arc _ c ec;have hc':=(Same.new s4 (o:= .tup [.ref c, .int (at_ ((List.range g.arcs.length).map (FM.ZL g)) i)]) hT) _ _ (s3 _ _ hc);have b3:=B.price i hi;refine⟨Tp,J9 rfl ⟨SqT.of J2,rfl,_,_,rfl,Y9 rfl rfl ⟨rfl,?_⟩⟩⟩;refine JB rfl hc' T.JD T.Zl (BJ _) (J9 rfl (Y9 rfl rfl ⟨.inl ⟨by omega,by omega⟩,J9 rfl (Y9 rfl rfl ⟨_,Y2 hD' hT,?_,(s4.new hT).put hD,?_⟩)⟩))
    ·rw[List.length_map,List.length_map,List.length_range];exact Ud (by omega)
    ·rw[J2,ZM hi,List.range_succ,List.map_append,List.map_append];rfl
   ·rintro H' ⟨s4,hD'⟩;rw[List.length_map,List.length_map,List.length_map,List.length_range,N.len,Nat.min_self] at hD';exact k H' D (s3.trans s4) (s3.free hD) hD'
def Fr1 (a:Addr) (H H':Hp):Prop:= ∀c o,H c=some o->c≠a->H' c=some o
theorem Fr1.refl {a:Addr} {H:Hp}:Fr1 a H H:=fun _ _ h _=>h
theorem Fr1.of {a:Addr} {H H':Hp} (s:Same H H'):Fr1 a H H':=fun c o h _=>s c o h
theorem Fr1.trans {a:Addr} {H H1 H2:Hp} (x:Fr1 a H H1) (y:Fr1 a H1 H2):Fr1 a H H2:=fun c o h h1=>y c o (x c o h h1) h1
theorem Fr1.put {a:Addr} {H H1:Hp} {o:HO} (x:Fr1 a H H1):Fr1 a H (upd H1 a o):=fun c u h h1=>by rw[Ja h1];exact x c u h h1
def Ob (A:Adr) (K:PySem.W.Frag):Sp:=fun vs H Q _=> ∃(a rl:Addr) (cs:List Addr) (es:List Rest) (x:List Int) (most:Int),vs=[.ref a, .ref rl, .int most]/\H a=some (.lst (x.map V.int))/\H rl=some (.lst (cs.map V.ref))/\RestsAt A H cs es/\a≠rl/\
 (∀e∈es,e.arc<x.length)/\es.length<=1000/\ ∀(H':Hp) (m:Int),(m=most∨ ∃e∈es,m=e.room)->m<=most->(∀e∈es,m<=e.room)->Fr1 a H H'->H' a=some (.lst ((VbcsFlow.push x es m).map V.int))->Q .non H'
theorem RestAt.f1 {a:Addr} {xs:List V} {H H':Hp} (f:Fr1 a H H') (ha:H a=some (.lst xs)) {c:Addr} {e:Rest} (h:RestAt A H c e):RestAt A H' c e:=by
 obtain⟨dx,h⟩:=h;exact⟨dx,f _ _ h (JY h ha (by intro z;cases z))⟩
theorem NI (T:Txt K mg A):FnOk P w K mg base CX0 1 A.Gy A.GO ["amounts","rests","most"] (Ob A K):=by
 refine T.Hy.ok ZP (fun H vs Q E h=>?_)
 ·obtain⟨a,rl,cs,es,x,most,rfl,ha,hrl,R,nar,hb,hsm,k⟩:=h;refine⟨rfl,fun _ _ _ _ hr=>?_⟩;refine⟨Pc K A,(J3 (YL 3 ZP.nd (Jc (XI rfl) (by rfl) T.Xz Vw (J0 (Jr Zc (Jd (J0 (pv 2) J1)) (Us rfl ZP.nd (JQ (pv 1)) (bo [("rest",4)]) (fun _ _ _ _ _=>(ZF 4 ZP.nd)) (fun _ _ _ _ _=>Yw) (fun _ _ _ _ _=>(J6 (pv 4) rfl)))) J1))) (J4 (Y6 PassesOwn.never rfl (JQ (pv 1)) (ZF 4 ZP.nd) (J4 (Lw (pv 0) (J6 (pv 4) rfl) Hi (Jr Ug (J6 (pv 4) rfl) (pv 3)) LS Uh))))),?_⟩;refine J9 rfl ⟨LE,fun l1 h1=>?_⟩;have s1:Same H (upd H l1 (.lst [V.int most])):=(Same.refl H).new h1;have c1:upd H l1 (.lst [V.int most]) l1=some (.lst [V.int most]):=J2;generalize upd H l1 (.lst [V.int most])=H1 at s1 c1
  refine⟨_,rfl,rl,rfl,⟨_,SqL.of (s1 _ _ hrl)⟩,fun D hD=>Zt (K:=K) (a:=rl) (xs:=cs.map V.ref)
   (fun i H'=>Same H1 H'/\H' D=some (.lst ((((es.take i).map (fun e=>e.room))).map V.int))) ?_ ?_ ?_ ?_⟩
  ·exact⟨(Same.refl H1).new hD,J2⟩
  ·rintro i H' _ ⟨s4,_⟩;exact SqL.of (s4 _ _ (s1 _ _ hrl))
  ·rintro i y H' hy ⟨s4,hD'⟩;obtain⟨c,ec,rfl⟩:=Y3 hy;obtain⟨e,he,dc,hc⟩:=R.at_ i c ec;refine⟨rfl,?_⟩;refine JB rfl (s4 _ _ (s1 _ _ hc)) T.YT T.Kc (Th _) ⟨_,hD',?_,s4.put hD,?_⟩
   ·rw[List.length_map,List.length_map,List.length_take];exact Ud (by omega)
   ·rw[J2,List.take_add_one,he];simp
  ·rintro H2 ⟨s2,hD'⟩;rw[List.length_map,R.len,List.take_length] at hD';refine⟨l1,D,Y9 rfl rfl ⟨s2 _ _ c1,hD',(by rw[List.length_map,List.length_map];exact Nat.le_of_lt (Ud (by show 1+es.length<=3000;omega))),fun p hp=>?_⟩⟩;have e1:[V.int most]++(es.map (fun e=>e.room)).map V.int=(most::es.map (fun e=>e.room)).map V.int:=rfl;rw[e1];refine JX rfl (SqL.of J2) ⟨by simp,fun m hm hle=>?_⟩;have s3:Same H (upd H2 p (.lst ((most::es.map (fun e=>e.room)).map V.int))):=(s1.trans s2).new hp;generalize upd H2 p (.lst ((most::es.map (fun e=>e.room)).map V.int))=H3 at s3;refine J9 rfl ⟨rl,rfl,⟨_,SqL.of (s3 _ _ hrl)⟩,?_⟩
   refine Lj (K:=K) (a:=rl) (xs:=cs.map V.ref)
    (fun i σ H'=> ∃(v4:Option V),σ=[some (.ref a),some (.ref rl),some (.int most),some (.int m),v4]/\Fr1 a H H'/\H' a=some (.lst ((VbcsFlow.push x (es.take i) m).map V.int))) ?_ ?_ ?_ ?_
   ·exact⟨none,rfl,Fr1.of s3,s3 _ _ ha⟩
   ·rintro i σ H' _ ⟨v4,_,f,_⟩;exact SqL.of (f _ _ hrl nar.symm)
   ·rintro Ez i y σ H' ez hy ⟨v4,rfl,f,ha'⟩;obtain⟨c,ec,rfl⟩:=Y3 hy;obtain⟨e,he,hc0⟩:=R.at_ i c ec;obtain⟨dc,hc⟩:=hc0.f1 f ha;have hlt:e.arc<(VbcsFlow.push x (es.take i) m).length:=by rw[FM.GD];exact hb e (List.mem_of_getElem? he)
    refine J9 rfl (JB rfl hc T.YT T.Fj (RI _) (YJ rfl rfl (SqL.of ha') (UC hlt) (JB rfl hc T.YT T.KH (To _) (J9 rfl (Y9 rfl rfl ⟨.inl ?_,Y9 rfl rfl (YJ rfl rfl ha' (Ea (by rw[List.length_map];exact hlt)) ?_)⟩)))))
    ·split<;>omega
    ·rw[EB];refine ez _ _ (J9 rfl ⟨f.put,?_⟩);rw[J2,List.take_add_one,he,FM.Ca,FM.Ca,List.foldl_append];have:(if e.back=true then(-1:Int) else 1)*m=FM.sg e m:=by unfold FM.sg;split<;>omega
     rw[this];rfl
   ·rintro σ H' ⟨v4,rfl,f,ha'⟩;rw[List.length_map,R.len,List.take_length] at ha';refine k H' m ?_ (hle most List.mem_cons_self) (fun e he=>hle _ (List.mem_cons_of_mem _ (List.mem_map.mpr ⟨e,he,rfl⟩))) f ha';rcases List.mem_cons.mp hm with q|q
    ·exact .inl q
    ·obtain⟨e,he,q⟩:=List.mem_map.mp q;exact .inr ⟨e,he,q.symm⟩
theorem mem_more {g:Net} {x:List Int} {i:Nat}:i∈UA ((List.range g.n).map (balance g x))↔i<g.n/\0<balance g x i:=by
 unfold UA;rw[List.mem_filter,List.mem_range,List.length_map,List.length_range,decide_eq_true_eq];constructor
 ·rintro⟨a,b⟩;rw[ZM a] at b;exact⟨a,b⟩
 ·rintro⟨a,b⟩;refine⟨a,?_⟩;rw[ZM a];exact b
theorem B0 {g:Net} (h:EndsOk g) (q:Nat->Int) (x:List Int): ∀e∈VbcsFlow.rests (FM.priced g q) x,e.src<g.n/\e.dst<g.n:=fun e he=>by
 obtain⟨h1,h2⟩:=FM.Zx he;rw[FM.JO] at h1;have:=h e.arc h1;obtain⟨p1,p2,_,_⟩:=FM.U1 g q e.arc;rcases h2 with⟨_,a,b,_⟩|⟨_,a,b,_⟩
 ·rw[a,b,p1,p2];exact this
 ·rw[a,b,p1,p2];exact⟨this.2,this.1⟩
theorem QD (g:Net) (q:Nat->Int) (x:List Int):VbcsFlow.relaxed (VbcsFlow.rests (FM.priced g q) x) g.n (FM.JI g.n (fun i=>decide (i∈UA ((List.range g.n).map (balance g x)))))=VbcsFlow.reachFrom (FM.priced g q) x:=by
 rw[FM.A1];show _=VbcsFlow.relaxed (VbcsFlow.rests (FM.priced g q) x) g.n (FM.JI g.n _)
 congr 1
 apply FM.GM;intro i hi;rw[FM.Z2];by_cases h:0<balance g x i
 ·rw[decide_eq_true (mem_more.mpr ⟨hi,h⟩),decide_eq_true h]
 ·rw[decide_eq_false (fun z=>h (mem_more.mp z).2),decide_eq_false h]
theorem OI {g:Net} (wf:FM.Wf g) {x:List Int} (s:FM.St g x):(VbcsFlow.reachFrom g x).length=g.n:=by
 obtain⟨c,R⟩:=FM.Cq wf s;obtain⟨_,_,_,I⟩:=R.inv;exact I.len
theorem OZ {g:Net} {x:List Int}: ∀i∈UA ((List.range g.n).map (balance g x)),i<g.n:=fun i h=>(mem_more.mp h).1
def NS (A:Adr) (K:PySem.W.Frag):Sp:=fun vs H Q _=> ∃(p a b ps pa dx:Addr) (as:List Addr) (g:Net) (x q:List Int),vs=[.ref p, .ref a, .ref b]/\NetAt A H p g ps pa as dx/\H a=some (.lst (x.map V.int))/\H b=some (.lst (q.map V.int))/\a≠ps/\a≠pa/\a≠b/\FM.Wf g/\q.length=g.arcs.length/\FM.St (FM.priced g (at_ q)) x/\
 ∀(H':Hp) (x':List Int) (bl:Bool),Fr1 a H H'->H' a=some (.lst (x'.map V.int))->(bl=true->FM.St (FM.priced g (at_ q)) x'/\FM.A (FM.priced g (at_ q)) x'<FM.A (FM.priced g (at_ q)) x)->(bl=false->x'=x/\FM.Term (FM.priced g (at_ q)) x)->Q (.bl bl) H'
theorem O8 (T:Txt K mg A):FnOk P w K mg base CX0 4 A.HM A.HX ["net","amounts","prices"] (NS A K):=by
 refine T.GP.ok YN (fun H vs Q E h=>?_)
 ·obtain⟨p,a,b,ps,pa,dx,as,g,x,q,rfl,N,ha,hb,n1,n2,n3,wf,lq,S,k⟩:=h;refine⟨rfl,fun _ _ _ _ hr=>?_⟩;have lx:x.length=g.arcs.length:=by have:=S.len;rwa [FM.JO] at this
  have wp:=wf.priced (at_ q);have en:EndsOk g:=wf.ends;refine⟨_,(J3 (YL 3 YN.nd (pk (ZC T) hr T.Z7 (J0 (pv 0) (J0 (pv 1) J1)))) (J3 (YL 4 YN.nd (pk (US T) hr T.U8 (J0 (pv 0) (J0 (pv 1) (J0 (pv 2) J1))))) (J3 (YL 5 YN.nd (pk (UG T) hr T.ZR (J0 (Jc Ju (by rfl) T.JG Js (J0 (pv 3) J1)) (J0 (pk (Ay T) hr T.Uj (J0 (pv 3) J1)) (J0 (pv 4) J1))))) (J3 (Y6 PassesOwn.never rfl (Ew (by rfl) T.U0 (J0 (pv 3) J1)) (Uc rfl (JE (ZF 6 YN.nd) (JE (ZF 7 YN.nd) Zh))) (J4 (Jm (PW.pt (Zo (Jk DN (pv 7) J5 (Jn _)) (Zf (Y5 (C8 (Jq Ji (J6 (pv 5) rfl) (pv 6) (fun _ _=>rfl))))))) (J3 (YL 8 YN.nd (pk (Lc T) hr T.DD (J0 (pv 5) (J0 (pv 6) J1)))) (J3 (Yi (pk (NI T) hr T.Hy (J0 (pv 1) (J0 (pv 8) (J0 (Jc (Xd rfl) (by rfl) T.Xz Vw (J0 (Jq Ji (pv 3) (J6 (Jq Ji (pv 8) (GV Cs J5) (fun _ _=>rfl)) rfl) (fun _ _=>rfl)) (J0 (GV Cs (pv 7)) J1))) J1))))) (J4 (J7 Aj)))) Jb))) (J4 (J7 Aj)))))),?_⟩;refine JM rfl rfl ⟨p,a,ps,pa,dx,as,g,x,rfl,N,SqL.of ha,lx,en,fun H1 l1 s1 f1 c1=>?_⟩;refine J9 rfl (JM rfl rfl ⟨p,a,b,ps,pa,dx,as,g,x,q,rfl,N.same s1,SqL.of (s1 _ _ ha),SqL.of (s1 _ _ hb),lx,lq,fun H2 l2 cs s2 f2 c2 R=>?_⟩);refine J9 rfl (JX rfl (.inl (SqL.of (s2 _ _ c1))) (J9 rfl (JX rfl (SqL.of (s2 _ _ c1)) ⟨(by rw[List.length_map,List.length_range];have:=N.sm1;omega),fun H3 l3 s3 f3 c3=>?_⟩)));refine J9 rfl ⟨g.n,l3,l2,_,cs,_,(by rw[List.length_map,List.length_map,List.length_range];rfl),SqL.of c3,OZ,s3 _ _ c2,R.same s3,B0 en _ _,N.sm1,fun H4 wa wc wl dw lv s4 W=>?_⟩;rw[QD] at W;have c1':H4 l1=some (.lst (((List.range g.n).map (balance g x)).map V.int)):=s4 _ _ (s3 _ _ (s2 _ _ c1));have sa:Same H H4:=s1.trans (s2.trans (s3.trans s4));have rl:(VbcsFlow.reachFrom (FM.priced g (at_ q)) x).length=g.n:=OI wp S;refine J9 rfl (JX rfl (SqL.of c1') ?_)
  refine J0r (K:=K) (a:=l1) (xs:=((List.range g.n).map (balance g x)).map V.int)
   (fun i σ H'=> ∃(v6 v7:Option V),σ=[some (.ref p),some (.ref a),some (.ref b),some (.ref l1),some (.ref l2),some (.ref wa),v6,v7,none]/\Same H4 H'/\ ∀j,j<i->balance g x j<0->(reachAt (VbcsFlow.reachFrom (FM.priced g (at_ q)) x) j).isSome=false) ?_ ?_ ?_ ?_
  ·exact⟨none,none,rfl,Same.refl H4,fun j hj=>by omega⟩
  ·rintro i σ H' ⟨v6,v7,_,s5,_⟩;exact SqL.of (s5 _ _ c1')
  ·rintro Ez i y σ H' Tp ez rz hy hT ⟨v6,v7,rfl,s5,I⟩;obtain⟨hi,rfl⟩:=ZW hy;rw[List.length_map,List.length_range] at hi;rw[ZM hi];have s6:Same H4 (upd H' Tp (.tup [.int (i:Nat), .int (balance g x i)])):=s5.new hT;refine⟨Tp,J9 rfl ⟨SqT.of J2,rfl,_,_,rfl,Y9 rfl rfl ?_⟩⟩;generalize upd H' Tp (.tup [.int (i:Nat), .int (balance g x i)])=H5 at s6
   have next:(balance g x i<0->(reachAt (VbcsFlow.reachFrom (FM.priced g (at_ q)) x) i).isSome=false)-> ∀j,j<i+1->balance g x j<0->(reachAt (VbcsFlow.reachFrom (FM.priced g (at_ q)) x) j).isSome=false:=fun h j hj hb=>by
    by_cases e:j=i
    ·subst e;exact h hb
    ·exact I j (by omega) hb
   refine J9 rfl (Y9 rfl rfl (J9 rfl (Ig (fun hneg=>?_) (fun hneg=>Ya ?_))))
   ·refine JB rfl (s6 _ _ W.obj) T.ZT T.YG rfl (J9 rfl (YJ rfl rfl (SqL.of (s6 _ _ W.cst)) (PU (by rw[rl];exact hi)) (J9 rfl ?_)));cases eu:reachAt (VbcsFlow.reachFrom (FM.priced g (at_ q)) x) i with
    |none=>
     show if(!decide (V.non=V.non))=true then _ else _
     rw[if_neg (by simp)];exact ez _ _ ⟨_,_,rfl,s6,next (fun _=>by rw[eu];rfl)⟩
    |some u=>
     show if(!decide (V.int u.1=V.non))=true then _ else _
     rw[if_pos (by simp)];obtain⟨c,Rd⟩:=FM.Cq wp S;have isS:(reachAt (VbcsFlow.reachFrom (FM.priced g (at_ q)) x) i).isSome=true:=by rw[eu];rfl
     obtain⟨way,s0,Z,hs0,Wy,hwl⟩:=FM.XA wp S Rd isS (fun z=>by
      have:=of_decide_eq_true z.2;rw[FM.Z2] at this;omega)
     have hs0n:s0<g.n:=hs0.1
     have hpos:0<balance g x s0:=by
      have:=of_decide_eq_true hs0.2
      rwa [FM.Z2] at this
     have hwn:way.length<=g.n:=hwl;have hn:=N.sm1;refine JM rfl rfl ⟨wa,wc,wl,dw,_,lv,i,s0,way,rfl,W.same s6,Wy,(by rw[rl];exact hi),(fun e he=>by rw[rl];exact(B0 en _ _ e (Z.mem e he)).1),(by omega),fun H6 l6 cs6 s7 f7 c7 R7=>?_⟩
     obtain⟨e0,w0,hw0⟩: ∃e0 w0,way=e0::w0:=by
      cases way with
      |nil=>exact absurd rfl Z.ne
      |cons e0 w0=>exact⟨e0,w0,rfl⟩
     have hd:e0.src=s0:=by
      have:=Wy.head;rw[hw0] at this;exact this
     obtain⟨cs0,c0,hcs⟩: ∃cs0 c0,cs6=cs0++[c0]:=by
      have hl:=R7.len;rw[hw0,List.length_reverse,List.length_cons] at hl;exact⟨cs6.dropLast,cs6.getLast (by intro z;rw[z] at hl;simp at hl),(List.dropLast_concat_getLast _).symm⟩
     have hlast: ∃d0,H6 c0=some (.ins A.Zs d0 (CZ e0)):=by
      have g1:cs6[cs0.length]?=some c0:=by rw[hcs,List.getElem?_append_right (Nat.le_refl _),Nat.sub_self];rfl
      obtain⟨e1,g2,g3⟩:=R7.at_ _ c0 g1
      have g4:cs0.length=w0.length:=by
       have hl:=R7.len;rw[hw0,hcs,List.length_reverse,List.length_append] at hl;simp at hl;exact hl
      rw[hw0,List.reverse_cons,List.getElem?_append_right (by rw[List.length_reverse];omega),List.length_reverse,g4,Nat.sub_self] at g2;have g5:e0=e1:=Option.some.inj g2;rw[g5];exact g3
     obtain⟨d0,hc0⟩:=hlast
     have aI:Nu (cs6.map V.ref) (-1)=some (V.ref c0):=by
      rw[hcs,List.map_append];exact RJ _ _
     have hl6:H6 l1=some (.lst (((List.range g.n).map (balance g x)).map V.int)):=s7 _ _ (s6 _ _ c1');have ha6:H6 a=some (.lst (x.map V.int)):=s7 _ _ (s6 _ _ (sa _ _ ha));have fl6:a≠l6:=Jv (s6 _ _ (sa _ _ ha)) f7;refine J9 rfl (JM rfl rfl (JM rfl rfl (YJ rfl rfl (SqL.of c7) aI (Tk hc0 T.YT T.UY (FF _) (YJ rfl rfl (SqL.of hl6) (by rw[hd];exact UC (by rw[List.length_map,List.length_range];exact hs0n)) (JM rfl rfl ⟨_,_,rfl,?_⟩))))));rw[ZM hs0n];refine⟨a,l6,cs6,way.reverse,JX rfl ha6 ⟨c7,R7,fl6,(fun e he=>?_),(by rw[List.length_reverse];omega),fun H7 m hm1 hm2 hm3 f8 ha7=>?_⟩⟩
     ·have:=(FM.Zx (Z.mem e (List.mem_reverse.mp he))).1;rw[FM.JO] at this;omega
     ·have hmost:(if-balance g x i<balance g x s0 then-balance g x i else balance g x s0)<=balance g x s0/\(if-balance g x i<balance g x s0 then-balance g x i else balance g x s0)<= -balance g x i/\0<(if-balance g x i<balance g x s0 then-balance g x i else balance g x s0):=by
       split<;>omega
      have mp:0<m:=by
       rcases hm1 with z|⟨e,he,z⟩
       ·rw[z];exact hmost.2.2
       ·rw[z];exact FM.RD (Z.mem e (List.mem_reverse.mp he))
      have room: ∀e∈way,m<=e.room:=fun e he=>hm3 e (List.mem_reverse.mpr he)
      have pe:VbcsFlow.push x way.reverse m=VbcsFlow.push x way m:=FM.TB m (FM.J0g Z.arcs) Z.arcs (fun e=>List.mem_reverse) (fun e he=>by
       have:=(FM.Zx (Z.mem e (List.mem_reverse.mp he))).1;rw[FM.JO] at this;omega)
      rw[pe] at ha7;have st:=Z.keep m mp room;have as:=FM.A_step S Z hi hs0n mp (by rw[FM.Z2];omega) (by rw[FM.Z2];omega);exact rz _ _ (k H7 _ true ((Fr1.of (sa.trans (s6.trans s7))).trans f8) ha7 (fun _=>⟨st,by omega⟩) (fun z=>by cases z))
   ·exact ez _ _ ⟨_,_,rfl,s6,next (fun z=>absurd z hneg)⟩
  ·rintro σ H' ⟨v6,v7,rfl,s5,I⟩;rw[List.length_map,List.length_map,List.length_range] at I;exact k H' x false (Fr1.of (sa.trans s5)) (s5 _ _ (sa _ _ ha)) (fun z=>by cases z) (fun _=>⟨rfl,fun i hi hb=>I i hi (by rw[FM.Z2] at hb;exact hb)⟩)
theorem Pw (g:Net):(Xe g).length=g.arcs.length:=by unfold Xe;rw[List.length_map,List.length_range]
theorem VF {g:Net} {j:Nat} (h:j<g.arcs.length):at_ (Xe g) j=FM.oq g j:=ZM h
theorem M3 (g:Net):FM.priced g (at_ (Xe g))=FM.priced g (FM.oq g):=FM.GS g (fun j hj=>VF hj)
theorem VH (g:Net):(List.range g.arcs.length).map (fun j=>if FM.oq g j<0 then(FM.arc g j).most else(FM.arc g j).least)=VbcsFlow.begun (FM.priced g (FM.oq g)):=by
 refine FM.Q8 (m:=g.arcs.length) (by simp) (by simp[VbcsFlow.begun,FM.priced]) (fun j hj=>?_);rw[ZM hj];unfold VbcsFlow.begun;rw[FM.VM _ _ (by rw[FM.JO];exact hj),FM.Cr,if_pos hj]
def Rj (A:Adr) (K:PySem.W.Frag):Sp:=fun vs H Q _=> ∃(p ps pa dx:Addr) (as:List Addr) (g:Net),vs=[.ref p]/\NetAt A H p g ps pa as dx/\FM.Wf g/\Bnd g/\
 ∀(H':Hp) (l:Addr) (y:List Int),Same H H'->H l=none->H' l=some (.lst (y.map V.int))->FM.St (FM.priced g (FM.oq g)) y->FM.Term (FM.priced g (FM.oq g)) y->Q (.ref l) H'
theorem Qx (T:Txt K mg A):FnOk P w K mg base CX0 5 A.Nd A.M6 ["net"] (Rj A K):=by
 refine T.MZ.ok UQ (fun H vs Q E h=>?_)
 ·obtain⟨p,ps,pa,dx,as,g,rfl,N,wf,B,k⟩:=h;refine⟨rfl,fun _ _ _ _ hr=>?_⟩;have hsm:=N.sm2;refine⟨Se K A _ _,(J3 (YL 1 UQ.nd (pk (Fv T) hr T.AV (J0 (pv 0) J1))) (J3 (DX (i:=2) rfl UQ.nd rfl rfl (HJ rfl rfl rfl (by decide+kernel)) (Fz (by rfl) T.Kj (J0 (J6 (pv 0) rfl) (J0 (pv 1) J1))) (bo [("arc",3),("price",4)]) (fun _ _ _ _ _=>(Uc rfl (JE (ZF 3 UQ.nd) (JE (ZF 4 UQ.nd) Zh)))) (fun _ _ _ _ _=>Yw) (fun _ _ _ _ _=>(VP (Jk DN (pv 4) J5 (Jn _)) (J6 (pv 3) rfl) (J6 (pv 3) rfl)))) (J3 (GK PassesOwn.never (JT (pk (O8 T) hr T.GP (J0 (pv 0) (J0 (pv 2) (J0 (pv 1) J1))))) (J4 WI)) (J4 (J7 (pv 2)))))),?_⟩;refine J9 rfl ⟨p,ps,pa,dx,as,g,rfl,N,B,fun H1 b s1 f1 c1=>?_⟩
  refine⟨_,rfl,_,_,_,_,_,rfl,s1 _ _ N.obj,T.Yf,T.JR,rfl,_,rfl,pa,b,_,_,rfl,SqL.of (s1 _ _ N.lst),SqL.of c1,fun D hD=>Sz (K:=K) (a:=pa) (b:=b) (xs:=as.map V.ref) (ys:=(Xe g).map V.int)
   (fun i H'=>Same H1 H'/\H' D=some (.lst (((List.range i).map (fun j=>if FM.oq g j<0 then(FM.arc g j).most else(FM.arc g j).least)).map V.int))) ?_ ?_ ?_ ?_⟩
  ·exact⟨(Same.refl H1).new hD,J2⟩
  ·rintro i H' ⟨s4,_⟩;exact⟨SqL.of (s4 _ _ (s1 _ _ N.lst)),SqL.of (s4 _ _ c1)⟩
  ·rintro i y z H' Tp hy hz hT ⟨s4,hD'⟩;obtain⟨c,ec,rfl⟩:=Y3 hy;obtain⟨hi,rfl⟩:=ZW hz;rw[Pw] at hi;rw[VF hi];obtain⟨da,hc⟩:=N.arc _ c ec;have s5:Same H1 (upd H' Tp (.tup [.ref c, .int (FM.oq g i)])):=s4.new hT;have hc':=s5 _ _ (s1 _ _ hc);refine⟨Tp,J9 rfl ⟨SqT.of J2,rfl,_,_,rfl,Y9 rfl rfl ⟨rfl,?_⟩⟩⟩
   have fin: ∀v:Int,v=(if FM.oq g i<0 then(FM.arc g i).most else(FM.arc g i).least)-> ∃acc,upd H' Tp (.tup [.ref c, .int (FM.oq g i)]) D=some (.lst acc)/\acc.length<sizeLine/\Same H1 (upd (upd H' Tp (.tup [.ref c, .int (FM.oq g i)])) D (.lst (acc++[V.int v])))/\upd (upd H' Tp (.tup [.ref c, .int (FM.oq g i)])) D (.lst (acc++[V.int v])) D=some (.lst (((List.range (i+1)).map (fun j=>if FM.oq g j<0 then(FM.arc g j).most else(FM.arc g j).least)).map V.int)):=fun v hv=>by
    refine⟨_,Y2 hD' hT,?_,s5.put hD,?_⟩
    ·rw[List.length_map,List.length_map,List.length_range];exact Ud (by omega)
    ·rw[J2,hv,List.range_succ,List.map_append,List.map_append];rfl
   refine J9 rfl (Y9 rfl rfl (J9 rfl (Ig (fun h=>?_) (fun h=>?_))))
   ·exact JB rfl hc' T.JD T.JZ (AB _) (fin _ (by rw[if_pos h]))
   ·exact JB rfl hc' T.JD T.Yn (Uy _) (fin _ (by rw[if_neg h]))
  ·rintro H2 ⟨s2,hD'⟩;rw[List.length_map,List.length_map,Pw,N.len,Nat.min_self,VH] at hD';have fD:H D=none:=s1.free hD;have nDb:D≠b:=fun z=>by rw[z,c1] at hD;cases hD
   refine⟨fun m σ H'=> ∃(x:List Int),m=(FM.A (FM.priced g (FM.oq g)) x).toNat/\σ=[some (.ref p),some (.ref b),some (.ref D),none,none]/\Same H H'/\H' D=some (.lst (x.map V.int))/\H' b=some (.lst ((Xe g).map V.int))/\FM.St (FM.priced g (FM.oq g)) x,
    ⟨_,_,rfl,rfl,s1.trans s2,hD',s2 _ _ c1,FM.Rr (wf.priced _)⟩,?_⟩
   rintro m σ H' ⟨x,rfl,rfl,s3,hx,hb,S⟩;have nps:D≠ps:=fun z=>by rw[z,N.sup] at fD;cases fD
   have npa:D≠pa:=fun z=>by rw[z,N.lst] at fD;cases fD
   refine J9 rfl (JM rfl rfl ⟨p,D,b,ps,pa,dx,as,g,x,Xe g,rfl,N.same s3,hx,hb,nps,npa,nDb,wf,Pw g,(by rw[M3];exact S),fun H4 x' bl f4 hx' ht hf=>J9 rfl ?_⟩);rw[M3] at ht hf;have s4:Same H H4:=fun c o hc=>f4 c o (s3 c o hc) (Jv hc fD);cases bl with
   |true=>
    obtain⟨S',lt⟩:=ht rfl;have nn:0<=FM.A (FM.priced g (FM.oq g)) x':=FM.S_nonneg (fun i _=>by omega)
    exact⟨fun σ' H'=> ∃(x':List Int),FM.A (FM.priced g (FM.oq g)) x'<FM.A (FM.priced g (FM.oq g)) x/\0<=FM.A (FM.priced g (FM.oq g)) x'/\σ'=[some (.ref p),some (.ref b),some (.ref D),none,none]/\Same H H'/\H' D=some (.lst (x'.map V.int))/\H' b=some (.lst ((Xe g).map V.int))/\FM.St (FM.priced g (FM.oq g)) x',
     fun σ' H' ⟨x',h1,h0,h2⟩=>⟨_,(by omega:(FM.A (FM.priced g (FM.oq g)) x').toNat<(FM.A (FM.priced g (FM.oq g)) x).toNat),x',rfl,h2⟩,x',lt,nn,rfl,s4,hx',f4 _ _ hb nDb.symm,S'⟩
   |false=>
    obtain⟨e,t⟩:=hf rfl;subst e;exact J9 rfl (k H4 D _ s4 fD hx' S t)
theorem more_nil {g:Net} {x:List Int}:UA ((List.range g.n).map (balance g x))=[]↔ ¬ ∃i,i<g.n/\0<balance g x i:=by
 constructor
 ·rintro h ⟨i,hi⟩;have:=mem_more.mpr hi;rw[h] at this;cases this
 ·intro h;cases q:UA ((List.range g.n).map (balance g x)) with
  |nil=>rfl
  |cons a l=>
   have:=mem_more.mp (show a∈UA ((List.range g.n).map (balance g x)) by rw[q];exact List.mem_cons_self);exact absurd ⟨a,this⟩ h
def Qm (A:Adr):Sp:=fun vs H Q _=> ∃(p dx:Addr) (v1 v2:V),vs=[.ref p,v1,v2]/\H p=some (.ins A.Bh dx [])/\
 Q .non (upd H p (.ins A.Bh dx [("amounts",v1),("nodes",v2)]))
theorem HQ (T:Txt K mg A):FnOk P w K mg base CX0 1 A.KJ A.KQ ["self","amounts","nodes"] (Qm A):=by
 refine T.U6.ok Pd (fun H vs Q E h=>?_)
 ·obtain⟨p,dx,v1,v2,rfl,hp,k⟩:=h;refine⟨rfl,fun _ _ _ _ hr=>?_⟩;refine⟨_,(J3 (JP (pv 0) (pv 1) rfl) (J4 (JP (pv 0) (pv 2) rfl))),?_⟩;refine JM rfl rfl ⟨p,_,JX rfl hp ⟨T.Yv,T.JJ,(by show 0<1000;decide),?_⟩⟩;refine JM rfl rfl ⟨p,_,JX rfl J2 ⟨T.Yv,T.Ue,(by show 1<1000;decide),?_⟩⟩;rw[Jz];exact k
def M5 (A:Adr) (K:PySem.W.Frag):Sp:=fun vs H Q _=> ∃(p a m ps pa dx:Addr) (as:List Addr) (g:Net) (y:List Int),vs=[.ref p, .ref a, .ref m]/\NetAt A H p g ps pa as dx/\FM.Wf g/\SqL K H a (y.map V.int)/\SqL K H m (((UA ((List.range g.n).map (balance g y))).map (fun i:Nat=>(i:Int))).map V.int)/\
 FM.St (FM.priced g (FM.oq g)) y/\FM.Term (FM.priced g (FM.oq g)) y/\(∃i,i<g.n/\0<balance g y i)/\
 ∀(H':Hp) (l:Addr),Same H H'->H l=none->H' l=some (.lst (((VbcsFlow.noneSet g).map (fun i:Nat=>(i:Int))).map V.int))->Q (.ref l) H'
theorem Mr (T:Txt K mg A):FnOk P w K mg base CX0 4 A.ED A.F8 ["net","amounts","more"] (M5 A K):=by
 refine T.Fg.ok YZ (fun H vs Q E h=>?_)
 ·obtain⟨p,l,l3,ps,pa,dx,as,g,y,rfl,N,wf,c1,c3,S,t,more,k⟩:=h;refine⟨rfl,fun _ _ _ _ hr=>?_⟩;have hsm:=N.sm2;have hsm1:=N.sm1;have ly:y.length=g.arcs.length:=by have:=S.len;rwa [FM.JO] at this
  refine⟨O7 K A _ _,(J3 (YL 3 YZ.nd (Jr Ei (Jd (J0 J5 J1)) (Jc Ju (by rfl) T.JG Js (J0 (J6 (pv 0) rfl) J1)))) (J3 (YL 4 YZ.nd (pk (UG T) hr T.ZR (J0 (Jc Ju (by rfl) T.JG Js (J0 (J6 (pv 0) rfl) J1)) (J0 (pv 2) (J0 (pk (US T) hr T.U8 (J0 (pv 0) (J0 (pv 1) (J0 (pv 3) J1)))) J1))))) (J4 (J7 (Us rfl YZ.nd (Ew (by rfl) T.U0 (J0 (J6 (pv 4) rfl) J1)) (bo [("node",5),("cost",6)]) (fun _ _ _ _ _=>(Uc rfl (JE (ZF 5 YZ.nd) (JE (ZF 6 YZ.nd) Zh)))) (fun _ _ _ _ _=>(Hn (Y5 (C8 (pv 6))))) (fun _ _ _ _ _=>(pv 5))))))),?_⟩;refine⟨LE,fun l4 f4=>?_⟩;have s4:Same H (upd H l4 (.lst [V.int 0])):=(Same.refl H).new f4;refine JB rfl (s4 _ _ N.obj) T.Yf T.JR rfl (JX rfl (.inl (SqL.of (s4 _ _ N.lst))) ⟨l4,Y9 rfl rfl ⟨J2,?_⟩⟩);rw[List.length_map,N.len];refine⟨by omega,by omega,(by show 1*_<=sizeLine;exact Nat.le_of_lt (Ud (by omega))),fun l5 f5=>?_⟩;have s5:Same H (upd (upd H l4 (.lst [V.int 0])) l5 (.lst (List.replicate (g.arcs.length:Int).toNat [V.int 0]).flatten)):=s4.new f5
  have c5:upd (upd H l4 (.lst [V.int 0])) l5 (.lst (List.replicate (g.arcs.length:Int).toNat [V.int 0]).flatten) l5=some (.lst ((List.replicate g.arcs.length (0:Int)).map V.int)):=by
   rw[J2,show(g.arcs.length:Int).toNat=g.arcs.length by omega,T3];simp
  generalize upd (upd H l4 (.lst [V.int 0])) l5 (.lst (List.replicate (g.arcs.length:Int).toNat [V.int 0]).flatten)=H5 at s5 c5;refine JB rfl (s5 _ _ N.obj) T.Yf T.Y8 rfl (JX rfl (.inl (SqL.of (s5 _ _ N.sup))) (JM rfl rfl (JM rfl rfl ⟨p,l,l5,ps,pa,dx,as,g,y,List.replicate g.arcs.length 0,rfl,N.same s5,s5.seq c1,SqL.of c5,ly,by simp,fun H6 l6 cs s6 f6 c6 R=>?_⟩)));have sB:=s5.trans s6;refine⟨g.n,l3,l6,_,cs,_,(by rw[List.length_map,N.n];rfl),sB.seq c3,OZ,c6,R,B0 wf.ends _ _,hsm1,fun H7 wa wc wl dw lv s7 W=>?_⟩;rw[QD] at W
  have zs:=FM.W1 wf S t more (at_ (List.replicate g.arcs.length 0)) (fun j hj=>by
   unfold VbcsFlow.at_;rw[List.getD_eq_getElem?_getD,List.getElem?_replicate,if_pos hj];rfl)
  have rl:(VbcsFlow.reachFrom (FM.priced g (at_ (List.replicate g.arcs.length 0))) y).length=g.n:=by
   rw[FM.A1]
   have sq:FM.St (FM.priced g (at_ (List.replicate g.arcs.length 0))) y:=by
    have inb:=S.inb;rw[FM.Z9] at inb;refine⟨by rw[FM.JO];exact ly,by rw[FM.Z9];exact inb,fun _=>0,?_⟩;rw[FM.pot_priced];intro j hj
    have:at_ (List.replicate g.arcs.length 0) j=0:=by
     unfold VbcsFlow.at_;rw[List.getD_eq_getElem?_getD,List.getElem?_replicate];split<;>rfl
    rw[this];exact⟨fun _=>Int.le_refl 0,fun _=>Int.le_refl 0⟩
   have:=OI (wf.priced (at_ (List.replicate g.arcs.length 0))) sq;rw[FM.A1] at this;exact this
  generalize VbcsFlow.reachFrom (FM.priced g (at_ (List.replicate g.arcs.length 0))) y=r at W zs rl;have sC:=sB.trans s7
  refine⟨_,rfl,_,_,_,_,_,rfl,W.obj,T.ZT,T.YG,rfl,wc,_,rfl,SqL.of W.cst,fun D hD=>T6 (K:=K) (a:=wc) (xs:=r.map Uv)
   (fun i H'=>Same H7 H'/\H' D=some (.lst ((((List.range i).filter (fun i=>(reachAt r i).isSome)).map (fun i:Nat=>(i:Int))).map V.int))) ?_ ?_ ?_ ?_⟩
  ·exact⟨(Same.refl H7).new hD,J2⟩
  ·rintro i H' ⟨s8,_⟩;exact SqL.of (s8 _ _ W.cst)
  ·rintro i v H' Tp hv hT ⟨s8,hD'⟩;rw[List.getElem?_map] at hv
   have hi:i<r.length:=by
    cases e:r[i]? with
    |none=>rw[e] at hv;cases hv
    |some u=>exact JL e
   have hv':v=Uv (reachAt r i):=by
    unfold VbcsFlow.reachAt;rw[List.getD_eq_getElem?_getD,List.getElem?_eq_getElem hi];rw[List.getElem?_eq_getElem hi] at hv;exact(Option.some.inj hv).symm
   subst hv';refine⟨Tp,J9 rfl ⟨SqT.of J2,rfl,_,_,rfl,Y9 rfl rfl ⟨rfl,?_⟩⟩⟩;refine JM rfl rfl ?_;cases eu:reachAt r i with
   |none=>
    show if(!decide (V.non=V.non))=true then _ else _
    rw[if_neg (by simp)];refine⟨s8.new hT,?_⟩;rw[Y2 hD' hT,List.range_succ,List.filter_append,List.filter_cons,if_neg (by rw[eu];simp)];simp
   |some u=>
    show if(!decide (V.int u.1=V.non))=true then _ else _
    rw[if_pos (by simp)];refine J9 rfl ⟨_,Y2 hD' hT,?_,(s8.new hT).put hD,?_⟩
    ·rw[List.length_map,List.length_map];exact Nat.lt_of_le_of_lt (List.length_filter_le _ _) (by rw[List.length_range];exact Ud (by omega))
    ·rw[J2,List.range_succ,List.filter_append,List.filter_cons,if_pos (by rw[eu];rfl)];simp
  ·rintro H' ⟨s8,hD'⟩;rw[List.length_map,rl,<-zs] at hD';exact k H' D (sC.trans s8) (sC.free hD) hD'
def WD (v1 v2:V):List (Str×V):=[("amounts",v1),("nodes",v2)]
def Sg (A:Adr) (K:PySem.W.Frag):Sp:=fun vs H Q _=> ∃(p ps pa dx:Addr) (as:List Addr) (g:Net),vs=[.ref p]/\NetAt A H p g ps pa as dx/\FM.Wf g/\Bnd g/\
 (∀(H':Hp) (o d l:Addr),VbcsFlow.flowOf g=none->Same H H'->H' o=some (.ins A.Bh d (WD .non (.ref l)))->H' l=some (.lst (((VbcsFlow.noneSet g).map (fun i:Nat=>(i:Int))).map V.int))->Q (.ref o) H')/\
 ∀(H':Hp) (o d l e:Addr) (x:List Int),VbcsFlow.flowOf g=some x->FM.First g x->Same H H'->H' o=some (.ins A.Bh d (WD (.ref l) (.ref e)))->H' l=some (.lst (x.map V.int))->Q (.ref o) H'
theorem C6 (T:Txt K mg A):FnOk P w K mg base CX0 6 A.Op A.OF ["net"] (Sg A K):=by
 refine T.Bp.ok G0 (fun H vs Q E h=>?_)
 ·obtain⟨p,ps,pa,dx,as,g,rfl,N,wf,B,k0,k1⟩:=h;refine⟨rfl,fun _ _ _ _ hr=>?_⟩;refine⟨_,(J3 (YL 1 G0.nd (pk (Qx T) hr T.MZ (J0 (pv 0) J1))) (J3 (YL 2 G0.nd (pk (Ay T) hr T.Uj (J0 (pk (ZC T) hr T.Z7 (J0 (pv 0) (J0 (pv 1) J1))) J1))) (J3 (Jm (Qs (pv 2) (fun _=>rfl)) (J4 (J7 (pm (HQ T) hr T.U6 (J0 Nj (J0 (pk (Mr T) hr T.Fg (J0 (pv 0) (J0 (pv 1) (J0 (pv 2) J1)))) J1))))) Jb) (J4 (J7 (pm (HQ T) hr T.U6 (J0 (pv 1) (J0 (Jd J1) J1)))))))),?_⟩;refine J9 rfl ⟨p,ps,pa,dx,as,g,rfl,N,wf,B,fun H1 l y s1 f1 c1 S t=>?_⟩;have ly:y.length=g.arcs.length:=by have:=S.len;rwa [FM.JO] at this
  refine JM rfl rfl ⟨p,l,ps,pa,dx,as,g,y,rfl,N.same s1,SqL.of c1,ly,wf.ends,fun H2 l2 s2 f2 c2=>?_⟩;refine JX rfl (SqL.of c2) ⟨(by rw[List.length_map,List.length_range];have:=N.sm1;omega),fun H3 l3 s3 f3 c3=>?_⟩;have sA:=s1.trans (s2.trans s3);have c1':=s3 _ _ (s2 _ _ c1);refine J9 rfl ⟨_, .inl ⟨_,SqL.of c3,rfl⟩,?_⟩;rcases FM.TR wf S t with⟨F,z⟩|⟨more,NF⟩
  ·have e:UA ((List.range g.n).map (balance g y))=[]:=more_nil.mpr (fun⟨i,hi,hp⟩=>by rw[z i hi] at hp;omega);rw[e];show if false=true then _ else _
   refine Ya ?_;refine J9 rfl ⟨zl0,fun e fe=>fun o d ho hd ne=>?_⟩;refine⟨o,d,_,_,rfl,J2,rfl,?_⟩;rw[Jz];have s4:Same H3 (upd H3 e (.lst [])):=(Same.refl H3).new fe;have s5:=(s4.new (o:=HO.own o) hd).new (a:=o) (o:= .ins A.Bh d (WD (.ref l) (.ref e))) (by rw[Ja ne.symm];exact ho);exact k1 _ o d l e y (FM.QG wf F) F (sA.trans s5) J2 (s5 _ _ c1')
  ·have e:UA ((List.range g.n).map (balance g y))≠[]:=fun z=>more_nil.mp z more
   have e2:(!(((UA ((List.range g.n).map (balance g y))).map (fun i:Nat=>(i:Int))).map V.int).isEmpty)=true:=by
    cases q:UA ((List.range g.n).map (balance g y)) with
    |nil=>exact absurd q e
    |cons a l=>rfl
   rw[e2];refine JV ?_;refine J9 rfl (JM rfl rfl ⟨p,l,l3,ps,pa,dx,as,g,y,rfl,N.same sA,wf,SqL.of c1',SqL.of c3,S,t,more,fun H4 l4 s4 f4 c4=>fun o d ho hd ne=>?_⟩);refine⟨o,d,_,_,rfl,J2,rfl,?_⟩;rw[Jz];have s5:=((Same.refl H4).new (o:=HO.own o) hd).new (a:=o) (o:= .ins A.Bh d (WD .non (.ref l4))) (by rw[Ja ne.symm];exact ho);exact k0 _ o d l4 (FM.QO wf NF) (sA.trans (s4.trans s5)) J2 (s5 _ _ c4)
def Nr (A:Adr) (K:PySem.W.Frag):Sp:=fun vs H Q _=> ∃(p a ps pa dx:Addr) (as:List Addr) (g:Net) (x:List Int),vs=[.ref p, .ref a]/\NetAt A H p g ps pa as dx/\FM.Wf g/\SqL K H a (x.map V.int)/\FM.First g x/\
 ∀(H':Hp) (l:Addr),Same H H'->H' l=some (.lst ((VbcsFlow.pricesOf g x).map V.int))->Q (.ref l) H'
theorem Md (T:Txt K mg A):FnOk P w K mg base CX0 4 A.Fh A.EK ["net","amounts"] (Nr A K):=by
 refine T.Ft.ok Uq (fun H vs Q E h=>?_)
 ·obtain⟨p,a,ps,pa,dx,as,g,x,rfl,N,wf,hx,F,k⟩:=h;refine⟨rfl,fun _ _ _ _ hr=>?_⟩;have hsm:=N.sm2;have hsm1:=N.sm1;refine⟨NR K A _ _,(J3 (DX (i:=2) rfl Uq.nd rfl rfl (HJ rfl rfl rfl (by decide+kernel)) (JQ (J6 (pv 0) rfl)) (bo [("arc",4)]) (fun _ _ _ _ _=>(ZF 4 Uq.nd)) (fun _ _ _ _ _=>Yw) (fun _ _ _ _ _=>(J6 (pv 4) rfl))) (J3 (YL 3 Uq.nd (Jc Ju (by rfl) T.JG Js (J0 (J6 (pv 0) rfl) J1))) (J4 (J7 (J6 (pk (UG T) hr T.ZR (J0 (pv 3) (J0 (Yq (FU rfl) (by rfl) T.Ph Lx (J0 (Yq P9 (by rfl) T.Zz Mf (J0 (pv 3) J1)) J1)) (J0 (pk (US T) hr T.U8 (J0 (pv 0) (J0 (pv 1) (J0 (pv 2) J1)))) J1)))) rfl))))),?_⟩
  refine⟨_,rfl,_,_,_,_,_,rfl,N.obj,T.Yf,T.JR,rfl,pa,rfl,⟨_,SqL.of N.lst⟩,fun D hD=>Zt (K:=K) (a:=pa) (xs:=as.map V.ref)
   (fun i H'=>Same H H'/\H' D=some (.lst (((List.range i).map (FM.pr g)).map V.int))) ?_ ?_ ?_ ?_⟩
  ·exact⟨(Same.refl H).new hD,J2⟩
  ·rintro i H' _ ⟨s4,_⟩;exact SqL.of (s4 _ _ N.lst)
  ·rintro i y H' hy ⟨s4,hD'⟩;obtain⟨c,ec,rfl⟩:=Y3 hy;have hi:i<g.arcs.length:=by rw[<-N.len];exact JL ec
   obtain⟨da,hc⟩:=N.arc _ c ec;refine⟨rfl,?_⟩;refine JB rfl (s4 _ _ hc) T.JD T.Zl (BJ _) ⟨_,hD',?_,s4.put hD,?_⟩
   ·rw[List.length_map,List.length_map,List.length_range];exact Ud (by omega)
   ·rw[J2,List.range_succ,List.map_append,List.map_append];rfl
  ·rintro H1 ⟨s1,hD'⟩;rw[List.length_map,N.len] at hD';refine JB rfl (s1 _ _ N.obj) T.Yf T.Y8 rfl (JX rfl (.inl (SqL.of (s1 _ _ N.sup))) ?_);rw[List.length_map,<-N.n];refine J9 rfl (JM rfl rfl (fun r0 f0=>⟨r0,0,g.n,1,g.n,rfl,J2,small_one (by omega) (by omega) (by omega) (by omega),(by rw[rangeSize_one];split<;>omega),by omega,fun l2 f2=>?_⟩));have s2:Same H (upd (upd H1 r0 (FK r0 0 g.n 1)) l2 (.lst (((List.range g.n).map (fun i:Nat=>(0:Int)+(i:Int)*1)).map V.int))):=(s1.new f0).new f2
   have c2:upd (upd H1 r0 (FK r0 0 g.n 1)) l2 (.lst (((List.range g.n).map (fun i:Nat=>(0:Int)+(i:Int)*1)).map V.int)) l2=some (.lst (((List.range g.n).map (fun i:Nat=>(i:Int))).map V.int)):=by
    rw[J2];have:(fun i:Nat=>(0:Int)+(i:Int)*1)=(fun i:Nat=>(i:Int)):=by funext i;omega
    rw[this]
   have cD:upd (upd H1 r0 (FK r0 0 g.n 1)) l2 (.lst (((List.range g.n).map (fun i:Nat=>(0:Int)+(i:Int)*1)).map V.int)) D=some (.lst (((List.range g.arcs.length).map (FM.pr g)).map V.int)):=Y2 (Y2 hD' f0) f2;generalize upd (upd H1 r0 (FK r0 0 g.n 1)) l2 (.lst (((List.range g.n).map (fun i:Nat=>(0:Int)+(i:Int)*1)).map V.int))=H2 at s2 c2 cD;refine J9 rfl (JM rfl rfl ⟨p,a,D,ps,pa,dx,as,g,x,(List.range g.arcs.length).map (FM.pr g),rfl,N.same s2,s2.seq hx,SqL.of cD,F.flow.len,by simp,fun H3 l3 cs s3 f3 c3 R=>?_⟩);refine⟨g.n,l2,l3,List.range g.n,JX rfl (SqL.of (s3 _ _ c2)) ⟨(fun i hi=>List.mem_range.mp hi),c3,R,B0 wf.ends _ _,hsm1,fun H4 wa wc wl dw lv s4 W=>?_⟩⟩
   have e1:FM.priced g (at_ ((List.range g.arcs.length).map (FM.pr g)))=g:=by
    rw[FM.GS g (fun j hj=>ZM (f:=FM.pr g) hj)];unfold FM.priced
    have:g.arcs.zipIdx.map (fun a=>({a.1 with price:=FM.pr g a.2}:Arc))=g.arcs:=by
     have h2:g.arcs.zipIdx.map (fun a=>({a.1 with price:=FM.pr g a.2}:Arc))=g.arcs.zipIdx.map (fun a=>a.1):=by
      apply List.map_congr_left;intro b hb;obtain⟨b,j⟩:=b;have h':=List.mem_zipIdx' hb
      have eb:FM.arc g j=b:=by
       unfold FM.arc;rw[List.getD_eq_getElem?_getD,List.getElem?_eq_getElem h'.1];exact h'.2.symm
      unfold FM.pr;dsimp only;rw[eb]
     rw[h2,List.zipIdx_map_fst]
    rw[this]
   rw[e1] at W;obtain⟨c,pt⟩:=F.own wf;have e2:FM.JI g.n (fun i=>decide (i∈List.range g.n))=FM.JI g.n (fun _=>true):=FM.GM (fun i hi=>by simp[hi]);rw[e2] at W;have e3:=FM.Vc wf pt;generalize VbcsFlow.relaxed (VbcsFlow.rests g x) g.n (FM.JI g.n (fun _=>true))=r at W e3
   have e4:r.map Uv=(VbcsFlow.pricesOf g x).map V.int:=by
    have h5:r.map Uv=(VbcsFlow.costs r).map (fun o=>match o with|none=>V.non|some z=>V.int z):=by
     unfold VbcsFlow.costs;rw[List.map_map];apply List.map_congr_left;intro o _;cases o<;>rfl
    rw[h5,e3,List.map_map];rfl
   have wcst:=W.cst;rw[e4] at wcst;exact Tk W.obj T.ZT T.YG rfl (k H4 wc (s2.trans (s3.trans s4)) wcst)
theorem Z8 {n:Nat} (h:n<=100000):n<sizeLine:=Nat.lt_of_le_of_lt h (by show 100000<sizeLine;decide)
theorem VX {x:List Int} {i:Nat} (h:i<x.length):x[i]?=some (at_ x i):=by
 unfold VbcsFlow.at_;rw[List.getD_eq_getElem?_getD,List.getElem?_eq_getElem h];rfl
def Vg:Sp:=fun vs H Q _=> ∃(n lo hi:Int),vs=[.int n, .int lo, .int hi]/\Q (.bl (Vbcsaf.inr n lo hi)) H
theorem Zu (T:Txt K mg A):FnOk P w K mg base CX0 1 A.RQ A.QC ["number","least","greatest"] Vg:=by
 refine T.ZK.ok Vb (fun H vs Q E h=>?_)
 ·obtain⟨n,lo,hi,rfl,k⟩:=h;refine⟨rfl,fun _ _ _ _ hr=>?_⟩;refine⟨_,(J4 (J7 (Ae (Ze Ee (pv 1) (pv 0) (Jn _)) (Bl (Ze Ee (pv 0) (pv 2) (Jn _)))))),?_⟩;unfold Vbcsaf.inr at k;refine JM rfl rfl (Y9 rfl rfl (J9 rfl (Ig (fun h=>?_) (fun h=>?_))))
  ·rw[decide_eq_true h,Bool.true_and] at k;exact JM rfl rfl (Y9 rfl rfl k)
  ·rw[decide_eq_false h,Bool.false_and] at k;exact k
def NV (K:PySem.W.Frag):Sp:=fun vs H Q _=> ∃(a:Addr) (l:List Int) (lo hi:Int),vs=[.ref a, .int lo, .int hi]/\SqL K H a (l.map V.int)/\l.length<=100000/\ ∀H',Same H H'->Q (.bl (l.all fun n=>Vbcsaf.inr n lo hi)) H'
theorem Y0 (T:Txt K mg A):FnOk P w K mg base CX0 2 A.Gn A.Go ["numbers","least","greatest"] (NV K):=by
 refine T.Y1.ok Bn (fun H vs Q E h=>?_)
 ·obtain⟨a,l,lo,hi,rfl,hl,hsm,k⟩:=h;refine⟨rfl,fun _ _ _ _ hr=>?_⟩;refine⟨_,(J4 (J7 (Jc (LH rfl) (by rfl) T.Ru MU (J0 (Us rfl Bn.nd (JQ (pv 0)) (bo [("number",3)]) (fun _ _ _ _ _=>(ZF 3 Bn.nd)) (fun _ _ _ _ _=>Yw) (fun _ _ _ _ _=>(pk (Zu T) hr T.ZK (J0 (pv 3) (J0 (pv 1) (J0 (pv 2) J1)))))) J1)))),?_⟩
  refine⟨_,rfl,a,rfl,⟨_,hl⟩,fun D hD=>Zt (K:=K) (a:=a) (xs:=l.map V.int)
   (fun i H'=>Same H H'/\H' D=some (.lst ((((l.take i).map (fun n=>Vbcsaf.inr n lo hi))).map V.bl))) ?_ ?_ ?_ ?_⟩
  ·exact⟨(Same.refl H).new hD,J2⟩
  ·rintro i H' _ ⟨s4,_⟩;exact s4.seq hl
  ·rintro i y H' hy ⟨s4,hD'⟩;obtain⟨hi',rfl⟩:=ZW hy;refine⟨rfl,?_⟩;refine J9 rfl (JM rfl rfl ⟨_,lo,hi,rfl,_,hD',?_,s4.put hD,?_⟩)
   ·rw[List.length_map,List.length_map,List.length_take];exact Z8 (by omega)
   ·rw[J2,List.take_add_one,VX hi'];simp
  ·rintro H' ⟨s4,hD'⟩;rw[List.length_map,List.take_length] at hD';refine⟨D,J9 rfl ⟨SqL.of hD',?_⟩⟩;rw[List.all_map];exact k H' s4
def UI (l:List Int) (m:Nat):Bool:=decide (l.length<=m)&&l.all fun n=>Vbcsaf.inr n 0 1000000
def Qi (K:PySem.W.Frag):Sp:=fun vs H Q _=> ∃(a:Addr) (l:List Int) (m:Nat),vs=[.ref a, .int m]/\SqL K H a (l.map V.int)/\l.length<=100000/\ ∀H',Same H H'->Q (.bl (UI l m)) H'
theorem Ci (T:Txt K mg A):FnOk P w K mg base CX0 3 A.KZ A.K3 ["numbers","most"] (Qi K):=by
 refine T.AH.ok Pl (fun H vs Q E h=>?_)
 ·obtain⟨a,l,m,rfl,hl,hsm,k⟩:=h;refine⟨rfl,fun _ _ _ _ hr=>?_⟩;refine⟨_,(J4 (J7 (Ae (Ze Ee (Jc Ju (by rfl) T.JG Js (J0 (pv 0) J1)) (pv 1) (Jn _)) (Bl (pk (Y0 T) hr T.Y1 (J0 (pv 0) (J0 J5 (J0 J5 J1)))))))),?_⟩;unfold UI at k;refine J9 rfl (JX rfl (.inl hl) (J9 rfl (Y9 rfl rfl (J9 rfl (Ig (fun h=>?_) (fun h=>?_))))))
  ·rw[List.length_map] at h;rw[decide_eq_true (show l.length<=m by omega)] at k;exact J9 rfl ⟨a,l,_,_,rfl,hl,hsm,k⟩
  ·rw[List.length_map] at h;rw[decide_eq_false (show¬l.length<=m by omega)] at k;exact k H (Same.refl H)
def Lk:Sp:=fun vs H Q _=> ∃(v b:Nat),vs=[.int v, .int b]/\1<=b/\b<=100/\ ∀c,H c=none->Q (.ref c) (upd H c (.tup [.int ((v:Int)/(b:Int)), .int (((v:Int)+(b:Int)-1)/(b:Int))]))
theorem UR (T:Txt K mg A):FnOk P w K mg base CX0 1 A.Ej A.Dx ["number","base"] Lk:=by
 refine T.Uk.ok Ll (fun H vs Q E h=>?_)
 ·obtain⟨v,b,rfl,b1,b2,k⟩:=h;refine⟨rfl,fun _ _ _ _ hr=>?_⟩;refine⟨_,(J4 (J7 (ML (J0 (Jr SQ (pv 0) (pv 1)) (J0 (Jr SQ (Jr UB (Jr Ym (pv 0) (pv 1)) J5) (pv 1)) J1))))),?_⟩;exact JM rfl rfl (Y9 rfl rfl ⟨⟨by omega,by omega⟩,JM rfl rfl (Y9 rfl rfl ⟨_,_,rfl,rfl,J9 rfl (Y9 rfl rfl ⟨⟨by omega,by omega⟩,Qr,k⟩)⟩)⟩)
def MC (K:PySem.W.Frag):Sp:=fun vs H Q _=> ∃(a:Addr) (l:List Int),vs=[.ref a]/\SqL K H a (l.map V.int)/\l.length<=100000/\ ∀H',Same H H'->Q (.bl (Vbcsaf.isAmounts l)) H'
theorem YV (T:Txt K mg A):FnOk P w K mg base CX0 3 A.Fo A.EO ["numbers"] (MC K):=by
 refine T.YK.ok Mn (fun H vs Q E h=>?_)
 ·obtain⟨a,l,rfl,hl,hsm,k⟩:=h;refine⟨rfl,fun _ _ _ _ hr=>?_⟩;refine⟨_,(J4 (J7 (Ae (Ze Ee (Jc Ju (by rfl) T.JG Js (J0 (pv 0) J1)) J5 (Jn _)) (Bl (pk (Y0 T) hr T.Y1 (J0 (pv 0) (J0 (GV Cs J5) (J0 J5 J1)))))))),?_⟩;unfold Vbcsaf.isAmounts at k;refine J9 rfl (JX rfl (.inl hl) (Y9 rfl rfl (J9 rfl (Ig (fun h=>?_) (fun h=>?_)))))
  ·rw[List.length_map] at h;rw[decide_eq_true (show l.length<=80 by omega)] at k;exact JM rfl rfl ⟨a,l,_,_,rfl,hl,hsm,k⟩
  ·rw[List.length_map] at h;rw[decide_eq_false (show¬l.length<=80 by omega)] at k;exact k H (Same.refl H)
def Qp (K:PySem.W.Frag):Sp:=fun vs H Q _=> ∃(a:Addr) (l:List Int),vs=[.ref a]/\SqL K H a (l.map V.int)/\l.length<=100000/\ ∀H',Same H H'->Q (.bl (Vbcsaf.isSet l)) H'
theorem HL (T:Txt K mg A):FnOk P w K mg base CX0 3 A.K7 A.K0 ["numbers"] (Qp K):=by
 refine T.E8.ok Q6 (fun H vs Q E h=>?_)
 ·obtain⟨a,l,rfl,hl,hsm,k⟩:=h;refine⟨rfl,fun _ _ _ _ hr=>?_⟩;refine⟨_,(J4 (J7 (Ae (Ze Ee (Jc Ju (by rfl) T.JG Js (J0 (pv 0) J1)) J5 (Jn _)) (Bl (pk (Y0 T) hr T.Y1 (J0 (pv 0) (J0 J5 (J0 J5 J1)))))))),?_⟩;unfold Vbcsaf.isSet at k;refine J9 rfl (JX rfl (.inl hl) (Y9 rfl rfl (J9 rfl (Ig (fun h=>?_) (fun h=>?_)))))
  ·rw[List.length_map] at h;rw[decide_eq_true (show l.length<=16 by omega)] at k;exact J9 rfl ⟨a,l,_,_,rfl,hl,hsm,k⟩
  ·rw[List.length_map] at h;rw[decide_eq_false (show¬l.length<=16 by omega)] at k;exact k H (Same.refl H)
def FZ (K:PySem.W.Frag):Sp:=fun vs H Q _=> ∃(a:Addr) (l:List Int) (n:Nat),vs=[.ref a, .int n]/\SqL K H a (l.map V.int)/\Vbcsaf.isSet l=true/\ ∀H',Same H H'->Q (.bl (Vbcsaf.isSetOf n (Vbcsaf.nats l))) H'
theorem IG {l:List Int} (h: ∀x∈l,0<=x):(Vbcsaf.nats l).map (fun i:Nat=>(i:Int))=l:=by
 unfold Vbcsaf.nats;rw[List.map_map]
 have: ∀x∈l,((fun i:Nat=>(i:Int))∘Int.toNat) x=id x:=fun x hx=>by
  have:=h x hx;show((x.toNat:Nat):Int)=x;omega
 rw[List.map_congr_left this,List.map_id]
theorem LN {l:List Int} (h: ∀x∈l,0<=x):l.Nodup↔(Vbcsaf.nats l).Nodup:=by
 conv=>lhs;rw[<-IG h]
 unfold List.Nodup;rw[List.pairwise_map];constructor
 ·intro q;exact q.imp (fun h z=>h (by rw[z]))
 ·intro q;exact q.imp (fun h z=>h (by omega))
theorem FH (T:Txt K mg A):FnOk P w K mg base CX0 3 A.AT A.AF ["numbers","count"] (FZ K):=by
 refine T.B5.ok FY (fun H vs Q E h=>?_)
 ·obtain⟨a,l,n,rfl,hl,hset,k⟩:=h;refine⟨rfl,fun _ _ _ _ hr=>?_⟩;unfold Vbcsaf.isSet at hset;rw[Bool.and_eq_true,decide_eq_true_eq,List.all_eq_true] at hset;obtain⟨h16,hrange⟩:=hset
  have nn: ∀x∈l,0<=x:=fun x hx=>by
   have:=hrange x hx;unfold Vbcsaf.inr at this;rw[Bool.and_eq_true,decide_eq_true_eq] at this;exact this.1
  have e1:(l.all fun z=>Vbcsaf.inr z 0 ((n:Int)-1))=(Vbcsaf.nats l).all (fun i=>decide (i<n)):=by
   unfold Vbcsaf.nats;rw[List.all_map,Bool.eq_iff_iff,List.all_eq_true,List.all_eq_true];constructor
   ·intro q x hx;have:=q x hx;have p:=nn x hx;unfold Vbcsaf.inr at this;rw[Bool.and_eq_true,decide_eq_true_eq,decide_eq_true_eq] at this;exact decide_eq_true (show x.toNat<n by omega)
   ·intro q x hx;have:=of_decide_eq_true (q x hx);have p:=nn x hx;have this':x.toNat<n:=this;unfold Vbcsaf.inr;rw[Bool.and_eq_true,decide_eq_true_eq,decide_eq_true_eq];omega
  refine⟨_,(J4 (J7 (Ae (pk (Y0 T) hr T.Y1 (J0 (pv 0) (J0 J5 (J0 (Jr UB (pv 1) J5) J1)))) (Bl (Ze ZG (Jc WT (by rfl) T.JG Js (J0 (Yq (XN rfl) (by rfl) T.J0z J0e (J0 (pv 0) J1)) J1)) (Jc Ju (by rfl) T.JG Js (J0 (pv 0) J1)) (Jn _)))))),?_⟩;unfold Vbcsaf.isSetOf at k;refine JM rfl rfl (Y9 rfl rfl ⟨a,l,0,(n:Int)-1,rfl,hl,by omega,fun H1 s1=>?_⟩);rw[e1];refine J9 rfl (Vh (fun h=>?_) (fun h=>?_))
  ·rw[h,Bool.true_and] at k;refine J9 rfl ⟨a,l,rfl,s1.seq hl,by omega,fun l2 S f2=>?_⟩;refine⟨l2,S,J9 rfl ⟨J2,J9 rfl (JX rfl (.inl ((s1.new f2).seq hl)) ⟨rfl,?_⟩)⟩⟩;rw[List.length_map]
   have e2:decide (V.int ((firstMet (fun i=>l.getD i 0) l.length).length:Int)=V.int (l.length:Int))=((Vbcsaf.nats l).eraseDups.length==(Vbcsaf.nats l).length):=by
    rw[NP];by_cases q:l.Nodup
    ·rw[(Gw l).mpr q,decide_eq_true rfl,decide_eq_true ((LN nn).mp q)]
    ·rw[decide_eq_false (fun z=>q ((LN nn).mpr z)),decide_eq_false];intro z;injection z with z
     exact q ((Gw l).mp (by omega))
   rw[e2];exact k _ (s1.new f2)
  ·rw[h,Bool.false_and] at k;exact k H1 s1
open Vbcsaf (Table)
def Jp (l:List Nat):List V:=(l.map (fun i:Nat=>(i:Int))).map V.int
theorem Jh (l:List Nat):(Jp l).length=l.length:=by simp[Jp]
theorem YW {l:List Nat} {i:Nat} {v:V} (h:(Jp l)[i]?=some v):i<l.length/\v= .int (l.getD i 0:Nat):=by
 unfold Jp at h;rw[List.map_map,List.getElem?_map] at h;cases e:l[i]? with
 |none=>rw[e] at h;cases h
 |some c=>
  rw[e] at h;refine⟨JL e,?_⟩;rw[List.getD_eq_getElem?_getD,e];exact(Option.some.inj h).symm
theorem UM {l:List Nat} {i:Nat} (h:i<l.length):Nu (Jp l) (i:Int)=some (.int (l.getD i 0:Nat)):=by
 apply A0;unfold Jp;rw[List.map_map,List.getElem?_map,List.getElem?_eq_getElem h,List.getD_eq_getElem?_getD,List.getElem?_eq_getElem h];rfl
theorem S4 (l:List Nat):(Jp l).all Du=true:=BK _
theorem W9 (z:Nat) (l:List Nat):Wn (.int z) (Jp l)=decide (z∈l):=by
 unfold Jp;rw[QL];by_cases h:z∈l
 ·rw[decide_eq_true h];exact decide_eq_true (List.mem_map.mpr ⟨z,h,rfl⟩)
 ·rw[decide_eq_false h];apply decide_eq_false;intro q;obtain⟨a,ha,e⟩:=List.mem_map.mp q;exact h (by rw[<-show a=z by omega];exact ha)
theorem Ps (xs:List V):DA xs (some 1) none=xs.drop 1:=by
 unfold DA;have e1:HT.sIx xs.length 0 (some 1)=min 1 xs.length:=HT.sIx_nat xs.length 0 1;rw[e1,HT.sIx_none];by_cases h:1<=xs.length
 ·rw[Nat.min_eq_left h];apply List.take_of_length_le;rw[List.length_drop];omega
 ·have:xs.length=0:=by omega
  have:xs=[]:=List.length_eq_zero_iff.mp this;subst this;rfl
theorem Ms (l:List Nat) (k:Nat):(Jp l).drop k=Jp (l.drop k):=by
 unfold Jp;rw[<-List.map_drop,<-List.map_drop]
def IE (t:Table) (pr pc px kd:Addr):List (Str×V):=[("base", .int t.base),("rows", .ref pr),("columns", .ref pc),("cells", .ref px),("cell_weight", .int t.cellWeight),("sum_weight", .int t.sumWeight),("kept", .ref kd)]
structure KeptOk (kvs:List (Key×V)) (kept:List (Nat×Int)):Prop where
 nd1:(kvs.map (·.1)).Nodup
 nd2:(kept.map (·.1)).Nodup
 eq: ∀i:Nat,ZH kvs (Sum.inl (i:Int))=(kept.find? (fun k=>k.1==i)).map (fun k=>V.int k.2)
 len:kvs.length=kept.length
structure TableAt (A:Adr) (H:Hp) (p:Addr) (t:Table) (pr pc px kd dx:Addr) (kvs:List (Key×V)):Prop where
 obj:H p=some (.ins A.YU dx (IE t pr pc px kd))
 rows:H pr=some (.lst (Jp t.rows))
 cols:H pc=some (.lst (Jp t.cols))
 cells:H px=some (.lst (Jp t.cells))
 kept:H kd=some (.dK kvs)
 kok:KeptOk kvs t.kept
theorem TableAt.same {H H':Hp} {p pr pc px kd dx:Addr} {t:Table} {kvs:List (Key×V)} (s:Same H H') (h:TableAt A H p t pr pc px kd dx kvs):TableAt A H' p t pr pc px kd dx kvs:=
 ⟨s _ _ h.obj,s _ _ h.rows,s _ _ h.cols,s _ _ h.cells,s _ _ h.kept,h.kok⟩
structure TBnd (t:Table):Prop where
 ok:TM.TOk t
 base:1<=t.base/\t.base<=100
 rl:t.rows.length<=8
 cl:t.cols.length<=8
 cells: ∀c∈t.cells,c<=1000000
 cw:t.cellWeight<=9
 sw:t.sumWeight<=9
 kept: ∀k∈t.kept,k.1<(Vbcsaf.told t).length/\0<=k.2/\k.2<=1000000
 klen:t.kept.length<=1000
theorem TBnd.cl64 {t:Table} (b:TBnd t):t.cells.length<=64:=by
 rw[b.ok.cells];exact Nat.mul_le_mul (Nat.le_trans (TM.Yx _) b.rl) (Nat.le_trans (TM.Yx _) b.cl)
theorem Rf {H:Hp} {a b:Addr} {o u:HO} (h:a≠b):upd (upd H a o) b u=upd (upd H b u) a o:=by
 funext c
 unfold upd;by_cases h1:c=b
 ·subst h1;rw[if_pos rfl,if_neg (fun z=>h z.symm),if_pos rfl]
 ·rw[if_neg h1];by_cases h2:c=a
  ·rw[if_pos h2,if_pos h2]
  ·rw[if_neg h2,if_neg h2,if_neg h1]
def NK (A:Adr):Sp:=fun vs H Q _=> ∃(p dx:Addr) (v1 v2 v3 v4:V),vs=[.ref p,v1,v2,v3,v4]/\H p=some (.ins A.YU dx [])/\
 ∀d,H d=none->Q .non (upd (upd H d (.dK [])) p (.ins A.YU dx [("base",v1),("rows",v2),("columns",v3),("cells",v4),("cell_weight", .int 1),("sum_weight", .int 1),("kept", .ref d)]))
theorem NC (T:Txt K mg A):FnOk P w K mg base CX0 1 A.Gd A.HD ["self","base","rows","columns","cells"] (NK A):=by
 refine T.Yd.ok Oc (fun H vs Q E h=>?_)
 ·obtain⟨p,dx,v1,v2,v3,v4,rfl,hp,k⟩:=h;refine⟨rfl,fun _ _ _ _ hr=>?_⟩;refine⟨_,(J3 (JP (pv 0) (pv 1) rfl) (J3 (JP (pv 0) (pv 2) rfl) (J3 (JP (pv 0) (pv 3) rfl) (J3 (JP (pv 0) (pv 4) rfl) (J3 (JP (pv 0) J5 rfl) (J3 (JP (pv 0) J5 rfl) (J4 (JP (pv 0) Vx rfl)))))))),?_⟩;refine JM rfl rfl ⟨p,_,JX rfl hp ⟨T.Jl,T.BZ,(by show 0<1000;decide),?_⟩⟩;refine JM rfl rfl ⟨p,_,JX rfl J2 ⟨T.Jl,T.Y7,(by show 1<1000;decide),?_⟩⟩;refine JM rfl rfl ⟨p,_,JX rfl J2 ⟨T.Jl,T.JN,(by show 2<1000;decide),?_⟩⟩;refine JM rfl rfl ⟨p,_,JX rfl J2 ⟨T.Jl,T.Yo,(by show 3<1000;decide),?_⟩⟩;refine J9 rfl ⟨p,_,JX rfl J2 ⟨T.Jl,T.ZJ,(by show 4<1000;decide),?_⟩⟩;refine J9 rfl ⟨p,_,JX rfl J2 ⟨T.Jl,T.Z5,(by show 5<1000;decide),?_⟩⟩;rw[Jz,Jz,Jz,Jz,Jz];intro d hd;have hdp:d≠p:=fun z=>by rw[z,J2] at hd;cases hd
  have hd':H d=none:=by rw[Ja hdp] at hd;exact hd
  refine J9 rfl ⟨p,_,JX rfl (by rw[Ja hdp.symm];exact J2) ⟨T.Jl,T.YH,(by show 6<1000;decide),?_⟩⟩;rw[Rf hdp.symm,Jz];exact k d hd'
def S5 (K:PySem.W.Frag):Sp:=fun vs H Q _=> ∃(a:Addr) (l:List Nat),vs=[.ref a]/\SqL K H a (Jp l)/\1<=l.length/\l.length<=1000/\ ∀H',Same H H'->Q (.bl (Vbcsaf.isTree l)) H'
theorem MX (T:Txt K mg A):FnOk P w K mg base CX0 1 A.OA A.On ["above"] (S5 K):=by
 refine T.Ii.ok G6 (fun H vs Q E h=>?_)
 ·obtain⟨a,l,rfl,hl,hp,hsm,k⟩:=h;refine⟨rfl,fun _ _ _ _ hr=>?_⟩;refine⟨TH K A,(J3 (Jm (Jk BF (Jq Ji (pv 0) J5 (fun _ _=>rfl)) J5 (Jn _)) (J4 (J7 Aj)) Jb) (J4 (J7 (Jc (LH rfl) (by rfl) T.Ru MU (J0 (Us rfl G6.nd (Eu (by rfl) T.Zz (J0 J5 (J0 (Jc Ju (by rfl) T.JG Js (J0 (pv 0) J1)) J1))) (bo [("node",1)]) (fun _ _ _ _ _=>(ZF 1 G6.nd)) (fun _ _ _ _ _=>Yw) (fun _ _ _ _ _=>(Ze DN (Jq Ji (pv 0) (pv 1) (fun _ _=>rfl)) (pv 1) (Jn _)))) J1))))),?_⟩;refine J9 rfl (YJ rfl rfl hl (UM (i:=0) (by omega)) ⟨rfl,J9 rfl (Il (fun h=>?_) (fun h=>?_))⟩)
  ·have e:Vbcsaf.isTree l=false:=by
    cases q:Vbcsaf.isTree l with
    |false=>rfl
    |true=>
     have:=((TM.Cm l).mp q).root;rw[List.getD_eq_getElem?_getD,List.getElem?_eq_getElem (by omega)] at this;rw[List.getD_eq_getElem?_getD,List.getElem?_eq_getElem (by omega)] at h;exact absurd (by exact_mod_cast this) h
   have:=k H (Same.refl H);rw[e] at this;exact this
  ·refine J9 rfl (JX rfl (.inl hl) ⟨1,J9 rfl ⟨⟨by omega,by omega,by omega,by rw[Jh];omega⟩,fun D hD=>?_⟩⟩);rw[Jh]
   refine Dv (lo:=1) (n:=((l.length:Int)-1).toNat)
    (fun i H'=>Same H H'/\H' D=some (.lst (((List.range i).map (fun j=>decide (l.getD (j+1) 0<j+1))).map V.bl))) ?_ ?_ ?_
   ·exact⟨(Same.refl H).new hD,J2⟩
   ·rintro i H' hi ⟨s4,hD'⟩;refine⟨rfl,?_⟩;have e1:(1:Int)+(i:Int)=((i+1:Nat):Int):=by omega
    rw[e1];refine JM rfl rfl (YJ rfl rfl (s4.seq hl) (UM (by omega)) (J9 rfl (Y9 rfl rfl ⟨_,hD',?_,s4.put hD,?_⟩)))
    ·rw[List.length_map,List.length_map,List.length_range];exact Z8 (by omega)
    ·rw[J2,List.range_succ,List.map_append,List.map_append]
     congr 3
     show[V.bl (decide ((l.getD (i+1) 0:Int)<((i+1:Nat):Int)))]=[V.bl (decide (l.getD (i+1) 0<i+1))]
     congr 2
     by_cases q:l.getD (i+1) 0<i+1
     ·rw[decide_eq_true q,decide_eq_true];omega
     ·rw[decide_eq_false q,decide_eq_false];omega
   ·rintro H' ⟨s4,hD'⟩;refine⟨D,J9 rfl ⟨SqL.of hD',?_⟩⟩
    have e:((List.range ((l.length:Int)-1).toNat).map (fun j=>decide (l.getD (j+1) 0<j+1))).all id=Vbcsaf.isTree l:=by
     rw[List.all_map,Bool.eq_iff_iff,List.all_eq_true,TM.Cm];constructor
     ·intro q;refine⟨hp,?_,fun i h1 h2=>?_⟩
      ·rw[List.getD_eq_getElem?_getD,List.getElem?_eq_getElem (by omega)] at h ⊢;have:(l[0]:Int)=0:=h;show l[0]=0;omega
      ·have:=q (i-1) (List.mem_range.mpr (by omega));have this':l.getD (i-1+1) 0<i-1+1:=of_decide_eq_true this;rw[show i-1+1=i by omega] at this';exact this'
     ·intro t j hj;rw[List.mem_range] at hj;exact decide_eq_true (t.up (j+1) (by omega) (by omega))
    rw[e];exact k H' s4
def Qn (K:PySem.W.Frag):Sp:=fun vs H Q _=> ∃(a:Addr) (l:List Nat),vs=[.ref a]/\SqL K H a (Jp l)/\l.length<=1000/\ ∀(H':Hp) (d:Addr),Same H H'->H d=none->H' d=some (.lst (Jp (Vbcsaf.leaves l)))->Q (.ref d) H'
theorem YF (T:Txt K mg A):FnOk P w K mg base CX0 1 A.IU A.Kb ["above"] (Qn K):=by
 refine T.YC.ok C2 (fun H vs Q E h=>?_)
 ·obtain⟨a,l,rfl,hl,hsm,k⟩:=h;refine⟨rfl,fun _ _ _ _ hr=>?_⟩;refine⟨Rp K A,(J4 (J7 (Us rfl C2.nd (Es (by rfl) T.Zz (J0 (Jc Ju (by rfl) T.JG Js (J0 (pv 0) J1)) J1)) (bo [("node",1)]) (fun _ _ _ _ _=>(ZF 1 C2.nd)) (fun _ _ _ _ _=>(Hn (Jk Ce (pv 1) (UN AX (pv 0) (ZQ J5) LF) (by with_unfolding_all rfl)))) (fun _ _ _ _ _=>(pv 1))))),?_⟩;refine J9 rfl (JX rfl (.inl hl) ⟨(l.length:Int),(by rw[Jh]),by omega,by omega,fun D hD=>?_⟩)
  refine Dv (lo:=0) (n:=(l.length:Int).toNat)
   (fun i H'=>Same H H'/\H' D=some (.lst (Jp ((List.range i).filter (fun j=>!decide (j∈l.drop 1)))))) ?_ ?_ ?_
  ·exact⟨(Same.refl H).new hD,J2⟩
  ·rintro i H' hi ⟨s4,hD'⟩;have e1:(0:Int)+(i:Int)=((i:Nat):Int):=by omega
   rw[e1];refine⟨rfl,?_⟩;refine JM rfl rfl ⟨1,rfl,JX rfl (s4.seq hl) (fun c hc=>?_)⟩;rw[Ps,Ms];refine JX rfl (.inl (SqL.of J2)) ⟨rfl,S4 _,J9 rfl ?_⟩;show if(!Wn (V.int (i:Int)) (Jp (l.drop 1)))=true then _ else _
   rw[W9];refine Vh (fun h=>?_) (fun h=>?_)
   ·refine J9 rfl ⟨_,Y2 hD' hc,?_,(s4.new hc).put hD,?_⟩
    ·rw[Jh];exact Nat.lt_of_le_of_lt (List.length_filter_le _ _) (by rw[List.length_range];exact Z8 (by omega))
    ·rw[J2,List.range_succ,List.filter_append,List.filter_cons,if_pos h];unfold Jp;simp
   ·refine⟨s4.new hc,?_⟩;rw[Y2 hD' hc,List.range_succ,List.filter_append,List.filter_cons,if_neg (by rw[h];simp)];simp
  ·rintro H' ⟨s4,hD'⟩;rw[show(l.length:Int).toNat=l.length by omega,<-TM.Bo] at hD';exact k H' D s4 hD hD'
def NA (A:Adr):Sp:=fun vs H Q _=> ∃(p pr pc px kd dx:Addr) (t:Table) (kvs:List (Key×V)),vs=[.ref p]/\TableAt A H p t pr pc px kd dx kvs/\TM.TOk t/\Q (.int (Vbcsaf.told t).length) H
theorem Bg (T:Txt K mg A):FnOk P w K mg base CX0 1 A.Hv A.Ge ["table"] (NA A):=by
 refine T.A3.ok NZ (fun H vs Q E h=>?_)
 ·obtain⟨p,pr,pc,px,kd,dx,t,kvs,rfl,N,ok,k⟩:=h;refine⟨rfl,fun _ _ _ _ hr=>?_⟩;refine⟨_,(J4 (J7 (Jr UB (Jr Ym (Jr Ym (Jc Ju (by rfl) T.JG Js (J0 (J6 (pv 0) rfl) J1)) (Jc Ju (by rfl) T.JG Js (J0 (J6 (pv 0) rfl) J1))) (Jc Ju (by rfl) T.JG Js (J0 (J6 (pv 0) rfl) J1))) J5))),?_⟩
  refine⟨_,rfl,_,_,_,_,_,rfl,N.obj,T.Jl,T.Y7,rfl,pr,_,rfl, .inl (SqL.of N.rows),_,rfl,_,_,_,_,_,rfl,N.obj,T.Jl,T.Yo,rfl,px,_,rfl, .inl (SqL.of N.cells),_,_,rfl,rfl,
   _,rfl,_,_,_,_,_,rfl,N.obj,T.Jl,T.JN,rfl,pc,_,rfl, .inl (SqL.of N.cols),_,_,rfl,rfl,_,_,rfl,rfl,?_⟩
  rw[Jh,Jh,Jh];have e:=TM.QA ok;have p1:=ok.cols.pos;show Q (V.int ((t.rows.length:Int)+t.cells.length+t.cols.length-1)) H;rw[show(t.rows.length:Int)+t.cells.length+t.cols.length-1=((Vbcsaf.told t).length:Int) by omega];exact k
theorem Ko {L:List Int} {i:Nat} {z:Int}:(L.map V.int).set i (.int z)=(L.set i z).map V.int:=EB
theorem Wr {l:List Nat} {v:Nat->Int} {L:List Int} {k:Nat} (hn:(Vbcsaf.leaves l).Nodup) (hk:k<(Vbcsaf.leaves l).length) (hL:L.length=l.length)
  (I: ∀i,i<l.length->at_ L i=FM.S k (fun j=>if(Vbcsaf.leaves l).getD j 0=i then v j else 0)):
  ∀i,i<l.length->at_ (L.set ((Vbcsaf.leaves l).getD k 0) (v k)) i=FM.S (k+1) (fun j=>if(Vbcsaf.leaves l).getD j 0=i then v j else 0):=by
 intro i hi;rw[FM.DW (by rw[hL];exact TM.LB hk)];simp only[FM.S];by_cases h:(Vbcsaf.leaves l).getD k 0=i
 ·rw[if_pos h,if_pos h]
  have z:FM.S k (fun j=>if(Vbcsaf.leaves l).getD j 0=i then v j else 0)=FM.S k (fun _=>0):=FM.S_congr (fun j hj=>by
   rw[if_neg];intro q;rw[<-h,List.getD_eq_getElem?_getD,List.getD_eq_getElem?_getD,List.getElem?_eq_getElem (by omega),List.getElem?_eq_getElem hk] at q;have:=(List.getElem_inj (h₀:=by omega) (h₁:=hk) hn).mp q;omega)
  rw[z,FM.S_zero];omega
 ·rw[if_neg h,if_neg h,I i hi];omega
theorem PY (l:List Nat):(Vbcsaf.leaves l).Nodup:=by
 rw[TM.Bo];exact List.Pairwise.filter _ List.nodup_range
def EW (l:List Nat) (v:List Int):List Int:=(List.range l.length).map (fun i=>TM.Bq l (at_ v) 0 i)
def Iq (K:PySem.W.Frag):Sp:=fun vs H Q _=> ∃(a b:Addr) (l:List Nat) (v:List Int),vs=[.ref a, .ref b]/\SqL K H a (Jp l)/\SqL K H b (v.map V.int)/\TM.Tree l/\v.length=(Vbcsaf.leaves l).length/\l.length<=1000/\
 ∀(H':Hp) (d:Addr),Same H H'->H d=none->H' d=some (.lst ((EW l v).map V.int))->Q (.ref d) H'
theorem BG (T:Txt K mg A):FnOk P w K mg base CX0 2 A.Cy A.Da ["above","leaf_sums"] (Iq K):=by
 refine T.UT.ok YY (fun H vs Q E h=>?_)
 ·obtain⟨a,b,l,v,rfl,hl,hv,t,lv,hsm,k⟩:=h;refine⟨rfl,fun _ _ _ _ hr=>?_⟩;have tp:=t.pos;refine⟨_,(J3 (YL 2 YY.nd (Jr Ei (Jd (J0 J5 J1)) (Jc Ju (by rfl) T.JG Js (J0 (pv 0) J1)))) (J3 (Y6 PassesOwn.never rfl (Fz (by rfl) T.Kj (J0 (pk (YF T) hr T.YC (J0 (pv 0) J1)) (J0 (pv 1) J1))) (Uc rfl (JE (ZF 3 YY.nd) (JE (ZF 4 YY.nd) Zh))) (J4 (Mx (pv 4) (Mo (pv 2) (pv 3) Uh)))) (J3 (Y6 PassesOwn.never rfl (OR (by rfl) T.Zz (J0 (Jr UB (Jc Ju (by rfl) T.JG Js (J0 (pv 0) J1)) J5) (J0 J5 (J0 (GV Cs J5) J1)))) (ZF 5 YY.nd) (J4 (Lw (pv 2) (Jq Ji (pv 0) (pv 5) (fun _ _=>rfl)) Hi (Jq Ji (pv 2) (pv 5) (fun _ _=>rfl)) LS Uh))) (J4 (J7 (pv 2)))))),?_⟩;refine⟨LE,fun l1 h1=>?_⟩;have s1:Same H (upd H l1 (.lst [V.int 0])):=(Same.refl H).new h1;refine J9 rfl (JX rfl (.inl (s1.seq hl)) ⟨l1,Y9 rfl rfl ⟨J2,?_⟩⟩);rw[Jh];refine⟨by omega,by omega,(by show 1*_<=sizeLine;exact Nat.le_of_lt (Z8 (by omega))),fun d hd=>?_⟩;have fd:H d=none:=s1.free hd
  have e0:(List.replicate (l.length:Int).toNat [V.int 0]).flatten=(List.replicate l.length (0:Int)).map V.int:=by
   rw[show(l.length:Int).toNat=l.length by omega]
   have: ∀n,(List.replicate n [V.int 0]).flatten=(List.replicate n (0:Int)).map V.int:=by
    intro n
    induction n with
    |zero=>rfl
    |succ n ih=>rw[List.replicate_succ,List.flatten_cons,ih,List.replicate_succ];rfl
   exact this _
  rw[e0];have s2:Same H (upd (upd H l1 (.lst [V.int 0])) d (.lst ((List.replicate l.length (0:Int)).map V.int))):=s1.new hd;have c2:upd (upd H l1 (.lst [V.int 0])) d (.lst ((List.replicate l.length (0:Int)).map V.int)) d=some (.lst ((List.replicate l.length (0:Int)).map V.int)):=J2;generalize upd (upd H l1 (.lst [V.int 0])) d (.lst ((List.replicate l.length (0:Int)).map V.int))=H2 at s2 c2;refine J9 rfl ⟨a,l,rfl,s2.seq hl,hsm,fun H3 d3 s3 f3 c3=>?_⟩;refine J9 rfl ⟨d3,b,_,_,rfl,SqL.of c3,(s2.trans s3).seq hv,?_⟩
  refine J0P (K:=K) (a:=d3) (b:=b) (xs:=Jp (Vbcsaf.leaves l)) (ys:=v.map V.int)
   (fun i σ H'=> ∃(L:List Int) (v3 v4:Option V),σ=[some (.ref a),some (.ref b),some (.ref d),v3,v4,none]/\Same H H'/\H' d3=some (.lst (Jp (Vbcsaf.leaves l)))/\H' d=some (.lst (L.map V.int))/\L.length=l.length/\ ∀j,j<l.length->at_ L j=FM.S i (fun q=>if(Vbcsaf.leaves l).getD q 0=j then at_ v q else 0)) ?_ ?_ ?_ ?_
  ·refine⟨List.replicate l.length 0,none,none,rfl,s2.trans s3,c3,s3 _ _ c2,by simp,fun j hj=>?_⟩;unfold VbcsFlow.at_;rw[List.getD_eq_getElem?_getD,List.getElem?_replicate,if_pos hj];rfl
  ·rintro i σ H' ⟨L,v3,v4,_,s4,c4,_⟩;exact⟨SqL.of c4,s4.seq hv⟩
  ·rintro Ez i y z σ H' Tp ez hy hz hT ⟨L,v3,v4,rfl,s4,c4,hL,lL,I⟩;obtain⟨hi,rfl⟩:=YW hy;obtain⟨_,rfl⟩:=ZW hz;have lt:=TM.LB hi;have nd:d3≠d:=fun q=>by rw[q,c2] at f3;cases f3
   refine⟨Tp,J9 rfl ⟨SqT.of J2,rfl,_,_,rfl,Y9 rfl rfl ?_⟩⟩;refine J9 rfl (JM rfl rfl (YJ rfl rfl (Y2 hL hT) (Ea (by rw[List.length_map,lL];exact lt)) ?_));rw[Ko];exact ez _ _ ⟨_,_,_,rfl,(s4.new hT).put fd,(by rw[Ja nd];exact Y2 c4 hT),J2,by rw[List.length_set];exact lL,Wr (PY l) hi lL I⟩
  ·rintro σ H' ⟨L,v3,v4,rfl,s4,c4,hL,lL,I⟩;rw[Jh,List.length_map,lv,Nat.min_self] at I;refine J9 rfl (JX rfl (.inl (s4.seq hl)) (Y9 rfl rfl (J9 rfl ⟨(l.length:Int)-1,0,-1,((l.length:Int)-1-0).toNat,(by rw[Jh]),RgC.neg (by omega) (by omega) (by omega) (by omega),?_⟩)))
   refine Ni (lo:=(l.length:Int)-1) (c:= -1) (n:=((l.length:Int)-1-0).toNat)
    (fun i σ H'=> ∃(L:List Int) (v3 v4 v5:Option V),σ=[some (.ref a),some (.ref b),some (.ref d),v3,v4,v5]/\Same H H'/\H' d=some (.lst (L.map V.int))/\L.length=l.length/\ ∀j,j<l.length->at_ L j=TM.Bq l (at_ v) (l.length-1-i) j) ?_ ?_ ?_
   ·exact⟨L,_,_,none,rfl,s4,hL,lL,fun j hj=>by rw[Nat.sub_zero,TM.WA t];exact I j hj⟩
   ·rintro i σ H' hi ⟨L,v3,v4,v5,rfl,s5,hL,lL,I⟩;have ek:(l.length:Int)-1+(i:Int)*(-1)=((l.length-1-i:Nat):Int):=by omega
    rw[ek];have kp:0<l.length-1-i:=by omega
    have kl:l.length-1-i<l.length:=by omega
    have up:=t.up _ kp kl;refine J9 rfl (JM rfl rfl (YJ rfl rfl (s5.seq hl) (UM kl) (YJ rfl rfl (SqL.of hL) (UC (by omega)) (JM rfl rfl (YJ rfl rfl (SqL.of hL) (UC (by omega)) (Y9 rfl rfl (YJ rfl rfl hL (Ea (by rw[List.length_map];omega)) ?_)))))));rw[Ko];refine⟨_,_,_,_,rfl,s5.put fd,J2,by rw[List.length_set];exact lL,fun j hj=>?_⟩;rw[FM.DW (by omega),show l.length-1-(i+1)=(l.length-1-i)-1 by omega,TM.V1 t (at_ v) kp kl j];by_cases q:l.getD (l.length-1-i) 0=j
    ·rw[if_pos q,if_pos q,I _ (by omega),I _ kl,q]
    ·rw[if_neg q,if_neg q,I j hj];omega
   ·rintro σ H' ⟨L,v3,v4,v5,rfl,s5,hL,lL,I⟩;refine J9 rfl ?_
    have e:L=EW l v:=by
     refine FM.Q8 (m:=l.length) lL (by unfold EW;simp) (fun j hj=>?_);rw[I j hj];unfold EW VbcsFlow.at_;rw[List.getD_eq_getElem?_getD,List.getElem?_map,List.getElem?_range hj];rw[show l.length-1-((l.length:Int)-1-0).toNat=0 by omega];rfl
    rw[e] at hL;exact k H' d s5 fd hL
theorem LD (n:Nat) (z:Int):(List.replicate n [V.int z]).flatten=(List.replicate n z).map V.int:=by
 induction n with
 |zero=>rfl
 |succ n ih=>rw[List.replicate_succ,List.flatten_cons,ih,List.replicate_succ];rfl
def Of (A:Adr):Sp:=fun vs H Q _=> ∃(p pr pc px kd dx:Addr) (t:Table) (kvs:List (Key×V)),vs=[.ref p]/\TableAt A H p t pr pc px kd dx kvs/\TBnd t/\
 ∀(H':Hp) (d:Addr),Same H H'->H d=none->H' d=some (.lst (((Vbcsaf.told t).map (fun a=>(a.2.2.2:Int))).map V.int))->Q (.ref d) H'
theorem EN (T:Txt K mg A):FnOk P w K mg base CX0 1 A.Gv A.Hr ["table"] (Of A):=by
 refine T.Ch.ok UH (fun H vs Q E h=>?_)
 ·obtain⟨p,pr,pc,px,kd,dx,t,kvs,rfl,N,B,k⟩:=h;refine⟨rfl,fun _ _ _ _ hr=>?_⟩;have c64:=B.cl64;have rl:=B.rl;have cl:=B.cl;have cp:=B.ok.cols.pos;refine⟨_,(J3 (YL 1 UH.nd (Jr Ei (Jd (J0 (J6 (pv 0) rfl) J1)) (Jc Ju (by rfl) T.JG Js (J0 (J6 (pv 0) rfl) J1)))) (J3 (YL 2 UH.nd (Jr Ei (Jd (J0 (J6 (pv 0) rfl) J1)) (Jc Ju (by rfl) T.JG Js (J0 (J6 (pv 0) rfl) J1)))) (J3 (YL 3 UH.nd (Jr Ei (Jd (J0 (J6 (pv 0) rfl) J1)) (Jr UB (Jc Ju (by rfl) T.JG Js (J0 (J6 (pv 0) rfl) J1)) J5))) (J4 (J7 (Jr Zc (Jr Zc (pv 1) (pv 2)) (pv 3))))))),?_⟩;refine JB rfl N.obj T.Jl T.Z5 rfl ⟨LE,fun l1 f1=>?_⟩;have s1:Same H (upd H l1 (.lst [V.int t.sumWeight])):=(Same.refl H).new f1;refine JB rfl (s1 _ _ N.obj) T.Jl T.Y7 rfl (JX rfl (.inl (SqL.of (s1 _ _ N.rows))) ⟨l1,Y9 rfl rfl ⟨J2,?_⟩⟩);rw[Jh];refine⟨by omega,by omega,(by show 1*_<=sizeLine;exact Nat.le_of_lt (Z8 (by omega))),fun d1 g1=>?_⟩;rw[show(t.rows.length:Int).toNat=t.rows.length by omega,LD];have s2:Same H (upd (upd H l1 (.lst [V.int t.sumWeight])) d1 (.lst ((List.replicate t.rows.length (t.sumWeight:Int)).map V.int))):=s1.new g1;have c2:upd (upd H l1 (.lst [V.int t.sumWeight])) d1 (.lst ((List.replicate t.rows.length (t.sumWeight:Int)).map V.int)) d1=some (.lst ((List.replicate t.rows.length (t.sumWeight:Int)).map V.int)):=J2;generalize upd (upd H l1 (.lst [V.int t.sumWeight])) d1 (.lst ((List.replicate t.rows.length (t.sumWeight:Int)).map V.int))=H2 at s2 c2;refine JB rfl (s2 _ _ N.obj) T.Jl T.ZJ rfl ⟨LE,fun l3 f3=>?_⟩;have s3:Same H2 (upd H2 l3 (.lst [V.int t.cellWeight])):=(Same.refl H2).new f3;refine JB rfl (s3 _ _ (s2 _ _ N.obj)) T.Jl T.Yo rfl (JX rfl (.inl (SqL.of (s3 _ _ (s2 _ _ N.cells)))) ⟨l3,Y9 rfl rfl ⟨J2,?_⟩⟩);rw[Jh];refine⟨by omega,by omega,(by show 1*_<=sizeLine;exact Nat.le_of_lt (Z8 (by omega))),fun d3 g3=>?_⟩;rw[show(t.cells.length:Int).toNat=t.cells.length by omega,LD];have s4:Same H2 (upd (upd H2 l3 (.lst [V.int t.cellWeight])) d3 (.lst ((List.replicate t.cells.length (t.cellWeight:Int)).map V.int))):=s3.new g3;have c4:upd (upd H2 l3 (.lst [V.int t.cellWeight])) d3 (.lst ((List.replicate t.cells.length (t.cellWeight:Int)).map V.int)) d3=some (.lst ((List.replicate t.cells.length (t.cellWeight:Int)).map V.int)):=J2;generalize upd (upd H2 l3 (.lst [V.int t.cellWeight])) d3 (.lst ((List.replicate t.cells.length (t.cellWeight:Int)).map V.int))=H4 at s4 c4;refine JB rfl (s4 _ _ (s2 _ _ N.obj)) T.Jl T.Z5 rfl ⟨LE,fun l5 f5=>?_⟩;have s5:Same H4 (upd H4 l5 (.lst [V.int t.sumWeight])):=(Same.refl H4).new f5;refine JB rfl (s5 _ _ (s4 _ _ (s2 _ _ N.obj))) T.Jl T.JN rfl (JX rfl (.inl (SqL.of (s5 _ _ (s4 _ _ (s2 _ _ N.cols))))) (Y9 rfl rfl ⟨l5,Y9 rfl rfl ⟨J2,?_⟩⟩));rw[Jh];refine⟨by omega,by omega,(by show 1*_<=sizeLine;exact Nat.le_of_lt (Z8 (by omega))),fun d5 g5=>?_⟩;rw[show((t.cols.length:Int)-1).toNat=t.cols.length-1 by omega,LD];have s6:Same H4 (upd (upd H4 l5 (.lst [V.int t.sumWeight])) d5 (.lst ((List.replicate (t.cols.length-1) (t.sumWeight:Int)).map V.int))):=s5.new g5;have c6:upd (upd H4 l5 (.lst [V.int t.sumWeight])) d5 (.lst ((List.replicate (t.cols.length-1) (t.sumWeight:Int)).map V.int)) d5=some (.lst ((List.replicate (t.cols.length-1) (t.sumWeight:Int)).map V.int)):=J2;generalize upd (upd H4 l5 (.lst [V.int t.sumWeight])) d5 (.lst ((List.replicate (t.cols.length-1) (t.sumWeight:Int)).map V.int))=H6 at s6 c6;refine J9 rfl (J9 rfl ⟨d1,d3,Y9 rfl rfl ⟨s6 _ _ (s4 _ _ c2),s6 _ _ c4,(by simp;exact Nat.le_of_lt (Z8 (by omega))),fun q1 k1=>?_⟩⟩);refine J9 rfl ⟨q1,d5,Y9 rfl rfl ⟨J2,Y2 c6 k1,(by simp;exact Nat.le_of_lt (Z8 (by omega))),fun q2 k2=>?_⟩⟩;have s7:Same H (upd (upd H6 q1 (.lst ((List.replicate t.rows.length (t.sumWeight:Int)).map V.int++(List.replicate t.cells.length (t.cellWeight:Int)).map V.int))) q2 (.lst ((List.replicate t.rows.length (t.sumWeight:Int)).map V.int++(List.replicate t.cells.length (t.cellWeight:Int)).map V.int++(List.replicate (t.cols.length-1) (t.sumWeight:Int)).map V.int))):=((s2.trans (s4.trans s6)).new k1).new k2;refine k _ q2 s7 (((s2.trans (s4.trans s6)).new k1).free k2) ?_;rw[J2,TM.Hh B.ok,List.map_append,List.map_append]
theorem M9 {R W:Nat} (hW:0<W):Builtin.Range.rangeSize 0 ((R*W:Nat):Int) (W:Int)=(R:Nat):=by
 unfold Builtin.Range.rangeSize;rw[if_pos (by omega)];by_cases h:R=0
 ·subst h;simp
 ·have hp:0<R*W:=Nat.mul_pos (by omega) hW;rw[if_pos (by omega)]
  have e:(((R*W:Nat):Int)-0-1)/(W:Int)=((R-1:Nat):Int):=by
   obtain⟨r,rfl⟩: ∃r,R=r+1:=⟨R-1,by omega⟩
   have e2:(((r+1)*W:Nat):Int)-0-1=((W-1:Nat):Int)+(W:Int)*(r:Int):=by
    rw[Nat.succ_mul];have:((r*W+W:Nat):Int)=(r:Int)*(W:Int)+(W:Int):=by push_cast;rfl
    rw[this,Int.mul_comm (r:Int)];omega
   rw[e2,Int.add_mul_ediv_left _ _ (by omega)];have:((W-1:Nat):Int)/(W:Int)=0:=Int.ediv_eq_zero_of_lt (by omega) (by omega);rw[this];simp
  rw[e];omega
theorem Ot {R W:Nat} (hW:0<W) (h1:R*W<=1000) (h2:W<=1000) (h3:R<=1000):Builtin.Range.small 0 ((R*W:Nat):Int) (W:Int)=true:=by
 unfold Builtin.Range.small;rw[M9 hW,if_pos (by omega)];generalize R*W=M at h1;simp only[Builtin.Range.rangeFitsLong,Bool.and_eq_true,Bool.or_eq_true,decide_eq_true_eq,beq_iff_eq];omega
theorem Wt (f:Nat->Int): ∀n,((List.range n).map f).sum=FM.S n f:=by
 intro n
 induction n with
 |zero=>rfl
 |succ n ih=>rw[List.range_succ,List.map_append,List.sum_append,ih];simp[FM.S]
theorem TK {l:List Nat} {a W:Nat} (h:a+W<=l.length):DA (Jp l) (some (a:Int)) (some ((a:Int)+(W:Int)))=((List.range W).map (fun c=>(l.getD (a+c) 0:Int))).map V.int:=by
 unfold DA;have e1:HT.sIx (Jp l).length 0 (some (a:Int))=a:=by rw[HT.sIx_nat,Jh];omega
 have e2:HT.sIx (Jp l).length (Jp l).length (some ((a:Int)+(W:Int)))=a+W:=by
  rw[show(a:Int)+(W:Int)=((a+W:Nat):Int) by omega,HT.sIx_nat,Jh];omega
 rw[e1,e2,Ms];apply List.ext_getElem
 ·rw[List.length_take,Jh,List.length_drop,List.length_map,List.length_map,List.length_range];omega
 ·intro i h1 h2;have hi:i<W:=by simpa using h2
  rw[List.getElem_take];unfold Jp;simp only[List.getElem_map,List.getElem_drop,List.getElem_range];rw[List.getD_eq_getElem?_getD,List.getElem?_eq_getElem (by omega)];rfl
theorem Me {l:List Nat} {u v:Nat->Int} (h: ∀j,j<(Vbcsaf.leaves l).length->u j=v j) (k i:Nat):TM.Bq l u k i=TM.Bq l v k i:=by
 unfold TM.Bq;apply FM.S_congr;intro j hj;rw[h j hj]
theorem Xn {R W r c:Nat} (h1:r<R) (h2:c<W):r*W+c<R*W:=by
 have:(r+1)*W<=R*W:=Nat.mul_le_mul_right W h1;rw[Nat.succ_mul] at this;omega
def Qw (A:Adr):Sp:=fun vs H Q _=> ∃(p pr pc px kd dx:Addr) (t:Table) (kvs:List (Key×V)),vs=[.ref p]/\TableAt A H p t pr pc px kd dx kvs/\TBnd t/\
 ∀(H':Hp) (d:Addr),Same H H'->H d=none->H' d=some (.lst (((Vbcsaf.told t).map (fun a=>(a.2.2.1:Int))).map V.int))->Q (.ref d) H'
theorem Dr (T:Txt K mg A):FnOk P w K mg base CX0 3 A.MQ A.My ["table"] (Qw A):=by
 refine T.C1.ok Ye (fun H vs Q E h=>?_)
 ·obtain⟨p,pr,pc,px,kd,dx,t,kvs,rfl,N,B,k⟩:=h;refine⟨rfl,fun _ _ _ _ hr=>?_⟩;have c64:=B.cl64;have rl:=B.rl;have cl:=B.cl;have cells:=B.ok.cells;have hW:0<(Vbcsaf.leaves t.cols).length:=TM.Sc B.ok.cols;have hR8:(Vbcsaf.leaves t.rows).length<=8:=Nat.le_trans (TM.Yx _) rl;have hW8:(Vbcsaf.leaves t.cols).length<=8:=Nat.le_trans (TM.Yx _) cl;have crow: ∀r c,Vbcsaf.cellAt t r c=t.cells.getD (r*(Vbcsaf.leaves t.cols).length+c) 0:=fun r c=>rfl;generalize hRR:(Vbcsaf.leaves t.rows).length=R at cells hR8;generalize hWW:(Vbcsaf.leaves t.cols).length=W at cells hW hW8 crow;refine⟨Sb K A _ _,(J3 (YL 1 Ye.nd (Jc Ju (by rfl) T.JG Js (J0 (pk (YF T) hr T.YC (J0 (J6 (pv 0) rfl) J1)) J1))) (J3 (YL 2 Ye.nd (Yq (FU rfl) (by rfl) T.Ph Lx (J0 (Yq Tt (by rfl) T.Zz Mf (J0 J5 (J0 (Jc Ju (by rfl) T.JG Js (J0 (J6 (pv 0) rfl) J1)) (J0 (pv 1) J1)))) J1))) (J3 (DX (i:=3) rfl Ye.nd rfl rfl (HJ rfl rfl rfl (by decide+kernel)) (JQ (pv 2)) (bo [("start",7)]) (fun _ _ _ _ _=>(ZF 7 Ye.nd)) (fun _ _ _ _ _=>Yw) (fun _ _ _ _ _=>(Jc (FV rfl) (by rfl) T.Mw Fw (J0 (UN AX (J6 (pv 0) rfl) (ZQ (pv 7)) (ZQ (Jr Ym (pv 7) (pv 1)))) J1)))) (J3 (DX (i:=4) rfl Ye.nd rfl rfl (HJ rfl rfl rfl (by decide+kernel)) (Es (by rfl) T.Zz (J0 (pv 1) J1)) (bo [("place",8)]) (fun _ _ _ _ _=>(ZF 8 Ye.nd)) (fun _ _ _ _ _=>Yw) (fun _ _ _ _ _=>(Jc (FV rfl) (by rfl) T.Mw Fw (J0 (Us rfl Ye.nd (JQ (pv 2)) (bo [("start",7)]) (fun _ _ _ _ _=>(ZF 7 Ye.nd)) (fun _ _ _ _ _=>Yw) (fun _ _ _ _ _=>(Jq Ji (J6 (pv 0) rfl) (Jr Ym (pv 7) (pv 8)) (fun _ _=>rfl)))) J1)))) (J3 (YL 5 Ye.nd (pk (BG T) hr T.UT (J0 (J6 (pv 0) rfl) (J0 (pv 3) J1)))) (J3 (YL 6 Ye.nd (pk (BG T) hr T.UT (J0 (J6 (pv 0) rfl) (J0 (pv 4) J1)))) (J4 (J7 (Jr Zc (Jr Zc (pv 5) (J6 (pv 0) rfl)) (UN AX (pv 6) (ZQ J5) LF)))))))))),?_⟩;refine JB rfl N.obj T.Jl T.JN rfl ⟨pc,t.cols,rfl,SqL.of N.cols,by omega,fun H1 l1 s1 f1 c1=>?_⟩;refine JX rfl (.inl (SqL.of c1)) ?_;rw[Jh,hWW];refine JB rfl (s1 _ _ N.obj) T.Jl T.Yo rfl (JX rfl (.inl (SqL.of (s1 _ _ N.cells))) (J9 rfl ⟨0,_,_,rfl,(by omega),(by omega),fun r0 f0=>?_⟩));rw[Jh,cells];refine⟨r0,0,_,_,R,rfl,J2,Ot hW (by omega) (by omega) (by omega),M9 hW,by omega,fun l2 f2=>?_⟩;have s2:Same H (upd (upd H1 r0 (FK r0 0 ((R*W:Nat):Int) W)) l2 (.lst (((List.range R).map (fun i:Nat=>(0:Int)+(i:Int)*(W:Int))).map V.int))):=(s1.new f0).new f2
  have c2:upd (upd H1 r0 (FK r0 0 ((R*W:Nat):Int) W)) l2 (.lst (((List.range R).map (fun i:Nat=>(0:Int)+(i:Int)*(W:Int))).map V.int)) l2=some (.lst (Jp ((List.range R).map (fun i=>i*W)))):=by
   rw[J2];unfold Jp;rw[List.map_map,List.map_map,List.map_map]
   congr 2
   apply List.map_congr_left;intro i _;show V.int ((0:Int)+(i:Int)*(W:Int))=V.int ((i*W:Nat):Int);rw[Int.zero_add];push_cast;rfl
  generalize upd (upd H1 r0 (FK r0 0 ((R*W:Nat):Int) W)) l2 (.lst (((List.range R).map (fun i:Nat=>(0:Int)+(i:Int)*(W:Int))).map V.int))=H2 at s2 c2;refine J9 rfl ⟨l2,rfl,⟨_,SqL.of c2⟩,fun D hD=>?_⟩
  refine Zt (K:=K) (a:=l2) (xs:=Jp ((List.range R).map (fun i=>i*W)))
   (fun i H'=>Same H2 H'/\H' D=some (.lst (((List.range i).map (TM.Nt t)).map V.int))) ?_ ?_ ?_ ?_
  ·exact⟨(Same.refl H2).new hD,J2⟩
  ·rintro i H' _ ⟨s4,_⟩;exact SqL.of (s4 _ _ c2)
  ·rintro i y H' hy ⟨s4,hD'⟩;obtain⟨hi,rfl⟩:=YW hy;rw[List.length_map,List.length_range] at hi
   have ei:((List.range R).map (fun i=>i*W)).getD i 0=i*W:=by
    rw[List.getD_eq_getElem?_getD,List.getElem?_map,List.getElem?_range hi];rfl
   rw[ei];refine⟨rfl,?_⟩;refine JB rfl (s4 _ _ (s2 _ _ N.obj)) T.Jl T.Yo rfl (JM rfl rfl (JM rfl rfl (Y9 rfl rfl (J9 rfl (JX rfl (SqL.of (s4 _ _ (s2 _ _ N.cells))) (fun c hc=>?_))))))
   have hle:i*W+W<=t.cells.length:=by
    rw[cells];have:(i+1)*W<=R*W:=Nat.mul_le_mul_right W hi;rw[Nat.succ_mul] at this;exact this
   rw[TK hle];refine JX rfl (SqL.of J2) ⟨_,Y2 hD' hc,?_,(s4.new hc).put hD,?_⟩
   ·rw[List.length_map,List.length_map,List.length_range];exact Z8 (by omega)
   ·rw[J2,Wt,List.range_succ,List.map_append,List.map_append]
    congr 3
    show[V.int (FM.S W fun c=>(t.cells.getD (i*W+c) 0:Int))]=[V.int (TM.Nt t i)];unfold TM.Nt;rw[hWW];simp only[crow]
  ·rintro H3 ⟨s3,c3⟩;rw[Jh,List.length_map,List.length_range] at c3;refine J9 rfl ⟨(W:Int),rfl,by omega,by omega,fun D2 hD2=>?_⟩;rw[show(W:Int).toNat=W by omega]
   refine Dv (lo:=0) (n:=W)
    (fun i H'=>Same H3 H'/\H' D2=some (.lst (((List.range i).map (TM.M8 t)).map V.int))) ?_ ?_ ?_
   ·exact⟨(Same.refl H3).new hD2,J2⟩
   ·rintro i H' hi ⟨s4,hD'⟩;rw[show(0:Int)+(i:Int)=((i:Nat):Int) by omega];refine⟨rfl,?_⟩;refine J9 rfl ⟨l2,rfl,⟨_,SqL.of (s4 _ _ (s3 _ _ c2))⟩,fun D3 hD3=>?_⟩
    refine Zt (K:=K) (a:=l2) (xs:=Jp ((List.range R).map (fun i=>i*W)))
     (fun j H''=>Same H' H''/\H'' D3=some (.lst (((List.range j).map (fun r=>(Vbcsaf.cellAt t r i:Int))).map V.int))) ?_ ?_ ?_ ?_
    ·exact⟨(Same.refl H').new hD3,J2⟩
    ·rintro j H'' _ ⟨s5,_⟩;exact SqL.of (s5 _ _ (s4 _ _ (s3 _ _ c2)))
    ·rintro j y H'' hy ⟨s5,hD''⟩;obtain⟨hj,rfl⟩:=YW hy;rw[List.length_map,List.length_range] at hj
     have ej:((List.range R).map (fun i=>i*W)).getD j 0=j*W:=by
      rw[List.getD_eq_getElem?_getD,List.getElem?_map,List.getElem?_range hj];rfl
     rw[ej];refine⟨rfl,?_⟩
     refine⟨_,rfl,_,_,_,_,_,rfl,s5 _ _ (s4 _ _ (s3 _ _ (s2 _ _ N.obj))),T.Jl,T.Yo,rfl,_,rfl,_,rfl,_,_,rfl,rfl,px,_,_,_,rfl,rfl,SqL.of (s5 _ _ (s4 _ _ (s3 _ _ (s2 _ _ N.cells)))),(by
      rw[show((j*W:Nat):Int)+((i:Nat):Int)=((j*W+i:Nat):Int) by omega];exact UM (by rw[cells];exact Xn hj hi)),_,hD'',?_,s5.put hD3,?_⟩
     ·rw[List.length_map,List.length_map,List.length_range];exact Z8 (by omega)
     ·rw[J2,List.range_succ,List.map_append,List.map_append,List.map_singleton,List.map_singleton,crow]
    ·rintro H'' ⟨s5,hD''⟩;rw[Jh,List.length_map,List.length_range] at hD'';have nD:D2≠D3:=Jv hD' hD3;refine⟨D3,J9 rfl ⟨SqL.of hD'',_,s5 _ _ hD',?_,(s4.trans s5).put hD2,?_⟩⟩
     ·rw[List.length_map,List.length_map,List.length_range];exact Z8 (by omega)
     ·rw[J2,Wt,List.range_succ,List.map_append,List.map_append]
      congr 3
      show[V.int (FM.S R fun r=>(Vbcsaf.cellAt t r i:Int))]=[V.int (TM.M8 t i)];unfold TM.M8;rw[hRR]
   ·rintro H4 ⟨s4,c4⟩;have sA:=s2.trans (s3.trans s4);refine JB rfl (sA _ _ N.obj) T.Jl T.Y7 rfl (J9 rfl ⟨pr,D,t.rows,J9 rfl ⟨SqL.of (sA _ _ N.rows),SqL.of (s4 _ _ c3),B.ok.rows,(by rw[List.length_map,List.length_range,hRR]),by omega,fun H5 d5 s5 f5 c5=>?_⟩⟩);have sB:=sA.trans s5;refine JB rfl (sB _ _ N.obj) T.Jl T.JN rfl (J9 rfl ⟨pc,D2,t.cols,J9 rfl ⟨SqL.of (sB _ _ N.cols),SqL.of (s5 _ _ c4),B.ok.cols,(by rw[List.length_map,List.length_range,hWW]),by omega,fun H6 d6 s6 f6 c6=>?_⟩⟩);have sC:=sB.trans s6;have lr:(EW t.rows ((List.range R).map (TM.Nt t))).length=t.rows.length:=by unfold EW;simp
    have lc:(EW t.cols ((List.range W).map (TM.M8 t))).length=t.cols.length:=by unfold EW;simp
    refine J9 rfl (JB rfl (sC _ _ N.obj) T.Jl T.Yo rfl ⟨d5,px,Y9 rfl rfl ⟨s6 _ _ c5,sC _ _ N.cells,(by rw[List.length_map,Jh,lr];exact Nat.le_of_lt (Z8 (by omega))),fun q1 k1=>?_⟩⟩);refine J9 rfl ⟨1,rfl,JX rfl (SqL.of (Y2 c6 k1)) (fun q2 k2=>?_)⟩;rw[Ps];refine⟨q1,q2,Y9 rfl rfl ⟨Y2 J2 k2,J2,(by rw[List.length_append,List.length_map,Jh,lr,List.length_drop,List.length_map,lc];exact Nat.le_of_lt (Z8 (by omega))),fun q3 k3=>?_⟩⟩;refine k _ q3 (((sC.new k1).new k2).new k3) (((sC.new k1).new k2).free k3) ?_;rw[J2,TM.So B.ok,List.map_append,List.map_append]
    congr 3
    ·congr 1
     ·congr 1
      unfold EW;apply List.map_congr_left;intro i _;exact Me (fun j hj=>ZM (f:=TM.Nt t) (by rw[<-hRR];exact hj)) 0 i
    ·rw[<-List.map_drop]
     congr 1
     unfold EW;rw[<-List.map_drop];apply List.map_congr_left;intro i _;exact Me (fun j hj=>ZM (f:=TM.M8 t) (by rw[<-hWW];exact hj)) 0 i
theorem TBnd.bd {t:Table} (b:TBnd t):TM.Bd t:=⟨b.ok,b.base,b.rl,b.cl,b.cells,b.cw,b.sw,fun k hk=>(b.kept k hk).2⟩
def PairAt (H:Hp) (c:Addr) (e:Nat×Nat):Prop:=H c=some (.tup [.int (e.1:Nat), .int (e.2:Nat)])
structure PairsAt (H:Hp) (ts:List Addr) (ps:List (Nat×Nat)):Prop where
 len:ts.length=ps.length
 at_: ∀(j:Nat) (c:Addr),ts[j]?=some c-> ∃e,ps[j]?=some e/\PairAt H c e
theorem PairsAt.same {H H':Hp} {ts:List Addr} {ps:List (Nat×Nat)} (s:Same H H') (h:PairsAt H ts ps):PairsAt H' ts ps:=
 ⟨h.len,fun j c e=>by obtain⟨r,h1,h2⟩:=h.at_ j c e;exact⟨r,h1,s _ _ h2⟩⟩
theorem PairsAt.snoc {H:Hp} {ts:List Addr} {ps:List (Nat×Nat)} {c:Addr} {e:Nat×Nat} (h:PairsAt H ts ps) (hc:PairAt H c e):PairsAt H (ts++[c]) (ps++[e]):=by
 refine⟨by simp[h.len],fun j d hd=>?_⟩;by_cases q:j<ts.length
 ·rw[List.getElem?_append_left q] at hd;obtain⟨r,h1,h2⟩:=h.at_ j d hd;exact⟨r,by rw[List.getElem?_append_left (by rw[<-h.len];exact q)];exact h1,h2⟩
 ·have hl:=JL hd;rw[List.length_append,List.length_singleton] at hl;have ej:j=ts.length:=by omega
  subst ej;rw[List.getElem?_append_right (Nat.le_refl _),Nat.sub_self] at hd;have:c=d:=Option.some.inj hd;subst this;exact⟨e,by rw[h.len,List.getElem?_append_right (Nat.le_refl _),Nat.sub_self];rfl,hc⟩
theorem ID {H H1:Hp} {l c:Addr} {ts:List Addr} {ps:List (Nat×Nat)} {e:Nat×Nat} (s1:Same H H1) (hl:H l=none) (hL:H1 l=some (.lst (ts.map V.ref))) (R:PairsAt H1 ts ps) (nc:H1 c=none):
  upd H1 c (.tup [.int (e.1:Nat), .int (e.2:Nat)]) l=some (.lst (ts.map V.ref))/\
  Same H (upd (upd H1 c (.tup [.int (e.1:Nat), .int (e.2:Nat)])) l (.lst (ts.map V.ref++[V.ref c])))/\
  upd (upd H1 c (.tup [.int (e.1:Nat), .int (e.2:Nat)])) l (.lst (ts.map V.ref++[V.ref c])) l=some (.lst ((ts++[c]).map V.ref))/\
  PairsAt (upd (upd H1 c (.tup [.int (e.1:Nat), .int (e.2:Nat)])) l (.lst (ts.map V.ref++[V.ref c]))) (ts++[c]) (ps++[e]):=by
 have e1:ts.map V.ref++[V.ref c]=(ts++[c]).map V.ref:=by simp
 have s2:Same H1 (upd H1 c (.tup [.int (e.1:Nat), .int (e.2:Nat)])):=(Same.refl H1).new nc;have hL2:=s2 _ _ hL;refine⟨hL2,(s1.trans s2).put hl,by rw[J2,e1],?_⟩
 have up: ∀{d:Addr} {f:Nat×Nat},PairAt (upd H1 c (.tup [.int (e.1:Nat), .int (e.2:Nat)])) d f->PairAt (upd (upd H1 c (.tup [.int (e.1:Nat), .int (e.2:Nat)])) l (.lst (ts.map V.ref++[V.ref c]))) d f:=fun{d f} h=>by
  unfold PairAt at h ⊢;rw[Ja (JY h hL2 (by intro z;cases z))];exact h
 have R2:=R.same s2;exact(⟨R2.len,fun j d hd=>by obtain⟨f,h1,h2⟩:=R2.at_ j d hd;exact⟨f,h1,up h2⟩⟩:PairsAt _ ts ps).snoc (up (show PairAt _ c e from J2))
def LG (t:Table):List (Nat×Nat):=(Vbcsaf.told t).map (fun a=>(a.1,a.2.1))
theorem LJ (t:Table):(LG t).length=(Vbcsaf.told t).length:=by simp[LG]
theorem C5 {t:Table} (b:TBnd t):(Vbcsaf.told t).length<=100:=by
 rw[TM.QA b.ok];have:=b.cl64;have:=b.rl;have:=b.cl;omega
theorem MR (n:Nat):(List.range n).drop 1=(List.range (n-1)).map (fun i=>i+1):=by
 cases n with
 |zero=>rfl
 |succ n=>rw[List.range_succ_eq_map];simp
def Li (A:Adr):Sp:=fun vs H Q _=> ∃(p pr pc px kd dx:Addr) (t:Table) (kvs:List (Key×V)),vs=[.ref p]/\TableAt A H p t pr pc px kd dx kvs/\TBnd t/\
 ∀(H':Hp) (d:Addr) (ts:List Addr),Same H H'->H d=none->H' d=some (.lst (ts.map V.ref))->PairsAt H' ts (LG t)->Q (.ref d) H'
theorem L9 (T:Txt K mg A):FnOk P w K mg base CX0 2 A.DK A.Ec ["table"] (Li A):=by
 refine T.Eb.ok Yk (fun H vs Q E h=>?_)
 ·obtain⟨p,pr,pc,px,kd,dx,t,kvs,rfl,N,B,k⟩:=h;refine⟨rfl,fun _ _ _ _ hr=>?_⟩;have rl:=B.rl;have cl:=B.cl;have rp:=B.ok.rows.pos;have cp:=B.ok.cols.pos;have tsm:=C5 B;have tl:=congrArg List.length (TM.A6 t);have lR:(Vbcsaf.leaves t.rows).length<=8:=Nat.le_trans (TM.Yx _) rl;have lC:(Vbcsaf.leaves t.cols).length<=8:=Nat.le_trans (TM.Yx _) cl;refine⟨_,(J3 (YL 1 Yk.nd (Jc Ju (by rfl) T.JG Js (J0 (J6 (pv 0) rfl) J1))) (J3 (YL 2 Yk.nd (Jd (J0 (ML (J0 (pv 1) (J0 J5 J1))) J1))) (J3 (Y6 PassesOwn.never rfl (Eu (by rfl) T.Zz (J0 J5 (J0 (Jc Ju (by rfl) T.JG Js (J0 (J6 (pv 0) rfl) J1)) J1))) (ZF 3 Yk.nd) (J4 (Yi (UP PySem.F.plainAttrs_list PySem.F.slot_list_append PySem.F.type_list_append Yh (pv 2) (J0 (ML (J0 (Jq Ji (J6 (pv 0) rfl) (pv 3) (fun _ _=>rfl)) (J0 (pv 3) J1))) J1))))) (J3 (Y6 PassesOwn.never rfl (JQ (pk (YF T) hr T.YC (J0 (J6 (pv 0) rfl) J1))) (ZF 4 Yk.nd) (J4 (Y6 PassesOwn.never rfl (JQ (pk (YF T) hr T.YC (J0 (J6 (pv 0) rfl) J1))) (ZF 5 Yk.nd) (J4 (Yi (UP PySem.F.plainAttrs_list PySem.F.slot_list_append PySem.F.type_list_append Yh (pv 2) (J0 (ML (J0 (pv 4) (J0 (Jr Ym (pv 1) (pv 5)) J1))) J1))))))) (J3 (Y6 PassesOwn.never rfl (Eu (by rfl) T.Zz (J0 J5 (J0 (Jc Ju (by rfl) T.JG Js (J0 (J6 (pv 0) rfl) J1)) J1))) (ZF 3 Yk.nd) (J4 (Yi (UP PySem.F.plainAttrs_list PySem.F.slot_list_append PySem.F.type_list_append Yh (pv 2) (J0 (ML (J0 (Jr Ym (pv 1) (pv 3)) (J0 (Jr Ym (pv 1) (Jq Ji (J6 (pv 0) rfl) (pv 3) (fun _ _=>rfl))) J1))) J1))))) (J4 (J7 (pv 2)))))))),?_⟩;refine JB rfl N.obj T.Jl T.Y7 rfl (JX rfl (.inl (SqL.of N.rows)) ?_);rw[Jh];refine J9 rfl ⟨Qr,fun c0 f0=>⟨LE,fun l fl=>?_⟩⟩;have hl:H l=none:=((Same.refl H).new f0).free fl;have s1:Same H (upd (upd H c0 (.tup [.int t.rows.length, .int 0])) l (.lst [V.ref c0])):=((Same.refl H).new f0).new fl;have hL1:upd (upd H c0 (.tup [.int t.rows.length, .int 0])) l (.lst [V.ref c0]) l=some (.lst ([c0].map V.ref)):=J2
  have R1:PairsAt (upd (upd H c0 (.tup [.int t.rows.length, .int 0])) l (.lst [V.ref c0])) [c0] [(t.rows.length,0)]:=⟨rfl,fun j c hc=>by
   have hj:=JL hc;have:j=0:=by simp at hj;exact hj
   subst this;have e:c0=c:=Option.some.inj hc;subst e;exact⟨_,rfl,Y2 J2 fl⟩⟩
  generalize upd (upd H c0 (.tup [.int t.rows.length, .int 0])) l (.lst [V.ref c0])=H1 at s1 hL1 R1;refine JB rfl (s1 _ _ N.obj) T.Jl T.Y7 rfl (JX rfl (.inl (SqL.of (s1 _ _ N.rows))) ⟨1,J9 rfl ⟨⟨by omega,by omega,by omega,by rw[Jh];omega⟩,?_⟩⟩);rw[Jh]
  refine J11 (lo:=1) (n:=((t.rows.length:Int)-1).toNat)
   (fun i σ H'=> ∃(ts:List Addr) (v3:Option V),σ=[some (.ref p),some (.int t.rows.length),some (.ref l),v3,none,none]/\Same H H'/\H' l=some (.lst (ts.map V.ref))/\PairsAt H' ts ([(t.rows.length,0)]++(List.range i).map (fun i=>(t.rows.getD (i+1) 0,i+1)))) ?_ ?_ ?_
  ·exact⟨[c0],none,rfl,s1,hL1,R1⟩
  ·rintro Ez i σ H' ez hi ⟨ts,v3,rfl,s2,hL,R⟩;rw[show(1:Int)+(i:Int)=((i+1:Nat):Int) by omega];refine J9 rfl ⟨.inl ⟨rfl,_,SqL.of hL⟩,JB rfl (s2 _ _ N.obj) T.Jl T.Y7 rfl (J9 rfl (YJ rfl rfl (SqL.of (s2 _ _ N.rows)) (UM (by omega)) (J9 rfl ⟨Qr,fun c hc=>?_⟩)))⟩;obtain⟨m1,m2,m3,m4⟩:=ID (e:=(t.rows.getD (i+1) 0,i+1)) s2 hl hL R hc;refine Vj rfl rfl m1 (by rw[List.length_map,R.len];simp;exact Z8 (by omega)) ?_;refine ez _ _ ⟨ts++[c],J9 rfl ⟨m2,m3,?_⟩⟩;rw[List.range_succ,List.map_append,<-List.append_assoc];exact m4
  ·rintro σ H' ⟨ts,v3,rfl,s2,hL,R⟩
   have e0:[(t.rows.length,0)]++(List.range ((t.rows.length:Int)-1).toNat).map (fun i=>(t.rows.getD (i+1) 0,i+1))=[(t.rows.length,0)]++((List.range t.rows.length).drop 1).map (fun i=>(t.rows.getD i 0,i)):=by
    rw[MR,List.map_map,show((t.rows.length:Int)-1).toNat=t.rows.length-1 by omega];rfl
   rw[e0] at R;generalize hE:[(t.rows.length,0)]++((List.range t.rows.length).drop 1).map (fun i=>(t.rows.getD i 0,i))=E1 at R;have lE:E1.length=t.rows.length:=by rw[<-hE];simp;omega
   refine JB rfl (s2 _ _ N.obj) T.Jl T.Y7 rfl ⟨pr,t.rows,rfl,SqL.of (s2 _ _ N.rows),by omega,fun H3 d3 s3 f3 c3=>⟨d3,rfl,⟨_,SqL.of c3⟩,?_⟩⟩;have s4:=s2.trans s3;have nl3:l≠d3:=Jv hL f3
   refine Lj (K:=K) (a:=d3) (xs:=Jp (Vbcsaf.leaves t.rows))
    (fun i σ H'=> ∃(ts:List Addr) (v3 v4 v5:Option V),σ=[some (.ref p),some (.int t.rows.length),some (.ref l),v3,v4,v5]/\Same H H'/\H' d3=some (.lst (Jp (Vbcsaf.leaves t.rows)))/\H' l=some (.lst (ts.map V.ref))/\PairsAt H' ts (E1++((Vbcsaf.leaves t.rows).take i).flatMap (fun a=>(Vbcsaf.leaves t.cols).map (fun c=>(a,t.rows.length+c))))) ?_ ?_ ?_ ?_
   ·exact⟨ts,_,none,none,rfl,s4,c3,s3 _ _ hL,by simpa using R.same s3⟩
   ·rintro i σ H' _ ⟨ts,v3,v4,v5,_,_,c4,_⟩;exact SqL.of c4
   ·rintro Ey i y σ H4 ey hy ⟨ts4,v3,v4,v5,rfl,s5,c4,hL4,R4⟩;obtain⟨hi,rfl⟩:=YW hy;generalize hA:(Vbcsaf.leaves t.rows).getD i 0=a
    have ea:(Vbcsaf.leaves t.rows)[i]?=some a:=by
     rw[<-hA,List.getD_eq_getElem?_getD,List.getElem?_eq_getElem hi];rfl
    generalize hE2:E1++((Vbcsaf.leaves t.rows).take i).flatMap (fun a=>(Vbcsaf.leaves t.cols).map (fun c=>(a,t.rows.length+c)))=E2 at R4
    have lE2:E2.length<=72:=by
     rw[<-hE2,List.length_append,lE,List.length_flatMap]
     have:((((Vbcsaf.leaves t.rows).take i).map (fun a=>((Vbcsaf.leaves t.cols).map (fun c=>(a,t.rows.length+c))).length))).sum<=8*8:=by
      have q: ∀(l:List Nat) (f:Nat->Nat),(∀x,f x<=8)->(l.map f).sum<=l.length*8:=by
       intro l f h
       induction l with
       |nil=>simp
       |cons x l ih=>rw[List.map_cons,List.sum_cons,List.length_cons,Nat.succ_mul];have:=h x;omega
      refine Nat.le_trans (q _ _ (fun x=>by rw[List.length_map];exact lC)) ?_;rw[List.length_take];exact Nat.mul_le_mul_right 8 (by omega)
     omega
    refine JB rfl (s5 _ _ N.obj) T.Jl T.JN rfl ⟨pc,t.cols,rfl,SqL.of (s5 _ _ N.cols),by omega,fun H5 d5 s6 f5 c5=>⟨d5,rfl,⟨_,SqL.of c5⟩,?_⟩⟩
    refine Lj (K:=K) (a:=d5) (xs:=Jp (Vbcsaf.leaves t.cols))
     (fun j σ H'=> ∃(ts:List Addr) (v3 v5:Option V),σ=[some (.ref p),some (.int t.rows.length),some (.ref l),v3,some (.int a),v5]/\Same H H'/\H' d3=some (.lst (Jp (Vbcsaf.leaves t.rows)))/\H' d5=some (.lst (Jp (Vbcsaf.leaves t.cols)))/\H' l=some (.lst (ts.map V.ref))/\PairsAt H' ts (E2++((Vbcsaf.leaves t.cols).take j).map (fun c=>(a,t.rows.length+c)))) ?_ ?_ ?_ ?_
    ·exact⟨ts4,_,_,rfl,s5.trans s6,s6 _ _ c4,c5,s6 _ _ hL4,by simpa using R4.same s6⟩
    ·rintro j σ H' _ ⟨ts,v3,v5,_,_,_,c6,_⟩;exact SqL.of c6
    ·rintro Ex j y σ H6 ex hy ⟨ts6,v3,v5,rfl,s7,c6,c7,hL6,R6⟩;obtain⟨hj,rfl⟩:=YW hy;generalize hC:(Vbcsaf.leaves t.cols).getD j 0=b
     have eb:(Vbcsaf.leaves t.cols)[j]?=some b:=by
      rw[<-hC,List.getD_eq_getElem?_getD,List.getElem?_eq_getElem hj];rfl
     refine J9 rfl ⟨.inl ⟨rfl,_,SqL.of hL6⟩,J9 rfl (JM rfl rfl (Y9 rfl rfl ⟨Qr,fun c hc=>?_⟩))⟩;have en:(V.int ((t.rows.length:Int)+(b:Int)))=V.int ((t.rows.length+b:Nat):Int):=by congr 1
     obtain⟨m1,m2,m3,m4⟩:=ID (e:=(a,t.rows.length+b)) s7 hl hL6 R6 hc;have n5:d5≠l:=fun z=>by rw[z,hL4] at f5;cases f5
     refine⟨l,_,_,rfl,rfl,m1,(by
      rw[List.length_map,R6.len,List.length_append,List.length_map,List.length_take];exact Z8 (by omega)),?_⟩
     refine ex _ _ ⟨ts6++[c],_,_,rfl,m2,(by rw[Ja nl3.symm];exact Y2 c6 hc),(by rw[Ja n5];exact Y2 c7 hc),m3,?_⟩;rw[List.take_add_one,eb,List.map_append,<-List.append_assoc];exact m4
    ·rintro σ H6 ⟨ts6,v3,v5,rfl,s7,c6,c7,hL6,R6⟩;rw[Jh,List.take_length] at R6;refine ey _ _ ⟨ts6,_,_,_,rfl,s7,c6,hL6,?_⟩;rw[List.take_add_one,ea,List.flatMap_append,<-List.append_assoc,hE2]
     simpa using R6
   ·rintro σ H4 ⟨ts4,v3,v4,v5,rfl,s5,c4,hL4,R4⟩;rw[Jh,List.take_length] at R4;generalize hE3:E1++(Vbcsaf.leaves t.rows).flatMap (fun a=>(Vbcsaf.leaves t.cols).map (fun c=>(a,t.rows.length+c)))=E3 at R4
    have te:LG t=E3++((List.range t.cols.length).drop 1).map (fun j=>(t.rows.length+j,t.rows.length+t.cols.getD j 0)):=by
     rw[<-hE3,<-hE];exact TM.A6 t
    have lE3:E3.length<=100:=by
     have:=congrArg List.length te;rw[LJ,List.length_append] at this;omega
    refine JB rfl (s5 _ _ N.obj) T.Jl T.JN rfl (JX rfl (.inl (SqL.of (s5 _ _ N.cols))) ⟨1,J9 rfl ⟨⟨by omega,by omega,by omega,by rw[Jh];omega⟩,?_⟩⟩);rw[Jh]
    refine J11 (lo:=1) (n:=((t.cols.length:Int)-1).toNat)
     (fun i σ H'=> ∃(ts:List Addr) (v3 v4 v5:Option V),σ=[some (.ref p),some (.int t.rows.length),some (.ref l),v3,v4,v5]/\Same H H'/\H' l=some (.lst (ts.map V.ref))/\PairsAt H' ts (E3++(List.range i).map (fun i=>(t.rows.length+(i+1),t.rows.length+t.cols.getD (i+1) 0)))) ?_ ?_ ?_
    ·exact⟨ts4,_,_,_,rfl,s5,hL4,by simpa using R4⟩
    ·rintro Ex i σ H' ex hi ⟨ts,v3,v4,v5,rfl,s6,hL,R⟩;rw[show(1:Int)+(i:Int)=((i+1:Nat):Int) by omega];refine J9 rfl ⟨.inl ⟨rfl,_,SqL.of hL⟩,JM rfl rfl (Y9 rfl rfl (J9 rfl (JB rfl (s6 _ _ N.obj) T.Jl T.JN rfl (J9 rfl (YJ rfl rfl (SqL.of (s6 _ _ N.cols)) (UM (by omega)) (Y9 rfl rfl ⟨Qr,fun c hc=>?_⟩))))))⟩;have en:(V.int ((t.rows.length:Int)+((i+1:Nat):Int)))=V.int ((t.rows.length+(i+1):Nat):Int):=by congr 1
     have en2:(V.int ((t.rows.length:Int)+((t.cols.getD (i+1) 0:Nat):Int)))=V.int ((t.rows.length+t.cols.getD (i+1) 0:Nat):Int):=by congr 1
     obtain⟨m1,m2,m3,m4⟩:=ID (e:=(t.rows.length+(i+1),t.rows.length+t.cols.getD (i+1) 0)) s6 hl hL R hc;refine Vj rfl rfl m1 (by rw[List.length_map,R.len,List.length_append,List.length_map,List.length_range];exact Z8 (by omega)) ?_;refine ex _ _ ⟨ts++[c],_,_,_,rfl,m2,m3,?_⟩;rw[List.range_succ,List.map_append,<-List.append_assoc];exact m4
    ·rintro σ H' ⟨ts,v3,v4,v5,rfl,s6,hL,R⟩;refine J9 rfl (k H' l ts s6 hl hL ?_);rw[te,MR,List.map_map];rw[show((t.cols.length:Int)-1).toNat=t.cols.length-1 by omega] at R;exact R
def XQ (e:Nat×Nat) (b v wt:Nat):Arc:=⟨e.1,e.2,(v:Int)/(b:Int),((v:Int)+(b:Int)-1)/(b:Int),(((((v:Int)+(b:Int)-1)/(b:Int))*(b:Int)-(v:Int))-((v:Int)-((v:Int)/(b:Int))*(b:Int)))*(wt:Int)⟩
def LT (A:Adr) (K:PySem.W.Frag):Sp:=fun vs H Q _=> ∃(c:Addr) (e:Nat×Nat) (b v wt:Nat),vs=[.ref c, .int b, .int v, .int wt]/\PairAt H c e/\1<=b/\b<=100/\v<=64000000/\wt<=9/\
 ∀(H1:Hp) (x dx:Addr),Same H H1->H1 x=none->H1 dx=none->dx≠x->Q (.ref x) (upd (upd H1 dx (.own x)) x (.ins A.Zg dx (DE (XQ e b v wt))))
theorem Ml (T:Txt K mg A):FnOk P w K mg base CX0 3 A.EL A.EV ["ends","base","true","weight"] (LT A K):=by
 refine T.ET.ok Ad (fun H vs Q E h=>?_)
 ·obtain⟨c,e,b,v,wt,rfl,hc0,b1,b2,hv,hw,k⟩:=h;refine⟨rfl,fun _ _ _ _ hr=>?_⟩;refine⟨_,(J3 (YL 4 Ad.nd (pk (UR T) hr T.Uk (J0 (pv 2) (J0 (pv 1) J1)))) (J3 (YL 5 Ad.nd (Jr Ug (Jr UB (Jr UB (Jr Ug (Jq Ui (pv 4) J5 (fun _ _=>rfl)) (pv 1)) (pv 2)) (Jr UB (pv 2) (Jr Ug (Jq Ui (pv 4) J5 (fun _ _=>rfl)) (pv 1)))) (pv 3))) (J4 (J7 (pm (Dq T) hr T.YM (J0 (Jq Ui (pv 0) J5 (fun _ _=>rfl)) (J0 (Jq Ui (pv 0) J5 (fun _ _=>rfl)) (J0 (Jq Ui (pv 4) J5 (fun _ _=>rfl)) (J0 (Jq Ui (pv 4) J5 (fun _ _=>rfl)) (J0 (pv 5) J1)))))))))),?_⟩;refine JM rfl rfl ⟨v,b,rfl,b1,b2,fun u hu=>?_⟩;have s1:Same H (upd H u (.tup [.int ((v:Int)/(b:Int)), .int (((v:Int)+(b:Int)-1)/(b:Int))])):=(Same.refl H).new hu;have hU:SqT K (upd H u (.tup [.int ((v:Int)/(b:Int)), .int (((v:Int)+(b:Int)-1)/(b:Int))])) u _:=SqT.of J2;have hc:=s1 _ _ hc0;generalize upd H u (.tup [.int ((v:Int)/(b:Int)), .int (((v:Int)+(b:Int)-1)/(b:Int))])=H1 at s1 hU hc;have m1:CMul (((v:Int)+(b:Int)-1)/(b:Int)) (b:Int):= .inr ⟨by omega,by omega⟩;have m2:CMul ((v:Int)/(b:Int)) (b:Int):= .inr ⟨by omega,by omega⟩;refine J9 rfl (YJ rfl rfl hU rfl (J9 rfl (Y9 rfl rfl ⟨m1,J9 rfl (Y9 rfl rfl (JM rfl rfl (YJ rfl rfl hU rfl (J9 rfl (Y9 rfl rfl ⟨m2,Y9 rfl rfl ⟨_,_,rfl,rfl,J9 rfl (Y9 rfl rfl ⟨.inr ⟨by omega,by omega⟩,?_⟩)⟩⟩)))))⟩)));refine J9 rfl (YJ rfl rfl (SqT.of hc) rfl (J9 rfl (YJ rfl rfl (SqT.of hc) rfl (J9 rfl (YJ rfl rfl hU rfl (J9 rfl (YJ rfl rfl hU rfl (J9 rfl (fun x dx nx nd ne=>?_)))))))));refine⟨x,dx,_,_,_,_,_,rfl,J2,rfl,?_⟩;rw[Jz];exact k H1 x dx s1 nx nd ne
structure ArcsAt (A:Adr) (H:Hp) (as:List Addr) (t:Table) (k:Nat):Prop where
 len:as.length=k
 at_: ∀(j:Nat) (c:Addr),as[j]?=some c->ArcAt A H c (Vbcsaf.arcOf t (TM.JC t j,j))
theorem ArcsAt.same {H H':Hp} {as:List Addr} {t:Table} {k:Nat} (s:Same H H') (h:ArcsAt A H as t k):ArcsAt A H' as t k:=⟨h.len,fun j c e=>(h.at_ j c e).same s⟩
theorem Ww {H H1:Hp} {l c dx:Addr} {as:List Addr} {t:Table} {k:Nat} (s1:Same H H1) (hl:H l=none) (hL:H1 l=some (.lst (as.map V.ref))) (R:ArcsAt A H1 as t k) (nc:H1 c=none) (nd:H1 dx=none) (ne:dx≠c):
  upd (upd H1 dx (.own c)) c (.ins A.Zg dx (DE (Vbcsaf.arcOf t (TM.JC t k,k)))) l=some (.lst (as.map V.ref))/\
  Same H (upd (upd (upd H1 dx (.own c)) c (.ins A.Zg dx (DE (Vbcsaf.arcOf t (TM.JC t k,k))))) l (.lst (as.map V.ref++[V.ref c])))/\
  upd (upd (upd H1 dx (.own c)) c (.ins A.Zg dx (DE (Vbcsaf.arcOf t (TM.JC t k,k))))) l (.lst (as.map V.ref++[V.ref c])) l=some (.lst ((as++[c]).map V.ref))/\
  ArcsAt A (upd (upd (upd H1 dx (.own c)) c (.ins A.Zg dx (DE (Vbcsaf.arcOf t (TM.JC t k,k))))) l (.lst (as.map V.ref++[V.ref c]))) (as++[c]) t (k+1):=by
 have n2:upd H1 dx (.own c) c=none:=by rw[Ja (fun q=>ne q.symm)];exact nc
 have s2:Same H1 (upd (upd H1 dx (.own c)) c (.ins A.Zg dx (DE (Vbcsaf.arcOf t (TM.JC t k,k))))):=((Same.refl H1).new nd).new n2;have hL2:=s2 _ _ hL;have e1:as.map V.ref++[V.ref c]=(as++[c]).map V.ref:=by simp
 refine⟨hL2,(s1.trans s2).put hl,by rw[J2,e1],by simp[R.len],fun j d hd=>?_⟩
 have up: ∀{d:Addr} {f:Arc},ArcAt A (upd (upd H1 dx (.own c)) c (.ins A.Zg dx (DE (Vbcsaf.arcOf t (TM.JC t k,k))))) d f->ArcAt A (upd (upd (upd H1 dx (.own c)) c (.ins A.Zg dx (DE (Vbcsaf.arcOf t (TM.JC t k,k))))) l (.lst (as.map V.ref++[V.ref c]))) d f:=fun{d f} ⟨dd,h⟩=>
  ⟨dd,by rw[Ja (JY h hL2 (by intro z;cases z))];exact h⟩
 by_cases q:j<as.length
 ·rw[List.getElem?_append_left q] at hd;exact up ((R.same s2).at_ j d hd)
 ·have hl':=JL hd;rw[List.length_append,List.length_singleton] at hl';have ej:j=as.length:=by omega
  subst ej;rw[List.getElem?_append_right (Nat.le_refl _),Nat.sub_self] at hd;have:c=d:=Option.some.inj hd;subst this;rw[R.len];exact up ⟨dx,J2⟩
theorem WQ {t:Table} (b:TBnd t) {j:Nat} (h:j<(Vbcsaf.told t).length) (hk:t.kept.find? (fun k=>k.1==j)=none):
  XQ ((TM.JC t j).1,(TM.JC t j).2.1) t.base (TM.JC t j).2.2.1 (TM.JC t j).2.2.2=Vbcsaf.arcOf t (TM.JC t j,j):=by
 obtain⟨e1,e2,e3⟩:=TM.W6 (TM.JC t j).2.2.1 t.base (TM.JC t j).2.2.2 (by have:=b.base;omega);unfold XQ Vbcsaf.arcOf;dsimp only;rw[hk];dsimp only;rw[e2,e3,e1]
theorem Xk {t:Table} {j:Nat} {k:Nat×Int} (hk:t.kept.find? (fun k=>k.1==j)=some k):
  Vbcsaf.arcOf t (TM.JC t j,j)=⟨(TM.JC t j).1,(TM.JC t j).2.1,k.2,k.2,0⟩:=by
 unfold Vbcsaf.arcOf;dsimp only;rw[hk]
def Va (A:Adr):Sp:=fun vs H Q _=> ∃(p pr pc px kd dx:Addr) (t:Table) (kvs:List (Key×V)),vs=[.ref p]/\TableAt A H p t pr pc px kd dx kvs/\TBnd t/\
 ∀(H':Hp) (q ps pa dq:Addr) (as:List Addr),Same H H'->NetAt A H' q (Vbcsaf.netOf t) ps pa as dq->Q (.ref q) H'
theorem A7 (T:Txt K mg A):FnOk P w K mg base CX0 4 A.RE A.QT ["table"] (Va A):=by
 refine T.AA.ok A8 (fun H vs Q E h=>?_)
 ·obtain⟨p,pr,pc,px,kd,dx,t,kvs,rfl,N,B,k⟩:=h;refine⟨rfl,fun _ _ _ _ hr=>?_⟩;have rl:=B.rl;have cl:=B.cl;have rp:=B.ok.rows.pos;have cp:=B.ok.cols.pos;have tsm:=C5 B;refine⟨_,(J3 (YL 1 A8.nd (pk (Dr T) hr T.C1 (J0 (pv 0) J1))) (J3 (YL 2 A8.nd (pk (EN T) hr T.Ch (J0 (pv 0) J1))) (J3 (YL 3 A8.nd (Jd J1)) (J3 (Y6 PassesOwn.never rfl (Ew (by rfl) T.U0 (J0 (pk (L9 T) hr T.Eb (J0 (pv 0) J1)) J1)) (Uc rfl (JE (ZF 4 A8.nd) (JE (ZF 5 A8.nd) Zh))) (J4 (Jm (Y5 (XU (QZ hr) (pv 4) (J6 (pv 0) rfl)) (by with_unfolding_all rfl)) (J4 (Yi (UP PySem.F.plainAttrs_list PySem.F.slot_list_append PySem.F.type_list_append Yh (pv 3) (J0 (pm (Dq T) hr T.YM (J0 (Jq Ui (pv 5) J5 (fun _ _=>rfl)) (J0 (Jq Ui (pv 5) J5 (fun _ _=>rfl)) (J0 (SW (QZ hr) (J6 (pv 0) rfl) (pv 4) (fun _ _=>rfl)) (J0 (SW (QZ hr) (J6 (pv 0) rfl) (pv 4) (fun _ _=>rfl)) (J0 J5 J1)))))) J1)))) (J4 (Yi (UP PySem.F.plainAttrs_list PySem.F.slot_list_append PySem.F.type_list_append Yh (pv 3) (J0 (pk (Ml T) hr T.ET (J0 (pv 5) (J0 (J6 (pv 0) rfl) (J0 (Jq Ji (pv 1) (pv 4) (fun _ _=>rfl)) (J0 (Jq Ji (pv 2) (pv 4) (fun _ _=>rfl)) J1))))) J1))))))) (J4 (J7 (pm (Kg T) hr T.UD (J0 (Jr Ei (Jd (J0 J5 J1)) (Jr Ym (Jc Ju (by rfl) T.JG Js (J0 (J6 (pv 0) rfl) J1)) (Jc Ju (by rfl) T.JG Js (J0 (J6 (pv 0) rfl) J1)))) (J0 (pv 3) J1))))))))),?_⟩;refine J9 rfl ⟨p,pr,pc,px,kd,dx,t,kvs,rfl,N,B,fun H1 d1 s1 f1 c1=>?_⟩;refine J9 rfl ⟨p,pr,pc,px,kd,dx,t,kvs,rfl,N.same s1,B,fun H2 d2 s2 f2 c2=>?_⟩;have sA:=s1.trans s2;refine⟨Nat.zero_le _,fun l fl=>?_⟩;have hl:H l=none:=sA.free fl;have s3:Same H2 (upd H2 l (.lst [])):=(Same.refl H2).new fl;have hL3:upd H2 l (.lst []) l=some (.lst (([]:List Addr).map V.ref)):=J2;generalize upd H2 l (.lst [])=H3 at s3 hL3;have sB:=sA.trans s3;refine J9 rfl ⟨p,pr,pc,px,kd,dx,t,kvs,rfl,N.same sB,B,fun H4 d4 ts s4 f4 c4 R4=>?_⟩;refine JX rfl (SqL.of c4) ?_;have sC:=sB.trans s4;have c1':H4 d1=some (.lst (((Vbcsaf.told t).map (fun a=>(a.2.2.1:Int))).map V.int)):=s4 _ _ (s3 _ _ (s2 _ _ c1));have c2':H4 d2=some (.lst (((Vbcsaf.told t).map (fun a=>(a.2.2.2:Int))).map V.int)):=s4 _ _ (s3 _ _ c2);have n1:d1≠l:=Jv (s2 _ _ c1) fl;have n2:d2≠l:=Jv c2 fl;have n4:d4≠l:=fun z=>by rw[z,hL3] at f4;cases f4
  have tl:ts.length=(Vbcsaf.told t).length:=by rw[R4.len,LJ]
  refine GC (K:=K) (a:=d4) (xs:=ts.map V.ref)
   (fun i σ H'=> ∃(as:List Addr) (v4 v5:Option V),σ=[some (.ref p),some (.ref d1),some (.ref d2),some (.ref l),v4,v5]/\Same H H'/\Fr1 l H4 H'/\H' l=some (.lst (as.map V.ref))/\ArcsAt A H' as t i) ?_ ?_ ?_ ?_
  ·exact⟨[],none,none,rfl,sC,Fr1.refl,s4 _ _ hL3,rfl,fun j c e=>by simp at e⟩
  ·rintro i σ H' ⟨as,v4,v5,_,_,f,_⟩;exact SqL.of (f _ _ c4 n4)
  ·rintro i y σ H' Tp hy hT ⟨as,v4,v5,rfl,s5,f,hL,R⟩;obtain⟨c,ec,rfl⟩:=Y3 hy;have hi:i<(Vbcsaf.told t).length:=by rw[<-tl];exact JL ec
   obtain⟨e,he,hc⟩:=R4.at_ i c ec
   have he':e=((TM.JC t i).1,(TM.JC t i).2.1):=by
    unfold LG at he;rw[TM.C4 t _ hi] at he;exact(Option.some.inj he).symm
   subst he';have hc':PairAt H' c ((TM.JC t i).1,(TM.JC t i).2.1):=f _ _ hc (JY hc (s4 _ _ hL3) (by intro z;cases z));have s6:Same H' (upd H' Tp (.tup [.int (i:Nat), .ref c])):=(Same.refl H').new hT;have s7:=s5.trans s6;have hL7:=s6 _ _ hL;have R7:=R.same s6;have hc7:PairAt (upd H' Tp (.tup [.int (i:Nat), .ref c])) c ((TM.JC t i).1,(TM.JC t i).2.1):=s6 _ _ hc';have f7:Fr1 l H4 (upd H' Tp (.tup [.int (i:Nat), .ref c])):=f.trans (Fr1.of s6);refine⟨Tp,J9 rfl ⟨SqT.of J2,rfl,_,_,rfl,Y9 rfl rfl ?_⟩⟩;generalize upd H' Tp (.tup [.int (i:Nat), .ref c])=H7 at s7 hL7 R7 hc7 f7;have lsm:(as.map V.ref).length<sizeLine:=by rw[List.length_map,R.len];exact Z8 (by omega)
   have fin: ∀(H8:Hp) (x d:Addr),Same H7 H8->H8 x=none->H8 d=none->d≠x->Hx (V.ref l) [V.ref x] (upd (upd H8 d (.own x)) x (.ins A.Zg d (DE (Vbcsaf.arcOf t (TM.JC t i,i))))) fun _ H1=> ∃(as:List Addr) (v4 v5:Option V),[some (V.ref p),some (.ref d1),some (.ref d2),some (.ref l),some (.int (i:Nat)),some (.ref c)]=[some (V.ref p),some (.ref d1),some (.ref d2),some (.ref l),v4,v5]/\Same H H1/\Fr1 l H4 H1/\H1 l=some (.lst (as.map V.ref))/\ArcsAt A H1 as t (i+1):=fun H8 x d s8 nx nd ne=>by
    obtain⟨m1,m2,m3,m4⟩:=Ww (s7.trans s8) hl (s8 _ _ hL7) (R7.same s8) nx nd ne;have n2':upd H8 d (.own x) x=none:=by rw[Ja (fun q=>ne q.symm)];exact nx
    exact Vj rfl rfl m1 lsm ⟨as++[x],_,_,rfl,m2,(f7.trans (Fr1.of (s8.trans (((Same.refl H8).new nd).new n2')))).put,m3,m4⟩
   refine J9 rfl (JB rfl (s7 _ _ N.obj) T.Jl T.YH rfl (JX rfl (DGet.k (k:=Sum.inl (i:Int)) (s7 _ _ N.kept)) (J9 rfl ?_)));rw[N.kok.eq i];cases ek:t.kept.find? (fun k=>k.1==i) with
   |none=>
    refine Ya ?_
    have tr:Nu (((Vbcsaf.told t).map (fun a=>(a.2.2.1:Int))).map V.int) ((i:Nat):Int)=some (.int ((TM.JC t i).2.2.1:Nat)):=A0 (by
     rw[List.getElem?_map,TM.C4 t _ hi];rfl)
    have wr:Nu (((Vbcsaf.told t).map (fun a=>(a.2.2.2:Int))).map V.int) ((i:Nat):Int)=some (.int ((TM.JC t i).2.2.2:Nat)):=A0 (by
     rw[List.getElem?_map,TM.C4 t _ hi];rfl)
    have tf:=TM.Am B.bd _ (TM.Au t hi);refine J9 rfl ⟨.inl ⟨rfl,_,SqL.of hL7⟩,J9 rfl (JB rfl (s7 _ _ N.obj) T.Jl T.BZ rfl (JM rfl rfl (YJ rfl rfl (SqL.of (f7 _ _ c1' n1)) tr (JM rfl rfl (YJ rfl rfl (SqL.of (f7 _ _ c2' n2)) wr ?_)))))⟩;refine⟨c,_,t.base,(TM.JC t i).2.2.1,(TM.JC t i).2.2.2,rfl,hc7,B.base.1,B.base.2,tf.2.2.1,tf.2.2.2,fun H8 x d s8 nx nd ne=>?_⟩;rw[WQ B hi ek];exact fin H8 x d s8 nx nd ne
   |some kk=>
    refine JV ?_
    have dg:DGet H7 kd (.int ((i:Nat):Int)) (some (V.int kk.2)):=by
     have:=DGet.k (k:=Sum.inl (i:Int)) (s7 _ _ N.kept);rw[N.kok.eq i,ek] at this;exact this
    refine J9 rfl ⟨.inl ⟨rfl,_,SqL.of hL7⟩,J9 rfl (YJ rfl rfl (SqT.of hc7) rfl (J9 rfl (YJ rfl rfl (SqT.of hc7) rfl (JB rfl (s7 _ _ N.obj) T.Jl T.YH rfl (J9 rfl (JX rfl dg (JB rfl (s7 _ _ N.obj) T.Jl T.YH rfl (J9 rfl (JX rfl dg (fun x d nx nd ne=>?_))))))))))⟩;refine⟨x,d,_,_,_,_,_,rfl,J2,rfl,?_⟩;rw[Jz];have:=fin H7 x d (Same.refl H7) nx nd ne;rw[Xk ek] at this;exact this
  ·rintro σ H' ⟨as,v4,v5,rfl,s5,f,hL,R⟩;rw[List.length_map,tl] at R;refine⟨LE,fun l5 f5=>?_⟩;have s6:Same H' (upd H' l5 (.lst [V.int 0])):=(Same.refl H').new f5;refine JB rfl (s6 _ _ (s5 _ _ N.obj)) T.Jl T.Y7 rfl (JX rfl (.inl (SqL.of (s6 _ _ (s5 _ _ N.rows)))) (JB rfl (s6 _ _ (s5 _ _ N.obj)) T.Jl T.JN rfl (JX rfl (.inl (SqL.of (s6 _ _ (s5 _ _ N.cols)))) (Y9 rfl rfl ⟨l5,Y9 rfl rfl ⟨J2,?_⟩⟩))));rw[Jh,Jh];have tn:((t.rows.length:Int)+(t.cols.length:Int)).toNat=t.rows.length+t.cols.length:=by omega
   rw[tn];refine⟨by omega,by omega,(by show 1*_<=sizeLine;exact Nat.le_of_lt (Z8 (by omega))),fun l6 f6=>?_⟩;rw[LD];have s7:Same H' (upd (upd H' l5 (.lst [V.int 0])) l6 (.lst ((List.replicate (t.rows.length+t.cols.length) (0:Int)).map V.int))):=s6.new f6;have c7:upd (upd H' l5 (.lst [V.int 0])) l6 (.lst ((List.replicate (t.rows.length+t.cols.length) (0:Int)).map V.int)) l6=some (.lst ((List.replicate (t.rows.length+t.cols.length) (0:Int)).map V.int)):=J2;generalize upd (upd H' l5 (.lst [V.int 0])) l6 (.lst ((List.replicate (t.rows.length+t.cols.length) (0:Int)).map V.int))=H7 at s7 c7;refine J9 rfl (fun x d nx nd ne=>?_);refine⟨x,d,_,_,rfl,J2,rfl,?_⟩;rw[Jz];have n2':upd H7 d (.own x) x=none:=by rw[Ja (fun q=>ne q.symm)];exact nx
   have s8:Same H7 (upd (upd H7 d (.own x)) x (.ins A.CQ d [("supplies", .ref l6),("arcs", .ref l)])):=((Same.refl H7).new nd).new n2';refine k _ x l6 l d as (s5.trans (s7.trans s8)) ⟨J2,s8 _ _ c7,s8 _ _ (s7 _ _ hL),by rw[R.len,TM.A5],fun j q hq=>?_,by unfold Vbcsaf.netOf;simp,by show t.rows.length+t.cols.length<=100;omega,by rw[TM.A5];omega⟩;rw[TM.Er t (by rw[<-R.len];exact JL hq)];exact((R.at_ j q hq).same s7).same s8
def Td (t:Table) (x:List Int) (j:Nat):Int:=((TM.JC t j).2.2.2:Int)*(((t.base:Int)*at_ x j-((TM.JC t j).2.2.1:Int)).natAbs:Int)
theorem XJ (t:Table) (x:List Int):Vbcsaf.distance t x=FM.S (Vbcsaf.told t).length (Td t x):=by
 unfold Vbcsaf.distance;rw[FM.BB _ (0,0,0,0)];rfl
def S8 (A:Adr) (K:PySem.W.Frag):Sp:=fun vs H Q _=> ∃(p a pr pc px kd dx:Addr) (t:Table) (kvs:List (Key×V)) (x:List Int),vs=[.ref p, .ref a]/\TableAt A H p t pr pc px kd dx kvs/\TBnd t/\SqL K H a (x.map V.int)/\x.length=(Vbcsaf.told t).length/\
 ∀(H':Hp),Same H H'->Q (.int (Vbcsaf.distance t x)) H'
theorem LV (T:Txt K mg A):FnOk P w K mg base CX0 4 A.OH A.P1 ["table","amounts"] (S8 A K):=by
 refine T.IP.ok UE (fun H vs Q E h=>?_)
 ·obtain⟨p,a,pr,pc,px,kd,dx,t,kvs,x,rfl,N,B,hx,lx,k⟩:=h;refine⟨rfl,fun _ _ _ _ hr=>?_⟩;have bb:=B.base;refine⟨_,(J3 (YL 2 UE.nd J5) (J3 (Y6 PassesOwn.never rfl (Xa (by rfl) T.Kj (J0 (pv 1) (J0 (pk (Dr T) hr T.C1 (J0 (pv 0) J1)) (J0 (pk (EN T) hr T.Ch (J0 (pv 0) J1)) J1)))) (Uc rfl (JE (ZF 3 UE.nd) (JE (ZF 4 UE.nd) (JE (ZF 5 UE.nd) Zh)))) (J4 (Pn (i:=2) UE.nd rfl (by first|exact Or.inl rfl|exact Or.inr rfl) (Jr Ug (Jc XT (by rfl) T.J0s J06 (J0 (Jr UB (Jr Ug (J6 (pv 0) rfl) (pv 3)) (pv 4)) J1)) (pv 5)) LS))) (J4 (J7 (pv 2))))),?_⟩;refine JM rfl rfl ⟨p,pr,pc,px,kd,dx,t,kvs,rfl,N,B,fun H1 d1 s1 f1 c1=>?_⟩;refine J9 rfl ⟨p,pr,pc,px,kd,dx,t,kvs,rfl,N.same s1,B,fun H2 d2 s2 f2 c2=>?_⟩;have sA:=s1.trans s2;refine⟨a,d1,d2,_,_,_,rfl,sA.seq hx,SqL.of (s2 _ _ c1),SqL.of c2,?_⟩
  refine Vp (K:=K) (a:=a) (b:=d1) (c:=d2) (xs:=x.map V.int) (ys:=((Vbcsaf.told t).map (fun a=>(a.2.2.1:Int))).map V.int) (zs:=((Vbcsaf.told t).map (fun a=>(a.2.2.2:Int))).map V.int)
   (fun i σ H'=> ∃(v3 v4 v5:Option V),σ=[some (.ref p),some (.ref a),some (.int (FM.S i (Td t x))),v3,v4,v5]/\Same H2 H') (Vbcsaf.told t).length ⟨by simp[lx],by simp,by simp⟩ ?_ ?_ ?_ ?_
  ·exact⟨none,none,none,rfl,Same.refl H2⟩
  ·rintro i σ H' ⟨v3,v4,v5,_,s3⟩;exact⟨(sA.trans s3).seq hx,SqL.of (s3 _ _ (s2 _ _ c1)),SqL.of (s3 _ _ c2)⟩
  ·rintro i y z u σ H' Tp hy hz hu hT ⟨v3,v4,v5,rfl,s3⟩;obtain⟨hi,rfl⟩:=ZW hy;rw[lx] at hi;rw[List.getElem?_map,TM.C4 t _ hi] at hz hu;have hz':V.int ((TM.JC t i).2.2.1:Int)=z:=Option.some.inj hz;have hu':V.int ((TM.JC t i).2.2.2:Int)=u:=Option.some.inj hu;subst hz' hu';have tf:=TM.Am B.bd _ (TM.Au t hi);have s4:Same H2 (upd H' Tp (.tup [.int (at_ x i), .int ((TM.JC t i).2.2.1:Int), .int ((TM.JC t i).2.2.2:Int)])):=s3.new hT;refine⟨Tp,J9 rfl ⟨SqT.of J2,rfl,_,_,rfl,_,_,rfl,Y9 rfl rfl ?_⟩⟩;refine J9 rfl (JB rfl (s4 _ _ (sA _ _ N.obj)) T.Jl T.BZ rfl (J9 rfl (Y9 rfl rfl ⟨.inl ⟨by omega,by omega⟩,J9 rfl (Y9 rfl rfl (JM rfl rfl (Y9 rfl rfl ⟨.inr ⟨by omega,by omega⟩,Y9 rfl rfl ?_⟩)))⟩)))
   have e:((if(t.base:Int)*at_ x i-((TM.JC t i).2.2.1:Int)<0 then-((t.base:Int)*at_ x i-((TM.JC t i).2.2.1:Int)) else(t.base:Int)*at_ x i-((TM.JC t i).2.2.1:Int))*((TM.JC t i).2.2.2:Int))=Td t x i:=by
    unfold Td;rw[Int.mul_comm]
    congr 1
    split<;>omega
   refine⟨some (V.int (at_ x i)),some (V.int ((TM.JC t i).2.2.1:Int)),some (V.int ((TM.JC t i).2.2.2:Int)),?_,s4⟩;rw[e];rfl
  ·rintro σ H' ⟨v3,v4,v5,rfl,s3⟩;refine J9 rfl ?_;rw[<-XJ];exact k H' (sA.trans s3)
def Ans (H:Hp) (Q:VK) (l:List Int):Prop:= ∀(H':Hp) (d:Addr),Same H H'->H d=none->H' d=some (.lst (l.map V.int))->Q (.ref d) H'
theorem Ans.mv {H H1:Hp} {Q:VK} {l:List Int} (s:Same H H1) (k:Ans H Q l):Ans H1 Q l:=fun H' d s2 hd e=>k H' d (s.trans s2) (s.free hd) e
theorem Ans.one {H:Hp} {Q:VK} {r:Int} (h:Ans H Q [r]) {H1:Hp} (s:Same H H1):Dc (Jj (tC (.int r)) JK) σ H1 Q:=
 ⟨LE,fun d hd=>h _ d (s.new hd) (s.free hd) J2⟩
theorem Ans.cat {H H1:Hp} {Q:VK} {pre l:List Int} (k:Ans H Q (pre++l)) (s:Same H H1) {d1 d2:Addr} (h1:H1 d1=some (.lst (pre.map V.int))) (h2:H1 d2=some (.lst (l.map V.int))) (hn:pre.length+l.length<=100000):QK (.ref d1) (.ref d2) H1 Q:=
 ⟨d1,d2,Y9 rfl rfl ⟨h1,h2,(by rw[List.length_map,List.length_map];exact Nat.le_of_lt (Z8 hn)),fun q hq=>k _ q (s.new hq) (s.free hq) (by rw[J2,List.map_append])⟩⟩
theorem QI {g:Net} (wf:FM.Wf g) {x:List Int} (h:VbcsFlow.flowOf g=some x):x.length=g.arcs.length:=by
 rcases FM.Iw wf with⟨y,a,b⟩|⟨a,_⟩
 ·rw[a] at h;cases h;exact b.flow.len
 ·rw[a] at h;cases h
theorem MV (g:Net):(VbcsFlow.noneSet g).length<=g.n:=by
 unfold VbcsFlow.noneSet;exact Nat.le_trans (List.length_filter_le _ _) (by rw[List.length_range];exact Nat.le_refl _)
theorem Ss (g:Net) (x:List Int):(VbcsFlow.pricesOf g x).length=g.n:=by
 have rr: ∀(rs:List VbcsFlow.Rest) (c:List Int),(VbcsFlow.priceRound rs c).length=c.length:=by
  intro rs;unfold VbcsFlow.priceRound
  induction rs with
  |nil=>intro c;rfl
  |cons e rs ih=>intro c;rw[List.foldl_cons,ih];split<;>simp
 have rn: ∀(k:Nat) (rs:List VbcsFlow.Rest) (c:List Int),(VbcsFlow.priceRounds rs k c).length=c.length:=by
  intro k
  induction k with
  |zero=>intro rs c;rfl
  |succ k ih=>intro rs c;show(VbcsFlow.priceRounds rs k (VbcsFlow.priceRound rs c)).length=_;rw[ih,rr]
 unfold VbcsFlow.pricesOf;rw[rn,List.length_replicate]
theorem XV {g:Net} (wf:FM.Wf g) (s:List Nat):VbcsFlow.provesNone g s=decide (0<VbcsFlow.overfull g s):=by
 unfold VbcsFlow.provesNone
 have:(g.arcs.any fun a=>decide (a.most<a.least))=false:=by
  rw[List.any_eq_false];intro a ha;obtain⟨j,hj,e⟩:=List.mem_iff_getElem.mp ha;have w:=wf.bnd j hj;unfold FM.arc at w;rw[List.getD_eq_getElem?_getD,List.getElem?_eq_getElem hj] at w;have w':g.arcs[j].least<=g.arcs[j].most:=w;rw[e] at w';simp;omega
 rw[this,Bool.or_false]
def IS (A:Adr) (K:PySem.W.Frag):Sp:=fun vs H Q _=> ∃(p ps pa dx:Addr) (as:List Addr) (g:Net),vs=[.ref p]/\NetAt A H p g ps pa as dx/\FM.Wf g/\Bnd g/\Ans H Q (Vbcsaf.pricesAnswer g)
theorem BC (T:Txt K mg A):FnOk P w K mg base CX0 7 A.CB A.CU ["net"] (IS A K):=by
 refine T.UU.ok BP (fun H vs Q E h=>?_)
 ·obtain⟨p,ps,pa,dx,as,g,rfl,N,wf,B,k⟩:=h;refine⟨rfl,fun _ _ _ _ hr=>?_⟩;refine⟨_,(J3 (YL 1 BP.nd (J6 (pk (C6 T) hr T.Bp (J0 (pv 0) J1)) rfl)) (J3 (Jm (Y5 (YO (pv 1))) (J4 (J7 (Jd (J0 J5 (J0 J5 J1))))) Jb) (J4 (J7 (Jr Zc (Jd (J0 J5 (J0 J5 J1))) (pk (Md T) hr T.Ft (J0 (pv 0) (J0 (pv 1) J1)))))))),?_⟩;unfold Vbcsaf.pricesAnswer at k;refine J9 rfl ⟨p,ps,pa,dx,as,g,rfl,N,wf,B,fun H1 o d l nf s1 ho hl=>?_,fun H1 o d l e x fx F s1 ho hl=>?_⟩
  ·rw[nf] at k;exact Tk ho T.Yv T.JJ rfl (JM rfl rfl (JV ⟨Qr,fun d hd=>k _ d (s1.new hd) (s1.free hd) J2⟩))
  ·rw[fx] at k;refine Tk ho T.Yv T.JJ rfl (JM rfl rfl (Ya ?_));refine⟨Qr,fun d hd=>?_⟩;have s3:Same H1 (upd H1 d (.lst [V.int 0,V.int 1])):=(Same.refl H1).new hd;refine JM rfl rfl ⟨p,l,ps,pa,dx,as,g,x,rfl,(N.same s1).same s3,wf,SqL.of (s3 _ _ hl),F,fun H4 d4 s4 c4=>?_⟩;have k2:Ans H Q ([0,1]++VbcsFlow.pricesOf g x):=k;refine k2.cat (s1.trans (s3.trans s4)) (s4 _ _ J2) c4 ?_;rw[Ss];have:=N.sm1;show 2+_<=_;omega
def Lr (A:Adr) (K:PySem.W.Frag):Sp:=fun vs H Q _=> ∃(p a b ps pa dx:Addr) (as:List Addr) (g:Net) (x c:List Int),vs=[.ref p, .ref a, .ref b]/\NetAt A H p g ps pa as dx/\FM.Wf g/\SqL K H a (x.map V.int)/\SqL K H b (c.map V.int)/\
 Ans H Q [0,Vbcsaf.bit (VbcsFlow.isFlow g x),Vbcsaf.bit (VbcsFlow.isFlow g x&&VbcsFlow.provesLeast g x c)]
theorem D9 (T:Txt K mg A):FnOk P w K mg base CX0 3 A.DP A.E4 ["net","amounts","node_prices"] (Lr A K):=by
 refine T.As.ok L7 (fun H vs Q E h=>?_)
 ·obtain⟨p,a,b,ps,pa,dx,as,g,x,c,rfl,N,wf,hx,hc,k⟩:=h;refine⟨rfl,fun _ _ _ _ hr=>?_⟩;refine⟨_,(J3 (Jm (YS (JT (pk (G4 T) hr T.Et (J0 (pv 0) (J0 (pv 1) J1))))) (J4 (J7 (Jd (J0 J5 (J0 J5 (J0 J5 J1)))))) Jb) (J4 (J7 (Jd (J0 J5 (J0 J5 (J0 (Yq MH (by rfl) T.Qv LQ (J0 (pk (Lq T) hr T.DY (J0 (pv 0) (J0 (pv 1) (J0 (pv 2) J1)))) J1)) J1))))))),?_⟩;refine JM rfl rfl ⟨p,a,ps,pa,dx,as,g,x,rfl,N,hx,wf.ends,fun H1 s1=>J9 rfl ?_⟩;cases hf:VbcsFlow.isFlow g x with
  |false=>
   rw[hf] at k;exact JV ⟨Vi,fun d hd=>k _ d (s1.new hd) (s1.free hd) J2⟩
  |true=>
   rw[hf,Bool.true_and] at k;refine Ya ?_;refine J9 rfl (JM rfl rfl ⟨p,a,b,ps,pa,dx,as,g,x,c,rfl,N.same s1,s1.seq hx,s1.seq hc,wf.ends,(FM.BY _ _).mp hf,fun H2 s2=> .inr (J9 rfl ?_)⟩);have sA:=s1.trans s2;refine⟨Vi,fun d hd=>k _ d (sA.new hd) (sA.free hd) ?_⟩;rw[J2];cases VbcsFlow.provesLeast g x c<;>rfl
def BL (g:Net) (l:List Nat):List Int:=if Vbcsaf.isSetOf g.n l=true then[0,Vbcsaf.bit (VbcsFlow.provesNone g l),VbcsFlow.overfull g l] else[-3]
def Lo (A:Adr) (K:PySem.W.Frag):Sp:=fun vs H Q _=> ∃(p a ps pa dx:Addr) (as:List Addr) (g:Net) (x:List Int),vs=[.ref p, .ref a]/\NetAt A H p g ps pa as dx/\FM.Wf g/\SqL K H a (x.map V.int)/\Vbcsaf.isSet x=true/\Ans H Q (BL g (Vbcsaf.nats x))
theorem Cv (T:Txt K mg A):FnOk P w K mg base CX0 4 A.Dd A.Dk ["net","nodes"] (Lo A K):=by
 refine T.At.ok CK (fun H vs Q E h=>?_)
 ·obtain⟨p,a,ps,pa,dx,as,g,x,rfl,N,wf,hx,h1,k⟩:=h;refine⟨rfl,fun _ _ _ _ hr=>?_⟩
  have nn: ∀z∈x,0<=z:=fun z hz=>by
   have q:=h1;unfold Vbcsaf.isSet at q;rw[Bool.and_eq_true,List.all_eq_true] at q;have:=q.2 z hz;unfold Vbcsaf.inr at this;rw[Bool.and_eq_true,decide_eq_true_eq] at this;exact this.1
  refine⟨_,(J3 (Jm (YS (JT (pk (FH T) hr T.B5 (J0 (pv 1) (J0 (Jc Ju (by rfl) T.JG Js (J0 (J6 (pv 0) rfl) J1)) J1))))) (J4 (J7 (Jd (J0 (JW (by rfl) T.UK) J1)))) Jb) (J3 (YL 2 CK.nd (pk (Dg T) hr T.Bj (J0 (pv 0) (J0 (pv 1) J1)))) (J4 (J7 (Jd (J0 J5 (J0 (Yq MH (by rfl) T.Qv LQ (J0 (Ze Km (pv 2) J5 (Jn _)) J1)) (J0 (pv 2) J1)))))))),?_⟩;refine J9 rfl (JB rfl N.obj T.Yf T.Y8 rfl (JX rfl (.inl (SqL.of N.sup)) ?_));refine⟨a,x,g.n,(by rw[List.length_map,N.n];rfl),hx,h1,fun H4 s4=>J9 rfl ?_⟩;unfold BL at k;cases h2:Vbcsaf.isSetOf g.n (Vbcsaf.nats x) with
  |false=>
   rw[h2] at k;have k':Ans H Q [-3]:=k;exact JV (k'.one s4)
  |true=>
   rw[h2,if_pos rfl,XV wf] at k;refine Ya ?_
   have lt: ∀i∈Vbcsaf.nats x,i<g.n:=fun i hi=>by
    have q:=h2;unfold Vbcsaf.isSetOf at q;rw[Bool.and_eq_true,List.all_eq_true] at q;exact of_decide_eq_true (q.1 i hi)
   have l16:(Vbcsaf.nats x).length<=1000:=by
    have q:=h1;unfold Vbcsaf.isSet at q;rw[Bool.and_eq_true,decide_eq_true_eq] at q;unfold Vbcsaf.nats;rw[List.length_map];have:=q.1;omega
   refine JM rfl rfl ⟨p,a,ps,pa,dx,as,g,Vbcsaf.nats x,rfl,N.same s4,(by rw[IG nn];exact s4.seq hx),lt,l16,fun H5 s5=>?_⟩;have sD:=s4.trans s5;refine J9 rfl (Y9 rfl rfl (.inr (JM rfl rfl ⟨Vi,fun d hd=>k _ d (sD.new hd) (sD.free hd) ?_⟩)));rw[J2];by_cases z:0<VbcsFlow.overfull g (Vbcsaf.nats x)
   ·rw[decide_eq_true z];rfl
   ·rw[decide_eq_false z];rfl
structure EachAt {α:Type} (R:Hp->Addr->α->Prop) (H:Hp) (cs:List Addr) (es:List α):Prop where
 len:cs.length=es.length
 at_: ∀(j:Nat) (c:Addr),cs[j]?=some c-> ∃e,es[j]?=some e/\R H c e
theorem EachAt.nil {α:Type} {R:Hp->Addr->α->Prop} {H:Hp}:EachAt R H [] []:=⟨rfl,fun j c e=>by simp at e⟩
theorem EachAt.up {α:Type} {R R':Hp->Addr->α->Prop} {H H':Hp} {cs:List Addr} {es:List α} (h:EachAt R H cs es) (u: ∀c e,R H c e->R' H' c e):EachAt R' H' cs es:=
 ⟨h.len,fun j c q=>by obtain⟨e,h1,h2⟩:=h.at_ j c q;exact⟨e,h1,u c e h2⟩⟩
theorem EachAt.cat {α:Type} {R:Hp->Addr->α->Prop} {H:Hp} {cs cs':List Addr} {es es':List α} (h:EachAt R H cs es) (h':EachAt R H cs' es'):EachAt R H (cs++cs') (es++es'):=by
 refine⟨by rw[List.length_append,List.length_append,h.len,h'.len],fun j d hd=>?_⟩;by_cases q:j<cs.length
 ·rw[List.getElem?_append_left q] at hd;obtain⟨r,h1,h2⟩:=h.at_ j d hd;exact⟨r,by rw[List.getElem?_append_left (by rw[<-h.len];exact q)];exact h1,h2⟩
 ·rw[List.getElem?_append_right (by omega)] at hd;obtain⟨r,h1,h2⟩:=h'.at_ _ d hd;exact⟨r,by rw[List.getElem?_append_right (by rw[<-h.len];omega),<-h.len];exact h1,h2⟩
theorem EachAt.one {α:Type} {R:Hp->Addr->α->Prop} {H:Hp} {c:Addr} {e:α} (h:R H c e):EachAt R H [c] [e]:=
 ⟨rfl,fun j d hd=>by
   have hj:=JL hd;have:j=0:=by simp at hj;exact hj
   subst this;have q:c=d:=Option.some.inj hd;subst q;exact⟨e,rfl,h⟩⟩
theorem EachAt.snoc {α:Type} {R:Hp->Addr->α->Prop} {H:Hp} {cs:List Addr} {es:List α} {c:Addr} {e:α} (h:EachAt R H cs es) (hc:R H c e):EachAt R H (cs++[c]) (es++[e]):=h.cat (.one hc)
def LAt (H:Hp) (c:Addr) (l:List Nat):Prop:=H c=some (.lst (Jp l))
theorem Ax (l:List Nat) (v:Nat):Jp l++[V.int v]=Jp (l++[v]):=by unfold Jp;simp
theorem A9 (l:List Addr) (c:Addr):l.map V.ref++[V.ref c]=(l++[c]).map V.ref:=by simp
theorem Ys {α:Type} {l:List α} {i:Nat} {x:α} (h:l[i]?=some x):l.take (i+1)=l.take i++[x]:=by rw[List.take_add_one,h];rfl
theorem Fr1.same {a:Addr} {H H1 H2:Hp} (s:Same H H1) (n:H a=none) (f:Fr1 a H1 H2):Same H H2:=fun b o e=>f b o (s b o e) (Jv e n)
theorem Fr1.up {a:Addr} {H1 H2 H3:Hp} (f:Fr1 a H1 H2) (s:Same H2 H3):Fr1 a H1 H3:=f.trans (Fr1.of s)
def Oh (A:Adr):Sp:=fun vs H Q _=> ∃(p dx:Addr) (v1 v2 v3:V),vs=[.ref p,v1,v2,v3]/\H p=some (.ins A.ZD dx [])/\
 Q .non (upd H p (.ins A.ZD dx [("places",v1),("least",v2),("greatest",v3)]))
theorem Nz (T:Txt K mg A):FnOk P w K mg base CX0 1 A.Hm A.Ho ["self","places","least","greatest"] (Oh A):=by
 refine T.Zy.ok O1 (fun H vs Q E h=>?_)
 ·obtain⟨p,dx,v1,v2,v3,rfl,hp,k⟩:=h;refine⟨rfl,fun _ _ _ _ hr=>?_⟩;refine⟨_,(J3 (JP (pv 0) (pv 1) rfl) (J3 (JP (pv 0) (pv 2) rfl) (J4 (JP (pv 0) (pv 3) rfl)))),?_⟩;refine JM rfl rfl ⟨p,_,JX rfl hp ⟨T.Ao,T.Ak,(by show 0<1000;decide),?_⟩⟩;refine JM rfl rfl ⟨p,_,JX rfl J2 ⟨T.Ao,T.EU,(by show 1<1000;decide),?_⟩⟩;refine JM rfl rfl ⟨p,_,JX rfl J2 ⟨T.Ao,T.BR,(by show 2<1000;decide),?_⟩⟩;rw[Jz,Jz];exact k
def QB:Sp:=fun vs H Q _=> ∃(n:Nat),vs=[.int n]/\n<=3/\ ∀(H':Hp) (l:Addr) (rs:List Addr),Same H H'->H l=none->H' l=some (.lst (rs.map V.ref))->EachAt (fun H' c e=>H c=none/\LAt H' c e) H' rs (CM.spans n)->Q (.ref l) H'
theorem E7 (T:Txt K mg A):FnOk P w K mg base CX0 1 A.Nh A.LU ["size"] QB:=by
 refine T.Cn.ok DG (fun H vs Q E h=>?_)
 ·obtain⟨n,rfl,hn,k⟩:=h;refine⟨rfl,fun _ _ _ _ hr=>?_⟩;refine⟨_,(J4 (J7 (Jr Zc (Jd (J0 (Yq (FU rfl) (by rfl) T.Ph Lx (J0 (Yq P9 (by rfl) T.Zz Mf (J0 (pv 0) J1)) J1)) J1)) (Us rfl DG.nd (Es (by rfl) T.Zz (J0 (pv 0) J1)) (bo [("index",1)]) (fun _ _ _ _ _=>(ZF 1 DG.nd)) (fun _ _ _ _ _=>Yw) (fun _ _ _ _ _=>(Jd (J0 (pv 1) J1))))))),?_⟩;refine JM rfl rfl (fun r0 f0=>⟨r0,0,n,1,n,rfl,J2,small_one (by omega) (by omega) (by omega) (by omega),(by rw[rangeSize_one];split<;>omega),by omega,fun l2 f2=>?_⟩);have s0:Same H (upd H r0 (FK r0 0 n 1)):=(Same.refl H).new f0;have hf2:H l2=none:=s0.free f2;have s1:Same H (upd (upd H r0 (FK r0 0 n 1)) l2 (.lst (((List.range n).map (fun i:Nat=>(0:Int)+(i:Int)*1)).map V.int))):=s0.new f2
  have c1:upd (upd H r0 (FK r0 0 n 1)) l2 (.lst (((List.range n).map (fun i:Nat=>(0:Int)+(i:Int)*1)).map V.int)) l2=some (.lst (Jp (List.range n))):=by
   rw[J2];have:(fun i:Nat=>(0:Int)+(i:Int)*1)=(fun i:Nat=>(i:Int)):=by funext i;omega
   rw[this];rfl
  generalize upd (upd H r0 (FK r0 0 n 1)) l2 (.lst (((List.range n).map (fun i:Nat=>(0:Int)+(i:Int)*1)).map V.int))=H1 at s1 c1;refine⟨LE,fun l3 f3=>?_⟩;have s2:Same H1 (upd H1 l3 (.lst [V.ref l2])):=(Same.refl H1).new f3;have c3:upd H1 l3 (.lst [V.ref l2]) l3=some (.lst [V.ref l2]):=J2;generalize upd H1 l3 (.lst [V.ref l2])=H2 at s2 c3;have sA:=s1.trans s2
  refine⟨_,rfl,n,rfl,by omega,by omega,fun D hD=>Dv (lo:=0) (n:=(n:Int).toNat)
   (fun i H'=>Same H2 H'/\ ∃rs:List Addr,H' D=some (.lst (rs.map V.ref))/\EachAt (fun H' c e=>c≠D/\H c=none/\LAt H' c e) H' rs ((List.range i).map fun i=>[i])) ?_ ?_ ?_⟩
  ·exact⟨(Same.refl H2).new hD,[],J2, .nil⟩
  ·rintro i H' hi ⟨s4,rs,hD',R⟩;refine⟨rfl,?_⟩;refine J9 rfl ⟨LE,fun e fe=>?_⟩;rw[show(0:Int)+(i:Int)=(i:Int) by omega];have s5:Same H' (upd H' e (.lst [V.int (i:Int)])):=(Same.refl H').new fe;have eD:e≠D:=fun z=>by rw[z,hD'] at fe;cases fe
   refine⟨_,s5 _ _ hD',?_,(s4.trans s5).put hD,rs++[e],?_,?_⟩
   ·rw[List.length_map,R.len,List.length_map,List.length_range];exact Z8 (by omega)
   ·rw[J2,A9]
   ·rw[List.range_succ,List.map_append];refine EachAt.snoc (R.up fun c l ⟨a1,a2,a3⟩=>⟨a1,a2,?_⟩) ⟨eD,(sA.trans s4).free fe,?_⟩
    ·show upd _ D _ c=_;rw[Ja a1];exact s5 _ _ a3
    ·show upd _ D _ e=_;rw[Ja eD];exact J2
  ·rintro H' ⟨s4,rs,hD',R⟩;rw[show(n:Int).toNat=n by omega] at R;have l3D:H' l3=some (.lst [V.ref l2]):=s4 _ _ c3;refine⟨l3,D,Y9 rfl rfl ⟨l3D,hD',(by rw[List.length_map,R.len,List.length_map,List.length_range];exact Nat.le_of_lt (Z8 (by show 1+n<=_;omega))),fun q hq=>?_⟩⟩;have s5:Same H' (upd H' q (.lst ([V.ref l2]++rs.map V.ref))):=(Same.refl H').new hq;refine k _ q (l2::rs) (sA.trans (s4.trans s5)) ((sA.trans s4).free hq) (by rw[J2];rfl) ?_;exact(EachAt.one ⟨hf2,s5 _ _ (s4 _ _ (s2 _ _ c1))⟩).cat (R.up fun c l ⟨_,a2,a3⟩=>⟨a2,s5 _ _ a3⟩)
theorem J1e (a b c:Nat):Nu (Jp [a,b,c]) (0:Int)=some (.int (a:Nat)):=rfl
theorem J0W (a b c:Nat):Nu (Jp [a,b,c]) (1:Int)=some (.int (b:Nat)):=rfl
theorem J0t (a b c:Nat):Nu (Jp [a,b,c]) (2:Int)=some (.int (c:Nat)):=rfl
def Pz (K:PySem.W.Frag):Sp:=fun vs H Q _=> ∃(z f s t:Addr) (a b c:Nat) (fs ss ts:List Nat),vs=[.ref z, .ref f, .ref s, .ref t]/\SqL K H z (Jp [a,b,c])/\SqL K H f (Jp fs)/\SqL K H s (Jp ss)/\SqL K H t (Jp ts)/\
 b<=3/\c<=3/\fs.length<=3/\ss.length<=3/\ts.length<=3/\ ∀(H':Hp) (l:Addr),Same H H'->H l=none->H' l=some (.lst (Jp (CM.placesOf b c fs ss ts)))->Q (.ref l) H'
theorem PF (T:Txt K mg A):FnOk P w K mg base CX0 1 A.KB A.K8 ["sizes","firsts","seconds","thirds"] (Pz K):=by
 refine T.KI.ok Ul (fun H vs Q E h=>?_)
 ·obtain⟨z,f,s,t,a,b,c,fs,ss,ts,rfl,hz,hf,hs,ht,b3,c3,fl,sl,tl,k⟩:=h;refine⟨rfl,fun _ _ _ _ hr=>?_⟩;refine⟨_,(J3 (YL 4 Ul.nd (Jd J1)) (J3 (Y6 PassesOwn.never rfl (JQ (pv 1)) (ZF 5 Ul.nd) (J4 (Y6 PassesOwn.never rfl (JQ (pv 2)) (ZF 6 Ul.nd) (J4 (Y6 PassesOwn.never rfl (JQ (pv 3)) (ZF 7 Ul.nd) (J4 (Yi (UP PySem.F.plainAttrs_list PySem.F.slot_list_append PySem.F.type_list_append Yh (pv 4) (J0 (Jr Ym (Jr Ug (Jr Ym (Jr Ug (pv 5) (Jq Ji (pv 0) J5 (fun _ _=>rfl))) (pv 6)) (Jq Ji (pv 0) J5 (fun _ _=>rfl))) (pv 7)) J1))))))))) (J4 (J7 (pv 4))))),?_⟩;refine⟨Nat.zero_le _,fun lp hlp=>?_⟩;have s1:Same H (upd H lp (.lst [])):=(Same.refl H).new hlp;refine J9 rfl ⟨f,rfl,⟨_,s1.seq hf⟩,?_⟩
  refine Lj (K:=K) (a:=f) (xs:=Jp fs)
   (fun i σ H'=> ∃(v5 v6 v7:Option V) (acc:List Nat),σ=[some (.ref z),some (.ref f),some (.ref s),some (.ref t),some (.ref lp),v5,v6,v7]/\Same H H'/\H' lp=some (.lst (Jp acc))/\acc.length<=9*i/\acc=(fs.take i).flatMap (fun f=>ss.flatMap fun s=>ts.map fun t=>(f*b+s)*c+t)) ?_ ?_ ?_ ?_
  ·exact⟨none,none,none,[],rfl,s1,J2,Nat.le_refl _,rfl⟩
  ·rintro i σ H' _ ⟨v5,v6,v7,acc,_,s2,_⟩;exact s2.seq hf
  ·rintro Ez i y σ H' ez hy ⟨v5,v6,v7,acc,rfl,s2,hL,la,ea⟩;obtain⟨hi,rfl⟩:=YW hy;have gi:fs[i]?=some (fs.getD i 0):=by rw[List.getD_eq_getElem?_getD,List.getElem?_eq_getElem hi];rfl
   generalize fs.getD i 0=x1 at gi;refine J9 rfl ⟨s,rfl,⟨_,s2.seq hs⟩,?_⟩
   refine Lj (K:=K) (a:=s) (xs:=Jp ss)
    (fun j σ H'=> ∃(v6 v7:Option V) (acc2:List Nat),σ=[some (.ref z),some (.ref f),some (.ref s),some (.ref t),some (.ref lp),some (.int x1),v6,v7]/\Same H H'/\H' lp=some (.lst (Jp acc2))/\acc2.length<=9*i+3*j/\acc2=acc++(ss.take j).flatMap (fun s=>ts.map fun t=>(x1*b+s)*c+t)) ?_ ?_ ?_ ?_
   ·exact⟨_,_,acc,rfl,s2,hL,la,by simp⟩
   ·rintro j σ H' _ ⟨v6,v7,acc,_,s2,_⟩;exact s2.seq hs
   ·rintro Ey j y σ H' ey hy ⟨v6,v7,acc2,rfl,s3,hL,la2,ea2⟩;obtain⟨hj,rfl⟩:=YW hy;have gj:ss[j]?=some (ss.getD j 0):=by rw[List.getD_eq_getElem?_getD,List.getElem?_eq_getElem hj];rfl
    generalize ss.getD j 0=x2 at gj;refine J9 rfl ⟨t,rfl,⟨_,s3.seq ht⟩,?_⟩
    refine Lj (K:=K) (a:=t) (xs:=Jp ts)
     (fun m σ H'=> ∃(v7:Option V) (acc3:List Nat),σ=[some (.ref z),some (.ref f),some (.ref s),some (.ref t),some (.ref lp),some (.int x1),some (.int x2),v7]/\Same H H'/\H' lp=some (.lst (Jp acc3))/\acc3.length<=9*i+3*j+m/\acc3=acc2++(ts.take m).map (fun t=>(x1*b+x2)*c+t)) ?_ ?_ ?_ ?_
    ·exact⟨_,acc2,rfl,s3,hL,la2,by simp⟩
    ·rintro j σ H' _ ⟨v7,acc,_,s2,_⟩;exact s2.seq ht
    ·rintro Ex m y σ H' ex hy ⟨v7,acc3,rfl,s4,hL,la3,ea3⟩;obtain⟨hm,rfl⟩:=YW hy;have gm:ts[m]?=some (ts.getD m 0):=by rw[List.getD_eq_getElem?_getD,List.getElem?_eq_getElem hm];rfl
     generalize ts.getD m 0=x3 at gm;refine J9 rfl ⟨.inl ⟨rfl,_,SqL.of hL⟩,JM rfl rfl (YJ rfl rfl (s4.seq hz) (J0W ..) (Y9 rfl rfl ⟨.inr ⟨by omega,by omega⟩,J9 rfl (Y9 rfl rfl (J9 rfl (YJ rfl rfl (s4.seq hz) (J0t ..) (Y9 rfl rfl ⟨.inr ⟨by omega,by omega⟩,J9 rfl (Y9 rfl rfl (Vj rfl rfl hL ?_ ?_))⟩))))⟩))⟩
     ·rw[Jh];exact Z8 (by omega)
     ·refine ex _ _ ⟨_,acc3++[(x1*b+x2)*c+x3],rfl,s4.put hlp,?_,by rw[List.length_append];show _+1<=_;omega,?_⟩
      ·rw[J2,<-Ax]
       congr 4
      ·rw[ea3,Ys gm,List.map_append,List.append_assoc];rfl
    ·rintro σ H' ⟨v7,acc3,rfl,s4,hL,la3,ea3⟩;rw[Jh] at la3 ea3;refine ey _ _ ⟨_,_,acc3,rfl,s4,hL,by omega,?_⟩;rw[ea3,ea2,Ys gj,List.flatMap_append,List.append_assoc,List.take_length];simp
   ·rintro σ H' ⟨v6,v7,acc2,rfl,s3,hL,la2,ea2⟩;rw[Jh] at la2 ea2;refine ez _ _ ⟨_,_,_,acc2,rfl,s3,hL,by omega,?_⟩;rw[ea2,ea,Ys gi,List.flatMap_append,List.take_length];simp
  ·rintro σ H' ⟨v5,v6,v7,acc,rfl,s2,hL,la,ea⟩;rw[Jh,List.take_length] at ea;refine J9 rfl (k H' lp s2 hlp ?_);rw[hL,ea];rfl
def BndAt (A:Adr) (B:Nat) (cells:List Nat) (H:Hp) (c:Addr) (s:List Nat):Prop:= ∃dx pl,H c=some (.ins A.ZD dx [("places", .ref pl),("least", .int (CM.lo B (CM.sumAt cells s))),("greatest", .int (CM.hi B (CM.sumAt cells s)))])/\H pl=some (.lst (Jp s))
theorem BndAt.same {B:Nat} {cells:List Nat} {H H':Hp} {c:Addr} {s:List Nat} (q:Same H H') (h:BndAt A B cells H c s):BndAt A B cells H' c s:=by
 obtain⟨dx,pl,h1,h2⟩:=h;exact⟨dx,pl,q _ _ h1,q _ _ h2⟩
theorem Rz (l:List Nat):(l.map (fun i:Nat=>(i:Int))).sum=(Vbcsaf.sum l:Nat):=by
 have go: ∀(l:List Nat) (n:Nat),((l.foldl (fun a b=>a+b) n:Nat):Int)=(n:Int)+(l.map (fun i:Nat=>(i:Int))).sum:=by
  intro l
  induction l with
  |nil=>intro n;simp
  |cons a l ih=>intro n;rw[List.foldl_cons,ih,List.map_cons,List.sum_cons];omega
 have:=go l 0;unfold Vbcsaf.sum;omega
theorem Mj {n:Nat} {s:List Nat} (h:s∈CM.spans n) (hn:n<=3):s.length<=3:=by
 unfold CM.spans at h;rcases List.mem_append.mp h with q|q
 ·rw[List.mem_singleton.mp q,List.length_range];exact hn
 ·obtain⟨i,_,rfl⟩:=List.mem_map.mp q;exact(by decide:1<=3)
theorem Uz (n:Nat):(CM.spans n).length=n+1:=by unfold CM.spans;simp
theorem FJ (n:Nat):(CM.spans n).take (n+1)=CM.spans n:=List.take_of_length_le (by rw[Uz];exact Nat.le_refl _)
structure BoxOk (B a b c:Nat) (cells:List Nat):Prop where
 b1:1<=B
 b2:B<=100
 ha:1<=a/\a<=3
 hb:1<=b/\b<=3
 hc:1<=c/\c<=3
 len:cells.length=a*b*c
 le:cells.length<=12
 cb: ∀v∈cells,v<=1000000
def BndL (A:Adr) (B:Nat) (cells:List Nat) (lb:Addr) (H:Hp) (c:Addr) (s:List Nat):Prop:= ∃dx pl,pl≠lb/\H c=some (.ins A.ZD dx [("places", .ref pl),("least", .int (CM.lo B (CM.sumAt cells s))),("greatest", .int (CM.hi B (CM.sumAt cells s)))])/\H pl=some (.lst (Jp s))
def Po (A:Adr) (K:PySem.W.Frag):Sp:=fun vs H Q _=> ∃(z x:Addr) (B a b c:Nat) (cells:List Nat),vs=[.int B, .ref z, .ref x]/\SqL K H z (Jp [a,b,c])/\SqL K H x (Jp cells)/\BoxOk B a b c cells/\
 ∀(H':Hp) (l:Addr) (cs:List Addr),Same H H'->H l=none->H' l=some (.lst (cs.map V.ref))->EachAt (BndAt A B cells) H' cs (CM.allPl a b c)->Q (.ref l) H'
theorem Gk (T:Txt K mg A):FnOk P w K mg base CX0 3 A.Kq A.Ku ["base","sizes","cells"] (Po A K):=by
 refine T.Do.ok Yl (fun H vs Q E h=>?_)
 ·obtain⟨z,x,B,a,b,c,cells,rfl,hz,hx,O,k⟩:=h;refine⟨rfl,fun _ _ _ _ hr=>?_⟩;have F:=CM.fine O.ha O.hb O.hc;have ha:=O.ha;have hb:=O.hb;have hc:=O.hc;have hb1:=O.b1;have hb2:=O.b2;refine⟨QS K A _ _ _ _,(J3 (YL 3 Yl.nd (Jd J1)) (J3 (Y6 PassesOwn.never rfl (JQ (pk (E7 T) hr T.Cn (J0 (Jq Ji (pv 1) J5 (fun _ _=>rfl)) J1))) (ZF 4 Yl.nd) (J4 (Y6 PassesOwn.never rfl (JQ (pk (E7 T) hr T.Cn (J0 (Jq Ji (pv 1) J5 (fun _ _=>rfl)) J1))) (ZF 5 Yl.nd) (J4 (Y6 PassesOwn.never rfl (JQ (pk (E7 T) hr T.Cn (J0 (Jq Ji (pv 1) J5 (fun _ _=>rfl)) J1))) (ZF 6 Yl.nd) (J3 (YL 7 Yl.nd (pk (PF T) hr T.KI (J0 (pv 1) (J0 (pv 4) (J0 (pv 5) (J0 (pv 6) J1)))))) (J3 (YL 8 Yl.nd (pk (UR T) hr T.Uk (J0 (Jc (FV rfl) (by rfl) T.Mw Fw (J0 (Us rfl Yl.nd (JQ (pv 7)) (bo [("place",9)]) (fun _ _ _ _ _=>(ZF 9 Yl.nd)) (fun _ _ _ _ _=>Yw) (fun _ _ _ _ _=>(Jq Ji (pv 2) (pv 9) (fun _ _=>rfl)))) J1)) (J0 (pv 0) J1)))) (J4 (Yi (UP PySem.F.plainAttrs_list PySem.F.slot_list_append PySem.F.type_list_append Yh (pv 3) (J0 (pm (Nz T) hr T.Zy (J0 (pv 7) (J0 (Jq Ui (pv 8) J5 (fun _ _=>rfl)) (J0 (Jq Ui (pv 8) J5 (fun _ _=>rfl)) J1)))) J1))))))))))) (J4 (J7 (pv 3))))),?_⟩;refine⟨Nat.zero_le _,fun lb hlb=>?_⟩;have s0:Same H (upd H lb (.lst [])):=(Same.refl H).new hlb;have cb:upd H lb (.lst []) lb=some (.lst (([]:List Addr).map V.ref)):=J2;generalize upd H lb (.lst [])=H0 at s0 cb;refine J9 rfl (YJ rfl rfl (s0.seq hz) (J1e ..) ⟨a,rfl,ha.2,fun H1 la ra s1 fa ca Ra=>⟨la,rfl,⟨_,SqL.of ca⟩,?_⟩⟩);have n1:la≠lb:=fun q=>by rw[q,cb] at fa;cases fa
  refine Lj (K:=K) (a:=la) (xs:=ra.map V.ref)
   (fun i σ H'=> ∃(v4 v5 v6 v7 v8:Option V) (cs:List Addr) (acc:List (List Nat)),σ=[some (.int B),some (.ref z),some (.ref x),some (.ref lb),v4,v5,v6,v7,v8,none]/\Fr1 lb H1 H'/\H' lb=some (.lst (cs.map V.ref))/\EachAt (BndL A B cells lb) H' cs acc/\
     acc.length<=16*i/\acc=((CM.spans a).take i).flatMap (fun fs=>(CM.spans b).flatMap fun ss=>(CM.spans c).map fun ts=>CM.placesOf b c fs ss ts)) ?_ ?_ ?_ ?_
  ·exact⟨none,none,none,none,none,[],[],rfl,Fr1.refl,s1 _ _ cb, .nil,Nat.le_refl _,rfl⟩
  ·rintro i σ H' _ ⟨v4,v5,v6,v7,v8,cs,acc,_,f,_⟩;exact SqL.of (f _ _ ca n1)
  ·rintro Ez i y σ H' ez hy ⟨v4,v5,v6,v7,v8,cs,acc,rfl,f,hL,R,la1,ea⟩;obtain⟨c1,g1,rfl⟩:=Y3 hy;obtain⟨fs,gi,nf1,hfs⟩:=Ra.at_ i c1 g1;have i3:i<a+1:=by rw[<-Uz a];exact JL gi
   have nfb:c1≠lb:=fun q=>by rw[q,cb] at nf1;cases nf1
   have flen:=Mj (List.mem_of_getElem? gi) ha.2;have sA:Same H H':=f.same (s0.trans s1) hlb;refine J9 rfl (YJ rfl rfl (sA.seq hz) (J0W ..) ⟨b,rfl,hb.2,fun H2 l2 r2 s2 f2 c2 R2=>⟨l2,rfl,⟨_,SqL.of c2⟩,?_⟩⟩);have n2:l2≠lb:=fun q=>by rw[q,hL] at f2;cases f2
   have hLo:=hL;have hfs2:H2 c1=some (.lst (Jp fs)):=s2 _ _ (f _ _ hfs nfb)
   refine Lj (K:=K) (a:=l2) (xs:=r2.map V.ref)
    (fun j σ H'=> ∃(v5 v6 v7 v8:Option V) (cs:List Addr) (acc2:List (List Nat)),σ=[some (.int B),some (.ref z),some (.ref x),some (.ref lb),some (.ref c1),v5,v6,v7,v8,none]/\Fr1 lb H2 H'/\H' lb=some (.lst (cs.map V.ref))/\EachAt (BndL A B cells lb) H' cs acc2/\
      acc2.length<=16*i+4*j/\acc2=acc++((CM.spans b).take j).flatMap (fun ss=>(CM.spans c).map fun ts=>CM.placesOf b c fs ss ts)) ?_ ?_ ?_ ?_
   ·exact⟨_,_,_,_,cs,acc,rfl,Fr1.refl,s2 _ _ hL,R.up (fun c e ⟨dx,pl,q1,q2,q3⟩=>⟨dx,pl,q1,s2 _ _ q2,s2 _ _ q3⟩),la1,by simp⟩
   ·rintro j σ H' _ ⟨v5,v6,v7,v8,cs,acc,_,f,_⟩;exact SqL.of (f _ _ c2 n2)
   ·rintro Ey j y σ H' ey hy ⟨v5,v6,v7,v8,cs,acc2,rfl,f',hL,R,la2,ea2⟩;obtain⟨c3,g2,rfl⟩:=Y3 hy;obtain⟨ss,gj,nf2,hss⟩:=R2.at_ j c3 g2;have j3:j<b+1:=by rw[<-Uz b];exact JL gj
    have nsb:c3≠lb:=fun q=>by rw[q,hLo] at nf2;cases nf2
    have slen:=Mj (List.mem_of_getElem? gj) hb.2;have sB:Same H H':=f'.same (sA.trans s2) hlb;refine J9 rfl (YJ rfl rfl (sB.seq hz) (J0t ..) ⟨c,rfl,hc.2,fun H3 l3 r3 s3 f3 c4 R3=>⟨l3,rfl,⟨_,SqL.of c4⟩,?_⟩⟩);have n3:l3≠lb:=fun q=>by rw[q,hL] at f3;cases f3
    have hfs3:H3 c1=some (.lst (Jp fs)):=s3 _ _ (f' _ _ hfs2 nfb);have hss3:H3 c3=some (.lst (Jp ss)):=s3 _ _ (f' _ _ hss nsb)
    refine Lj (K:=K) (a:=l3) (xs:=r3.map V.ref)
     (fun m σ H'=> ∃(v6 v7 v8:Option V) (cs:List Addr) (acc3:List (List Nat)),σ=[some (.int B),some (.ref z),some (.ref x),some (.ref lb),some (.ref c1),some (.ref c3),v6,v7,v8,none]/\Fr1 lb H3 H'/\H' lb=some (.lst (cs.map V.ref))/\EachAt (BndL A B cells lb) H' cs acc3/\
       acc3.length<=16*i+4*j+m/\acc3=acc2++((CM.spans c).take m).map (fun ts=>CM.placesOf b c fs ss ts)) ?_ ?_ ?_ ?_
    ·exact⟨_,_,_,cs,acc2,rfl,Fr1.refl,s3 _ _ hL,R.up (fun c e ⟨dx,pl,q1,q2,q3⟩=>⟨dx,pl,q1,s3 _ _ q2,s3 _ _ q3⟩),la2,by simp⟩
    ·rintro j σ H' _ ⟨v6,v7,v8,cs,acc,_,f,_⟩;exact SqL.of (f _ _ c4 n3)
    ·rintro Ex m y σ H' ex hy ⟨v6,v7,v8,cs,acc3,rfl,f3',hL3,R,la3,ea3⟩;obtain⟨c5,g3,rfl⟩:=Y3 hy;obtain⟨ts,gm,nf3,hts⟩:=R3.at_ m c5 g3;have m3:m<c+1:=by rw[<-Uz c];exact JL gm
     have ntb:c5≠lb:=fun q=>by rw[q] at nf3;rw[nf3] at hL;cases hL
     have tlen:=Mj (List.mem_of_getElem? gm) hc.2;have sC:Same H H':=f3'.same (sB.trans s3) hlb;have mem:CM.placesOf b c fs ss ts∈CM.allPl a b c:=List.mem_flatMap.mpr ⟨fs,List.mem_of_getElem? gi,List.mem_flatMap.mpr ⟨ss,List.mem_of_getElem? gj,List.mem_map.mpr ⟨ts,List.mem_of_getElem? gm,rfl⟩⟩⟩;have hlast:=F.last _ mem;have hshort:=F.sh _ mem;refine JM rfl rfl (JM rfl rfl ⟨z,c1,c3,c5,a,b,c,fs,ss,ts,rfl,sC.seq hz,SqL.of (f3' _ _ hfs3 nfb),SqL.of (f3' _ _ hss3 nsb),SqL.of (f3' _ _ hts ntb),hb.2,hc.2,flen,slen,tlen,fun H4 pl s4 f4 c6=>?_⟩);generalize hpl:CM.placesOf b c fs ss ts=pls at mem hlast hshort c6;have plb:pl≠lb:=fun q=>by rw[q,hL3] at f4;cases f4
     have sD:=sC.trans s4
     refine⟨_,rfl,pl,rfl,⟨_,SqL.of c6⟩,fun D hD=>Zt (K:=K) (a:=pl) (xs:=Jp pls)
      (fun i H'=>Same H4 H'/\H' D=some (.lst (Jp ((pls.take i).map fun p=>cells.getD p 0)))) ?_ ?_ ?_ ?_⟩
     ·exact⟨(Same.refl H4).new hD,J2⟩
     ·rintro i H' _ ⟨s5,_⟩;exact SqL.of (s5 _ _ c6)
     ·rintro i y H' hy ⟨s5,hD'⟩;obtain⟨hi,rfl⟩:=YW hy;have gi:pls[i]?=some (pls.getD i 0):=by rw[List.getD_eq_getElem?_getD,List.getElem?_eq_getElem hi];rfl
      generalize pls.getD i 0=p1 at gi;have hp1:=(hlast p1 (List.mem_of_getElem? gi)).2;refine⟨rfl,?_⟩;refine JM rfl rfl (YJ rfl rfl ((sD.trans s5).seq hx) (UM (by rw[O.len];exact hp1)) ⟨_,hD',?_,s5.put hD,?_⟩)
      ·rw[Jh,List.length_map,List.length_take];exact Z8 (by omega)
      ·rw[J2,Ax,Ys gi,List.map_append];rfl
     ·rintro H5 ⟨s5,hD'⟩;rw[Jh,List.take_length] at hD';refine⟨D,(pls.map fun p=>cells.getD p 0).map (fun i:Nat=>(i:Int)),rfl,SqL.of hD',?_⟩;rw[Rz];refine J9 rfl ⟨CM.sumAt cells pls,B,rfl,hb1,hb2,fun u hu=>?_⟩;have s6:Same H5 (upd H5 u (.tup [.int (CM.lo B (CM.sumAt cells pls)), .int (CM.hi B (CM.sumAt cells pls))])):=(Same.refl H5).new hu;have hU:SqT K (upd H5 u (.tup [.int (CM.lo B (CM.sumAt cells pls)), .int (CM.hi B (CM.sumAt cells pls))])) u _:=SqT.of J2;show Yr _ _ _ _ (upd H5 u (.tup [.int (CM.lo B (CM.sumAt cells pls)), .int (CM.hi B (CM.sumAt cells pls))]));generalize upd H5 u (.tup [.int (CM.lo B (CM.sumAt cells pls)), .int (CM.hi B (CM.sumAt cells pls))])=H6 at s6 hU;have sE:=s4.trans (s5.trans s6);have hL6:=sE _ _ hL3;refine J9 rfl ⟨.inl ⟨rfl,_,SqL.of hL6⟩,JM rfl rfl (YJ rfl rfl hU rfl (J9 rfl (YJ rfl rfl hU rfl (fun o d ho hd ne=>?_))))⟩;refine⟨o,d,_,_,_,rfl,J2,rfl,?_⟩;rw[Jz];have s7:Same H6 (upd (upd H6 d (.own o)) o (.ins A.ZD d [("places", .ref pl),("least", .int (CM.lo B (CM.sumAt cells pls))),("greatest", .int (CM.hi B (CM.sumAt cells pls)))])):=((Same.refl H6).new hd).new (by rw[Ja ne.symm];exact ho);have co:upd (upd H6 d (.own o)) o (.ins A.ZD d [("places", .ref pl),("least", .int (CM.lo B (CM.sumAt cells pls))),("greatest", .int (CM.hi B (CM.sumAt cells pls)))]) o=_:=J2;generalize upd (upd H6 d (.own o)) o (.ins A.ZD d [("places", .ref pl),("least", .int (CM.lo B (CM.sumAt cells pls))),("greatest", .int (CM.hi B (CM.sumAt cells pls)))])=H7 at s7 co;have hL7:=s7 _ _ hL6;refine Vj rfl rfl hL7 (by rw[List.length_map,R.len];exact Z8 (by omega)) ?_;have sF:=sE.trans s7;refine ex _ _ ⟨_,_,_,cs++[o],acc3++[pls],rfl,(f3'.up sF).put,by rw[J2,A9],EachAt.snoc (R.up fun c e ⟨dx,q,q1,q2,q3⟩=>⟨dx,q,q1,?_,?_⟩) ⟨d,pl,plb,?_,?_⟩,by rw[List.length_append];show _+1<=_;omega,?_⟩
      ·have:=sF _ _ q2;rw[Ja (JY this hL7 (by intro z;cases z))];exact this
      ·rw[Ja q1];exact sF _ _ q3
      ·rw[Ja (JY co hL7 (by intro z;cases z))];exact co
      ·rw[Ja plb];exact s7 _ _ (s6 _ _ (s5 _ _ c6))
      ·rw[ea3,Ys gm,List.map_append,List.append_assoc,<-hpl];rfl
    ·rintro σ H' ⟨v6,v7,v8,cs,acc3,rfl,f3',hL3,R,la3,ea3⟩;have hr3:r3.length=c+1:=by rw[R3.len,Uz]
     rw[List.length_map,hr3] at la3 ea3;rw[FJ] at ea3;refine ey _ _ ⟨_,_,_,_,cs,acc3,rfl,(f'.up s3).trans f3',hL3,R,by omega,?_⟩;rw[ea3,ea2,Ys gj,List.flatMap_append,List.append_assoc];simp
   ·rintro σ H' ⟨v5,v6,v7,v8,cs,acc2,rfl,f',hL,R,la2,ea2⟩;have hr2:r2.length=b+1:=by rw[R2.len,Uz]
    rw[List.length_map,hr2] at la2 ea2;rw[FJ] at ea2;refine ez _ _ ⟨_,_,_,_,_,cs,acc2,rfl,(f.up s2).trans f',hL,R,by omega,?_⟩;rw[ea2,ea,Ys gi,List.flatMap_append];simp
  ·rintro σ H' ⟨v4,v5,v6,v7,v8,cs,acc,rfl,f,hL,R,la1,ea⟩;have hra:ra.length=a+1:=by rw[Ra.len,Uz]
   rw[List.length_map,hra,FJ] at ea;refine J9 rfl (k H' lb cs (f.same (s0.trans s1) hlb) hlb hL ?_);have e2:acc=CM.allPl a b c:=ea;rw[<-e2];exact R.up fun c e ⟨dx,pl,_,q2,q3⟩=>⟨dx,pl,q2,q3⟩
def Ln (A:Adr) (K:PySem.W.Frag):Sp:=fun vs H Q _=> ∃(r l:Addr) (row:List Nat) (cs:List Addr) (B:Nat) (cells:List Nat) (ss:List (List Nat)),vs=[.ref r, .ref l]/\SqL K H r (Jp row)/\SqL K H l (cs.map V.ref)/\EachAt (BndAt A B cells) H cs ss/\1<=B/\
 (∀s∈ss,s.length<=27/\ ∀p∈s,p<row.length)/\ ∀(H':Hp),Same H H'->Q (.bl (ss.all (CM.okAt B cells row))) H'
theorem CL (T:Txt K mg A):FnOk P w K mg base CX0 1 A.Dl A.Dy ["row","bounds"] (Ln A K):=by
 refine T.Aw.ok Z6 (fun H vs Q E h=>?_)
 ·obtain⟨r,l,row,cs,B,cells,ss,rfl,hrow,hl,R,b1,hin,k⟩:=h;refine⟨rfl,fun _ _ _ _ hr=>?_⟩;refine⟨MB K A,(J3 (Y6 PassesOwn.never rfl (JQ (pv 1)) (ZF 2 Z6.nd) (J3 (YL 3 Z6.nd (Jc (FV rfl) (by rfl) T.Mw Fw (J0 (Us rfl Z6.nd (JQ (J6 (pv 2) rfl)) (bo [("place",4)]) (fun _ _ _ _ _=>(ZF 4 Z6.nd)) (fun _ _ _ _ _=>Yw) (fun _ _ _ _ _=>(Jq Ji (pv 0) (pv 4) (fun _ _=>rfl)))) J1))) (J4 (Jm (PW.pt (Pb (Jk DN (pv 3) (J6 (pv 2) rfl) (Jn _)) (IN (Jk Km (pv 3) (J6 (pv 2) rfl) (Jn _))))) (J4 (J7 Aj)) Jb)))) (J4 (J7 Aj))),?_⟩;refine J9 rfl ⟨l,rfl,⟨_,hl⟩,?_⟩
  refine J0D (K:=K) (a:=l) (xs:=cs.map V.ref)
   (fun i σ H'=> ∃(v2 v3:Option V),σ=[some (.ref r),some (.ref l),v2,v3,none]/\Same H H'/\(ss.take i).all (CM.okAt B cells row)=true) ?_ ?_ ?_ ?_
  ·exact⟨none,none,rfl,Same.refl H,rfl⟩
  ·rintro i σ H' _ ⟨v2,v3,_,s2,_⟩;exact s2.seq hl
  ·rintro Ez i y σ H' ez rz hy ⟨v2,v3,rfl,s2,I⟩;obtain⟨c,ec,rfl⟩:=Y3 hy;obtain⟨s,gs,dx,pl,h1,h2⟩:=R.at_ i c ec;obtain⟨hs27,hsr⟩:=hin s (List.mem_of_getElem? gs)
   refine⟨_,rfl,_,_,_,_,_,rfl,s2 _ _ h1,T.Ao,T.Ak,rfl,pl,rfl,⟨_,SqL.of (s2 _ _ h2)⟩,fun D hD=>Zt (K:=K) (a:=pl) (xs:=Jp s)
    (fun i H2=>Same H' H2/\H2 D=some (.lst (Jp ((s.take i).map fun p=>row.getD p 0)))) ?_ ?_ ?_ ?_⟩
   ·exact⟨(Same.refl H').new hD,J2⟩
   ·rintro i H2 _ ⟨s5,_⟩;exact SqL.of (s5 _ _ (s2 _ _ h2))
   ·rintro i y H2 hy ⟨s5,hD'⟩;obtain⟨hi,rfl⟩:=YW hy;have gi:s[i]?=some (s.getD i 0):=by rw[List.getD_eq_getElem?_getD,List.getElem?_eq_getElem hi];rfl
    generalize s.getD i 0=p1 at gi;have hp1:=hsr p1 (List.mem_of_getElem? gi);refine⟨rfl,?_⟩;refine JM rfl rfl (YJ rfl rfl ((s2.trans s5).seq hrow) (UM hp1) ⟨_,hD',?_,s5.put hD,?_⟩)
    ·rw[Jh,List.length_map,List.length_take];exact Z8 (by omega)
    ·rw[J2,Ax,Ys gi,List.map_append];rfl
   ·rintro H3 ⟨s5,hD'⟩;rw[Jh,List.take_length] at hD';refine⟨D,(s.map fun p=>row.getD p 0).map (fun i:Nat=>(i:Int)),rfl,SqL.of hD',?_⟩;rw[Rz];have sA:=s2.trans s5;have near:=CM.near_iff (b:=B) (v:=CM.sumAt cells s) (x:=CM.sumAt row s) b1
    have bad:CM.okAt B cells row s=false-> ∀H',Same H H'->Q (.bl false) H':=fun h H' s'=>by
     have e:ss.all (CM.okAt B cells row)=false:=by
      rw[List.all_eq_false];exact⟨s,List.mem_of_getElem? gs,by rw[h];decide⟩
     have:=k H' s';rw[e] at this;exact this
    refine J9 rfl (JB rfl (s5 _ _ (s2 _ _ h1)) T.Ao T.EU rfl (Y9 rfl rfl (J9 rfl (Ig (fun h=>JV ?_) (fun h=>?_)))))
    ·refine rz _ _ (bad ?_ _ sA);cases q:CM.okAt B cells row s with
     |false=>rfl
     |true=>exact absurd h (near.mp q).1
    ·refine J9 rfl (JB rfl (s5 _ _ (s2 _ _ h1)) T.Ao T.BR rfl (Y9 rfl rfl (J9 rfl (Ig (fun h'=>?_) (fun h'=>?_)))))
     ·refine rz _ _ (bad ?_ _ sA);cases q:CM.okAt B cells row s with
      |false=>rfl
      |true=>exact absurd h' (near.mp q).2
     ·refine ez _ _ ⟨_,_,rfl,sA,?_⟩;rw[Ys gs,List.all_append,I,Bool.true_and];show(CM.okAt B cells row s&&true)=true;rw[Bool.and_true];exact near.mpr ⟨h,h'⟩
  ·rintro σ H' ⟨v2,v3,rfl,s2,I⟩;rw[List.length_map,R.len,List.take_length] at I;have:=k H' s2;rw[I] at this;exact this
def G8 (K:PySem.W.Frag):Sp:=fun vs H Q _=> ∃(z x r:Addr) (B a b c:Nat) (cells row:List Nat),vs=[.int B, .ref z, .ref x, .ref r]/\SqL K H z (Jp [a,b,c])/\SqL K H x (Jp cells)/\SqL K H r (Jp row)/\BoxOk B a b c cells/\
 ∀(H':Hp),Same H H'->Q (.bl (Vbcsaf.roundsCube ⟨B,a,b,c,cells⟩ row)) H'
theorem G3 (T:Txt K mg A):FnOk P w K mg base CX0 4 A.AU A.AW ["base","sizes","cells","row"] (G8 K):=by
 refine T.B6.ok G1 (fun H vs Q E h=>?_)
 ·obtain⟨z,x,r,B,a,b,c,cells,row,rfl,hz,hx,hrow,O,k⟩:=h;refine⟨rfl,fun _ _ _ _ hr=>?_⟩;have F:=CM.fine O.ha O.hb O.hc;refine⟨_,(J4 (J7 (Ae (Ze ZG (Jc Ju (by rfl) T.JG Js (J0 (pv 3) J1)) (Jc Ju (by rfl) T.JG Js (J0 (pv 2) J1)) (Jn _)) (Bl (pk (CL T) hr T.Aw (J0 (pv 3) (J0 (pk (Gk T) hr T.Do (J0 (pv 0) (J0 (pv 1) (J0 (pv 2) J1)))) J1))))))),?_⟩;rw[CM.rounds_iff (k:=⟨B,a,b,c,cells⟩) F O.len] at k;refine J9 rfl (JX rfl (.inl hrow) (J9 rfl (JX rfl (.inl hx) ⟨rfl,J9 rfl ?_⟩)));rw[Jh,Jh];refine Vu (fun h=>?_) (fun h=>?_)
  ·have h':row.length=cells.length:=by omega
   rw[decide_eq_true (show row.length=cells.length from h'),Bool.true_and] at k;refine JM rfl rfl (JM rfl rfl ⟨z,x,B,a,b,c,cells,rfl,hz,hx,O,fun H1 l cs s1 f1 c1 R=>?_⟩);exact⟨r,l,row,cs,B,JX rfl (s1.seq hrow) ⟨SqL.of c1,R,O.b1,fun s hs=>⟨F.sh s hs,fun p hp=>by rw[h',O.len];exact(F.last s hs p hp).2⟩,fun H2 s2=>k H2 (s1.trans s2)⟩⟩
  ·rw[decide_eq_false (show¬row.length=cells.length from fun q=>h (by rw[q])),Bool.false_and] at k;exact k H (Same.refl H)
theorem Xo {s:List Nat} (h:s≠[]):Nu (Jp s) (-1)=some (.int (s.getLastD 0:Nat)):=by
 have e:s=s.dropLast++[s.getLastD 0]:=by
  conv=>lhs;rw[<-List.dropLast_concat_getLast h]
  rw[List.getLastD_eq_getLast?,List.getLast?_eq_some_getLast h];rfl
 conv=>lhs;rw[e,<-Ax]
 exact RJ _ _
def IF (K:PySem.W.Frag):Sp:=fun vs H Q _=> ∃(z x:Addr) (B a b c:Nat) (cells:List Nat),vs=[.int B, .ref z, .ref x]/\SqL K H z (Jp [a,b,c])/\SqL K H x (Jp cells)/\BoxOk B a b c cells/\
 ∀(H':Hp) (l:Addr) (rs:List Addr),Same H H'->H' l=some (.lst (rs.map V.ref))->EachAt LAt H' rs (Vbcsaf.cubeWays ⟨B,a,b,c,cells⟩)->(Vbcsaf.cubeWays ⟨B,a,b,c,cells⟩).length<=4096->Q (.ref l) H'
theorem XD {n:Nat} (h:n<=12):2^n<=4096:=Nat.pow_le_pow_right (n:=2) (by decide) h
theorem Io (T:Txt K mg A):FnOk P w K mg base CX0 4 A.CH A.CW ["base","sizes","cells"] (IF K):=by
 refine T.CC.ok Jw (fun H vs Q E h=>?_)
 ·obtain⟨z,x,B,a,b,c,cells,rfl,hz,hx,O,k⟩:=h;refine⟨rfl,fun _ _ _ _ hr=>?_⟩;have F:=CM.fine O.ha O.hb O.hc;have hb1:=O.b1;have hb2:=O.b2;have hle:=O.le;refine⟨Ld K A _ _ _,(J3 (YL 3 Jw.nd (pk (Gk T) hr T.Do (J0 (pv 0) (J0 (pv 1) (J0 (pv 2) J1))))) (J3 (YL 4 Jw.nd (Jd (J0 (Jd J1) J1))) (J3 (Y6 PassesOwn.never rfl (Ew (by rfl) T.U0 (J0 (pv 2) J1)) (Uc rfl (JE (ZF 5 Jw.nd) (JE (ZF 6 Jw.nd) Zh))) (J3 (YL 7 Jw.nd (Us rfl Jw.nd (JQ (pv 3)) (bo [("bound",11)]) (fun _ _ _ _ _=>(ZF 11 Jw.nd)) (fun _ _ _ _ _=>(Hn (Jk ZG (Jq Ji (J6 (pv 11) rfl) (GV Cs J5) (fun _ _=>rfl)) (pv 5) (Jn _)))) (fun _ _ _ _ _=>(pv 11)))) (J3 (YL 8 Jw.nd (pk (UR T) hr T.Uk (J0 (pv 6) (J0 (pv 0) J1)))) (J3 (YL 9 Jw.nd (Jd J1)) (J3 (Y6 PassesOwn.never rfl (JQ (pv 4)) (ZF 10 Jw.nd) (J4 (Yi (UP PySem.F.plainAttrs_list PySem.F.slot_list_extend PySem.F.type_list_extend Iv (pv 9) (J0 (Us rfl Jw.nd (Eu (by rfl) T.Zz (J0 (Jq Ui (pv 8) J5 (fun _ _=>rfl)) (J0 (Jr Ym (Jq Ui (pv 8) J5 (fun _ _=>rfl)) J5) J1))) (bo [("unit",12)]) (fun _ _ _ _ _=>(ZF 12 Jw.nd)) (fun _ _ _ _ _=>Yw) (fun _ _ _ _ _=>(Jr Zc (pv 10) (Jd (J0 (pv 12) J1))))) J1))))) (J4 (DX (i:=4) rfl Jw.nd rfl rfl (HJ rfl rfl rfl (by decide+kernel)) (JQ (pv 9)) (bo [("row",10)]) (fun _ _ _ _ _=>(ZF 10 Jw.nd)) (fun _ _ _ _ _=>(Hn (JT (pk (CL T) hr T.Aw (J0 (pv 10) (J0 (pv 7) J1)))))) (fun _ _ _ _ _=>(pv 10))))))))) (J4 (J7 (pv 4)))))),?_⟩;refine J9 rfl (JM rfl rfl ⟨z,x,B,a,b,c,cells,rfl,hz,hx,O,fun H1 lb cs s1 f1 c1 Rb=>?_⟩);refine⟨zl0,fun e0 fe0=>⟨LE,fun lr flr=>?_⟩⟩;have s2:Same H1 (upd H1 e0 (.lst [])):=(Same.refl H1).new fe0;have s3:Same H1 (upd (upd H1 e0 (.lst [])) lr (.lst [V.ref e0])):=s2.new flr;have ce0:LAt (upd (upd H1 e0 (.lst [])) lr (.lst [V.ref e0])) e0 []:=Y2 J2 flr;have clr:upd (upd H1 e0 (.lst [])) lr (.lst [V.ref e0]) lr=some (.lst ([e0].map V.ref)):=J2;generalize upd (upd H1 e0 (.lst [])) lr (.lst [V.ref e0])=H2 at s3 ce0 clr;have sA:=s1.trans s3;refine J9 rfl (JX rfl (sA.seq hx) ?_)
  refine J1k (K:=K) (a:=x) (xs:=Jp cells)
   (fun n σ H'=> ∃(lr:Addr) (rs:List Addr) (v5 v6 v7 v8 v9 v10:Option V),σ=[some (.int B),some (.ref z),some (.ref x),some (.ref lb),some (.ref lr),v5,v6,v7,v8,v9,v10,none,none]/\Same H1 H'/\H' lr=some (.lst (rs.map V.ref))/\EachAt LAt H' rs (CM.rowsAt ⟨B,a,b,c,cells⟩ n)) ?_ ?_ ?_ ?_
  ·refine⟨lr,[e0],none,none,none,none,none,none,rfl,s3,clr,?_⟩;rw[CM.rows_zero];exact .one ce0
  ·rintro i σ H' ⟨lr,rs,v5,v6,v7,v8,v9,v10,_,s4,_⟩;exact(s1.trans s4).seq hx
  ·rintro Ez n y σ H' Tp ez hy hT ⟨lr,rs,v5,v6,v7,v8,v9,v10,rfl,s4,hlr,R⟩;obtain⟨hn,rfl⟩:=YW hy;have gn:cells[n]?=some (cells.getD n 0):=by rw[List.getD_eq_getElem?_getD,List.getElem?_eq_getElem hn];rfl
   generalize cells.getD n 0=v at gn;have many:=Nat.le_trans (CM.rows_many ⟨B,a,b,c,cells⟩ n) (XD (by omega));refine⟨Tp,J9 rfl ⟨SqT.of J2,rfl,_,_,rfl,Y9 rfl rfl ?_⟩⟩;have s5:Same H' (upd H' Tp (.tup [.int (n:Nat), .int (v:Nat)])):=(Same.refl H').new hT;have hlr5:=s5 _ _ hlr;have R5:EachAt LAt (upd H' Tp (.tup [.int (n:Nat), .int (v:Nat)])) rs _:=R.up fun c l q=>s5 _ _ q;have sB:=s4.trans s5;generalize upd H' Tp (.tup [.int (n:Nat), .int (v:Nat)])=H5 at s5 hlr5 R5 sB
   refine⟨_,rfl,lb,rfl,⟨_,SqL.of (sB _ _ c1)⟩,fun D hD=>Zt (K:=K) (a:=lb) (xs:=cs.map V.ref)
    (fun i H'=>Same H5 H'/\ ∃ws:List Addr,H' D=some (.lst (ws.map V.ref))/\EachAt (BndAt A B cells) H1 ws (((CM.allPl a b c).take i).filter fun s=>decide (s.getLastD 0=n))/\ws.length<=i) ?_ ?_ ?_ ?_⟩
   ·exact⟨(Same.refl H5).new hD,[],J2, .nil,Nat.le_refl _⟩
   ·rintro i H' _ ⟨s6,_⟩;exact SqL.of (s6 _ _ (sB _ _ c1))
   ·rintro i y H' hy ⟨s6,ws,hD',Rw,lw⟩;obtain⟨q,eq,rfl⟩:=Y3 hy;obtain⟨s,gs,dx,pl,h1,h2⟩:=Rb.at_ i q eq
    have hi64:i<64+1:=by
     have:=CM.len_all a (by have:=O.ha;omega) b (by have:=O.hb;omega) c (by have:=O.hc;omega);have:=JL gs;omega
    have sC:=sB.trans s6;refine⟨rfl,?_⟩;refine JB rfl (sC _ _ h1) T.Ao T.Ak rfl (J9 rfl (YJ rfl rfl (SqL.of (sC _ _ h2)) (Xo (F.ne s (List.mem_of_getElem? gs))) (Zi rfl rfl rfl (Vu (fun h=>?_) (fun h=>?_)))))
    ·refine J9 rfl ⟨_,hD',(by rw[List.length_map];exact Z8 (by omega)),s6.put hD,ws++[q],by rw[J2,A9],?_,by rw[List.length_append];show _+1<=_;omega⟩;rw[Ys gs,List.filter_append,List.filter_cons,if_pos (decide_eq_true (show s.getLastD 0=n by omega)),List.filter_nil];exact Rw.snoc ⟨dx,pl,h1,h2⟩
    ·refine⟨s6,ws,hD',?_,by omega⟩;rw[Ys gs,List.filter_append,List.filter_cons,if_neg (by intro z;have:=of_decide_eq_true z;exact h (by rw[this])),List.filter_nil,List.append_nil];exact Rw
   ·rintro H6 ⟨s6,ws,hD',Rw,lw⟩;rw[List.length_map,Rb.len,List.take_length] at Rw;refine JM rfl rfl ⟨v,B,rfl,hb1,hb2,fun u hu=>?_⟩;have s7:Same H6 (upd H6 u (.tup [.int (CM.lo B v), .int (CM.hi B v)])):=(Same.refl H6).new hu;have hU:upd H6 u (.tup [.int (CM.lo B v), .int (CM.hi B v)]) u=_:=J2;show Yr _ _ _ _ (upd H6 u (.tup [.int (CM.lo B v), .int (CM.hi B v)]));generalize upd H6 u (.tup [.int (CM.lo B v), .int (CM.hi B v)])=H7 at s7 hU;refine⟨Nat.zero_le _,fun lg flg=>?_⟩;have s8:Same H7 (upd H7 lg (.lst [])):=(Same.refl H7).new flg;have clg:upd H7 lg (.lst []) lg=some (.lst (([]:List Addr).map V.ref)):=J2;generalize upd H7 lg (.lst [])=H8 at s8 clg;have sD:=s6.trans (s7.trans s8);have hU8:=s8 _ _ hU;have hlr8:=sD _ _ hlr5;have R8:EachAt LAt H8 rs _:=R5.up fun c l q=>sD _ _ q;have n1: ∀q o,H7 q=some o->q≠lg:=fun q o e=>Jv e flg;have nlr:lr≠lg:=n1 _ _ (s7 _ _ (s6 _ _ hlr5));have ul:=CM.units_len B v;have ur:=CM.units_range (b:=B) (v:=v) hb1
    have NB:((CM.hi B v+1-CM.lo B v).toNat)=(CM.units B v).length:=by
     have:=congrArg List.length ur;rw[List.length_map,List.length_map,List.length_range] at this;exact this
    have lob:0<=CM.lo B v/\CM.lo B v<=v:=by
     unfold CM.lo;exact⟨Int.ediv_nonneg (by omega) (by omega),Int.ediv_le_self _ (by omega)⟩
    have hib:0<=CM.hi B v/\CM.hi B v<=(v:Int)+100:=by
     unfold CM.hi;exact⟨Int.ediv_nonneg (by omega) (by omega),Int.le_trans (Int.ediv_le_self _ (by omega)) (by omega)⟩
    have vb:=O.cb v (List.mem_of_getElem? gn);refine J9 rfl ⟨lr,rfl,⟨_,SqL.of hlr8⟩,?_⟩
    refine Lj (K:=K) (a:=lr) (xs:=rs.map V.ref)
     (fun j σ H'=> ∃(gs:List Addr) (v10:Option V),σ=[some (.int B),some (.ref z),some (.ref x),some (.ref lb),some (.ref lr),some (.int n),some (.int v),some (.ref D),some (.ref u),some (.ref lg),v10,none,none]/\Fr1 lg H8 H'/\H' lg=some (.lst (gs.map V.ref))/\gs.length<=2*j/\
       EachAt (fun H c l=>c≠lg/\LAt H c l) H' gs (((CM.rowsAt ⟨B,a,b,c,cells⟩ n).take j).flatMap fun r=>(CM.units B v).map fun u=>r++[u])) ?_ ?_ ?_ ?_
    ·exact⟨[],J9 rfl ⟨Fr1.refl,clg,Nat.le_refl _, .nil⟩⟩
    ·rintro j σ H' _ ⟨gs,v10,_,f,_⟩;exact SqL.of (f _ _ hlr8 nlr)
    ·rintro Ey j y σ H' ey hy ⟨gs,v10,rfl,f,hL,lg2,G⟩;obtain⟨q,eq,rfl⟩:=Y3 hy;obtain⟨r,gr,hq0⟩:=R5.at_ j q eq;have hq:H' q=some (.lst (Jp r)):=f _ _ (sD _ _ hq0) (n1 _ _ (s7 _ _ (s6 _ _ hq0)));have hj:j<4096+1:=by have:=JL gr;omega
     have rlen:=CM.rows_len (k:=⟨B,a,b,c,cells⟩) (by show n<=cells.length;omega) (List.mem_of_getElem? gr);have hU':SqT K H' u _:=SqT.of (f _ _ hU8 (n1 _ _ hU))
     refine⟨_,rfl, .inl ⟨rfl,_,SqL.of hL⟩,_,rfl,u,_,_,_,rfl,rfl,hU',rfl,_,rfl,u,_,_,_,rfl,rfl,hU',rfl,_,_,rfl,rfl,CM.lo B v,CM.hi B v+1,rfl,?_,fun D2 hD2=>Dv (lo:=CM.lo B v) (n:=(CM.hi B v+1-CM.lo B v).toNat)
      (fun m H2=>Same H' H2/\ ∃es:List Addr,H2 D2=some (.lst (es.map V.ref))/\EachAt (fun H c l=>c≠D2/\c≠lg/\LAt H c l) H2 es (((CM.units B v).take m).map fun u=>r++[u])/\es.length<=m) ?_ ?_ ?_⟩
     ·exact⟨by omega,by omega,by omega,by omega⟩
     ·exact⟨(Same.refl H').new hD2,[],J2, .nil,Nat.le_refl _⟩
     ·rintro m H2 hm ⟨s9,es,hD2',Re,le⟩;have hm':m<(CM.units B v).length:=by rw[<-NB];exact hm
      have em:CM.lo B v+(m:Int)=(((CM.units B v).getD m 0:Nat):Int):=by
       have:=congrArg (fun l=>l[m]?) ur;simp only[List.getElem?_map,List.getElem?_range hm] at this;rw[List.getElem?_eq_getElem hm'] at this;rw[List.getD_eq_getElem?_getD,List.getElem?_eq_getElem hm'];exact Option.some.inj this
      have gu:(CM.units B v)[m]?=some ((CM.units B v).getD m 0):=by rw[List.getD_eq_getElem?_getD,List.getElem?_eq_getElem hm'];rfl
      rw[em];generalize (CM.units B v).getD m 0=uu at gu;refine⟨rfl,?_⟩;refine JM rfl rfl ⟨LE,fun e fe=>?_⟩;have s10:Same H2 (upd H2 e (.lst [V.int (uu:Nat)])):=(Same.refl H2).new fe;have ce:upd H2 e (.lst [V.int (uu:Nat)]) e=some (.lst [V.int (uu:Nat)]):=J2;generalize upd H2 e (.lst [V.int (uu:Nat)])=H3 at s10 ce;refine⟨q,e,Y9 rfl rfl ⟨s10 _ _ (s9 _ _ hq),ce,(by rw[Jh,rlen];show n+1<=_;exact Nat.le_of_lt (Z8 (by omega))),fun o fo=>?_⟩⟩;have s11:Same H3 (upd H3 o (.lst (Jp r++[V.int (uu:Nat)]))):=(Same.refl H3).new fo;have oD:o≠D2:=fun z=>by rw[z,s10 _ _ hD2'] at fo;cases fo
      have og:o≠lg:=fun z=>by rw[z,s10 _ _ (s9 _ _ hL)] at fo;cases fo
      refine⟨_,s11 _ _ (s10 _ _ hD2'),(by rw[List.length_map];exact Z8 (by omega)),(s9.trans (s10.trans s11)).put hD2,es++[o],by rw[J2,A9],?_,by rw[List.length_append];show _+1<=_;omega⟩;rw[Ys gu,List.map_append];refine EachAt.snoc (Re.up fun c l ⟨a1,a2,a3⟩=>⟨a1,a2,?_⟩) ⟨oD,og,?_⟩
      ·show upd _ D2 _ c=_;rw[Ja a1];exact s11 _ _ (s10 _ _ a3)
      ·show upd _ D2 _ o=_;rw[Ja oD,J2,Ax]
     ·rintro H2 ⟨s9,es,hD2',Re,le⟩;rw[NB,List.take_length] at Re;rw[NB] at le;have hL2:=s9 _ _ hL;refine⟨lg,D2,Y9 rfl rfl ⟨hL2,hD2',(by rw[List.length_map,List.length_map];exact Nat.le_of_lt (Z8 (by omega))),?_⟩⟩;refine ey _ _ ⟨gs++es,J9 rfl ⟨(f.up s9).put,by rw[J2,List.map_append],by rw[List.length_append];omega,?_⟩⟩;rw[Ys gr,List.flatMap_append];refine EachAt.cat (G.up fun c l ⟨a1,a2⟩=>⟨a1,?_⟩) ?_
      ·show upd _ lg _ c=_;rw[Ja a1];exact s9 _ _ a2
      ·rw[List.flatMap_cons,List.flatMap_nil,List.append_nil];refine Re.up fun c l ⟨_,a2,a3⟩=>⟨a2,?_⟩;show upd _ lg _ c=_;rw[Ja a2];exact a3
    ·rintro σ H9 ⟨gs,v10,rfl,f,hL,lg2,G⟩;rw[List.length_map,R.len,List.take_length] at G;rw[List.length_map,R.len] at lg2;have G':EachAt (fun H c l=>c≠lg/\LAt H c l) H9 gs (CM.longer ⟨B,a,b,c,cells⟩ n v):=G;have sE:Same H1 H9:=fun q o e=>f _ _ (sD _ _ (sB _ _ e)) (n1 _ _ (s7 _ _ (s6 _ _ (sB _ _ e))));have hD9:H9 D=some (.lst (ws.map V.ref)):=f _ _ (s8 _ _ (s7 _ _ hD')) (n1 _ _ (s7 _ _ hD'))
     refine⟨_,rfl,lg,rfl,⟨_,SqL.of hL⟩,fun D3 hD3=>Zt (K:=K) (a:=lg) (xs:=gs.map V.ref)
      (fun i H'=>Same H9 H'/\ ∃es:List Addr,H' D3=some (.lst (es.map V.ref))/\EachAt LAt H9 es (((CM.longer ⟨B,a,b,c,cells⟩ n v).take i).filter fun r=>(CM.wholeAt ⟨B,a,b,c,cells⟩ n).all (CM.okAt B cells r))/\es.length<=i) ?_ ?_ ?_ ?_⟩
     ·exact⟨(Same.refl H9).new hD3,[],J2, .nil,Nat.le_refl _⟩
     ·rintro i H' _ ⟨s10,_⟩;exact SqL.of (s10 _ _ hL)
     ·rintro i y H' hy ⟨s10,es,hD3',Re,le⟩;obtain⟨q,eq,rfl⟩:=Y3 hy;obtain⟨r,gr,_,hq⟩:=G'.at_ i q eq;have hi:i<8192+1:=by have:=JL eq;omega
      have rlen:r.length=n+1:=by
       have:=List.mem_of_getElem? gr;unfold CM.longer at this;obtain⟨r0,m0,m1⟩:=List.mem_flatMap.mp this;obtain⟨uu,_,rfl⟩:=List.mem_map.mp m1;rw[List.length_append,CM.rows_len (by show n<=cells.length;omega) m0];rfl
      refine⟨rfl,?_⟩;refine JM rfl rfl ⟨q,D,r,ws,B,JX rfl (SqL.of (s10 _ _ hq)) ⟨SqL.of (s10 _ _ hD9),Rw.up (fun c e h=>(h.same sE).same s10),hb1,fun s hs=>?_,fun H11 s11=>J9 rfl (Vh (fun h=>?_) (fun h=>?_))⟩⟩
      ·have hs':=List.mem_filter.mp hs;have e:=of_decide_eq_true hs'.2;exact⟨F.sh s hs'.1,fun p hp=>by have:=(F.last s hs'.1 p hp).1;omega⟩
      ·refine J9 rfl ⟨_,s11 _ _ hD3',(by rw[List.length_map];exact Z8 (by omega)),(s10.trans s11).put hD3,es++[q],by rw[J2,A9],?_,by rw[List.length_append];show _+1<=_;omega⟩;rw[Ys gr,List.filter_append,List.filter_cons,if_pos (show((CM.wholeAt ⟨B,a,b,c,cells⟩ n).all (CM.okAt B cells r))=true from h),List.filter_nil];exact Re.snoc hq
      ·refine⟨s10.trans s11,es,s11 _ _ hD3',?_,by omega⟩;rw[Ys gr,List.filter_append,List.filter_cons,if_neg (by intro z;rw[show((CM.wholeAt ⟨B,a,b,c,cells⟩ n).all (CM.okAt B cells r))=false from h] at z;cases z),List.filter_nil,List.append_nil];exact Re
     ·rintro H10 ⟨s10,es,hD3',Re,le⟩;rw[List.length_map,G'.len,List.take_length] at Re;refine ez _ _ ⟨D3,es,_,_,_,_,_,_,rfl,sE.trans s10,hD3',?_⟩;rw[CM.rows_step (k:=⟨B,a,b,c,cells⟩) F gn];exact Re.up fun c l q=>s10 _ _ q
  ·rintro σ H' ⟨lr,rs,v5,v6,v7,v8,v9,v10,rfl,s4,hlr,R⟩;rw[Jh] at R;have e:=CM.rows_all (k:=⟨B,a,b,c,cells⟩) F O.len;have many:=Nat.le_trans (CM.rows_many ⟨B,a,b,c,cells⟩ cells.length) (XD hle);rw[show CM.rowsAt ⟨B,a,b,c,cells⟩ cells.length=_ from e] at R many;exact J9 rfl (k H' lr rs (s1.trans s4) hlr R many)
def NH (K:PySem.W.Frag):Sp:=fun vs H Q _=> ∃(z x:Addr) (b i j l:Int) (xs:List Int),vs=[.int b, .ref z, .ref x]/\SqL K H z ([i,j,l].map V.int)/\SqL K H x (xs.map V.int)/\xs.length<=100000/\ ∀H',Same H H'->Q (.bl (Vbcsaf.cubeFine b i j l xs)) H'
theorem F7 (T:Txt K mg A):FnOk P w K mg base CX0 4 A.Gr A.Ht ["base","sizes","cells"] (NH K):=by
 refine T.C0.ok NJ (fun H vs Q E h=>?_)
 ·obtain⟨z,x,b,i,j,l,xs,rfl,hz,hx,lx,k⟩:=h;refine⟨rfl,fun _ _ _ _ hr=>?_⟩;refine⟨_,(J4 (J7 (Ae (pk (Zu T) hr T.ZK (J0 (pv 0) (J0 J5 (J0 J5 J1)))) (Ae (pk (Y0 T) hr T.Y1 (J0 (pv 1) (J0 J5 (J0 J5 J1)))) (Bl (pk (Ci T) hr T.AH (J0 (pv 2) (J0 J5 J1)))))))),?_⟩
  have e:Vbcsaf.cubeFine b i j l xs=(Vbcsaf.inr b 1 100&&(([i,j,l].all fun n=>Vbcsaf.inr n 1 3)&&UI xs 12)):=by
   unfold Vbcsaf.cubeFine UI;simp[Bool.and_assoc]
  rw[e] at k;refine J9 rfl ⟨b,1,100,rfl,J9 rfl (Vh (fun h=>?_) (fun h=>?_))⟩
  ·rw[h,Bool.true_and] at k;refine J9 rfl ⟨z,[i,j,l],1,3,rfl,hz,by show 3<=100000;decide,fun H1 s1=>J9 rfl (Vh (fun h=>?_) (fun h=>?_))⟩
   ·rw[h,Bool.true_and] at k;exact J9 rfl ⟨x,xs,12,rfl,s1.seq hx,lx,fun H2 s2=>k H2 (s1.trans s2)⟩
   ·rw[h,Bool.false_and] at k;exact k H1 s1
  ·rw[h,Bool.false_and] at k;exact k H (Same.refl H)
def O9 (K:PySem.W.Frag):Sp:=fun vs H Q _=> ∃(z:Addr) (i j l:Int),vs=[.ref z]/\SqL K H z ([i,j,l].map V.int)/\(1<=i/\i<=3)/\(1<=j/\j<=3)/\(1<=l/\l<=3)/\Q (.int (i*j*l)) H
theorem EG (T:Txt K mg A):FnOk P w K mg base CX0 1 A.Gx A.Gz ["sizes"] (O9 K):=by
 refine T.Cg.ok O3 (fun H vs Q E h=>?_)
 ·obtain⟨z,i,j,l,rfl,hz,h1,h2,h3,k⟩:=h;refine⟨rfl,fun _ _ _ _ hr=>?_⟩;refine⟨_,(J4 (J7 (Jr Ug (Jr Ug (Jq Ji (pv 0) J5 (fun _ _=>rfl)) (Jq Ji (pv 0) J5 (fun _ _=>rfl))) (Jq Ji (pv 0) J5 (fun _ _=>rfl))))),?_⟩;exact J9 rfl (YJ rfl rfl hz rfl (J9 rfl (YJ rfl rfl hz rfl (Y9 rfl rfl ⟨.inl ⟨by omega,by omega⟩,J9 rfl (YJ rfl rfl hz rfl (Y9 rfl rfl ⟨.inr ⟨by omega,by omega⟩,k⟩))⟩))))
theorem Pi {b i j l:Int} {xs:List Int} (h:Vbcsaf.cubeFine b i j l xs=true):(1<=b/\b<=100)/\(1<=i/\i<=3)/\(1<=j/\j<=3)/\(1<=l/\l<=3)/\xs.length<=12/\ ∀x∈xs,0<=x/\x<=1000000:=by
 unfold Vbcsaf.cubeFine Vbcsaf.inr at h;simp only[Bool.and_eq_true,decide_eq_true_eq,List.all_eq_true] at h;exact h
theorem Sm {b i j l:Int} {xs:List Int} (h:Vbcsaf.cubeFine b i j l xs=true) (hl:(xs.length:Int)=i*j*l):BoxOk b.toNat i.toNat j.toNat l.toNat (Vbcsaf.nats xs):=by
 obtain⟨h1,h2,h3,h4,h5,h6⟩:=Pi h;have e:(Vbcsaf.nats xs).length=xs.length:=List.length_map ..;refine⟨by omega,by omega,by omega,by omega,by omega,?_,by omega,fun v hv=>?_⟩
 ·rw[e];obtain⟨i,rfl⟩: ∃n:Nat,i=n:=⟨i.toNat,by omega⟩;obtain⟨j,rfl⟩: ∃n:Nat,j=n:=⟨j.toNat,by omega⟩;obtain⟨l,rfl⟩: ∃n:Nat,l=n:=⟨l.toNat,by omega⟩;simp only[Int.toNat_natCast]
  exact_mod_cast hl
 ·obtain⟨y,hy,rfl⟩:=List.mem_map.mp hv;have:=h6 y hy;omega
theorem Eo {l:List Int} (h: ∀x∈l,0<=x):l.map V.int=Jp (Vbcsaf.nats l):=by
 unfold Jp;rw[IG h]
theorem three {i j l:Int} (h1:1<=i) (h2:1<=j) (h3:1<=l):[i,j,l].map V.int=Jp [i.toNat,j.toNat,l.toNat]:=by
 rw[Eo (by intro x hx;simp at hx;omega)];rfl
theorem Vz {k:Vbcsaf.Cube} {w:List Nat} (h:w∈Vbcsaf.cubeWays k):w.length=k.cells.length:=CM.choices_len _ _ _ (List.mem_filter.mp h).1
def PH (K:PySem.W.Frag):Sp:=fun vs H Q _=> ∃(z x:Addr) (b i j l:Int) (xs:List Int),vs=[.int b, .ref z, .ref x]/\SqL K H z ([i,j,l].map V.int)/\SqL K H x (xs.map V.int)/\xs.length<=100000/\Ans H Q (Vbcsaf.step ⟨none,none⟩ (.cube b i j l xs)).2
theorem Pk (T:Txt K mg A):FnOk P w K mg base CX0 5 A.KC A.IZ ["base","sizes","cells"] (PH K):=by
 refine T.Kw.ok Ie (fun H vs Q E h=>?_)
 ·obtain⟨z,x,b,i,j,l,xs,rfl,hz,hx,lx,k⟩:=h;refine⟨rfl,fun _ _ _ _ hr=>?_⟩;refine⟨_,(J3 (Jm (YS (JT (pk (F7 T) hr T.C0 (J0 (pv 0) (J0 (pv 1) (J0 (pv 2) J1)))))) (J4 (J7 (Jd (J0 (JW (by rfl) T.JF) J1)))) Jb) (J3 (Jm (Jk BF (Jc Ju (by rfl) T.JG Js (J0 (pv 2) J1)) (pk (EG T) hr T.Cg (J0 (pv 1) J1)) (Jn _)) (J4 (J7 (Jd (J0 (JW (by rfl) T.Za) J1)))) Jb) (J3 (YL 3 Ie.nd (pk (Io T) hr T.CC (J0 (pv 0) (J0 (pv 1) (J0 (pv 2) J1))))) (J3 (Jm (YS (Qs (pv 3) (fun _=>rfl))) (J4 (J7 (Jd (J0 J5 (J0 J5 J1))))) Jb) (J4 (J7 (Jr Zc (Jd (J0 J5 (J0 (Jc Ju (by rfl) T.JG Js (J0 (pv 3) J1)) J1))) (Jq Ji (pv 3) J5 (fun _ _=>rfl))))))))),?_⟩;unfold Vbcsaf.step Vbcsaf.noCube at k;dsimp only at k;refine J9 rfl (JM rfl rfl ⟨z,x,b,i,j,l,xs,rfl,hz,hx,lx,fun H1 s1=>J9 rfl ?_⟩);cases h1:Vbcsaf.cubeFine b i j l xs with
  |false=>
   rw[h1] at k;have k':Ans H Q [-1]:=k;exact JV (k'.one s1)
  |true=>
   rw[h1] at k;obtain⟨f1,f2,f3,f4,f5,f6⟩:=Pi h1;refine Ya ?_;refine J9 rfl (JX rfl (.inl (s1.seq hx)) (J9 rfl ⟨z,i,j,l,rfl,s1.seq hz,f2,f3,f4,rfl,J9 rfl (Il (fun h2=>?_) (fun h2=>?_))⟩))
   ·rw[List.length_map] at h2;rw[show((xs.length:Int) !=i*j*l)=true from by simp[h2]] at k;have k':Ans H Q [-6]:=k;exact k'.one s1
   ·rw[List.length_map] at h2;rw[show((xs.length:Int) !=i*j*l)=false from by simp[h2]] at k;have k':Ans H Q ([0,((Vbcsaf.cubeWays (Vbcsaf.cubeOf b i j l xs)).length:Int)]++Vbcsaf.ints ((Vbcsaf.cubeWays (Vbcsaf.cubeOf b i j l xs)).headD [])):=k;have eB:(V.int b)=V.int ((b.toNat:Nat):Int):=by rw[show((b.toNat:Nat):Int)=b by omega]
    rw[three f2.1 f3.1 f4.1] at hz;rw[Eo (fun x hx=>(f6 x hx).1)] at hx;refine J9 rfl (JM rfl rfl ⟨z,x,b.toNat,i.toNat,j.toNat,l.toNat,Vbcsaf.nats xs,by rw[eB];rfl,s1.seq hz,s1.seq hx,Sm h1 h2,fun H2 d rs s2 hd R many=>?_⟩);have sA:=s1.trans s2;have e0:Vbcsaf.cubeOf b i j l xs=⟨b.toNat,i.toNat,j.toNat,l.toNat,Vbcsaf.nats xs⟩:=rfl;rw[e0] at k';have hw: ∀w∈Vbcsaf.cubeWays ⟨b.toNat,i.toNat,j.toNat,l.toNat,Vbcsaf.nats xs⟩,w.length<=12:=fun w h=>by rw[Vz h];exact(Sm h1 h2).le
    generalize Vbcsaf.cubeWays ⟨b.toNat,i.toNat,j.toNat,l.toNat,Vbcsaf.nats xs⟩=W at k' R many hw;refine J9 rfl ⟨_, .inl ⟨_,SqL.of hd,rfl⟩,?_⟩;cases W with
    |nil=>
     have:rs=[]:=List.length_eq_zero_iff.mp R.len;subst this;exact JV ⟨Qr,fun d hd=>k' _ d (sA.new hd) (sA.free hd) J2⟩
    |cons w W=>
     cases rs with
     |nil=>exact absurd R.len (by simp)
     |cons c rs=>
      obtain⟨w',e1,hc⟩:=R.at_ 0 c rfl;have e2:w=w':=Option.some.inj e1;subst e2;refine Ya ?_;refine J9 rfl (JX rfl (.inl (SqL.of hd)) ⟨Qr,fun d2 hd2=>?_⟩);rw[List.length_map,R.len];have s3:Same H2 (upd H2 d2 (.lst [V.int 0,V.int ((w::W).length:Int)])):=(Same.refl H2).new hd2;refine J9 rfl (YJ rfl rfl (SqL.of (s3 _ _ hd)) (J0q (j:=0) rfl rfl) ?_);refine Ans.cat k' (sA.trans s3) J2 ?_ ?_
      ·exact s3 _ _ hc
      ·have:=hw w List.mem_cons_self;show 2+(w.map Int.ofNat).length<=_;rw[List.length_map];omega
def HG (K:PySem.W.Frag):Sp:=fun vs H Q _=> ∃(z x y:Addr) (b i j l:Int) (xs ys:List Int),vs=[.int b, .ref z, .ref x, .ref y]/\SqL K H z ([i,j,l].map V.int)/\SqL K H x (xs.map V.int)/\SqL K H y (ys.map V.int)/\xs.length<=100000/\ys.length<=100000/\Ans H Q (Vbcsaf.step ⟨none,none⟩ (.cubeCheck b i j l xs ys)).2
theorem HS (T:Txt K mg A):FnOk P w K mg base CX0 5 A.BX A.BQ ["base","sizes","cells","numbers"] (HG K):=by
 refine T.BW.ok HF (fun H vs Q E h=>?_)
 ·obtain⟨z,x,y,b,i,j,l,xs,ys,rfl,hz,hx,hy,lx,ly,k⟩:=h;refine⟨rfl,fun _ _ _ _ hr=>?_⟩;refine⟨_,(J3 (Jm (YS (PW.pt (Zo (JT (pk (F7 T) hr T.C0 (J0 (pv 0) (J0 (pv 1) (J0 (pv 2) J1))))) (Zf (JT (pk (Ci T) hr T.AH (J0 (pv 3) (J0 J5 J1)))))))) (J4 (J7 (Jd (J0 (JW (by rfl) T.JF) J1)))) Jb) (J3 (Jm (Jk BF (Jc Ju (by rfl) T.JG Js (J0 (pv 2) J1)) (pk (EG T) hr T.Cg (J0 (pv 1) J1)) (Jn _)) (J4 (J7 (Jd (J0 (JW (by rfl) T.Za) J1)))) Jb) (J4 (J7 (Jd (J0 J5 (J0 (Yq MH (by rfl) T.Qv LQ (J0 (pk (G3 T) hr T.B6 (J0 (pv 0) (J0 (pv 1) (J0 (pv 2) (J0 (pv 3) J1))))) J1)) J1))))))),?_⟩;unfold Vbcsaf.step Vbcsaf.noCube at k;dsimp only at k;have ec:(decide (ys.length<=12)&&ys.all fun n=>Vbcsaf.inr n 0 1000000)=UI ys 12:=rfl;rw[ec] at k;refine J9 rfl (JM rfl rfl ⟨z,x,b,i,j,l,xs,rfl,hz,hx,lx,fun H1 s1=>J9 rfl (Vh (fun h1=>?_) (fun h1=>?_))⟩)
  ·rw[h1,Bool.true_and] at k;refine J9 rfl ⟨y,ys,12,rfl,s1.seq hy,ly,fun H2 s2=>J9 rfl ?_⟩;have sA:=s1.trans s2;cases h2:UI ys 12 with
   |false=>
    rw[h2] at k;have k':Ans H Q [-1]:=k;exact JV (k'.one sA)
   |true=>
    rw[h2] at k;obtain⟨f1,f2,f3,f4,f5,f6⟩:=Pi h1
    have g6: ∀x∈ys,0<=x:=fun x hx=>by
     unfold UI at h2;rw[Bool.and_eq_true,List.all_eq_true] at h2;have:=h2.2 x hx;unfold Vbcsaf.inr at this;rw[Bool.and_eq_true,decide_eq_true_eq] at this;exact this.1
    refine Ya ?_;refine J9 rfl (JX rfl (.inl (sA.seq hx)) (J9 rfl ⟨z,i,j,l,rfl,sA.seq hz,f2,f3,f4,rfl,J9 rfl (Il (fun h2=>?_) (fun h2=>?_))⟩))
    ·rw[List.length_map] at h2;rw[show((xs.length:Int) !=i*j*l)=true from by simp[h2]] at k;have k':Ans H Q [-6]:=k;exact k'.one sA
    ·rw[List.length_map] at h2;rw[show((xs.length:Int) !=i*j*l)=false from by simp[h2]] at k;have k':Ans H Q [0,Vbcsaf.bit (Vbcsaf.roundsCube (Vbcsaf.cubeOf b i j l xs) (Vbcsaf.nats ys))]:=k;have eB:(V.int b)=V.int ((b.toNat:Nat):Int):=by rw[show((b.toNat:Nat):Int)=b by omega]
     rw[three f2.1 f3.1 f4.1] at hz;rw[Eo (fun x hx=>(f6 x hx).1)] at hx;rw[Eo g6] at hy;refine JM rfl rfl (JM rfl rfl ⟨z,x,y,b.toNat,i.toNat,j.toNat,l.toNat,Vbcsaf.nats xs,Vbcsaf.nats ys,by rw[eB];rfl,sA.seq hz,sA.seq hx,sA.seq hy,Sm h1 h2,fun H3 s3=> .inr (J9 rfl ⟨Qr,fun d hd=>k' _ d ((sA.trans s3).new hd) ((sA.trans s3).free hd) ?_⟩)⟩);rw[J2];show _=some (HO.lst ([0,Vbcsaf.bit (Vbcsaf.roundsCube ⟨b.toNat,i.toNat,j.toNat,l.toNat,Vbcsaf.nats xs⟩ (Vbcsaf.nats ys))].map V.int));cases Vbcsaf.roundsCube ⟨b.toNat,i.toNat,j.toNat,l.toNat,Vbcsaf.nats xs⟩ (Vbcsaf.nats ys)<;>rfl
  ·rw[h1,Bool.false_and] at k;have k':Ans H Q [-1]:=k;exact JV (k'.one s1)
theorem Xf (g:Net) (x:List Int):VbcsFlow.costOf g x=FM.S g.arcs.length (fun j=>(FM.arc g j).price*at_ x j):=by
 unfold VbcsFlow.costOf VbcsFlow.pairs;rw[List.map_map,FM.BB _ ⟨0,0,0,0,0⟩];rfl
def S9 (A:Adr) (K:PySem.W.Frag):Sp:=fun vs H Q _=> ∃(p a ps pa dx:Addr) (as:List Addr) (g:Net) (x:List Int),vs=[.ref p, .ref a]/\NetAt A H p g ps pa as dx/\SqL K H a (x.map V.int)/\x.length=g.arcs.length/\Bnd g/\ ∀(H':Hp),Same H H'->Q (.int (VbcsFlow.costOf g x)) H'
theorem M2 (T:Txt K mg A):FnOk P w K mg base CX0 1 A.P6 A.OT ["net","amounts"] (S9 A K):=by
 refine T.IJ.ok Cd (fun H vs Q E h=>?_)
 ·obtain⟨p,a,ps,pa,dx,as,g,x,rfl,N,hx,lx,B,k⟩:=h;refine⟨rfl,fun _ _ _ _ hr=>?_⟩;have hsm:=N.sm2;refine⟨TC K A,(J4 (J7 (Jc (FV rfl) (by rfl) T.Mw Fw (J0 (Us rfl Cd.nd (Fz (by rfl) T.Kj (J0 (J6 (pv 0) rfl) (J0 (pv 1) J1))) (bo [("arc",2),("amount",3)]) (fun _ _ _ _ _=>(Uc rfl (JE (ZF 2 Cd.nd) (JE (ZF 3 Cd.nd) Zh)))) (fun _ _ _ _ _=>Yw) (fun _ _ _ _ _=>(Jr Ug (J6 (pv 2) rfl) (pv 3)))) J1)))),?_⟩
  refine⟨_,rfl,_,_,_,_,_,rfl,N.obj,T.Yf,T.JR,rfl,_,rfl,pa,a,_,_,rfl,SqL.of N.lst,hx,fun D hD=>Sz (K:=K) (a:=pa) (b:=a) (xs:=as.map V.ref) (ys:=x.map V.int)
   (fun i H'=>Same H H'/\H' D=some (.lst (((List.range i).map (fun j=>(FM.arc g j).price*at_ x j)).map V.int))) ?_ ?_ ?_ ?_⟩
  ·exact⟨(Same.refl H).new hD,J2⟩
  ·rintro i H' ⟨s4,_⟩;exact⟨SqL.of (s4 _ _ N.lst),s4.seq hx⟩
  ·rintro i y z H' Tp hy hz hT ⟨s4,hD'⟩;obtain⟨c,ec,rfl⟩:=Y3 hy;obtain⟨hi,rfl⟩:=ZW hz;obtain⟨da,hc⟩:=N.arc _ c ec;have hb:=B.price i (by omega);have s5:Same H (upd H' Tp (.tup [.ref c, .int (at_ x i)])):=s4.new hT;refine⟨Tp,J9 rfl ⟨SqT.of J2,rfl,_,_,rfl,Y9 rfl rfl ⟨rfl,?_⟩⟩⟩;refine JB rfl (s5 _ _ hc) T.JD T.Zl (BJ _) (J9 rfl (Y9 rfl rfl ⟨.inl ⟨by omega,by omega⟩,_,Y2 hD' hT,?_,s5.put hD,?_⟩))
   ·rw[List.length_map,List.length_map,List.length_range];exact Ud (by omega)
   ·rw[J2,List.range_succ,List.map_append,List.map_append];rfl
  ·rintro H' ⟨s4,hD'⟩;rw[List.length_map,List.length_map,N.len,lx,Nat.min_self] at hD';refine⟨D,J9 rfl ⟨SqL.of hD',?_⟩⟩;rw[Wt,<-Xf];exact k H' s4
def NetOk (A:Adr) (H:Hp) (fs:List (Str×V)):Option Net->Prop
 |none=>fs.lookup ("net":Str)=some .non
 |some g=> ∃(np ps pa nd:Addr) (as:List Addr),fs.lookup ("net":Str)=some (.ref np)/\NetAt A H np g ps pa as nd/\FM.Wf g/\Bnd g
def NAskSp (A:Adr) (c:Vbcsaf.Call) (more:List V) (H:Hp) (Q:VK) (vs:List V):Prop:=
 ∃(p dx:Addr) (fs:List (Str×V)) (on:Option Net),vs= .ref p::more/\H p=some (.ins A.JU dx fs)/\NetOk A H fs on/\Ans H Q (Vbcsaf.step ⟨none,on⟩ c).2
def Ql (A:Adr):Sp:=fun vs H Q _=>NAskSp A .flow [] H Q vs
theorem Qe (T:Txt K mg A):FnOk P w K mg base CX0 7 A.KN A.Ki ["line"] (Ql A):=by
 refine T.IX.ok GX (fun H vs Q E h=>?_)
 ·obtain⟨p,dx,fs,on,rfl,hp,tr,k⟩:=h;refine⟨rfl,fun _ _ _ _ hr=>?_⟩;refine⟨_,(J3 (Jm (Y5 (YO (J6 (pv 0) rfl))) (J4 (J7 (Jd (J0 (JW (by rfl) T.Jt) J1)))) Jb) (J3 (YL 1 GX.nd (pk (C6 T) hr T.Bp (J0 (J6 (pv 0) rfl) J1))) (J3 (Jm (Y5 (YO (J6 (pv 1) rfl))) (J4 (J7 (Jr Zc (Jd (J0 J5 (J0 J5 J1))) (J6 (pv 1) rfl)))) Jb) (J4 (J7 (Jr Zc (Jd (J0 J5 (J0 J5 (J0 (pk (M2 T) hr T.IJ (J0 (J6 (pv 0) rfl) (J0 (J6 (pv 1) rfl) J1))) J1)))) (J6 (pv 1) rfl))))))),?_⟩;cases on with
  |none=>
   have k':Ans H Q [-2]:=k;exact JB rfl hp T.Jg T.Jo tr (J9 rfl (JV (k'.one (Same.refl H))))
  |some g=>
   obtain⟨np,ps,pa,nd,as,hlk,N,wf,B⟩:=tr;have k':Ans H Q (Vbcsaf.flowAnswer g):=k;unfold Vbcsaf.flowAnswer at k';have h1:=N.sm1;have h2:=N.sm2;refine JB rfl hp T.Jg T.Jo hlk (J9 rfl (Ya ?_));refine JB rfl hp T.Jg T.Jo hlk ⟨np,ps,pa,nd,as,g,rfl,N,wf,B,fun H2 o d l nf sA ho hl=>?_,fun H2 o d l e x fx F sA ho c2=>?_⟩
   ·rw[nf] at k';refine JB rfl ho T.Yv T.JJ rfl (J9 rfl (JV ?_));refine⟨Qr,fun l2 hl2=>?_⟩;have s3:Same H2 (upd H2 l2 (.lst [V.int 0,V.int 0])):=(Same.refl H2).new hl2;refine JB rfl (s3 _ _ ho) T.Yv T.Ue rfl ?_;have k2:Ans H Q ([0,0]++(VbcsFlow.noneSet g).map (fun i:Nat=>(i:Int))):=k';refine k2.cat (sA.trans s3) J2 (s3 _ _ hl) ?_;rw[List.length_map];have:=MV g;show 2+_<=_;omega
   ·rw[fx] at k';have lx:=QI wf fx;refine JB rfl ho T.Yv T.JJ rfl (J9 rfl (Ya ?_));refine JB rfl (sA _ _ hp) T.Jg T.Jo hlk (JB rfl ho T.Yv T.JJ rfl ⟨np,l,ps,pa,nd,as,g,x,rfl,N.same sA,SqL.of c2,lx,B,fun H4 s4=>?_⟩);refine⟨Vi,fun d4 hd=>?_⟩;have k2:Ans H Q ([0,1,VbcsFlow.costOf g x]++x):=k';have s5:Same H4 (upd H4 d4 (.lst [V.int 0,V.int 1,V.int (VbcsFlow.costOf g x)])):=(Same.refl H4).new hd;refine JB rfl (s5 _ _ (s4 _ _ ho)) T.Yv T.JJ rfl ?_;refine k2.cat (sA.trans (s4.trans s5)) J2 (s5 _ _ (s4 _ _ c2)) ?_;rw[lx];show 3+_<=_;omega
def Fx (A:Adr):Sp:=fun vs H Q _=>NAskSp A .flowPrices [] H Q vs
theorem FA (T:Txt K mg A):FnOk P w K mg base CX0 8 A.Bb A.AN ["line"] (Fx A):=by
 refine T.B8.ok G5 (fun H vs Q E h=>?_)
 ·obtain⟨p,dx,fs,on,rfl,hp,tr,k⟩:=h;refine⟨rfl,fun _ _ _ _ hr=>?_⟩;refine⟨_,(J3 (Jm (Y5 (YO (J6 (pv 0) rfl))) (J4 (J7 (Jd (J0 (JW (by rfl) T.Jt) J1)))) Jb) (J4 (J7 (pk (BC T) hr T.UU (J0 (J6 (pv 0) rfl) J1))))),?_⟩;cases on with
  |none=>
   have k':Ans H Q [-2]:=k;exact JB rfl hp T.Jg T.Jo tr (J9 rfl (JV (k'.one (Same.refl H))))
  |some g=>
   obtain⟨np,ps,pa,nd,as,hlk,N,wf,B⟩:=tr;exact JB rfl hp T.Jg T.Jo hlk (J9 rfl (Ya (JB rfl hp T.Jg T.Jo hlk ⟨np,ps,pa,nd,as,g,rfl,N,wf,B,k⟩)))
def Gm (A:Adr) (K:PySem.W.Frag):Sp:=fun vs H Q _=> ∃(a b:Addr) (x c:List Int),SqL K H a (x.map V.int)/\SqL K H b (c.map V.int)/\x.length<=100000/\c.length<=100000/\NAskSp A (.flowCheck x c) [.ref a, .ref b] H Q vs
theorem GB (T:Txt K mg A):FnOk P w K mg base CX0 4 A.BN A.BE ["line","amounts","node_prices"] (Gm A K):=by
 refine T.BH.ok Hq (fun H vs Q E h=>?_)
 ·obtain⟨a,b,x,c,hx,hc,lx,lc,p,dx,fs,on,rfl,hp,tr,k⟩:=h;refine⟨rfl,fun _ _ _ _ hr=>?_⟩;refine⟨_,(J3 (Jm (YS (PW.pt (Zo (JT (pk (YV T) hr T.YK (J0 (pv 1) J1))) (Zf (JT (pk (YV T) hr T.YK (J0 (pv 2) J1))))))) (J4 (J7 (Jd (J0 (JW (by rfl) T.JF) J1)))) Jb) (J3 (Jm (Y5 (YO (J6 (pv 0) rfl))) (J4 (J7 (Jd (J0 (JW (by rfl) T.Jt) J1)))) Jb) (J4 (J7 (pk (D9 T) hr T.As (J0 (J6 (pv 0) rfl) (J0 (pv 1) (J0 (pv 2) J1)))))))),?_⟩;unfold Vbcsaf.step at k;dsimp only at k
  have bad:(Vbcsaf.isAmounts x&&Vbcsaf.isAmounts c)=false->Ans H Q [-1]:=fun h=>by
   rw[h] at k;exact k
  refine J9 rfl ⟨a,x,rfl,hx,lx,fun H1 s1=>J9 rfl (Vh (fun h1=>?_) (fun h1=>?_))⟩
  ·refine J9 rfl ⟨b,c,rfl,s1.seq hc,lc,fun H2 s2=>J9 rfl ?_⟩;have sA:=s1.trans s2;cases h2:Vbcsaf.isAmounts c with
   |false=>exact JV ((bad (by rw[h1,h2];rfl)).one sA)
   |true=>
    refine Ya ?_;rw[show(Vbcsaf.isAmounts x&&Vbcsaf.isAmounts c)=true by rw[h1,h2];rfl] at k;cases on with
    |none=>
     have k':Ans H Q [-2]:=k;exact JB rfl (sA _ _ hp) T.Jg T.Jo tr (J9 rfl (JV (k'.one sA)))
    |some g=>
     obtain⟨np,ps,pa,nd,as,hlk,N,wf,B⟩:=tr;exact JB rfl (sA _ _ hp) T.Jg T.Jo hlk (J9 rfl (Ya (JB rfl (sA _ _ hp) T.Jg T.Jo hlk (JM rfl rfl ⟨np,a,b,ps,pa,nd,as,g,x,c,rfl,N.same sA,wf,sA.seq hx,sA.seq hc,Ans.mv sA k⟩))))
  ·exact JV ((bad (by rw[h1];rfl)).one s1)
theorem Xh (g:Net): ∀i∈VbcsFlow.noneSet g,i<g.n:=fun i h=>by
 unfold VbcsFlow.noneSet at h;exact List.mem_range.mp (List.mem_filter.mp h).1
def Ip (A:Adr):Sp:=fun vs H Q _=>NAskSp A .flowNone [] H Q vs
theorem Ik (T:Txt K mg A):FnOk P w K mg base CX0 7 A.CS A.Cw ["line"] (Ip A):=by
 refine T.CJ.ok BO (fun H vs Q E h=>?_)
 ·obtain⟨p,dx,fs,on,rfl,hp,tr,k⟩:=h;refine⟨rfl,fun _ _ _ _ hr=>?_⟩;refine⟨_,(J3 (Jm (Y5 (YO (J6 (pv 0) rfl))) (J4 (J7 (Jd (J0 (JW (by rfl) T.Jt) J1)))) Jb) (J3 (YL 1 BO.nd (pk (C6 T) hr T.Bp (J0 (J6 (pv 0) rfl) J1))) (J3 (Jm (Y5 (C8 (J6 (pv 1) rfl))) (J4 (J7 (Jd (J0 J5 (J0 J5 J1))))) Jb) (J4 (J7 (Jr Zc (Jd (J0 J5 (J0 J5 (J0 (pk (Dg T) hr T.Bj (J0 (J6 (pv 0) rfl) (J0 (J6 (pv 1) rfl) J1))) J1)))) (J6 (pv 1) rfl))))))),?_⟩;cases on with
  |none=>
   have k':Ans H Q [-2]:=k;exact JB rfl hp T.Jg T.Jo tr (J9 rfl (JV (k'.one (Same.refl H))))
  |some g=>
   obtain⟨np,ps,pa,nd,as,hlk,N,wf,B⟩:=tr;have k':Ans H Q (match VbcsFlow.flowOf g with|some _=>[0,0]|none=>0::1::VbcsFlow.overfull g (VbcsFlow.noneSet g)::Vbcsaf.ints (VbcsFlow.noneSet g)):=k;have h1:=N.sm1;have h2:=MV g;refine JB rfl hp T.Jg T.Jo hlk (J9 rfl (Ya ?_));refine JB rfl hp T.Jg T.Jo hlk ⟨np,ps,pa,nd,as,g,rfl,N,wf,B,fun H2 o d l nf sA ho hl=>?_,fun H2 o d l e x fx F sA ho c2=>?_⟩
   ·rw[nf] at k';refine JB rfl ho T.Yv T.JJ rfl (J9 rfl (Ya ?_));refine JB rfl (sA _ _ hp) T.Jg T.Jo hlk (JB rfl ho T.Yv T.Ue rfl ⟨np,l,ps,pa,nd,as,g,VbcsFlow.noneSet g,rfl,N.same sA,SqL.of hl,Xh g,by omega,fun H4 s4=>?_⟩);refine⟨Vi,fun d4 hd=>?_⟩;have k2:Ans H Q ([0,1,VbcsFlow.overfull g (VbcsFlow.noneSet g)]++(VbcsFlow.noneSet g).map (fun i:Nat=>(i:Int))):=k';have s5:Same H4 (upd H4 d4 (.lst [V.int 0,V.int 1,V.int (VbcsFlow.overfull g (VbcsFlow.noneSet g))])):=(Same.refl H4).new hd;refine JB rfl (s5 _ _ (s4 _ _ ho)) T.Yv T.Ue rfl ?_;refine k2.cat (sA.trans (s4.trans s5)) J2 (s5 _ _ (s4 _ _ hl)) ?_;rw[List.length_map];show 3+_<=_;omega
   ·rw[fx] at k';exact JB rfl ho T.Yv T.JJ rfl (J9 rfl (JV ⟨Qr,fun d hd=>k' _ d (sA.new hd) (sA.free hd) J2⟩))
theorem QF {s:Vbcsaf.State} {g:Net} {l:List Nat}:(Vbcsaf.guarded s [(-3,!Vbcsaf.isSetOf g.n l)] fun _=>(s,[0,Vbcsaf.bit (VbcsFlow.provesNone g l),VbcsFlow.overfull g l])).2=BL g l:=by
 unfold BL;cases Vbcsaf.isSetOf g.n l<;>rfl
def Gf (A:Adr) (K:PySem.W.Frag):Sp:=fun vs H Q _=> ∃(a:Addr) (x:List Int),SqL K H a (x.map V.int)/\x.length<=100000/\NAskSp A (.flowShows x) [.ref a] H Q vs
theorem GZ (T:Txt K mg A):FnOk P w K mg base CX0 5 A.Bu A.Bs ["line","nodes"] (Gf A K):=by
 refine T.BI.ok Hf (fun H vs Q E h=>?_)
 ·obtain⟨a,x,hx,lx,p,dx,fs,on,rfl,hp,tr,k⟩:=h;refine⟨rfl,fun _ _ _ _ hr=>?_⟩;refine⟨_,(J3 (Jm (YS (JT (pk (HL T) hr T.E8 (J0 (pv 1) J1)))) (J4 (J7 (Jd (J0 (JW (by rfl) T.JF) J1)))) Jb) (J3 (Jm (Y5 (YO (J6 (pv 0) rfl))) (J4 (J7 (Jd (J0 (JW (by rfl) T.Jt) J1)))) Jb) (J4 (J7 (pk (Cv T) hr T.At (J0 (J6 (pv 0) rfl) (J0 (pv 1) J1))))))),?_⟩;unfold Vbcsaf.step at k;dsimp only at k;refine J9 rfl ⟨a,x,rfl,hx,lx,fun H1 s1=>J9 rfl ?_⟩;cases h1:Vbcsaf.isSet x with
  |false=>
   rw[h1] at k;have k':Ans H Q [-1]:=k;exact JV (k'.one s1)
  |true=>
   rw[h1] at k;refine Ya ?_;cases on with
   |none=>
    have k':Ans H Q [-2]:=k;exact JB rfl (s1 _ _ hp) T.Jg T.Jo tr (J9 rfl (JV (k'.one s1)))
   |some g=>
    obtain⟨np,ps,pa,nd,as,hlk,N,wf,B⟩:=tr
    have k2:Ans H Q (BL g (Vbcsaf.nats x)):=by
     rw[<-QF (s:=⟨none,some g⟩)];exact k
    exact JB rfl (s1 _ _ hp) T.Jg T.Jo hlk (J9 rfl (Ya (JB rfl (s1 _ _ hp) T.Jg T.Jo hlk (J9 rfl ⟨np,a,ps,pa,nd,as,g,x,rfl,N.same s1,wf,s1.seq hx,h1,Ans.mv s1 k2⟩))))
def Qo (A:Adr) (K:PySem.W.Frag):Sp:=fun vs H Q _=> ∃(a:Addr) (x:List Int),SqL K H a (x.map V.int)/\x.length<=100000/\NAskSp A (.cost x) [.ref a] H Q vs
theorem Q7 (T:Txt K mg A):FnOk P w K mg base CX0 4 A.KD A.Kv ["line","amounts"] (Qo A K):=by
 refine T.L5.ok Q4 (fun H vs Q E h=>?_)
 ·obtain⟨a,x,hx,lx,p,dx,fs,on,rfl,hp,tr,k⟩:=h;refine⟨rfl,fun _ _ _ _ hr=>?_⟩;refine⟨_,(J3 (Jm (YS (JT (pk (YV T) hr T.YK (J0 (pv 1) J1)))) (J4 (J7 (Jd (J0 (JW (by rfl) T.JF) J1)))) Jb) (J3 (Jm (Y5 (YO (J6 (pv 0) rfl))) (J4 (J7 (Jd (J0 (JW (by rfl) T.Jt) J1)))) Jb) (J3 (Jm (Jk BF (Jc Ju (by rfl) T.JG Js (J0 (pv 1) J1)) (Jc Ju (by rfl) T.JG Js (J0 (J6 (J6 (pv 0) rfl) rfl) J1)) (Jn _)) (J4 (J7 (Jd (J0 (JW (by rfl) T.Za) J1)))) Jb) (J4 (J7 (Jr Zc (Jd (J0 J5 (J0 (pk (M2 T) hr T.IJ (J0 (J6 (pv 0) rfl) (J0 (pv 1) J1))) (J0 (Yq MH (by rfl) T.Qv LQ (J0 (pk (G4 T) hr T.Et (J0 (J6 (pv 0) rfl) (J0 (pv 1) J1))) J1)) J1)))) (pk (ZC T) hr T.Z7 (J0 (J6 (pv 0) rfl) (J0 (pv 1) J1))))))))),?_⟩;unfold Vbcsaf.step at k;dsimp only at k;refine J9 rfl ⟨a,x,rfl,hx,lx,fun H1 s1=>J9 rfl ?_⟩;cases h1:Vbcsaf.isAmounts x with
  |false=>
   rw[h1] at k;have k':Ans H Q [-1]:=k;exact JV (k'.one s1)
  |true=>
   rw[h1] at k;refine Ya ?_;cases on with
   |none=>
    have k':Ans H Q [-2]:=k;exact JB rfl (s1 _ _ hp) T.Jg T.Jo tr (J9 rfl (JV (k'.one s1)))
   |some g=>
    obtain⟨np,ps,pa,nd,as,hlk,N,wf,B⟩:=tr;have k2:Ans H Q (Vbcsaf.guarded ⟨none,some g⟩ [(-6,decide (x.length≠g.arcs.length))] fun _=>(⟨none,some g⟩,[0,VbcsFlow.costOf g x,Vbcsaf.bit (VbcsFlow.isFlow g x)]++(List.range g.n).map (balance g x))).2:=k;refine JB rfl (s1 _ _ hp) T.Jg T.Jo hlk (J9 rfl (Ya ?_));refine J9 rfl (JX rfl (.inl (s1.seq hx)) (JB rfl (s1 _ _ hp) T.Jg T.Jo hlk (Tk (s1 _ _ N.obj) T.Yf T.JR rfl (JX rfl (.inl (SqL.of (s1 _ _ N.lst))) ⟨rfl,J9 rfl (Il (fun h2=>?_) (fun h2=>?_))⟩))))
    ·rw[List.length_map,List.length_map,N.len] at h2;rw[decide_eq_true (show x.length≠g.arcs.length by omega)] at k2;have k':Ans H Q [-6]:=k2;exact k'.one s1
    ·rw[List.length_map,List.length_map,N.len] at h2;have lx':x.length=g.arcs.length:=by omega
     rw[decide_eq_false (show¬x.length≠g.arcs.length by omega)] at k2;have k':Ans H Q ([0,VbcsFlow.costOf g x,Vbcsaf.bit (VbcsFlow.isFlow g x)]++(List.range g.n).map (balance g x)):=k2;refine JB rfl (s1 _ _ hp) T.Jg T.Jo hlk (J9 rfl ⟨np,a,ps,pa,nd,as,g,x,rfl,N.same s1,s1.seq hx,lx',B,fun H2 s2=>?_⟩);have sA:=s1.trans s2;refine JB rfl (sA _ _ hp) T.Jg T.Jo hlk (J9 rfl ⟨np,a,ps,pa,nd,as,g,x,rfl,N.same sA,sA.seq hx,wf.ends,fun H3 s3=> .inr (J9 rfl ?_)⟩);have sB:=sA.trans s3;refine⟨Vi,fun d hd=>?_⟩;have s4:Same H3 (upd H3 d (.lst [V.int 0,V.int (VbcsFlow.costOf g x),V.int (if VbcsFlow.isFlow g x=true then 1 else 0)])):=(Same.refl H3).new hd;have hd4:upd H3 d (.lst [V.int 0,V.int (VbcsFlow.costOf g x),V.int (if VbcsFlow.isFlow g x=true then 1 else 0)]) d=some (.lst ([0,VbcsFlow.costOf g x,Vbcsaf.bit (VbcsFlow.isFlow g x)].map V.int)):=J2;show Zd _ _ _ _ _ (upd H3 d (.lst [V.int 0,V.int (VbcsFlow.costOf g x),V.int (if VbcsFlow.isFlow g x=true then 1 else 0)])) _;generalize upd H3 d (.lst [V.int 0,V.int (VbcsFlow.costOf g x),V.int (if VbcsFlow.isFlow g x=true then 1 else 0)])=H4 at s4 hd4;have sC:=sB.trans s4;refine JB rfl (sC _ _ hp) T.Jg T.Jo hlk (J9 rfl ⟨np,a,ps,pa,nd,as,g,x,rfl,N.same sC,sC.seq hx,lx',wf.ends,fun H5 l5 s5 f5 c5=>?_⟩);refine k'.cat (sC.trans s5) (s5 _ _ hd4) c5 ?_;rw[List.length_map,List.length_range];have:=N.sm1;show 3+_<=_;omega
open NM (Jx)
def RawAt (A:Adr) (l:List Int) (H:Hp) (c:Addr) (j:Nat):Prop:= ∃dx,H c=some (.ins A.Zg dx [("tail", .int (Jx l j 0)),("head", .int (Jx l j 1)),("least", .int (Jx l j 2)),("greatest", .int (Jx l j 3)),("price", .int (Jx l j 4))])
theorem J18 {l:List Int} {j:Nat} (h:5*j+5<=l.length):(l.drop (5*j)).take 5=[Jx l j 0,Jx l j 1,Jx l j 2,Jx l j 3,Jx l j 4]:=by
 apply List.ext_getElem
 ·rw[List.length_take,List.length_drop];show min 5 _=5;omega
 ·intro i h1 h2;have hi:i<5:=h2;rw[List.getElem_take,List.getElem_drop]
  have e: ∀k (hk:5*j+k<l.length),l[5*j+k]=Jx l j k:=fun k hk=>by
   unfold NM.Jx;rw[List.getD_eq_getElem?_getD,List.getElem?_eq_getElem hk];rfl
  rw[e i (by omega)]
  match i,hi with
  |0,_=>rfl
  |1,_=>rfl
  |2,_=>rfl
  |3,_=>rfl
  |4,_=>rfl
theorem J1a {l:List Int} {j:Nat} (h:5*j+5<=l.length):DA (l.map V.int) (some ((5*j:Nat):Int)) (some (((5*j:Nat):Int)+5))=[V.int (Jx l j 0),V.int (Jx l j 1),V.int (Jx l j 2),V.int (Jx l j 3),V.int (Jx l j 4)]:=by
 unfold DA;have e1:HT.sIx (l.map V.int).length 0 (some ((5*j:Nat):Int))=5*j:=by rw[HT.sIx_nat,List.length_map];omega
 have e2:HT.sIx (l.map V.int).length (l.map V.int).length (some (((5*j:Nat):Int)+5))=5*j+5:=by
  rw[show((5*j:Nat):Int)+5=((5*j+5:Nat):Int) by omega,HT.sIx_nat,List.length_map];omega
 rw[e1,e2,Nat.add_sub_cancel_left,<-List.map_drop,<-List.map_take,J18 h];rfl
def Sv (A:Adr) (K:PySem.W.Frag):Sp:=fun vs H Q _=> ∃(a:Addr) (l:List Int),vs=[.ref a]/\SqL K H a (l.map V.int)/\l.length%5=0/\l.length<=150/\
 ∀(H':Hp) (d:Addr) (as:List Addr),Same H H'->H d=none->H' d=some (.lst (as.map V.ref))->EachAt (fun H' c j=>H c=none/\RawAt A l H' c j) H' as (List.range (l.length/5))->Q (.ref d) H'
theorem Mv (T:Txt K mg A):FnOk P w K mg base CX0 3 A.OX A.P3 ["numbers"] (Sv A K):=by
 refine T.Iy.ok Cc (fun H vs Q E h=>?_)
 ·obtain⟨a,l,rfl,hl,h5,h150,k⟩:=h;refine⟨rfl,fun _ _ _ _ hr=>?_⟩;obtain⟨R,eR⟩: ∃R,l.length=R*5:=⟨l.length/5,by omega⟩;have e0:l.length/5=R:=by omega
  rw[e0] at k;refine⟨_,(J3 (YL 1 Cc.nd (Jd J1)) (J3 (Y6 PassesOwn.never rfl (OR (by rfl) T.Zz (J0 J5 (J0 (Jc Ju (by rfl) T.JG Js (J0 (pv 0) J1)) (J0 J5 J1)))) (ZF 2 Cc.nd) (J3 (YL 3 Cc.nd (UN AX (pv 0) (ZQ (pv 2)) (ZQ (Jr Ym (pv 2) J5)))) (J4 (Yi (UP PySem.F.plainAttrs_list PySem.F.slot_list_append PySem.F.type_list_append Yh (pv 1) (J0 (pm (Dq T) hr T.YM (J0 (Jq Ji (pv 3) J5 (fun _ _=>rfl)) (J0 (Jq Ji (pv 3) J5 (fun _ _=>rfl)) (J0 (Jq Ji (pv 3) J5 (fun _ _=>rfl)) (J0 (Jq Ji (pv 3) J5 (fun _ _=>rfl)) (J0 (Jq Ji (pv 3) J5 (fun _ _=>rfl)) J1)))))) J1)))))) (J4 (J7 (pv 1))))),?_⟩;refine⟨Nat.zero_le _,fun d hd=>?_⟩;have s1:Same H (upd H d (.lst [])):=(Same.refl H).new hd;have c1:upd H d (.lst []) d=some (.lst (([]:List Addr).map V.ref)):=J2;generalize upd H d (.lst [])=H1 at s1 c1;refine J9 rfl (JX rfl (.inl (s1.seq hl)) ?_);rw[List.length_map,eR];refine⟨0,_,5,R,rfl,⟨by decide,by decide,Ot (R:=R) (W:=5) (by decide) (by omega) (by decide) (by omega),M9 (R:=R) (W:=5) (by decide)⟩,?_⟩
  refine Ni (lo:=0) (c:=5) (n:=R)
   (fun i σ H'=> ∃(v2 v3:Option V) (as:List Addr),σ=[some (.ref a),some (.ref d),v2,v3]/\Same H H'/\H' d=some (.lst (as.map V.ref))/\EachAt (fun H' c j=>c≠d/\H c=none/\RawAt A l H' c j) H' as (List.range i)) ?_ ?_ ?_
  ·exact⟨none,none,[],rfl,s1,c1, .nil⟩
  ·rintro i σ H' hi ⟨v2,v3,as,rfl,s2,hL,R'⟩;rw[show(0:Int)+(i:Nat)*5=((5*i:Nat):Int) by omega];refine JM rfl rfl (JM rfl rfl (Y9 rfl rfl (J9 rfl (JX rfl (s2.seq hl) (fun f hf=>?_)))));rw[J1a (by omega)];have s3:Same H' (upd H' f (.lst [V.int (Jx l i 0),V.int (Jx l i 1),V.int (Jx l i 2),V.int (Jx l i 3),V.int (Jx l i 4)])):=(Same.refl H').new hf;have cf:SqL K (upd H' f (.lst [V.int (Jx l i 0),V.int (Jx l i 1),V.int (Jx l i 2),V.int (Jx l i 3),V.int (Jx l i 4)])) f _:=SqL.of J2;generalize upd H' f (.lst [V.int (Jx l i 0),V.int (Jx l i 1),V.int (Jx l i 2),V.int (Jx l i 3),V.int (Jx l i 4)])=H3 at s3 cf;have hL3:=s3 _ _ hL;refine J9 rfl ⟨.inl ⟨rfl,_,SqL.of hL3⟩,J9 rfl (YJ rfl rfl cf rfl (J9 rfl (YJ rfl rfl cf rfl (J9 rfl (YJ rfl rfl cf rfl (J9 rfl (YJ rfl rfl cf rfl (J9 rfl (YJ rfl rfl cf rfl (fun o e ho he ne=>?_))))))))))⟩;refine⟨o,e,_,_,_,_,_,rfl,J2,rfl,?_⟩;rw[Jz];have s4:Same H3 (upd (upd H3 e (.own o)) o (.ins A.Zg e [("tail", .int (Jx l i 0)),("head", .int (Jx l i 1)),("least", .int (Jx l i 2)),("greatest", .int (Jx l i 3)),("price", .int (Jx l i 4))])):=((Same.refl H3).new he).new (by rw[Ja ne.symm];exact ho);have co:upd (upd H3 e (.own o)) o (.ins A.Zg e [("tail", .int (Jx l i 0)),("head", .int (Jx l i 1)),("least", .int (Jx l i 2)),("greatest", .int (Jx l i 3)),("price", .int (Jx l i 4))]) o=_:=J2;generalize upd (upd H3 e (.own o)) o (.ins A.Zg e [("tail", .int (Jx l i 0)),("head", .int (Jx l i 1)),("least", .int (Jx l i 2)),("greatest", .int (Jx l i 3)),("price", .int (Jx l i 4))])=H4 at s4 co;have od:o≠d:=fun z=>by rw[z,hL3] at ho;cases ho
   refine Vj rfl rfl (s4 _ _ hL3) (by rw[List.length_map,R'.len,List.length_range];exact Z8 (by omega)) ?_;refine⟨_,_,as++[o],rfl,(s2.trans (s3.trans s4)).put hd,by rw[J2,A9],?_⟩;rw[List.range_succ];refine EachAt.snoc (R'.up fun c j ⟨a1,a2,dx,a3⟩=>⟨a1,a2,dx,?_⟩) ⟨od,(s2.trans s3).free ho,e,?_⟩
   ·rw[Ja a1];exact s4 _ _ (s3 _ _ a3)
   ·rw[Ja od];exact co
  ·rintro σ H' ⟨v2,v3,as,rfl,s2,hL,R'⟩;exact J9 rfl (k H' d as s2 hd hL (R'.up fun c j ⟨_,a2,a3⟩=>⟨a2,a3⟩))
def Xs (l:List Int) (j:Nat):Bool:=(([Jx l j 0,Jx l j 1].all fun n=>Vbcsaf.inr n 0 11)&&([Jx l j 2,Jx l j 3,Jx l j 4].all fun n=>Vbcsaf.inr n (-1000) 1000))&&decide (Jx l j 2<=Jx l j 3)
theorem okB_iff {l:List Int} {j:Nat}:Xs l j=true↔NM.OkArc l j:=by
 unfold Xs;simp only[List.all_cons,List.all_nil,Bool.and_true,Bool.and_eq_true,NM.inr_iff,decide_eq_true_eq];exact⟨fun⟨⟨⟨a,b⟩,c,d,e⟩,f⟩=>⟨a,b,c,d,f,e⟩,fun⟨a,b,c,d,f,e⟩=>⟨⟨⟨a,b⟩,c,d,e⟩,f⟩⟩
def Oj (A:Adr):Sp:=fun vs H Q _=> ∃(c:Addr) (l:List Int) (j:Nat),vs=[.ref c]/\RawAt A l H c j/\ ∀H',Same H H'->Q (.bl (Xs l j)) H'
theorem Oe (T:Txt K mg A):FnOk P w K mg base CX0 3 A.Hc A.GR ["arc"] (Oj A):=by
 refine T.Ia.ok O6 (fun H vs Q E h=>?_)
 ·obtain⟨c,l,j,rfl,⟨dx,hc⟩,k⟩:=h;refine⟨rfl,fun _ _ _ _ hr=>?_⟩;refine⟨_,(J3 (Jm (YS (PW.pt (Zo (JT (pk (Y0 T) hr T.Y1 (J0 (Jd (J0 (J6 (pv 0) rfl) (J0 (J6 (pv 0) rfl) J1))) (J0 J5 (J0 J5 J1))))) (Zf (JT (pk (Y0 T) hr T.Y1 (J0 (Jd (J0 (J6 (pv 0) rfl) (J0 (J6 (pv 0) rfl) (J0 (J6 (pv 0) rfl) J1)))) (J0 (GV Cs J5) (J0 J5 J1))))))))) (J4 (J7 Aj)) Jb) (J4 (J7 (Ze Ee (J6 (pv 0) rfl) (J6 (pv 0) rfl) (Jn _))))),?_⟩;unfold Xs at k;refine JB rfl hc T.JD T.YQ rfl (JB rfl hc T.JD T.YR rfl ⟨Qr,fun l0 f0=>?_⟩);have s0:Same H (upd H l0 (.lst [V.int (Jx l j 0),V.int (Jx l j 1)])):=(Same.refl H).new f0;refine⟨l0,[Jx l j 0,Jx l j 1],0,11,rfl,SqL.of J2,by show 2<=100000;decide,fun H1 s1=>J9 rfl (Vh (fun h1=>?_) (fun h1=>?_))⟩
  ·rw[h1,Bool.true_and] at k;have hc1:=s1 _ _ (s0 _ _ hc);have sA:=s0.trans s1;refine JB rfl hc1 T.JD T.Yn rfl (JB rfl hc1 T.JD T.JZ rfl (JB rfl hc1 T.JD T.Zl rfl ⟨Vi,fun l2 f2=>?_⟩));have s2:Same H1 (upd H1 l2 (.lst [V.int (Jx l j 2),V.int (Jx l j 3),V.int (Jx l j 4)])):=(Same.refl H1).new f2;refine J9 rfl ⟨l2,[Jx l j 2,Jx l j 3,Jx l j 4],-1000,1000,rfl,SqL.of J2,by show 3<=100000;decide,fun H3 s3=>J9 rfl ?_⟩;have sB:=sA.trans (s2.trans s3);cases h2:([Jx l j 2,Jx l j 3,Jx l j 4].all fun n=>Vbcsaf.inr n (-1000) 1000) with
   |false=>
    rw[h2,Bool.false_and] at k;exact JV (k H3 sB)
   |true=>
    rw[h2,Bool.true_and] at k;refine Ya ?_;exact JB rfl (sB _ _ hc) T.JD T.Yn rfl (JB rfl (sB _ _ hc) T.JD T.JZ rfl (Y9 rfl rfl (k H3 sB)))
  ·rw[h1,Bool.false_and,Bool.false_and] at k;exact JV (k H1 (s0.trans s1))
def Bi (l:List Int):Bool:=decide (l.length<=150)&&(Vbcsaf.arcsIn l).isSome
def LI (K:PySem.W.Frag):Sp:=fun vs H Q _=> ∃(a:Addr) (l:List Int),vs=[.ref a]/\SqL K H a (l.map V.int)/\ ∀H',Same H H'->Q (.bl (Bi l)) H'
theorem MA (T:Txt K mg A):FnOk P w K mg base CX0 4 A.EH A.F0 ["numbers"] (LI K):=by
 refine T.Fd.ok Ah (fun H vs Q E h=>?_)
 ·obtain⟨a,l,rfl,hl,k⟩:=h;refine⟨rfl,fun _ _ _ _ hr=>?_⟩;refine⟨_,(J3 (Jm (PW.pt (Pb (Jk Km (Jc Ju (by rfl) T.JG Js (J0 (pv 0) J1)) J5 (Jn _)) (IN (Jk BF (Jr J0l (Jc Ju (by rfl) T.JG Js (J0 (pv 0) J1)) J5) J5 (Jn _))))) (J4 (J7 Aj)) Jb) (J4 (J7 (Jc (LH rfl) (by rfl) T.Ru MU (J0 (Us rfl Ah.nd (JQ (pk (Mv T) hr T.Iy (J0 (pv 0) J1))) (bo [("arc",1)]) (fun _ _ _ _ _=>(ZF 1 Ah.nd)) (fun _ _ _ _ _=>Yw) (fun _ _ _ _ _=>(pk (Oe T) hr T.Ia (J0 (pv 1) J1)))) J1))))),?_⟩
  have no: ¬(l.length<=150/\l.length%5=0)->Q (.bl false) H:=fun h=>by
   have e:Bi l=false:=by
    cases q:Bi l with
    |false=>rfl
    |true=>
     unfold Bi at q;rw[Bool.and_eq_true,decide_eq_true_eq,NM.ES] at q;exact absurd ⟨q.1,q.2.1⟩ h
   have:=k H (Same.refl H);rw[e] at this;exact this
  refine J9 rfl (JX rfl (.inl hl) (Y9 rfl rfl (J9 rfl (Ig (fun h=>JV ?_) (fun h=>?_)))))
  ·rw[List.length_map] at h;exact no (by omega)
  ·rw[List.length_map] at h;refine J9 rfl ⟨a,J9 rfl ⟨.inl hl,Y9 rfl rfl ⟨(by show(0:Int)<5;decide),rfl,J9 rfl ?_⟩⟩⟩;rw[List.length_map];refine Il (fun h2=>?_) (fun h2=>?_)
   ·exact no (by omega)
   ·have h5:l.length%5=0:=by omega
    refine J9 rfl ⟨a,l,rfl,hl,h5,by omega,fun H1 d as s1 f1 c1 R=>?_⟩
    refine⟨d,rfl,⟨_,SqL.of c1⟩,fun D hD=>Zt (K:=K) (a:=d) (xs:=as.map V.ref)
     (fun i H'=>Same H1 H'/\H' D=some (.lst (((List.range i).map (Xs l)).map V.bl))) ?_ ?_ ?_ ?_⟩
    ·exact⟨(Same.refl H1).new hD,J2⟩
    ·rintro i H' _ ⟨s4,_⟩;exact SqL.of (s4 _ _ c1)
    ·rintro i y H' hy ⟨s4,hD'⟩;obtain⟨c,ec,rfl⟩:=Y3 hy;obtain⟨j,gj,_,dx,hc⟩:=R.at_ i c ec;have hi:i<l.length/5:=by have:=JL gj;rwa [List.length_range] at this
     rw[List.getElem?_range hi] at gj;have ej:i=j:=Option.some.inj gj;subst ej;refine⟨rfl,?_⟩;refine J9 rfl ⟨c,l,i,rfl,⟨dx,s4 _ _ hc⟩,fun H2 s2=>⟨_,s2 _ _ hD',?_,(s4.trans s2).put hD,?_⟩⟩
     ·rw[List.length_map,List.length_map,List.length_range];exact Z8 (by omega)
     ·rw[J2,List.range_succ,List.map_append,List.map_append];rfl
    ·rintro H' ⟨s4,hD'⟩;rw[List.length_map,R.len,List.length_range] at hD';refine⟨D,J9 rfl ⟨SqL.of hD',?_⟩⟩
     have e:((List.range (l.length/5)).map (Xs l)).all id=Bi l:=by
      unfold Bi;rw[decide_eq_true (show l.length<=150 by omega),Bool.true_and,List.all_map,Bool.eq_iff_iff,List.all_eq_true,NM.ES];constructor
      ·intro q;exact⟨h5,fun j hj=>okB_iff.mp (q j (List.mem_range.mpr hj))⟩
      ·intro q j hj;exact okB_iff.mpr (q.2 j (List.mem_range.mp hj))
     rw[e];exact k H' (s1.trans s4)
def T1 (l:List Int):Bool:=decide (l.length<=12)&&l.all fun v=>Vbcsaf.inr v (-1000) 1000
def FO (K:PySem.W.Frag):Sp:=fun vs H Q _=> ∃(a:Addr) (l:List Int),vs=[.ref a]/\SqL K H a (l.map V.int)/\l.length<=100000/\ ∀H',Same H H'->Q (.bl (T1 l)) H'
theorem FD (T:Txt K mg A):FnOk P w K mg base CX0 3 A.AQ A.B4 ["numbers"] (FO K):=by
 refine T.AK.ok FQ (fun H vs Q E h=>?_)
 ·obtain⟨a,l,rfl,hl,hsm,k⟩:=h;refine⟨rfl,fun _ _ _ _ hr=>?_⟩;refine⟨_,(J4 (J7 (Ae (Ze Ee (Jc Ju (by rfl) T.JG Js (J0 (pv 0) J1)) J5 (Jn _)) (Bl (pk (Y0 T) hr T.Y1 (J0 (pv 0) (J0 (GV Cs J5) (J0 J5 J1)))))))),?_⟩;unfold T1 at k;refine J9 rfl (JX rfl (.inl hl) (Y9 rfl rfl (J9 rfl (Ig (fun h=>?_) (fun h=>?_)))))
  ·rw[List.length_map] at h;rw[decide_eq_true (show l.length<=12 by omega)] at k;exact JM rfl rfl ⟨a,l,_,_,rfl,hl,hsm,k⟩
  ·rw[List.length_map] at h;rw[decide_eq_false (show¬l.length<=12 by omega)] at k;exact k H (Same.refl H)
def TabOk (A:Adr) (H:Hp) (tp:Addr) (t:Table):Prop:= ∃(pr pc px kd td:Addr) (kvs:List (Key×V)),TableAt A H tp t pr pc px kd td kvs/\TBnd t/\px≠pr/\px≠pc
def TabRel (A:Adr) (H:Hp) (fs:List (Str×V)):Option Table->Prop
 |none=>fs.lookup ("table":Str)=some .non
 |some t=> ∃tp,fs.lookup ("table":Str)=some (.ref tp)/\TabOk A H tp t
theorem TabOk.same {H H':Hp} {tp:Addr} {t:Table} (s:Same H H') (h:TabOk A H tp t):TabOk A H' tp t:=by
 obtain⟨pr,pc,px,kd,td,kvs,h1,h2⟩:=h;exact⟨pr,pc,px,kd,td,kvs,h1.same s,h2⟩
theorem TabRel.same {H H':Hp} {fs:List (Str×V)} (s:Same H H'): ∀{ot:Option Table},TabRel A H fs ot->TabRel A H' fs ot
 |none,h=>h
 |some t,h=>by obtain⟨tp,h1,h2⟩:=h;exact⟨tp,h1,h2.same s⟩
def AskSp (A:Adr) (K:PySem.W.Frag) (c:Vbcsaf.Call) (more:List V) (H:Hp) (Q:VK) (vs:List V):Prop:=
 ∃(p dx:Addr) (fs:List (Str×V)) (ot:Option Table),vs= .ref p::more/\H p=some (.ins A.JU dx fs)/\TabRel A H fs ot/\Ans H Q (Vbcsaf.step ⟨ot,none⟩ c).2
def Pe (A:Adr) (K:PySem.W.Frag):Sp:=fun vs H Q _=>AskSp A K .arcs [] H Q vs
theorem Vf (t:Table):(Vbcsaf.netOf t).arcs.flatMap Vbcsaf.arcNums=(List.range (Vbcsaf.netOf t).arcs.length).flatMap (fun j=>Vbcsaf.arcNums (FM.arc (Vbcsaf.netOf t) j)):=by
 have e:(Vbcsaf.netOf t).arcs=(List.range (Vbcsaf.netOf t).arcs.length).map (FM.arc (Vbcsaf.netOf t)):=by
  apply List.ext_getElem (by simp);intro j h1 h2;simp only[List.getElem_map,List.getElem_range];unfold FM.arc;rw[List.getD_eq_getElem?_getD,List.getElem?_eq_getElem h1];rfl
 conv=>lhs;rw[e]
 rw[List.flatMap_map]
theorem Wu (g:Nat->Arc): ∀n,((List.range n).flatMap (fun j=>Vbcsaf.arcNums (g j))).length=5*n:=by
 intro n
 induction n with
 |zero=>rfl
 |succ n ih=>rw[List.range_succ,List.flatMap_append,List.length_append,ih];simp[Vbcsaf.arcNums];omega
theorem PM (T:Txt K mg A):FnOk P w K mg base CX0 5 A.Kr A.Kd ["line"] (Pe A K):=by
 refine T.KK.ok C9 (fun H vs Q E h=>?_)
 ·obtain⟨p,dx,fs,ot,rfl,hp,tr,k⟩:=h;refine⟨rfl,fun _ _ _ _ hr=>?_⟩;refine⟨_,(J3 (Jm (Y5 (YO (J6 (pv 0) rfl))) (J4 (J7 (Jd (J0 (JW (by rfl) T.Jt) J1)))) Jb) (J3 (YL 1 C9.nd (Jd (J0 J5 J1))) (J3 (Y6 PassesOwn.never rfl (JQ (J6 (pk (A7 T) hr T.AA (J0 (J6 (pv 0) rfl) J1)) rfl)) (ZF 2 C9.nd) (J4 (Yi (UP PySem.F.plainAttrs_list PySem.F.slot_list_extend PySem.F.type_list_extend Iv (pv 1) (J0 (Jd (J0 (J6 (pv 2) rfl) (J0 (J6 (pv 2) rfl) (J0 (J6 (pv 2) rfl) (J0 (J6 (pv 2) rfl) (J0 (J6 (pv 2) rfl) J1)))))) J1))))) (J4 (J7 (pv 1)))))),?_⟩;cases ot with
  |none=>
   have k':Ans H Q [-2]:=k;exact JB rfl hp T.Jg T.Je tr (J9 rfl (JV (k'.one (Same.refl H))))
  |some t=>
   obtain⟨tp,hlk,pr,pc,px,kd,td,kvs,N,B,_⟩:=tr;have k':Ans H Q (0::(Vbcsaf.netOf t).arcs.flatMap Vbcsaf.arcNums):=k;refine JB rfl hp T.Jg T.Je hlk (J9 rfl (Ya ?_));refine⟨LE,fun l hl=>?_⟩;have s1:Same H (upd H l (.lst [V.int 0])):=(Same.refl H).new hl;refine JB rfl (s1 _ _ hp) T.Jg T.Je hlk ⟨tp,pr,pc,px,kd,td,t,kvs,rfl,N.same s1,B,fun H2 q ps pa dq as s2 NT=>?_⟩;refine Tk NT.obj T.Yf T.JR rfl ⟨pa,rfl,⟨_,SqL.of NT.lst⟩,?_⟩;have hl2:H2 l=some (.lst ([(0:Int)].map V.int)):=s2 _ _ J2
   have npl:pa≠l:=by
    intro z;rw[z] at NT;have:=NT.lst;rw[hl2] at this;have e:([(0:Int)].map V.int)=as.map V.ref:=by injection (Option.some.inj this)
    cases as with
    |nil=>cases e
    |cons a as=>injection e with e1 _;cases e1
   have nsm:=NT.sm2
   refine Lj (K:=K) (a:=pa) (xs:=as.map V.ref)
    (fun i σ H'=> ∃(v2:Option V),σ=[some (.ref p),some (.ref l),v2]/\Fr1 l H2 H'/\Same H H'/\H' l=some (.lst ((0::(List.range i).flatMap (fun j=>Vbcsaf.arcNums (FM.arc (Vbcsaf.netOf t) j))).map V.int))) ?_ ?_ ?_ ?_
   ·exact⟨none,rfl,Fr1.refl,s1.trans s2,hl2⟩
   ·rintro i σ H' _ ⟨v2,_,f,_⟩;exact SqL.of (f _ _ NT.lst npl)
   ·rintro Ez i y σ H' ez hy ⟨v2,rfl,f,s3,hL⟩;obtain⟨c,ec,rfl⟩:=Y3 hy;have hi:i<(Vbcsaf.netOf t).arcs.length:=by rw[<-NT.len];exact JL ec
    obtain⟨da,hc0⟩:=NT.arc i c ec;have hc:H' c=some (.ins A.Zg da (DE (FM.arc (Vbcsaf.netOf t) i))):=f _ _ hc0 (JY hc0 hl2 (by intro z;cases z));refine J9 rfl ⟨.inl ⟨rfl,_,SqL.of hL⟩,JB rfl hc T.JD T.YQ (Al _) (JB rfl hc T.JD T.YR (Ab _) (JB rfl hc T.JD T.Yn (Uy _) (JB rfl hc T.JD T.JZ (AB _) (JB rfl hc T.JD T.Zl (BJ _) ⟨zl5,fun b hb=>?_⟩))))⟩;refine⟨l,b,Y9 rfl rfl ⟨Y2 hL hb,J2,?_,?_⟩⟩
    ·rw[List.length_map,List.length_cons,Wu];exact Nat.le_of_lt (Z8 (by show 5*i+1+5<=100000;omega))
    ·refine ez _ _ (J9 rfl ⟨(f.trans (Fr1.of ((Same.refl H').new hb))).put,(s3.new hb).put hl,?_⟩);rw[J2,List.range_succ,List.flatMap_append,List.map_cons,List.map_cons,List.map_append];simp[Vbcsaf.arcNums]
   ·rintro σ H' ⟨v2,rfl,f,s3,hL⟩;refine J9 rfl ?_;rw[List.length_map,NT.len,<-Vf] at hL;exact k' H' l s3 hl hL
def Ny (A:Adr) (K:PySem.W.Frag):Sp:=fun vs H Q _=>AskSp A K .truth [] H Q vs
theorem Oa (T:Txt K mg A):FnOk P w K mg base CX0 4 A.GE A.Ha ["line"] (Ny A K):=by
 refine T.GY.ok NX (fun H vs Q E h=>?_)
 ·obtain⟨p,dx,fs,ot,rfl,hp,tr,k⟩:=h;refine⟨rfl,fun _ _ _ _ hr=>?_⟩;refine⟨_,(J3 (Jm (Y5 (YO (J6 (pv 0) rfl))) (J4 (J7 (Jd (J0 (JW (by rfl) T.Jt) J1)))) Jb) (J4 (J7 (Jr Zc (Jd (J0 J5 J1)) (pk (Dr T) hr T.C1 (J0 (J6 (pv 0) rfl) J1)))))),?_⟩;cases ot with
  |none=>
   have k':Ans H Q [-2]:=k;exact JB rfl hp T.Jg T.Je tr (J9 rfl (JV (k'.one (Same.refl H))))
  |some t=>
   obtain⟨tp,hlk,pr,pc,px,kd,td,kvs,N,B,_⟩:=tr;have k':Ans H Q ([0]++(Vbcsaf.told t).map (fun a=>(a.2.2.1:Int))):=k;refine JB rfl hp T.Jg T.Je hlk (J9 rfl (Ya ?_));refine⟨LE,fun l hl=>?_⟩;have s1:Same H (upd H l (.lst [V.int 0])):=(Same.refl H).new hl;refine JB rfl (s1 _ _ hp) T.Jg T.Je hlk ⟨tp,pr,pc,px,kd,td,t,kvs,rfl,N.same s1,B,fun H2 d2 s2 f2 c2=>?_⟩;exact k'.cat (s1.trans s2) (s2 _ _ J2) c2 (by rw[List.length_map];have:=C5 B;show 1+_<=_;omega)
theorem SS {t:Table} (b:TBnd t):Bnd (Vbcsaf.netOf t):=by
 have q: ∀j,j<(Vbcsaf.netOf t).arcs.length->(FM.arc (Vbcsaf.netOf t) j).least<=(FM.arc (Vbcsaf.netOf t) j).most/\0<=(FM.arc (Vbcsaf.netOf t) j).least/\(FM.arc (Vbcsaf.netOf t) j).most<=100000000/\ -10000<=(FM.arc (Vbcsaf.netOf t) j).price/\(FM.arc (Vbcsaf.netOf t) j).price<=10000:=fun j hj=>by
  rw[TM.A5] at hj;rw[TM.Er t hj];have tf:=TM.Am b.bd _ (TM.Au t hj);exact TM.OW b.bd tf.2.2.1 tf.2.2.2
 exact⟨fun j hj=>by have:=q j hj;omega,fun j hj=>by have:=q j hj;omega,fun j hj=>by have:=q j hj;omega⟩
theorem LP {t:Table} (b:TBnd t):FM.Wf (Vbcsaf.netOf t):=TM.Vr b.bd
def NL (A:Adr) (K:PySem.W.Frag):Sp:=fun vs H Q _=>AskSp A K .round [] H Q vs
theorem Og (T:Txt K mg A):FnOk P w K mg base CX0 7 A.Gu A.HP ["line"] (NL A K):=by
 refine T.GJ.ok EJ (fun H vs Q E h=>?_)
 ·obtain⟨p,dx,fs,ot,rfl,hp,tr,k⟩:=h;refine⟨rfl,fun _ _ _ _ hr=>?_⟩;refine⟨_,(J3 (Jm (Y5 (YO (J6 (pv 0) rfl))) (J4 (J7 (Jd (J0 (JW (by rfl) T.Jt) J1)))) Jb) (J3 (YL 1 EJ.nd (pk (C6 T) hr T.Bp (J0 (pk (A7 T) hr T.AA (J0 (J6 (pv 0) rfl) J1)) J1))) (J3 (Jm (Y5 (YO (J6 (pv 1) rfl))) (J4 (J7 (Jr Zc (Jd (J0 J5 (J0 J5 J1))) (J6 (pv 1) rfl)))) Jb) (J4 (J7 (Jr Zc (Jd (J0 J5 (J0 J5 (J0 (pk (LV T) hr T.IP (J0 (J6 (pv 0) rfl) (J0 (J6 (pv 1) rfl) J1))) J1)))) (J6 (pv 1) rfl))))))),?_⟩;cases ot with
  |none=>
   have k':Ans H Q [-2]:=k;exact JB rfl hp T.Jg T.Je tr (J9 rfl (JV (k'.one (Same.refl H))))
  |some t=>
   obtain⟨tp,hlk,pr,pc,px,kd,td,kvs,N,B,_⟩:=tr;have k':Ans H Q (match Vbcsaf.rounded t with|some x=>0::1::Vbcsaf.distance t x::x|none=>0::0::Vbcsaf.ints (VbcsFlow.noneSet (Vbcsaf.netOf t))):=k;have wf:=LP B;refine JB rfl hp T.Jg T.Je hlk (J9 rfl (Ya ?_));refine JB rfl hp T.Jg T.Je hlk ⟨tp,pr,pc,px,kd,td,t,kvs,rfl,N,B,fun H1 q ps pa dq as s1 NT=>?_⟩;refine⟨q,ps,pa,dq,JX rfl NT ⟨wf,SS B,fun H2 o d l nf s2 ho hl=>?_,fun H2 o d l e x fx F s2 ho c2=>?_⟩⟩
   ·have sA:=s1.trans s2;unfold Vbcsaf.rounded at k';rw[nf] at k';refine JB rfl ho T.Yv T.JJ rfl (J9 rfl (JV ?_));refine⟨Qr,fun l2 hl2=>?_⟩;have s3:Same H2 (upd H2 l2 (.lst [V.int 0,V.int 0])):=(Same.refl H2).new hl2;refine JB rfl (s3 _ _ ho) T.Yv T.Ue rfl ?_;have k2:Ans H Q ([0,0]++(VbcsFlow.noneSet (Vbcsaf.netOf t)).map (fun i:Nat=>(i:Int))):=k';refine k2.cat (sA.trans s3) J2 (s3 _ _ hl) ?_;rw[List.length_map];have:=MV (Vbcsaf.netOf t);have:=NT.sm1;show 2+_<=_;omega
   ·have sA:=s1.trans s2;unfold Vbcsaf.rounded at k';rw[fx] at k';refine JB rfl ho T.Yv T.JJ rfl (J9 rfl (Ya ?_));have lx:=QI wf fx;refine JB rfl (sA _ _ hp) T.Jg T.Je hlk (JB rfl ho T.Yv T.JJ rfl ⟨tp,l,pr,pc,px,kd,td,t,kvs,x,rfl,N.same sA,B,SqL.of c2,by rw[lx,TM.A5],fun H4 s4=>?_⟩);refine⟨Vi,fun d4 hd=>?_⟩;have k2:Ans H Q ([0,1,Vbcsaf.distance t x]++x):=k';have s5:Same H4 (upd H4 d4 (.lst [V.int 0,V.int 1,V.int (Vbcsaf.distance t x)])):=(Same.refl H4).new hd;refine JB rfl (s5 _ _ (s4 _ _ ho)) T.Yv T.JJ rfl ?_;refine k2.cat (sA.trans (s4.trans s5)) J2 (s5 _ _ (s4 _ _ c2)) ?_;rw[lx];have:=NT.sm2;show 3+_<=_;omega
def Mp (A:Adr) (K:PySem.W.Frag):Sp:=fun vs H Q _=>AskSp A K .prices [] H Q vs
theorem Np (T:Txt K mg A):FnOk P w K mg base CX0 8 A.Fl A.EY ["line"] (Mp A K):=by
 refine T.Fn.ok Mc (fun H vs Q E h=>?_)
 ·obtain⟨p,dx,fs,ot,rfl,hp,tr,k⟩:=h;refine⟨rfl,fun _ _ _ _ hr=>?_⟩;refine⟨_,(J3 (Jm (Y5 (YO (J6 (pv 0) rfl))) (J4 (J7 (Jd (J0 (JW (by rfl) T.Jt) J1)))) Jb) (J4 (J7 (pk (BC T) hr T.UU (J0 (pk (A7 T) hr T.AA (J0 (J6 (pv 0) rfl) J1)) J1))))),?_⟩;cases ot with
  |none=>
   have k':Ans H Q [-2]:=k;exact JB rfl hp T.Jg T.Je tr (J9 rfl (JV (k'.one (Same.refl H))))
  |some t=>
   obtain⟨tp,hlk,pr,pc,px,kd,td,kvs,N,B,_⟩:=tr;refine JB rfl hp T.Jg T.Je hlk (J9 rfl (Ya ?_));exact JB rfl hp T.Jg T.Je hlk ⟨tp,pr,pc,px,kd,td,t,kvs,rfl,N,B,fun H1 q ps pa dq as s1 NT=>⟨q,ps,pa,dq,JX rfl NT ⟨LP B,SS B,Ans.mv s1 k⟩⟩⟩
def Nw (A:Adr) (K:PySem.W.Frag):Sp:=fun vs H Q _=> ∃(a b:Addr) (x c:List Int),SqL K H a (x.map V.int)/\SqL K H b (c.map V.int)/\x.length<=100000/\c.length<=100000/\AskSp A K (.check x c) [.ref a, .ref b] H Q vs
theorem NO (T:Txt K mg A):FnOk P w K mg base CX0 5 A.Hk A.HZ ["line","amounts","node_prices"] (Nw A K):=by
 refine T.HH.ok O5 (fun H vs Q E h=>?_)
 ·obtain⟨a,b,x,c,hx,hc,lx,lc,p,dx,fs,ot,rfl,hp,tr,k⟩:=h;refine⟨rfl,fun _ _ _ _ hr=>?_⟩;refine⟨_,(J3 (Jm (YS (PW.pt (Zo (JT (pk (YV T) hr T.YK (J0 (pv 1) J1))) (Zf (JT (pk (YV T) hr T.YK (J0 (pv 2) J1))))))) (J4 (J7 (Jd (J0 (JW (by rfl) T.JF) J1)))) Jb) (J3 (Jm (Y5 (YO (J6 (pv 0) rfl))) (J4 (J7 (Jd (J0 (JW (by rfl) T.Jt) J1)))) Jb) (J4 (J7 (pk (D9 T) hr T.As (J0 (pk (A7 T) hr T.AA (J0 (J6 (pv 0) rfl) J1)) (J0 (pv 1) (J0 (pv 2) J1)))))))),?_⟩
  have bad:(Vbcsaf.isAmounts x&&Vbcsaf.isAmounts c)=false->Ans H Q [-1]:=fun h=>by
   have k':=k;unfold Vbcsaf.step at k';dsimp only at k';rw[h] at k';exact k'
  refine J9 rfl ⟨a,x,rfl,hx,lx,fun H1 s1=>J9 rfl (Vh (fun h1=>?_) (fun h1=>?_))⟩
  ·refine J9 rfl ⟨b,c,rfl,s1.seq hc,lc,fun H2 s2=>J9 rfl ?_⟩;have sA:=s1.trans s2;cases h2:Vbcsaf.isAmounts c with
   |false=>exact JV ((bad (by rw[h1,h2];rfl)).one sA)
   |true=>
    refine Ya ?_;have good:(Vbcsaf.isAmounts x&&Vbcsaf.isAmounts c)=true:=by rw[h1,h2];rfl
    unfold Vbcsaf.step at k;dsimp only at k;rw[good] at k;cases ot with
    |none=>
     have k':Ans H Q [-2]:=k;exact JB rfl (sA _ _ hp) T.Jg T.Je tr (J9 rfl (JV (k'.one sA)))
    |some t=>
     obtain⟨tp,hlk,pr,pc,px,kd,td,kvs,N,B,_⟩:=tr;refine JB rfl (sA _ _ hp) T.Jg T.Je hlk (J9 rfl (Ya ?_));exact JB rfl (sA _ _ hp) T.Jg T.Je hlk ⟨tp,pr,pc,px,kd,td,t,kvs,rfl,N.same sA,B,fun H3 q ps pa dq as s3 NT=>JM rfl rfl ⟨q,a,b,ps,pa,dq,as,_,x,c,rfl,NT,LP B,(sA.trans s3).seq hx,(sA.trans s3).seq hc,Ans.mv (sA.trans s3) k⟩⟩
  ·exact JV ((bad (by rw[h1];rfl)).one s1)
def ND (A:Adr) (K:PySem.W.Frag):Sp:=fun vs H Q _=> ∃(a:Addr) (x:List Int),SqL K H a (x.map V.int)/\x.length<=100000/\AskSp A K (.shows x) [.ref a] H Q vs
theorem NQ (T:Txt K mg A):FnOk P w K mg base CX0 5 A.HR A.GA ["line","nodes"] (ND A K):=by
 refine T.GH.ok O4 (fun H vs Q E h=>?_)
 ·obtain⟨a,x,hx,lx,p,dx,fs,ot,rfl,hp,tr,k⟩:=h;refine⟨rfl,fun _ _ _ _ hr=>?_⟩;refine⟨_,(J3 (Jm (YS (JT (pk (HL T) hr T.E8 (J0 (pv 1) J1)))) (J4 (J7 (Jd (J0 (JW (by rfl) T.JF) J1)))) Jb) (J3 (Jm (Y5 (YO (J6 (pv 0) rfl))) (J4 (J7 (Jd (J0 (JW (by rfl) T.Jt) J1)))) Jb) (J4 (J7 (pk (Cv T) hr T.At (J0 (pk (A7 T) hr T.AA (J0 (J6 (pv 0) rfl) J1)) (J0 (pv 1) J1))))))),?_⟩;unfold Vbcsaf.step at k;dsimp only at k;refine J9 rfl ⟨a,x,rfl,hx,lx,fun H1 s1=>J9 rfl ?_⟩;cases h1:Vbcsaf.isSet x with
  |false=>
   rw[h1] at k;have k':Ans H Q [-1]:=k;exact JV (k'.one s1)
  |true=>
   rw[h1] at k;refine Ya ?_;cases ot with
   |none=>
    have k':Ans H Q [-2]:=k;exact JB rfl (s1 _ _ hp) T.Jg T.Je tr (J9 rfl (JV (k'.one s1)))
   |some t=>
    obtain⟨tp,hlk,pr,pc,px,kd,td,kvs,N,B,_⟩:=tr
    have k2:Ans H Q (BL (Vbcsaf.netOf t) (Vbcsaf.nats x)):=by
     rw[<-QF (s:=⟨some t,none⟩)];exact k
    refine JB rfl (s1 _ _ hp) T.Jg T.Je hlk (J9 rfl (Ya ?_));exact JB rfl (s1 _ _ hp) T.Jg T.Je hlk ⟨tp,pr,pc,px,kd,td,t,kvs,rfl,N.same s1,B,fun H3 q ps pa dq as s3 NT=>J9 rfl ⟨q,a,ps,pa,dq,as,_,x,rfl,NT,LP B,(s1.trans s3).seq hx,h1,Ans.mv (s1.trans s3) k2⟩⟩
def IK (A:Adr) (K:PySem.W.Frag):Sp:=fun vs H Q _=> ∃(a:Addr) (x:List Int),SqL K H a (x.map V.int)/\x.length<=100000/\AskSp A K (.distance x) [.ref a] H Q vs
theorem Iz (T:Txt K mg A):FnOk P w K mg base CX0 5 A.Db A.CP ["line","amounts"] (IK A K):=by
 refine T.Cz.ok IT (fun H vs Q E h=>?_)
 ·obtain⟨a,x,hx,lx,p,dx,fs,ot,rfl,hp,tr,k⟩:=h;refine⟨rfl,fun _ _ _ _ hr=>?_⟩;refine⟨_,(J3 (Jm (YS (JT (pk (YV T) hr T.YK (J0 (pv 1) J1)))) (J4 (J7 (Jd (J0 (JW (by rfl) T.JF) J1)))) Jb) (J3 (Jm (Y5 (YO (J6 (pv 0) rfl))) (J4 (J7 (Jd (J0 (JW (by rfl) T.Jt) J1)))) Jb) (J3 (Jm (Jk BF (Jc Ju (by rfl) T.JG Js (J0 (pv 1) J1)) (pk (Bg T) hr T.A3 (J0 (J6 (pv 0) rfl) J1)) (Jn _)) (J4 (J7 (Jd (J0 (JW (by rfl) T.Za) J1)))) Jb) (J4 (J7 (Jd (J0 J5 (J0 (pk (LV T) hr T.IP (J0 (J6 (pv 0) rfl) (J0 (pv 1) J1))) (J0 (Yq MH (by rfl) T.Qv LQ (J0 (pk (G4 T) hr T.Et (J0 (pk (A7 T) hr T.AA (J0 (J6 (pv 0) rfl) J1)) (J0 (pv 1) J1))) J1)) J1))))))))),?_⟩;unfold Vbcsaf.step at k;dsimp only at k;refine J9 rfl ⟨a,x,rfl,hx,lx,fun H1 s1=>J9 rfl ?_⟩;cases h1:Vbcsaf.isAmounts x with
  |false=>
   rw[h1] at k;have k':Ans H Q [-1]:=k;exact JV (k'.one s1)
  |true=>
   rw[h1] at k;refine Ya ?_;cases ot with
   |none=>
    have k':Ans H Q [-2]:=k;exact JB rfl (s1 _ _ hp) T.Jg T.Je tr (J9 rfl (JV (k'.one s1)))
   |some t=>
    obtain⟨tp,hlk,pr,pc,px,kd,td,kvs,N,B,_⟩:=tr;have wf:=LP B;have k2:Ans H Q (Vbcsaf.guarded ⟨some t,none⟩ [(-6,decide (x.length≠(Vbcsaf.told t).length))] fun _=>(⟨some t,none⟩,[0,Vbcsaf.distance t x,Vbcsaf.bit (VbcsFlow.isFlow (Vbcsaf.netOf t) x)])).2:=k;refine JB rfl (s1 _ _ hp) T.Jg T.Je hlk (J9 rfl (Ya ?_));refine J9 rfl (JX rfl (.inl (s1.seq hx)) (JB rfl (s1 _ _ hp) T.Jg T.Je hlk ⟨tp,pr,pc,px,kd,td,t,kvs,rfl,N.same s1,B.ok,rfl,J9 rfl (Il (fun h2=>?_) (fun h2=>?_))⟩))
    ·rw[List.length_map] at h2;rw[decide_eq_true (show x.length≠(Vbcsaf.told t).length by omega)] at k2;have k':Ans H Q [-6]:=k2;exact k'.one s1
    ·rw[List.length_map] at h2;have lx':x.length=(Vbcsaf.told t).length:=by omega
     rw[decide_eq_false (show¬x.length≠(Vbcsaf.told t).length by omega)] at k2;have k':Ans H Q [0,Vbcsaf.distance t x,Vbcsaf.bit (VbcsFlow.isFlow (Vbcsaf.netOf t) x)]:=k2;refine JB rfl (s1 _ _ hp) T.Jg T.Je hlk (J9 rfl ⟨tp,a,pr,pc,px,kd,td,t,kvs,x,rfl,N.same s1,B,s1.seq hx,lx',fun H2 s2=>?_⟩);have sA:=s1.trans s2;refine JB rfl (sA _ _ hp) T.Jg T.Je hlk ⟨tp,pr,pc,px,kd,td,t,kvs,rfl,N.same sA,B,fun H3 q ps pa dq as s3 NT=>?_⟩;have sB:=sA.trans s3;refine J9 rfl ⟨q,a,ps,pa,dq,as,_,x,rfl,NT,sB.seq hx,wf.ends,fun H4 s4=> .inr (J9 rfl ?_)⟩;have sC:=sB.trans s4;refine⟨Vi,fun d hd=>k' _ d (sC.new hd) (sC.free hd) ?_⟩;rw[J2];cases VbcsFlow.isFlow (Vbcsaf.netOf t) x<;>rfl
theorem QM (kept:List (Nat×Int)) (i:Nat):(kept.any fun k=>k.1==i)=(kept.find? (fun k=>k.1==i)).isSome:=by
 induction kept with
 |nil=>rfl
 |cons a l ih=>
  rw[List.any_cons,List.find?_cons];cases(a.1==i) with
  |true=>rfl
  |false=>rw[Bool.false_or];exact ih
theorem KY (kept:List (Nat×Int)) (i j:Nat):(kept.filter fun k=>k.1 !=i).find? (fun k=>k.1==j)=if j=i then none else kept.find? (fun k=>k.1==j):=by
 induction kept with
 |nil=>simp
 |cons a l ih=>
  rw[List.filter_cons];by_cases h:a.1=i
  ·rw[if_neg (by simp[h]),ih,List.find?_cons];by_cases q:j=i
   ·rw[if_pos q,if_pos q]
   ·rw[if_neg q,if_neg q];have:(a.1==j)=false:=beq_eq_false_iff_ne.mpr (fun z=>q (by rw[<-z,h]));rw[this]
  ·rw[if_pos (by simp[h]),List.find?_cons,List.find?_cons,ih];by_cases q:j=i
   ·rw[if_pos q,if_pos q];have:(a.1==j)=false:=beq_eq_false_iff_ne.mpr (fun z=>h (by rw[z,q]));rw[this]
   ·rw[if_neg q,if_neg q]
theorem Mq {kept:List (Nat×Int)} (nd:(kept.map (·.1)).Nodup) (i:Nat):(kept.filter fun k=>k.1 !=i).length+(if(kept.find? (fun k=>k.1==i)).isSome=true then 1 else 0)=kept.length:=by
 induction kept with
 |nil=>rfl
 |cons a l ih=>
  rw[List.map_cons,List.nodup_cons] at nd;have ih:=ih nd.2;rw[List.filter_cons,List.find?_cons];by_cases h:a.1=i
  ·have e1:(a.1==i)=true:=by simp[h]
   rw[if_neg (by simp[h]),e1]
   have e2:l.find? (fun k=>k.1==i)=none:=by
    rw[List.find?_eq_none];intro k hk;have:k.1≠i:=fun z=>nd.1 (by rw[h,<-z];exact List.mem_map.mpr ⟨k,hk,rfl⟩);simp[this]
   rw[e2] at ih;simp at ih ⊢;exact ih
  ·have e1:(a.1==i)=false:=beq_eq_false_iff_ne.mpr h;rw[if_pos (by simp[h]),e1,List.length_cons,List.length_cons];show _+1+(if(l.find? (fun k=>k.1==i)).isSome=true then 1 else 0)=_;omega
theorem KeptOk.some_iff {kvs:List (Key×V)} {kept:List (Nat×Int)} (h:KeptOk kvs kept) (i:Nat):(ZH kvs (Sum.inl (i:Int))).isSome=(kept.find? (fun k=>k.1==i)).isSome:=by
 rw[h.eq i];cases kept.find? (fun k=>k.1==i)<;>rfl
theorem OC {kept:List (Nat×Int)} (nd:(kept.map (·.1)).Nodup) (p:Nat×Int->Bool):((kept.filter p).map (·.1)).Nodup:=by
 unfold List.Nodup at nd ⊢;rw[List.pairwise_map] at nd ⊢;exact List.Pairwise.filter _ nd
theorem KeptOk.put {kvs:List (Key×V)} {kept:List (Nat×Int)} (h:KeptOk kvs kept) (i:Nat) (n:Int):KeptOk (Cb kvs (Sum.inl (i:Int)) (.int n)) ((kept.filter fun k=>k.1 !=i)++[(i,n)]):=by
 have fl:=Mq h.nd2 i;refine⟨?_,?_,fun j=>?_,?_⟩
 ·cases e:ZH kvs (Sum.inl (i:Int)) with
  |none=>exact WM _ h.nd1 e
  |some v=>
   unfold Cb;rw[Uf,e,if_pos (show(some v).isSome=true from rfl)]
   have:(kvs.map (fun kv=>if kv.1=(Sum.inl (i:Int):Key) then(kv.1,V.int n) else kv)).map (·.1)=kvs.map (·.1):=by
    rw[List.map_map];apply List.map_congr_left;intro kv _;show(if kv.1=_ then(kv.1,V.int n) else kv).1=kv.1;split<;>rfl
   rw[this];exact h.nd1
 ·rw[List.map_append];refine LA (OC h.nd2 _) (fun m=>?_);obtain⟨k,hk,e⟩:=List.mem_map.mp m;have:=(List.mem_filter.mp hk).2;simp[e] at this
 ·rw[Vm,List.find?_append,KY];by_cases q:j=i
  ·subst q;rw[if_pos rfl,if_pos rfl];simp
  ·rw[if_neg (by intro z;injection z with z;omega),if_neg q,h.eq j]
   have:([(i,n)]:List (Nat×Int)).find? (fun k=>k.1==j)=none:=by
    rw[List.find?_eq_none];intro k hk;rw[List.mem_singleton] at hk;subst hk;simp;omega
   rw[this,Option.or_none]
 ·rw[List.length_append,List.length_singleton];have si:=h.some_iff i;have hl:=h.len;cases e:ZH kvs (Sum.inl (i:Int)) with
  |none=>
   rw[e] at si;rw[<-si] at fl;rw[Qy _ e,List.length_append,List.length_singleton];rw[if_neg (show¬(Option.none:Option V).isSome=true from by decide)] at fl;omega
  |some v=>
   rw[e] at si;rw[<-si] at fl;unfold Cb;rw[Uf,e,if_pos (show(some v).isSome=true from rfl),List.length_map];rw[if_pos (show(some v).isSome=true from rfl)] at fl;omega
theorem KeptOk.drop {kvs:List (Key×V)} {kept:List (Nat×Int)} (h:KeptOk kvs kept) {i:Nat} (hi:(kept.find? (fun k=>k.1==i)).isSome=true):KeptOk (Um kvs (Sum.inl (i:Int))) (kept.filter fun k=>k.1 !=i):=by
 have fl:=Mq h.nd2 i;have si:=h.some_iff i;rw[hi] at si fl;obtain⟨v,e⟩:=Option.isSome_iff_exists.mp si;refine⟨MP h.nd1,OC h.nd2 _,fun j=>?_,?_⟩
 ·rw[KY]
  have dv: ∀(kvs:List (Key×V)) (k m:Key),ZH (Um kvs k) m=if m=k then none else ZH kvs m:=by
   intro kvs k m
   induction kvs with
   |nil=>unfold Um;simp[ZH]
   |cons p r ih=>
    by_cases q:p.1=k
    ·rw[IL q,ih];by_cases z:m=k
     ·rw[if_pos z,if_pos z]
     ·rw[if_neg z,if_neg z,YE (fun y=>z (by rw[<-y,q]))]
    ·rw[Em q];by_cases z:p.1=m
     ·rw[YX z,YX z,if_neg (fun y=>q (by rw[z,y]))]
     ·rw[YE z,YE z,ih]
  rw[dv];by_cases q:j=i
  ·subst q;rw[if_pos rfl,if_pos rfl];rfl
  ·rw[if_neg (by intro z;injection z with z;omega),if_neg q,h.eq j]
 ·have:=P7 h.nd1 (X7 e);have hl:=h.len;simp at fl;omega
def Parts (fl:List (Str×V)) (b:Addr):Prop:=fl.lookup ("kept":Str)=some (.ref b)∨fl.lookup ("cells":Str)=some (.ref b)∨fl.lookup ("rows":Str)=some (.ref b)∨fl.lookup ("columns":Str)=some (.ref b)
def Own (H:Hp) (p:Addr) (fs:List (Str×V)) (b:Addr):Prop:=b=p∨ ∃tp,fs.lookup ("table":Str)=some (.ref tp)/\(b=tp∨ ∃C td fl,H tp=some (.ins C td fl)/\Parts fl b)
structure After (A:Adr) (H:Hp) (p dx:Addr) (fs:List (Str×V)) (more:List V) (ot:Option Table) (l:List Int) (H':Hp) (d:Addr) (fs':List (Str×V)):Prop where
 new:H d=none
 ans:H' d=some (.lst (l.map V.int))
 line:H' p=some (.ins A.JU dx fs')
 oth: ∀f:Str,f≠"table"->fs'.lookup f=fs.lookup f
 len:fs'.length<=fs.length
 rel:TabRel A H' fs' ot
 frame: ∀b o,H b=some o-> ¬Own H p fs b->H' b=some o
 own: ∀b o,H b=some o-> ¬Own H p fs b->V.ref b∉more-> ¬Own H' p fs' b
def ChgSp (A:Adr) (K:PySem.W.Frag) (c:Vbcsaf.Call) (more:List V) (H:Hp) (Q:VK) (vs:List V):Prop:=
 ∃(p dx:Addr) (fs:List (Str×V)) (ot:Option Table),vs= .ref p::more/\H p=some (.ins A.JU dx fs)/\fs.length<=10/\TabRel A H fs ot/\
  ∀(H':Hp) (d:Addr) (fs':List (Str×V)),After A H p dx fs more (Vbcsaf.step ⟨ot,none⟩ c).1.table (Vbcsaf.step ⟨ot,none⟩ c).2 H' d fs'->Q (.ref d) H'
theorem After.none {H H1:Hp} {p dx:Addr} {fs:List (Str×V)} {more:List V} {ot:Option Table} {r:Int} (hp:H p=some (.ins A.JU dx fs)) (tr:TabRel A H fs ot) (s:Same H H1) {d:Addr} (hd:H1 d=none):
  After A H p dx fs more ot [r] (upd H1 d (.lst [V.int r])) d fs:=by
 have s2:Same H (upd H1 d (.lst [V.int r])):=s.new hd;refine⟨s.free hd,J2,s2 _ _ hp,fun _ _=>rfl,Nat.le_refl _,tr.same s2,fun b o e _=>s2 _ _ e,fun b o e no _ ow=>no ?_⟩;rcases ow with q|⟨tp,h1,h2⟩
 ·exact .inl q
 ·refine .inr ⟨tp,h1,?_⟩;rcases h2 with q|⟨C,td,fl,h3,h4⟩
  ·exact .inl q
  ·cases ot with
   |none=>
    have:fs.lookup ("table":Str)=some .non:=tr;rw[this] at h1;cases h1
   |some t=>
    obtain⟨tp',e1,pr,pc,px,kd,td',kvs,N,_⟩:=tr;rw[e1] at h1;cases h1;have:=s2 _ _ N.obj;rw[this] at h3;cases h3;exact .inr ⟨_,_,_,N.obj,h4⟩
theorem Yc {H H1:Hp} {Q:VK} {p dx:Addr} {fs:List (Str×V)} {more:List V} {ot:Option Table} {r:Int} {σ:L2.St} (hp:H p=some (.ins A.JU dx fs)) (tr:TabRel A H fs ot)
  (k: ∀(H':Hp) (d:Addr) (fs':List (Str×V)),After A H p dx fs more ot [r] H' d fs'->Q (.ref d) H') (s:Same H H1):Dc (Jj (tC (.int r)) JK) σ H1 Q:=
 ⟨LE,fun d hd=>k _ d fs (After.none hp tr s hd)⟩
theorem E6 (t:Table) (pr pc px kd:Addr):(IE t pr pc px kd).lookup ("kept":Str)=some (.ref kd):=rfl
theorem Gc (t:Table) (pr pc px kd:Addr):(IE t pr pc px kd).lookup ("rows":Str)=some (.ref pr):=rfl
theorem GF (t:Table) (pr pc px kd:Addr):(IE t pr pc px kd).lookup ("columns":Str)=some (.ref pc):=rfl
theorem Bt (t:Table) (pr pc px kd:Addr):(IE t pr pc px kd).lookup ("cells":Str)=some (.ref px):=rfl
theorem After.tab {H H1 H2:Hp} {p dx tp pr pc px kd td:Addr} {fs:List (Str×V)} {more:List V} {t t':Table} {kvs:List (Key×V)} {r:Int} (hp:H p=some (.ins A.JU dx fs)) (hlk:fs.lookup ("table":Str)=some (.ref tp)) (N:TableAt A H tp t pr pc px kd td kvs) (s:Same H H1)
  (h2: ∀b,b≠tp->b≠kd->b≠px->H2 b=H1 b) (N2: ∃kvs',TableAt A H2 tp t' pr pc px kd td kvs') (B2:TBnd t') (d1:px≠pr) (d2:px≠pc) (WC:p≠tp) {d:Addr} (hd:H2 d=Option.none):
  After A H p dx fs more (some t') [r] (upd H2 d (.lst [V.int r])) d fs:=by
 obtain⟨kvs',N2⟩:=N2;have npk:p≠kd:=JY hp N.kept (by intro z;cases z);have npx:p≠px:=JY hp N.cells (by intro z;cases z);have hp2:H2 p=some (.ins A.JU dx fs):=by rw[h2 p WC npk npx];exact s _ _ hp
 have ndt:d≠tp:=fun z=>by rw[z,N2.obj] at hd;cases hd
 have ndk:d≠kd:=fun z=>by rw[z,N2.kept] at hd;cases hd
 have ndx:d≠px:=fun z=>by rw[z,N2.cells] at hd;cases hd
 have s3:Same H2 (upd H2 d (.lst [V.int r])):=(Same.refl H2).new hd;refine⟨s.free (by rw[<-h2 d ndt ndk ndx];exact hd),J2,s3 _ _ hp2,fun _ _=>rfl,Nat.le_refl _,⟨tp,hlk,pr,pc,px,kd,td,kvs',N2.same s3,B2,d1,d2⟩,fun b o e no=>?_,fun b o e no _ ow=>no ?_⟩
 ·have n1:b≠tp:=fun z=>no (.inr ⟨tp,hlk, .inl z⟩);have n2:b≠kd:=fun z=>no (.inr ⟨tp,hlk, .inr ⟨_,_,_,N.obj, .inl (by rw[z];exact E6 ..)⟩⟩);have n3:b≠px:=fun z=>no (.inr ⟨tp,hlk, .inr ⟨_,_,_,N.obj, .inr (.inl (by rw[z];exact Bt ..))⟩⟩);exact s3 _ _ (by rw[h2 b n1 n2 n3];exact s _ _ e)
 ·rcases ow with q|⟨tp',h1,h3⟩
  ·exact .inl q
  ·rw[hlk] at h1;cases h1;refine .inr ⟨tp,hlk,?_⟩;rcases h3 with q|⟨C,td',fl,h3,h4⟩
   ·exact .inl q
   ·rw[s3 _ _ N2.obj] at h3;cases h3;exact .inr ⟨_,_,_,N.obj,h4⟩
theorem WC {H:Hp} {p tp dx td pr pc px kd:Addr} {fs:List (Str×V)} {t:Table} (hp:H p=some (.ins A.JU dx fs)) (lt:fs.length<=10) (hlk:fs.lookup ("table":Str)=some (.ref tp)) (ho:H tp=some (.ins A.YU td (IE t pr pc px kd))):p≠tp:=fun z=>by
 subst z;rw[hp] at ho;injection (Option.some.inj ho) with _ _ e
 rw[e] at hlk;have:(IE t pr pc px kd).lookup ("table":Str)=none:=rfl;rw[this] at hlk;cases hlk
def Lf (A:Adr) (K:PySem.W.Frag):Sp:=fun vs H Q _=> ∃(c s:Int),ChgSp A K (.weights c s) [.int c, .int s] H Q vs
theorem SD (t:Table) (c s:Nat):(Vbcsaf.told {t with cellWeight:=c,sumWeight:=s}).length=(Vbcsaf.told t).length:=by
 have e1:=congrArg List.length (TM.A6 {t with cellWeight:=c,sumWeight:=s});have e2:=congrArg List.length (TM.A6 t);rw[List.length_map] at e1 e2;rw[e1,e2]
theorem L6 (T:Txt K mg A):FnOk P w K mg base CX0 3 A.Di A.De ["line","cell_weight","sum_weight"] (Lf A K):=by
 refine T.DR.ok CV (fun H vs Q E h=>?_)
 ·obtain⟨c,sw,p,dx,fs,ot,rfl,hp,lt,tr,k⟩:=h;refine⟨rfl,fun _ _ _ _ hr=>?_⟩;refine⟨_,(J3 (Jm (YS (JT (pk (Y0 T) hr T.Y1 (J0 (Jd (J0 (pv 1) (J0 (pv 2) J1))) (J0 J5 (J0 J5 J1)))))) (J4 (J7 (Jd (J0 (JW (by rfl) T.JF) J1)))) Jb) (J3 (YL 3 CV.nd (J6 (pv 0) rfl)) (J3 (Jm (Y5 (YO (pv 3))) (J4 (J7 (Jd (J0 (JW (by rfl) T.Jt) J1)))) Jb) (J3 (JP (pv 3) (pv 1) rfl) (J3 (JP (pv 3) (pv 2) rfl) (J4 (J7 (Jd (J0 J5 J1))))))))),?_⟩;unfold Vbcsaf.step at k;dsimp only at k;refine JM rfl rfl ⟨Qr,fun l0 f0=>?_⟩;have s0:Same H (upd H l0 (.lst [V.int c,V.int sw])):=(Same.refl H).new f0;refine⟨l0,[c,sw],0,9,rfl,SqL.of J2,by simp,fun H1 s1=>J9 rfl ?_⟩;have sA:=s0.trans s1;have eb:([c,sw].all fun n=>Vbcsaf.inr n 0 9)=(Vbcsaf.inr c 0 9&&Vbcsaf.inr sw 0 9):=by simp
  rw[eb];cases hb:(Vbcsaf.inr c 0 9&&Vbcsaf.inr sw 0 9) with
  |false=>
   rw[hb] at k;exact JV (Yc hp tr k sA)
  |true=>
   rw[hb] at k;refine Ya ?_;cases ot with
   |none=>exact JB rfl (sA _ _ hp) T.Jg T.Je tr (JM rfl rfl (JV (Yc hp tr k sA)))
   |some t=>
    obtain⟨tp,hlk,pr,pc,px,kd,td,kvs,N,B,d1,d2⟩:=id tr;refine JB rfl (sA _ _ hp) T.Jg T.Je hlk (JM rfl rfl (Ya ?_));rw[Bool.and_eq_true] at hb;unfold Vbcsaf.inr at hb;rw[Bool.and_eq_true,Bool.and_eq_true,decide_eq_true_eq,decide_eq_true_eq,decide_eq_true_eq,decide_eq_true_eq] at hb;have ec:(c.toNat:Int)=c:=by omega
    have es:(sw.toNat:Int)=sw:=by omega
    refine JM rfl rfl ⟨tp,_,JX rfl (sA _ _ N.obj) ⟨T.Jl,T.ZJ,(by show 7<1000;decide),?_⟩⟩;refine JM rfl rfl ⟨tp,_,JX rfl J2 ⟨T.Jl,T.Z5,(by show 7<1000;decide),?_⟩⟩;rw[Jz]
    have ef:YB "sum_weight" (V.int sw) (YB "cell_weight" (V.int c) (IE t pr pc px kd))=IE {t with cellWeight:=c.toNat,sumWeight:=sw.toNat} pr pc px kd:=by
     unfold IE;rw[ec,es];rfl
    rw[ef];refine⟨LE,fun d hd=>k _ d fs ?_⟩;have hoth: ∀b,b≠tp->upd H1 tp (.ins A.YU td (IE {t with cellWeight:=c.toNat,sumWeight:=sw.toNat} pr pc px kd)) b=H1 b:=fun b hb=>Ja hb;have N1:=N.same sA;refine After.tab (t:=t) (t':={t with cellWeight:=c.toNat,sumWeight:=sw.toNat}) hp hlk N sA (fun b hb _ _=>hoth b hb) ⟨kvs,⟨J2,by rw[hoth _ (JY N1.rows N1.obj (by intro z;cases z))];exact N1.rows,by rw[hoth _ (JY N1.cols N1.obj (by intro z;cases z))];exact N1.cols,by rw[hoth _ (JY N1.cells N1.obj (by intro z;cases z))];exact N1.cells,by rw[hoth _ (JY N1.kept N1.obj (by intro z;cases z))];exact N1.kept,N1.kok⟩⟩ ?_ d1 d2 (WC hp lt hlk N.obj) hd;exact⟨⟨B.ok.rows,B.ok.cols,B.ok.cells⟩,B.base,B.rl,B.cl,B.cells,(by show c.toNat<=9;omega),(by show sw.toNat<=9;omega),(fun kk hk=>by rw[SD];exact B.kept kk hk),B.klen⟩
theorem inr_iff {n lo hi:Int}:Vbcsaf.inr n lo hi=true↔lo<=n/\n<=hi:=by
 unfold Vbcsaf.inr;rw[Bool.and_eq_true,decide_eq_true_eq,decide_eq_true_eq]
theorem TableAt.kput {H:Hp} {p pr pc px kd dx:Addr} {t:Table} {kvs kvs':List (Key×V)} {k':List (Nat×Int)} (N:TableAt A H p t pr pc px kd dx kvs) (ko:KeptOk kvs' k'):TableAt A (upd H kd (.dK kvs')) p {t with kept:=k'} pr pc px kd dx kvs':=
 ⟨by rw[Ja (JY N.obj N.kept (by intro z;cases z))];exact N.obj,by rw[Ja (JY N.rows N.kept (by intro z;cases z))];exact N.rows,by rw[Ja (JY N.cols N.kept (by intro z;cases z))];exact N.cols,by rw[Ja (JY N.cells N.kept (by intro z;cases z))];exact N.cells,J2,ko⟩
theorem TBnd.kept' {t:Table} (B:TBnd t) {k':List (Nat×Int)} (h: ∀k∈k',k.1<(Vbcsaf.told t).length/\0<=k.2/\k.2<=1000000) (nd:(k'.map (·.1)).Nodup):TBnd {t with kept:=k'}:=by
 refine⟨⟨B.ok.rows,B.ok.cols,B.ok.cells⟩,B.base,B.rl,B.cl,B.cells,B.cw,B.sw,h,?_⟩
 have:=FM.Rs (Vbcsaf.told t).length (k'.map (·.1)) nd (fun x hx=>by
  obtain⟨k,hk,rfl⟩:=List.mem_map.mp hx;exact(h k hk).1)
 rw[List.length_map] at this;have:=C5 B;show k'.length<=1000;omega
def PZ (A:Adr) (K:PySem.W.Frag):Sp:=fun vs H Q _=> ∃(i n:Int),ChgSp A K (.keep i n) [.int i, .int n] H Q vs
theorem PD (T:Txt K mg A):FnOk P w K mg base CX0 2 A.Kz A.Kl ["line","number","amount"] (PZ A K):=by
 refine T.KW.ok GQ (fun H vs Q E h=>?_)
 ·obtain⟨i,n,p,dx,fs,ot,rfl,hp,lt,tr,k⟩:=h;refine⟨rfl,fun _ _ _ _ hr=>?_⟩;refine⟨_,(J3 (Jm (YS (PW.pt (Zo (JT (pk (Zu T) hr T.ZK (J0 (pv 1) (J0 J5 (J0 J5 J1))))) (Zf (JT (pk (Zu T) hr T.ZK (J0 (pv 2) (J0 J5 (J0 J5 J1))))))))) (J4 (J7 (Jd (J0 (JW (by rfl) T.JF) J1)))) Jb) (J3 (YL 3 GQ.nd (J6 (pv 0) rfl)) (J3 (Jm (Y5 (YO (pv 3))) (J4 (J7 (Jd (J0 (JW (by rfl) T.Jt) J1)))) Jb) (J3 (Jm (Jk VN (pv 1) (pk (Bg T) hr T.A3 (J0 (pv 3) J1)) (Jn _)) (J4 (J7 (Jd (J0 (JW (by rfl) T.UK) J1)))) Jb) (J3 (WU (QZ hr) (J6 (pv 3) rfl) (pv 1) (pv 2) rfl) (J4 (J7 (Jd (J0 J5 J1))))))))),?_⟩;unfold Vbcsaf.step at k;dsimp only at k;have s0:=Same.refl H;refine J9 rfl ⟨i,0,79,rfl,J9 rfl (Vh (fun h1=>?_) (fun h1=>?_))⟩
  ·rw[h1,Bool.true_and] at k;refine J9 rfl ⟨n,0,1000000,rfl,J9 rfl ?_⟩;cases h2:Vbcsaf.inr n 0 1000000 with
   |false=>rw[h2] at k;exact JV (Yc hp tr k s0)
   |true=>
    rw[h2] at k;refine Ya ?_;cases ot with
    |none=>exact JB rfl hp T.Jg T.Je tr (JM rfl rfl (JV (Yc hp tr k s0)))
    |some t=>
     obtain⟨tp,hlk,pr,pc,px,kd,td,kvs,N,B,d1,d2⟩:=id tr;refine JB rfl hp T.Jg T.Je hlk (JM rfl rfl (Ya ?_));rw[inr_iff] at h1 h2;obtain⟨j,rfl⟩: ∃j:Nat,i=j:=⟨i.toNat,by omega⟩;refine JM rfl rfl ⟨tp,pr,pc,px,kd,td,t,kvs,rfl,N,B.ok,Y9 rfl rfl (J9 rfl ?_)⟩;change∀(H':Hp) (d:Addr) (fs':List (Str×V)),After A H p dx fs _ (Vbcsaf.guarded _ [(-1,!true),(-2,false),(-3,decide (((Vbcsaf.told t).length:Int)<=(j:Int)))] fun _=>_).1.table (Vbcsaf.guarded _ [(-1,!true),(-2,false),(-3,decide (((Vbcsaf.told t).length:Int)<=(j:Int)))] fun _=>_).2 H' d fs'->Q (.ref d) H' at k;cases h3:decide (((Vbcsaf.told t).length:Int)<=(j:Int)) with
     |true=>rw[h3] at k;exact JV (Yc hp tr k s0)
     |false=>
      rw[h3] at k;refine Ya ?_;have kl:=N.kok.len;have kl2:=B.klen;refine J9 rfl (JB rfl N.obj T.Jl T.YH rfl (J9 rfl (JX rfl (DPut.k (k:=Sum.inl (j:Int)) N.kept (Z8 (by omega))) ?_)));refine⟨LE,fun d hd=>k _ d fs ?_⟩;have ko:=N.kok.put j n;have h4:=of_decide_eq_false h3;refine After.tab (t:=t) hp hlk N s0 (fun b _ hb _=>Ja hb) ⟨_,N.kput ko⟩ (B.kept' (fun k hk=>?_) ko.nd2) d1 d2 (WC hp lt hlk N.obj) hd;rcases List.mem_append.mp hk with q|q
      ·exact B.kept k (List.mem_filter.mp q).1
      ·rw[List.mem_singleton] at q;subst q;exact⟨by show j<_;omega,h2⟩
  ·rw[h1,Bool.false_and] at k;exact JV (Yc hp tr k s0)
def PB (A:Adr) (K:PySem.W.Frag):Sp:=fun vs H Q _=> ∃(i:Int),ChgSp A K (.free i) [.int i] H Q vs
theorem Pp (T:Txt K mg A):FnOk P w K mg base CX0 2 A.K6 A.KA ["line","number"] (PB A K):=by
 refine T.Kn.ok HB (fun H vs Q E h=>?_)
 ·obtain⟨i,p,dx,fs,ot,rfl,hp,lt,tr,k⟩:=h;refine⟨rfl,fun _ _ _ _ hr=>?_⟩;refine⟨_,(J3 (Jm (YS (JT (pk (Zu T) hr T.ZK (J0 (pv 1) (J0 J5 (J0 J5 J1)))))) (J4 (J7 (Jd (J0 (JW (by rfl) T.JF) J1)))) Jb) (J3 (YL 2 HB.nd (J6 (pv 0) rfl)) (J3 (Jm (Y5 (YO (pv 2))) (J4 (J7 (Jd (J0 (JW (by rfl) T.Jt) J1)))) Jb) (J3 (Jm (Y5 (Tu (QZ hr) (pv 1) (J6 (pv 2) rfl)) (by with_unfolding_all rfl)) (J4 (J7 (Jd (J0 (JW (by rfl) T.UK) J1)))) Jb) (J3 (Yi (Vk (J6 (pv 2) rfl) (pv 1) ⟨rfl,rfl,rfl,rfl⟩)) (J4 (J7 (Jd (J0 J5 J1))))))))),?_⟩;unfold Vbcsaf.step at k;dsimp only at k;have s0:=Same.refl H;refine J9 rfl ⟨i,0,79,rfl,J9 rfl ?_⟩;cases h1:Vbcsaf.inr i 0 79 with
  |false=>rw[h1] at k;exact JV (Yc hp tr k s0)
  |true=>
   rw[h1] at k;refine Ya ?_;cases ot with
   |none=>exact JB rfl hp T.Jg T.Je tr (JM rfl rfl (JV (Yc hp tr k s0)))
   |some t=>
    obtain⟨tp,hlk,pr,pc,px,kd,td,kvs,N,B,d1,d2⟩:=id tr;refine JB rfl hp T.Jg T.Je hlk (JM rfl rfl (Ya ?_));rw[inr_iff] at h1;obtain⟨j,rfl⟩: ∃j:Nat,i=j:=⟨i.toNat,by omega⟩;refine J9 rfl (JB rfl N.obj T.Jl T.YH rfl (JX rfl (DGet.k (k:=Sum.inl (j:Int)) N.kept) (J9 rfl ?_)));rw[N.kok.some_iff,<-QM];change∀(H':Hp) (d:Addr) (fs':List (Str×V)),After A H p dx fs _ (Vbcsaf.guarded _ [(-1,!true),(-2,false),(-3,!(t.kept.any fun k=>k.1==j))] fun _=>_).1.table (Vbcsaf.guarded _ [(-1,!true),(-2,false),(-3,!(t.kept.any fun k=>k.1==j))] fun _=>_).2 H' d fs'->Q (.ref d) H' at k;cases h3:(t.kept.any fun k=>k.1==j) with
    |false=>rw[h3] at k;exact JV (Yc hp tr k s0)
    |true=>
     rw[h3] at k;refine Ya ?_;rw[QM] at h3;have si:=N.kok.some_iff j;rw[h3] at si;obtain⟨v,e⟩:=Option.isSome_iff_exists.mp si;refine JB rfl N.obj T.Jl T.YH rfl ⟨kd,rfl, .inl ⟨_, .inl N.kept⟩,J9 rfl ⟨kvs,Sum.inl (j:Int),v,N.kept,rfl,e,?_⟩⟩;refine⟨LE,fun d hd=>k _ d fs ?_⟩;have ko:=N.kok.drop h3;exact After.tab (t:=t) hp hlk N s0 (fun b _ hb _=>Ja hb) ⟨_,N.kput ko⟩ (B.kept' (fun k hk=>B.kept k (List.mem_filter.mp hk).1) ko.nd2) d1 d2 (WC hp lt hlk N.obj) hd
def Mb (K:PySem.W.Frag):Sp:=fun vs H Q _=> ∃(a:Addr) (l:List Int),vs=[.ref a]/\SqL K H a (l.map V.int)/\l.length<=100000/\ ∀H',Same H H'->Q (.bl (Vbcsaf.isUps l)) H'
theorem Dt (T:Txt K mg A):FnOk P w K mg base CX0 3 A.F4 A.EF ["numbers"] (Mb K):=by
 refine T.Be.ok LR (fun H vs Q E h=>?_)
 ·obtain⟨a,l,rfl,hl,hsm,k⟩:=h;refine⟨rfl,fun _ _ _ _ hr=>?_⟩;refine⟨_,(J4 (J7 (Ae (pk (Zu T) hr T.ZK (J0 (Jc Ju (by rfl) T.JG Js (J0 (pv 0) J1)) (J0 J5 (J0 J5 J1)))) (Bl (pk (Y0 T) hr T.Y1 (J0 (pv 0) (J0 J5 (J0 J5 J1)))))))),?_⟩;unfold Vbcsaf.isUps at k;refine J9 rfl (JX rfl (.inl hl) ⟨_,1,8,rfl,J9 rfl (Vh (fun h=>?_) (fun h=>?_))⟩)
  ·rw[inr_iff,List.length_map] at h;rw[decide_eq_true (show 1<=l.length by omega),decide_eq_true (show l.length<=8 by omega)] at k;exact J9 rfl ⟨a,l,_,_,rfl,hl,hsm,k⟩
  ·have e:(decide (1<=l.length)&&(decide (l.length<=8)&&l.all fun n=>Vbcsaf.inr n 0 7))=false:=by
    cases q:(decide (1<=l.length)&&(decide (l.length<=8)&&l.all fun n=>Vbcsaf.inr n 0 7)) with
    |false=>rfl
    |true=>
     rw[Bool.and_eq_true,Bool.and_eq_true,decide_eq_true_eq,decide_eq_true_eq] at q;rw[List.length_map,inr_iff.mpr ⟨by omega,by omega⟩] at h;cases h
   rw[e] at k;exact k H (Same.refl H)
theorem RY {b:Bool} {A B:Prop} (h2:b=false->B) (h1:b=true->A):if b=true then A else B:=Vh h1 h2
theorem MF {f:Str} {v u:V}: ∀{fs:List (Str×V)},fs.lookup f=some u->(YB f v fs).length=fs.length
 |[],h=>by cases h
 |(g,x)::r,h=>by
  show(if g=f then(g,v)::r else(g,x)::YB f v r).length=_;by_cases e:g=f
  ·rw[if_pos e];rfl
  ·rw[if_neg e,List.length_cons,List.length_cons];rw[List.lookup_cons] at h;have:(f==g)=false:=beq_eq_false_iff_ne.mpr (fun z=>e z.symm);rw[this] at h;rw[MF h]
theorem TabRel.has {H:Hp} {fs:List (Str×V)}: ∀{ot:Option Table},TabRel A H fs ot-> ∃u,fs.lookup ("table":Str)=some u
 |none,h=>⟨_,h⟩
 |some t,⟨tp,h,_⟩=>⟨_,h⟩
theorem M7 {l:List Int} (h: ∀x∈l,0<=x):l.map V.int=Jp (Vbcsaf.nats l):=by
 unfold Jp Vbcsaf.nats;rw[List.map_map,List.map_map];apply List.map_congr_left;intro x hx;have:=h x hx;show V.int x=V.int ((x.toNat:Nat):Int)
 congr 1
 omega
theorem Pj {l:List Int} {lo hi:Int} (h:(l.all fun n=>Vbcsaf.inr n lo hi)=true): ∀x∈l,lo<=x/\x<=hi:=fun x hx=>inr_iff.mp (List.all_eq_true.mp h x hx)
theorem After.make {H H2:Hp} {p dx x td a1 a2 a3 kd d:Addr} {fs:List (Str×V)} {more:List V} {ot:Option Table} {t:Table} {l:List Int} (hp:H p=some (.ins A.JU dx fs)) (tr:TabRel A H fs ot) (lt:fs.length<=10)
  (s:Same H H2) (nx:H x=Option.none) (nk:H kd=Option.none) (N:TableAt A H2 x t a1 a2 a3 kd td []) (B:TBnd t) (d1:a3≠a1) (d2:a3≠a2) (m3:V.ref a3∈more) (m1:V.ref a1∈more) (m2:V.ref a2∈more) (hd:(upd H2 p (.ins A.JU dx (YB "table" (.ref x) fs))) d=Option.none):
  After A H p dx fs more (some t) l (upd (upd H2 p (.ins A.JU dx (YB "table" (.ref x) fs))) d (.lst (l.map V.int))) d (YB "table" (.ref x) fs):=by
 obtain⟨u,hu⟩:=tr.has;have hp2:=s _ _ hp;have pd:p≠d:=fun z=>by rw[<-z,J2] at hd;cases hd
 have lk:(YB "table" (.ref x) fs).lookup ("table":Str)=some (.ref x):=by rw[Zk,if_pos rfl]
 have s3: ∀b o,H2 b=some o->b≠p->(upd (upd H2 p (.ins A.JU dx (YB "table" (.ref x) fs))) d (.lst (l.map V.int))) b=some o:=fun b o e nb=>by
  have nd:b≠d:=fun z=>by rw[<-z,Ja nb,e] at hd;cases hd
  rw[Ja nd,Ja nb,e]
 have px:p≠x:=fun z=>by rw[<-z,hp] at nx;cases nx
 have N3:TableAt A (upd (upd H2 p (.ins A.JU dx (YB "table" (.ref x) fs))) d (.lst (l.map V.int))) x t a1 a2 a3 kd td []:=
  ⟨s3 _ _ N.obj px.symm,s3 _ _ N.rows (JY N.rows hp2 (by intro z;cases z)),s3 _ _ N.cols (JY N.cols hp2 (by intro z;cases z)),s3 _ _ N.cells (JY N.cells hp2 (by intro z;cases z)),s3 _ _ N.kept (JY N.kept hp2 (by intro z;cases z)),N.kok⟩
 refine⟨s.free (by rw[<-Ja (H:=H2) pd.symm];exact hd),J2,by rw[Ja pd];exact J2,fun f hf=>by rw[Zk,if_neg hf],Nat.le_of_eq (MF hu),⟨x,lk,_,_,_,_,_,_,N3,B,d1,d2⟩,fun b o e no=>s3 _ _ (s _ _ e) (fun z=>no (.inl z)),fun b o e no nm ow=>?_⟩;rcases ow with q|⟨tp',h1,h3⟩
 ·exact no (.inl q)
 ·rw[lk] at h1;cases h1;rcases h3 with q|⟨C,td',fl,h3,h4⟩
  ·rw[q,nx] at e;cases e
  ·rw[N3.obj] at h3;cases h3;rcases h4 with q|q|q|q
   ·rw[E6] at q;cases q;rw[nk] at e;cases e
   ·rw[Bt] at q;cases q;exact nm m3
   ·rw[Gc] at q;cases q;exact nm m1
   ·rw[GF] at q;cases q;exact nm m2
def NN (A:Adr) (K:PySem.W.Frag):Sp:=fun vs H Q _=> ∃(b:Int) (a1 a2 a3:Addr) (r c x:List Int),H a1=some (.lst (r.map V.int))/\H a2=some (.lst (c.map V.int))/\H a3=some (.lst (x.map V.int))/\r.length<=100000/\c.length<=100000/\x.length<=100000/\a3≠a1/\a3≠a2/\ChgSp A K (.table b r c x) [.int b, .ref a1, .ref a2, .ref a3] H Q vs
theorem Oi (T:Txt K mg A):FnOk P w K mg base CX0 4 A.GW A.HV ["line","base","rows","columns","cells"] (NN A K):=by
 refine T.Gs.ok NY (fun H vs Q E h=>?_)
 ·obtain⟨b,a1,a2,a3,r,c,x,e1,e2,e3,z1,z2,z3,n1,n2,p,dx,fs,ot,rfl,hp,lt,tr,k⟩:=h;refine⟨rfl,fun _ _ _ _ hr=>?_⟩;refine⟨_,(J3 (Jm (YS (PW.pt (Zo (JT (pk (Zu T) hr T.ZK (J0 (pv 1) (J0 J5 (J0 J5 J1))))) (Zo (JT (pk (Dt T) hr T.Be (J0 (pv 2) J1))) (Zo (JT (pk (Dt T) hr T.Be (J0 (pv 3) J1))) (Zf (JT (pk (Ci T) hr T.AH (J0 (pv 4) (J0 J5 J1)))))))))) (J4 (J7 (Jd (J0 (JW (by rfl) T.JF) J1)))) Jb) (J3 (Jm (YS (PW.pt (Zo (JT (pk (MX T) hr T.Ii (J0 (pv 2) J1))) (Zf (JT (pk (MX T) hr T.Ii (J0 (pv 3) J1))))))) (J4 (J7 (Jd (J0 (JW (by rfl) T.c_NO_TREE) J1)))) Jb) (J3 (Jm (Jk BF (Jc Ju (by rfl) T.JG Js (J0 (pv 4) J1)) (Jr Ug (Jc Ju (by rfl) T.JG Js (J0 (pk (YF T) hr T.YC (J0 (pv 2) J1)) J1)) (Jc Ju (by rfl) T.JG Js (J0 (pk (YF T) hr T.YC (J0 (pv 3) J1)) J1))) (Jn _)) (J4 (J7 (Jd (J0 (JW (by rfl) T.Za) J1)))) Jb) (J3 (JP (pv 0) (pm (NC T) hr T.Yd (J0 (pv 1) (J0 (pv 2) (J0 (pv 3) (J0 (pv 4) J1))))) rfl) (J4 (J7 (Jd (J0 J5 (J0 (pk (Bg T) hr T.A3 (J0 (J6 (pv 0) rfl) J1)) J1))))))))),?_⟩;unfold Vbcsaf.step at k;dsimp only at k;have ec:(decide (x.length<=36)&&x.all fun n=>Vbcsaf.inr n 0 1000000)=UI x 36:=rfl;rw[ec] at k;have s0:=Same.refl H;refine J9 rfl ⟨b,1,100,rfl,J9 rfl (RY (fun h1=>?_) (fun h1=>?_))⟩
  ·rw[h1,Bool.false_and] at k;exact JV (Yc hp tr k s0)
  rw[h1,Bool.true_and] at k;refine J9 rfl ⟨a1,r,rfl,SqL.of e1,z1,fun H1 s1=>J9 rfl (RY (fun h2=>?_) (fun h2=>?_))⟩
  ·rw[h2,Bool.false_and] at k;exact JV (Yc hp tr k s1)
  rw[h2,Bool.true_and] at k;refine J9 rfl ⟨a2,c,rfl,SqL.of (s1 _ _ e2),z2,fun H2 s2=>J9 rfl (RY (fun h3=>?_) (fun h3=>?_))⟩
  ·rw[h3,Bool.false_and] at k;exact JV (Yc hp tr k (s1.trans s2))
  rw[h3,Bool.true_and] at k;have sA:=s1.trans s2;refine J9 rfl ⟨a3,x,36,rfl,SqL.of (sA _ _ e3),z3,fun H3 s3=>J9 rfl ?_⟩;have sB:=sA.trans s3;cases h4:UI x 36 with
  |false=>rw[h4] at k;exact JV (Yc hp tr k sB)
  |true=>
   rw[h4] at k;refine Ya ?_;unfold Vbcsaf.isUps at h2 h3;unfold UI at h4;rw[Bool.and_eq_true,Bool.and_eq_true,decide_eq_true_eq,decide_eq_true_eq] at h2 h3;rw[Bool.and_eq_true,decide_eq_true_eq] at h4;have f1:=Pj h2.2.2;have f2:=Pj h3.2.2;have f3:=Pj h4.2;rw[inr_iff] at h1;rw[M7 (fun x hx=>(f1 x hx).1)] at e1;rw[M7 (fun x hx=>(f2 x hx).1)] at e2;have e3':=e3;rw[M7 (fun x hx=>(f3 x hx).1)] at e3;have q1:(Vbcsaf.nats r).length=r.length:=List.length_map ..;have q2:(Vbcsaf.nats c).length=c.length:=List.length_map ..;have q3:(Vbcsaf.nats x).length=x.length:=List.length_map ..;change∀(H':Hp) (d:Addr) (fs':List (Str×V)),After A H p dx fs _ (Vbcsaf.guarded _ ((-5,!(Vbcsaf.isTree (Vbcsaf.nats r)&&Vbcsaf.isTree (Vbcsaf.nats c)))::_) fun _=>_).1.table (Vbcsaf.guarded _ ((-5,!(Vbcsaf.isTree (Vbcsaf.nats r)&&Vbcsaf.isTree (Vbcsaf.nats c)))::_) fun _=>_).2 H' d fs'->Q (.ref d) H' at k;refine J9 rfl (JX rfl (SqL.of (sB _ _ e1)) ⟨by omega,by omega,fun H4 s4=>J9 rfl (RY (fun h5=>?_) (fun h5=>?_))⟩)
   ·rw[h5,Bool.false_and] at k;exact JV (Yc hp tr k (sB.trans s4))
   rw[h5,Bool.true_and] at k;have sC:=sB.trans s4;refine J9 rfl (JX rfl (SqL.of (sC _ _ e2)) ⟨by omega,by omega,fun H5 s5=>J9 rfl ?_⟩);have sD:=sC.trans s5;cases h6:Vbcsaf.isTree (Vbcsaf.nats c) with
   |false=>rw[h6] at k;exact JV (Yc hp tr k sD)
   |true=>
    rw[h6] at k;refine Ya ?_;refine J9 rfl (JX rfl (.inl (SqL.of (sD _ _ e3'))) (J9 rfl (JX rfl (SqL.of (sD _ _ e1)) ⟨by omega,fun H6 l1 s6 g1 c1=>JX rfl (.inl (SqL.of c1)) (J9 rfl (JX rfl (SqL.of (s6 _ _ (sD _ _ e2))) ⟨by omega,fun H7 l2 s7 g2 c2=>JX rfl (.inl (SqL.of c2)) ?_⟩))⟩)));have sE:=(sD.trans s6).trans s7;rw[Jh,Jh,List.length_map];have m1:=TM.Yx (Vbcsaf.nats r);have m2:=TM.Yx (Vbcsaf.nats c);refine Y9 rfl rfl ⟨.inl ⟨by omega,by omega⟩,rfl,J9 rfl (Il (fun h7=>?_) (fun h7=>?_))⟩
    ·have h8:x.length≠(Vbcsaf.leaves (Vbcsaf.nats r)).length*(Vbcsaf.leaves (Vbcsaf.nats c)).length:=fun z=>h7 (by rw[z];simp);rw[decide_eq_true h8] at k;exact Yc hp tr k sE
    ·have h8:x.length=(Vbcsaf.leaves (Vbcsaf.nats r)).length*(Vbcsaf.leaves (Vbcsaf.nats c)).length:=by exact_mod_cast h7
     rw[decide_eq_false (fun z=>z h8)] at k;refine JM rfl rfl (JM rfl rfl (fun o td ho htd nod=>?_));refine⟨o,td,_,_,_,_,rfl,J2,fun kd hkd=>⟨rfl,?_⟩⟩;have kdo:kd≠o:=fun z=>by rw[z,J2] at hkd;cases hkd
     rw[Ja kdo] at hkd;have kdt:kd≠td:=fun z=>by rw[z,J2] at hkd;cases hkd
     rw[Ja kdt] at hkd;rw[Rf kdo.symm,Jz]
     have sF:Same H7 (upd (upd (upd H7 td (.own o)) kd (.dK [])) o (.ins A.YU td [("base", .int b),("rows", .ref a1),("columns", .ref a2),("cells", .ref a3),("cell_weight", .int 1),("sum_weight", .int 1),("kept", .ref kd)])):=
      (((Same.refl H7).new htd).new (by rw[Ja kdt];exact hkd)).new (by rw[Ja kdo.symm,Ja nod.symm];exact ho)
     have N:TableAt A (upd (upd (upd H7 td (.own o)) kd (.dK [])) o (.ins A.YU td [("base", .int b),("rows", .ref a1),("columns", .ref a2),("cells", .ref a3),("cell_weight", .int 1),("sum_weight", .int 1),("kept", .ref kd)])) o ⟨b.toNat,Vbcsaf.nats r,Vbcsaf.nats c,Vbcsaf.nats x,1,1,[]⟩ a1 a2 a3 kd td []:=by
      refine⟨?_,sF _ _ (sE _ _ e1),sF _ _ (sE _ _ e2),sF _ _ (sE _ _ e3),by rw[Ja kdo];exact J2,⟨List.nodup_nil,List.nodup_nil,fun _=>rfl,rfl⟩⟩;rw[J2];unfold IE;show _=some (HO.ins _ _ [("base", .int (b.toNat:Nat)),_,_,_,_,_,_]);rw[show((b.toNat:Nat):Int)=b by omega];rfl
     generalize upd (upd (upd H7 td (.own o)) kd (.dK [])) o _=H8 at sF N ⊢;have sG:=sE.trans sF
     have B:TBnd ⟨b.toNat,Vbcsaf.nats r,Vbcsaf.nats c,Vbcsaf.nats x,1,1,[]⟩:=by
      refine⟨⟨(TM.Cm _).mp h5,(TM.Cm _).mp h6,by show(Vbcsaf.nats x).length=_;rw[q3];exact h8⟩,⟨by show 1<=b.toNat;omega,by show b.toNat<=100;omega⟩,by show(Vbcsaf.nats r).length<=8;omega,by show(Vbcsaf.nats c).length<=8;omega,fun v hv=>?_,by show 1<=9;decide,by show 1<=9;decide,(fun _ h=>absurd h List.not_mem_nil),by show 0<=1000;decide⟩;obtain⟨y,hy,rfl⟩:=List.mem_map.mp hv;have:=f3 y hy;omega
     have npo:p≠o:=fun z=>by rw[<-z,sE _ _ hp] at ho;cases ho
     obtain⟨u,hu⟩:=tr.has;refine J9 rfl ⟨p,_,JX rfl (sG _ _ hp) ⟨T.Jg,T.Je,(by show fs.length<1000;omega),?_⟩⟩;have hnp:(upd H8 p (.ins A.JU dx (YB "table" (.ref o) fs))) p=some (.ins A.JU dx (YB "table" (.ref o) fs)):=J2
     have N9:TableAt A (upd H8 p (.ins A.JU dx (YB "table" (.ref o) fs))) o ⟨b.toNat,Vbcsaf.nats r,Vbcsaf.nats c,Vbcsaf.nats x,1,1,[]⟩ a1 a2 a3 kd td []:=by
      have hp8:=sG _ _ hp;exact⟨by rw[Ja npo.symm];exact N.obj,by rw[Ja (JY N.rows hp8 (by intro z;cases z))];exact N.rows,by rw[Ja (JY N.cols hp8 (by intro z;cases z))];exact N.cols,by rw[Ja (JY N.cells hp8 (by intro z;cases z))];exact N.cells,by rw[Ja (JY N.kept hp8 (by intro z;cases z))];exact N.kept,N.kok⟩
     refine JB rfl hnp T.Jg T.Je (by rw[Zk,if_pos rfl]) ⟨o,_,_,_,_,_,_,_,rfl,N9,B.ok,Qr,fun d hd=>k _ d (YB "table" (.ref o) fs) ?_⟩;exact After.make (l:=[0,_]) hp tr lt sG (sE.free ho) (sE.free hkd) N B n1 n2 (by simp) (by simp) (by simp) hd
open PyFlat (putRow putRows put1 put)
theorem T7 {pre mid post:List Int} {i j:Int} (hi:i=pre.length) (hj:j=pre.length+mid.length):DA ((pre++(mid++post)).map V.int) (some i) (some j)=mid.map V.int:=by
 subst hi;have hj':j=((pre.length+mid.length:Nat):Int):=by omega
 subst hj';unfold DA
 have e1:HT.sIx ((pre++(mid++post)).map V.int).length 0 (some (pre.length:Int))=pre.length:=by
  rw[HT.sIx_nat,List.length_map,List.length_append];omega
 have e2:HT.sIx ((pre++(mid++post)).map V.int).length ((pre++(mid++post)).map V.int).length (some ((pre.length+mid.length:Nat):Int))=pre.length+mid.length:=by
  rw[HT.sIx_nat,List.length_map,List.length_append,List.length_append];omega
 rw[e1,e2,<-List.map_drop,<-List.map_take,List.drop_left,Nat.add_sub_cancel_left,List.take_left]
theorem W7 {pre post:List Int} {p:Int} {i:Int} (hi:i=pre.length):Nu ((pre++(p::post)).map V.int) i=some (.int p):=by
 subst hi;apply A0;rw[List.getElem?_map,List.getElem?_append_right (Nat.le_refl _),Nat.sub_self];rfl
theorem LO: ∀{rows:List (List Int)} {i:Nat} {r:List Int},rows[i]?=some r->putRows rows=putRows (rows.take i)++(((r.length:Int)::r)++putRows (rows.drop (i+1)))/\putRows (rows.take (i+1))=putRows (rows.take i)++((r.length:Int)::r)
 |[],i,r,h=>by simp at h
 |x::xs,0,r,h=>by
  have e:x=r:=Option.some.inj h;subst e;exact⟨rfl,by show putRow x++putRows (xs.take 0)=_;rw[List.take_zero];exact List.append_nil _⟩
 |x::xs,i+1,r,h=>by
  obtain⟨h1,h2⟩:=LO (rows:=xs) (i:=i) h;constructor
  ·show putRow x++putRows xs=(putRow x++putRows (xs.take i))++_;rw[h1,List.append_assoc];rfl
  ·show putRow x++putRows (xs.take (i+1))=(putRow x++putRows (xs.take i))++_;rw[h2,List.append_assoc]
def WX (p:Int) (an al:Addr) (e:Int):List (Str×V):=[("number", .int p),("numbers", .ref an),("lists", .ref al),("end", .int e)]
structure CallAt (A:Adr) (H:Hp) (o:Addr) (p:Int) (xs:List Int) (rows:List (List Int)) (rs:List Addr) (an al dx:Addr) (e:Int):Prop where
 obj:H o=some (.ins A.UV dx (WX p an al e))
 num:H an=some (.lst (xs.map V.int))
 lst:H al=some (.lst (rs.map V.ref))
 len:rs.length=rows.length
 row: ∀i c,rs[i]?=some c->H c=some (.lst ((rows.getD i []).map V.int))
 nd:rs.Nodup
def Qc (A:Adr):Sp:=fun vs H Q _=> ∃(p dx:Addr) (v1 v2 v3 v4:V),vs=[.ref p,v1,v2,v3,v4]/\H p=some (.ins A.UV dx [])/\
 Q .non (upd H p (.ins A.UV dx [("number",v1),("numbers",v2),("lists",v3),("end",v4)]))
theorem PQ (T:Txt K mg A):FnOk P w K mg base CX0 1 A.IW A.KF ["self","number","numbers","lists","end"] (Qc A):=by
 refine T.Zp.ok Qk (fun H vs Q E h=>?_)
 ·obtain⟨p,dx,v1,v2,v3,v4,rfl,hp,k⟩:=h;refine⟨rfl,fun _ _ _ _ hr=>?_⟩;refine⟨_,(J3 (JP (pv 0) (pv 1) rfl) (J3 (JP (pv 0) (pv 2) rfl) (J3 (JP (pv 0) (pv 3) rfl) (J4 (JP (pv 0) (pv 4) rfl))))),?_⟩;refine JM rfl rfl ⟨p,_,JX rfl hp ⟨T.Z0,T.EZ,(by show 0<1000;decide),?_⟩⟩;refine JM rfl rfl ⟨p,_,JX rfl J2 ⟨T.Z0,T.Zq,(by show 1<1000;decide),?_⟩⟩;refine JM rfl rfl ⟨p,_,JX rfl J2 ⟨T.Z0,T.Zv,(by show 2<1000;decide),?_⟩⟩;refine JM rfl rfl ⟨p,_,JX rfl J2 ⟨T.Z0,T.MJ,(by show 3<1000;decide),?_⟩⟩;rw[Jz,Jz,Jz];exact k
def Pu (A:Adr) (K:PySem.W.Frag):Sp:=fun vs H Q _=> ∃(a:Addr) (pre post xs:List Int) (p:Int) (rows:List (List Int)),vs=[.ref a, .int pre.length]/\SqL K H a ((pre++(p::(xs++(putRows rows++post)))).map V.int)/\
 rows_SHAPES.lookup p=some [(xs.length:Int),(rows.length:Int)]/\rows.length<=1000/\
 ∀(H':Hp) (o:Addr) (rs:List Addr) (an al dx:Addr),Same H H'->CallAt A H' o p xs rows rs an al dx ((pre.length+1+xs.length+(putRows rows).length:Nat):Int)->(∀c∈rs,H c=none)->Q (.ref o) H'
theorem Q9 (T:Txt K mg A):FnOk P w K mg base CX0 3 A.IY A.KM ["calls","begin"] (Pu A K):=by
 refine T.Ke.ok YA (fun H vs Q E h=>?_)
 ·obtain⟨a,pre,post,xs,p,rows,rfl,hl,hsh,hrl,k⟩:=h;refine⟨rfl,fun _ _ _ _ hr=>?_⟩;refine⟨_,(J3 (YL 2 YA.nd (Jq Ji (pv 0) (pv 1) (fun _ _=>rfl))) (J3 (YL 3 YA.nd (W4 T.Rq.2 (T8 (by rfl) T.Rq.1 rfl) (pv 2) (fun _ _=>rfl))) (J3 (YL 4 YA.nd (Jr Ym (Jr Ym (pv 1) J5) (Jq Ui (pv 3) J5 (fun _ _=>rfl)))) (J3 (YL 5 YA.nd (UN AX (pv 0) (ZQ (Jr Ym (pv 1) J5)) (ZQ (pv 4)))) (J3 (YL 6 YA.nd (Jd J1)) (J3 (GK PassesOwn.never (Jk DN (Jc Ju (by rfl) T.JG Js (J0 (pv 6) J1)) (Jq Ui (pv 3) J5 (fun _ _=>rfl)) (Jn _)) (J3 (YL 7 YA.nd (Jr Ym (Jr Ym (pv 4) J5) (Jq Ji (pv 0) (pv 4) (fun _ _=>rfl)))) (J3 (Yi (UP PySem.F.plainAttrs_list PySem.F.slot_list_append PySem.F.type_list_append Yh (pv 6) (J0 (UN AX (pv 0) (ZQ (Jr Ym (pv 4) J5)) (ZQ (pv 7))) J1))) (J4 (YL 4 YA.nd (pv 7)))))) (J4 (J7 (pm (PQ T) hr T.Zp (J0 (pv 2) (J0 (pv 5) (J0 (pv 6) (J0 (pv 4) J1))))))))))))),?_⟩;refine JM rfl rfl (YJ rfl rfl hl (W7 rfl) ?_);refine J9 rfl ⟨_,_,rfl,hsh,fun c hc=>?_⟩;refine J9 rfl (Y9 rfl rfl (J9 rfl (YJ rfl rfl (hc H) (rfl:Nu [V.int (xs.length:Int),V.int (rows.length:Int)] (0:Int)=some (.int (xs.length:Int))) (Y9 rfl rfl ?_))));refine JM rfl rfl (Y9 rfl rfl (J9 rfl (JM rfl rfl (JX rfl hl (fun an han=>?_)))));have e0:pre++(p::(xs++(putRows rows++post)))=(pre++[p])++(xs++(putRows rows++post)):=by rw[List.append_assoc];rfl
  have ec:DA ((pre++(p::(xs++(putRows rows++post)))).map V.int) (some ((pre.length:Int)+1)) (some ((pre.length:Int)+1+(xs.length:Int)))=xs.map V.int:=by
   rw[e0];exact T7 (by rw[List.length_append];rfl) (by rw[List.length_append];rfl)
  rw[ec];refine⟨zl0,fun al hal=>?_⟩;have nal:al≠an:=fun z=>by rw[z,J2] at hal;cases hal
  have s1:Same H (upd (upd H an (.lst (xs.map V.int))) al (.lst [])):=((Same.refl H).new han).new hal;have hal0:H al=none:=by rw[Ja nal] at hal;exact hal
  let J:Nat->L2.St->Hp->Prop:=fun i σ H'=> ∃(v7:Option V) (rs:List Addr),σ=[some (.ref a),some (.int pre.length),some (.int p),some (.ref c),some (.int ((pre.length+1+xs.length+(putRows (rows.take i)).length:Nat):Int)),some (.ref an),some (.ref al),v7]/\Same H H'/\
   H' an=some (.lst (xs.map V.int))/\H' al=some (.lst (rs.map V.ref))/\rs.length=i/\(∀j d,rs[j]?=some d->H' d=some (.lst ((rows.getD j []).map V.int))/\H d=none/\d≠al)/\rs.Nodup
  have h0:J 0 [some (.ref a),some (.int pre.length),some (.int p),some (.ref c),some (.int ((pre.length:Int)+1+(xs.length:Int))),some (.ref an),some (.ref al),none] (upd (upd H an (.lst (xs.map V.int))) al (.lst [])):=by
   refine⟨none,[],?_,s1,by rw[Ja nal.symm];exact J2,J2,rfl,fun j d q=>by simp at q,List.nodup_nil⟩;show _=[_,_,_,_,some (V.int ((pre.length+1+xs.length+(putRows (rows.take 0)).length:Nat):Int)),_,_,_];rw[List.take_zero];rfl
  refine⟨fun m σ H'=> ∃i,m+i=rows.length/\J i σ H',⟨rows.length,0,rfl,h0⟩,?_⟩;rintro m σ H' ⟨i,hm,v7,rs,rfl,s2,h1,h2,h3,h4,h5⟩;refine J9 rfl (JX rfl (.inl (SqL.of h2)) (J9 rfl (YJ rfl rfl (hc H') (rfl:Nu [V.int (xs.length:Int),V.int (rows.length:Int)] (1:Int)=some (.int (rows.length:Int))) (Y9 rfl rfl (J9 rfl ?_)))));refine Ig (fun hi=>⟨J (i+1),fun σ' H'' q=>⟨m-1,?_,i+1,?_,q⟩,?_⟩) (fun hi=>?_)
  ·rw[List.length_map] at hi;omega
  ·rw[List.length_map] at hi;omega
  ·rw[List.length_map] at hi;have hi':i<rows.length:=by omega
   have er:rows[i]?=some (rows.getD i []):=by rw[List.getD_eq_getElem?_getD,List.getElem?_eq_getElem hi'];rfl
   generalize rows.getD i []=r at er;obtain⟨q1,q2⟩:=LO er;have hl2:SqL K H' a ((pre++(p::(xs++(putRows rows++post)))).map V.int):=s2.seq hl
   have eL:pre++(p::(xs++(putRows rows++post)))=(pre++(p::(xs++putRows (rows.take i))))++((r.length:Int)::(r++(putRows (rows.drop (i+1))++post))):=by
    rw[q1];simp
   have eL2:pre++(p::(xs++(putRows rows++post)))=(pre++(p::(xs++(putRows (rows.take i)++[(r.length:Int)]))))++(r++(putRows (rows.drop (i+1))++post)):=by
    rw[q1];simp
   refine J9 rfl (Y9 rfl rfl (JM rfl rfl (YJ rfl rfl hl2 (by rw[eL];exact W7 (by simp;omega)) (Y9 rfl rfl ?_))));refine J9 rfl ⟨.inl ⟨rfl,_,SqL.of h2⟩,JM rfl rfl (Y9 rfl rfl (J9 rfl (JM rfl rfl (JX rfl hl2 (fun d hd=>?_)))))⟩
   have ec2:DA ((pre++(p::(xs++(putRows rows++post)))).map V.int) (some (((pre.length+1+xs.length+(putRows (rows.take i)).length:Nat):Int)+1)) (some (((pre.length+1+xs.length+(putRows (rows.take i)).length:Nat):Int)+1+(r.length:Int)))=r.map V.int:=by
    rw[eL2];exact T7 (by simp;omega) (by simp;omega)
   rw[ec2];have ndal:d≠al:=fun z=>by rw[z,h2] at hd;cases hd
   refine Vj rfl rfl (by rw[Ja ndal.symm];exact h2) (by rw[List.length_map];exact Z8 (by omega)) ?_;refine J9 rfl ?_;have s3:Same H' (upd H' d (.lst (r.map V.int))):=(Same.refl H').new hd;refine⟨some (.int (((pre.length+1+xs.length+(putRows (rows.take i)).length:Nat):Int)+1+(r.length:Int))),rs++[d],?_,(s2.trans s3).put hal0,?_,?_,?_,fun j e q=>?_,LA h5 (fun z=>?_)⟩
   ·show _=[_,_,_,_,some (V.int ((pre.length+1+xs.length+(putRows (rows.take (i+1))).length:Nat):Int)),_,_,_];rw[q2]
    have:(((pre.length+1+xs.length+(putRows (rows.take i)).length:Nat):Int)+1+(r.length:Int))=((pre.length+1+xs.length+(putRows (rows.take i)++((r.length:Int)::r)).length:Nat):Int):=by
     rw[List.length_append,List.length_cons];omega
    rw[<-this];rfl
   ·rw[Ja nal.symm];exact s3 _ _ h1
   ·rw[J2,List.map_append];rfl
   ·rw[List.length_append,h3];rfl
   ·by_cases qj:j<rs.length
    ·rw[List.getElem?_append_left qj] at q;obtain⟨z1,z2,z3⟩:=h4 j e q;exact⟨by rw[Ja z3];exact s3 _ _ z1,z2,z3⟩
    ·rw[List.getElem?_append_right (by omega)] at q
     have ej:j=i:=by
      have:=JL q;rw[List.length_singleton] at this;omega
     subst ej;rw[h3,Nat.sub_self] at q;have:d=e:=Option.some.inj q;subst this;refine⟨?_,s2.free hd,ndal⟩;rw[Ja ndal,J2,List.getD_eq_getElem?_getD,er];rfl
   ·obtain⟨j,hj,e⟩:=List.getElem_of_mem z;have:=(h4 j d (by rw[List.getElem?_eq_getElem hj,e])).1;rw[this] at hd;cases hd
  ·rw[List.length_map] at hi;have ei:i=rows.length:=by omega
   subst ei;rw[List.take_length] at*;refine JM rfl rfl (JM rfl rfl (fun o dx ho hdx nox=>?_));refine⟨o,dx,_,_,_,_,rfl,J2,rfl,?_⟩;rw[Jz];have s3:Same H' (upd (upd H' dx (.own o)) o (.ins A.UV dx (WX p an al ((pre.length+1+xs.length+(putRows rows).length:Nat):Int)))):=((Same.refl H').new hdx).new (by rw[Ja nox.symm];exact ho);refine k _ o rs an al dx (s2.trans s3) ⟨J2,s3 _ _ h1,s3 _ _ h2,h3,fun j e q=>s3 _ _ (h4 j e q).1,h5⟩ (fun e he=>?_);obtain⟨j,hj,q⟩:=List.getElem_of_mem he;exact(h4 j e (by rw[List.getElem?_eq_getElem hj,q])).2.1
theorem Sa (t:Table) (cs:List Nat):(Vbcsaf.told {t with cells:=cs}).length=(Vbcsaf.told t).length:=by
 have e1:=congrArg List.length (TM.A6 {t with cells:=cs});have e2:=congrArg List.length (TM.A6 t);rw[List.length_map] at e1 e2;rw[e1,e2]
theorem TQ (l:List Nat) (i n:Nat):(Jp l).set i (.int n)=Jp (l.set i n):=by
 unfold Jp;rw[List.map_set,List.map_set]
def PL (A:Adr) (K:PySem.W.Frag):Sp:=fun vs H Q _=> ∃(r c n:Int),ChgSp A K (.cell r c n) [.int r, .int c, .int n] H Q vs
theorem Qa (T:Txt K mg A):FnOk P w K mg base CX0 3 A.Kk A.Kx ["line","row_place","column_place","number"] (PL A K):=by
 refine T.K9.ok Cf (fun H vs Q E h=>?_)
 ·obtain⟨r,c,n,p,dx,fs,ot,rfl,hp,lt,tr,k⟩:=h;refine⟨rfl,fun _ _ _ _ hr=>?_⟩;refine⟨_,(J3 (Jm (YS (PW.pt (Zo (JT (pk (Y0 T) hr T.Y1 (J0 (Jd (J0 (pv 1) (J0 (pv 2) J1))) (J0 J5 (J0 J5 J1))))) (Zf (JT (pk (Zu T) hr T.ZK (J0 (pv 3) (J0 J5 (J0 J5 J1))))))))) (J4 (J7 (Jd (J0 (JW (by rfl) T.JF) J1)))) Jb) (J3 (YL 4 Cf.nd (J6 (pv 0) rfl)) (J3 (Jm (Y5 (YO (pv 4))) (J4 (J7 (Jd (J0 (JW (by rfl) T.Jt) J1)))) Jb) (J3 (YL 5 Cf.nd (Jc Ju (by rfl) T.JG Js (J0 (pk (YF T) hr T.YC (J0 (J6 (pv 4) rfl) J1)) J1))) (J3 (Jm (PW.pt (Pb (Jk VN (pv 1) (Jc Ju (by rfl) T.JG Js (J0 (pk (YF T) hr T.YC (J0 (J6 (pv 4) rfl) J1)) J1)) (Jn _)) (IN (Jk VN (pv 2) (pv 5) (Jn _))))) (J4 (J7 (Jd (J0 (JW (by rfl) T.UK) J1)))) Jb) (J3 (Mx (pv 3) (Mo (J6 (pv 4) rfl) (Jr Ym (Jr Ug (pv 1) (pv 5)) (pv 2)) Uh)) (J4 (J7 (Jd (J0 J5 J1)))))))))),?_⟩;unfold Vbcsaf.step at k;dsimp only at k;refine JM rfl rfl ⟨Qr,fun l0 f0=>?_⟩;have s0:Same H (upd H l0 (.lst [V.int r,V.int c])):=(Same.refl H).new f0;have eb:([r,c].all fun n=>Vbcsaf.inr n 0 35)=(Vbcsaf.inr r 0 35&&Vbcsaf.inr c 0 35):=by simp
  have e3:(Vbcsaf.inr r 0 35&&(Vbcsaf.inr c 0 35&&Vbcsaf.inr n 0 1000000))=(([r,c].all fun n=>Vbcsaf.inr n 0 35)&&Vbcsaf.inr n 0 1000000):=by rw[eb,Bool.and_assoc]
  rw[e3] at k;refine⟨l0,[r,c],0,35,rfl,SqL.of J2,by simp,fun H1 s1=>J9 rfl (RY (fun h1=>?_) (fun h1=>?_))⟩
  ·rw[h1,Bool.false_and] at k;exact JV (Yc hp tr k (s0.trans s1))
  rw[h1,Bool.true_and] at k;have sA:=s0.trans s1;refine J9 rfl ⟨n,0,1000000,rfl,J9 rfl ?_⟩;cases h2:Vbcsaf.inr n 0 1000000 with
  |false=>rw[h2] at k;exact JV (Yc hp tr k sA)
  |true=>
   rw[h2] at k;refine Ya ?_;cases ot with
   |none=>exact JB rfl (sA _ _ hp) T.Jg T.Je tr (JM rfl rfl (JV (Yc hp tr k sA)))
   |some t=>
    obtain⟨tp,hlk,pr,pc,px,kd,td,kvs,N,B,d1,d2⟩:=id tr;refine JB rfl (sA _ _ hp) T.Jg T.Je hlk (JM rfl rfl (Ya ?_));rw[eb,Bool.and_eq_true,inr_iff,inr_iff] at h1;rw[inr_iff] at h2;obtain⟨i,rfl⟩: ∃i:Nat,r=i:=⟨r.toNat,by omega⟩;obtain⟨j,rfl⟩: ∃j:Nat,c=j:=⟨c.toNat,by omega⟩;obtain⟨m,rfl⟩: ∃m:Nat,n=m:=⟨n.toNat,by omega⟩;have rl:=B.rl;have cl:=B.cl;refine JB rfl (sA _ _ N.obj) T.Jl T.JN rfl ⟨pc,t.cols,rfl,SqL.of (sA _ _ N.cols),by omega,fun H2 l2 s2 f2 c2=>JX rfl (.inl (SqL.of c2)) ?_⟩;have sB:=sA.trans s2;rw[Jh];refine J9 rfl (JB rfl (sB _ _ N.obj) T.Jl T.Y7 rfl ⟨pr,t.rows,rfl,SqL.of (sB _ _ N.rows),by omega,fun H3 l3 s3 f3 c3=>JX rfl (.inl (SqL.of c3)) ?_⟩);have sC:=sB.trans s3;rw[Jh];change∀(H':Hp) (d:Addr) (fs':List (Str×V)),After A H p dx fs _ (Vbcsaf.guarded _ [(-3,decide (((Vbcsaf.leaves t.rows).length:Int)<=(i:Int))||decide (((Vbcsaf.leaves t.cols).length:Int)<=(j:Int)))] fun _=>_).1.table (Vbcsaf.guarded _ [(-3,decide (((Vbcsaf.leaves t.rows).length:Int)<=(i:Int))||decide (((Vbcsaf.leaves t.cols).length:Int)<=(j:Int)))] fun _=>_).2 H' d fs'->Q (.ref d) H' at k;refine Y9 rfl rfl (J9 rfl (Ig (fun h3=>JV ?_) (fun h3=>?_)))
    ·rw[decide_eq_true h3,Bool.true_or] at k;exact Yc hp tr k sC
    rw[decide_eq_false h3,Bool.false_or] at k;refine JM rfl rfl (Y9 rfl rfl (J9 rfl (Ig (fun h4=>?_) (fun h4=>?_))))
    ·rw[decide_eq_true h4] at k;exact Yc hp tr k sC
    rw[decide_eq_false h4] at k;have hi:i<(Vbcsaf.leaves t.rows).length:=by omega
    have hj:j<(Vbcsaf.leaves t.cols).length:=by omega
    have m1:=TM.Yx t.cols
    have hix:i*(Vbcsaf.leaves t.cols).length+j<t.cells.length:=by
     rw[B.ok.cells];have:(i+1)*(Vbcsaf.leaves t.cols).length<=(Vbcsaf.leaves t.rows).length*(Vbcsaf.leaves t.cols).length:=Nat.mul_le_mul_right _ hi;rw[Nat.succ_mul] at this;omega
    have ei:(i:Int)*((Vbcsaf.leaves t.cols).length:Int)+(j:Int)=((i*(Vbcsaf.leaves t.cols).length+j:Nat):Int):=by push_cast;rfl
    refine J9 rfl (JB rfl (sC _ _ N.obj) T.Jl T.Yo rfl (JM rfl rfl (Y9 rfl rfl ⟨.inr ⟨by omega,by omega⟩,J9 rfl (Y9 rfl rfl ?_)⟩)));refine⟨px,_,_,i*(Vbcsaf.leaves t.cols).length+j,rfl,rfl,sC _ _ N.cells,?_,?_⟩
    ·show Tq _ ((i:Int)*((Vbcsaf.leaves t.cols).length:Int)+(j:Int))=_;rw[ei];unfold Tq;rw[Jh,if_pos (by omega),if_pos (by omega)];exact congrArg some (Int.toNat_natCast _)
    rw[TQ];refine⟨LE,fun d hd=>k _ d fs ?_⟩;have N3:=N.same sC;refine After.tab (t:=t) (t':={t with cells:=t.cells.set (i*(Vbcsaf.leaves t.cols).length+j) m}) hp hlk N sC (fun b _ _ hb=>Ja hb) ⟨kvs,⟨?_,?_,?_,J2,?_,N.kok⟩⟩ ?_ d1 d2 (WC hp lt hlk N.obj) hd
    ·rw[Ja (JY N3.obj N3.cells (by intro z;cases z))];exact N3.obj
    ·rw[Ja d1.symm];exact N3.rows
    ·rw[Ja d2.symm];exact N3.cols
    ·rw[Ja (JY N3.kept N3.cells (by intro z;cases z))];exact N3.kept
    ·refine⟨⟨B.ok.rows,B.ok.cols,by show(t.cells.set _ _).length=_;rw[List.length_set];exact B.ok.cells⟩,B.base,B.rl,B.cl,fun v hv=>?_,B.cw,B.sw,(fun kk hk=>by rw[Sa];exact B.kept kk hk),B.klen⟩;rcases List.mem_or_eq_of_mem_set hv with q|q
     ·exact B.cells v q
     ·rw[q];omega
def Foot (np ps pa:Addr) (as:List Addr) (b:Addr):Prop:=b=np∨b=ps∨b=pa∨b∈as
def NetRel (A:Adr) (H:Hp) (p:Addr) (fs:List (Str×V)):Option Net->Prop
 |none=>fs.lookup ("net":Str)=some .non
 |some g=> ∃(np ps pa nd:Addr) (as:List Addr),fs.lookup ("net":Str)=some (.ref np)/\NetAt A H np g ps pa as nd/\FM.Wf g/\Bnd g/\ ∀b,Foot np ps pa as b-> ¬Own H p fs b
theorem NetRel.ok {H:Hp} {p:Addr} {fs:List (Str×V)}: ∀{on:Option Net},NetRel A H p fs on->NetOk A H fs on
 |none,h=>h
 |some _,⟨np,ps,pa,nd,as,h1,h2,h3,h4,_⟩=>⟨np,ps,pa,nd,as,h1,h2,h3,h4⟩
theorem NetOk.same {H H':Hp} {fs:List (Str×V)} (s:Same H H'): ∀{on:Option Net},NetOk A H fs on->NetOk A H' fs on
 |none,h=>h
 |some _,⟨np,ps,pa,nd,as,h1,h2,h3,h4⟩=>⟨np,ps,pa,nd,as,h1,h2.same s,h3,h4⟩
structure LineAt (A:Adr) (H:Hp) (p dx:Addr) (fs:List (Str×V)) (st:Vbcsaf.State):Prop where
 obj:H p=some (.ins A.JU dx fs)
 len:fs.length<=10
 tab:TabRel A H fs st.table
 net:NetRel A H p fs st.net
theorem SZ {H:Hp} {p dx:Addr} {fs:List (Str×V)} {ot:Option Table} (hp:H p=some (.ins A.JU dx fs)) (tr:TabRel A H fs ot) {b:Addr} (h:Own H p fs b): ∃o,H b=some o:=by
 rcases h with rfl|⟨tp,h1,h2⟩
 ·exact⟨_,hp⟩
 ·cases ot with
  |none=>
   have:fs.lookup ("table":Str)=some .non:=tr;rw[this] at h1;cases h1
  |some t=>
   obtain⟨tp',e1,pr,pc,px,kd,td',kvs,N,_⟩:=tr;rw[e1] at h1;cases h1;rcases h2 with rfl|⟨C,td,fl,h3,h4⟩
   ·exact⟨_,N.obj⟩
   ·rw[N.obj] at h3;cases h3;rcases h4 with q|q|q|q
    ·rw[E6] at q;cases q;exact⟨_,N.kept⟩
    ·rw[Bt] at q;cases q;exact⟨_,N.cells⟩
    ·rw[Gc] at q;cases q;exact⟨_,N.rows⟩
    ·rw[GF] at q;cases q;exact⟨_,N.cols⟩
theorem BS {H H':Hp} {p:Addr} {fs:List (Str×V)} {ot:Option Table} (tr:TabRel A H fs ot) (s:Same H H') {b:Addr}:Own H' p fs b↔Own H p fs b:=by
 constructor
 ·rintro(q|⟨tp,h1,h2⟩)
  ·exact .inl q
  ·refine .inr ⟨tp,h1,?_⟩;rcases h2 with q|⟨C,td,fl,h3,h4⟩
   ·exact .inl q
   ·cases ot with
    |none=>
     have:fs.lookup ("table":Str)=some .non:=tr;rw[this] at h1;cases h1
    |some t=>
     obtain⟨tp',e1,pr,pc,px,kd,td',kvs,N,_⟩:=tr;rw[e1] at h1;cases h1;have:=s _ _ N.obj;rw[this] at h3;cases h3;exact .inr ⟨_,_,_,N.obj,h4⟩
 ·rintro(q|⟨tp,h1,h2⟩)
  ·exact .inl q
  ·refine .inr ⟨tp,h1,?_⟩;rcases h2 with q|⟨C,td,fl,h3,h4⟩
   ·exact .inl q
   ·exact .inr ⟨C,td,fl,s _ _ h3,h4⟩
theorem LineAt.same {H H':Hp} {p dx:Addr} {fs:List (Str×V)} {st:Vbcsaf.State} (s:Same H H') (L:LineAt A H p dx fs st):LineAt A H' p dx fs st:=by
 refine⟨s _ _ L.obj,L.len,L.tab.same s,?_⟩;have n:=L.net;cases e:st.net with
 |none=>rw[e] at n;exact n
 |some g=>
  rw[e] at n;obtain⟨np,ps,pa,nd,as,h1,h2,h3,h4,h5⟩:=n;exact⟨np,ps,pa,nd,as,h1,h2.same s,h3,h4,fun b hb ow=>h5 b hb ((BS L.tab s).mp ow)⟩
def NPrt (H:Hp) (fs:List (Str×V)) (b:Addr):Prop:= ∃np,fs.lookup ("net":Str)=some (.ref np)/\(b=np∨ ∃C nd ps pa,H np=some (.ins C nd [("supplies", .ref ps),("arcs", .ref pa)])/\(b=ps∨b=pa∨ ∃xs,H pa=some (.lst xs)/\V.ref b∈xs))
theorem U2 {H:Hp} {fs:List (Str×V)} {np ps pa nd:Addr} {as:List Addr} {g:Net} (h1:fs.lookup ("net":Str)=some (.ref np)) (N:NetAt A H np g ps pa as nd) {b:Addr}:NPrt H fs b↔Foot np ps pa as b:=by
 constructor
 ·rintro⟨np',e,q⟩;rw[h1] at e;cases e;rcases q with q|⟨C,nd',ps',pa',e,q⟩
  ·exact .inl q
  ·rw[N.obj] at e;cases e;rcases q with q|q|⟨xs,e,q⟩
   ·exact .inr (.inl q)
   ·exact .inr (.inr (.inl q))
   ·rw[N.lst] at e;cases e;obtain⟨c,hc,e⟩:=List.mem_map.mp q;cases e;exact .inr (.inr (.inr hc))
 ·rintro(q|q|q|q)
  ·exact⟨np,h1, .inl q⟩
  ·exact⟨np,h1, .inr ⟨_,_,_,_,N.obj, .inl q⟩⟩
  ·exact⟨np,h1, .inr ⟨_,_,_,_,N.obj, .inr (.inl q)⟩⟩
  ·exact⟨np,h1, .inr ⟨_,_,_,_,N.obj, .inr (.inr ⟨_,N.lst,List.mem_map.mpr ⟨b,q,rfl⟩⟩)⟩⟩
theorem OK {H H':Hp} {p:Addr} {fs:List (Str×V)} (s:Same H H'): ∀{on:Option Net},NetRel A H p fs on-> ∀{b:Addr},NPrt H' fs b↔NPrt H fs b
 |none,h,b=>by
  have h':fs.lookup ("net":Str)=some .non:=h;constructor<;>(rintro⟨np,e,_⟩;rw[h'] at e;cases e)
 |some g,⟨np,ps,pa,nd,as,h1,N,_⟩,b=>(U2 h1 (N.same s)).trans (U2 h1 N).symm
structure Nxt (A:Adr) (H0 H:Hp) (p dx:Addr) (fs:List (Str×V)) (st:Vbcsaf.State) (l:List Int) (H':Hp) (d:Addr) (fs':List (Str×V)):Prop where
 new:H d=none
 ans:H' d=some (.lst (l.map V.int))
 line:LineAt A H' p dx fs' st
 frame: ∀b o,H b=some o-> ¬Own H p fs b->H' b=some o
 own: ∀b o,H0 b=some o-> ¬Own H p fs b-> ¬Own H' p fs' b
 prt: ∀b o,H0 b=some o-> ¬NPrt H fs b-> ¬NPrt H' fs' b
theorem Nxt.ask {H0 H H':Hp} {p dx d:Addr} {fs:List (Str×V)} {st:Vbcsaf.State} {l:List Int} (L:LineAt A H0 p dx fs st) (s0:Same H0 H) (s:Same H H') (hd:H d=none) (e:H' d=some (.lst (l.map V.int))):Nxt A H0 H p dx fs st l H' d fs:=
 ⟨hd,e,L.same (s0.trans s),fun b o h _=>s _ _ h,fun b o _ no ow=>no ((BS (L.tab.same s0) s).mp ow),fun b o _ no z=>no ((OK s (L.same s0).net).mp z)⟩
theorem NetAt.frame {H H':Hp} {p:Addr} {g:Net} {ps pa:Addr} {as:List Addr} {dx:Addr} (h:NetAt A H p g ps pa as dx) (f: ∀b o,H b=some o->Foot p ps pa as b->H' b=some o):NetAt A H' p g ps pa as dx:=
 ⟨f _ _ h.obj (.inl rfl),f _ _ h.sup (.inr (.inl rfl)),f _ _ h.lst (.inr (.inr (.inl rfl))),h.len,fun j q e=>by
   obtain⟨dd,z⟩:=h.arc j q e;exact⟨dd,f _ _ z (.inr (.inr (.inr (List.mem_of_getElem? e))))⟩,h.n,h.sm1,h.sm2⟩
theorem NetAt.dom {H:Hp} {p:Addr} {g:Net} {ps pa:Addr} {as:List Addr} {dx:Addr} (h:NetAt A H p g ps pa as dx) {b:Addr} (hb:Foot p ps pa as b): ∃o,H b=some o:=by
 rcases hb with rfl|rfl|rfl|hb
 ·exact⟨_,h.obj⟩
 ·exact⟨_,h.sup⟩
 ·exact⟨_,h.lst⟩
 ·obtain⟨j,hj,e⟩:=List.getElem_of_mem hb;obtain⟨dd,z⟩:=h.arc j b (by rw[List.getElem?_eq_getElem hj,e]);exact⟨_,z⟩
theorem Nxt.tab {H0 H H':Hp} {p dx d:Addr} {fs fs':List (Str×V)} {st:Vbcsaf.State} {more:List V} {ot:Option Table} {l:List Int} (L:LineAt A H0 p dx fs st) (s0:Same H0 H) (hm: ∀b,V.ref b∈more->H0 b=none) (a:After A H p dx fs more ot l H' d fs'):Nxt A H0 H p dx fs ⟨ot,st.net⟩ l H' d fs':=by
 have nm: ∀b o,H0 b=some o->V.ref b∉more:=fun b o e m=>by rw[hm b m] at e;cases e
 have both:NetRel A H' p fs' st.net/\ ∀b,NPrt H' fs' b->NPrt H fs b:=by
  have n:=L.net;cases e:st.net with
  |none=>
   rw[e] at n;have h':fs'.lookup ("net":Str)=some .non:=by rw[a.oth "net" (by decide)];exact n
   exact⟨h',fun b ⟨np,e,_⟩=>by rw[h'] at e;cases e⟩
  |some g=>
   rw[e] at n;obtain⟨np,ps,pa,nd,as,h1,h2,h3,h4,h5⟩:=n;have no: ∀b,Foot np ps pa as b-> ¬Own H p fs b:=fun b hb ow=>h5 b hb ((BS L.tab s0).mp ow);have l':fs'.lookup ("net":Str)=some (.ref np):=by rw[a.oth "net" (by decide)];exact h1
   have N':NetAt A H' np g ps pa as nd:=h2.frame (fun b o e hb=>a.frame b o (s0 _ _ e) (no b hb));refine⟨⟨np,ps,pa,nd,as,l',N',h3,h4,fun b hb=>?_⟩,fun b hb=>(U2 h1 (h2.same s0)).mpr ((U2 l' N').mp hb)⟩;obtain⟨o,eo⟩:=h2.dom hb;exact a.own b o (s0 _ _ eo) (no b hb) (nm b o eo)
 exact⟨a.new,a.ans,⟨a.line,Nat.le_trans a.len L.len,a.rel,both.1⟩,a.frame,fun b o e no=>a.own b o (s0 _ _ e) no (nm b o e),fun b o _ no z=>no (both.2 b z)⟩
def StepSp (A:Adr) (c:Vbcsaf.Call) (H0 H:Hp) (p:Addr) (Q:VK):Prop:= ∃(dx:Addr) (fs:List (Str×V)) (st:Vbcsaf.State),Same H0 H/\LineAt A H0 p dx fs st/\
 ∀(H':Hp) (d:Addr) (fs':List (Str×V)),Nxt A H0 H p dx fs (Vbcsaf.step st c).1 (Vbcsaf.step st c).2 H' d fs'->Q (.ref d) H'
theorem Nxt.mk_net {H0 H H2:Hp} {p dx x nd ps pa d:Addr} {as:List Addr} {fs:List (Str×V)} {st:Vbcsaf.State} {g:Net} {l:List Int} (L:LineAt A H0 p dx fs st) (s0:Same H0 H) (s:Same H H2) (nx:H x=none) (nps:H0 ps=none) (npa:H pa=none) (nas: ∀c∈as,H c=none) (N:NetAt A H2 x g ps pa as nd) (wf:FM.Wf g) (B:Bnd g)
  (hd:(upd H2 p (.ins A.JU dx (YB "net" (.ref x) fs))) d=none):Nxt A H0 H p dx fs ⟨st.table,some g⟩ l (upd (upd H2 p (.ins A.JU dx (YB "net" (.ref x) fs))) d (.lst (l.map V.int))) d (YB "net" (.ref x) fs):=by
 have L1:=L.same s0;have L2:=L1.same s;have pd:p≠d:=fun z=>by rw[<-z,J2] at hd;cases hd
 have lk: ∀f:Str,f≠"net"->(YB "net" (.ref x) fs).lookup f=fs.lookup f:=fun f hf=>by rw[Zk,if_neg hf]
 have lt:(YB "net" (.ref x) fs).lookup ("table":Str)=fs.lookup ("table":Str):=lk "table" (by decide)
 have s3: ∀b o,H2 b=some o->b≠p->(upd (upd H2 p (.ins A.JU dx (YB "net" (.ref x) fs))) d (.lst (l.map V.int))) b=some o:=fun b o e nb=>by
  have nd:b≠d:=fun z=>by rw[<-z,Ja nb,e] at hd;cases hd
  rw[Ja nd,Ja nb,e]
 have tr:TabRel A (upd (upd H2 p (.ins A.JU dx (YB "net" (.ref x) fs))) d (.lst (l.map V.int))) (YB "net" (.ref x) fs) st.table:=by
  have t:=L2.tab;cases e:st.table with
  |none=>
   rw[e] at t;show(YB "net" (.ref x) fs).lookup ("table":Str)=_;rw[lt];exact t
  |some t'=>
   rw[e] at t;obtain⟨tp,h1,pr,pc,px,kd,td,kvs,N,hB⟩:=t;have hp2:=L2.obj;exact⟨tp,by rw[lt];exact h1,pr,pc,px,kd,td,kvs,⟨s3 _ _ N.obj (WC hp2 L.len h1 N.obj).symm,s3 _ _ N.rows (JY N.rows hp2 (by intro z;cases z)),s3 _ _ N.cols (JY N.cols hp2 (by intro z;cases z)),s3 _ _ N.cells (JY N.cells hp2 (by intro z;cases z)),s3 _ _ N.kept (JY N.kept hp2 (by intro z;cases z)),N.kok⟩,hB⟩
 have ow: ∀b,Own (upd (upd H2 p (.ins A.JU dx (YB "net" (.ref x) fs))) d (.lst (l.map V.int))) p (YB "net" (.ref x) fs) b->Own H p fs b:=by
  rintro b (q|⟨tp,h1,h2⟩)
  ·exact .inl q
  ·rw[lt] at h1;refine .inr ⟨tp,h1,?_⟩;rcases h2 with q|⟨C,td,fl,h3,h4⟩
   ·exact .inl q
   ·have t:=L1.tab;cases e:st.table with
    |none=>
     rw[e] at t;have:fs.lookup ("table":Str)=some .non:=t;rw[this] at h1;cases h1
    |some t'=>
     rw[e] at t;obtain⟨tp',e1,pr,pc,px,kd,td',kvs,N,_⟩:=t;rw[e1] at h1;cases h1;rw[s3 _ _ (s _ _ N.obj) (WC L1.obj L.len e1 N.obj).symm] at h3;cases h3;exact .inr ⟨_,_,_,N.obj,h4⟩
 obtain⟨u,hu⟩: ∃u,fs.lookup ("net":Str)=some u:=by
  have n:=L.net;cases e:st.net with
  |none=>rw[e] at n;exact⟨_,n⟩
  |some g=>rw[e] at n;obtain⟨np,_,_,_,_,h1,_⟩:=n;exact⟨_,h1⟩
 have nop: ∀b,Foot x ps pa as b-> ¬Own H p fs b:=fun b hb o=>by
  obtain⟨v,hv⟩:=SZ L1.obj L1.tab o;rcases hb with rfl|rfl|rfl|hb
  ·rw[nx] at hv;cases hv
  ·have o0:=(BS L.tab s0).mp o;obtain⟨v,hv⟩:=SZ L.obj L.tab o0;rw[nps] at hv;cases hv
  ·rw[npa] at hv;cases hv
  ·rw[nas b hb] at hv;cases hv
 have lkn:(YB "net" (.ref x) fs).lookup ("net":Str)=some (.ref x):=by rw[Zk,if_pos rfl]
 have N':NetAt A (upd (upd H2 p (.ins A.JU dx (YB "net" (.ref x) fs))) d (.lst (l.map V.int))) x g ps pa as nd:=N.frame (fun b o e hb=>s3 b o e (fun z=>nop b hb (.inl z)));refine⟨s.free (by rw[<-Ja (H:=H2) pd.symm];exact hd),J2,⟨by rw[Ja pd];exact J2,Nat.le_trans (Nat.le_of_eq (MF hu)) L.len,tr,?_⟩,fun b o e no=>s3 _ _ (s _ _ e) (fun z=>no (.inl z)),fun b o _ no o'=>no (ow b o'),fun b o e _ z=>?_⟩
 ·exact⟨x,ps,pa,nd,as,lkn,N',wf,B,fun b hb o'=>nop b hb (ow b o')⟩
 ·have e':=s0 _ _ e;rcases(U2 lkn N').mp z with rfl|rfl|rfl|hb
  ·rw[nx] at e';cases e'
  ·rw[nps] at e;cases e
  ·rw[npa] at e';cases e'
  ·rw[nas b hb] at e';cases e'
open NM (Jx)
def Rh (A:Adr) (K:PySem.W.Frag):Sp:=fun vs H Q _=> ∃(H0:Hp) (p a1 a2:Addr) (n:Int) (u a:List Int),vs=[.ref p, .int n, .ref a1, .ref a2]/\H a1=some (.lst (u.map V.int))/\SqL K H a2 (a.map V.int)/\u.length<=100000/\H0 a1=none/\StepSp A (.net n u a) H0 H p Q
theorem EA {H0 H H1:Hp} {Q:VK} {p dx:Addr} {fs:List (Str×V)} {st:Vbcsaf.State} {r:Int} {σ:L2.St} (L:LineAt A H0 p dx fs st) (s0:Same H0 H)
  (k: ∀(H':Hp) (d:Addr) (fs':List (Str×V)),Nxt A H0 H p dx fs st [r] H' d fs'->Q (.ref d) H') (s:Same H H1):Dc (Jj (tC (.int r)) JK) σ H1 Q:=
 ⟨LE,fun d hd=>k _ d fs (Nxt.ask L s0 (s.new hd) (s.free hd) J2)⟩
theorem Qt (T:Txt K mg A):FnOk P w K mg base CX0 5 A.LK A.Na ["line","count","supplies","numbers"] (Rh A K):=by
 refine T.Mm.ok AD (fun H vs Q E h=>?_)
 ·obtain⟨H0,p,a1,a2,n,u,a,rfl,h1,h2,lu,n1,dx,fs,st,s0,L,k⟩:=h;refine⟨rfl,fun _ _ _ _ hr=>?_⟩;refine⟨Sl K A _ _ _ _ _,(J3 (Jm (YS (PW.pt (Zo (JT (pk (Zu T) hr T.ZK (J0 (pv 1) (J0 J5 (J0 J5 J1))))) (Zo (JT (pk (FD T) hr T.AK (J0 (pv 2) J1))) (Zf (JT (pk (MA T) hr T.Fd (J0 (pv 3) J1)))))))) (J4 (J7 (Jd (J0 (JW (by rfl) T.JF) J1)))) Jb) (J3 (YL 4 AD.nd (pk (Mv T) hr T.Iy (J0 (pv 3) J1))) (J3 (Jm (YS (JT (Jc (LH rfl) (by rfl) T.Ru MU (J0 (Us rfl AD.nd (JQ (pv 4)) (bo [("arc",5)]) (fun _ _ _ _ _=>(ZF 5 AD.nd)) (fun _ _ _ _ _=>Yw) (fun _ _ _ _ _=>(Ae (Ze DN (J6 (pv 5) rfl) (pv 1) (Jn _)) (Bl (Ze DN (J6 (pv 5) rfl) (pv 1) (Jn _)))))) J1)))) (J4 (J7 (Jd (J0 (JW (by rfl) T.UK) J1)))) Jb) (J3 (Jm (Jk BF (Jc Ju (by rfl) T.JG Js (J0 (pv 2) J1)) (pv 1) (Jn _)) (J4 (J7 (Jd (J0 (JW (by rfl) T.Za) J1)))) Jb) (J3 (Jm (Jk BF (Jc (FV rfl) (by rfl) T.Mw Fw (J0 (pv 2) J1)) J5 (Jn _)) (J4 (J7 (Jd (J0 (JW (by rfl) T.QV) J1)))) Jb) (J3 (JP (pv 0) (pm (Kg T) hr T.UD (J0 (pv 2) (J0 (pv 4) J1))) rfl) (J4 (J7 (Jd (J0 J5 (J0 (Jc Ju (by rfl) T.JG Js (J0 (pv 4) J1)) J1))))))))))),?_⟩;unfold Vbcsaf.step at k;dsimp only at k
  have eC:(Vbcsaf.inr n 1 12&&(decide (u.length<=12)&&(u.all (fun v=>Vbcsaf.inr v (-1000) 1000)&&(decide (a.length<=150)&&(Vbcsaf.arcsIn a).isSome))))=(Vbcsaf.inr n 1 12&&(T1 u&&Bi a)):=by
   unfold T1 Bi;rw[Bool.and_assoc]
  rw[eC] at k;refine J9 rfl ⟨n,1,12,rfl,J9 rfl (RY (fun g1=>?_) (fun g1=>?_))⟩
  ·rw[g1,Bool.false_and] at k;exact JV (EA L s0 k (Same.refl H))
  rw[g1,Bool.true_and] at k;refine J9 rfl ⟨a1,u,rfl,SqL.of h1,lu,fun H1 s1=>J9 rfl (RY (fun g2=>?_) (fun g2=>?_))⟩
  ·rw[g2,Bool.false_and] at k;exact JV (EA L s0 k s1)
  rw[g2,Bool.true_and] at k;refine J9 rfl ⟨a2,a,rfl,s1.seq h2,fun H2 s2=>J9 rfl ?_⟩;have sA:=s1.trans s2;cases g3:Bi a with
  |false=>rw[g3] at k;exact JV (EA L s0 k sA)
  |true=>
   rw[g3] at k;refine Ya ?_;unfold Bi at g3;rw[Bool.and_eq_true,decide_eq_true_eq] at g3;obtain⟨al,as0⟩:=g3;obtain⟨ar,ea⟩:=Option.isSome_iff_exists.mp as0;obtain⟨m5,ok,eL⟩:=NM.DZ a ar ea;rw[ea] at k;subst eL;rw[inr_iff] at g1;obtain⟨N,rfl⟩: ∃N:Nat,n=N:=⟨n.toNat,by omega⟩;refine J9 rfl ⟨a2,a,rfl,sA.seq h2,m5,al,fun H3 pa as s3 fpa c3 R=>?_⟩;have sB:=sA.trans s3;have hpa:H pa=none:=sA.free fpa;have e5:(NM.Zm a).length=a.length/5:=NM.IR a
   have mem: ∀e:Arc,e∈NM.Zm a↔ ∃j,j<a.length/5/\NM.ZE a j=e:=fun e=>by
    unfold NM.Zm;rw[List.mem_map];exact⟨fun⟨j,hj,q⟩=>⟨j,List.mem_range.mp hj,q⟩,fun⟨j,hj,q⟩=>⟨j,List.mem_range.mpr hj,q⟩⟩
   refine⟨_,rfl,pa,rfl,⟨_,SqL.of c3⟩,fun D hD=>Zt (K:=K) (a:=pa) (xs:=as.map V.ref)
    (fun i H'=>Same H3 H'/\H' D=some (.lst (((List.range i).map (fun j=>decide (Jx a j 0<(N:Int))&&decide (Jx a j 1<(N:Int)))).map V.bl))) ?_ ?_ ?_ ?_⟩
   ·exact⟨(Same.refl H3).new hD,J2⟩
   ·rintro i H' _ ⟨s4,_⟩;exact SqL.of (s4 _ _ c3)
   ·rintro i y H' hy ⟨s4,hD'⟩;obtain⟨c,ec,rfl⟩:=Y3 hy;obtain⟨j,gj,_,dxc,hc⟩:=R.at_ i c ec;have hi:i<a.length/5:=by have:=JL gj;rwa [List.length_range] at this
    rw[List.getElem?_range hi] at gj;have ej:i=j:=Option.some.inj gj;subst ej;refine⟨rfl,?_⟩;have hc4:=s4 _ _ hc
    have fin: ∀b:Bool,b=(decide (Jx a i 0<(N:Int))&&decide (Jx a i 1<(N:Int)))-> ∃acc,H' D=some (.lst acc)/\acc.length<sizeLine/\Same H3 (upd H' D (.lst (acc++[V.bl b])))/\upd H' D (.lst (acc++[V.bl b])) D=some (.lst (((List.range (i+1)).map (fun j=>decide (Jx a j 0<(N:Int))&&decide (Jx a j 1<(N:Int)))).map V.bl)):=fun b hb=>by
     refine⟨_,hD',?_,s4.put hD,?_⟩
     ·rw[List.length_map,List.length_map,List.length_range];exact Z8 (by omega)
     ·rw[J2,hb,List.range_succ,List.map_append,List.map_append];rfl
    refine JB rfl hc4 T.JD T.YQ rfl (J9 rfl (Y9 rfl rfl (J9 rfl (Ig (fun q1=>?_) (fun q1=>?_)))))
    ·exact JB rfl hc4 T.JD T.YR rfl (J9 rfl (Y9 rfl rfl (fin _ (by rw[decide_eq_true q1,Bool.true_and]))))
    ·exact fin _ (by rw[decide_eq_false q1,Bool.false_and])
   ·rintro H4 ⟨s4,hD'⟩;rw[List.length_map,R.len,List.length_range] at hD';have sC:=sB.trans s4;refine⟨D,J9 rfl ⟨SqL.of hD',J9 rfl ?_⟩⟩
    have eE:((((some (NM.Zm a)).getD []).any fun e=>decide ((N:Int)<=(e.src:Int))||decide ((N:Int)<=(e.dst:Int))))=!(((List.range (a.length/5)).map (fun j=>decide (Jx a j 0<(N:Int))&&decide (Jx a j 1<(N:Int)))).all id):=by
     rw[List.all_map,List.not_all_eq_any_not,Bool.eq_iff_iff,List.any_eq_true,List.any_eq_true];constructor
     ·rintro⟨e,he,q⟩;obtain⟨j,hj,rfl⟩:=(mem e).mp he;refine⟨j,List.mem_range.mpr hj,?_⟩;have o:=ok j hj;have a1:=o.s;have a2:=o.d;unfold NM.ZE at q;simp only[Bool.or_eq_true,decide_eq_true_eq] at q;show(!(decide (Jx a j 0<(N:Int))&&decide (Jx a j 1<(N:Int))))=true;simp only[Bool.not_eq_true',Bool.and_eq_false_iff,decide_eq_false_iff_not];omega
     ·rintro⟨j,hj,q⟩;have hj':=List.mem_range.mp hj;refine⟨NM.ZE a j,(mem _).mpr ⟨j,hj',rfl⟩,?_⟩;have o:=ok j hj';have a1:=o.s;have a2:=o.d;have q':(!(decide (Jx a j 0<(N:Int))&&decide (Jx a j 1<(N:Int))))=true:=q;simp only[Bool.not_eq_true',Bool.and_eq_false_iff,decide_eq_false_iff_not] at q';unfold NM.ZE;simp only[Bool.or_eq_true,decide_eq_true_eq];omega
    rw[eE] at k;cases g4:((List.range (a.length/5)).map (fun j=>decide (Jx a j 0<(N:Int))&&decide (Jx a j 1<(N:Int)))).all id with
    |false=>rw[g4] at k;exact JV (EA L s0 k sC)
    |true=>
     rw[g4] at k;refine Ya ?_
     have ends: ∀j,j<a.length/5->(NM.ZE a j).src<N/\(NM.ZE a j).dst<N:=fun j hj=>by
      rw[List.all_map,List.all_eq_true] at g4;have q:(decide (Jx a j 0<(N:Int))&&decide (Jx a j 1<(N:Int)))=true:=g4 j (List.mem_range.mpr hj);rw[Bool.and_eq_true,decide_eq_true_eq,decide_eq_true_eq] at q;have o:=ok j hj;have a1:=o.s;have a2:=o.d;unfold NM.ZE;dsimp only;omega
     refine J9 rfl (JX rfl (.inl (SqL.of (sC _ _ h1))) (Zi rfl rfl rfl (Il (fun g5=>?_) (fun g5=>?_))))
     ·rw[List.length_map] at g5;rw[decide_eq_true (show(u.length:Int)≠(N:Int) from g5)] at k;exact EA L s0 k sC
     rw[List.length_map] at g5;rw[decide_eq_false (show¬(u.length:Int)≠(N:Int) from fun z=>z g5)] at k;refine J9 rfl ⟨a1,u,rfl,SqL.of (sC _ _ h1),rfl,J9 rfl (Il (fun g6=>?_) (fun g6=>?_))⟩
     ·rw[show(VbcsFlow.total u !=0)=true from by rw[Ep];simp[g6]] at k;exact EA L s0 k sC
     rw[show(VbcsFlow.total u !=0)=false from by rw[Ep];simp[g6]] at k;have k': ∀(H':Hp) (d:Addr) (fs':List (Str×V)),Nxt A H0 H p dx fs ⟨st.table,some ⟨N,u,NM.Zm a⟩⟩ [0,((NM.Zm a).length:Int)] H' d fs'->Q (.ref d) H':=k;have wf:FM.Wf ⟨N,u,NM.Zm a⟩:=NM.J0k ok ends (by omega) (by rw[Ep];exact g6)
     have B:Bnd ⟨N,u,NM.Zm a⟩:=by
      have q: ∀j,j<(NM.Zm a).length->NM.OkArc a j/\FM.arc ⟨N,u,NM.Zm a⟩ j=NM.ZE a j:=fun j hj=>⟨ok j (by omega),NM.El (by omega)⟩;refine⟨fun j hj=>?_,fun j hj=>?_,fun j hj=>?_⟩
      ·obtain⟨o,e⟩:=q j hj;rw[e];have:=o.l;unfold NM.ZE;dsimp only;omega
      ·obtain⟨o,e⟩:=q j hj;rw[e];have:=o.m;unfold NM.ZE;dsimp only;omega
      ·obtain⟨o,e⟩:=q j hj;rw[e];have:=o.p;unfold NM.ZE;dsimp only;omega
     refine JM rfl rfl (fun x nd nx nnd ne=>?_);refine⟨x,nd,_,_,rfl,J2,rfl,?_⟩;rw[Jz];have s5:Same H4 (upd (upd H4 nd (.own x)) x (.ins A.CQ nd [("supplies", .ref a1),("arcs", .ref pa)])):=((Same.refl H4).new nnd).new (by rw[Ja ne.symm];exact nx);have cx:upd (upd H4 nd (.own x)) x (.ins A.CQ nd [("supplies", .ref a1),("arcs", .ref pa)]) x=_:=J2;generalize upd (upd H4 nd (.own x)) x (.ins A.CQ nd [("supplies", .ref a1),("arcs", .ref pa)])=H5 at s5 cx;have sD:=sC.trans s5;have lenAs:as.length=a.length/5:=by rw[R.len,List.length_range]
     have nas: ∀c∈as,H c=none:=fun c hc=>by
      obtain⟨j,hj,e⟩:=List.getElem_of_mem hc;obtain⟨_,_,q,_⟩:=R.at_ j c (by rw[List.getElem?_eq_getElem hj,e]);exact sA.free q
     have NT:NetAt A H5 x ⟨N,u,NM.Zm a⟩ a1 pa as nd:=by
      refine⟨cx,sD _ _ h1,s5 _ _ (s4 _ _ c3),by rw[lenAs];exact e5.symm,fun j q hq=>?_,by show N=u.length;omega,by show N<=100;omega,by show(NM.Zm a).length<=1000;omega⟩;obtain⟨i,gi,_,dxc,hc⟩:=R.at_ j q hq;have hj:j<a.length/5:=by have:=JL gi;rwa [List.length_range] at this
      rw[List.getElem?_range hj] at gi;have ej:j=i:=Option.some.inj gi;subst ej;refine⟨dxc,?_⟩;rw[s5 _ _ (s4 _ _ hc),NM.El hj];have o:=ok j hj;have a1:=o.s;have a2:=o.d;unfold DE NM.ZE;dsimp only;rw[show(((Jx a j 0).toNat:Nat):Int)=Jx a j 0 by omega,show(((Jx a j 1).toNat:Nat):Int)=Jx a j 1 by omega]
     refine J9 rfl ⟨p,_,JX rfl (sD _ _ (s0 _ _ L.obj)) ⟨T.Jg,T.Jo,(by have:=L.len;show fs.length<1000;omega),?_⟩⟩;have c6:H5 pa=some (.lst (as.map V.ref)):=s5 _ _ (s4 _ _ c3);have npp:pa≠p:=JY c6 (sD _ _ (s0 _ _ L.obj)) (by intro z;cases z);refine J9 rfl (JX rfl (.inl (SqL.of (by rw[Ja npp];exact c6))) ⟨Qr,fun d hd=>?_⟩);rw[List.length_map,lenAs,<-e5];exact k' _ d (YB "net" (.ref x) fs) (Nxt.mk_net (l:=[0,((NM.Zm a).length:Int)]) L s0 sD (sC.free nx) n1 hpa nas NT wf B hd)
open Vbcsaf (Table State guarded)
def NE (A:Adr):Sp:=fun vs H Q _=> ∃(p dx:Addr) (fs:List (Str×V)) (st:State),vs=[.ref p]/\LineAt A H p dx fs st/\Ans H Q (Vbcsaf.step st .sizes).2
theorem O0 (T:Txt K mg A):FnOk P w K mg base CX0 1 A.GL A.Ga ["line"] (NE A):=by
 refine T.GT.ok ZN (fun H vs Q E h=>?_)
 ·obtain⟨p,dx,fs,st,rfl,L,k⟩:=h;refine⟨rfl,fun _ _ _ _ hr=>?_⟩;refine⟨_,(J3 (YL 1 ZN.nd (Jd (J0 J5 (J0 J5 (J0 J5 (J0 J5 J1)))))) (J3 (YL 2 ZN.nd (Jd (J0 J5 (J0 J5 (J0 J5 J1))))) (J3 (Jm (Y5 (C8 (J6 (pv 0) rfl))) (J4 (YL 1 ZN.nd (Jd (J0 J5 (J0 (Jc Ju (by rfl) T.JG Js (J0 (J6 (J6 (pv 0) rfl) rfl) J1)) (J0 (Jc Ju (by rfl) T.JG Js (J0 (J6 (J6 (pv 0) rfl) rfl) J1)) (J0 (Jc WK (by rfl) T.JG Js (J0 (J6 (J6 (pv 0) rfl) rfl) J1)) J1))))))) Jb) (J3 (Jm (Y5 (C8 (J6 (pv 0) rfl))) (J4 (YL 2 ZN.nd (Jd (J0 J5 (J0 (Jc Ju (by rfl) T.JG Js (J0 (J6 (J6 (pv 0) rfl) rfl) J1)) (J0 (Jc Ju (by rfl) T.JG Js (J0 (J6 (J6 (pv 0) rfl) rfl) J1)) J1)))))) Jb) (J4 (J7 (Jr Zc (Jr Zc (Jd (J0 J5 J1)) (pv 1)) (pv 2)))))))),?_⟩;refine⟨zl4,fun l1 f1=>⟨Vi,fun l2 f2=>?_⟩⟩;have s1:Same H (upd H l1 (.lst [V.int 0,V.int 0,V.int 0,V.int 0])):=(Same.refl H).new f1;have s2:Same H (upd (upd H l1 (.lst [V.int 0,V.int 0,V.int 0,V.int 0])) l2 (.lst [V.int 0,V.int 0,V.int 0])):=s1.new f2;have c1:upd (upd H l1 (.lst [V.int 0,V.int 0,V.int 0,V.int 0])) l2 (.lst [V.int 0,V.int 0,V.int 0]) l1=some (.lst (([0,0,0,0]:List Int).map V.int)):=Y2 J2 f2;have c2:upd (upd H l1 (.lst [V.int 0,V.int 0,V.int 0,V.int 0])) l2 (.lst [V.int 0,V.int 0,V.int 0]) l2=some (.lst (([0,0,0]:List Int).map V.int)):=J2;generalize upd (upd H l1 (.lst [V.int 0,V.int 0,V.int 0,V.int 0])) l2 (.lst [V.int 0,V.int 0,V.int 0])=H2 at s2 c1 c2
  have fin: ∀(H':Hp) (lt ln:Addr) (tabs nets:List Int),Same H H'->H' lt=some (.lst (tabs.map V.int))->H' ln=some (.lst (nets.map V.int))->tabs.length<=10->nets.length<=10->Ans H Q ([0]++tabs++nets)->
    Ur QK (Ur QK (Dc (Jj (tC (.int 0)) JK)) (Jf 1)) (Jf 2) [some (.ref p),some (.ref lt),some (.ref ln)] H' Q:=fun H' lt ln tabs nets s3 h1 h2 t1 t2 k'=>by
   refine⟨LE,fun d f=>?_⟩;have s4:Same H' (upd H' d (.lst [V.int 0])):=(Same.refl H').new f;refine J9 rfl ⟨d,lt,Y9 rfl rfl ⟨J2,s4 _ _ h1,(by rw[List.length_map];show 1+_<=_;exact Nat.le_of_lt (Z8 (by omega))),fun e fe=>?_⟩⟩;have s5:Same H' (upd (upd H' d (.lst [V.int 0])) e (.lst ([V.int 0]++tabs.map V.int))):=s4.new fe;refine J9 rfl ?_;refine Ans.cat (pre:=[0]++tabs) k' (s3.trans s5) (by rw[J2,List.map_append];rfl) (s5 _ _ h2) (by rw[List.length_append];show 1+_+_<=_;omega)
  have L2':=L.same s2;have hp2:=L2'.obj;have tab:=L2'.tab;have net:=L2'.net;obtain⟨ot,on⟩:=st;cases ot with
  |none=>
   refine JB rfl hp2 T.Jg T.Je tab (J9 rfl (Ya ?_));cases on with
   |none=>exact JB rfl hp2 T.Jg T.Jo net (J9 rfl (Ya (fin H2 l1 l2 _ _ s2 c1 c2 (by show 4<=10;decide) (by show 3<=10;decide) k)))
   |some g=>
    obtain⟨np,ps,pa,nd,as,h1,N,h3,h4,h5⟩:=net;refine JB rfl hp2 T.Jg T.Jo h1 (J9 rfl (JV ?_));refine JB rfl hp2 T.Jg T.Jo h1 (Tk N.obj T.Yf T.Y8 rfl (JX rfl (.inl (SqL.of N.sup)) (JB rfl hp2 T.Jg T.Jo h1 (Tk N.obj T.Yf T.JR rfl (JX rfl (.inl (SqL.of N.lst)) ⟨Vi,fun d f=>?_⟩)))));rw[List.length_map,List.length_map,N.len,<-N.n];have s3:Same H2 (upd H2 d (.lst (([1,(g.n:Int),(g.arcs.length:Int)]:List Int).map V.int))):=(Same.refl H2).new f;exact fin _ l1 d _ _ (s2.trans s3) (s3 _ _ c1) J2 (by show 4<=10;decide) (by show 3<=10;decide) k
  |some t=>
   obtain⟨tp,hlk,pr,pc,px,kd,td,kvs,TA,B,_⟩:=tab;refine JB rfl hp2 T.Jg T.Je hlk (J9 rfl (JV ?_));refine JB rfl hp2 T.Jg T.Je hlk (Tk TA.obj T.Jl T.Y7 rfl (JX rfl (.inl (SqL.of TA.rows)) (JB rfl hp2 T.Jg T.Je hlk (Tk TA.obj T.Jl T.JN rfl (JX rfl (.inl (SqL.of TA.cols)) (JB rfl hp2 T.Jg T.Je hlk (Tk TA.obj T.Jl T.YH rfl ⟨kd,kvs,rfl,TA.kept,zl4,fun d0 f0=>?_⟩)))))));rw[Jh,Jh,TA.kok.len];have s3:Same H2 (upd H2 d0 (.lst (([1,(t.rows.length:Int),(t.cols.length:Int),(t.kept.length:Int)]:List Int).map V.int))):=(Same.refl H2).new f0;have c3:upd H2 d0 (.lst (([1,(t.rows.length:Int),(t.cols.length:Int),(t.kept.length:Int)]:List Int).map V.int)) d0=_:=J2;show Yr _ _ _ _ (upd H2 d0 (.lst (([1,(t.rows.length:Int),(t.cols.length:Int),(t.kept.length:Int)]:List Int).map V.int)));generalize upd H2 d0 (.lst (([1,(t.rows.length:Int),(t.cols.length:Int),(t.kept.length:Int)]:List Int).map V.int))=H3 at s3 c3;have sA:=s2.trans s3;have hp3:=s3 _ _ hp2;cases on with
   |none=>exact JB rfl hp3 T.Jg T.Jo net (J9 rfl (Ya (fin H3 d0 l2 _ _ sA c3 (s3 _ _ c2) (by show 4<=10;decide) (by show 3<=10;decide) k)))
   |some g=>
    obtain⟨np,ps,pa,nd,as,h1,N0,h3,h4,h5⟩:=net;have N:=N0.same s3;refine JB rfl hp3 T.Jg T.Jo h1 (J9 rfl (JV ?_));refine JB rfl hp3 T.Jg T.Jo h1 (Tk N.obj T.Yf T.Y8 rfl (JX rfl (.inl (SqL.of N.sup)) (JB rfl hp3 T.Jg T.Jo h1 (Tk N.obj T.Yf T.JR rfl (JX rfl (.inl (SqL.of N.lst)) ⟨Vi,fun d f=>?_⟩)))));rw[List.length_map,List.length_map,N.len,<-N.n];have s4:Same H3 (upd H3 d (.lst (([1,(g.n:Int),(g.arcs.length:Int)]:List Int).map V.int))):=(Same.refl H3).new f;exact fin _ d0 d _ _ (sA.trans s4) (s4 _ _ c3) J2 (by show 4<=10;decide) (by show 3<=10;decide) k
theorem TX {n:Int} {xs:List Int} {rows:List (List Int)} {c:Vbcsaf.Call} (h:CallIs n xs rows c):0<=n/\n<=21:=by cases h<;>decide
structure Raw (H0 H:Hp) (xs:List Int) (rows:List (List Int)) (rs:List Addr) (an al:Addr):Prop where
 num:H an=some (.lst (xs.map V.int))
 lst:H al=some (.lst (rs.map V.ref))
 len:rs.length=rows.length
 row: ∀i c,rs[i]?=some c->H c=some (.lst ((rows.getD i []).map V.int))
 nd:rs.Nodup
 fresh: ∀c∈rs,H0 c=none
 small: ∀r∈rows,r.length<=160
theorem Raw.one {H0 H:Hp} {xs r:List Int} {rs:List Addr} {an al:Addr} (R:Raw H0 H xs [r] rs an al): ∃a,rs=[a]/\H a=some (.lst (r.map V.int))/\r.length<=100000:=by
 have e:=R.len
 match rs,e with
 |[a],_=>exact⟨a,rfl,R.row 0 a rfl,Nat.le_trans (R.small r (by simp)) (by decide)⟩
theorem Raw.two {H0 H:Hp} {xs r q:List Int} {rs:List Addr} {an al:Addr} (R:Raw H0 H xs [r,q] rs an al): ∃a b,rs=[a,b]/\H a=some (.lst (r.map V.int))/\H b=some (.lst (q.map V.int))/\r.length<=100000/\q.length<=100000:=by
 have e:=R.len
 match rs,e with
 |[a,b],_=>exact⟨a,b,rfl,R.row 0 a rfl,R.row 1 b rfl,Nat.le_trans (R.small r (by simp)) (by decide),Nat.le_trans (R.small q (by simp)) (by decide)⟩
theorem Raw.three {H0 H:Hp} {xs r q t:List Int} {rs:List Addr} {an al:Addr} (R:Raw H0 H xs [r,q,t] rs an al): ∃a b c,rs=[a,b,c]/\H a=some (.lst (r.map V.int))/\H b=some (.lst (q.map V.int))/\H c=some (.lst (t.map V.int))/\r.length<=100000/\q.length<=100000/\t.length<=100000:=by
 have e:=R.len
 match rs,e with
 |[a,b,c],_=>exact⟨a,b,c,rfl,R.row 0 a rfl,R.row 1 b rfl,R.row 2 c rfl,Nat.le_trans (R.small r (by simp)) (by decide),Nat.le_trans (R.small q (by simp)) (by decide),Nat.le_trans (R.small t (by simp)) (by decide)⟩
theorem Yu {st st':State} {l:List (Int×Bool)} {k k':Unit->State×List Int} (h:k ()=(st,(k' ()).2)):guarded st l k=(st,(guarded st' l k').2):=by
 unfold Vbcsaf.guarded;cases l.find? fun x=>x.2 with
 |none=>exact h
 |some x=>rfl
theorem DT {st:State} {l:List (Int×Bool)} {k k':Unit->State×List Int} (h:k ()=(⟨(k' ()).1.table,st.net⟩,(k' ()).2)):guarded st l k=(⟨(guarded ⟨st.table,none⟩ l k').1.table,st.net⟩,(guarded ⟨st.table,none⟩ l k').2):=by
 unfold Vbcsaf.guarded;cases l.find? fun x=>x.2 with
 |none=>exact h
 |some x=>rfl
theorem ZI {c:Vbcsaf.Call} {H0 H:Hp} {p dx:Addr} {fs:List (Str×V)} {st:State} {Q:VK} {l:List Int} (s0:Same H0 H) (L:LineAt A H0 p dx fs st)
  (k: ∀(H':Hp) (d:Addr) (fs':List (Str×V)),Nxt A H0 H p dx fs (Vbcsaf.step st c).1 (Vbcsaf.step st c).2 H' d fs'->Q (.ref d) H') (e:Vbcsaf.step st c=(st,l)):Ans H Q l:=fun H' d s hd eh=>
 k H' d fs (by rw[e];exact Nxt.ask L s0 s hd eh)
theorem MM {c:Vbcsaf.Call} {H0 H:Hp} {p dx:Addr} {fs:List (Str×V)} {st:State} {Q:VK} {more:List V} (s0:Same H0 H) (L:LineAt A H0 p dx fs st)
  (k: ∀(H':Hp) (d:Addr) (fs':List (Str×V)),Nxt A H0 H p dx fs (Vbcsaf.step st c).1 (Vbcsaf.step st c).2 H' d fs'->Q (.ref d) H') (hm: ∀b,V.ref b∈more->H0 b=none)
  (e:Vbcsaf.step st c=(⟨(Vbcsaf.step ⟨st.table,none⟩ c).1.table,st.net⟩,(Vbcsaf.step ⟨st.table,none⟩ c).2)):ChgSp A K c more H Q (.ref p::more):=
 ⟨p,dx,fs,st.table,rfl,s0 _ _ L.obj,L.len,L.tab.same s0,fun H' d fs' a=>k H' d fs' (by rw[e];exact Nxt.tab L s0 hm a)⟩
theorem Zn {i:Int} {A B:Prop} (h:A):if(decide (V.int i=V.int i))=true then A else B:=Vu (fun _=>h) (fun z=>absurd rfl z)
theorem Jy {i j:Int} {A B:Prop} (d:i≠j) (h:B):if(decide (V.int i=V.int j))=true then A else B:=Vu (fun z=>absurd z d) (fun _=>h)
def Cj (A:Adr):Sp:=fun vs H Q _=> ∃(H0:Hp) (p an al:Addr) (n:Int) (xs:List Int) (rows:List (List Int)) (rs:List Addr) (c:Vbcsaf.Call),vs=[.ref p, .int n, .ref an, .ref al]/\Raw H0 H xs rows rs an al/\CallIs n xs rows c/\(n<=3∨n=11)/\StepSp A c H0 H p Q
theorem C3 (T:Txt K mg A):FnOk P w K mg base CX0 5 A.Uw A.Ux ["line","number","numbers","lists"] (Cj A):=by
 refine T.Uu.ok Cl (fun H vs Q E h=>?_)
 ·obtain⟨H0,p,an,al,n,xs,rows,rs,c,rfl,R,C,hn,dx,fs,st,s0,L,k⟩:=h;refine⟨rfl,fun _ _ _ _ hr=>?_⟩;refine⟨_,(J3 (Jm (Jk ZG (pv 1) J5 (Jn _)) (J4 (J7 (pk (Oi T) hr T.Gs (J0 (pv 0) (J0 (Jq Ji (pv 2) J5 (fun _ _=>rfl)) (J0 (Jq Ji (pv 3) J5 (fun _ _=>rfl)) (J0 (Jq Ji (pv 3) J5 (fun _ _=>rfl)) (J0 (Jq Ji (pv 3) J5 (fun _ _=>rfl)) J1)))))))) Jb) (J3 (Jm (Jk ZG (pv 1) J5 (Jn _)) (J4 (J7 (pk (L6 T) hr T.DR (J0 (pv 0) (J0 (Jq Ji (pv 2) J5 (fun _ _=>rfl)) (J0 (Jq Ji (pv 2) J5 (fun _ _=>rfl)) J1)))))) Jb) (J3 (Jm (Jk ZG (pv 1) J5 (Jn _)) (J4 (J7 (pk (PD T) hr T.KW (J0 (pv 0) (J0 (Jq Ji (pv 2) J5 (fun _ _=>rfl)) (J0 (Jq Ji (pv 2) J5 (fun _ _=>rfl)) J1)))))) Jb) (J3 (Jm (Jk ZG (pv 1) J5 (Jn _)) (J4 (J7 (pk (Pp T) hr T.Kn (J0 (pv 0) (J0 (Jq Ji (pv 2) J5 (fun _ _=>rfl)) J1))))) Jb) (J4 (J7 (pk (Qa T) hr T.K9 (J0 (pv 0) (J0 (Jq Ji (pv 2) J5 (fun _ _=>rfl)) (J0 (Jq Ji (pv 2) J5 (fun _ _=>rfl)) (J0 (Jq Ji (pv 2) J5 (fun _ _=>rfl)) J1))))))))))),?_⟩;have hN:=SqL.of (K:=K) R.num;have hL:=SqL.of (K:=K) R.lst;cases C with
  |c0 b r c x=>
   obtain⟨a1,a2,a3,rfl,h1,h2,h3,z1,z2,z3⟩:=R.three;have nd:=R.nd;simp only[List.nodup_cons,List.mem_cons,List.not_mem_nil,or_false,not_or] at nd
   exact⟨_,rfl,rfl,_,rfl,Zn ⟨_,rfl,_,rfl,an,_,_,_,rfl,rfl,hN,rfl,_,rfl,al,_,_,_,rfl,rfl,hL,rfl,_,rfl,al,_,_,_,rfl,rfl,hL,rfl,_,rfl,al,_,_,_,rfl,rfl,hL,rfl,
    b,a1,a2,a3,r,c,x,h1,h2,h3,z1,z2,z3,(fun z=>nd.1.2 z.symm),(fun z=>nd.2.1 z.symm),MM s0 L k (fun b hb=>by
     simp only[List.mem_cons,List.not_mem_nil,or_false] at hb;rcases hb with hb|hb|hb|hb
     ·cases hb
     ·cases hb;exact R.fresh _ (by simp)
     ·cases hb;exact R.fresh _ (by simp)
     ·cases hb;exact R.fresh _ (by simp)) (by unfold Vbcsaf.step;exact DT rfl)⟩⟩
  |c1 c w=>exact Zi rfl rfl rfl (Jy (by decide) (Zi rfl rfl rfl (Zn (JM rfl rfl (YJ rfl rfl hN rfl (J9 rfl (YJ rfl rfl hN rfl ⟨c,w,MM s0 L k (fun b hb=>by simp at hb) (by unfold Vbcsaf.step;exact DT rfl)⟩)))))))
  |c2 i n=>exact Zi rfl rfl rfl (Jy (by decide) (Zi rfl rfl rfl (Jy (by decide) (Zi rfl rfl rfl (Zn (JM rfl rfl (YJ rfl rfl hN rfl (J9 rfl (YJ rfl rfl hN rfl ⟨i,n,MM s0 L k (fun b hb=>by simp at hb) (by unfold Vbcsaf.step;exact DT rfl)⟩)))))))))
  |c3 i=>exact Zi rfl rfl rfl (Jy (by decide) (Zi rfl rfl rfl (Jy (by decide) (Zi rfl rfl rfl (Jy (by decide) (Zi rfl rfl rfl (Zn (JM rfl rfl (YJ rfl rfl hN rfl ⟨i,MM s0 L k (fun b hb=>by simp at hb) (by unfold Vbcsaf.step;exact DT rfl)⟩)))))))))
  |c11 r c n=>exact Zi rfl rfl rfl (Jy (by decide) (Zi rfl rfl rfl (Jy (by decide) (Zi rfl rfl rfl (Jy (by decide) (Zi rfl rfl rfl (Jy (by decide) (JM rfl rfl (YJ rfl rfl hN rfl (J9 rfl (YJ rfl rfl hN rfl (J9 rfl (YJ rfl rfl hN rfl ⟨r,c,n,MM s0 L k (fun b hb=>by simp at hb) (by unfold Vbcsaf.step;exact DT rfl)⟩)))))))))))))
  |_=>exact absurd hn (by decide)
def Bf (A:Adr):Sp:=fun vs H Q _=> ∃(H0:Hp) (p an al:Addr) (n:Int) (xs:List Int) (rows:List (List Int)) (rs:List Addr) (c:Vbcsaf.Call),vs=[.ref p, .int n, .ref al]/\Raw H0 H xs rows rs an al/\CallIs n xs rows c/\(4<=n/\n<=10)/\StepSp A c H0 H p Q
theorem Bm (T:Txt K mg A):FnOk P w K mg base CX0 9 A.ZZ A.U4 ["line","number","lists"] (Bf A):=by
 refine T.U3.ok Bc (fun H vs Q E h=>?_)
 ·obtain⟨H0,p,an,al,n,xs,rows,rs,c,rfl,R,C,hn,dx,fs,st,s0,L,k⟩:=h;refine⟨rfl,fun _ _ _ _ hr=>?_⟩;refine⟨_,(J3 (Jm (Jk ZG (pv 1) J5 (Jn _)) (J4 (J7 (pk (PM T) hr T.KK (J0 (pv 0) J1)))) Jb) (J3 (Jm (Jk ZG (pv 1) J5 (Jn _)) (J4 (J7 (pk (Og T) hr T.GJ (J0 (pv 0) J1)))) Jb) (J3 (Jm (Jk ZG (pv 1) J5 (Jn _)) (J4 (J7 (pk (Np T) hr T.Fn (J0 (pv 0) J1)))) Jb) (J3 (Jm (Jk ZG (pv 1) J5 (Jn _)) (J4 (J7 (pk (NO T) hr T.HH (J0 (pv 0) (J0 (Jq Ji (pv 2) J5 (fun _ _=>rfl)) (J0 (Jq Ji (pv 2) J5 (fun _ _=>rfl)) J1)))))) Jb) (J3 (Jm (Jk ZG (pv 1) J5 (Jn _)) (J4 (J7 (pk (NQ T) hr T.GH (J0 (pv 0) (J0 (Jq Ji (pv 2) J5 (fun _ _=>rfl)) J1))))) Jb) (J3 (Jm (Jk ZG (pv 1) J5 (Jn _)) (J4 (J7 (pk (Oa T) hr T.GY (J0 (pv 0) J1)))) Jb) (J4 (J7 (pk (Iz T) hr T.Cz (J0 (pv 0) (J0 (Jq Ji (pv 2) J5 (fun _ _=>rfl)) J1))))))))))),?_⟩;have hL:=SqL.of (K:=K) R.lst;have hp:=s0 _ _ L.obj;have tr:=L.tab.same s0;cases C with
  |c4=>exact Zi rfl rfl rfl (Zn (J9 rfl ⟨p,dx,fs,st.table,rfl,hp,tr,ZI s0 L k (by unfold Vbcsaf.step;exact Yu rfl)⟩))
  |c5=>exact Zi rfl rfl rfl (Jy (by decide) (Zi rfl rfl rfl (Zn (J9 rfl ⟨p,dx,fs,st.table,rfl,hp,tr,ZI s0 L k (by unfold Vbcsaf.step;exact Yu rfl)⟩))))
  |c6=>exact Zi rfl rfl rfl (Jy (by decide) (Zi rfl rfl rfl (Jy (by decide) (Zi rfl rfl rfl (Zn (J9 rfl ⟨p,dx,fs,st.table,rfl,hp,tr,ZI s0 L k (by unfold Vbcsaf.step;exact Yu rfl)⟩))))))
  |c7 x c=>
   obtain⟨a,b,rfl,h1,h2,z1,z2⟩:=R.two;exact Zi rfl rfl rfl (Jy (by decide) (Zi rfl rfl rfl (Jy (by decide) (Zi rfl rfl rfl (Jy (by decide) (Zi rfl rfl rfl (Zn (JM rfl rfl (YJ rfl rfl hL rfl (J9 rfl (YJ rfl rfl hL rfl ⟨a,b,x,c,SqL.of h1,SqL.of h2,z1,z2,p,dx,fs,st.table,rfl,hp,tr,ZI s0 L k (by unfold Vbcsaf.step;exact Yu rfl)⟩)))))))))))
  |c8 l=>
   obtain⟨a,rfl,h1,z1⟩:=R.one;exact Zi rfl rfl rfl (Jy (by decide) (Zi rfl rfl rfl (Jy (by decide) (Zi rfl rfl rfl (Jy (by decide) (Zi rfl rfl rfl (Jy (by decide) (Zi rfl rfl rfl (Zn (JM rfl rfl (YJ rfl rfl hL rfl ⟨a,l,SqL.of h1,z1,p,dx,fs,st.table,rfl,hp,tr,ZI s0 L k (by unfold Vbcsaf.step;exact Yu rfl)⟩)))))))))))
  |c9=>exact Zi rfl rfl rfl (Jy (by decide) (Zi rfl rfl rfl (Jy (by decide) (Zi rfl rfl rfl (Jy (by decide) (Zi rfl rfl rfl (Jy (by decide) (Zi rfl rfl rfl (Jy (by decide) (Zi rfl rfl rfl (Zn (J9 rfl ⟨p,dx,fs,st.table,rfl,hp,tr,ZI s0 L k (by unfold Vbcsaf.step;exact Yu rfl)⟩))))))))))))
  |c10 x=>
   obtain⟨a,rfl,h1,z1⟩:=R.one;exact Zi rfl rfl rfl (Jy (by decide) (Zi rfl rfl rfl (Jy (by decide) (Zi rfl rfl rfl (Jy (by decide) (Zi rfl rfl rfl (Jy (by decide) (Zi rfl rfl rfl (Jy (by decide) (Zi rfl rfl rfl (Jy (by decide) (JM rfl rfl (YJ rfl rfl hL rfl ⟨a,x,SqL.of h1,z1,p,dx,fs,st.table,rfl,hp,tr,ZI s0 L k (by unfold Vbcsaf.step;exact Yu rfl)⟩)))))))))))))
  |_=>exact absurd hn (by decide)
def FP (A:Adr):Sp:=fun vs H Q _=> ∃(H0:Hp) (p an al:Addr) (n:Int) (xs:List Int) (rows:List (List Int)) (rs:List Addr) (c:Vbcsaf.Call),vs=[.int n, .ref an, .ref al]/\Raw H0 H xs rows rs an al/\CallIs n xs rows c/\(12<=n/\n<=13)/\StepSp A c H0 H p Q
theorem J0V (b i j l:Int):DA ([b,i,j,l].map V.int) (some 1) none=[i,j,l].map V.int:=by rw[Ps];rfl
theorem FW (T:Txt K mg A):FnOk P w K mg base CX0 6 A.AS A.AL ["number","numbers","lists"] (FP A):=by
 refine T.AG.ok Fu (fun H vs Q E h=>?_)
 ·obtain⟨H0,p,an,al,n,xs,rows,rs,c,rfl,R,C,hn,dx,fs,st,s0,L,k⟩:=h;refine⟨rfl,fun _ _ _ _ hr=>?_⟩;refine⟨_,(J3 (Jm (Jk ZG (pv 0) J5 (Jn _)) (J4 (J7 (pk (Pk T) hr T.Kw (J0 (Jq Ji (pv 1) J5 (fun _ _=>rfl)) (J0 (UN AX (pv 1) (ZQ J5) LF) (J0 (Jq Ji (pv 2) J5 (fun _ _=>rfl)) J1)))))) Jb) (J4 (J7 (pk (HS T) hr T.BW (J0 (Jq Ji (pv 1) J5 (fun _ _=>rfl)) (J0 (UN AX (pv 1) (ZQ J5) LF) (J0 (Jq Ji (pv 2) J5 (fun _ _=>rfl)) (J0 (Jq Ji (pv 2) J5 (fun _ _=>rfl)) J1)))))))),?_⟩;have hN:=SqL.of (K:=K) R.num;have hL:=SqL.of (K:=K) R.lst;cases C with
  |c12 b i j l x=>
   obtain⟨a,rfl,h1,z1⟩:=R.one;refine Zi rfl rfl rfl (Zn (J9 rfl (YJ rfl rfl hN rfl (JM rfl rfl (JX rfl hN (fun d hd=>?_))))));have s1:Same H (upd H d (.lst (DA ([b,i,j,l].map V.int) (some 1) none))):=(Same.refl H).new hd;refine J9 rfl (YJ rfl rfl (s1.seq hL) rfl ⟨d,a,b,i,j,l,x,rfl,SqL.of (by rw[J2,J0V]),SqL.of (s1 _ _ h1),z1,Ans.mv s1 (ZI s0 L k (by unfold Vbcsaf.step;exact Yu rfl))⟩)
  |c13 b i j l x y=>
   obtain⟨a,a2,rfl,h1,h2,z1,z2⟩:=R.two;refine Zi rfl rfl rfl (Jy (by decide) (J9 rfl (YJ rfl rfl hN rfl (JM rfl rfl (JX rfl hN (fun d hd=>?_))))));have s1:Same H (upd H d (.lst (DA ([b,i,j,l].map V.int) (some 1) none))):=(Same.refl H).new hd;refine J9 rfl (YJ rfl rfl (s1.seq hL) rfl (J9 rfl (YJ rfl rfl (s1.seq hL) rfl ⟨d,a,a2,b,i,j,l,x,y,rfl,SqL.of (by rw[J2,J0V]),SqL.of (s1 _ _ h1),SqL.of (s1 _ _ h2),z1,z2,Ans.mv s1 (ZI s0 L k (by unfold Vbcsaf.step;exact Yu rfl))⟩)))
  |_=>exact absurd hn (by decide)
def FR (A:Adr):Sp:=fun vs H Q _=> ∃(H0:Hp) (p an al:Addr) (n:Int) (xs:List Int) (rows:List (List Int)) (rs:List Addr) (c:Vbcsaf.Call),vs=[.ref p, .int n, .ref an, .ref al]/\Raw H0 H xs rows rs an al/\CallIs n xs rows c/\(14<=n/\n<=20)/\StepSp A c H0 H p Q
theorem Fy (T:Txt K mg A):FnOk P w K mg base CX0 9 A.AR A.AZ ["line","number","numbers","lists"] (FR A):=by
 refine T.AJ.ok FB (fun H vs Q E h=>?_)
 ·obtain⟨H0,p,an,al,n,xs,rows,rs,c,rfl,R,C,hn,dx,fs,st,s0,L,k⟩:=h;refine⟨rfl,fun _ _ _ _ hr=>?_⟩;refine⟨_,(J3 (Jm (Jk ZG (pv 1) J5 (Jn _)) (J4 (J7 (pk (Qt T) hr T.Mm (J0 (pv 0) (J0 (Jq Ji (pv 2) J5 (fun _ _=>rfl)) (J0 (Jq Ji (pv 3) J5 (fun _ _=>rfl)) (J0 (Jq Ji (pv 3) J5 (fun _ _=>rfl)) J1))))))) Jb) (J3 (Jm (Jk ZG (pv 1) J5 (Jn _)) (J4 (J7 (pk (Qe T) hr T.IX (J0 (pv 0) J1)))) Jb) (J3 (Jm (Jk ZG (pv 1) J5 (Jn _)) (J4 (J7 (pk (FA T) hr T.B8 (J0 (pv 0) J1)))) Jb) (J3 (Jm (Jk ZG (pv 1) J5 (Jn _)) (J4 (J7 (pk (GB T) hr T.BH (J0 (pv 0) (J0 (Jq Ji (pv 3) J5 (fun _ _=>rfl)) (J0 (Jq Ji (pv 3) J5 (fun _ _=>rfl)) J1)))))) Jb) (J3 (Jm (Jk ZG (pv 1) J5 (Jn _)) (J4 (J7 (pk (Ik T) hr T.CJ (J0 (pv 0) J1)))) Jb) (J3 (Jm (Jk ZG (pv 1) J5 (Jn _)) (J4 (J7 (pk (GZ T) hr T.BI (J0 (pv 0) (J0 (Jq Ji (pv 3) J5 (fun _ _=>rfl)) J1))))) Jb) (J4 (J7 (pk (Q7 T) hr T.L5 (J0 (pv 0) (J0 (Jq Ji (pv 3) J5 (fun _ _=>rfl)) J1))))))))))),?_⟩;have hN:=SqL.of (K:=K) R.num;have hL:=SqL.of (K:=K) R.lst;have hp:=s0 _ _ L.obj;have tr:=L.net.ok.same s0;cases C with
  |c14 n u a=>
   obtain⟨a1,a2,rfl,h1,h2,z1,z2⟩:=R.two;exact Zi rfl rfl rfl (Zn (JM rfl rfl (YJ rfl rfl hN rfl (J9 rfl (YJ rfl rfl hL rfl (J9 rfl (YJ rfl rfl hL rfl ⟨H0,p,a1,a2,n,u,a,rfl,h1,SqL.of h2,z1,R.fresh _ (by simp),dx,fs,st,s0,L,k⟩)))))))
  |c15=>exact Zi rfl rfl rfl (Jy (by decide) (Zi rfl rfl rfl (Zn (J9 rfl ⟨p,dx,fs,st.net,rfl,hp,tr,ZI s0 L k (by unfold Vbcsaf.step;exact Yu rfl)⟩))))
  |c16=>exact Zi rfl rfl rfl (Jy (by decide) (Zi rfl rfl rfl (Jy (by decide) (Zi rfl rfl rfl (Zn (J9 rfl ⟨p,dx,fs,st.net,rfl,hp,tr,ZI s0 L k (by unfold Vbcsaf.step;exact Yu rfl)⟩))))))
  |c17 x c=>
   obtain⟨a,b,rfl,h1,h2,z1,z2⟩:=R.two;exact Zi rfl rfl rfl (Jy (by decide) (Zi rfl rfl rfl (Jy (by decide) (Zi rfl rfl rfl (Jy (by decide) (Zi rfl rfl rfl (Zn (JM rfl rfl (YJ rfl rfl hL rfl (J9 rfl (YJ rfl rfl hL rfl ⟨a,b,x,c,SqL.of h1,SqL.of h2,z1,z2,p,dx,fs,st.net,rfl,hp,tr,ZI s0 L k (by unfold Vbcsaf.step;exact Yu rfl)⟩)))))))))))
  |c18=>exact Zi rfl rfl rfl (Jy (by decide) (Zi rfl rfl rfl (Jy (by decide) (Zi rfl rfl rfl (Jy (by decide) (Zi rfl rfl rfl (Jy (by decide) (Zi rfl rfl rfl (Zn (J9 rfl ⟨p,dx,fs,st.net,rfl,hp,tr,ZI s0 L k (by unfold Vbcsaf.step;exact Yu rfl)⟩))))))))))
  |c19 l=>
   obtain⟨a,rfl,h1,z1⟩:=R.one;exact Zi rfl rfl rfl (Jy (by decide) (Zi rfl rfl rfl (Jy (by decide) (Zi rfl rfl rfl (Jy (by decide) (Zi rfl rfl rfl (Jy (by decide) (Zi rfl rfl rfl (Jy (by decide) (Zi rfl rfl rfl (Zn (JM rfl rfl (YJ rfl rfl hL rfl ⟨a,l,SqL.of h1,z1,p,dx,fs,st.net,rfl,hp,tr,ZI s0 L k (by unfold Vbcsaf.step;exact Yu rfl)⟩)))))))))))))
  |c20 x=>
   obtain⟨a,rfl,h1,z1⟩:=R.one;exact Zi rfl rfl rfl (Jy (by decide) (Zi rfl rfl rfl (Jy (by decide) (Zi rfl rfl rfl (Jy (by decide) (Zi rfl rfl rfl (Jy (by decide) (Zi rfl rfl rfl (Jy (by decide) (Zi rfl rfl rfl (Jy (by decide) (JM rfl rfl (YJ rfl rfl hL rfl ⟨a,x,SqL.of h1,z1,p,dx,fs,st.net,rfl,hp,tr,ZI s0 L k (by unfold Vbcsaf.step;exact Yu rfl)⟩)))))))))))))
  |_=>exact absurd hn (by decide)
def N8 (A:Adr):Sp:=fun vs H Q _=> ∃(H0:Hp) (p o an al dc:Addr) (n e:Int) (xs:List Int) (rows:List (List Int)) (rs:List Addr) (c:Vbcsaf.Call),vs=[.ref p, .ref o]/\H o=some (.ins A.UV dc (WX n an al e))/\Raw H0 H xs rows rs an al/\CallIs n xs rows c/\StepSp A c H0 H p Q
theorem MY (T:Txt K mg A):FnOk P w K mg base CX0 10 A.Ff A.EQ ["line","call"] (N8 A):=by
 refine T.EE.ok Df (fun H vs Q E h=>?_)
 ·obtain⟨H0,p,o,an,al,dc,n,e,xs,rows,rs,c,rfl,ho,R,C,S⟩:=h;refine⟨rfl,fun _ _ _ _ hr=>?_⟩;refine⟨_,(J3 (YL 2 Df.nd (J6 (pv 1) rfl)) (J3 (Jm (PW.pt (Pb (Jk Ee (pv 2) J5 (Jn _)) (IN (Jk ZG (pv 2) J5 (Jn _))))) (J4 (J7 (pk (C3 T) hr T.Uu (J0 (pv 0) (J0 (pv 2) (J0 (J6 (pv 1) rfl) (J0 (J6 (pv 1) rfl) J1))))))) Jb) (J3 (Jm (Jk Ee (pv 2) J5 (Jn _)) (J4 (J7 (pk (Bm T) hr T.U3 (J0 (pv 0) (J0 (pv 2) (J0 (J6 (pv 1) rfl) J1)))))) Jb) (J3 (Jm (Jk Ee (pv 2) J5 (Jn _)) (J4 (J7 (pk (FW T) hr T.AG (J0 (pv 2) (J0 (J6 (pv 1) rfl) (J0 (J6 (pv 1) rfl) J1)))))) Jb) (J3 (Jm (Jk Ee (pv 2) J5 (Jn _)) (J4 (J7 (pk (Fy T) hr T.AJ (J0 (pv 0) (J0 (pv 2) (J0 (J6 (pv 1) rfl) (J0 (J6 (pv 1) rfl) J1))))))) Jb) (J4 (J7 (pk (O0 T) hr T.GT (J0 (pv 0) J1))))))))),?_⟩;have rng:=TX C;refine JB rfl ho T.Z0 T.EZ rfl ?_;refine J9 rfl (Y9 rfl rfl (J9 rfl (Ig (fun h=>JV (JM rfl rfl (JB rfl ho T.Z0 T.Zq rfl (JB rfl ho T.Z0 T.Zv rfl ⟨H0,p,an,al,n,xs,rows,rs,c,rfl,R,C, .inl h,S⟩)))) (fun h=>?_))));refine Zi rfl rfl rfl (Vu (fun h2=>JM rfl rfl (JB rfl ho T.Z0 T.Zq rfl (JB rfl ho T.Z0 T.Zv rfl ⟨H0,p,an,al,n,xs,rows,rs,c,rfl,R,C, .inr h2,S⟩))) (fun h2=>?_));refine J9 rfl (Y9 rfl rfl (J9 rfl (Ig (fun h3=>JM rfl rfl (JB rfl ho T.Z0 T.Zv rfl ⟨H0,p,an,al,n,xs,rows,rs,c,rfl,R,C,⟨by omega,by omega⟩,S⟩)) (fun h3=>?_))));refine J9 rfl (Y9 rfl rfl (J9 rfl (Ig (fun h4=>J9 rfl (JB rfl ho T.Z0 T.Zq rfl (JB rfl ho T.Z0 T.Zv rfl ⟨H0,p,an,al,n,xs,rows,rs,c,rfl,R,C,⟨by omega,by omega⟩,S⟩))) (fun h4=>?_))));refine J9 rfl (Y9 rfl rfl (J9 rfl (Ig (fun h5=>JM rfl rfl (JB rfl ho T.Z0 T.Zq rfl (JB rfl ho T.Z0 T.Zv rfl ⟨H0,p,an,al,n,xs,rows,rs,c,rfl,R,C,⟨by omega,by omega⟩,S⟩))) (fun h5=>?_))));obtain⟨dx,fs,st,s0,L,k⟩:=S;have e21:n=21:=by omega
  subst e21;cases C with
  |c21=>exact J9 rfl ⟨p,dx,fs,st,rfl,L.same s0,ZI s0 L k rfl⟩
open Vbcsaf (Table State)
open PyFlat (putRow putRows put1 put told played)
theorem LineAt.frame {H H':Hp} {p dx:Addr} {fs:List (Str×V)} {st:State} (L:LineAt A H p dx fs st) (f: ∀c u,H c=some u->(Own H p fs c∨NPrt H fs c)->H' c=some u):
  LineAt A H' p dx fs st/\(∀c,Own H' p fs c->Own H p fs c)/\ ∀c,NPrt H' fs c->NPrt H fs c:=by
 have t:TabRel A H' fs st.table/\ ∀c,Own H' p fs c->Own H p fs c:=by
  have t:=L.tab;cases e:st.table with
  |none=>
   rw[e] at t;have h':fs.lookup ("table":Str)=some .non:=t;refine⟨t,fun c hc=>?_⟩;rcases hc with q|⟨tp,e,_⟩
   ·exact .inl q
   ·rw[h'] at e;cases e
  |some t'=>
   rw[e] at t;obtain⟨tp,h1,pr,pc,px,kd,td,kvs,N,hB⟩:=t;have pt: ∀b,Parts (IE t' pr pc px kd) b->Own H p fs b:=fun b hb=> .inr ⟨tp,h1, .inr ⟨_,_,_,N.obj,hb⟩⟩;have o':=f _ _ N.obj (.inl (.inr ⟨tp,h1, .inl rfl⟩));refine⟨⟨tp,h1,pr,pc,px,kd,td,kvs,⟨o',f _ _ N.rows (.inl (pt _ (.inr (.inr (.inl (Gc ..)))))),f _ _ N.cols (.inl (pt _ (.inr (.inr (.inr (GF ..)))))),f _ _ N.cells (.inl (pt _ (.inr (.inl (Bt ..))))),f _ _ N.kept (.inl (pt _ (.inl (E6 ..)))),N.kok⟩,hB⟩,fun c hc=>?_⟩;rcases hc with q|⟨tp',e,q⟩
   ·exact .inl q
   ·rw[h1] at e;cases e;rcases q with q|⟨C,td',fl,e,q⟩
    ·exact .inr ⟨tp,h1, .inl q⟩
    ·rw[o'] at e;cases e;exact pt c q
 have n:NetRel A H' p fs st.net/\ ∀c,NPrt H' fs c->NPrt H fs c:=by
  have n:=L.net;cases e:st.net with
  |none=>
   rw[e] at n;have h':fs.lookup ("net":Str)=some .non:=n;exact⟨n,fun c ⟨np,e,_⟩=>by rw[h'] at e;cases e⟩
  |some g=>
   rw[e] at n;obtain⟨np,ps,pa,nd,as,h1,N,h3,h4,h5⟩:=n;have N':NetAt A H' np g ps pa as nd:=N.frame (fun b o e hb=>f b o e (.inr ((U2 h1 N).mpr hb)));exact⟨⟨np,ps,pa,nd,as,h1,N',h3,h4,fun b hb o=>h5 b hb (t.2 b o)⟩,fun c hc=>(U2 h1 N).mpr ((U2 h1 N').mp hc)⟩
 exact⟨⟨f _ _ L.obj (.inl (.inl rfl)),L.len,t.1,n.1⟩,t.2,n.2⟩
theorem WL {H:Hp} {p dx o dc an al:Addr} {n e:Int} {fs:List (Str×V)} {st:State} (L:LineAt A H p dx fs st) (ho:H o=some (.ins A.UV dc (WX n an al e))): ¬Own H p fs o:=by
 have t:=L.tab;rintro(rfl|⟨tp,e1,q⟩)
 ·rw[L.obj] at ho;injection (Option.some.inj ho) with _ _ e
  obtain⟨u,hu⟩:=t.has;rw[e] at hu;exact absurd (show(none:Option V)=some u from hu) (by intro z;cases z)
 ·cases e2:st.table with
  |none=>
   rw[e2] at t;have h':fs.lookup ("table":Str)=some .non:=t;rw[h'] at e1;cases e1
  |some t'=>
   rw[e2] at t;obtain⟨tp',h1,pr,pc,px,kd,td,kvs,N,hB⟩:=t;rw[h1] at e1;cases e1;rcases q with rfl|⟨C,td',fl,e3,q⟩
   ·rw[N.obj] at ho;injection (Option.some.inj ho) with _ _ e
    have:=congrArg List.length e;exact absurd this (by show¬(7=4);decide)
   ·rw[N.obj] at e3;cases e3;rcases q with q|q|q|q
    ·rw[E6] at q;cases q;rw[N.kept] at ho;cases ho
    ·rw[Bt] at q;cases q;rw[N.cells] at ho;cases ho
    ·rw[Gc] at q;cases q;rw[N.rows] at ho;cases ho
    ·rw[GF] at q;cases q;rw[N.cols] at ho;cases ho
def after:State->List (List (List Int))->State
 |s,[]=>s
 |s,c::r=>after (VbcsafNeutral.step s c).1 r
theorem FE: ∀(s:State) (d r:List (List (List Int))),played VbcsafNeutral.step s (d++r)=played VbcsafNeutral.step s d++played VbcsafNeutral.step (after s d) r
 |_,[],_=>rfl
 |s,c::d,r=>congrArg (List.cons _) (FE (VbcsafNeutral.step s c).1 d r)
theorem Oy: ∀(s:State) (d r:List (List (List Int))),after s (d++r)=after (after s d) r
 |_,[],_=>rfl
 |s,c::d,r=>Oy (VbcsafNeutral.step s c).1 d r
theorem Qq: ∀(d r:List (List (List Int))),put (d++r)=put d++put r
 |[],_=>rfl
 |c::d,r=>by
  show put1 c++put (d++r)=(put1 c++put d)++put r;rw[Qq d r,List.append_assoc]
theorem RF (a b:List (List Int)):told (a++b)=told a++told b:=by unfold PyFlat.told;rw[List.flatMap_append]
def Pg (A:Adr):Sp:=fun vs H Q _=> ∃(p dx:Addr),vs=[.ref p]/\H p=some (.ins A.JU dx [])/\Q .non (upd H p (.ins A.JU dx [("table", .non),("net", .non)]))
theorem PK (T:Txt K mg A):FnOk P w K mg base CX0 1 A.Kh A.KS ["self"] (Pg A):=by
 refine T.UO.ok Qb (fun H vs Q E h=>?_)
 ·obtain⟨p,dx,rfl,hp,k⟩:=h;refine⟨rfl,fun _ _ _ _ hr=>?_⟩;refine⟨_,(J3 (JP (pv 0) Nj rfl) (J4 (JP (pv 0) Nj rfl))),?_⟩;refine J9 rfl ⟨p,_,JX rfl hp ⟨T.Jg,T.Je,(by show 0<1000;decide),?_⟩⟩;refine J9 rfl ⟨p,_,JX rfl J2 ⟨T.Jg,T.Jo,(by show 1<1000;decide),?_⟩⟩;rw[Jz];exact k
theorem Sn {n:Int} {xs:List Int} {rows:List (List Int)} {c:Vbcsaf.Call} (h:CallIs n xs rows c):rows_SHAPES.lookup n=some [(xs.length:Int),(rows.length:Int)]/\rows.length<=1000:=by
 cases h<;>exact⟨rfl,by simp only[List.length_cons,List.length_nil];decide⟩
def Held (K:PySem.W.Frag) (H:Hp) (p:Addr) (fs:List (Str×V)) (lg a:Addr) (xs:List V):Prop:=(∀H',SqL K H' a xs)∨ ∃o,H a=some o/\ ¬Own H p fs a/\a≠lg/\ ∀H',H' a=some o->SqL K H' a xs
theorem Held.seq {H:Hp} {p lg a:Addr} {fs:List (Str×V)} {xs:List V} (h:Held K H p fs lg a xs):SqL K H a xs:=by
 rcases h with h|⟨o,h1,_,_,h2⟩
 ·exact h H
 ·exact h2 H h1
def Nl (K:PySem.W.Frag):Sp:=fun vs H Q _=> ∃(a:Addr) (l:List Int),vs=[.ref a]/\SqL K H a (l.map V.int)/\PyVbcsaf.answers_asked l=true/\ ∀(H':Hp) (p:Addr),H' p=some (.lst ((PyVbcsaf.answers l).map V.int))->Q (.ref p) H'
theorem Sq (T:Txt K mg A):FnOk P w K mg base CX0 11 A.OD A.Oz ["calls"] (Nl K):=by
 refine T.IC.ok ZY (fun H vs Q E h=>?_)
 ·obtain⟨a,l,rfl,hl,hask,k⟩:=h;refine⟨rfl,fun _ _ _ _ hr=>?_⟩;obtain⟨raw,el,hc,ea,hlen⟩:=Pm.VZ hask;refine⟨_,(J3 (YL 1 ZY.nd (pm0 (PK T) hr T.UO)) (J3 (YL 2 ZY.nd (Jd J1)) (J3 (YL 3 ZY.nd J5) (J3 (GK PassesOwn.never (Jk DN (pv 3) (Jc Ju (by rfl) T.JG Js (J0 (pv 0) J1)) (Jn _)) (J3 (YL 4 ZY.nd (pk (Q9 T) hr T.Ke (J0 (pv 0) (J0 (pv 3) J1)))) (J3 (YL 5 ZY.nd (pk (MY T) hr T.EE (J0 (pv 1) (J0 (pv 4) J1)))) (J3 (Yi (UP PySem.F.plainAttrs_list PySem.F.slot_list_append PySem.F.type_list_append Yh (pv 2) (J0 (Jc Ju (by rfl) T.JG Js (J0 (pv 5) J1)) J1))) (J3 (Yi (UP PySem.F.plainAttrs_list PySem.F.slot_list_extend PySem.F.type_list_extend Iv (pv 2) (J0 (pv 5) J1))) (J4 (YL 3 ZY.nd (J6 (pv 4) rfl)))))))) (J4 (J7 (pv 2))))))),?_⟩;intro p dx np ndx ne;refine⟨p,dx,rfl,J2,rfl,?_⟩;rw[Jz];have s1:Same H (upd (upd H dx (.own p)) p (.ins A.JU dx [("table", .non),("net", .non)])):=((Same.refl H).new ndx).new (by rw[Ja ne.symm];exact np);have c1:upd (upd H dx (.own p)) p (.ins A.JU dx [("table", .non),("net", .non)]) p=_:=J2;generalize upd (upd H dx (.own p)) p (.ins A.JU dx [("table", .non),("net", .non)])=H1 at s1 c1;refine⟨Nat.zero_le _,fun lg flg=>?_⟩;have s2:Same H1 (upd H1 lg (.lst [])):=(Same.refl H1).new flg;have c2:upd H1 lg (.lst []) lg=some (.lst (([]:List Int).map V.int)):=J2;generalize upd H1 lg (.lst [])=H2 at s2 c2;have sA:=s1.trans s2;have L0:LineAt A H2 p dx [("table", .non),("net", .non)] VbcsafNeutral.start:=⟨s2 _ _ c1,by show 2<=10;decide,rfl,rfl⟩
  have own0: ∀b,Own H2 p [("table",V.non),("net",V.non)] b->b=p:=fun b hb=>by
   rcases hb with q|⟨tp,e,_⟩
   ·exact q
   ·cases e
  have hd0:Held K H2 p [("table", .non),("net", .non)] lg a (l.map V.int):=by
   have n1: ∀o,H a=some o-> ¬Own H2 p [("table",V.non),("net",V.non)] a:=fun o e z=>by rw[own0 a z,np] at e;cases e
   have n2: ∀o,H a=some o->a≠lg:=fun o e=>Jv (s1 _ _ e) flg;rcases hl with(h|⟨o,h⟩)|h
   ·exact .inr ⟨_,sA _ _ h,n1 _ h,n2 _ h,fun H' e=> .inl (.inl e)⟩
   ·exact .inr ⟨_,sA _ _ h,n1 _ h,n2 _ h,fun H' e=> .inl (.inr ⟨o,e⟩)⟩
   ·exact .inl fun H'=> .inr h
  let J:List (List (List Int))->List (List (List Int))->L2.St->Hp->Prop:=fun done rest σ H'=> ∃(v4 v5:Option V) (fs:List (Str×V)),raw=done++rest/\σ=[some (.ref a),some (.ref p),some (.ref lg),some (.int ((put done).length:Nat)),v4,v5]/\LineAt A H' p dx fs (after VbcsafNeutral.start done)/\
   H' lg=some (.lst ((told (played VbcsafNeutral.step VbcsafNeutral.start done)).map V.int))/\ ¬Own H' p fs lg/\ ¬NPrt H' fs lg/\Held K H' p fs lg a (l.map V.int)
  refine⟨fun m σ H'=> ∃done rest,m=rest.length/\J done rest σ H',⟨raw.length,[],raw,rfl,none,JX rfl rfl ⟨L0,c2,fun z=>?_,(fun⟨np,e,_⟩=>by cases e),hd0⟩⟩,?_⟩
  ·have:=own0 lg z;rw[this] at flg;rw[c1] at flg;cases flg
  rintro m σ H' ⟨done,rest,rfl,v4,v5,fs,er,rfl,L,hg,no,WC,hd⟩;have hS:=hd.seq;have eput:l=put done++put rest:=by rw[el,er,Qq]
  refine JM rfl rfl (JX rfl (.inl hS) (Y9 rfl rfl (J9 rfl ?_)));rw[List.length_map];cases rest with
  |nil=>
   have e1:put done=l:=by rw[eput];exact(List.append_nil _).symm
   have e2:done=raw:=by rw[er,List.append_nil]
   rw[decide_eq_false (show¬(((put done).length:Nat):Int)<(l.length:Int) by rw[e1];omega)];refine Ya (J9 rfl (k H' lg ?_));rw[hg,ea,e2]
  |cons c rest=>
   obtain⟨n,xs,rows,cl,ec,CI,hcl,h160⟩:=hc c (by rw[er];simp);subst ec
   have lpos:(put done).length<l.length:=by
    rw[eput,List.length_append];show _<_+((n::xs++putRows rows)++put rest).length;simp only[List.length_append,List.length_cons];omega
   rw[decide_eq_true (show(((put done).length:Nat):Int)<(l.length:Int) by omega)];refine JV ⟨J (done++[(n::xs)::rows]) rest,fun σ' H'' q=>⟨rest.length,Nat.lt_succ_self _,_,rest,rfl,q⟩,?_⟩
   have eL:l=put done++(n::(xs++(putRows rows++put rest))):=by
    rw[eput];show put done++((n::xs++putRows rows)++put rest)=_;simp
   obtain⟨sh1,sh2⟩:=Sn CI;rw[eL] at hS;refine JM rfl rfl ⟨a,put done,put rest,xs,n,rows,rfl,hS,sh1,sh2,fun H3 o rs an al dc s3 CA fresh=>?_⟩;have L3:=L.same s3;have R:Raw H' H3 xs rows rs an al:=⟨CA.num,CA.lst,CA.len,CA.row,CA.nd,fresh,h160⟩;refine JM rfl rfl ⟨H',p,o,an,al,dc,n,_,xs,rows,rs,cl,rfl,CA.obj,R,CI,dx,fs,_,s3,L,fun H4 d fs' N=>?_⟩;have no3: ¬Own H3 p fs lg:=fun z=>no ((BS L.tab s3).mp z);have hg3:=s3 _ _ hg;have hg4:=N.frame _ _ hg3 no3;have no4:=N.own _ _ hg no3;have np4:=N.prt _ _ hg (fun z=>WC ((OK s3 L.net).mp z));have ho4:=N.frame _ _ CA.obj (WL L3 CA.obj);have dlg:d≠lg:=fun z=>by have:=N.new;rw[z,hg3] at this;cases this
   have olg:o≠lg:=JY ho4 hg4 (by intro z;cases z)
   have est:VbcsafNeutral.step (after VbcsafNeutral.start done) ((n::xs)::rows)=Vbcsaf.step (after VbcsafNeutral.start done) cl:=by
    unfold VbcsafNeutral.step;rw[hcl]
   have eaf:after VbcsafNeutral.start (done++[(n::xs)::rows])=(Vbcsaf.step (after VbcsafNeutral.start done) cl).1:=by
    rw[Oy];show(VbcsafNeutral.step (after VbcsafNeutral.start done) ((n::xs)::rows)).1=_;rw[est]
   have epl:told (played VbcsafNeutral.step VbcsafNeutral.start (done++[(n::xs)::rows]))=told (played VbcsafNeutral.step VbcsafNeutral.start done)++((((Vbcsaf.step (after VbcsafNeutral.start done) cl).2.length:Nat):Int)::(Vbcsaf.step (after VbcsafNeutral.start done) cl).2):=by
    rw[FE,RF];show _++(((VbcsafNeutral.step (after VbcsafNeutral.start done) ((n::xs)::rows)).2.length:Int)::(VbcsafNeutral.step (after VbcsafNeutral.start done) ((n::xs)::rows)).2++[])=_;rw[est,List.append_nil]
   have short:(told (played VbcsafNeutral.step VbcsafNeutral.start (done++[(n::xs)::rows]))).length<=10000000:=by
    rw[ea,er,show done++((n::xs)::rows)::rest=(done++[(n::xs)::rows])++rest by simp,FE,RF,List.length_append] at hlen;omega
   have sz:10000000<sizeLine:=by show 10000000<2^24;decide
   have N2:=N.line;have ans:=N.ans;rw[epl] at short;rw[<-eaf] at N2;generalize (Vbcsaf.step (after VbcsafNeutral.start done) cl).2=an2 at ans short epl;generalize told (played VbcsafNeutral.step VbcsafNeutral.start done)=out at hg4 short epl;rw[List.length_append,List.length_cons] at short;refine J9 rfl ⟨.inl ⟨rfl,_,SqL.of hg4⟩,J9 rfl (JX rfl (.inl (SqL.of ans)) (Vj rfl rfl hg4 (by rw[List.length_map];omega) ?_))⟩;rw[List.length_map];refine J9 rfl ⟨.inl ⟨rfl,_,SqL.of J2⟩,J9 rfl ⟨lg,d,Y9 rfl rfl ⟨J2,(by rw[Ja dlg];exact ans),(by rw[List.length_append,List.length_map,List.length_map];show _+1+_<=_;omega),?_⟩⟩⟩;rw[Jz];have eo:out.map V.int++[V.int (an2.length:Int)]++an2.map V.int=(out++((an2.length:Int)::an2)).map V.int:=by simp
   rw[eo,<-epl];refine JB rfl (by rw[Ja olg];exact ho4) T.Z0 T.MJ rfl ?_
   obtain⟨F1,F2,F3⟩:=N2.frame (H':=upd H4 lg (.lst ((told (played VbcsafNeutral.step VbcsafNeutral.start (done++[(n::xs)::rows]))).map V.int))) (fun c u e z=>by
    have:c≠lg:=fun q=>by
     subst q;rcases z with z|z
     ·exact no4 z
     ·exact np4 z
    rw[Ja this];exact e)
   refine⟨some (.ref o),some (.ref d),fs',by rw[er];simp,?_,F1,J2,fun z=>no4 (F2 _ z),fun z=>np4 (F3 _ z),?_⟩
   ·show[_,_,_,some (V.int (((put done).length+1+xs.length+(putRows rows).length:Nat):Int)),_,_]=[_,_,_,some (V.int ((put (done++[(n::xs)::rows])).length:Nat)),_,_]
    have:(put done).length+1+xs.length+(putRows rows).length=(put (done++[(n::xs)::rows])).length:=by
     rw[Qq,List.length_append];show _=_+((n::xs++putRows rows)++[]).length;simp only[List.length_append,List.length_cons,List.length_nil];omega
    rw[this]
   ·rcases hd with h|⟨u,h1,h2,h3,h4⟩
    ·exact .inl h
    ·have n3: ¬Own H3 p fs a:=fun z=>h2 ((BS L.tab s3).mp z);exact .inr ⟨u,by rw[Ja h3];exact N.frame _ _ (s3 _ _ h1) n3,fun z=>N.own _ _ h1 n3 (F2 _ z),h3,h4⟩
end
end Pf
structure PySem.W.Fast:Prop where (tw16540751039444731569 tw11024850446227956073 tw13080967292976881200 tw1467956388785301927 tw5999440546141467923 tw16465871901953302094 tw13643527234681272913 tw4424480652337259661 tw2096720780114677621 tw11027156822326806467 tw18043130711359862066 tw78983142277506970 tw14361458495341085969 tw15631017159922592811 tw3305875397945551133 tw9986848010100359566 tw7673523322994804972 tw1684506865415985121 tw9788295472990248995 tw14231656801045513263 tw13444874393551150171 tw9371809894812987876 tw12229695348054160854 tw17455624182701912089 tw3455623223561396780 tw13322482806534255616 tw1917702520180964098 tw4474228185794091377 tw9737334773387124606 tw12352621860334655416 tw673306252688328342 tw11131011039633345685 tw6651737123421271957 tw4833629237182069615 tw11164578836165067773 tw1412943752984515985 tw9410512256154608558 tw4446289329864495258 tw12109652110948997624 tw4646309909276985805 tw14223085507544801697 tw18006512149446845585 tw15316707037175403431 tw11465212221776836798 tw2257603738239304703 tw6979788008627811969 tw4398562403665867491 tw4049025005051115099 tw11143291529152130216 tw17833195732804302587 tw12807060066580056020 tw12763184110449032906 tw2100458085092952659 tw10519408352115604012 tw8452209650037740347 tw10917689003118506190 tw9064500587956118586 tw5844947590141178742 tw14698589448770109972 tw11162845019324026818 tw3680933731533683961 tw4753550996567855167 tw10375063821280355843 tw14434148542971288930 tw13815249446512483215 tw14737118988788562260 tw9285254449377573354 tw5805100035104330333 tw6338423061770457739 tw16343250157766167685 tw17709280515382010259 tw14162033675974942363 tw3171746687271864576 tw2490704794126194608 tw2093529640391503677 tw2732165138701518457 tw10798700174743957393 tw1868756925135930498 tw16162743854325313063 tw7028208328767481497 tw16069044441941749925 tw13974224821663616086 tw6308867680919354798 tw11272510325920997322 tw7694565355019505310 tw747436786066665954 tw17607158017743920446 tw12836642196843310576 tw2897264565783820906 tw8196328930640188382 tw11295045497968411823 tw5722382690264592315 tw10415199893571655629 tw1469227978368645114 tw13429186243517239437 tw18087968305393586737 tw3018197727000275828 tw16615843703564846178 tw15304866543295337593 tw1203340440388133923 tw15097082955102364448 tw436348347591458044 tw16577469328748589036 tw12076083668911924057 tw3056763882586572205 tw1782408192366534144 tw1353924121776271603 tw7854557787453560575 tw12873844100263407596 tw9863284723853426256 tw14298725652804157779 tw16848822645888520908 tw16199701051180456858 tw1364221365536151309 tw1483088088084980691 tw2312298279332369315 tw1233072295946688506 tw13814720000938587220 tw1394066177500789977 tw4839917054894023766 tw510364822939571484 tw13836048727075370213 tw2730772187128431078 tw8173658189935052715 tw3096616670466070543 tw10071028493229270507 tw10703526336788943350 tw4540647988885877013 tw9625041323494597375 tw16185913201398195976 tw12619729207591541120 tw5500560168387955247 tw12251409269381616268 tw11523314019179743522 tw3243854201687778610 tw7811879125117633737 tw6409185670152466351 tw2903164609018684396 tw16858276118514899045 tw7215631506742308475 tw13775729589012606537 tw358323057634646515 tw17992200280930300681 tw13659941515465188780 tw16398213503846902519 tw9018589516575256520 tw15590726783264362197 tw12333340397338244911 tw4228867308868169507 tw16251769514943143481 tw6367181319364665838 tw15427207328717753301 tw103121741360524325 tw15961843750993635747 tw15077263908518314297 tw7103708298771956299 tw5238389239334048355 tw10089140035160703910 tw671300046321712590 tw8457164248388461485 tw11242907973238571031 tw15677289351393117164 tw7230128416999294959 tw11849053033512802518 tw6715288795888547568 tw1117440659555994217 tw5929413823177966125 tw4757082697463031439 tw5615503708919023667 tw11071855195348407802 tw5703417119944049832 tw17042880927599298292 tw2749277683705603055 tw5828253311646633861 tw14116987248245922917 tw8472962661885824883 tw1779073730679941434 tw11652680372320870915 tw6407086307487856622 tw16105142838247683057 tw7406622301467243968 tw13252797380657333169 tw6878784367503973795 tw1811928933027738938 tw3554045673616525248 tw5378380157709152067 tw9741594018899756763 tw15318229341083089372 tw2887862260835201483 tw4342482701420636701 tw8508950816993983618 tw17330045136872679346 tw8614925861547094560 tw36302179591002634 tw9096472185434020372 tw9047363994128861454 tw3146152446734465166 tw7704983814571282389 tw5368593451982793399 tw1259938497211678600 tw14847243865570089107 tw9736838279644538419 tw399472208835780112 tw9990294297190026370 tw17609431797682050211 tw13740723478755709905 tw16953753896807895967 tw10725370477809673790 tw14185533743961921823 tw5766403304544768800 tw16519786036531550742 tw15151521754457205718 tw15173424974760104474 tw15302140072711422875 tw8505976261220181022 tw1673369690945678969 tw17459680900732104217 tw8379896730530767952 tw1824419536206513365 tw12954164112554563839 tw15855486104610972869 tw8096291818632596146 tw12826631604850291319 tw4832606411372271151 tw5892617284891628138 tw9796240162733801187 tw4299193086317499695 tw15506334870110973234 tw8197674221073565109 tw734440260033420181 tw2714930181388201114 tw6655426256014018844 tw1974282080562449043 tw15856552651639876088 tw1177406179848568125 tw3906167671047230720 tw17928089377817502170 tw3639711125654509057 tw12090361699178236728 tw4111799261835820198 tw16830710405504902709 tw4095457819224864331 tw9679236343803105127 tw4380644312875929219 tw941154060282578049 tw16444059679766429927 tw836401483663694972 tw15302860538219463584 tw5286684259868618436 tw4797354297227583922 tw893033991225069220 tw6402117457718872048 tw14649024340700827819 tw7801448726972824836 tw2520587978593423342 tw10475705935298716891 tw9218803632469310031 tw15368439710918545808 tw1797091264126573678 tw6984782162204850908 tw13595209210281078939 tw3605556279223865291 tw3175743169182645888 tw16672155713539449297 tw3658235024555894508 tw17267014001176053086 tw3149969097030828962 tw14157929056544677310 tw15870329134231797470 tw8863729064341948614 tw10205047460450330715 tw5884814937745599128 tw2118279772751853197 tw6495993755962624652 tw16592978521033768155 tw10247694363938202607 tw12175246194426746522 tw17165303584726522594 tw4279190147786208172 tw4806740993299020284 tw6765003669009719888 tw11827023605311163282 tw2247012345719525457 tw13765798990907918561 tw3122327910469250730 tw15881696210861380413 tw15630974847699163358 tw11153236163177270332 tw10780129099865088218 tw13457481072054111328 tw11694590048129526213 tw2623846005293887419 tw18419502828041376659 tw17272444538279093128 tw11483529786036529776 tw5791396212133757863 tw3946319006495733980 tw4657256440536435341 tw18143050629450557603 tw739414747301499028 tw18302946437763360990 tw7026389352614995476 tw3587303260321169845 tw8016941111720094455 tw18054044400734090485 tw17948054368424532419 tw4325834975915741432 tw13051811144665159561 tw3243118804184790350 tw9397855185682874773 tw4980398824359803673 tw7660655818980756995 tw352199096660299483 tw18007733536341990764 tw10334344643048282564 tw1141730481406830529 tw10181424429344691979 tw1158635620998093291 tw4015593339344446038 tw10889919031316172520 tw8192426895565092081 tw12638825558352870608 tw9418051102558873581 tw8770496657510297651 tw18329968451393046356 tw11371010505305190946 tw2815413404902412671 tw4828092673391024331 tw6418442219666935163 tw2133188381203802107 tw3347739571796780933 tw17723865434710695992 tw14006629895605920448 tw9541702000091766670 tw6868964520485509893 tw6838579551220538108 tw9399550733952983914 tw13369587482593531562 tw13378234851595173083 tw10601284987244779372 tw15760969344775735568 tw12766063494515603836 tw55223611207462561 tw10221448779966022353 tw12038534517724343027 tw5902814571004675764 tw12126668845638512625 tw4912382361779027264 tw2509727692044586785 tw17099461630317996386 tw17638919562236967578 tw3902985956407276239 tw468869568215049052 tw5088684531480749791 tw8175267344550052472 tw5697513088564550139 tw2997736594054875715 tw16828627781039122629 tw9330580751584006171 tw9249776440466659293 tw2135229835645862613 tw7943448593632250550 tw8114912252916344290 tw13515305880532378070 tw11630901906709188534 tw16329531045172412665 tw717992531369240291 tw15817610581259297085 tw5960192310184752538 tw11489344939807251806 tw9412667044721406289 tw9734169947210103447 tw6827673514843379672 tw17628543389309368456 tw1837748163984319879 tw13040674554972383337 tw3112795629910378306 tw16481215275428545190 tw13325166867491611829 tw2417713627539801639 tw12882425396206633591 tw12695408925856177084 tw15107498166325013027 tw10667233584396706892 tw5454691436724100146 tw15057659489068273955 tw4088081792560515011 tw6314136333672617319 tw7868942932992246570 tw12630249999465562022 tw1363123418137667712 tw4389317207119513124 tw1779943193810443413 tw17861252196670113828 tw12421811209855631958 tw16495688227556139673 tw3157972593897455087 tw16607904129437616384 tw1326744021287399313 tw10621954323054542906 tw700500392311806366 tw16329055928940714825 tw2521279970895753623 tw7400956701233127659 tw10258301265975210563 tw2084858382441076370 tw16272830923880257692 tw3412249489106508104 tw4015342526547789621 tw2075669795535879531 tw5426033757396589480 tw18277825861346815031 tw9932272338856510355 tw12306299522338907868 tw12137335381519394819 tw9808138460895310863 tw17320582451518101517 tw261135951604937584 tw8561439220862234139 tw13310406265937856719 tw146843989724086636 tw920355952417568418 tw9260825616825071047 tw8172385258793827272 tw3848787474240554802 tw172124114346189073 tw15558097935812924561 tw4802700626181464191 tw8403433298146421394 tw1015185632828441837 tw12976796823301434231 tw4989406484865231722 tw2970894738695841817 tw4983360095563170972 tw7625117537708773378 tw8111673655646874932 tw7759525113280138972 tw175052685004598049 tw16981232800695073907 tw5099712730991744516 tw8273662549037210208 tw17261011269891229374 tw666376569258719063 tw16874450266175324794 tw14563472246566373762 tw10683688671843921291 tw16205224881355537087 tw8585716645902698485 tw6594806109297339023 tw15942611961607343486 tw3552338805392290190 tw13399463312052779412 tw11764407457595503445 tw961380018011252000 tw888510190296199790 tw9459913437280985370 tw1859393962737197374 tw12547757173133471381 tw2046252765666317959 tw8254902742942612680 tw620437141883846686 tw6807698074920767741 tw10093040802597993588 tw6327306578122124460 tw5077950294242082834 tw10209377377347138 tw15720422200734401172 tw11894722980917801552 tw333682029283567525 tw16896140497021781586 tw162105209981721989 tw16483706422635359462 tw10586122073549542417 tw4072801676931911558 tw2506127132567207610 tw289738162158932231 tw16389901633114760483 tw15497852170064575981 tw11395258733169808781 tw5566044786158438265 tw11132109115350988022 tw14725191230386048222 tw17239126973050144639 tw5395685597477628437 tw9211689780845560798 tw7572554132521108941 tw12878646543606604201 tw15165682379293609841 tw3643025149162181480 tw5894365918263509637 tw10278849201575005949 tw16047715506463165496 tw4523140038657906412 tw13536309907144601570 tw16338240445673749251 tw1662543125877686853 tw12250297488112770567 tw7483153437840142460 tw17363494882235478584 tw14596020429175650601 tw7819664348116265390 tw8232134965805797964 tw11697830398238177460 tw18183375293888183463 tw8861454184770541847 tw4476527990664153669 tw14085437331870505267 tw8412379222134172466 tw10047907502100677018 tw2549793842660400207 tw2835277185739521495 tw16599671605862163454 tw16830575774632338255 tw3718476116699762004 tw7909924692083948221 tw10931502744558665890 tw10395319842549325233 tw16629015501872473300 tw10627349685115026934 tw15160666956295487676 tw14095882337932224946 tw16412819095568883142 tw380196305255251880 tw13747669701085425067 tw18005576411846754429 tw6327605242326469623 tw15107348839851920763 tw406923001932228367 tw11353582925216611841 tw992043292530001533 tw15385449128557963600 tw11036504983778672174 tw1791282962102819562 tw3239061696491134748 tw7216016391558441704 tw14757821930845946476 tw2105492718301558623 tw4056609099106077259 tw5207231428578498328 tw13109140981127769939 tw16879120319988668377 tw10270590483501926818 tw8591417375225714234 tw12080995837526332573 tw2696866245781051110 tw4841243023533569684 tw8268356878706932371 tw3924475090315997460 tw282984050366300394 tw2030876834135944893 tw16506435001535632726 tw1782745322783612288 tw818207255143748283 tw17299682837249311538 tw70271441669632325 tw9108939427682472469 tw1829519322124878810 tw15987232781906080163 tw10883653594330713539 tw5936453793959704334 tw14990356269567878027 tw5352463080806855708 tw15437489311186554984 tw1769092342652158955 tw485987225152060542 tw11198861652750945870 tw10523705036825973475 tw4437155217814130813 tw16857455904768381669 tw14521703168803498123 tw405699364110849966 tw10407264817697178127 tw15657776518031356806 tw1618497814551824558 tw10845577143677577125 tw11345680114881433042 tw11662794614605950470 tw18233165177979706133 tw10287281771048700652 tw15654349173181260453 tw750334368771515109 tw13921002829463611905 tw13697218740879025398 tw6422009418763475175 tw14665143110038103600 tw8769319845065301550 tw2875673922776688503 tw11161977720086359462 tw14691968360916539495 tw917095499669021127 tw3199448314059384874 tw7477268894139661424 tw1390021552770335186 tw3860385857050538244 tw1614482552344004188 tw4767078677079319177 tw18023233028653693483 tw5874631022898281665 tw9992498415737218353 tw8828564735626539194 tw1036491138019216345 tw6894546863340706704 tw8723220674487212299 tw7916956640337225233 tw3340189113347333379 tw5994616810152745899 tw17474740310578647997 tw1432307990618827632 tw8357133268004199461 tw14134427878959932161 tw6012115191665449656 tw9348269517157768351 tw5125320048211303066 tw10609632821778306784 tw10073573000756293085 tw1959775954545989305 tw17777271201464388366 tw3378236213667887662 tw6677722649787382918 tw6378569531852091358 tw6220698068654023975 tw15190440101687249963 tw8361553345155190087 tw15509187199035988769 tw16575713678543432869 tw10883679968004888278 tw5056005431135371116 tw3495036699855766402 tw16480397606903257777 tw16314743224491716172 tw4501676027829973130 tw17624085889683615488 tw16376985483430934687 tw13117842008931425166 tw13023371843591404426 tw15319416386382777178 tw17948847876850554359 tw18070510989748553307 tw18404436819764491621 tw15282917869972848136 tw16155720408933263392 tw2494041942337793640 tw12835045625938197767 tw14382387725371569320 tw15605808554312480157 tw9320198129863735950 tw10733479090230269311 tw8247242337130432842 tw3798992364478334549 tw16971617927072720387 tw15114505585205547693 tw9036493054023741078 tw588418448889264254 tw8367075440815396078 tw12102506539050372931 tw9908546446980425381 tw10598960001624447859 tw15649607464181472194 tw17883071571589031224 tw4327132562971106246 tw13465740365435124011 tw10044623057507730842 tw11232265747125653214 tw13326558003170330225 tw14927771916716571534 tw15486053701662699259 tw16189072284461139788 tw16073899141318084349 tw14402543045766937490 tw15575230522198441121 tw16369318599995816598 tw3517327389887369534 tw14130748736849870430 tw14224859117187222041 tw12616146197396948768 tw1360040518393264381 tw17003106052562826761 tw17104875463023419555 tw9067794089376729801 tw2404325907086438140 tw4227560567361214440 tw9760167738608353310 tw4773129561672261160 tw16166609814141798876 tw9466402883369113348 tw7479634206109226277 tw5127324324253389909 tw1780809471832369335 tw18384986892586878009 tw3129357339099172471 tw1411721192902363079:True)
open PySem PySem.W PyProof.Rows
set_option maxRecDepth 100000 in
set_option maxHeartbeats 0 in
theorem PySem.Challenge.cw_sumsstay_s01_answers_holds : PySem.Challenge.rw_sumsstay_s01_answers.Holds := by
 w_on;k_headS;(case hw=>exact⟨[.list [.int 21]],by decide+kernel,by decide+kernel⟩)
 k_fillS
 refine L2.SC (r:=PySem.Challenge.rw_sumsstay_s01_answers) (k:=11) (CX:=L2.CX0) (ps:=["calls"]) (sp:=Pf.Nl) (by decide+kernel) rfl rfl ⟨rfl,by decide,by decide⟩ (fun w h Y=>PySem.W.kIn_of Y) ?F ?S (fun _ _ _ _ z=>z)
 case F=>
  intro w mg fa h Y KX G hmg
  obtain⟨A,T⟩: ∃A,Pf.Txt _ mg A:=by
   refine'⟨⟨_,_,_,_,_,_,_,_,_,_,_,_,_,_,_,_,_,_,_,_,_,_,_,_,_,_,_,_,_,_,_,_,_,_,_,_,_,_,_,_,_,_,_,_,_,_,_,_,_,_,_,_,_,_,_,_,_,_,_,_,_,_,_,_,_,_,_,_,_,_,_,_,_,_,_,_,_,_,_,_,_,_,_,_,_,_,_,_,_,_,_,_,_,_,_,_,_,_,_,_,_,_,_,_,_,_,_,_,_,_,_,_,_,_,_,_,_,_,_,_,_,_,_,_,_,_,_,_,_,_,_,_,_,_,_,_,_,_,_,_,_,_,_,_,_,_,_,_,_,_,_,_,_,_,_,_,_,_,_,_,_,_,_,_,_,_,_,_,_,_,_,_,_,_,_,_,_,_,_,_,_,_,_,_,_,_,_,_,_,_,_,_⟩,?T⟩
   case T=>
    constructor<;>try dsimp only
    iterate 79 (refine' Pf.J0N KX G ?a ?l ?c ?k ?b;(case a=>k_is);(case l=>k_is);(case c=>k_is);(case k=>k_is);(case b=>first|(exact fun _ _ _ _ _ _=>Pf.u1 fun _=>rfl)|(exact fun _ _ _ _ _ _=>Pf.u2 fun _ _=>rfl)|(exact fun _ _ _ _ _ _=>Pf.u3 fun _ _ _=>rfl)|(exact fun _ _ _ _ _ _=>Pf.u4 fun _ _ _ _=>rfl)|(exact fun _ _ _ _ _ _=>Pf.u5 fun _ _ _ _ _=>rfl)|(exact fun _ _ _ _ _ _=>Pf.u6 fun _ _ _ _ _ _=>rfl)|(exact fun _ _ _ _ _ _=>Pf.u7 fun _ _ _ _ _ _ _=>rfl)))
    iterate 9 (refine' Pf.J0H KX G ?aC ?a ?i ?l ?c ?k ?b ?pg ?hd ?po ?sa ?mk ?kc ?n;(case aC=>k_is);(case a=>k_is);(case i=>k_is);(case l=>k_is);(case c=>k_is);(case k=>k_is);(case b=>first|(exact fun _ _ _ _ _ _=>Pf.u1 fun _=>rfl)|(exact fun _ _ _ _ _ _=>Pf.u2 fun _ _=>rfl)|(exact fun _ _ _ _ _ _=>Pf.u3 fun _ _ _=>rfl)|(exact fun _ _ _ _ _ _=>Pf.u4 fun _ _ _ _=>rfl)|(exact fun _ _ _ _ _ _=>Pf.u5 fun _ _ _ _ _=>rfl)|(exact fun _ _ _ _ _ _=>Pf.u6 fun _ _ _ _ _ _=>rfl)|(exact fun _ _ _ _ _ _=>Pf.u7 fun _ _ _ _ _ _ _=>rfl));(case pg=>k_is);(case hd=>k_is);(case po=>k_is);(case sa=>k_is);(case mk=>k_is);(case kc=>k_is);(case n=>repeat (first|exact trivial|refine⟨by k_is,?_⟩)))
    (refine' Pf.TW KX G ?a ?e;(case a=>k_is);(case e=>rfl))
    (refine' Pf.TW KX G ?a ?e;(case a=>k_is);(case e=>rfl))
    (refine' Pf.TW KX G ?a ?e;(case a=>k_is);(case e=>rfl))
    (refine' Pf.TW KX G ?a ?e;(case a=>k_is);(case e=>rfl))
    (refine' Pf.TW KX G ?a ?e;(case a=>k_is);(case e=>rfl))
    (refine' Pf.TW KX G ?a ?e;(case a=>k_is);(case e=>rfl))
    (refine' Pf.J0Z KX G ?a ?l ?r;(case a=>k_is);(case l=>k_is))
    case r=>exact⟨⟨_,rfl⟩,rfl,⟨_,_,_,_,rfl,by k_is,rfl,rfl,by decide, .cons ⟨_,rfl⟩ (.cons ⟨_,rfl⟩ (.nil))⟩,⟨⟨_,rfl⟩,rfl,⟨_,_,_,_,rfl,by k_is,rfl,rfl,by decide, .cons ⟨_,rfl⟩ (.cons ⟨_,rfl⟩ (.nil))⟩,⟨⟨_,rfl⟩,rfl,⟨_,_,_,_,rfl,by k_is,rfl,rfl,by decide, .cons ⟨_,rfl⟩ (.cons ⟨_,rfl⟩ (.nil))⟩,⟨⟨_,rfl⟩,rfl,⟨_,_,_,_,rfl,by k_is,rfl,rfl,by decide, .cons ⟨_,rfl⟩ (.cons ⟨_,rfl⟩ (.nil))⟩,⟨⟨_,rfl⟩,rfl,⟨_,_,_,_,rfl,by k_is,rfl,rfl,by decide, .cons ⟨_,rfl⟩ (.cons ⟨_,rfl⟩ (.nil))⟩,⟨⟨_,rfl⟩,rfl,⟨_,_,_,_,rfl,by k_is,rfl,rfl,by decide, .cons ⟨_,rfl⟩ (.cons ⟨_,rfl⟩ (.nil))⟩,⟨⟨_,rfl⟩,rfl,⟨_,_,_,_,rfl,by k_is,rfl,rfl,by decide, .cons ⟨_,rfl⟩ (.cons ⟨_,rfl⟩ (.nil))⟩,⟨⟨_,rfl⟩,rfl,⟨_,_,_,_,rfl,by k_is,rfl,rfl,by decide, .cons ⟨_,rfl⟩ (.cons ⟨_,rfl⟩ (.nil))⟩,⟨⟨_,rfl⟩,rfl,⟨_,_,_,_,rfl,by k_is,rfl,rfl,by decide, .cons ⟨_,rfl⟩ (.cons ⟨_,rfl⟩ (.nil))⟩,⟨⟨_,rfl⟩,rfl,⟨_,_,_,_,rfl,by k_is,rfl,rfl,by decide, .cons ⟨_,rfl⟩ (.cons ⟨_,rfl⟩ (.nil))⟩,⟨⟨_,rfl⟩,rfl,⟨_,_,_,_,rfl,by k_is,rfl,rfl,by decide, .cons ⟨_,rfl⟩ (.cons ⟨_,rfl⟩ (.nil))⟩,⟨⟨_,rfl⟩,rfl,⟨_,_,_,_,rfl,by k_is,rfl,rfl,by decide, .cons ⟨_,rfl⟩ (.cons ⟨_,rfl⟩ (.nil))⟩,⟨⟨_,rfl⟩,rfl,⟨_,_,_,_,rfl,by k_is,rfl,rfl,by decide, .cons ⟨_,rfl⟩ (.cons ⟨_,rfl⟩ (.nil))⟩,⟨⟨_,rfl⟩,rfl,⟨_,_,_,_,rfl,by k_is,rfl,rfl,by decide, .cons ⟨_,rfl⟩ (.cons ⟨_,rfl⟩ (.nil))⟩,⟨⟨_,rfl⟩,rfl,⟨_,_,_,_,rfl,by k_is,rfl,rfl,by decide, .cons ⟨_,rfl⟩ (.cons ⟨_,rfl⟩ (.nil))⟩,⟨⟨_,rfl⟩,rfl,⟨_,_,_,_,rfl,by k_is,rfl,rfl,by decide, .cons ⟨_,rfl⟩ (.cons ⟨_,rfl⟩ (.nil))⟩,⟨⟨_,rfl⟩,rfl,⟨_,_,_,_,rfl,by k_is,rfl,rfl,by decide, .cons ⟨_,rfl⟩ (.cons ⟨_,rfl⟩ (.nil))⟩,⟨⟨_,rfl⟩,rfl,⟨_,_,_,_,rfl,by k_is,rfl,rfl,by decide, .cons ⟨_,rfl⟩ (.cons ⟨_,rfl⟩ (.nil))⟩,⟨⟨_,rfl⟩,rfl,⟨_,_,_,_,rfl,by k_is,rfl,rfl,by decide, .cons ⟨_,rfl⟩ (.cons ⟨_,rfl⟩ (.nil))⟩,⟨⟨_,rfl⟩,rfl,⟨_,_,_,_,rfl,by k_is,rfl,rfl,by decide, .cons ⟨_,rfl⟩ (.cons ⟨_,rfl⟩ (.nil))⟩,⟨⟨_,rfl⟩,rfl,⟨_,_,_,_,rfl,by k_is,rfl,rfl,by decide, .cons ⟨_,rfl⟩ (.cons ⟨_,rfl⟩ (.nil))⟩,⟨⟨_,rfl⟩,rfl,⟨_,_,_,_,rfl,by k_is,rfl,rfl,by decide, .cons ⟨_,rfl⟩ (.cons ⟨_,rfl⟩ (.nil))⟩,trivial⟩⟩⟩⟩⟩⟩⟩⟩⟩⟩⟩⟩⟩⟩⟩⟩⟩⟩⟩⟩⟩⟩
    all_goals exact PySem.W.mg_none_of KX G (by k_is)
  have e:=hmg.symm.trans T.IC.m;cases e;exact⟨_,fun s us hu=> .of_eq (T.IC.q us hu),fun base _ _=>Pf.Sq T⟩
 case S=>
  intro K H xs a hO hwi hask hx;cases hx with
  |cons h1 h2=>
   cases h2;cases h1 with
   |lst hs ha=>
    have e:=L2.T9 a.1 _ ha;subst e;exact⟨_,a.1,rfl,hs,hask,fun H' p hp=> .lst (L2.SqL.of hp) (L2.Tf _)⟩
#print axioms PySem.Challenge.cw_sumsstay_s01_answers_holds
