import PyProof.Rows.All
import Wide.All
import OpenK.AllK
import Wide.FinOn
import PyProof.EqAt
import PyProof.EqKinds
import PyProof.TupleCall
import KE.BitLaws
import Open.SpecLaws
import KE.OsHead
import KE.OsGo
import KE.KSortKeyAny
import KE.KDictList
import KE.KNestM
import KE.KLam
import PyVbpoak
import PyFlatLaws
import PySem.Challenge.RW0_moneyorders_s01_answers
import PySem.Challenge.RW_moneyorders_s01_answers
set_option Elab.async false
set_option linter.all false
set_option maxRecDepth 100000
set_option maxHeartbeats 4000000
namespace L2
open PySem PySem.Spec PyProof.Rows
abbrev Key:=Sum Int Str
def qan:Key→Value→Bool
 | .inl k,v=>Value.isInt k v
 | .inr x,v=>Value.isStrOf x v
def Vbq(w:World):Key→Int
 | .inl k=>hashInt k
 | .inr x=>hashStr w x
theorem Qj:∀{k:Key} {v:Value},qan k v=true→(∃i t,k=Sum.inl i∧v=Value.int i t)∨(∃x t,k=Sum.inr x∧v=Value.str x t)
 | .inl i,v,h=>by
  obtain ⟨t,e⟩:=Value.isInt_shape (k:=i) (v:=v) h;exact .inl ⟨i,t,rfl,e⟩
 | .inr x,v,h=>by
  obtain ⟨t,e⟩:=Value.isStrOf_shape (x:=x) (v:=v) h;exact .inr ⟨x,t,rfl,e⟩
theorem jaY(i:Int)(t:Tok):qan (.inl i) (.int i t)=true:=by simp [qan,Value.isInt]
theorem qaX(x:Str)(t:Tok):qan (.inr x) (.str x t)=true:=by simp [qan,Value.isStrOf]
theorem kbf(a b:Int):decide ((Sum.inl a:Key)=Sum.inl b)=(a==b):=by
 by_cases e:a=b
 ·subst e;simp
 ·have h:¬(Sum.inl a:Key)=Sum.inl b:=fun q=>e (Sum.inl.inj q);rw [decide_eq_false h];exact (beq_eq_false_iff_ne.mpr e).symm
theorem vbh(a b:Str):decide ((Sum.inr a:Key)=Sum.inr b)=decide (a=b):=by
 by_cases e:a=b
 ·subst e;simp
 ·have h:¬(Sum.inr a:Key)=Sum.inr b:=fun q=>e (Sum.inr.inj q);rw [decide_eq_false h,decide_eq_false e]
theorem ubg(a:Int)(b:Str):decide ((Sum.inl a:Key)=Sum.inr b)=false:=decide_eq_false (fun q=>nomatch q)
theorem Kbh(a:Str)(b:Int):decide ((Sum.inr a:Key)=Sum.inl b)=false:=decide_eq_false (fun q=>nomatch q)
def Vg(prog:Program)(w:World):PySem.KeyKind prog w Key where
 is:=qan
 hash:=Vbq w
 inj:=fun v a b ha hb=>by
  rcases Qj ha with ⟨i,t,rfl,rfl⟩ | ⟨x,t,rfl,rfl⟩
  ·rcases Qj hb with ⟨j,u,rfl,e⟩ | ⟨y,u,rfl,e⟩
   ·injection e with e1 _;rw [e1]
   ·exact nomatch e
  ·rcases Qj hb with ⟨j,u,rfl,e⟩ | ⟨y,u,rfl,e⟩
   ·exact nomatch e
   ·injection e with e1 _;rw [e1]
 byValue:=fun k v h=>by
  rcases Qj h with ⟨i,t,rfl,rfl⟩ | ⟨x,t,rfl,rfl⟩<;>rfl
 pyHash:=fun hv h=>by
  rcases Qj hv with ⟨i,t,rfl,rfl⟩ | ⟨x,t,rfl,rfl⟩
  ·exact wpAny_pyHash_int h
  ·exact wpAny_pyHash_str h
 eqBool:=fun hu hv h=>by
  rcases Qj hu with ⟨i,t,rfl,rfl⟩ | ⟨x,t,rfl,rfl⟩
  ·rcases Qj hv with ⟨j,u,rfl,rfl⟩ | ⟨y,u,rfl,rfl⟩
   ·rw [kbf] at h;exact wpAny_eqBool_int h
   ·rw [ubg] at h;exact SeqAt.EqAt.int_str i t y u _ _ _ _ h
  ·rcases Qj hv with ⟨j,u,rfl,rfl⟩ | ⟨y,u,rfl,rfl⟩
   ·rw [Kbh] at h;exact SeqAt.EqAt.str_int x t j u _ _ _ _ h
   ·rw [vbh] at h;exact wpAny_eqBool_str h
 «strs»:=fun k x t v h=>by
  rcases Qj h with ⟨i,u,rfl,e⟩ | ⟨y,u,rfl,e⟩
  ·exact nomatch e
  ·injection e with e1 _;subst e1;cases v<;>rfl
theorem kaM(prog:Program)(w:World)(i:Int)(t:Tok):(Vg prog w).is (.inl i) (.int i t)=true:=jaY i t
theorem VaN(prog:Program)(w:World)(x:Str)(t:Tok):(Vg prog w).is (.inr x) (.str x t)=true:=qaX x t
end L2
namespace L2
open PySem PySem.Spec PyProof.Rows
inductive V where
 | non | bl (b:Bool) | int (i:Int) | str (x:Str) | byt (b:Array UInt8) | flt (b:UInt64) | ref (a:Addr) | ty (n:String)
 deriving DecidableEq
def RelV:V→Value→Prop
 | .non,u=>u=Value.none
 | .bl b,u=>u=Value.bool b
 | .int i,u=>∃t,u=Value.int i t
 | .str x,u=>∃t,u=Value.str x t
 | .byt b,u=>∃t,u=Value.bytes b t
 | .flt b,u=>∃t,u=Value.float b t
 | .ref a,u=>u=Value.ref a
 | .ty n,u=>u=Value.type n
abbrev Vals:List V→List Value→Prop:=Paired RelV
theorem Vals.length{xs:List V}{us:List Value}(r:Vals xs us):xs.length=us.length:=Paired.length r
theorem Vals.get:∀{xs:List V} {us:List Value} {i:Nat} {x:V},Vals xs us→xs[i]? =some x→∃u,us[i]? =some u∧RelV x u
 | _,_,_,_, .nil,e=>by simp at e
 | _,_,0,_, .cons r _,e=>by simp at e;subst e;exact ⟨_,rfl,r⟩
 | _,_,i+1,x, .cons _ t,e=>by
  obtain ⟨u,h1,h2⟩:=Vals.get (i:=i) (x:=x) t (by simpa using e);exact ⟨u,by simpa using h1,h2⟩
theorem Vals.append:∀{xs ys:List V} {us ws:List Value},Vals xs us→Vals ys ws→Vals (xs++ys) (us++ws)
 | _,_,_,_, .nil,s=>s
 | _,_,_,_, .cons r t,s=> .cons r (Vals.append t s)
theorem Vals.take:∀{xs:List V} {us:List Value} (n:Nat),Vals xs us→Vals (xs.take n) (us.take n)
 | _,_,0,_=> .nil
 | _,_,_+1, .nil=> .nil
 | _,_,n+1, .cons r t=> .cons r (Vals.take n t)
theorem Vals.drop:∀{xs:List V} {us:List Value} (n:Nat),Vals xs us→Vals (xs.drop n) (us.drop n)
 | _,_,0,r=>r
 | _,_,_+1, .nil=> .nil
 | _,_,n+1, .cons _ t=>Vals.drop n t
def je:Option V→Option Value→Prop
 | some v,some u=>RelV v u
 | none,none=>True
 | _,_=>False
def KV{κ:Type}:List (κ×V)→List (κ×Value)→Prop:=Paired fun (p:κ×V) (q:κ×Value)=>p.1=q.1∧RelV p.2 q.2
def kV:Key→V
 | .inl i=> .int i
 | .inr x=> .str x
inductive HO where
 | lst (xs:List V)
 | tup (xs:List V)
 | dK (Yb:List (Key×V)) | dT (Yb:List (List Key×V))
 | set (S:Int→Bool) (n:Nat)
 | ins (C dx:Addr) (fs:List (Str×V))
 | own (x:Addr)
 | xd (fs:List (Str×V))
 | met (f x:Addr)
 | rng (lo hi:Int)
 | frz (o:Obj) (u:HO)
 | tbl (ps:Array Value)
 | ext (φ:Heap→Prop)
abbrev Hp:=Addr→Option HO
def upd(H:Hp)(a:Addr)(o:HO):Hp:=fun b=>if b=a then some o else H b
theorem Ya{H:Hp}{a:Addr}{o:HO}:upd H a o a=some o:=by unfold upd;rw [if_pos rfl]
theorem Va{H:Hp}{a b:Addr}{o:HO}(h:b≠a):upd H a o b=H b:=by unfold upd;rw [if_neg h]
theorem kao{H:Hp}{a:Addr}{o u:HO}:upd (upd H a o) a u=upd H a u:=by
 funext b;unfold upd;split<;>rfl
theorem qbc{H:Hp}{a b:Addr}{o u:HO}(h:H a=some o)(h':H b=some u)(d:o≠u):a≠b:=by
 intro e;subst e;rw [h] at h';exact d (Option.some.inj h')
theorem Qb{H:Hp}{a b:Addr}{o:HO}(h:H a=some o)(h':H b=none):a≠b:=by
 intro e;subst e;rw [h] at h';cases h'
section
variable(P:Program)(w:World)
def Kh(H:Hp)(h:Heap)(a:Addr):HO→Prop
 | .lst xs=>xs.length≤sizeLine∧∃(Jd:List Value) (n:Nat),Vals xs Jd∧h.get? a=some {cls:= .type "list",data:= .seq Jd.toArray n}
 | .tup xs=>xs.length≤sizeLine∧∃Jd:List Value,Vals xs Jd∧IsTup h a Jd.toArray
 | .dK Yb=>Yb.length≤sizeLine∧(a==sysModules)=false∧∃vs,KV Yb vs∧h.DictOf (Vg P w) a vs
 | .dT Yb=>Yb.length≤sizeLine∧(a==sysModules)=false∧∃xs:List (List Key×Addr×Value),
   Paired (fun (p:List Key×V) (q:List Key×Addr×Value)=>p.1=q.1∧H q.2.1=some (.tup (p.1.map kV))∧RelV p.2 q.2.2) Yb xs∧
   ∃o es ep,h.get? a=some o∧o.ExactDict∧o.data= .dict es ep∧es.toList=xs.map (entryOfKey (tupleKind (Vg P w)))∧(xs.map (·.1)).Nodup
 | .set S n=>h.SetOf (intKind P w) a S n
 | .ins C dx fs=>H dx=some (.own a)∧fs.length≤1000∧dx≠a∧h.get? a=some (PySem.W.instObj C dx)∧
   ∃mA,h.Ns1 dx mA∧(∀f,je (fs.lookup f) (mA f))∧PySem.Within mA (fs.map (·.1))
 | .own _=>∃o,h.get? a=some o
 | .xd fs=>∃mA,h.Ns1 a mA∧∀f,je (fs.lookup f) (mA f)
 | .rng lo hi=>∃t u v,h.get? a=some {cls:= .type "range",data:= .fields #[.int lo t, .int hi u, .int 1 v]}
 | .frz o u=>h.get? a=some o∧Kh H h a u
 | .tbl ps=>h.get? a=some {cls:= .none,data:= .fields ps}
 | .met f x=>h.get? a=some (PySem.W.methodObj (.ref f) (.ref x))
 | .ext φ=>φ h∧(∃o,h.get? a=some o)∧∀h1 h2:Heap,φ h1→(∀o,h1.get? a=some o→h2.get? a=some o)→φ h2
def jG(H:Hp)(h:Heap):Prop:=∀a o,H a=some o→Kh P w H h a o
end
section
variable{P:Program}{w:World}{H H':Hp}{h h':Heap}{a:Addr}{o:HO}
theorem Kh.lt(x:Kh P w H h a o):a<h.objs.size:=by
 cases o with
 | lst xs=>obtain ⟨_,_,_,_,e⟩:=x;exact Heap.lt_size e
 | tup xs=>obtain ⟨_,_,_,p⟩:=x;exact p.lt
 | dK Yb=>obtain ⟨_,_,_,_,o,_,_,e,_⟩:=x;exact Heap.lt_size e
 | dT Yb=>obtain ⟨_,_,_,_,o,_,_,e,_⟩:=x;exact Heap.lt_size e
 | set S n=>obtain ⟨o,_,_,_,e,_⟩:=x;exact Heap.lt_size e
 | ins C dx fs=>obtain ⟨_,_,_,e,_⟩:=x;exact Heap.lt_size e
 | own y=>obtain ⟨_,e⟩:=x;exact Heap.lt_size e
 | xd fs=>obtain ⟨_,⟨_,_,_,e,_⟩,_⟩:=x;exact Heap.lt_size e
 | rng lo hi=>obtain ⟨_,_,_,e⟩:=x;exact Heap.lt_size e
 | frz ob u=>obtain ⟨e,_⟩:=x;exact Heap.lt_size e
 | tbl ps=>exact Heap.lt_size (show h.get? a=some _ from x)
 | met f y=>exact Heap.lt_size (show h.get? a=some _ from x)
 | ext φ=>obtain ⟨_,⟨_,e⟩,_⟩:=x;exact Heap.lt_size e
theorem Paired.Uao{α β:Type}{F G:α→β→Prop}:∀{l₁:List α} {l₂:List β},Paired F l₁ l₂→(∀a b,F a b→G a b)→Paired G l₁ l₂
 | _,_, .nil,_=> .nil
 | _,_, .cons r t,f=> .cons (f _ _ r) (Paired.Uao t f)
theorem Kh.jae(x:Kh P w H h a o)(k:∀b u,(b=a∨H b=some (.own a))→h.get? b=some u→h'.get? b=some u)
  (ho:∀b,H b=some (.own a)→H' b=some (.own a)) (ht:∀b xs,H b=some (.tup xs)→H' b=some (.tup xs)):Kh P w H' h' a o:=by
 induction o with
 | lst xs=>obtain ⟨z,Jd,n,r,e⟩:=x;exact ⟨z,Jd,n,r,k _ _ (.inl rfl) e⟩
 | tup xs=>obtain ⟨z,Jd,r,ob,e,c⟩:=x;exact ⟨z,Jd,r,ob,k _ _ (.inl rfl) e,c⟩
 | dK Yb=>obtain ⟨z,y,vs,r,ob,es,ep,e,c⟩:=x;exact ⟨z,y,vs,r,ob,es,ep,k _ _ (.inl rfl) e,c⟩
 | dT Yb=>
  obtain ⟨z,y,xs,r,ob,es,ep,e,c⟩:=x;exact ⟨z,y,xs,Paired.Uao r fun p q z=>⟨z.1,ht _ _ z.2.1,z.2.2⟩,ob,es,ep,k _ _ (.inl rfl) e,c⟩
 | set S n=>obtain ⟨ob,es,ep,t,e,c⟩:=x;exact ⟨ob,es,ep,t,k _ _ (.inl rfl) e,c⟩
 | ins C dx fs=>
  obtain ⟨d,z,ne,e,mA,⟨od,es,ep,e2,c⟩,r⟩:=x;exact ⟨ho _ d,z,ne,k _ _ (.inl rfl) e,mA,⟨od,es,ep,k _ _ (.inr d) e2,c⟩,r⟩
 | own y=>obtain ⟨ob,e⟩:=x;exact ⟨ob,k _ _ (.inl rfl) e⟩
 | xd fs=>obtain ⟨mA,⟨od,es,ep,e,c⟩,r⟩:=x;exact ⟨mA,⟨od,es,ep,k _ _ (.inl rfl) e,c⟩,r⟩
 | rng lo hi=>obtain ⟨t,u,v,e⟩:=x;exact ⟨t,u,v,k _ _ (.inl rfl) e⟩
 | frz ob u ih=>obtain ⟨e,q⟩:=x;exact ⟨k _ _ (.inl rfl) e,ih q⟩
 | tbl ps=>
  have e:h.get? a=some {cls:= .none,data:= .fields ps}:=x;show h'.get? a=some {cls:= .none,data:= .fields ps};exact k a _ (.inl rfl) e
 | met f y=>
  have e:h.get? a=some (PySem.W.methodObj (.ref f) (.ref y)):=x;show h'.get? a=some (PySem.W.methodObj (.ref f) (.ref y));exact k a _ (.inl rfl) e
 | ext φ=>obtain ⟨p,⟨o,e⟩,st⟩:=x;exact ⟨st _ _ p fun o q=>k _ _ (.inl rfl) q,⟨o,k _ _ (.inl rfl) e⟩,st⟩
theorem jG.lt(x:jG P w H h)(e:H a=some o):a<h.objs.size:=(x a o e).lt
theorem jG.fresh(x:jG P w H h)(e:h.objs.size≤a):H a=none:=by
 cases q:H a with
 | none=>rfl
 | some u=>exact absurd (Nat.lt_of_lt_of_le (x.lt q) e) (Nat.lt_irrefl _)
theorem jG.kept(x:jG P w H h)(k:∀b u,h.get? b=some u→h'.get? b=some u):jG P w H h':=fun a o e=>
 (x a o e).jae (fun b u _ q=>k b u q) (fun _ q=>q) fun _ _ q=>q
theorem jG.laid(x:jG P w H h)(k:∀b u,h.get? b=some u→h'.get? b=some u)(hp:h.objs.size≤a)(new:Kh P w (upd H a o) h' a o):jG P w (upd H a o) h':=fun b u e=>by
 have hn:=x.fresh hp;by_cases hb:b=a
 ·subst hb;rw [Ya] at e;cases e;exact new
 ·rw [Va hb] at e;exact (x b u e).jae (fun c v _ q=>k c v q) (fun c q=>by rw [Va (Qb q hn)];exact q) fun c xs q=>by rw [Va (Qb q hn)];exact q
end
def Rd(H:Hp)(a:Addr)(u:HO):Prop:=H a=some u∨∃o,H a=some (.frz o u)
theorem Rd.ok{P:Program}{w:World}{H:Hp}{h:Heap}{a:Addr}{u:HO}(r:Rd H a u)(x:jG P w H h):Kh P w H h a u:=by
 rcases r with r | ⟨o,r⟩
 ·exact x a u r
 ·obtain ⟨_,q⟩:=x a _ r;exact q
def Mut:Option HO→Prop
 | some (.lst _)=>True
 | some (.dK _)=>True
 | some (.dT _)=>True
 | some (.set _ _)=>True
 | some (.ins _ _ _)=>True
 | some (.ext _)=>True
 | _=>False
section
variable{P:Program}{w:World}{H:Hp}{h h':Heap}{x e:Addr}{o':HO}
theorem jG.write(ok:jG P w H h)(mu:Mut (H x))(he:e=x∨H e=some (.own x))(k:∀b u,b≠e→h.get? b=some u→h'.get? b=some u)(heo:∃u,h'.get? e=some u)
  (new:Kh P w (upd H x o') h' x o'):jG P w (upd H x o') h':=fun b u q=>by
 have nown:∀c y,H c=some (.own y)→c≠x:=fun c y r z=>by subst z;rw [r] at mu;exact mu
 have ntup:∀c xs,H c=some (.tup xs)→c≠x:=fun c xs r z=>by subst z;rw [r] at mu;exact mu
 by_cases hb:b=x
 ·subst hb;rw [Ya] at q;cases q;exact new
 ·rw [Va hb] at q;by_cases hbe:b=e
  ·have q':H b=some (.own x):=by
    rcases he with z | z
    ·exact absurd (hbe.trans z) hb
    ·rw [hbe];exact z
   rw [q] at q';cases q'
   obtain ⟨v,hv⟩:=heo;exact ⟨v,by rw [hbe];exact hv⟩
  ·refine (ok b u q).jae (fun c v hc r=>k c v ?_ r) (fun c r=>by rw [Va (nown c b r)];exact r) fun c xs r=>by rw [Va (ntup c xs r)];exact r
   rcases hc with rfl | hc
   ·exact hbe
   ·rintro rfl
    rcases he with z | z
    ·exact nown c b hc z
    ·rw [hc] at z;cases z;exact hb rfl
end
structure Un(fs ex:List Addr)(H H':Hp)(h h':Heap):Prop where
 keep:∀b o,h.get? b=some o→H b=none→b∉fs→b∉ex→h'.get? b=some o
 slot:∀b o,h.get? b=some o→H b=none→b∈fs→b∉ex→∃sl,h'.get? b=some {o with slots:=sl}
 free:∀b o,h.get? b=some o→H b=none→b∉ex→H' b=none
 there:∀b o,h.get? b=some o→b∉ex→∃o',h'.get? b=some o'
 kaw:∀b xs,H b=some (.tup xs)→H' b=some (.tup xs)
 uai:∀b o u,H b=some (.frz o u)→H' b=some (.frz o u)
 Kan:∀b ps,H b=some (.tbl ps)→∃more,H' b=some (.tbl (ps++more))
section
variable{fs fs' ex ex':List Addr}{H H1 H2:Hp}{h h1 h2 h':Heap}{a x e:Addr}{o:HO}
theorem Un.any(u:Un fs ex H H1 h h1){b:Addr}{ob:Obj}(q:h.get? b=some ob)(n:H b=none)(hx:b∉ex):∃sl,h1.get? b=some {ob with slots:=sl}:=by
 by_cases hb:b∈fs
 ·exact u.slot b ob q n hb hx
 ·exact ⟨ob.slots,u.keep b ob q n hb hx⟩
theorem Un.kept(k:∀b u,h.get? b=some u→h'.get? b=some u):Un fs ex H H h h':=
 ⟨fun b ob q _ _ _=>k b ob q,fun b ob q _ _ _=>⟨ob.slots,k b ob q⟩,fun _ _ _ n _=>n,fun b ob q _=>⟨ob,k b ob q⟩,fun _ _ q=>q,fun _ _ _ q=>q,fun _ ps q=>⟨#[],by rw [q];simp⟩⟩
theorem Un.refl:Un fs ex H H h h:=Un.kept fun _ _ q=>q
theorem Un.laid(k:∀b u,h.get? b=some u→h'.get? b=some u)(hp:h.objs.size≤a)(hn:H a=none):Un fs ex H (upd H a o) h h' where
 keep:=fun b u q _ _ _=>k b u q
 slot:=fun b u q _ _ _=>⟨u.slots,k b u q⟩
 free:=fun b u q n _=>by rw [Va (Nat.ne_of_lt (Nat.lt_of_lt_of_le (Heap.lt_size q) hp))];exact n
 there:=fun b u q _=>⟨u,k b u q⟩
 kaw:=fun b xs q=>by rw [Va (Qb q hn)];exact q
 uai:=fun b u xs q=>by rw [Va (Qb q hn)];exact q
 Kan:=fun b ps q=>⟨#[],by rw [Va (Qb q hn),q];simp⟩
theorem Un.write(mu:Mut (H x))(he:e=x∨H e=some (.own x))(k:∀b u,b≠e→h.get? b=some u→h'.get? b=some u)(heo:∃u,h'.get? e=some u):Un fs ex H (upd H x o) h h':=by
 have hx:∀b,H b=none→b≠x:=fun b n z=>by subst z;rw [n] at mu;exact mu
 have hb:∀b,H b=none→b≠e:=fun b n z=>by
  subst z;rcases he with r | r
  ·exact hx b n r
  ·rw [n] at r;cases r
 have hm:∀b u,H b=some u→¬Mut (some u)→b≠x:=fun b u q nm z=>by subst z;rw [q] at mu;exact nm mu
 refine ⟨fun b u q n _ _=>k b u (hb b n) q,fun b u q n _ _=>⟨u.slots,k b u (hb b n) q⟩,fun b u q n _=>by rw [Va (hx b n)];exact n,fun b u q _=>?_,
  fun b xs q=>by rw [Va (hm b _ q fun z=>z)];exact q,fun b u xs q=>by rw [Va (hm b _ q fun z=>z)];exact q,fun b ps q=>⟨#[],by rw [Va (hm b _ q fun z=>z),q];simp⟩⟩
 by_cases hbe:b=e
 ·subst hbe;exact heo
 ·exact ⟨u,k b u hbe q⟩
end
def trk(h:Heap)(H:Hp):List Addr:=(List.range h.objs.size).filter fun a=>(H a).isSome
def Zao(h:Heap)(H:Hp):Heap:=PySem.W.hideAll h (trk h H)
theorem waX(h:Heap)(H:Hp):(Zao h H).objs.size=h.objs.size:=PySem.W.hideAll_size _ _
theorem Za6{h:Heap}{H:Hp}{b:Addr}{o:Obj}(e:h.get? b=some o)(n:H b=none):(Zao h H).get? b=some o:=
 PySem.W.hideAll_get _ e fun hm=>by
  have q:(H b).isSome=true:=(List.mem_filter.mp hm).2;rw [n] at q;simp at q
theorem Ja8{h:Heap}{H:Hp}{b:Addr}{o:Obj}(e:(Zao h H).get? b=some o):h.get? b=some o∧H b=none:=by
 have e':h.get? b=some o:=PySem.W.of_hideAll (trk h H) e;refine ⟨e',?_⟩;cases q:H b with
 | none=>rfl
 | some x=>
  have hm:b∈trk h H:=List.mem_filter.mpr ⟨List.mem_range.mpr (Heap.lt_size e'),by simp [q]⟩;have z:(Zao h H).get? b=none:=PySem.W.hideAll_none (trk h H) hm;rw [z] at e;cases e
def wan(g h:Heap)(L:Addr):List (Addr×Obj):=(List.range h.objs.size).filterMap fun a=>if a=L∨(g.get? a).isSome=true then none else (h.get? a).map fun o=>(a,o)
theorem Qam{g h:Heap}{L a:Addr}{o:Obj}(h1:a≠L)(h2:g.get? a=none)(h3:h.get? a=some o):(a,o)∈wan g h L:=
 List.mem_filterMap.mpr ⟨a,List.mem_range.mpr (Heap.lt_size h3),by simp [h1,h2,h3]⟩
theorem zaw{g h:Heap}{L:Addr}{p:Addr×Obj}(hp:p∈wan g h L):p.1≠L∧g.get? p.1=none∧h.get? p.1=some p.2:=by
 obtain ⟨b,_,e⟩:=List.mem_filterMap.mp hp;split at e
 ·cases e
 ·rename_i hn;cases q:h.get? b with
  | none=>rw [q] at e;simp at e
  | some u=>
   rw [q] at e;simp only [Option.map_some,Option.some.injEq] at e;subst e;refine ⟨fun z=>hn (.inl z),?_,q⟩;show g.get? b=none;cases r:g.get? b with
   | none=>rfl
   | some v=>exact (hn (.inr (by simp [r]))).elim
theorem qa5{g h:Heap}{L:Addr}:News g L h (wan g h L):=fun p hp=>let ⟨a,b,c⟩:=zaw hp;⟨c,a,b⟩
end L2
namespace L2
open PySem PySem.Spec PyProof.Rows
structure Mod(K:PySem.W.Frag)(mg:Str→Option Value)(base:Heap):Prop where
 kin:K.In base
 glob:base.Ns mainGlobals mg
 blt:∃mb,base.Ns builtinsNs mb∧∀x:Str,x≠"__name__"→mb x=bootBuiltins x
 nolimit:base.NoLimit
structure Cx where
 prog:Program
 w:World
 K:PySem.W.Frag
 mg:Str→Option Value
 base:Heap
 A:Around
 N:List Str
 s_0:Shared
 H_0:Hp
 env:Env
 outer:List Env
 stack:List Env
 ex:List Addr
 fn:Str→Bool
 calm:Bool
 pn:List (Addr×Obj)
 xe:Value→Shared→Prop
def frs(l:List Env):List Addr:=l.filterMap (·.frame)
abbrev Cx.fs(X:Cx):List Addr:=frs X.outer
def Vis(sc:Scope)(x:Str):Prop:=sc.names.lookup x=some .local∨sc.names.lookup x=some .cell∨sc.names.lookup x=some .free
def Loc(sc:Scope)(x:Str):Prop:=sc.names.lookup x=some .local∨sc.names.lookup x=some .cell
def Look(env:Env)(h:Heap)(m:Str→Option Value)(x:Str)(u:Value):Prop:=
 (env.kindOf x=some .local∧m x=some u)∨((env.kindOf x=some .cell∨env.kindOf x=some .free)∧∃c,env.cells.lookup x=some c∧h.IsCell c (some u))
structure Cx.Ok(X:Cx):Prop where
 mod:Mod X.K X.mg X.base
 kind:X.env.scope.kind= .function
 glob:X.env.globals=mainGlobals
 blt:X.env.builtins=builtinsNs
 above:X.s_0.heap.objs.size≤X.env.locals
 inj:∀x y c,X.env.cells.lookup x=some c→X.env.cells.lookup y=some c→x=y
 has:∀x,(X.env.kindOf x=some .cell∨X.env.kindOf x=some .free)→∃c,X.env.cells.lookup x=some c
 cab:∀x c,X.fn x=true→X.env.cells.lookup x=some c→X.s_0.heap.objs.size≤c
 hd:X.calm=true→X.A.handled=none
 frames:X.A.frames=some X.stack
 stk:X.stack=X.outer∨(X.stack=X.env::X.outer∧X.env.frame=some X.env.locals)
 exf:∀b∈X.ex,b≠X.env.locals∧∀x c,X.env.cells.lookup x=some c→c≠b
 bs:∀b o,X.base.get? b=some o→X.s_0.heap.get? b=some o∧X.H_0 b=none
 bsz:X.base.objs.size≤X.s_0.heap.objs.size
 KaX:∀b o,X.base.get? b=some o→b∉X.ex
 kaZ:∀b∈X.ex,b∉X.fs
 Wad:X.s_0.heap.FunFrames X.base X.outer
 frf:∀b∈X.fs,X.H_0 b=none
structure Inv(X:Cx)(pins:List (Addr×Obj))(σ:List (Option V))(H:Hp)(s:Shared):Prop where
 ok:X.Ok
 os:s.os=X.s_0.os
 bare:AllBare s.gens
 base:Un X.fs X.ex X.H_0 H X.s_0.heap s.heap
 loc:∃m,s.heap.Ns X.env.locals m∧∀(i:Nat) (x:Str) (v:V),X.N[i]? =some x→σ[i]? =some (some v)→Vis X.env.scope x→∃u,RelV v u∧Look X.env s.heap m x u
 cell:∀x c,X.env.cells.lookup x=some c→∃v,s.heap.IsCell c v
 free:H X.env.locals=none
 UN:∀x c,X.env.cells.lookup x=some c→H c=none
 pin:∀p∈X.pn++pins,s.heap.get? p.1=some p.2∧H p.1=none∧p.1≠X.env.locals∧p.1∉X.fs∧∀v,p.2.data≠ .cell v
 Xd:jG X.prog X.w H s.heap
 len:σ.length=X.N.length
section
variable{X:Cx}{pins:List (Addr×Obj)}{σ:List (Option V)}{H H':Hp}{s:Shared}{h':Heap}
theorem Cx.Ok.Xbr(ok:X.Ok){b:Addr}{o:Obj}(e:X.base.get? b=some o):b∉X.fs:=fun hb=>by
 have:=(ok.Wad.mem hb).1;rw [e] at this;cases this
theorem Inv.bs(I:Inv X pins σ H s):∀b o,X.base.get? b=some o→s.heap.get? b=some o∧H b=none:=fun b o e=>
 ⟨I.base.keep b o (I.ok.bs b o e).1 (I.ok.bs b o e).2 (I.ok.Xbr e) (I.ok.KaX b o e),I.base.free b o (I.ok.bs b o e).1 (I.ok.bs b o e).2 (I.ok.KaX b o e)⟩
theorem Inv.bk(I:Inv X pins σ H s):∀b o,X.base.get? b=some o→s.heap.get? b=some o:=fun b o e=>(I.bs b o e).1
theorem Inv.mod(I:Inv X pins σ H s):Mod X.K X.mg X.base:=I.ok.mod
theorem Inv.kIn(I:Inv X pins σ H s):X.K.In s.heap:=I.ok.mod.kin.keeps I.bk
theorem Inv.fr(I:Inv X pins σ H s):∃m,Fr X.base X.env.locals s.heap m:=
 let ⟨m,hn,_⟩:=I.loc
 ⟨m,hn,I.bk,Nat.le_trans I.ok.bsz I.ok.above⟩
theorem Inv.lt(I:Inv X pins σ H s):X.env.locals<s.heap.objs.size:=let ⟨_,hn,_⟩:=I.loc;hn.lt
theorem Inv.sz(I:Inv X pins σ H s):X.s_0.heap.objs.size≤s.heap.objs.size:=Nat.le_trans I.ok.above (Nat.le_of_lt I.lt)
theorem Inv.jbr(I:Inv X pins σ H s){a:Addr}(h:s.heap.objs.size≤a):a∉X.fs:=fun hb=>by
 obtain ⟨_,o,ho,_⟩:=I.ok.Wad.mem hb;exact absurd (Nat.lt_of_lt_of_le (Heap.lt_size ho) (Nat.le_trans I.sz h)) (Nat.lt_irrefl _)
theorem Inv.cne(I:Inv X pins σ H s):∀x c,X.env.cells.lookup x=some c→c≠X.env.locals:=fun x c e z=>by
 obtain ⟨v,o,ho,hd⟩:=I.cell x c e;obtain ⟨m,⟨o',es,ep,ho',uQ,_⟩,_⟩:=I.loc;rw [z,ho'] at ho;cases ho;rw [uQ] at hd;cases hd
theorem Inv.Wad(I:Inv X pins σ H s):s.heap.FunFrames X.base X.outer:=by
 have all:∀(l:List Env),(∀b∈frs l,b∈X.fs)→X.s_0.heap.FunFrames X.base l→s.heap.FunFrames X.base l:=by
  intro l;induction l with
  | nil=>intro _ _;trivial
  | cons env r ih=>
   intro hs hl;obtain ⟨hk,⟨L,o,hf,hn,ho,hd⟩,hr⟩:=hl;have hL:L∈X.fs:=hs L (by unfold frs;rw [List.filterMap_cons,hf];exact List.mem_cons_self);obtain ⟨sl,e⟩:=I.base.slot L o ho (I.ok.frf L hL) hL fun z=>I.ok.kaZ L z hL;exact ⟨hk,⟨L,_,hf,hn,e,hd⟩,ih (fun b hb=>hs b (by unfold frs;rw [List.filterMap_cons,hf];exact List.mem_cons_of_mem _ hb)) hr⟩
 exact all X.outer (fun _ hb=>hb) I.ok.Wad
theorem Inv.stack(I:Inv X pins σ H s):s.heap.FunFrames X.base X.stack:=by
 rcases I.ok.stk with e | ⟨e,hf⟩
 ·rw [e];exact I.Wad
 ·rw [e];obtain ⟨m,hn,_⟩:=I.loc;refine .cons (by rw [I.ok.kind];decide) hf hn ?_ I.Wad;exact Heap.get?_none_of_le (Nat.le_trans I.ok.bsz I.ok.above)
theorem Inv.KaN(I:Inv X pins σ H s):∀b∈frs X.stack,b∈X.env.locals::X.fs:=fun b hb=>by
 rcases I.ok.stk with e | ⟨e,hf⟩
 ·rw [e] at hb;exact List.mem_cons_of_mem _ hb
 ·rw [e] at hb;unfold frs at hb;rw [List.filterMap_cons,hf] at hb;exact hb
theorem Inv.JaT(I:Inv X pins σ H s):∀b∈frs X.stack,H b=none:=fun b hb=>by
 rcases List.mem_cons.mp (I.KaN b hb) with e | hb
 ·rw [e];exact I.free
 ·obtain ⟨_,o,ho,_⟩:=I.ok.Wad.mem hb;exact I.base.free b o ho (I.ok.frf b hb) fun z=>I.ok.kaZ b z hb
theorem Inv.step{g':Array GenState}{t':Nat}{d':Drawn}{ch:List Addr}(I:Inv X pins σ H s)
  (hch:∀b∈ch,(b∈X.ex∨X.s_0.heap.objs.size≤b)∧b≠X.env.locals∧(∀x c,X.env.cells.lookup x=some c→c≠b)∧∀p∈X.pn++pins,p.1≠b)
  (keep:∀b o,b≠X.env.locals→b∉X.fs→b∉ch→s.heap.get? b=some o→H b=none→h'.get? b=some o)
  (slot:∀b o,b≠X.env.locals→b∈X.fs→b∉ch→s.heap.get? b=some o→H b=none→∃sl,h'.get? b=some {o with slots:=sl}) (free:∀b o,b∉ch→s.heap.get? b=some o→H b=none→H' b=none)
  (there:∀b o,b∉ch→s.heap.get? b=some o→∃o',h'.get? b=some o')
  (kaw:∀b xs,H b=some (.tup xs)→H' b=some (.tup xs)) (uai:∀b o u,H b=some (.frz o u)→H' b=some (.frz o u)) (Kan:∀b ps,H b=some (.tbl ps)→∃more,H' b=some (.tbl (ps++more)))
  (ns:∀m,s.heap.Ns X.env.locals m→h'.Ns X.env.locals m) (Xd:jG X.prog X.w H' h') (hg:AllBare g'):
  Inv X pins σ H' {s with heap:=h',gens:=g',drawn:=d',toks:=t'}:=by
 have neL:∀b o,X.s_0.heap.get? b=some o→b≠X.env.locals:=fun b o e=>Nat.ne_of_lt (Nat.lt_of_lt_of_le (Heap.lt_size e) I.ok.above);have neC:∀b o,X.s_0.heap.get? b=some o→b∉X.ex→b∉ch:=fun b o e hx hb=>by
  rcases (hch b hb).1 with z | z
  ·exact hx z
  ·exact absurd (Nat.lt_of_lt_of_le (Heap.lt_size e) z) (Nat.lt_irrefl _)
 have cellK:∀x c,X.env.cells.lookup x=some c→∀v,s.heap.IsCell c v→h'.IsCell c v:=fun x c e v ⟨o,ho,hd⟩=>by
  have nch:c∉ch:=fun z=>(hch c z).2.2.1 x c e rfl;by_cases hc:c∈X.fs
  ·obtain ⟨sl,q⟩:=slot c o (I.cne x c e) hc nch ho (I.UN x c e);exact ⟨_,q,hd⟩
  ·exact ⟨o,keep c o (I.cne x c e) hc nch ho (I.UN x c e),hd⟩
 refine ⟨I.ok,I.os,hg,⟨fun b o e n hb hx=>?_,fun b o e n hb hx=>?_,fun b o e n hx=>?_,fun b o e hx=>?_,fun b xs e=>kaw b xs (I.base.kaw b xs e),fun b o xs e=>uai b o xs (I.base.uai b o xs e),fun b ps e=>?_⟩,?_,fun x c e=>?_,?_,fun x c e=>?_,fun p hp=>?_,Xd,I.len⟩
 ·exact keep b o (neL b o e) hb (neC b o e hx) (I.base.keep b o e n hb hx) (I.base.free b o e n hx)
 ·obtain ⟨sl,e1⟩:=I.base.slot b o e n hb hx;obtain ⟨sl',e2⟩:=slot b _ (neL b o e) hb (neC b o e hx) e1 (I.base.free b o e n hx);exact ⟨sl',e2⟩
 ·obtain ⟨o',e1⟩:=I.base.there b o e hx;exact free b o' (neC b o e hx) e1 (I.base.free b o e n hx)
 ·obtain ⟨o',e1⟩:=I.base.there b o e hx;exact there b o' (neC b o e hx) e1
 ·obtain ⟨m1,e1⟩:=I.base.Kan b ps e;obtain ⟨m2,e2⟩:=Kan b _ e1;exact ⟨m1++m2,by rw [e2,Array.append_assoc]⟩
 ·obtain ⟨m,hn,hl⟩:=I.loc;refine ⟨m,ns m hn,fun i x v e1 e2 e3=>?_⟩;obtain ⟨u,r,l⟩:=hl i x v e1 e2 e3;refine ⟨u,r,?_⟩;rcases l with l | ⟨k,c,e,z⟩
  ·exact .inl l
  ·exact .inr ⟨k,c,e,cellK x c e _ z⟩
 ·obtain ⟨v,z⟩:=I.cell x c e;exact ⟨v,cellK x c e v z⟩
 ·obtain ⟨m,⟨o,_,_,ho,_⟩,_⟩:=I.loc;exact free _ o (fun z=>(hch _ z).2.1 rfl) ho I.free
 ·obtain ⟨v,o,ho,hd⟩:=I.cell x c e;exact free c o (fun z=>(hch c z).2.2.1 x c e rfl) ho (I.UN x c e)
 ·obtain ⟨e,n,ne,nf,d⟩:=I.pin p hp;have nch:p.1∉ch:=fun z=>(hch p.1 z).2.2.2 p hp rfl;exact ⟨keep p.1 p.2 ne nf nch e n,free p.1 p.2 nch e n,ne,nf,d⟩
theorem Inv.un{t':Nat}(I:Inv X pins σ H s)(u:Un X.fs [] H H' s.heap h')(Xd:jG X.prog X.w H' h'):Inv X pins σ H' {s with heap:=h',toks:=t'}:=by
 obtain ⟨m,⟨o,es,ep,ho,r⟩,_⟩:=id I.loc;obtain ⟨sl,hL⟩:=u.any ho I.free (by simp);exact I.step (g':=s.gens) (d':=s.drawn) (ch:= []) (fun _ z=>nomatch z) (fun b o _ hb _ e n=>u.keep b o e n hb (by simp)) (fun b o _ hb _ e n=>u.slot b o e n hb (by simp)) (fun b o _ e n=>u.free b o e n (by simp)) (fun b o _ e=>u.there b o e (by simp)) u.kaw u.uai u.Kan (fun m' hm=>by
  obtain ⟨o',es',ep',ho',r'⟩:=hm;rw [ho] at ho';cases ho'
  exact ⟨_,es',ep',hL,r'⟩) Xd I.bare
theorem Inv.call{g':Array GenState}{t':Nat}{d':Drawn}{ch:List Addr}(I:Inv X pins σ H s)(u:Un (frs X.stack) ch H H' s.heap h')(Xd:jG X.prog X.w H' h')(hg:AllBare g')
  (hch:∀b∈ch,(b∈X.ex∨X.s_0.heap.objs.size≤b)∧b≠X.env.locals∧(∀x c,X.env.cells.lookup x=some c→c≠b)∧∀p∈X.pn++pins,p.1≠b):
  Inv X pins σ H' {s with heap:=h',gens:=g',drawn:=d',toks:=t'}:=by
 obtain ⟨m,⟨o,es,ep,ho,r⟩,_⟩:=id I.loc;obtain ⟨sl,hL⟩:=u.any ho I.free fun z=>(hch _ z).2.1 rfl;exact I.step (ch:=ch) hch (fun b o hL hb hc e n=>u.keep b o e n (fun z=>(List.mem_cons.mp (I.KaN b z)).elim hL hb) hc) (fun b o _ _ hc e n=>u.any e n hc) (fun b o hc e n=>u.free b o e n hc) (fun b o hc e=>u.there b o e hc) u.kaw u.uai u.Kan (fun m' hm=>by
  obtain ⟨o',es',ep',ho',r'⟩:=hm;rw [ho] at ho';cases ho'
  exact ⟨_,es',ep',hL,r'⟩) Xd hg
theorem Inv.turned{t':Nat}{it:Addr}(I:Inv X pins σ H s)(k:∀b o,b≠it→s.heap.get? b=some o→h'.get? b=some o)(hn:H it=none)(hL:it≠X.env.locals)
  (h1:it∈X.ex∨X.s_0.heap.objs.size≤it) (h2:∀x c,X.env.cells.lookup x=some c→c≠it) (h3:∀p∈X.pn++pins,p.1≠it):Inv X pins σ H {s with heap:=h',toks:=t'}:=by
 have nit:∀b u,H b=some u→b≠it:=fun b u e z=>by rw [z,hn] at e;cases e
 refine I.step (g':=s.gens) (d':=s.drawn) (ch:= [it]) (fun b hb=>?_) (fun b o _ _ hc e _=>k b o (fun z=>hc (by simp [z])) e) (fun b o _ _ hc e _=>⟨o.slots,k b o (fun z=>hc (by simp [z])) e⟩) (fun _ _ _ _ n=>n)
  (fun b o hc e=>⟨o,k b o (fun z=>hc (by simp [z])) e⟩) (fun _ _ e=>e) (fun _ _ _ e=>e) (fun b ps e=>⟨#[],by rw [e];simp⟩) (fun m hm=>?_) (fun b u e=>?_) I.bare
 ·have e:b=it:=by simpa using hb
  subst e;exact ⟨h1,hL,h2,h3⟩
 ·obtain ⟨o,es,ep,ho,r⟩:=hm;exact ⟨o,es,ep,k _ o (Ne.symm hL) ho,r⟩
 ·refine (I.Xd b u e).jae (fun c v hc q=>k c v ?_ q) (fun _ q=>q) fun _ _ q=>q;rcases hc with z | z
  ·rw [z];exact nit b u e
  ·exact nit c _ z
theorem Inv.tok(I:Inv X pins σ H s)(t:Nat):Inv X pins σ H {s with toks:=t}:=I.un (h':=s.heap) (t':=t) Un.refl I.Xd
theorem Inv.kept{t':Nat}(I:Inv X pins σ H s)(k:∀b u,s.heap.get? b=some u→h'.get? b=some u):Inv X pins σ H {s with heap:=h',toks:=t'}:=I.un (Un.kept k) (I.Xd.kept k)
theorem Inv.laid{a:Addr}{o:HO}{t':Nat}(I:Inv X pins σ H s)(k:∀b u,s.heap.get? b=some u→h'.get? b=some u)(hp:s.heap.objs.size≤a)(new:Kh X.prog X.w (upd H a o) h' a o):
  Inv X pins σ (upd H a o) {s with heap:=h',toks:=t'}:=I.un (Un.laid k hp (I.Xd.fresh hp)) (I.Xd.laid k hp new)
theorem Inv.write{x e:Addr}{o:HO}{t':Nat}(I:Inv X pins σ H s)(mu:Mut (H x))(he:e=x∨H e=some (.own x))(k:∀b u,b≠e→s.heap.get? b=some u→h'.get? b=some u)(heo:∃u,h'.get? e=some u)
  (new:Kh X.prog X.w (upd H x o) h' x o):Inv X pins σ (upd H x o) {s with heap:=h',toks:=t'}:=I.un (Un.write mu he k heo) (I.Xd.write mu he k heo new)
theorem Inv.weak{σ':List (Option V)}(I:Inv X pins σ H s)(hl:σ'.length=σ.length)(w:∀(i:Nat) v,σ'[i]? =some (some v)→σ[i]? =some (some v)):Inv X pins σ' H s:=
 ⟨I.ok,I.os,I.bare,I.base,let ⟨m,hn,hl'⟩:=I.loc;⟨m,hn,fun i x v e1 e2 e3=>hl' i x v e1 (w i v e2) e3⟩,I.cell,I.free,I.UN,I.pin,I.Xd,hl.trans I.len⟩
theorem Inv.jaT{Ubc:List (Addr×Obj)}(I:Inv X pins σ H s)(h:∀p∈Ubc,s.heap.get? p.1=some p.2∧H p.1=none∧p.1≠X.env.locals∧p.1∉X.fs∧∀v,p.2.data≠ .cell v):Inv X Ubc σ H s:=
 ⟨I.ok,I.os,I.bare,I.base,I.loc,I.cell,I.free,I.UN,fun p hp=>(List.mem_append.mp hp).elim (fun z=>I.pin p (List.mem_append_left _ z)) (h p),I.Xd,I.len⟩
theorem kar{N:List Str}(hN:N.Nodup){i j:Nat}{x:Str}(a:N[i]? =some x)(b:N[j]? =some x):i=j:=by
 obtain ⟨h1,e1⟩:=List.getElem?_eq_some_iff.mp a;obtain ⟨h2,e2⟩:=List.getElem?_eq_some_iff.mp b;exact (List.getElem_inj hN).mp (e1.trans e2.symm)
theorem QaD{M:Model}{A:Around}{E:Value→Shared→Prop}{i:Nat}{x:Str}{v:V}{u:Value}{Q:Unit→Shared→Prop}(I:Inv X pins σ H s)(hN:X.N.Nodup)(hi:X.N[i]? =some x)(hx:Loc X.env.scope x)(r:RelV v u)
  (h:∀s',Inv X pins (σ.set i (some v)) H s'→(∃a,Heap.SameBut a s.heap s'.heap∧(a=X.env.locals∨X.env.cells.lookup x=some a))→Q () s') (hf:X.fn x=true∨X.env.scope.names.lookup x=some .local:=by first | exact .inl rfl | exact .inr rfl | assumption):wpAny M A (storeName X.env x u) Q E s:=by
 obtain ⟨m,hn,hl⟩:=id I.loc;have Vbs:(X.env.scope.kind== .class || (X.env.scope.kind== .module && X.env.locals !=X.env.globals))=false:=by rw [I.ok.kind];rfl
 have hiσ:i<σ.length:=by rw [I.len];exact (List.getElem?_eq_some_iff.mp hi).1
 have cne:=I.cne;have tracked:∀{a:Addr} {h':Heap},(∃o,s.heap.get? a=some o∧H a=none)→Heap.SameBut a s.heap h'→jG X.prog X.w H h':=fun {a h'} ha hs b ob e=>by
  obtain ⟨_,_,Vax⟩:=ha;refine (I.Xd b ob e).jae (fun c w' hc q=>(hs.2 c ?_).trans q) (fun _ q=>q) fun _ _ q=>q
  rintro rfl
  rcases hc with rfl | hc
  ·rw [Vax] at e;cases e
  ·rw [Vax] at hc;cases hc
 rcases hx with hk | hk
 ·refine wpAny_storeName_local hk hn (fun h' hn' hs=>?_) Vbs;obtain ⟨oL,_,_,hoL,_⟩:=id hn;refine h _ ⟨I.ok,I.os,I.bare,⟨fun b o e n hb hx=>?_,fun b o e n hb hx=>?_,I.base.free,fun b o e hx=>?_,I.base.kaw,I.base.uai,I.base.Kan⟩,⟨_,hn',fun j y v' e1 e2 e3=>?_⟩,fun y c e=>?_,I.free,I.UN,fun p hp=>?_,tracked ⟨oL,hoL,I.free⟩ hs,by simpa using I.len⟩ ⟨_,hs, .inl rfl⟩
  ·exact (hs.2 b (Nat.ne_of_lt (Nat.lt_of_lt_of_le (Heap.lt_size e) I.ok.above))).trans (I.base.keep b o e n hb hx)
  ·obtain ⟨sl,e1⟩:=I.base.slot b o e n hb hx;exact ⟨sl,(hs.2 b (Nat.ne_of_lt (Nat.lt_of_lt_of_le (Heap.lt_size e) I.ok.above))).trans e1⟩
  ·obtain ⟨o',e1⟩:=I.base.there b o e hx;exact ⟨o',(hs.2 b (Nat.ne_of_lt (Nat.lt_of_lt_of_le (Heap.lt_size e) I.ok.above))).trans e1⟩
  ·by_cases hj:j=i
   ·subst hj;rw [hi] at e1;cases e1
    rw [List.getElem?_set_self hiσ] at e2;cases e2;exact ⟨u,r, .inl ⟨hk,by simp⟩⟩
   ·rw [List.getElem?_set_ne (Ne.symm hj)] at e2;obtain ⟨u',r',q⟩:=hl j y v' e1 e2 e3;refine ⟨u',r',?_⟩;rcases q with ⟨k,e⟩ | ⟨k,c,e,z⟩
    ·refine .inl ⟨k,?_⟩;have:y≠x:=fun e=>hj (kar hN e1 (e▸hi));simp [this,e]
    ·exact .inr ⟨k,c,e,z.sameBut hs (cne y c e)⟩
  ·obtain ⟨w',z⟩:=I.cell y c e;exact ⟨w',z.sameBut hs (cne y c e)⟩
  ·obtain ⟨e,n,ne,nf,d⟩:=I.pin p hp;exact ⟨(hs.2 p.1 ne).trans e,n,ne,nf,d⟩
 ·have hfn:X.fn x=true:=by
   rcases hf with z | z
   ·exact z
   ·rw [z] at hk;cases hk
  obtain ⟨c,hc⟩:=I.ok.has x (.inl hk);obtain ⟨w',z⟩:=I.cell x c hc;refine wpAny_storeName_cell I.ok.kind hk hc z (fun h' hc' hs=>?_);obtain ⟨oc,hoc,kbs⟩:=id z;refine h {s with heap:=h'} ⟨I.ok,I.os,I.bare,⟨fun b o e n hb hx=>?_,fun b o e n hb hx=>?_,I.base.free,fun b o e hx=>?_,I.base.kaw,I.base.uai,I.base.Kan⟩,⟨m,hn.sameBut hs (Ne.symm (cne x c hc)),fun j y v' e1 e2 e3=>?_⟩,fun y c' e=>?_,I.free,I.UN,fun p hp=>?_,tracked ⟨oc,hoc,I.UN x c hc⟩ hs,by simpa using I.len⟩ ⟨c,hs, .inr hc⟩
  ·exact (hs.2 b (Nat.ne_of_lt (Nat.lt_of_lt_of_le (Heap.lt_size e) (I.ok.cab x c hfn hc)))).trans (I.base.keep b o e n hb hx)
  ·obtain ⟨sl,e1⟩:=I.base.slot b o e n hb hx;exact ⟨sl,(hs.2 b (Nat.ne_of_lt (Nat.lt_of_lt_of_le (Heap.lt_size e) (I.ok.cab x c hfn hc)))).trans e1⟩
  ·obtain ⟨o',e1⟩:=I.base.there b o e hx;exact ⟨o',(hs.2 b (Nat.ne_of_lt (Nat.lt_of_lt_of_le (Heap.lt_size e) (I.ok.cab x c hfn hc)))).trans e1⟩
  ·by_cases hj:j=i
   ·subst hj;rw [hi] at e1;cases e1
    rw [List.getElem?_set_self hiσ] at e2;cases e2;exact ⟨u,r, .inr ⟨.inl hk,c,hc,hc'⟩⟩
   ·rw [List.getElem?_set_ne (Ne.symm hj)] at e2;obtain ⟨u',r',q⟩:=hl j y v' e1 e2 e3;refine ⟨u',r',?_⟩;rcases q with q | ⟨k,c',e,z'⟩
    ·exact .inl q
    ·refine .inr ⟨k,c',e,z'.sameBut hs ?_⟩
     rintro rfl
     exact hj (kar hN e1 (I.ok.inj _ _ _ e hc▸hi))
  ·by_cases hcc:c'=c
   ·subst hcc;exact ⟨_,hc'⟩
   ·obtain ⟨w2,z2⟩:=I.cell y c' e;exact ⟨w2,z2.sameBut hs hcc⟩
  ·obtain ⟨e,n,ne,nf,d⟩:=I.pin p hp;refine ⟨(hs.2 p.1 ?_).trans e,n,ne,nf,d⟩;intro q;rw [q,hoc] at e;have q':oc=p.2:=Option.some.inj e;exact d w' (by rw [←q'];exact kbs)
theorem XaJ{M:Model}{A:Around}{E:Value→Shared→Prop}{i:Nat}{x:Str}{v:V}{u:Value}{Q:Unit→Shared→Prop}(I:Inv X pins σ H s)(hN:X.N.Nodup)(hi:X.N[i]? =some x)(hx:Loc X.env.scope x)(r:RelV v u)
  (h:∀s',Inv X pins (σ.set i (some v)) H s'→Q () s') (hf:X.fn x=true∨X.env.scope.names.lookup x=some .local:=by first | exact .inl rfl | exact .inr rfl | assumption):wpAny M A (storeName X.env x u) Q E s:=
 QaD I hN hi hx r (fun s' I' _=>h s' I') hf
theorem Inv.Wbn{s':Shared}{ch:List Addr}(I:Inv X pins σ H s)(ho:s'.os=s.os)(u:Un (frs X.stack) ch H H' s.heap s'.heap)(Xd:jG X.prog X.w H' s'.heap)(hg:AllBare s'.gens)
  (hch:∀b∈ch,(b∈X.ex∨X.s_0.heap.objs.size≤b)∧b≠X.env.locals∧(∀x c,X.env.cells.lookup x=some c→c≠b)∧∀p∈X.pn++pins,p.1≠b):Inv X pins σ H' s':=by
 obtain ⟨h',g',d',t',o'⟩:=s';have e:o'=s.os:=ho;subst e;exact I.call (g':=g') (t':=t') (d':=d') u Xd hg hch
end
abbrev XK:=Value→Option Addr→Hp→Prop
abbrev St:=List (Option V)
abbrev VK:=V→Hp→Prop
abbrev TE:=St→Hp→VK→Prop
abbrev TT:=St→Hp→(Bool→Hp→Prop)→Prop
abbrev TA:=St→Hp→(List V→Hp→Prop)→Prop
structure Ends where
 nx:St→Hp→Prop
 rt:VK
 bk:St→Hp→Prop:=fun _ _=>False
 ct:St→Hp→Prop:=fun _ _=>False
abbrev TS:=Ends→St→Hp→Prop
def EP(X:Cx)(pins:List (Addr×Obj))(σ:St)(Q:VK)(u:Value)(s':Shared):Prop:=∃v H',Inv X pins σ H' s'∧RelV v u∧Q v H'
def TP(X:Cx)(pins:List (Addr×Obj))(σ:St)(Q:Bool→Hp→Prop)(b:Bool)(s':Shared):Prop:=∃H',Inv X pins σ H' s'∧Q b H'
def AP(X:Cx)(pins:List (Addr×Obj))(σ:St)(Q:List V→Hp→Prop)(us:List Value)(s':Shared):Prop:=∃vs H',Inv X pins σ H' s'∧Vals vs us∧Q vs H'
def SP(X:Cx)(pins:List (Addr×Obj))(D:Ends)(f:Flow)(s':Shared):Prop:=
 match f with
 | .next=>∃σ' H',Inv X pins σ' H' s'∧D.nx σ' H'
 | .brk=>∃σ' H',Inv X pins σ' H' s'∧D.bk σ' H'
 | .cont=>∃σ' H',Inv X pins σ' H' s'∧D.ct σ' H'
 | .ret u=>∃v σ' H',Inv X pins σ' H' s'∧RelV v u∧D.rt v H'
def PE(X:Cx)(e:Expr)(t:TE):Prop:=
 ∀(pins:List (Addr×Obj)) (s:Shared) (σ:St) (H:Hp) (Q:VK),Inv X pins σ H s→t σ H Q→wpAny (model X.prog X.w) X.A (eval e X.env) (EP X pins σ Q) X.xe s
def PT(X:Cx)(e:Expr)(t:TT):Prop:=
 ∀(pins:List (Addr×Obj)) (s:Shared) (σ:St) (H:Hp) (Q:Bool→Hp→Prop),Inv X pins σ H s→t σ H Q→wpAny (model X.prog X.w) X.A (isTrue e X.env (eval e X.env)) (TP X pins σ Q) X.xe s
def PW(X:Cx)(e:Expr)(t:TT):Prop:=
 ∀(whole:Sem Value) (pins:List (Addr×Obj)) (s:Shared) (σ:St) (H:Hp) (Q:Bool→Hp→Prop),Inv X pins σ H s→t σ H Q→wpAny (model X.prog X.w) X.A (isTrue e X.env whole) (TP X pins σ Q) X.xe s
theorem PW.pt{X:Cx}{e:Expr}{t:TT}(h:PW X e t):PT X e t:=h _
def PA(X:Cx)(es:List Expr)(t:TA):Prop:=
 ∀(pos:Pos) (pins:List (Addr×Obj)) (s:Shared) (σ:St) (H:Hp) (Q:List V→Hp→Prop),Inv X pins σ H s→t σ H Q→wpAny (model X.prog X.w) X.A (spliced (backTo pos (starEach es X.env))) (AP X pins σ Q) X.xe s
def PS(X:Cx)(st:Stmt)(t:TS):Prop:=
 ∀(pins:List (Addr×Obj)) (s:Shared) (σ:St) (H:Hp) (D:Ends),Inv X pins σ H s→t D σ H→wpAny (model X.prog X.w) X.A (exec st X.env) (SP X pins D) X.xe s
def PSs(X:Cx)(st:List Stmt)(t:TS):Prop:=
 ∀(pins:List (Addr×Obj)) (s:Shared) (σ:St) (H:Hp) (D:Ends),Inv X pins σ H s→t D σ H→wpAny (model X.prog X.w) X.A (execs st X.env) (SP X pins D) X.xe s
theorem zg{α:Type}{t:Sem α}{Q Q':α→Shared→Prop}{M:Model}{A:Around}{E:Value→Shared→Prop}{s:Shared}(h:wpAny M A t Q E s)(hQ:∀a s,Q a s→Q' a s):wpAny M A t Q' E s:=wpAny_mono h hQ fun _ _ x=>x
end L2
namespace L2
open PySem PySem.Spec PyProof.Rows
section
variable{X:Cx}
theorem bin{a b:Expr}{ta tb:TE}(ha:PE X a ta)(hb:PE X b tb){pins:List (Addr×Obj)}{s:Shared}{σ:St}{H:Hp}{R:V→V→Hp→Prop}(I:Inv X pins σ H s)(h:ta σ H fun x H1=>tb σ H1 fun y H2=>R x y H2)
  {α:Type} {Q:α→Shared→Prop} {f:Value→Value→Sem α}
  (hf:∀v u s2 x y H2,Inv X pins σ H2 s2→RelV x v→RelV y u→R x y H2→wpAny (model X.prog X.w) X.A (f v u) Q X.xe s2):
  wpAny (model X.prog X.w) X.A (eval a X.env) (fun v s₁=>wpAny (model X.prog X.w) X.A (eval b X.env) (fun u s₂=>wpAny (model X.prog X.w) X.A (f v u) Q X.xe s₂) X.xe s₁) X.xe s:=by
 refine zg (ha pins s σ H _ I h) fun v s1 ⟨x,H1,I1,r1,q1⟩=>?_;refine zg (hb pins s1 σ H1 _ I1 q1) fun u s2 ⟨y,H2,I2,r2,q2⟩=>?_;exact hf v u s2 x y H2 I2 r1 r2 q2
def Km(i:Nat):TE:=fun σ H Q=>∃v,σ[i]? =some (some v)∧Q v H
def tC(v:V):TE:=fun _ H Q=>Q v H
theorem Wbe{i:Nat}{x:Str}{pos:Pos}(hN:X.N[i]? =some x)(hv:Vis X.env.scope x)(hd:(x==("__debug__":Str))=false:=by decide)(xN:(x==("__classdict__":Str))=false:=by decide):PE X (.Name x pos) (Km i):=by
 intro pins s σ H Q I h;obtain ⟨v,e,h⟩:=h;obtain ⟨m,hn,hl⟩:=I.loc;obtain ⟨u,r,l⟩:=hl i x v hN e hv;have fin:EP X pins σ Q u s:=⟨v,H,I,r,h⟩;rcases l with ⟨hk,hm⟩ | ⟨hk,c,hc,kax⟩
 ·exact wpAny_Name (wpAny_loadName_local I.ok.kind hk hn hm fin) hd
 ·rcases hk with hk | hk
  ·exact wpAny_Name (wpAny_loadName_cell I.ok.kind hk hc kax fin) hd
  ·exact wpAny_Name (wpAny_loadName_free I.ok.kind hk hc kax fin xN) hd
theorem ua{i j pos}:PE X (.Constant (.int i) j pos) (tC (.int i)):=fun _ _ _ H _ I h=>wpAny_Constant_int ⟨.int i,H,I.tok _,⟨_,rfl⟩,h⟩
theorem Zv{b j pos}:PE X (.Constant (.bool b) j pos) (tC (.bl b)):=fun _ _ _ H _ I h=>Constant_bool ⟨.bl b,H,I,rfl,h⟩
theorem XM{j pos}:PE X (.Constant .none j pos) (tC .non):=fun _ _ _ H _ I h=>Constant_none ⟨.non,H,I,rfl,h⟩
def Gl(X:Cx)(x:Str):Prop:=X.env.kindOf x=some .globalImplicit
theorem Van{E:Value→Shared→Prop}{pins:List (Addr×Obj)}{s:Shared}{σ:St}{H:Hp}{x:Str}{u:Value}{pos:Pos}{Q:Value→Shared→Prop}(I:Inv X pins σ H s)(hg:Gl X x)(hm:X.mg x=some u)(h:Q u s)
  (hd:(x==("__debug__":Str))=false:=by decide):wpAny (model X.prog X.w) X.A (eval (.Name x pos) X.env) Q E s:=
 Calls.Name_function_global I.ok.kind hg (Calls.loadGlobal_global (by rw [I.ok.glob];exact I.mod.glob.keeps I.bk) hm h) hd
theorem Wao{E:Value→Shared→Prop}{pins:List (Addr×Obj)}{s:Shared}{σ:St}{H:Hp}{x:Str}{u:Value}{pos:Pos}{Q:Value→Shared→Prop}(I:Inv X pins σ H s)(hg:Gl X x)(hm:X.mg x=none)(hv:bootBuiltins x=some u)(h:Q u s)
  (hn:x≠"__name__":=by decide) (hd:(x==("__debug__":Str))=false:=by decide):wpAny (model X.prog X.w) X.A (eval (.Name x pos) X.env) Q E s:=by
 obtain ⟨mb,h1,h2⟩:=I.mod.blt;exact Calls.Name_function_global I.ok.kind hg (Calls.loadGlobal_builtin (by rw [I.ok.glob];exact I.mod.glob.keeps I.bk) hm (by rw [I.ok.blt];exact h1.keeps I.bk) ((h2 x hn).trans hv) h) hd
theorem xa{x:Str}{v:V}{u:Value}{pos:Pos}(hg:Gl X x)(hm:X.mg x=some u)(r:RelV v u)(hd:(x==("__debug__":Str))=false:=by decide):PE X (.Name x pos) (tC v):=
 fun _ _ _ H _ I h=>Van I hg hm ⟨v,H,I,r,h⟩ hd
variable{a b:Expr}{ta tb:TE}{pos:Pos}
def PC(X:Cx)(op:CmpOp)(a b:Expr)(t:TE):Prop:=
 ∀(pins:List (Addr×Obj)) (s:Shared) (σ:St) (H:Hp) (Q:VK),Inv X pins σ H s→t σ H Q→
  wpAny (model X.prog X.w) X.A (eval a X.env) (fun v s₁=>wpAny (model X.prog X.w) X.A (eval b X.env) (fun u s₂=>wpAny (model X.prog X.w) X.A (compareOp op v u) (EP X pins σ Q) X.xe s₂) X.xe s₁) X.xe s
theorem Qa3(b:Expr){op:CmpOp}(h:op≠ .In)(h2:op≠ .NotIn):behindInMarks op b=false:=by
 have e1:(op==CmpOp.In)=false:=by cases op<;>first | rfl | exact absurd rfl h
 have e2:(op==CmpOp.NotIn)=false:=by cases op<;>first | rfl | exact absurd rfl h2
 cases b<;>simp [behindInMarks,e1,e2]
def Ybs(ta:TE):TE:=fun σ H Q=>ta σ H fun x H1=>Q (.bl (decide (x= .non))) H1
def ybo(ta:TE):TE:=fun σ H Q=>ta σ H fun x H1=>Q (.bl (!decide (x= .non))) H1
theorem RelV.QaK{x:V}{v:Value}(r:RelV x v):(v==Value.none)=decide (x= .non):=by
 cases x with
 | non=>cases r;rfl
 | bl _=>cases r;rfl
 | int _=>obtain ⟨t,rfl⟩:=r;rfl
 | str _=>obtain ⟨t,rfl⟩:=r;rfl
 | byt _=>obtain ⟨t,rfl⟩:=r;rfl
 | flt _=>obtain ⟨t,rfl⟩:=r;rfl
 | ref _=>cases r;rfl
 | ty _=>cases r;rfl
theorem Qz{j pos'}(ha:PE X a ta):PC X .Is a (.Constant .none j pos') (Ybs ta):=by
 intro pins s σ H Q I h;refine zg (ha pins s σ H _ I h) fun v s1 ⟨x,H1,I1,r1,q1⟩=>?_;exact Constant_none (is_none_gen ⟨.bl _,H1,I1,by rw [r1.QaK];rfl,q1⟩)
theorem wac{j pos'}(ha:PE X a ta):PC X .IsNot a (.Constant .none j pos') (ybo ta):=by
 intro pins s σ H Q I h;refine zg (ha pins s σ H _ I h) fun v s1 ⟨x,H1,I1,r1,q1⟩=>?_;exact Constant_none (isnot_none_gen ⟨.bl _,H1,I1,by rw [r1.QaK];rfl,q1⟩)
def tB(t:TE):TT:=fun σ H Q=>t σ H fun x H1=>∃c,x= .bl c∧Q c H1
theorem yn{op:CmpOp}{t:TE}(h:PC X op a b t)(h1:behindInMarks op b=false:=by first | exact Qa3 _ (by decide) (by decide) | rfl):PT X (.Compare a [op] [b] pos) (tB t):=by
 intro pins s σ H Q I hw;refine wpAny_isTrue_Compare1 (zg (h pins s σ H _ I hw) fun v s1 h1=>zg h1 fun u s2 h2=>zg h2 fun c s3 ⟨x,H1,I1,r1,q1⟩=>?_) h1;obtain ⟨d,rfl,q⟩:=q1;cases r1;exact wpAny_truthy_bool ⟨H1,I1,q⟩
theorem Qh{e:Expr}{t:TE}(h:PE X e t)(he:∀whole,isTrue e X.env whole=(do let v←whole;standAt e.pos;holding [v] (truthy v)):=by intro _;rfl):PT X e (tB t):=by
 intro pins s σ H Q I hw;refine isTrue_plain (zg (h pins s σ H _ I hw) fun v s1 ⟨x,H1,I1,r1,q1⟩=>?_) (he _);obtain ⟨d,rfl,q⟩:=q1;cases r1;exact wpAny_truthy_bool ⟨H1,I1,q⟩
variable{tA tB':TT}{rest:List Expr}
def qbk(t u:TT):TT:=fun σ H Q=>t σ H fun c H1=>if c=true then u σ H1 Q else Q false H1
def tOr(t u:TT):TT:=fun σ H Q=>t σ H fun c H1=>if c=true then Q true H1 else u σ H1 Q
def xbr(t:TT):TT:=fun σ H Q=>t σ H fun c H1=>Q (!c) H1
theorem vaE(ha:PT X a tA):PW X (.BoolOp .And [a] pos) tA:=by
 intro wh pins s σ H Q I h;refine isTrue_and (zg (ha pins s σ H Q I h) fun c s1 e=>?_);cases c with
 | true=>exact isTrue_and_nil e
 | false=>exact e
theorem qU(ha:PT X a tA):PW X (.BoolOp .Or [a] pos) tA:=by
 intro wh pins s σ H Q I h;refine isTrue_or (zg (ha pins s σ H Q I h) fun c s1 e=>?_);cases c with
 | false=>exact isTrue_or_nil e
 | true=>exact e
theorem qaO(ha:PT X a tA)(hb:PW X (.BoolOp .And (b::rest) pos) tB'):PW X (.BoolOp .And (a::b::rest) pos) (qbk tA tB'):=by
 intro wh pins s σ H Q I h;refine isTrue_and (zg (ha pins s σ H _ I h) fun c s1 ⟨H1,I1,q1⟩=>?_);cases c with
 | true=>exact hb wh pins s1 σ H1 Q I1 q1
 | false=>exact ⟨H1,I1,q1⟩
theorem jJ(ha:PT X a tA)(hb:PW X (.BoolOp .Or (b::rest) pos) tB'):PW X (.BoolOp .Or (a::b::rest) pos) (tOr tA tB'):=by
 intro wh pins s σ H Q I h;refine isTrue_or (zg (ha pins s σ H _ I h) fun c s1 ⟨H1,I1,q1⟩=>?_);cases c with
 | true=>exact ⟨H1,I1,q1⟩
 | false=>exact hb wh pins s1 σ H1 Q I1 q1
theorem Waf(ha:PT X a tA):PT X (.UnaryOp .Not a pos) (xbr tA):=by
 intro pins s σ H Q I h;exact isTrue_not (ha pins s σ H (fun c H1=>Q (!c) H1) I h)
def Jbm(ta tb:TE):TE:=fun σ H Q=>ta σ H fun x H1=>∃c,x= .bl c∧if c=true then tb σ H1 Q else Q (.bl false) H1
def Xbn(ta:TE):TE:=fun σ H Q=>ta σ H fun x H1=>∃c,x= .bl c∧Q (.bl (!c)) H1
theorem qp{op}{t:TE}(h:PE X a t):PE X (.BoolOp op [a] pos) t:=fun pins s σ H Q I hw=>BoolOp_one (h pins s σ H Q I hw)
theorem ka1(ha:PE X a ta)(hb:PE X (.BoolOp .And (b::rest) pos) tb):PE X (.BoolOp .And (a::b::rest) pos) (Jbm ta tb):=by
 intro pins s σ H Q I h;refine BoolOp_and (zg (ha pins s σ H _ I h) fun v s1 ⟨x,H1,I1,r1,q1⟩=>?_);obtain ⟨c,rfl,q1⟩:=q1;cases r1;refine wpAny_truthy_bool ?_;cases c with
 | true=>exact hb pins s1 σ H1 Q I1 q1
 | false=>exact ⟨.bl false,H1,I1,rfl,q1⟩
theorem Xa0(ha:PE X a ta):PE X (.UnaryOp .Not a pos) (Xbn ta):=by
 intro pins s σ H Q I h;refine UnaryOp_ (zg (ha pins s σ H _ I h) fun v s1 ⟨x,H1,I1,r1,q1⟩=>?_);obtain ⟨c,rfl,q1⟩:=q1;cases r1;exact not_of (wpAny_truthy_bool ⟨.bl (!c),H1,I1,rfl,q1⟩)
def tIf(t:TT)(ta tb:TE):TE:=fun σ H Q=>t σ H fun c H1=>if c=true then ta σ H1 Q else tb σ H1 Q
theorem jk{c:Expr}(hc:PT X c tA)(ha:PE X a ta)(hb:PE X b tb):PE X (.IfExp c a b pos) (tIf tA ta tb):=by
 intro pins s σ H Q I h;refine wpAny_IfExp (zg (hc pins s σ H _ I h) fun d s1 ⟨H1,I1,q1⟩=>?_);cases d with
 | true=>exact ha pins s1 σ H1 Q I1 q1
 | false=>exact hb pins s1 σ H1 Q I1 q1
end
end L2
namespace L2
open PySem PySem.Spec PyProof.Rows
def xb(K:PySem.W.Frag)(H:Hp)(a:Addr)(xs:List V):Prop:=
 Rd H a (.lst xs)∨
  ∃(o:Obj) (Jd:Array Value) (n:Nat),K.lookup a=some o∧o.cls= .type "list"∧o.dict=none∧o.data= .seq Jd n∧Jd.size≤sizeLine∧Vals xs Jd.toList
def vQ(K:PySem.W.Frag)(H:Hp)(a:Addr)(xs:List V):Prop:=
 Rd H a (.tup xs)∨
  ∃(o:Obj) (Jd:Array Value) (n:Nat),K.lookup a=some o∧o.cls= .type "tuple"∧o.data= .seq Jd n∧Jd.size≤sizeLine∧Vals xs Jd.toList
def Wbr:Value→Option V
 | .none=>some .non
 | .bool b=>some (.bl b)
 | .int i _=>some (.int i)
 | .str x _=>some (.str x)
 | .bytes b _=>some (.byt b)
 | .float b _=>some (.flt b)
 | .ref a=>some (.ref a)
 | .type n=>some (.ty n)
 | _=>none
theorem RelV.abs{x:V}{u:Value}(r:RelV x u):Wbr u=some x:=by
 cases x with
 | non=>cases r;rfl
 | bl _=>cases r;rfl
 | int _=>obtain ⟨t,rfl⟩:=r;rfl
 | str _=>obtain ⟨t,rfl⟩:=r;rfl
 | byt _=>obtain ⟨t,rfl⟩:=r;rfl
 | flt _=>obtain ⟨t,rfl⟩:=r;rfl
 | ref _=>cases r;rfl
 | ty _=>cases r;rfl
theorem RelV.inj{x y:V}{u:Value}(r:RelV x u)(q:RelV y u):x=y:=Option.some.inj (r.abs.symm.trans q.abs)
theorem Vals.inj:∀{xs ys:List V} {us:List Value},Vals xs us→Vals ys us→xs=ys
 | _,_,_, .nil, .nil=>rfl
 | _,_,_, .cons r t, .cons r' t'=>by rw [r.inj r',Vals.inj t t']
section
variable{X:Cx}{pins:List (Addr×Obj)}{σ:St}{H:Hp}{s:Shared}{a:Addr}{xs ys:List V}
theorem xb.of{K:PySem.W.Frag}(h:H a=some (.lst xs)):xb K H a xs:= .inl (.inl h)
theorem vQ.of{K:PySem.W.Frag}(h:H a=some (.tup xs)):vQ K H a xs:= .inl (.inl h)
theorem Inv.list(I:Inv X pins σ H s)(h:xb X.K H a xs):∃Jd:List Value,Vals xs Jd∧PlainL s.heap a Jd.toArray∧xs.length≤sizeLine:=by
 rcases h with h | ⟨o,Jd,n,hk,hc,hd,hs,hz,r⟩
 ·obtain ⟨z,Jd,n,r,e⟩:=h.ok I.Xd;exact ⟨Jd,r,⟨_,n,e,rfl,rfl,rfl⟩,z⟩
 ·refine ⟨Jd.toList,r,⟨o,n,I.kIn a o hk,hc,hd,by simpa using hs⟩,?_⟩;have e:=r.length;simp only [Array.length_toList] at e;omega
theorem Inv.tuple(I:Inv X pins σ H s)(h:vQ X.K H a xs):∃Jd:List Value,Vals xs Jd∧IsTup s.heap a Jd.toArray∧xs.length≤sizeLine:=by
 rcases h with h | ⟨o,Jd,n,hk,hc,hs,hz,r⟩
 ·obtain ⟨z,Jd,r,p⟩:=h.ok I.Xd;exact ⟨Jd,r,p,z⟩
 ·refine ⟨Jd.toList,r,⟨o,I.kIn a o hk,hc,n,by simpa using hs⟩,?_⟩;have e:=r.length;simp only [Array.length_toList] at e;omega
theorem Inv.ZaL(I:Inv X pins σ H s)(h:xb X.K H a xs)(h':xb X.K H a ys):xs=ys:=by
 obtain ⟨Jd,r,⟨o,n,e,_,_,d⟩,_⟩:=I.list h;obtain ⟨its',r',⟨o',n',e',_,_,d'⟩,_⟩:=I.list h';rw [e] at e';cases e'
 rw [d] at d';injection d' with d1 _;have:Jd=its':=by simpa using congrArg Array.toList d1
 subst this;exact r.inj r'
end
abbrev Cx.zao(X:Cx)(E:Value→Shared→Prop):Cx:={X with xe:=E}
abbrev Cx.nox(X:Cx):Cx:=X.zao fun _ _=>False
theorem Cx.Ok.zao{X:Cx}(ok:X.Ok)(E:Value→Shared→Prop):(X.zao E).Ok:=
 ⟨ok.mod,ok.kind,ok.glob,ok.blt,ok.above,ok.inj,ok.has,ok.cab,ok.hd,ok.frames,ok.stk,ok.exf,ok.bs,ok.bsz,ok.KaX,ok.kaZ,ok.Wad,ok.frf⟩
theorem Cx.Ok.UZ{X:Cx}{E:Value→Shared→Prop}(ok:(X.zao E).Ok):X.Ok:=
 ⟨ok.mod,ok.kind,ok.glob,ok.blt,ok.above,ok.inj,ok.has,ok.cab,ok.hd,ok.frames,ok.stk,ok.exf,ok.bs,ok.bsz,ok.KaX,ok.kaZ,ok.Wad,ok.frf⟩
section
variable{X:Cx}{pins:List (Addr×Obj)}{σ:St}{H:Hp}{s:Shared}{E:Value→Shared→Prop}
theorem Inv.zao(I:Inv X pins σ H s)(E:Value→Shared→Prop):Inv (X.zao E) pins σ H s:=⟨I.ok.zao E,I.os,I.bare,I.base,I.loc,I.cell,I.free,I.UN,I.pin,I.Xd,I.len⟩
theorem Inv.UZ(I:Inv (X.zao E) pins σ H s):Inv X pins σ H s:=⟨I.ok.UZ,I.os,I.bare,I.base,I.loc,I.cell,I.free,I.UN,I.pin,I.Xd,I.len⟩
theorem SP.UZ{D:Ends}{f:Flow}{s':Shared}(h:SP (X.zao E) pins D f s'):SP X pins D f s':=by
 cases f with
 | next=>obtain ⟨σ',H',I,q⟩:=h;exact ⟨σ',H',I.UZ,q⟩
 | brk=>obtain ⟨σ',H',I,q⟩:=h;exact ⟨σ',H',I.UZ,q⟩
 | cont=>obtain ⟨σ',H',I,q⟩:=h;exact ⟨σ',H',I.UZ,q⟩
 | ret u=>obtain ⟨v,σ',H',I,r,q⟩:=h;exact ⟨v,σ',H',I.UZ,r,q⟩
theorem PSs.nox{st:List Stmt}{t:TS}(h:PSs X.nox st t):PSs X st t:=fun pins s σ H D I hw=>
 wpAny_mono (h pins s σ H D (I.zao _) hw) (fun _ _ q=>q.UZ) fun _ _ z=>False.elim z
end
section
variable{X:Cx}{st:Stmt}{rest:List Stmt}{t u:TS}{e:Expr}{te:TE}{pos:Pos}
def Qbo:TS:=fun D σ H=>D.nx σ H
def Jbr(t u:TS):TS:=fun D σ H=>t {D with nx:=u D} σ H
theorem zb:PSs X [] Qbo:=fun _ _ σ H _ I h=>wpAny_execs_nil ⟨σ,H,I,h⟩
theorem Za(h1:PS X st t)(h2:PSs X rest u):PSs X (st::rest) (Jbr t u):=by
 intro pins s σ H D I h;refine wpAny_execs_cons (zg (h1 pins s σ H {D with nx:=u D} I h) fun f s1 q=>?_);cases f with
 | next=>
  obtain ⟨σ',H',I',q⟩:=q;exact h2 pins s1 σ' H' D I' q
 | ret v=>exact q
 | brk=>exact q
 | cont=>exact q
theorem va(h1:PS X st t):PSs X [st] t:=by
 intro pins s σ H D I h;refine wpAny_execs_cons (zg (h1 pins s σ H D I h) fun f s1 q=>?_);cases f with
 | next=>exact wpAny_execs_nil q
 | ret v=>exact q
 | brk=>exact q
 | cont=>exact q
theorem Inv.quiet{pins:List (Addr×Obj)}{σ:St}{H:Hp}{s:Shared}(I:Inv X pins σ H s):interactive X.env=false:=by simp [interactive,I.ok.kind]
def Jbn(te:TE):TS:=fun D σ H=>te σ H fun _ H1=>D.nx σ H1
theorem Zd(he:PE X e te)(hs:swapsWith e none pos.line X.env=pure false:=by rfl):PS X (.Expr e pos) (Jbn te):=by
 intro pins s σ H D I h;exact wpAny_Expr_any (zg (he pins s σ H _ I h) fun v s1 ⟨x,H1,I1,r1,q1⟩=>⟨σ,H1,I1,q1⟩) I.quiet hs
def kbq(te:TE):TS:=fun D σ H=>te σ H D.rt
theorem Ja(he:PE X e te):PS X (.Return (some e) pos) (kbq te):=by
 intro pins s σ H D I h;exact wpAny_Return_some (zg (he pins s σ H _ I h) fun v s1 ⟨x,H1,I1,r1,q1⟩=>⟨x,σ,H1,I1,r1,q1⟩)
def qbn:TS:=fun D _ H=>D.rt .non H
theorem Zad:PS X (.Return none pos) qbn:=fun _ _ σ H _ I h=>wpAny_Return_none ⟨.non,σ,H,I,rfl,h⟩
def Ybq(c:TT)(t u:TS):TS:=fun D σ H=>c σ H fun b H1=>if b=true then t D σ H1 else u D σ H1
theorem Jb{c:Expr}{a b:List Stmt}{tc:TT}(hc:PT X c tc)(ha:PSs X a t)(hb:PSs X b u):PS X (.If c a b pos) (Ybq tc t u):=by
 intro pins s σ H D I h;refine wpAny_If (zg (hc pins s σ H _ I h) fun d s1 ⟨H1,I1,q1⟩=>?_);cases d with
 | true=>exact ha pins s1 σ H1 D I1 q1
 | false=>exact hb pins s1 σ H1 D I1 q1
end
abbrev TG:=V→St→Hp→(St→Hp→Prop)→Prop
abbrev TGs:=List V→St→Hp→(St→Hp→Prop)→Prop
def PG(X:Cx)(target:Expr)(t:TG):Prop:=
 ∀(pins:List (Addr×Obj)) (s:Shared) (σ:St) (H:Hp) (v:V) (u:Value) (Q:St→Hp→Prop),Inv X pins σ H s→RelV v u→t v σ H Q→
  wpAny (model X.prog X.w) X.A (assign target X.env u) (fun _ s'=>∃σ' H',Inv X pins σ' H' s'∧Q σ' H') X.xe s
def PGs(X:Cx)(ts:List Expr)(t:TGs):Prop:=
 ∀(pins:List (Addr×Obj)) (s:Shared) (σ:St) (H:Hp) (vs:List V) (us:List Value) (Q:St→Hp→Prop),Inv X pins σ H s→Vals vs us→t vs σ H Q→
  wpAny (model X.prog X.w) X.A (assignInOrder ((assignEach ts X.env).map (·.2)) us) (fun _ s'=>∃σ' H',Inv X pins σ' H' s'∧Q σ' H') X.xe s
section
variable{X:Cx}{pos:Pos}
def xam(i:Nat):TG:=fun v σ H Q=>Q (σ.set i (some v)) H
theorem jg{i:Nat}{x:Str}(hN:X.N.Nodup)(hi:X.N[i]? =some x)(hx:Loc X.env.scope x)(hf:X.fn x=true∨X.env.scope.names.lookup x=some .local:=by first | exact .inl rfl | exact .inr rfl | assumption):PG X (.Name x pos) (xam i):=by
 intro pins s σ H v u Q I r h;exact wpAny_assign_Name (XaJ I hN hi hx r (fun s' I'=>⟨_,H,I',h⟩) hf)
def qbr:TGs:=fun vs σ H Q=>vs= []∧Q σ H
def Zbn(t:TG)(u:TGs):TGs:=fun vs σ H Q=>∃v r,vs=v::r∧t v σ H fun σ' H'=>u r σ' H' Q
theorem xa7:PGs X [] qbr:=by
 intro pins s σ H vs us Q I r h;obtain ⟨e,h⟩:=h;subst e;cases r;exact assignInOrder_nil ⟨σ,H,I,h⟩
theorem jaJ{e:Expr}{es:List Expr}{t:TG}{u:TGs}(h1:PG X e t)(h2:PGs X es u)
  (hs:(assignEach (e::es) X.env).map (·.2)=assign e X.env::(assignEach es X.env).map (·.2):=by rfl):PGs X (e::es) (Zbn t u):=by
 intro pins s σ H vs us Q I r h;obtain ⟨v,vr,e1,h⟩:=h;subst e1;cases r with
 | cons r rr=>
  rw [hs];refine assignInOrder_cons (zg (h1 pins s σ H _ _ _ I r h) fun _ s1 ⟨σ1,H1,I1,q1⟩=>?_);exact h2 pins s1 σ1 H1 _ _ Q I1 rr q1
def Ubq(K:PySem.W.Frag)(n:Nat)(t:TGs):TG:=fun v σ H Q=>∃a xs,v= .ref a∧vQ K H a xs∧xs.length=n∧t xs σ H Q
theorem ybe{es:List Expr}{k:Nat}{t:TGs}{n:Nat}(hc:X.calm=true)(h:PGs X es t)
  (hn:(assignEach es X.env).length=n:=by rfl) (hst:(assignEach es X.env).findIdx? (·.1)=none:=by rfl):PG X (.Tuple es k pos) (Ubq X.K n t):=by
 intro pins s σ H v u Q I r hw;obtain ⟨a,xs,e1,hq,hl,hw⟩:=hw;subst e1;cases r;obtain ⟨Jd,rv,ht,hz⟩:=I.tuple hq;refine assign_Tuple_tuple (I.ok.hd hc) ht (by simp [hn,←hl,rv.length]) hst fun h' hx=>?_
 have I1:Inv X pins σ H {s with heap:=h'}:=I.kept (t':=s.toks) fun b o e=>hx b o (Nat.ne_of_lt (Heap.lt_size e)) e;exact h pins _ σ H xs _ Q I1 (by simpa using rv) hw
def Jbj(te:TE)(g:TG):TS:=fun D σ H=>te σ H fun x H1=>g x σ H1 D.nx
theorem qb{i:Nat}{x:Str}{e:Expr}{te:TE}{pos':Pos}(hN:X.N.Nodup)(hi:X.N[i]? =some x)(hx:Loc X.env.scope x)(he:PE X e te)(hs:swapsWith e (some (.Name x pos')) pos.line X.env=pure false:=by rfl)(hf:X.fn x=true∨X.env.scope.names.lookup x=some .local:=by first | exact .inl rfl | exact .inr rfl | assumption):
  PS X (.Assign [.Name x pos'] e pos) (Jbj te (xam i)):=by
 intro pins s σ H D I h;refine wpAny_Assign_Name (zg (he pins s σ H _ I h) fun v s1 ⟨y,H1,I1,r1,q1⟩=>?_) hs;exact XaJ I1 hN hi hx r1 (fun s2 I2=>⟨_,H1,I2,q1⟩) hf
end
section
variable{X:Cx}{pos:Pos}
def jbh(c:TT)(tb:TS):TS:=fun D σ H=>∃W:Nat→St→Hp→Prop,(∃m,W m σ H)∧∀m σ H,W m σ H→
 c σ H fun b H1=>if b=true then∃N:St→Hp→Prop,(∀σ' H',N σ' H'→∃m',m'<m∧W m' σ' H')∧tb {D with nx:=N,ct:=N,bk:=D.nx} σ H1 else D.nx σ H1
theorem Wa4{c:Expr}{body:List Stmt}{tc:TT}{tb:TS}(hp:PassesOwn (model X.prog X.w) X.A X.env X.xe)(hc:PT X c tc)(hb:PSs X body tb):PS X (.While c body [] pos) (jbh tc tb):=by
 intro pins s σ H D I h;obtain ⟨W,⟨m0,w0⟩,turn⟩:=h;refine wpAny_While (codeAny_whileLoop (fun n s'=>∃σ' H',Inv X pins σ' H' s'∧W n σ' H') ?_ m0 ⟨σ,H,I,w0⟩)
 rintro n s1 ⟨σ1,H1,I1,w1⟩
 refine wpAny_passesOwn hp (zg (hc pins s1 σ1 H1 _ I1 (turn n σ1 H1 w1)) fun b s2 ⟨H2,I2,q2⟩=>?_);cases b with
 | true=>
  obtain ⟨N,hN,q2⟩:=q2;rw [if_pos rfl];refine wpAny_passesOwn hp (zg (hb pins s2 σ1 H2 _ I2 q2) fun f s3 q3=>?_);cases f with
  | next=>
   obtain ⟨σ3,H3,I3,n3⟩:=q3;obtain ⟨m',hm,w3⟩:=hN σ3 H3 n3;exact ⟨m',hm,σ3,H3,I3,w3⟩
  | cont=>
   obtain ⟨σ3,H3,I3,n3⟩:=q3;obtain ⟨m',hm,w3⟩:=hN σ3 H3 n3;exact ⟨m',hm,σ3,H3,I3,w3⟩
  | brk=>exact q3
  | ret v=>exact q3
 | false=>
  rw [if_neg Bool.false_ne_true];exact wpAny_execs_nil ⟨σ1,H2,I2,q2⟩
end
structure It where
 go:Nat→Hp→Prop
 yld:Nat→Hp→V→Hp→Prop
 stop:Nat→Hp→Prop
def Vaj(X:Cx)(pins:List (Addr×Obj))(H:Hp)(b:Addr):Prop:=
 H b=none∧b≠X.env.locals∧b∉X.fs∧(b∈X.ex∨X.s_0.heap.objs.size≤b)∧(∀x c,X.env.cells.lookup x=some c→c≠b)∧∀p∈X.pn++pins,p.1≠b
theorem Inv.zaX{X:Cx}{pins:List (Addr×Obj)}{σ:St}{H H':Hp}{s:Shared}{b:Addr}(I:Inv X pins σ H s)(hb:s.heap.objs.size≤b)(hn:H' b=none):Vaj X pins H' b:=by
 refine ⟨hn,Nat.ne_of_gt (Nat.lt_of_lt_of_le I.lt hb),I.jbr hb, .inr (Nat.le_trans I.sz hb),fun x c e z=>?_,fun p hp z=>?_⟩
 ·obtain ⟨v,q⟩:=I.cell x c e;exact absurd (Nat.lt_of_lt_of_le q.lt (by rw [z];exact hb)) (Nat.lt_irrefl _)
 ·exact absurd (Nat.lt_of_lt_of_le (Heap.lt_size (I.pin p hp).1) (by rw [z];exact hb)) (Nat.lt_irrefl _)
structure Turn(P:Program)(w:World)(K:PySem.W.Frag)(tg:Expr)(J:It)(fp:List Addr)(it:Addr)(tn:Nat→Heap→Prop):Prop where
 mem:it∈fp
 obj:∀i h,tn i h→∀b∈fp,∃o,h.get? b=some o∧∀v,o.data≠ .cell v
 keep:∀i h h',tn i h→(∀b∈fp,∀o,h.get? b=some o→h'.get? b=some o)→tn i h'
 item:∀(X:Cx),X.prog=P→X.w=w→X.K=K→X.calm=true→∀(i:Nat) (pins:List (Addr×Obj)) (s:Shared) (σ:St) (H:Hp) (E:Value→Shared→Prop),Inv X pins σ H s→(∀b∈fp,Vaj X pins H b)→tn i s.heap→J.go i H→
  wpAny (model P w) X.A (pyNext (.ref it)) (fun r s1=>∃u,r=some u∧
   wpAny (model P w) X.A (letOwnedTupleGo tg (.ref it) u) (fun _ s2=>∃x H',Inv X pins σ H' s2∧RelV x u∧J.yld i H x H'∧tn (i+1) s2.heap∧∀b∈fp,H' b=none) E s1) E s
 done:∀(X:Cx),X.prog=P→X.w=w→X.K=K→X.calm=true→∀(i:Nat) (pins:List (Addr×Obj)) (s:Shared) (σ:St) (H:Hp) (E:Value→Shared→Prop),Inv X pins σ H s→(∀b∈fp,Vaj X pins H b)→tn i s.heap→J.stop i H→
  wpAny (model P w) X.A (pyNext (.ref it)) (fun r s1=>r=none∧Inv X pins σ H s1) E s
 self:∀(A:Around) (i:Nat) (s:Shared) (Q:Value→Shared→Prop) (E:Value→Shared→Prop),tn i s.heap→Q (.ref it) s→wpAny (model P w) A (pyIter (.ref it)) Q E s
abbrev TI:=St→Hp→(It→Hp→Prop)→Prop
def PIE(X:Cx)(pins:List (Addr×Obj))(σ:St)(tg:Expr)(R:It→Hp→Prop)(itv:Value)(s2:Shared):Prop:=
 ∃(it:Addr) (fp:List Addr) (tn:Nat→Heap→Prop) (J:It) (H':Hp),itv= .ref it∧Inv X pins σ H' s2∧Turn X.prog X.w X.K tg J fp it tn∧tn 0 s2.heap∧(∀b∈fp,Vaj X pins H' b)∧R J H'
def PI(X:Cx)(tg iter:Expr)(wi:TI):Prop:=
 ∀(pins:List (Addr×Obj)) (s:Shared) (σ:St) (H:Hp) (R:It→Hp→Prop),Inv X pins σ H s→wi σ H R→
  wpAny (model X.prog X.w) X.A (eval iter X.env) (fun v s1=>wpAny (model X.prog X.w) X.A (pyIter v) (PIE X pins σ tg R) X.xe s1) X.xe s
theorem jaP{M:Model}{A:Around}{E:Value→Shared→Prop}{s:Shared}{tg:Expr}{it:Addr}{u:Value}{o:Obj}{n:String}{vs:Array Value}{Q:Unit→Shared→Prop}(ho:s.heap.get? it=some o)(hc:o.cls= .type n)(hd:o.data= .fields vs)
  (hn: ["enumerate","zip","dict_itemiterator","dict_reverseitemiterator","odict_iterator","itertools.zip_longest","itertools.pairwise"].contains n=false) (hQ:Q () s):wpAny M A (letOwnedTupleGo tg (.ref it) u) Q E s:=by
 unfold letOwnedTupleGo;cases tg<;>first
  | exact wpAny_pure hQ
  | (cases u<;>first
    | exact wpAny_pure hQ
    | (refine wpAny_bind (wpAny_load ho ?_)
       rw [hc,hd];show wpAny M A (if (["enumerate","zip","dict_itemiterator","dict_reverseitemiterator","odict_iterator","itertools.zip_longest","itertools.pairwise"].contains n && vs[0]? ==some (rawInt _))=true then _ else _) Q E s;rw [if_neg (by intro h;rw [hn,Bool.false_and] at h;cases h)];exact wpAny_pure hQ))
def Itl(K:PySem.W.Frag)(a:Addr):It:=
 ⟨fun i H=>∃xs x,xb K H a xs∧xs[i]? =some x,fun i H x H'=>H'=H∧∀xs,xb K H a xs→xs[i]? =some x,fun i H=>∃xs,xb K H a xs∧xs.length≤i⟩
def Itr(lo:Int)(n:Nat):It:=⟨fun i _=>i<n,fun i H x H'=>H'=H∧x= .int (lo+i),fun i _=>n≤i⟩
theorem yaZ{P:Program}{w:World}{K:PySem.W.Frag}{tg:Expr}(a it:Addr):Turn P w K tg (Itl K a) [it] it (fun i h=>h.IsListIter it a i) where
 mem:=by simp
 obj:=fun i h st b hb=>by
  have e:b=it:=by simpa using hb
  subst e;obtain ⟨o,e,c,d⟩:=st;exact ⟨o,e,fun v z=>by rw [d] at z;cases z⟩
 keep:=fun i h h' st k=>st.at fun o e=>k it (by simp) o e
 item:=by
  intro X hP hw hK hc i pins s σ H E I hf st hg;subst hP hw hK;obtain ⟨xs,x,hq,hx⟩:=hg;obtain ⟨Jd,rv,p,hz⟩:=I.list hq;obtain ⟨u,hu,ru⟩:=rv.get hx;obtain ⟨f0,f1,f2,f3,f4,f5⟩:=hf it (by simp);refine wpAny_pyNext_list_item st p.isList (x:=u) (by simpa using hu) fun h' st' sb=>?_
  have I1:Inv X pins σ H {s with heap:=h'}:=I.turned (t':=s.toks) (fun b o hb e=>(sb.2 b hb).trans e) f0 f1 f3 f4 f5;obtain ⟨o,e,c,d⟩:=id st';exact ⟨u,rfl,jaP (s:={s with heap:=h'}) e c d (by decide) ⟨x,H,I1,ru,⟨rfl,fun ys hy=>by rw [I.ZaL hy hq];exact hx⟩,st',fun b hb=>(hf b hb).1⟩⟩
 done:=by
  intro X hP hw hK hc i pins s σ H E I hf st hg;subst hP hw hK;obtain ⟨xs,hq,hx⟩:=hg;obtain ⟨Jd,rv,p,hz⟩:=I.list hq;obtain ⟨f0,f1,f2,f3,f4,f5⟩:=hf it (by simp);have hl:=rv.length;exact wpAny_pyNext_list_end (I.ok.hd hc) st p.isList (by simp;omega) fun h' eb=>⟨rfl,I.turned (t':=s.toks) (fun b o hb e=>eb b o hb e) f0 f1 f3 f4 f5⟩
 self:=fun _ _ _ _ _ st h=>wpAny_pyIter_listiter st h
theorem ZaS{P:Program}{w:World}{K:PySem.W.Frag}{tg:Expr}(it:Addr)(lo:Int)(n:Nat):Turn P w K tg (Itr lo n) [it] it (fun i h=>IsRangeIter h it (lo+(i:Nat)*1) ((n:Int)- (i:Nat)) 1) where
 mem:=by simp
 obj:=fun i h st b hb=>by
  have e:b=it:=by simpa using hb
  subst e;exact ⟨_,st,fun v z=>by
   have z':Data.fields _=Data.cell v:=z;cases z'⟩
 keep:=fun i h h' st k=>k it (by simp) _ st
 item:=by
  intro X hP hw hK hc i pins s σ H E I hf st hg;subst hP hw hK;obtain ⟨f0,f1,f2,f3,f4,f5⟩:=hf it (by simp);have W:=Walks.range (prog:=X.prog) (w:=X.w) (I.ok.hd hc) it lo 1 n;refine W.item i s _ _ hg st fun v h' tk hv st' kk=>?_;obtain ⟨t,rfl⟩:=hv;have I1:Inv X pins σ H {s with heap:=h',toks:=tk}:=I.turned (fun b o hb e=>kk b o (by simpa using hb) e) f0 f1 f3 f4 f5;refine ⟨_,rfl,jaP (s:={s with heap:=h',toks:=tk}) (n:="range_iterator") st' rfl rfl (by decide) ⟨.int (lo+i),H,I1,⟨t,?_⟩,⟨rfl,rfl⟩,st',fun b hb=>(hf b hb).1⟩⟩;rw [Int.mul_one]
 done:=by
  intro X hP hw hK hc i pins s σ H E I hf st hg;subst hP hw hK;obtain ⟨f0,f1,f2,f3,f4,f5⟩:=hf it (by simp);exact wpAny_pyNext_range_end (I.ok.hd hc) st (by have:n≤i:=hg;omega) fun h' eb=>⟨rfl,I.turned (t':=s.toks) (fun b o hb e=>eb b o hb e) f0 f1 f3 f4 f5⟩
 self:=fun _ _ _ _ _ st h=>wpAny_pyIter_rangeiter st h
end L2
namespace L2
open PySem PySem.Spec PyProof.Rows
section
variable{X:Cx}{tg:Expr}
def Xbm(K:PySem.W.Frag)(tl:TE):TI:=fun σ H R=>tl σ H fun x H1=>∃a,x= .ref a∧(∃xs,xb K H1 a xs)∧R (Itl K a) H1
theorem Xn{l:Expr}{tl:TE}(hl:PE X l tl):PI X tg l (Xbm X.K tl):=by
 intro pins s σ H R I h;refine zg (hl pins s σ H _ I h) fun v s1 ⟨x,H1,I1,r1,q1⟩=>?_;obtain ⟨a,e,⟨xs,hq⟩,q⟩:=q1;subst e;cases r1;obtain ⟨Jd,rv,p,hz⟩:=I1.list hq;refine wpAny_pyIter_list p.isList ?_;refine ⟨s1.heap.objs.size, [s1.heap.objs.size],_,_,H1,rfl,I1.kept (t':=s1.toks) fun b o e=>Heap.get?_push_of_some _ e,yaZ a _,⟨_,Heap.get?_push_size _ rfl,rfl,rfl⟩,fun b hb=>?_,q⟩;have e:b=s1.heap.objs.size:=by simpa using hb
 subst e;exact I1.zaX (Nat.le_refl _) (I1.Xd.fresh (Nat.le_refl _))
theorem Za3{pins:List (Addr×Obj)}{σ:St}{H:Hp}{s:Shared}{R:It→Hp→Prop}{E:Value→Shared→Prop}{lo hi:Int}{t u v:Tok}{tk:Nat}(I:Inv X pins σ H s)(h1: -(2 ^ 62)≤lo)(h2:lo<2 ^ 62)(h3: -(2 ^ 62)≤hi)(h4:hi<2 ^ 62)
  (q:R (Itr lo (hi-lo).toNat) H):wpAny (model X.prog X.w) X.A (pyIter (.ref s.heap.objs.size)) (PIE X pins σ tg R) E {s with heap:=s.heap.push {cls:= .type "range",data:= .fields #[.int lo t, .int hi u, .int 1 v]},toks:=tk}:=by
 refine wpAny_pyIter_range (IsRange.new ..) (small_one h1 h2 h3 h4) ?_;have I1:Inv X pins σ H {s with heap:=s.heap.push {cls:= .type "range",data:= .fields #[.int lo t, .int hi u, .int 1 v]},toks:=tk}:=I.kept fun b o e=>Heap.get?_push_of_some _ e;refine ⟨(s.heap.push {cls:= .type "range",data:= .fields #[.int lo t, .int hi u, .int 1 v]}).objs.size, [(s.heap.push {cls:= .type "range",data:= .fields #[.int lo t, .int hi u, .int 1 v]}).objs.size],_,_,H,rfl,
  I1.kept (t':=tk) fun b o e=>Heap.get?_push_of_some _ e,ZaS _ lo (hi-lo).toNat,?_,fun b hb=>?_,q⟩
 ·have e1:lo+((0:Nat):Int)*1=lo:=by simp
  have e2:(((hi-lo).toNat:Nat):Int)- ((0:Nat):Int)=Builtin.Range.rangeSize lo hi 1:=by rw [rangeSize_one];split<;>omega
  show IsRangeIter _ _ (lo+((0:Nat):Int)*1) ((((hi-lo).toNat:Nat):Int)- ((0:Nat):Int)) 1;rw [e1,e2];exact Heap.get?_push_size _ rfl
 ·have e:b=(s.heap.push {cls:= .type "range",data:= .fields #[.int lo t, .int hi u, .int 1 v]}).objs.size:=by simpa using hb
  subst e;exact I1.zaX (Nat.le_refl _) (I1.Xd.fresh (Nat.le_refl _))
def Ybn(ta:TA):TI:=fun σ H R=>ta σ H fun vs H1=>∃j:Int,vs= [.int j]∧-(2 ^ 62)≤j∧j<2 ^ 62∧R (Itr 0 j.toNat) H1
theorem Vai{a:Expr}{ta:TA}{p pos:Pos}(hg:Gl X "range")(hm:X.mg "range"=none)(ha:PA X [a] ta)(hs:starEach [a] X.env= [(false,eval a X.env)]:=by rfl):PI X tg (.Call (.Name "range" p) [a] [] pos) (Ybn ta):=by
 intro pins s σ H R I h;refine Call_ (Wao I hg hm boot_range (PyProof.Rows.callWith_type1 (zg (ha pos pins s σ H _ I h) fun us s1 ⟨vs,H1,I1,r1,q1⟩=>?_) hs rfl));obtain ⟨j,e,q1,q2,q⟩:=q1;subst e;cases r1 with
 | cons r rr=>
  cases rr;obtain ⟨t,rfl⟩:=r;exact call_range_1 (Za3 I1 (by omega) (by omega) q1 q2 (by simpa using q))
def Zbr(wi:TI)(g:TG)(tb:TS):TS:=fun D σ H=>wi σ H fun J H1=>∃W:Nat→Nat→St→Hp→Prop,(∃m,W 0 m σ H1)∧∀i m σ H,W i m σ H→
 (J.stop i H∧D.nx σ H)∨(J.go i H∧∃N:St→Hp→Prop,(∀σ' H',N σ' H'→∃m',m'<m∧W (i+1) m' σ' H')∧∀x H',J.yld i H x H'→g x σ H' fun σ2 H2=>tb {D with nx:=N,ct:=N,bk:=D.nx} σ2 H2)
def Uap(fp:List Addr)(h:Heap):List (Addr×Obj):=fp.filterMap fun b=>(h.get? b).map fun o=>(b,o)
theorem zac{fp:List Addr}{h:Heap}{b:Addr}{o:Obj}(hb:b∈fp)(e:h.get? b=some o):(b,o)∈Uap fp h:=List.mem_filterMap.mpr ⟨b,hb,by rw [e];rfl⟩
theorem yaX{fp:List Addr}{h:Heap}{p:Addr×Obj}(hp:p∈Uap fp h):p.1∈fp∧h.get? p.1=some p.2:=by
 obtain ⟨b,hb,e⟩:=List.mem_filterMap.mp hp;cases q:h.get? b with
 | none=>rw [q] at e;cases e
 | some o=>
  rw [q] at e;have e':(b,o)=p:=Option.some.inj e;subst e';exact ⟨hb,q⟩
theorem Inv.pinned{pins:List (Addr×Obj)}{σ:St}{H:Hp}{s:Shared}{fp:List Addr}(I:Inv X pins σ H s)(hf:∀b∈fp,Vaj X pins H b)(ho:∀b∈fp,∃o,s.heap.get? b=some o∧∀v,o.data≠ .cell v):Inv X (pins++Uap fp s.heap) σ H s:=
 I.jaT fun p hp=>(List.mem_append.mp hp).elim (fun z=>I.pin p (List.mem_append_right _ z)) fun z=>by
  obtain ⟨hb,e⟩:=yaX z;obtain ⟨f0,f1,f2,_⟩:=hf p.1 hb;obtain ⟨o,e',d⟩:=ho p.1 hb;rw [e] at e';cases e'
  exact ⟨e,f0,f1,f2,d⟩
theorem Inv.uae{pins pl:List (Addr×Obj)}{σ:St}{H:Hp}{s:Shared}(I:Inv X (pins++pl) σ H s):Inv X pins σ H s:=I.jaT fun p hp=>I.pin p (List.mem_append_right _ (List.mem_append_left _ hp))
theorem ZaA{iter:Expr}{body:List Stmt}{wi:TI}{g:TG}{tb:TS}{pos:Pos}(hp:PassesOwn (model X.prog X.w) X.A X.env X.xe)(hc:X.calm=true)(hi:PI X tg iter wi)(hg:PG X tg g)(hb:PSs X body tb)
  (hs:∀x,foldedSetIterable iter X.env x=pure x:=by intro _;rfl):PS X (.For tg iter body [] pos) (Zbr wi g tb):=by
 intro pins s σ H D I h;refine wpAny_For (zg (hi pins s σ H _ I h) fun v s1 h1=>zg h1 fun itv s2 h2=>?_) hs;obtain ⟨it,fp,tn,J,H2,e,I2,T,st2,f2,W,⟨m0,w0⟩,turn⟩:=h2;subst e;have stat:∀{H':Hp},(∀b∈fp,H' b=none)→∀b∈fp,Vaj X pins H' b:=fun hn b hb=>⟨hn b hb,(f2 b hb).2⟩;refine codeAny_forLoop_any (fun n s'=>∃i σ' H',Inv X pins σ' H' s'∧tn i s'.heap∧(∀b∈fp,H' b=none)∧W i n σ' H') ?_ m0 ⟨0,σ,H2,I2,st2,fun b hb=>(f2 b hb).1,w0⟩
 rintro n s3 ⟨i,σ3,H3,I3,st3,fr3,w3⟩
 rcases turn i n σ3 H3 w3 with ⟨stop,qn⟩ | ⟨go,N,hN,step⟩
 ·refine wpAny_passesOwn hp (zg (T.done X rfl rfl rfl hc i pins s3 σ3 H3 X.xe I3 (stat fr3) st3 stop) fun r s4 ⟨hr,I4⟩=>?_);subst hr;exact wpAny_execs_nil ⟨σ3,H3,I4,qn⟩
 ·refine wpAny_passesOwn hp (zg (T.item X rfl rfl rfl hc i pins s3 σ3 H3 X.xe I3 (stat fr3) st3 go) fun r s4 ⟨u,hr,h4⟩=>?_);subst hr;refine wpAny_passesOwn hp (zg h4 fun _ s5 ⟨x,H5,I5,r5,y5,st5,fr5⟩=>?_);have I5':=I5.pinned (stat fr5) (T.obj _ _ st5);refine wpAny_passesOwn hp (zg (hg _ s5 σ3 H5 x u _ I5' r5 (step x H5 y5)) fun _ s6 ⟨σ6,H6,I6,q6⟩=>?_);refine wpAny_passesOwn hp (zg (hb _ s6 σ6 H6 _ I6 q6) fun f s7 q7=>?_);have again:∀{σ7:St} {H7:Hp},Inv X (pins++Uap fp s5.heap) σ7 H7 s7→N σ7 H7→∃m,m<n∧∃i σ' H',Inv X pins σ' H' s7∧tn i s7.heap∧(∀b∈fp,H' b=none)∧W i m σ' H':=fun {σ7 H7} I7 n7=>by
   obtain ⟨m',hm,w7⟩:=hN σ7 H7 n7;refine ⟨m',hm,i+1,σ7,H7,I7.uae,T.keep _ _ _ st5 fun b hb o e=>(I7.pin (b,o) (List.mem_append_right _ (List.mem_append_right _ (zac hb e)))).1,fun b hb=>?_,w7⟩;obtain ⟨o,e,d⟩:=T.obj _ _ st5 b hb;exact (I7.pin (b,o) (List.mem_append_right _ (List.mem_append_right _ (zac hb e)))).2.1
  cases f with
  | next=>obtain ⟨σ7,H7,I7,n7⟩:=q7;exact again I7 n7
  | cont=>obtain ⟨σ7,H7,I7,n7⟩:=q7;exact again I7 n7
  | brk=>obtain ⟨σ7,H7,I7,q7⟩:=q7;exact ⟨σ7,H7,I7.uae,q7⟩
  | ret v=>obtain ⟨x7,σ7,H7,I7,r7,q7⟩:=q7;exact ⟨x7,σ7,H7,I7.uae,r7,q7⟩
end
theorem WaK{K:PySem.W.Frag}{a:Addr}{xs:List V}{g:TG}{tb:TS}{D:Ends}{σ:St}{H:Hp}(Pv:Nat→St→Hp→Prop)(h0:Pv 0 σ H)(hl:∀i σ H,i≤xs.length→Pv i σ H→xb K H a xs)
  (hs:∀i x σ H,xs[i]? =some x→Pv i σ H→g x σ H fun σ2 H2=>tb {D with nx:=Pv (i+1),ct:=Pv (i+1),bk:=D.nx} σ2 H2) (hd:∀σ H,Pv xs.length σ H→D.nx σ H):
  ∃W:Nat→Nat→St→Hp→Prop,(∃m,W 0 m σ H)∧∀i m σ H,W i m σ H→
   ((Itl K a).stop i H∧D.nx σ H)∨((Itl K a).go i H∧∃N:St→Hp→Prop,(∀σ' H',N σ' H'→∃m',m'<m∧W (i+1) m' σ' H')∧∀x H',(Itl K a).yld i H x H'→g x σ H' fun σ2 H2=>tb {D with nx:=N,ct:=N,bk:=D.nx} σ2 H2):=by
 refine ⟨fun i m σ H=>m=xs.length-i∧i≤xs.length∧Pv i σ H,⟨xs.length,by simp,Nat.zero_le _,h0⟩,?_⟩
 rintro i m σ H ⟨rfl,hi,p⟩
 have q:=hl i σ H hi p;by_cases XF:i<xs.length
 ·refine .inr ⟨⟨xs,xs[i],q,by simp [XF]⟩,Pv (i+1),fun σ' H' p'=>⟨xs.length- (i+1),by omega,rfl,XF,p'⟩,fun x H' y=>?_⟩;obtain ⟨e,y⟩:=y;subst e;exact hs i x σ _ (y xs q) p
 ·have e:i=xs.length:=by omega
  subst e;exact .inl ⟨⟨xs,q,Nat.le_refl _⟩,hd σ H p⟩
theorem UaY{lo:Int}{n:Nat}{g:TG}{tb:TS}{D:Ends}{σ:St}{H:Hp}(Pv:Nat→St→Hp→Prop)(h0:Pv 0 σ H)
  (hs:∀i σ H,i<n→Pv i σ H→g (.int (lo+i)) σ H fun σ2 H2=>tb {D with nx:=Pv (i+1),ct:=Pv (i+1),bk:=D.nx} σ2 H2) (hd:∀σ H,Pv n σ H→D.nx σ H):
  ∃W:Nat→Nat→St→Hp→Prop,(∃m,W 0 m σ H)∧∀i m σ H,W i m σ H→
   ((Itr lo n).stop i H∧D.nx σ H)∨((Itr lo n).go i H∧∃N:St→Hp→Prop,(∀σ' H',N σ' H'→∃m',m'<m∧W (i+1) m' σ' H')∧∀x H',(Itr lo n).yld i H x H'→g x σ H' fun σ2 H2=>tb {D with nx:=N,ct:=N,bk:=D.nx} σ2 H2):=by
 refine ⟨fun i m σ H=>m=n-i∧i≤n∧Pv i σ H,⟨n,by simp,Nat.zero_le _,h0⟩,?_⟩
 rintro i m σ H ⟨rfl,hi,p⟩
 by_cases XF:i<n
 ·refine .inr ⟨XF,Pv (i+1),fun σ' H' p'=>⟨n- (i+1),by omega,rfl,XF,p'⟩,fun x H' y=>?_⟩;obtain ⟨e,y⟩:=y;subst e y;exact hs i σ _ XF p
 ·have e:i=n:=by omega
  subst e;exact .inl ⟨Nat.le_refl _,hd σ H p⟩
end L2
namespace L2
open PySem PySem.Spec PyProof.Rows
abbrev R2:=V→V→Hp→VK→Prop
def OpR(X:Cx)(f:Value→Value→Sem Value)(r:R2):Prop:=
 ∀(pins:List (Addr×Obj)) (s:Shared) (σ:St) (H:Hp) (x y:V) (v u:Value) (Q:VK),Inv X pins σ H s→RelV x v→RelV y u→r x y H Q→
  wpAny (model X.prog X.w) X.A (f v u) (EP X pins σ Q) X.xe s
def UnR(X:Cx)(f:Value→Sem Value)(r:V→Hp→VK→Prop):Prop:=
 ∀(pins:List (Addr×Obj)) (s:Shared) (σ:St) (H:Hp) (x:V) (v:Value) (Q:VK),Inv X pins σ H s→RelV x v→r x H Q→
  wpAny (model X.prog X.w) X.A (f v) (EP X pins σ Q) X.xe s
def vax(X:Cx)(f:Value)(r:List V→Hp→VK→Prop):Prop:=
 ∀(pins:List (Addr×Obj)) (s:Shared) (σ:St) (H:Hp) (xs:List V) (us:List Value) (Q:VK),Inv X pins σ H s→Vals xs us→r xs H Q→
  wpAny (model X.prog X.w) X.A (call f us) (EP X pins σ Q) X.xe s
def vbr(X:Cx)(r:V→Hp→(Bool→Hp→Prop)→Prop):Prop:=
 ∀(pins:List (Addr×Obj)) (s:Shared) (σ:St) (H:Hp) (x:V) (v:Value) (Q:Bool→Hp→Prop),Inv X pins σ H s→RelV x v→r x H Q→
  wpAny (model X.prog X.w) X.A (truthy v) (TP X pins σ Q) X.xe s
def tOp(r:R2)(ta tb:TE):TE:=fun σ H Q=>ta σ H fun x H1=>tb σ H1 fun y H2=>r x y H2 Q
def tUn(r:V→Hp→VK→Prop)(ta:TE):TE:=fun σ H Q=>ta σ H fun x H1=>r x H1 Q
def rI(C:Int→Int→Prop)(g:Int→Int→V):R2:=fun x y H Q=>∃i j,x= .int i∧y= .int j∧C i j∧Q (g i j) H
def rI0(g:Int→Int→V):R2:=fun x y H Q=>∃i j,x= .int i∧y= .int j∧Q (g i j) H
def rU(g:Int→V):V→Hp→VK→Prop:=fun x H Q=>∃i,x= .int i∧Q (g i) H
section
variable{X:Cx}{a b c:Expr}{ta tb tc:TE}{pos:Pos}
theorem zbl(ha:PE X a ta)(hb:PE X b tb){pins:List (Addr×Obj)}{s:Shared}{σ:St}{H:Hp}{R:V→V→Hp→Prop}(I:Inv X pins σ H s)
  (h:ta σ H fun x H1=>tb σ H1 fun y H2=>R x y H2) {Q:Value→Shared→Prop} {f:Value→Value→Sem Value}
  (hf:∀v u s2 x y H2,Inv X pins σ H2 s2→RelV x v→RelV y u→R x y H2→wpAny (model X.prog X.w) X.A (f v u) Q X.xe s2):
  wpAny (model X.prog X.w) X.A (eval a X.env) (fun v s₁=>wpAny (model X.prog X.w) X.A (eval b X.env) (fun u s₂=>wpAny (model X.prog X.w) X.A (f v u) Q X.xe s₂) X.xe s₁) X.xe s:=by
 refine zg (ha pins s σ H _ I h) fun v s1 ⟨x,H1,I1,r1,q1⟩=>?_;refine zg (hb pins s1 σ H1 _ I1 q1) fun u s2 ⟨y,H2,I2,r2,q2⟩=>?_;exact hf v u s2 x y H2 I2 r1 r2 q2
theorem Vs{op:Operator}{r:R2}(ho:OpR X (binaryOp op) r)(ha:PE X a ta)(hb:PE X b tb):PE X (.BinOp a op b pos) (tOp r ta tb):=by
 intro pins s σ H Q I h;exact wpAny_BinOp (zbl ha hb I h fun v u s2 x y H2 I2 rx ry q=>ho pins s2 σ H2 x y v u Q I2 rx ry q)
theorem WX{op:UnaryOp}{r:V→Hp→VK→Prop}(ho:UnR X (unaryOp op) r)(ha:PE X a ta):PE X (.UnaryOp op a pos) (tUn r ta):=by
 intro pins s σ H Q I h;exact UnaryOp_ (zg (ha pins s σ H _ I h) fun v s1 ⟨x,H1,I1,r1,q1⟩=>ho pins s1 σ H1 x v Q I1 r1 q1)
theorem opI{f:Value→Value→Sem Value}{C:Int→Int→Prop}{g:Int→Int→Int}
  (rule:∀(i j:Int) (t u:Tok) (s:Shared) (Q:Value→Shared→Prop) (E:Value→Shared→Prop),C i j→Q (.int (g i j) s.toks) {s with toks:=s.toks+1}→wpAny (model X.prog X.w) X.A (f (.int i t) (.int j u)) Q E s):
  OpR X f (rI C fun i j=> .int (g i j)):=by
 intro pins s σ H x y v u Q I rx ry h;obtain ⟨i,j,rfl,rfl,hc,q⟩:=h;obtain ⟨t,rfl⟩:=rx;obtain ⟨t',rfl⟩:=ry;exact rule i j t t' s _ _ hc ⟨.int (g i j),H,I.tok _,⟨_,rfl⟩,q⟩
theorem wbj{f:Value→Value→Sem Value}{g:Int→Int→Int}
  (rule:∀(i j:Int) (t u:Tok) (s:Shared) (Q:Value→Shared→Prop) (E:Value→Shared→Prop),Q (.int (g i j) s.toks) {s with toks:=s.toks+1}→wpAny (model X.prog X.w) X.A (f (.int i t) (.int j u)) Q E s):
  OpR X f (rI0 fun i j=> .int (g i j)):=by
 intro pins s σ H x y v u Q I rx ry h;obtain ⟨i,j,rfl,rfl,q⟩:=h;obtain ⟨t,rfl⟩:=rx;obtain ⟨t',rfl⟩:=ry;exact rule i j t t' s _ _ ⟨.int (g i j),H,I.tok _,⟨_,rfl⟩,q⟩
theorem Ka6{f:Value→Value→Sem Value}{g:Int→Int→Bool}
  (rule:∀(i j:Int) (t u:Tok) (s:Shared) (Q:Value→Shared→Prop) (E:Value→Shared→Prop),Q (.bool (g i j)) s→wpAny (model X.prog X.w) X.A (f (.int i t) (.int j u)) Q E s):
  OpR X f (rI0 fun i j=> .bl (g i j)):=by
 intro pins s σ H x y v u Q I rx ry h;obtain ⟨i,j,rfl,rfl,q⟩:=h;obtain ⟨t,rfl⟩:=rx;obtain ⟨t',rfl⟩:=ry;exact rule i j t t' s _ _ ⟨.bl (g i j),H,I,rfl,q⟩
def Vbd(i j:Int):Prop:=(-(2 ^ 64)<i∧i<2 ^ 64)∨(-(2 ^ 64)<j∧j<2 ^ 64)
theorem Vbd.ok{i j:Int}(h:Vbd i j):IntMulOk i j:=by
 rcases h with ⟨h1,h2⟩ | ⟨h1,h2⟩
 ·exact .of_left (intBits_le_64 h1 h2)
 ·exact .of_right (intBits_le_64 h1 h2)
theorem qx:OpR X (binaryOp .Add) (rI0 fun i j=> .int (i+j)):=wbj fun _ _ _ _ _ _ _ q=>add_int q
theorem jaN:OpR X (binaryOp .Sub) (rI0 fun i j=> .int (i-j)):=wbj fun _ _ _ _ _ _ _ q=>sub_int q
theorem qbg:OpR X (binaryOp .Mult) (rI Vbd fun i j=> .int (i*j)):=opI fun _ _ _ _ _ _ _ hc q=>mul_int q hc.ok
theorem Ybh:OpR X (binaryOp .Mod) (rI (fun _ j=>0<j) fun i j=> .int (i % j)):=opI fun i j _ _ _ _ _ hc q=>by
 have h1:(0:Int)<j:=hc;exact mod_int' (by omega) (by rw [Int.fmod_eq_emod_of_nonneg i (by omega)];exact q)
theorem unI{f:Value→Sem Value}{g:Int→Int}
  (rule:∀(i:Int) (t:Tok) (s:Shared) (Q:Value→Shared→Prop) (E:Value→Shared→Prop),Q (.int (g i) s.toks) {s with toks:=s.toks+1}→wpAny (model X.prog X.w) X.A (f (.int i t)) Q E s):
  UnR X f (rU fun i=> .int (g i)):=by
 intro pins s σ H x v Q I rx h;obtain ⟨i,rfl,q⟩:=h;obtain ⟨t,rfl⟩:=rx;exact rule i t s _ _ ⟨.int (g i),H,I.tok _,⟨_,rfl⟩,q⟩
theorem xH:UnR X (unaryOp .USub) (rU fun i=> .int (-i)):=unI fun _ _ _ _ _ q=>neg_int q
end
def zbk:V→V→Bool
 | .non, .non=>true | .non, .int _=>true | .int _, .non=>true | .non, .bl _=>true | .bl _, .non=>true | .non, .str _=>true | .str _, .non=>true
 | .int _, .int _=>true | .bl _, .bl _=>true | .str _, .str _=>true | .byt _, .byt _=>true
 | .int _, .str _=>true | .str _, .int _=>true | .bl _, .str _=>true | .str _, .bl _=>true
 | _,_=>false
def rEq:R2:=fun x y H Q=>zbk x y=true∧Q (.bl (decide (x=y))) H
def rNe:R2:=fun x y H Q=>zbk x y=true∧Q (.bl (!decide (x=y))) H
theorem waU{i j:Int}:decide (V.int i=V.int j)=(i==j):=by
 rw [Bool.eq_iff_iff];simp
theorem Ka1{i j:Bool}:decide (V.bl i=V.bl j)=(i==j):=by
 rw [Bool.eq_iff_iff];simp
theorem xaT{i j:Str}:decide (V.str i=V.str j)=(i==j):=by
 rw [Bool.eq_iff_iff];simp
theorem XaU{i j:Array UInt8}:decide (V.byt i=V.byt j)=(i.toList==j.toList):=by
 rw [Bool.eq_iff_iff];cases i;cases j;simp
section
variable{X:Cx}{a b c:Expr}{ta tb tc:TE}{pos:Pos}
theorem xf{pins:List (Addr×Obj)}{σ:St}{H:Hp}{s:Shared}{Q:VK}{k k':Bool}(I:Inv X pins σ H s)(q:Q (.bl k) H)(e:k=k'):EP X pins σ Q (.bool k') s:=by
 subst e;exact ⟨.bl k,H,I,rfl,q⟩
theorem Vf:OpR X (compareOp .Eq) rEq:=by
 intro pins s σ H x y v u Q I rx ry h;obtain ⟨hs,q⟩:=h;cases x with
 | non=>
  cases rx;cases y with
  | non=>cases ry;exact PySem.EqNone.eq_none_none (xf I q (by simp))
  | bl j=>cases ry;exact PySem.EqNone.eq_none_bool (xf I q (by simp))
  | int j=>obtain ⟨t',rfl⟩:=ry;exact PySem.EqNone.eq_none_int (xf I q (by simp))
  | str j=>obtain ⟨t',rfl⟩:=ry;exact PySem.EqNone.eq_none_str (xf I q (by simp))
  | _=>exact absurd (show false=true from hs) Bool.false_ne_true
 | bl i=>
  cases rx;cases y with
  | non=>cases ry;exact PySem.EqNone.eq_bool_none (xf I q (by simp))
  | bl j=>cases ry;exact eq_bool (xf I q Ka1)
  | str j=>obtain ⟨t',rfl⟩:=ry;exact PySem.EqMixed.eq_bool_str (xf I q (by simp))
  | _=>exact absurd (show false=true from hs) Bool.false_ne_true
 | int i=>
  obtain ⟨t,rfl⟩:=rx;cases y with
  | non=>cases ry;exact PySem.EqNone.eq_int_none (xf I q (by simp))
  | int j=>obtain ⟨t',rfl⟩:=ry;exact eq_int (xf I q waU)
  | str j=>obtain ⟨t',rfl⟩:=ry;exact PySem.EqMixed.eq_int_str (xf I q (by simp))
  | _=>exact absurd (show false=true from hs) Bool.false_ne_true
 | str i=>
  obtain ⟨t,rfl⟩:=rx;cases y with
  | non=>cases ry;exact PySem.EqNone.eq_str_none (xf I q (by simp))
  | bl j=>cases ry;exact PySem.EqMixed.eq_str_bool (xf I q (by simp))
  | int j=>obtain ⟨t',rfl⟩:=ry;exact PySem.EqMixed.eq_str_int (xf I q (by simp))
  | str j=>obtain ⟨t',rfl⟩:=ry;exact eq_str (xf I q xaT)
  | _=>exact absurd (show false=true from hs) Bool.false_ne_true
 | byt i=>
  obtain ⟨t,rfl⟩:=rx;cases y with
  | byt j=>obtain ⟨t',rfl⟩:=ry;exact PySem.W.eq_bytes (xf I q XaU)
  | _=>exact absurd (show false=true from hs) Bool.false_ne_true
 | _=>cases y<;>exact absurd (show false=true from hs) Bool.false_ne_true
theorem uaF:OpR X (compareOp .NotEq) rNe:=by
 intro pins s σ H x y v u Q I rx ry h;obtain ⟨hs,q⟩:=h;cases x with
 | non=>
  cases rx;cases y with
  | non=>cases ry;exact PySem.EqNone.ne_none_none (xf I q (by simp))
  | bl j=>cases ry;exact PySem.EqNone.ne_none_bool (xf I q (by simp))
  | int j=>obtain ⟨t',rfl⟩:=ry;exact PySem.EqNone.ne_none_int (xf I q (by simp))
  | str j=>obtain ⟨t',rfl⟩:=ry;exact PySem.EqNone.ne_none_str (xf I q (by simp))
  | _=>exact absurd (show false=true from hs) Bool.false_ne_true
 | bl i=>
  cases rx;cases y with
  | non=>cases ry;exact PySem.EqNone.ne_bool_none (xf I q (by simp))
  | bl j=>cases ry;exact ne_bool (xf I q (congrArg not Ka1))
  | str j=>obtain ⟨t',rfl⟩:=ry;exact PySem.EqMixed.ne_bool_str (xf I q (by simp))
  | _=>exact absurd (show false=true from hs) Bool.false_ne_true
 | int i=>
  obtain ⟨t,rfl⟩:=rx;cases y with
  | non=>cases ry;exact PySem.EqNone.ne_int_none (xf I q (by simp))
  | int j=>obtain ⟨t',rfl⟩:=ry;exact ne_int (xf I q (congrArg not waU))
  | str j=>obtain ⟨t',rfl⟩:=ry;exact PySem.EqMixed.ne_int_str (xf I q (by simp))
  | _=>exact absurd (show false=true from hs) Bool.false_ne_true
 | str i=>
  obtain ⟨t,rfl⟩:=rx;cases y with
  | non=>cases ry;exact PySem.EqNone.ne_str_none (xf I q (by simp))
  | bl j=>cases ry;exact PySem.EqMixed.ne_str_bool (xf I q (by simp))
  | int j=>obtain ⟨t',rfl⟩:=ry;exact PySem.EqMixed.ne_str_int (xf I q (by simp))
  | str j=>obtain ⟨t',rfl⟩:=ry;exact ne_str (xf I q (congrArg not xaT))
  | _=>exact absurd (show false=true from hs) Bool.false_ne_true
 | byt i=>
  obtain ⟨t,rfl⟩:=rx;cases y with
  | byt j=>obtain ⟨t',rfl⟩:=ry;exact PySem.W.ne_bytes (xf I q (congrArg not XaU))
  | _=>exact absurd (show false=true from hs) Bool.false_ne_true
 | _=>cases y<;>exact absurd (show false=true from hs) Bool.false_ne_true
theorem qax:OpR X (compareOp .Lt) (rI0 fun i j=> .bl (decide (i<j))):=Ka6 fun _ _ _ _ _ _ _ q=>lt_int q
theorem YaP:OpR X (compareOp .LtE) (rI0 fun i j=> .bl (decide (i≤j))):=Ka6 fun _ _ _ _ _ _ _ q=>le_int q
theorem Ybo:OpR X (compareOp .Gt) (rI0 fun i j=> .bl (decide (j<i))):=Ka6 fun _ _ _ _ _ _ _ q=>gt_int q
theorem kaP:OpR X (compareOp .GtE) (rI0 fun i j=> .bl (decide (j≤i))):=Ka6 fun _ _ _ _ _ _ _ q=>ge_int q
theorem Zc(b:Expr){op:CmpOp}(h:op≠ .In:=by decide)(h2:op≠ .NotIn:=by decide):behindInMarks op b=false:=by
 have e1:(op==CmpOp.In)=false:=by cases op<;>first | rfl | exact absurd rfl h
 have e2:(op==CmpOp.NotIn)=false:=by cases op<;>first | rfl | exact absurd rfl h2
 cases b<;>simp [behindInMarks,e1,e2]
def Yaf(t:TE):TT:=fun σ H Q=>t σ H fun x H'=>∃k,x= .bl k∧Q k H'
theorem Kb{op:CmpOp}{r:R2}(ho:OpR X (compareOp op) r)(ha:PE X a ta)(hb:PE X b tb)(hm:behindInMarks op b=false):PT X (.Compare a [op] [b] pos) (Yaf (tOp r ta tb)):=by
 intro pins s σ H Q I h;refine wpAny_isTrue_Compare1 (zg (ha pins s σ H _ I h) fun v s1 ⟨x,H1,I1,r1,q1⟩=>zg (hb pins s1 σ H1 _ I1 q1) fun u s2 ⟨y,H2,I2,r2,q2⟩=>
  zg (ho pins s2 σ H2 x y v u _ I2 r1 r2 q2) fun c s3 ⟨z,H3,I3,r3,k,e,q3⟩=>?_) hm
 subst e;cases r3;exact wpAny_truthy_bool ⟨H3,I3,q3⟩
def Kbe(r r':R2)(ta tb tc:TE):TE:=fun σ H Q=>ta σ H fun x H1=>tb σ H1 fun y H2=>r x y H2 fun z H3=>∃k,z= .bl k∧
 (if k=true then tc σ H3 fun w' H4=>r' y w' H4 Q else Q (.bl false) H3)
theorem War{op op':CmpOp}{r r':R2}(ho:OpR X (compareOp op) r)(ho':OpR X (compareOp op') r')(ha:PE X a ta)(hb:PE X b tb)(hc:PE X c tc)
  (hm:lastMarks [op,op'] [b,c]=false:=by with_unfolding_all rfl):PT X (.Compare a [op,op'] [b,c] pos) (Yaf (Kbe r r' ta tb tc)):=by
 intro pins s σ H Q I h;refine isTrue_chain (zg (ha pins s σ H _ I h) fun v s1 ⟨x,H1,I1,r1,q1⟩=>test_link (zg (hb pins s1 σ H1 _ I1 q1) fun u s2 ⟨y,H2,I2,r2,q2⟩=>
  zg (ho pins s2 σ H2 x y v u _ I2 r1 r2 q2) fun d s3 ⟨z,H3,I3,r3,k,e,q3⟩=>?_)) hm
 subst e;cases r3;refine wpAny_truthy_bool ?_;cases k with
 | false=>
  obtain ⟨k',e',q'⟩:=q3;cases e';exact ite_ff ⟨H3,I3,q'⟩
 | true=>
  refine ite_tt (test_last (zg (hc pins s3 σ H3 _ I3 q3) fun w' s4 ⟨z',H4,I4,r4,q4⟩=>zg (ho' pins s4 σ H4 y z' u w' _ I4 r2 r4 q4) fun d' s5 ⟨z2,H5,I5,r5,k2,e2,q5⟩=>?_));subst e2;cases r5;exact wpAny_truthy_bool ⟨H5,I5,q5⟩
def Jbq(K:PySem.W.Frag)(x:V)(H:Hp)(k:Bool):Prop:=
 match x with
 | .non=>k=false
 | .bl b=>k=b
 | .int i=>k=(i !=0)
 | .str y=>y.length≤sizeLine∧k=((y.length:Int) !=0)
 | .byt y=>y.size≤sizeLine∧k=((y.size:Int) !=0)
 | .ref p=>(∃xs,xb K H p xs∧k= !xs.isEmpty)∨(∃xs,vQ K H p xs∧k= !xs.isEmpty)∨∃Yb,H p=some (.dK Yb)∧k= !Yb.isEmpty
 | _=>False
theorem YaS{κ:Type}{Yb:List (κ×V)}{vs:List (κ×Value)}(r:KV Yb vs):(!vs.isEmpty)= !Yb.isEmpty:=by
 cases r<;>rfl
theorem Xat{xs:List V}{Jd:List Value}(r:Vals xs Jd):(!Jd.toArray.isEmpty)= !xs.isEmpty:=by
 cases r<;>simp
theorem uaD:(sizeLine:Nat)<2 ^ 63:=by rw [sizeLine_eq];decide
theorem Ja1:vbr X (fun x H Q=>∃k,Jbq X.K x H k∧Q k H):=by
 intro pins s σ H x v Q I rx h;obtain ⟨k,e,q⟩:=h;have hl:=uaD;have hs:sizeLine=16777216:=sizeLine_eq;cases x with
 | non=>
  cases rx;have e':k=false:=e;subst e';exact truthy_none ⟨H,I,q⟩
 | bl b=>
  cases rx;have e':k=b:=e;subst e';exact wpAny_truthy_bool ⟨H,I,q⟩
 | int i=>
  obtain ⟨t,rfl⟩:=rx;have e':k=(i !=0):=e;subst e';exact PySem.P.truthy_int ⟨H,I,q⟩
 | str y=>
  obtain ⟨t,rfl⟩:=rx;obtain ⟨hy,e'⟩:y.length≤sizeLine∧k=((y.length:Int) !=0):=e;subst e';exact PySem.P.truthy_str (by omega) ⟨H,I.tok _,q⟩
 | byt y=>
  obtain ⟨t,rfl⟩:=rx;obtain ⟨hy,e'⟩:y.size≤sizeLine∧k=((y.size:Int) !=0):=e;subst e';exact PySem.W.truthy_bytes (by omega) ⟨H,I.tok _,q⟩
 | ref p=>
  cases rx;have e':(∃xs,xb X.K H p xs∧k= !xs.isEmpty)∨(∃xs,vQ X.K H p xs∧k= !xs.isEmpty)∨∃Yb,H p=some (.dK Yb)∧k= !Yb.isEmpty:=e;rcases e' with ⟨xs,hx,e'⟩ | ⟨xs,hx,e'⟩ | ⟨Yb,hx,e'⟩
  ·subst e';obtain ⟨Jd,r,pl,hz⟩:=I.list hx;have hlen:=r.length;exact wpAny_truthy_list pl.isList (by simp only [List.size_toArray];omega) ⟨H,I.tok _,by rw [Xat r];exact q⟩
  ·subst e';obtain ⟨Jd,r,pl,hz⟩:=I.tuple hx;have hlen:=r.length;exact truthy_tuple pl (by simp only [List.size_toArray];omega) ⟨H,I.tok _,by rw [Xat r];exact q⟩
  ·subst e';obtain ⟨hz,hS,vs,r,m⟩:Yb.length≤sizeLine∧(p==sysModules)=false∧∃vs,KV Yb vs∧s.heap.DictOf (Vg X.prog X.w) p vs:=I.Xd p _ hx;have hlen:Yb.length=vs.length:=Paired.length r;exact wpAny_truthy_dict hS m (by omega) ⟨H,I.tok _,by rw [YaS r];exact q⟩
 | _=>exact (show False from e).elim
theorem vals1{x:V}{us:List Value}(r:Vals [x] us):∃u,us= [u]∧RelV x u:=by
 cases r with
 | cons r1 r2=>cases r2;exact ⟨_,rfl,r1⟩
theorem V5:vax X (.type "int") (fun xs H Q=>(∃i,xs= [.int i]∧Q (.int i) H)∨∃k,xs= [.bl k]∧Q (.int (if k then 1 else 0)) H):=by
 intro pins s σ H xs us Q I r h;rcases h with ⟨i,rfl,q⟩ | ⟨k,rfl,q⟩
 ·obtain ⟨u,rfl,t,rfl⟩:=vals1 r;exact call_int_int ⟨.int i,H,I,⟨_,rfl⟩,q⟩
 ·obtain ⟨u,rfl,r1⟩:=vals1 r;cases r1;exact call_int_bool ⟨.int (if k then 1 else 0),H,I.tok _,⟨_,rfl⟩,q⟩
end
end L2
namespace L2
open PySem PySem.Spec PyProof.Rows
structure JaD(h:Heap)(x dx C:Addr)(mA:Str→Option Value):Prop where
 obj:h.get? x=some (PySem.W.instObj C dx)
 ns:h.Ns1 dx mA
 ne:dx≠x
theorem ZaY{h:Heap}{dx:Addr}{mA:Str→Option Value}(n:h.Ns1 dx mA):∃od,h.get? dx=some od∧∀name,PySem.W.lookIn name od=some (mA name):=by
 obtain ⟨o,es,ep,ho,hd,hk,_,hm⟩:=n;refine ⟨o,ho,fun name=>?_⟩;have e:=hm name;unfold nsFind findBy at e;rw [←Array.find?_toList] at e;unfold PySem.W.lookIn;rw [hd];dsimp only;split
 ·rename_i y q;rw [q] at e;exact congrArg some e
 ·rename_i q;rw [q] at e;have a:es.toList.any (·.refKey)=false:=by
   rw [List.any_eq_false];intro y hy;obtain ⟨z,t,yaJ⟩:=hk y (Array.mem_toList_iff.mp hy);simp [DictEntry.refKey,yaJ]
  have a':¬es.toList.any (·.refKey)=true:=by rw [a];exact Bool.false_ne_true
  rw [if_neg a'];exact congrArg some e
theorem JaD.look{h:Heap}{x dx C:Addr}{mA:Str→Option Value}(I:JaD h x dx C mA):∃od,PySem.W.InstAt h x (PySem.W.instObj C dx) C (some od)∧∀name,PySem.W.lookIn name od=some (mA name):=
 let ⟨od,ho,hl⟩:=ZaY I.ns
 ⟨od,⟨I.obj,rfl,rfl,ho⟩,hl⟩
section
variable{prog:Program}{w:World}{A:Around}{E:Value→Shared→Prop}{s:Shared}{K:PySem.W.Frag}{x dx C f:Addr}{mA:Str→Option Value}{name:Str}{v:Value}
theorem get_map{expr:Bool}{Q:Value→Shared→Prop}(X:K.In s.heap)(I:JaD s.heap x dx C mA)(hg:PySem.W.plainGet K C name=true)(hh:PySem.W.hasDictIn K C=true)
  (ha:PySem.W.findIn K (.ref C) name=some none) (hv:mA name=some v) (hv':PySem.W.handedIn v=true) (h:Q v {s with toks:=s.toks+1}):
  wpAny (model prog w) A (getAttr (.ref x) name expr) Q E s:=by
 obtain ⟨od,J,hl⟩:=I.look;exact PySem.W.get_value X J (PySem.W.plainGet_of hg).1 (PySem.W.findObj_own hh ha rfl (by rw [hl,hv])) hv' h
theorem Wa5{pl:Sem Bool}{Q:Value×List Value→Shared→Prop}(X:K.In s.heap)(I:JaD s.heap x dx C mA)(hg:PySem.W.plainGet K C name=true)
  (hf:PySem.W.findIn K (.ref C) name=some (some (.ref f))) (ht:PySem.W.isFn K (.ref f)=true) (hv:mA name=none) (h:Q (.ref f, [.ref x]) s):
  wpAny (model prog w) A (getMethod (.ref x) name pl) Q E s:=by
 obtain ⟨od,J,hl⟩:=I.look;exact PySem.W.method_fn X J (PySem.W.plainGet_of hg).1 (PySem.W.plainGet_of hg).2 hf (beq_iff_eq.mp ht) (by show (PySem.W.lookIn name od).map (·.isSome)=some false;rw [hl,hv];rfl) h
theorem ja9{ns:List Str}{Q:Unit→Shared→Prop}(X:K.In s.heap)(I:JaD s.heap x dx C mA)
  (hs:PySem.W.findIn K (.ref C) "__setattr__"=some (some (.builtin "object.__setattr__"))) (hp:PySem.W.plainOver K C=true) (ht:PySem.W.takerIn K C name=some none) (hh:PySem.W.hasDictIn K C=true)
  (hw:PySem.Within mA ns) (hsz:ns.length≤sizeLine)
  (h:∀h',JaD h' x dx C (fun y=>if y=name then some v else mA y)→Heap.SameBut dx s.heap h'→Q () {s with heap:=h',toks:=s.toks+2}):
  wpAny (model prog w) A (setAttr (.ref x) name v) Q E s:=by
 obtain ⟨od,J,hl⟩:=I.look;refine PySem.W.set_plain X J hs (PySem.W.osa_open (s:={s with toks:=s.toks+1}) (r:=none) X J hp ht fun b=>?_);obtain ⟨cd,hc,uQ⟩:=PySem.W.any_some hh;have hx:s.heap.get? x=some ⟨.ref C,some dx, .plain, #[]⟩:=I.obj;refine wpAny_bind (wpAny_pure (wpAny_bind (wpAny_bind (wpAny_loadPart hx (wpAny_bind (PySem.W.Looks.here (s:={s with toks:=s.toks+1}) (PySem.W.looks_clsIn X hc) ?_))))));rw [uQ];refine wpAny_pure (a:=some dx) (wpAny_bind (wpAny_pure (wpAny_bind ?_)));refine wpAny_nsSet1 (s:={s with toks:=s.toks+1}) I.ns fun h' hn2 hs2=>?_;obtain ⟨oD,esD,epD,hoD,hdD,hcD⟩:=hn2.count (PySem.Within.cons name v hw);refine wpAny_bind (wpAny_lookBehind hoD (by rw [hdD];exact pastItsLine_dict (Nat.le_trans hcD (by rw [List.length_cons];omega))) ?_);exact wpAny_pure (h _ ⟨(hs2.2 _ (Ne.symm I.ne)).trans I.obj,hn2,I.ne⟩ hs2)
theorem Ja4{R:Result→Shared→Prop}{vs:List Value}{kw:List (Str×Value)}(X:K.In s.heap)(hm:PySem.W.makesIn K C=true)
  (hi:PySem.W.findIn K (.ref C) "__init__"=some (some (.ref f))) (hf:PySem.W.typeIn K (.ref f)=some (.type "function"))
  (h:codeAny (model prog w) (A.under (.builtin "type.__call__" ⟨.ref C::vs,kw⟩)) (.call (.ref f) ⟨.ref (s.heap.objs.size+1)::vs,kw⟩) (PySem.W.InitBack (s.heap.objs.size+1) R)
   {s with heap:=(s.heap.push PySem.W.emptyDict).push (PySem.W.instObj C s.heap.objs.size)}):
  codeAny (model prog w) A (.call (.ref C) ⟨vs,kw⟩) R s:=by
 obtain ⟨hh,g,d,t,os⟩:=s;exact PySem.W.make_core (PySem.W.makes_of X hm) (PySem.W.looks_findIn X hi) (fun self=>PySem.W.bind_fn X self hf) (.inl rfl) h
end
def uc(f:Str)(v:V):List (Str×V)→List (Str×V)
 | []=> [(f,v)]
 | (g,x)::r=>if g=f then (g,v)::r else (g,x)::uc f v r
theorem wam(f g:Str)(v:V):∀fs:List (Str×V),(uc f v fs).lookup g=if g=f then some v else fs.lookup g
 | []=>by
  show List.lookup g [(f,v)]=_;by_cases h:g=f
  ·have hb:(g==f)=true:=beq_iff_eq.mpr h;simp only [List.lookup,hb,if_pos h]
  ·have hb:(g==f)=false:=beq_eq_false_iff_ne.mpr h;simp only [List.lookup,hb,if_neg h]
 | (k,x)::r=>by
  have ih:=wam f g v r;rw [show uc f v ((k,x)::r)=(if k=f then (k,v)::r else (k,x)::uc f v r) from rfl];by_cases hk:k=f
  ·rw [if_pos hk];by_cases h:g=k
   ·have hb:(g==k)=true:=beq_iff_eq.mpr h;simp only [List.lookup,hb,if_pos (h.trans hk)]
   ·have hb:(g==k)=false:=beq_eq_false_iff_ne.mpr h;simp only [List.lookup,hb,if_neg (fun e:g=f=>h (e.trans hk.symm))]
  ·rw [if_neg hk];by_cases h:g=k
   ·have hb:(g==k)=true:=beq_iff_eq.mpr h;simp only [List.lookup,hb,if_neg (fun e:g=f=>hk (h.symm.trans e))]
   ·have hb:(g==k)=false:=beq_eq_false_iff_ne.mpr h;simp only [List.lookup,hb];exact ih
theorem kaj(f:Str)(v:V):∀fs:List (Str×V),f∈(uc f v fs).map (·.1)∧∀g,g∈fs.map (·.1)→g∈(uc f v fs).map (·.1)
 | []=>⟨by simp [uc],fun g h=>by simp at h⟩
 | (k,x)::r=>by
  obtain ⟨i1,i2⟩:=kaj f v r;rw [show uc f v ((k,x)::r)=(if k=f then (k,v)::r else (k,x)::uc f v r) from rfl];by_cases hk:k=f
  ·rw [if_pos hk];subst hk;exact ⟨by simp,fun g h=>by simpa using h⟩
  ·rw [if_neg hk];refine ⟨?_,fun g h=>?_⟩
   ·rw [List.map_cons];exact List.mem_cons_of_mem _ i1
   ·rw [List.map_cons] at h⊢;rcases List.mem_cons.mp h with e | e
    ·exact List.mem_cons.mpr (.inl e)
    ·exact List.mem_cons_of_mem _ (i2 g e)
theorem wal(f:Str)(v:V):∀fs:List (Str×V),(uc f v fs).length≤fs.length+1
 | []=>by simp [uc]
 | (k,x)::r=>by
  have ih:=wal f v r;rw [show uc f v ((k,x)::r)=(if k=f then (k,v)::r else (k,x)::uc f v r) from rfl];by_cases hk:k=f
  ·rw [if_pos hk,List.length_cons,List.length_cons];omega
  ·rw [if_neg hk,List.length_cons,List.length_cons];omega
theorem je.some_of{v:V}{o:Option Value}(r:je (some v) o):∃u,o=some u∧RelV v u:=by
 cases o with
 | none=>exact (show False from r).elim
 | some u=>exact ⟨u,rfl,r⟩
theorem je.none_of{o:Option Value}(r:je none o):o=none:=by
 cases o with
 | none=>rfl
 | some u=>exact (show False from r).elim
theorem YaX{v:V}{u:Value}(r:RelV v u):PySem.W.handedIn u=true:=by
 cases v with
 | non=>cases (show u=Value.none from r);rfl
 | bl b=>cases (show u=Value.bool b from r);rfl
 | int i=>obtain ⟨t,e⟩:=(show∃t,u=Value.int i t from r);cases e;rfl
 | str x=>obtain ⟨t,e⟩:=(show∃t,u=Value.str x t from r);cases e;rfl
 | byt b=>obtain ⟨t,e⟩:=(show∃t,u=Value.bytes b t from r);cases e;rfl
 | flt b=>obtain ⟨t,e⟩:=(show∃t,u=Value.float b t from r);cases e;rfl
 | ref a=>cases (show u=Value.ref a from r);rfl
 | ty n=>cases (show u=Value.type n from r);rfl
section
variable{P:Program}{w:World}{H H':Hp}{h h':Heap}{a C dx:Addr}{fs fs':List (Str×V)}
theorem Xan(Xd:jG P w H h)(e:H a=some (.ins C dx fs)):∃mA,JaD h a dx C mA∧(∀f,je (fs.lookup f) (mA f))∧PySem.Within mA (fs.map (·.1))∧fs.length≤1000∧H dx=some (.own a):=by
 obtain ⟨d,z,ne,ob,mA,n,r,q⟩:=(show Kh P w H h a (.ins C dx fs) from Xd a _ e);exact ⟨mA,⟨ob,n,ne⟩,r,q,z,d⟩
end
structure Y9(K:PySem.W.Frag)(C:Addr):Prop where
 pg:PySem.W.plainGet K C Str.empty=true
 hd:PySem.W.hasDictIn K C=true
 po:PySem.W.plainOver K C=true
 sa:PySem.W.findIn K (.ref C) "__setattr__"=some (some (.builtin "object.__setattr__"))
theorem Y9.get{K:PySem.W.Frag}{C:Addr}(c:Y9 K C)(f:Str):PySem.W.plainGet K C f=true:=c.pg
def qc(K:PySem.W.Frag)(C:Addr)(f:Str):Prop:=PySem.W.findIn K (.ref C) f=some none
theorem qc.ubn{K:PySem.W.Frag}{C:Addr}{f:Str}(n:qc K C f):PySem.W.takerIn K C f=some none:=by
 unfold PySem.W.takerIn;rw [show PySem.W.findIn K (.ref C) f=some none from n];rfl
structure Meth(K:PySem.W.Frag)(C:Addr)(m:Str)(f:Addr):Prop where
 at_:PySem.W.findIn K (.ref C) m=some (some (.ref f))
 fn:PySem.W.isFn K (.ref f)=true
 kp:PySem.W.keepIn K (.ref f)=true
section
variable{X:Cx}{pins:List (Addr×Obj)}{σ:St}{H:Hp}{s:Shared}{a C dx:Addr}{fs:List (Str×V)}{f:Str}{v:V}{A:Around}{E:Value→Shared→Prop}
theorem xat{b:Bool}{Q:Value→Shared→Prop}(I:Inv X pins σ H s)(e:H a=some (.ins C dx fs))(c:Y9 X.K C)(n:qc X.K C f)(l:fs.lookup f=some v)
  (h:∀u s',Inv X pins σ H s'→RelV v u→Q u s'):wpAny (model X.prog X.w) A (getAttr (.ref a) f b) Q E s:=by
 obtain ⟨mA,O,r,_,_,_⟩:=Xan I.Xd e;obtain ⟨u,hu,ru⟩:=je.some_of (v:=v) (o:=mA f) (by rw [←l];exact r f);exact get_map I.kIn O (c.get f) c.hd n hu (YaX ru) (h u _ (I.tok _) ru)
theorem qab{m:Str}{g:Addr}{pl:Sem Bool}{Q:Value×List Value→Shared→Prop}(I:Inv X pins σ H s)(e:H a=some (.ins C dx fs))(c:Y9 X.K C)(k:Meth X.K C m g)(l:fs.lookup m=none)
  (h:Q (.ref g, [.ref a]) s):wpAny (model X.prog X.w) A (getMethod (.ref a) m pl) Q E s:=by
 obtain ⟨mA,O,r,_,_,_⟩:=Xan I.Xd e;have hn:mA m=none:=je.none_of (by rw [←l];exact r m);exact Wa5 I.kIn O (c.get m) k.at_ k.fn hn h
theorem Zau{y:V}{u:Value}{Q:Unit→Shared→Prop}(I:Inv X pins σ H s)(e:H a=some (.ins C dx fs))(c:Y9 X.K C)(n:qc X.K C f)(hl:fs.length<1000)(ry:RelV y u)
  (h:∀s',Inv X pins σ (upd H a (.ins C dx (uc f y fs))) s'→Q () s'):wpAny (model X.prog X.w) A (setAttr (.ref a) f u) Q E s:=by
 obtain ⟨mA,O,r,wi,_,ho⟩:=Xan I.Xd e;have hz:(fs.map (·.1)).length≤sizeLine:=by rw [List.length_map,sizeLine_eq];omega
 refine ja9 I.kIn O c.sa c.po n.ubn c.hd wi hz fun h' O' sb=>h _ ?_;have hd:∃o,h'.get? dx=some o:=let ⟨o,_,_,e',_⟩:=O'.ns;⟨o,e'⟩
 refine I.write (x:=a) (e:=dx) (by rw [e];exact True.intro) (.inr ho) (fun b q hb z=>(sb.2 b hb).trans z) hd ?_;refine ⟨by rw [Va O.ne];exact ho,?_,O.ne,O'.obj,_,O'.ns,fun g=>?_,fun g hg=>?_⟩
 ·have:=wal f y fs;omega
 ·show je ((uc f y fs).lookup g) (if g=f then some u else mA g);rw [wam];by_cases q:g=f
  ·rw [if_pos q,if_pos q];exact ry
  ·rw [if_neg q,if_neg q];exact r g
 ·by_cases q:g=f
  ·rw [q];exact (kaj f y fs).1
  ·refine (kaj f y fs).2 g (wi g fun z=>hg ?_);show (if g=f then some u else mA g)=none;rw [if_neg q];exact z
theorem Inv.made(I:Inv X pins σ H s):Inv X pins σ (upd (upd H s.heap.objs.size (.own (s.heap.objs.size+1))) (s.heap.objs.size+1) (.ins C s.heap.objs.size []))
  {s with heap:=(s.heap.push PySem.W.emptyDict).push (PySem.W.instObj C s.heap.objs.size)}:=by
 have e1:(s.heap.push PySem.W.emptyDict).get? s.heap.objs.size=some PySem.W.emptyDict:=Heap.get?_push_size s.heap rfl;have e2:((s.heap.push PySem.W.emptyDict).push (PySem.W.instObj C s.heap.objs.size)).get? (s.heap.objs.size+1)=some (PySem.W.instObj C s.heap.objs.size):=by
  have:=Heap.get?_push_size (s.heap.push PySem.W.emptyDict) (o:=PySem.W.instObj C s.heap.objs.size) rfl
  rwa [Heap.size_push] at this
 have e3:(s.heap.push PySem.W.emptyDict).Ns s.heap.objs.size (fun _=>none):=⟨PySem.W.emptyDict, #[],_,e1,rfl,(fun e he=>absurd he (by simp)),fun _=>rfl⟩;have I1:=I.laid (a:=s.heap.objs.size) (o:= .own (s.heap.objs.size+1)) (h':=s.heap.push PySem.W.emptyDict) (t':=s.toks) (fun b u q=>Heap.get?_push_of_some _ q) (Nat.le_refl _) ⟨_,e1⟩;refine I1.laid (a:=s.heap.objs.size+1) (o:= .ins C s.heap.objs.size []) (t':=s.toks) (fun b u q=>Heap.get?_push_of_some _ q) (Nat.le_of_eq (Heap.size_push _ _)) ?_;have ne:s.heap.objs.size≠s.heap.objs.size+1:=Nat.ne_of_lt (Nat.lt_succ_self _);refine ⟨by rw [Va ne,Ya],Nat.zero_le _,ne,e2,fun _=>none,(Heap.Ns1.of_empty e3).at fun o q=>Heap.get?_push_of_some _ q,fun _=>True.intro,fun y hy=>absurd rfl hy⟩
theorem WaU{prog:Program}{w:World}{env:Env}{e:Expr}{f:Str}{pos:Pos}{s:Shared}{Q:Value→Shared→Prop}(hb:attributeBase e f env (eval e env)=eval e env)
  (h:wpAny (model prog w) A (eval e env) (fun o s₁=>wpAny (model prog w) A (getAttr o f true) Q E s₁) E s):wpAny (model prog w) A (eval (.Attribute e f pos) env) Q E s:=
 Attribute_any_ h (by rw [arm_eval_Attribute,hb])
end
def Z8(K:PySem.W.Frag)(ta:TE)(f:Str):TE:=fun σ H Q=>ta σ H fun x H1=>∃a C dx fs v,x= .ref a∧H1 a=some (.ins C dx fs)∧Y9 K C∧qc K C f∧fs.lookup f=some v∧Q v H1
def jbq(K:PySem.W.Frag)(ta tv:TE)(f:Str):TS:=fun D σ H=>tv σ H fun y H1=>ta σ H1 fun x H2=>∃a C dx fs,x= .ref a∧H2 a=some (.ins C dx fs)∧Y9 K C∧qc K C f∧fs.length<1000∧
 D.nx σ (upd H2 a (.ins C dx (uc f y fs)))
def Ubk(X:Cx)(op:Operator)(rd:V→V→Hp→VK→Prop):Prop:=
 ∀(pins:List (Addr×Obj)) (s:Shared) (σ:St) (H:Hp) (x y:V) (u v:Value) (Q:VK),Inv X pins σ H s→RelV x u→RelV y v→rd x y H Q→wpAny (model X.prog X.w) X.A (inplaceOp op u v) (EP X pins σ Q) X.xe s
def Ya8(K:PySem.W.Frag)(ta tv:TE)(rd:V→V→Hp→VK→Prop)(f:Str):TS:=fun D σ H=>ta σ H fun x H1=>∃a C dx fs v,x= .ref a∧H1 a=some (.ins C dx fs)∧Y9 K C∧qc K C f∧fs.lookup f=some v∧
 tv σ H1 fun y H2=>rd v y H2 fun z H3=>∃dx' fs',H3 a=some (.ins C dx' fs')∧fs'.length<1000∧D.nx σ (upd H3 a (.ins C dx' (uc f z fs')))
section
variable{X:Cx}{o e value:Expr}{f:Str}{pos pos' tpos:Pos}{ta tv:TE}
theorem ya(he:PE X e ta)(hb:attributeBase e f X.env (eval e X.env)=eval e X.env):PE X (.Attribute e f pos) (Z8 X.K ta f):=by
 intro pins s σ H Q I h;refine WaU hb (zg (he pins s σ H _ I h) fun u s1 ⟨x,H1,I1,rx,a,C,dx,fs,v,ex,ea,c,n,l,q⟩=>?_);subst ex;obtain rfl:u=Value.ref a:=rx;exact xat I1 ea c n l fun u' s2 I2 ru=>⟨v,H1,I2,ru,q⟩
theorem zc(ha:PE X o ta)(hv:PE X value tv)(hs:swapsWith value (some (.Attribute o f pos')) pos.line X.env=pure false):PS X (.Assign [.Attribute o f pos'] value pos) (jbq X.K ta tv f):=by
 intro pins s σ H D I h;refine plainObj_wpAny_Assign_Attribute (zg (hv pins s σ H _ I h) fun u s1 ⟨y,H1,I1,ry,q⟩=>zg (ha pins s1 σ H1 _ I1 q) fun ov s2 ⟨x,H2,I2,rx,a,C,dx,fs,ex,ea,c,n,l,q2⟩=>?_) hs;subst ex;obtain rfl:ov=Value.ref a:=rx;exact Zau I2 ea c n l ry fun s3 I3=>⟨σ,_,I3,q2⟩
theorem k7{op:Operator}{rd:V→V→Hp→VK→Prop}(ha:PE X o ta)(hv:PE X value tv)(hop:Ubk X op rd):PS X (.AugAssign (.Attribute o f tpos) op value pos) (Ya8 X.K ta tv rd f):=by
 intro pins s σ H D I h;refine wpAny_AugAssign_AttributeAny (zg (ha pins s σ H _ I h) fun ov s1 ⟨x,H1,I1,rx,a,C,dx,fs,v,ex,ea,c,n,l,q⟩=>?_);subst ex;obtain rfl:ov=Value.ref a:=rx;refine xat I1 ea c n l fun u s2 I2 ru=>zg (hv pins s2 σ H1 _ I2 q) fun w3 s3 ⟨y,H2,I3,ry,q3⟩=>zg (hop pins s3 σ H2 v y u w3 _ I3 ru ry q3) fun w4 s4 ⟨z,H3,I4,rz,dx',fs',ea',l',q4⟩=>?_;exact Zau I4 ea' c n l' rz fun s5 I5=>⟨σ,_,I5,q4⟩
def vbq:V→V→Hp→VK→Prop:=fun x y H Q=>∃i j,x= .int i∧y= .int j∧Q (.int (i+j)) H
theorem jaA:Ubk X .Add vbq:=by
 rintro pins s σ H x y u v Q I rx ry ⟨i,j,rfl,rfl,q⟩
 obtain ⟨t,rfl⟩:=(show∃t,u=Value.int i t from rx);obtain ⟨t',rfl⟩:=(show∃t',v=Value.int j t' from ry);exact PyProof.Rows.iadd_int ⟨.int (i+j),H,I.tok _,⟨_,rfl⟩,q⟩
theorem Xbd{pl:Sem Bool}{m:Str}{apos:Pos}{args:List Expr}{pins:List (Addr×Obj)}{s:Shared}{σ:St}{H:Hp}{Q:Value→Shared→Prop}{te:TE}(he:PE X e te)(I:Inv X pins σ H s)
  (h:te σ H fun x H1=>∃a C dx fs g,x= .ref a∧H1 a=some (.ins C dx fs)∧Y9 X.K C∧Meth X.K C m g∧fs.lookup m=none∧
   ∀s1,Inv X pins σ H1 s1→wpAny (model X.prog X.w) X.A (callWith pos (.ref g) [.ref a] (backTo pos (starEach args X.env)) (backToKw pos (keywordEach [] X.env))) Q X.xe s1)
  (ht:eval (.Call (.Attribute e m apos) args [] pos) X.env=(do
   let ov←eval e X.env
   standAt apos.atName
   let (f,first)←holding [ov] (getMethod ov m pl)
   callWith pos f first (backTo pos (starEach args X.env)) (backToKw pos (keywordEach [] X.env)))):
  wpAny (model X.prog X.w) X.A (eval (.Call (.Attribute e m apos) args [] pos) X.env) Q X.xe s:=by
 refine PySem.W.methodCall_KW (pl:=pl) (zg (he pins s σ H _ I h) fun u s1 ⟨x,H1,I1,rx,a,C,dx,fs,g,ex,ea,c,k,l,q⟩=>?_) ht;subst ex;obtain rfl:u=Value.ref a:=rx;exact qab I1 ea c k l (q s1 I1)
end
end L2
namespace L2
open PySem PySem.Spec PyProof.Rows
structure jo(k:Nat)(A:Around):Prop where
 hd:A.handled=none
 dp:A.depth+3*k+5<recursionLimit
 un:A.units+16*k+200<cLine
theorem jo.mono{j k:Nat}{A:Around}(r:jo k A)(h:j≤k):jo j A:=⟨r.hd,by have:=r.dp;omega,by have:=r.un;omega⟩
theorem jo.deeper{k:Nat}{A:Around}(r:jo (k+1) A)(env:Env):jo k (A.deeper env):=
 ⟨r.hd,by have:=r.dp;show A.depth+1+3*k+5<_;omega,by have:=r.un;show A.units+3+16*k+200<_;omega⟩
theorem qaS{A:Around}{C:Addr}{us:List Value}{kw:List (Str×Value)}:(A.under (.builtin "type.__call__" ⟨.ref C::us,kw⟩)).depth=A.depth+1:=by
 first | rfl | simp [Around.under,Code.weight,Code.isCreation,Code.isGuard,Code.isCaller,Code.frames,Code.isFrame,guardIds]
theorem waQ{A:Around}{C:Addr}{us:List Value}{kw:List (Str×Value)}:(A.under (.builtin "type.__call__" ⟨.ref C::us,kw⟩)).units=A.units+1:=by
 first | rfl | simp [Around.under,Code.cUnits,Code.frames,Code.isFrame]
theorem jo.make{k:Nat}{A:Around}(r:jo (k+1) A)(C:Addr)(us:List Value)(kw:List (Str×Value)):jo k (A.under (.builtin "type.__call__" ⟨.ref C::us,kw⟩)):=
 ⟨r.hd,by have:=r.dp;rw [qaS];omega,by have:=r.un;rw [waQ];omega⟩
theorem jo.depth{k:Nat}{A:Around}(r:jo k A):A.depth<recursionLimit:=by have:=r.dp;omega
theorem jo.units{k:Nat}{A:Around}(r:jo k A):A.units+64<cLine:=by have:=r.un;omega
def vae:TA:=fun _ H Q=>Q [] H
def Xam(ta:TE)(tr:TA):TA:=fun σ H Q=>ta σ H fun x H1=>tr σ H1 fun xs H2=>Q (x::xs) H2
section
variable{X:Cx}{e:Expr}{es:List Expr}{te:TE}{t:TA}{pos:Pos}
theorem Qa:PA X [] vae:=fun _ _ _ _ H Q I h=>Calls.spliced_nil ⟨[],H,I, .nil,h⟩
theorem za(ha:PE X e te)(hr:PA X es t)(hs:starEach (e::es) X.env=(false,eval e X.env)::starEach es X.env:=by rfl):PA X (e::es) (Xam te t):=by
 intro pos pins s σ H Q I h;rw [hs];show wpAny _ _ (spliced ((false,eval e X.env)::backTo pos (starEach es X.env))) _ _ s;refine Calls.spliced_cons (zg (ha pins s σ H _ I h) fun u s1 ⟨x,H1,I1,r1,q1⟩=>?_);exact zg (hr pos pins s1 σ H1 _ I1 q1) fun us s2 ⟨xs,H2,I2,r2,q2⟩=>⟨x::xs,H2,I2, .cons r1 r2,q2⟩
def vbs(t:TA):TE:=fun σ H Q=>t σ H fun xs H1=>xs.length≤sizeLine∧∀p,H1 p=none→Q (.ref p) (upd H1 p (.tup xs))
def ybr(t:TA):TE:=fun σ H Q=>t σ H fun xs H1=>xs.length≤sizeLine∧∀p,H1 p=none→Q (.ref p) (upd H1 p (.lst xs))
theorem jH{x1}(h:PA X es t):PE X (.Tuple es x1 pos) (vbs t):=by
 intro pins s σ H Q I hq;refine wpAny_Tuple_spliced (zg (h pos pins s σ H _ I hq) fun us s1 ⟨xs,H1,I1,r,z,q⟩=>⟨by rw [←r.length];exact z,?_⟩);have hf:H1 s1.heap.objs.size=none:=I1.Xd.fresh (Nat.le_refl _);refine ⟨.ref s1.heap.objs.size,upd H1 s1.heap.objs.size (.tup xs),I1.laid (t':=s1.toks) (fun b u e=>Heap.get?_push_of_some _ e) (Nat.le_refl _) ?_,rfl,q _ hf⟩;exact ⟨z,us,r,⟨_,Heap.get?_push_size _ rfl,rfl,_,rfl⟩⟩
theorem Qc(h:PA X es t):PE X (.List es pos) (ybr t):=by
 intro pins s σ H Q I hq;refine wpAny_List_spliced (zg (h pos pins s σ H _ I hq) fun us s1 ⟨xs,H1,I1,r,z,q⟩=>⟨by rw [←r.length];exact z,?_⟩);have hf:H1 s1.heap.objs.size=none:=I1.Xd.fresh (Nat.le_refl _);refine ⟨.ref s1.heap.objs.size,upd H1 s1.heap.objs.size (.lst xs),I1.laid (t':=s1.toks) (fun b u e=>Heap.get?_push_of_some _ e) (Nat.le_refl _) ?_,rfl,q _ hf⟩;exact ⟨z,us,0,r,Heap.get?_push_size _ rfl⟩
end
abbrev Sp:=List V→Hp→VK→XK→Prop
abbrev CXT:=List Env→Hp→Shared→XK→Value→Shared→Prop
structure QaJ(P:Program)(w:World)(K:PySem.W.Frag)(mg:Str→Option Value)(base:Heap)(A:Around)(outer:List Env)(s:Shared)(H:Hp):Prop where
 frames:A.frames=some outer
 mod:Mod K mg base
 bs:∀b o,base.get? b=some o→s.heap.get? b=some o∧H b=none
 bsz:base.objs.size≤s.heap.objs.size
 Wad:s.heap.FunFrames base outer
 frf:∀b∈frs outer,H b=none
 Xd:jG P w H s.heap
 bare:AllBare s.gens
def CE(outer:List Env)(P:Program)(w:World)(H:Hp)(s:Shared)(Q:VK)(u:Value)(s':Shared):Prop:=
 ∃v H',s'.os=s.os∧AllBare s'.gens∧Un (frs outer) [] H H' s.heap s'.heap∧jG P w H' s'.heap∧RelV v u∧Q v H'
def CR(CX:CXT)(outer:List Env)(P:Program)(w:World)(H:Hp)(s:Shared)(Q:VK)(E:XK)(r:Result)(s':Shared):Prop:=
 match r with
 | .ok (.ret u)=>CE outer P w H s Q u s'
 | .ok _=>False
 | .error e=>CX outer H s E e s'
structure wb(P:Program)(w:World)(K:PySem.W.Frag)(mg:Str→Option Value)(base:Heap)(CX:CXT)(k:Nat)(f:Addr)(fd:FuncData)(ps:List Str)(sp:Sp):Prop where
 len:∀vs H Q E,sp vs H Q E→vs.length=ps.length
 run:∀(A:Around) (outer:List Env) (s:Shared) (H:Hp) (args:Args) (us:List Value) (vs:List V) (Q:VK) (E:XK),jo k A→QaJ P w K mg base A outer s H→BindsTo s fd args (ps.zip us)→Vals vs us→sp vs H Q E→
  codeAny (model P w) A (.call (.ref f) args) (CR CX outer P w H s Q E) s
theorem QaJ.make{P:Program}{w:World}{K:PySem.W.Frag}{mg:Str→Option Value}{base:Heap}{A:Around}{outer:List Env}{s:Shared}{H:Hp}(e:QaJ P w K mg base A outer s H)(C:Addr)(us:List Value)(kw:List (Str×Value)):
  QaJ P w K mg base (A.under (.builtin "type.__call__" ⟨.ref C::us,kw⟩)) outer s H:=⟨by first | exact e.frames | (simpa [Around.under,Code.envs,Code.isFrame,pushEnvs] using e.frames),e.mod,e.bs,e.bsz,e.Wad,e.frf,e.Xd,e.bare⟩
section
variable{X:Cx}{pins:List (Addr×Obj)}{σ:St}{H:Hp}{s s':Shared}
theorem Inv.Ubj(I:Inv X pins σ H s):QaJ X.prog X.w X.K X.mg X.base X.A X.stack s H:=
 ⟨I.ok.frames,I.ok.mod,I.bs,Nat.le_trans I.ok.bsz I.sz,I.stack,I.JaT,I.Xd,I.bare⟩
theorem Inv.after{Q:VK}{u:Value}(I:Inv X pins σ H s)(h:CE X.stack X.prog X.w H s Q u s'):EP X pins σ Q u s':=by
 obtain ⟨v,H',os,bare,un,Xd,r,q⟩:=h;obtain ⟨hh,g,d,t,os'⟩:=s';obtain rfl:os'=s.os:=os;exact ⟨v,H',I.call (h':=hh) (g':=g) (d':=d) (t':=t) (ch:= []) un Xd bare (fun b z=>absurd z (by simp)),r,q⟩
end
def uaP(sp:Sp)(v9:List V)(E:XK)(t:TA):TE:=fun σ H Q=>t σ H fun vs H1=>sp (vs++v9) H1 Q E
def Qax(C:Addr)(m:Str)(sp:Sp)(v9:List V)(E:XK)(ta:TE)(t:TA):TE:=fun σ H Q=>ta σ H fun x H1=>∃a dx fs,x= .ref a∧H1 a=some (.ins C dx fs)∧fs.lookup m=none∧
 t σ H1 fun vs H2=>sp (x::(vs++v9)) H2 Q E
def Va0(C:Addr)(sp:Sp)(v9:List V)(E:XK)(t:TA):TE:=fun σ H Q=>t σ H fun vs H1=>∀x dx,H1 x=none→H1 dx=none→dx≠x→
 sp (.ref x::(vs++v9)) (upd (upd H1 dx (.own x)) x (.ins C dx [])) (fun v H2=>v= .non∧Q (.ref x) H2) E
def Binds(K:PySem.W.Frag)(fd:FuncData)(ps:List Str)(ds:List Value):Prop:=
 ∀(s:Shared) (us:List Value),K.In s.heap→(us++ds).length=ps.length→BindsTo s fd ⟨us, []⟩ (ps.zip (us++ds))
theorem Binds.all{K:PySem.W.Frag}{fd:FuncData}{ps:List Str}(h:∀us:List Value,us.length=ps.length→bindArgs fd ⟨us, []⟩=pure (ps.zip us)):Binds K fd ps []:=fun s us _ hl=>by
 rw [List.append_nil] at hl⊢;exact .of_eq (h us hl)
def Passes(CX:CXT)(X:Cx)(E:XK):Prop:=∀(pins:List (Addr×Obj)) (σ:St) (H:Hp) (s:Shared) (e:Value) (s':Shared),Inv X pins σ H s→CX X.stack H s E e s'→X.xe e s'
section
variable{X:Cx}{CX:CXT}{k:Nat}{f C:Addr}{fd:FuncData}{ps:List Str}{sp:Sp}{v9:List V}{ds:List Value}{E:XK}{x m:Str}{p pos apos:Pos}{e o:Expr}{es:List Expr}{ta:TE}{t:TA}
theorem yaO{pins:List (Addr×Obj)}{σ:St}{H:Hp}{s:Shared}{Q:VK}{us:List Value}{vs:List V}(F:wb X.prog X.w X.K X.mg X.base CX k f fd ps sp)(hr:jo k X.A)(hb:Binds X.K fd ps ds)(hd:Vals v9 ds)(hx:Passes CX X E)
  (I:Inv X pins σ H s) (r:Vals vs us) (h:sp (vs++v9) H Q E):wpAny (model X.prog X.w) X.A (call (.ref f) us) (EP X pins σ Q) X.xe s:=by
 have r2:Vals (vs++v9) (us++ds):=r.append hd;have hl:(us++ds).length=ps.length:=by rw [←r2.length];exact F.len _ _ _ _ h
 refine wpAny_call (codeAny_mono (F.run X.A X.stack s H ⟨us, []⟩ (us++ds) (vs++v9) Q E hr I.Ubj (hb s us I.kIn hl) r2 h) fun r s' hq=>?_);cases r with
 | error e=>exact hx pins σ H s e s' I hq
 | ok fl=>
  cases fl with
  | ret u=>exact I.after hq
  | next=>exact False.elim hq
  | brk=>exact False.elim hq
  | cont=>exact False.elim hq
theorem ja(F:wb X.prog X.w X.K X.mg X.base CX k f fd ps sp)(hr:jo k X.A)(hg:Gl X x)(hm:X.mg x=some (.ref f))(hk:PySem.W.keepIn X.K (.ref f)=true)(hb:Binds X.K fd ps ds)(hd:Vals v9 ds)(hx:Passes CX X E)
  (ha:PA X (e::es) t) (hdb:(x==("__debug__":Str))=false:=by decide) (he:starEach (e::es) X.env=(false,eval e X.env)::starEach es X.env:=by rfl) (hpl:(backTo pos (starEach es X.env)).any (·.1)=false:=by rfl):
  PE X (.Call (.Name x p) (e::es) [] pos) (uaP sp v9 E t):=by
 intro pins s σ H Q I h;refine wpAny_Call_Name_kw (Van I hg hm ?_ hdb);refine PySem.W.callWith_K (h₀:=X.base) I.ok.mod.kin hk (zg (ha pos pins s σ H _ I h) fun us s1 ⟨vs,H1,I1,r,q⟩=>⟨I1.kIn,?_⟩) he hpl;exact yaO F hr hb hd hx I1 r q
theorem Yc{pl:Sem Bool}(he:PE X o ta)(c:Y9 X.K C)(hm:Meth X.K C m f)(F:wb X.prog X.w X.K X.mg X.base CX k f fd ps sp)(hr:jo k X.A)(hb:Binds X.K fd ps ds)(hd:Vals v9 ds)(hx:Passes CX X E)(ha:PA X (e::es) t)
  (hst:starEach (e::es) X.env=(false,eval e X.env)::starEach es X.env:=by rfl) (hpl:(backTo pos (starEach es X.env)).any (·.1)=false:=by rfl)
  (ht:eval (.Call (.Attribute o m apos) (e::es) [] pos) X.env=(do
   let ov←eval o X.env
   standAt apos.atName
   let (f,first)←holding [ov] (getMethod ov m pl)
   callWith pos f first (backTo pos (starEach (e::es) X.env)) (backToKw pos (keywordEach [] X.env))):=by rfl):
  PE X (.Call (.Attribute o m apos) (e::es) [] pos) (Qax C m sp v9 E ta t):=by
 intro pins s σ H Q I h;refine PySem.W.methodCall_KW (pl:=pl) (zg (he pins s σ H _ I h) fun u s1 ⟨x,H1,I1,rx,a,dx,fs,ex,ea,l,q⟩=>?_) ht;subst ex;obtain rfl:u=Value.ref a:=rx;refine qab I1 ea c hm l ?_;refine PySem.W.callWith_K (first:= [.ref a]) (h₀:=X.base) I.ok.mod.kin hm.kp (zg (ha pos pins s1 σ H1 _ I1 q) fun us s2 ⟨vs,H2,I2,r,q2⟩=>⟨I2.kIn,?_⟩) hst hpl;exact yaO (us:= .ref a::us) (vs:= .ref a::vs) F hr hb hd hx I2 (.cons rfl r) q2
theorem qf{pl:Sem Bool}(he:PE X o ta)(c:Y9 X.K C)(hm:Meth X.K C m f)(F:wb X.prog X.w X.K X.mg X.base CX k f fd ps sp)(hr:jo k X.A)(hb:Binds X.K fd ps ds)(hd:Vals v9 ds)(hx:Passes CX X E)
  (ht:eval (.Call (.Attribute o m apos) [] [] pos) X.env=(do
   let ov←eval o X.env
   standAt apos.atName
   let (f,first)←holding [ov] (getMethod ov m pl)
   callWith pos f first (backTo pos (starEach [] X.env)) (backToKw pos (keywordEach [] X.env))):=by rfl):
  PE X (.Call (.Attribute o m apos) [] [] pos) (Qax C m sp v9 E ta vae):=by
 intro pins s σ H Q I h;refine PySem.W.methodCall_KW (pl:=pl) (zg (he pins s σ H _ I h) fun u s1 ⟨x,H1,I1,rx,a,dx,fs,ex,ea,l,q⟩=>?_) ht;subst ex;obtain rfl:u=Value.ref a:=rx;refine qab I1 ea c hm l ?_;exact PySem.W.callWith_K0 (first:= [.ref a]) I1.kIn hm.kp (yaO (us:= [.ref a]) (vs:= [.ref a]) F hr hb hd hx I1 (.cons rfl .nil) q)
structure Mk(K:PySem.W.Frag)(C f:Addr):Prop where
 makes:PySem.W.makesIn K C=true
 init:PySem.W.findIn K (.ref C) "__init__"=some (some (.ref f))
 fn:PySem.W.isFn K (.ref f)=true
 kp:PySem.W.keepIn K (.ref C)=true
theorem xaJ{pins:List (Addr×Obj)}{σ:St}{H:Hp}{s:Shared}{Q:VK}{us:List Value}{vs:List V}(M:Mk X.K C f)(F:wb X.prog X.w X.K X.mg X.base CX k f fd ps sp)(hr:jo (k+1) X.A)(hb:Binds X.K fd ps ds)(hd:Vals v9 ds)
  (hx:Passes CX X E) (I:Inv X pins σ H s) (r:Vals vs us)
  (h:∀x dx,H x=none→H dx=none→dx≠x→sp (.ref x::(vs++v9)) (upd (upd H dx (.own x)) x (.ins C dx [])) (fun v H2=>v= .non∧Q (.ref x) H2) E):
  wpAny (model X.prog X.w) X.A (call (.ref C) us) (EP X pins σ Q) X.xe s:=by
 have hq:=h (s.heap.objs.size+1) s.heap.objs.size (I.Xd.fresh (Nat.le_succ _)) (I.Xd.fresh (Nat.le_refl _)) (Nat.ne_of_lt (Nat.lt_succ_self _));have I2:=Inv.made (C:=C) I;have r2:Vals (V.ref (s.heap.objs.size+1)::(vs++v9)) (Value.ref (s.heap.objs.size+1)::(us++ds)):= .cons rfl (r.append hd);have hl:(Value.ref (s.heap.objs.size+1)::us++ds).length=ps.length:=by
  have e:=r2.length;rw [F.len _ _ _ _ hq] at e;exact e.symm
 refine wpAny_call (Ja4 (f:=f) I.kIn M.makes M.init (beq_iff_eq.mp M.fn) (codeAny_mono (F.run _ X.stack _ _ ⟨Value.ref (s.heap.objs.size+1)::us, []⟩ (Value.ref (s.heap.objs.size+1)::(us++ds)) _ _ E (hr.make C us [])
  (I2.Ubj.make C us []) (hb _ (Value.ref (s.heap.objs.size+1)::us) I2.kIn hl) r2 hq) fun r s' hq'=>?_))
 cases r with
 | error e=>exact hx pins σ _ _ e s' I2 hq'
 | ok fl=>
  cases fl with
  | ret u=>
   obtain ⟨v,H',I3,rv,ev,q3⟩:=I2.after hq';subst ev;exact ⟨rv,⟨V.ref (s.heap.objs.size+1),H',I3,rfl,q3⟩⟩
  | next=>exact False.elim hq'
  | brk=>exact False.elim hq'
  | cont=>exact False.elim hq'
theorem qr(M:Mk X.K C f)(F:wb X.prog X.w X.K X.mg X.base CX k f fd ps sp)(hr:jo (k+1) X.A)(hg:Gl X x)(hm:X.mg x=some (.ref C))(hb:Binds X.K fd ps ds)(hd:Vals v9 ds)(hx:Passes CX X E)
  (ha:PA X (e::es) t) (hdb:(x==("__debug__":Str))=false:=by decide) (he:starEach (e::es) X.env=(false,eval e X.env)::starEach es X.env:=by rfl) (hpl:(backTo pos (starEach es X.env)).any (·.1)=false:=by rfl):
  PE X (.Call (.Name x p) (e::es) [] pos) (Va0 C sp v9 E t):=by
 intro pins s σ H Q I h;refine wpAny_Call_Name_kw (Van I hg hm ?_ hdb);refine PySem.W.callWith_K (h₀:=X.base) I.ok.mod.kin M.kp (zg (ha pos pins s σ H _ I h) fun us s1 ⟨vs,H1,I1,r,q⟩=>⟨I1.kIn,?_⟩) he hpl;exact xaJ M F hr hb hd hx I1 r q
theorem YaK(M:Mk X.K C f)(F:wb X.prog X.w X.K X.mg X.base CX k f fd ps sp)(hr:jo (k+1) X.A)(hg:Gl X x)(hm:X.mg x=some (.ref C))(hb:Binds X.K fd ps ds)(hd:Vals v9 ds)(hx:Passes CX X E)
  (hdb:(x==("__debug__":Str))=false:=by decide):PE X (.Call (.Name x p) [] [] pos) (Va0 C sp v9 E vae):=by
 intro pins s σ H Q I h;refine wpAny_Call_Name_kw (Van I hg hm ?_ hdb);exact PySem.W.callWith_K0 I.kIn M.kp (xaJ (us:= []) M F hr hb hd hx I .nil h)
end
structure Wa(N P:List Str)(sc:Scope):Prop where
 kind:sc.kind= .function
 co:sc.isCoroutine=false
 gen:sc.isGenerator=false
 nd:N.Nodup
 pre:N.take P.length=P
 par:∀x∈P,sc.names.lookup x=some .local∨sc.names.lookup x=some .cell
 xbg:∀y∈sc.names,y.2≠ .free
theorem VaC{kindOf:Str→Option NameKind}{x:Str}:∀{binds:List (Str×Value)} {m:Str→Option Value},(∀v,(x,v)∉binds)→bindL kindOf binds m x=m x
 | [],_,_=>rfl
 | (n,v)::r,m,h=>by
  unfold bindL;rw [VaC fun w hw=>h w (List.mem_cons_of_mem _ hw)];split
  ·have:x≠n:=by rintro rfl;exact h v List.mem_cons_self
   simp [this]
  ·rfl
theorem waA{kindOf:Str→Option NameKind}{x:Str}:∀{binds:List (Str×Value)} {m:Str→Option Value},(∀v,(x,v)∉binds)→bindC kindOf binds m x=m x
 | [],_,_=>rfl
 | (n,v)::r,m,h=>by
  unfold bindC;rw [waA fun w hw=>h w (List.mem_cons_of_mem _ hw)];split
  ·rfl
  ·have:x≠n:=by rintro rfl;exact h v List.mem_cons_self
   simp [this]
theorem jaC{kindOf:Str→Option NameKind}{x:Str}{v:Value}:∀{P:List Str} {vs:List Value} {i:Nat} {m:Str→Option Value},P.Nodup→P[i]? =some x→vs[i]? =some v→kindOf x=some .local→
  bindL kindOf (P.zip vs) m x=some v
 | [],_,_,_,_,h,_,_=>by simp at h
 | _::_, [],_,_,_,_,h,_=>by simp at h
 | p::P,w::vs,0,m,nd,h1,h2,hk=>by
  simp at h1 h2;subst h1;subst h2
  show bindL kindOf ((p,w)::P.zip vs) m p=_;unfold bindL;rw [VaC fun v hv=>(List.nodup_cons.mp nd).1 (List.of_mem_zip hv).1,if_pos hk];simp
 | p::P,w::vs,i+1,m,nd,h1,h2,hk=>by
  show bindL kindOf ((p,w)::P.zip vs) m x=_;unfold bindL;exact jaC (i:=i) (List.nodup_cons.mp nd).2 (by simpa using h1) (by simpa using h2) hk
theorem xaB{kindOf:Str→Option NameKind}{x:Str}{v:Value}:∀{P:List Str} {vs:List Value} {i:Nat} {m:Str→Option Value},P.Nodup→P[i]? =some x→vs[i]? =some v→kindOf x≠some .local→
  bindC kindOf (P.zip vs) m x=some v
 | [],_,_,_,_,h,_,_=>by simp at h
 | _::_, [],_,_,_,_,h,_=>by simp at h
 | p::P,w::vs,0,m,nd,h1,h2,hk=>by
  simp at h1 h2;subst h1;subst h2
  show bindC kindOf ((p,w)::P.zip vs) m p=_;unfold bindC;rw [waA fun v hv=>(List.nodup_cons.mp nd).1 (List.of_mem_zip hv).1,if_neg hk];simp
 | p::P,w::vs,i+1,m,nd,h1,h2,hk=>by
  show bindC kindOf ((p,w)::P.zip vs) m x=_;unfold bindC;exact xaB (i:=i) (List.nodup_cons.mp nd).2 (by simpa using h1) (by simpa using h2) hk
def start(N:List Str)(vs:List V):St:=vs.map some++List.replicate (N.length-vs.length) none
def WaC(CX:CXT)(P:Program)(w:World)(K:PySem.W.Frag)(mg:Str→Option Value)(base:Heap)(N:List Str)(qual:Str)(scope:Scope)(f:Addr)(cd:Value)(A:Around)(outer:List Env)(s:Shared)(H:Hp)(E:XK):Cx where
 prog:=P
 w:=w
 K:=K
 mg:=mg
 base:=base
 A:=A.deeper (envOfC qual scope s.heap.objs.size f cd)
 N:=N
 s_0:=s
 H_0:=H
 env:=envOfC qual scope s.heap.objs.size f cd
 outer:=outer
 stack:=envOfC qual scope s.heap.objs.size f cd::outer
 ex:= []
 calm:=true
 fn:=fun _=>true
 pn:= []
 xe:=fun e s'=>wpAny (model P w) (A.deeper (envOfC qual scope s.heap.objs.size f cd)) (leaving (envOfC qual scope s.heap.objs.size f cd) e) (fun _ s''=>CX outer H s E e s'') (fun e' s''=>CX outer H s E e' s'') s'
theorem vaJ{sc:Scope}{n:Nat}{x:Str}(h:sc.names.lookup x=some .cell):∃c,(cellsFrom n sc.names []).lookup x=some c:=by
 have q:=PySem.W.cellsFrom_some sc.names n [] (.inl h);exact Option.isSome_iff_exists.mp q
theorem zaY{CX:CXT}{P:Program}{w:World}{K:PySem.W.Frag}{mg:Str→Option Value}{base:Heap}{N ps:List Str}{qual:Str}{scope:Scope}{f:Addr}{cd:Value}{A:Around}{outer:List Env}{s s1:Shared}{H:Hp}{E:XK}{us:List Value}{vs:List V}
  (S:Wa N ps scope) (hd:A.handled=none) (e0:QaJ P w K mg base A outer s H) (hl:vs.length=ps.length) (r:Vals vs us)
  (x:InCallC s s.heap.objs.size (bindL (envOfC qual scope s.heap.objs.size f cd).kindOf (ps.zip us) fun _=>none) (cellsFrom (s.heap.objs.size+1) scope.names []) (bindC (envOfC qual scope s.heap.objs.size f cd).kindOf (ps.zip us) fun _=>none) s1):
  Inv (WaC CX P w K mg base N qual scope f cd A outer s H E) [] (start N vs) H s1:=by
 have hpl:ps.length≤N.length:=by have:=congrArg List.length S.pre;rw [List.length_take] at this;omega
 obtain ⟨h1,tk,rfl,hk⟩:=x.done;have noA:∀b:Addr,b∉(WaC CX P w K mg base N qual scope f cd A outer s H E).ex:=fun b z=>absurd (show b∈([]:List Addr) from z) (by simp)
 refine ⟨⟨e0.mod,S.kind,rfl,rfl,Nat.le_refl _,fun y z c h1 h2=>?_,fun y hy=>?_,fun y c _ h=>?_,fun _=>hd,Around.frames_deeper e0.frames, .inr ⟨rfl,rfl⟩,fun b z=>absurd z (noA b),e0.bs,e0.bsz,fun b _ _=>noA b,fun b z=>absurd z (noA b),e0.Wad,e0.frf⟩,
  rfl,e0.bare,Un.kept hk,⟨_,x.toInCall.ns,fun i y v h1 h2 h3=>?_⟩,fun y c h=>⟨_,x.cell y c h⟩,e0.Xd.fresh (Nat.le_refl _),fun y c h=>?_,fun p hp=>absurd (show p∈([]:List (Addr×Obj)) from hp) (by simp),e0.Xd.kept hk,?_⟩
 ·exact name_of_addr x.apart (PySem.mem_of_lookup h1) (PySem.mem_of_lookup h2)
 ·have hy:scope.names.lookup y=some .cell∨scope.names.lookup y=some .free:=hy;rcases hy with hy | hy
  ·exact vaJ hy
  ·exact absurd rfl (S.xbg _ (PySem.mem_of_lookup hy))
 ·exact Nat.le_of_lt (x.above y c (PySem.mem_of_lookup h))
 ·have hi:i<vs.length:=by
   unfold start at h2;by_cases hi:i<vs.length
   ·exact hi
   ·rw [List.getElem?_append_right (by simpa using hi)] at h2;rw [List.getElem?_replicate] at h2;split at h2<;>cases h2
  have ha:vs[i]? =some v:=by
   unfold start at h2;rw [List.getElem?_append_left (by simpa using hi),List.getElem?_map] at h2;cases e:vs[i]? with
   | none=>rw [e] at h2;cases h2
   | some a=>rw [e] at h2;cases h2;rfl
  obtain ⟨u,hu,rv⟩:=r.get ha;have hp:ps[i]? =some y:=by
   rw [←S.pre,List.getElem?_take_of_lt (by omega)];exact h1
  have ndP:ps.Nodup:=by rw [←S.pre];exact S.nd.sublist (List.take_sublist _ _)
  refine ⟨u,rv,?_⟩;rcases S.par y (List.mem_of_getElem? hp) with k | k
  ·exact .inl ⟨k,jaC ndP hp hu k⟩
  ·obtain ⟨c,e⟩:=vaJ (n:=s.heap.objs.size+1) k;refine .inr ⟨.inl k,c,e,?_⟩;have q:=x.cell y c e;rw [xaB ndP hp hu (by show scope.names.lookup y≠_;rw [k];decide)] at q;exact q
 ·exact e0.Xd.fresh (Nat.le_of_lt (x.above y c (PySem.mem_of_lookup h)))
 ·unfold start;show _=N.length;rw [List.length_append,List.length_map,List.length_replicate];omega
theorem jbc{CX:CXT}{P:Program}{w:World}{K:PySem.W.Frag}{mg:Str→Option Value}{base:Heap}{k:Nat}{f:Addr}{name qual:Str}{params:Arguments}{body:List Stmt}{scope:Scope}{dV kV doc pm uK ct oc:Value}{an od:Option Addr}
  {osl:Array (Option Value)} {N ps:List Str} {sp:Sp} (lk:K.lookup f=some ⟨oc,od, .func (PySem.W.fnOf name qual params body scope dV kV doc pm an uK ct),osl⟩) (xN:PySem.W.codeIn K uK qual=true) (S:Wa N ps scope)
  (len:∀vs H Q E,sp vs H Q E→vs.length=ps.length)
  (JaI:∀(A:Around) (outer:List Env) (s:Shared) (H:Hp) (vs:List V) (Q:VK) (E:XK),jo k (A.deeper (envOfC qual scope s.heap.objs.size f uK))→sp vs H Q E→
   ∃t,PSs (WaC CX P w K mg base N qual scope f uK A outer s H E) body t∧t {nx:=fun _ H'=>Q .non H',rt:=Q} (start N vs) H):
  wb P w K mg base CX (k+1) f (PySem.W.fnOf name qual params body scope dV kV doc pm an uK ct) ps sp:=by
 refine ⟨len,fun A outer s H args us vs Q E hr e0 hb r hsp=>?_⟩;have hl:=len _ _ _ _ hsp;have KX:K.In s.heap:=e0.mod.kin.keeps fun b o e=>(e0.bs b o e).1;have lim:s.heap.NoLimit:=e0.mod.nolimit.keeps fun b o e=>(e0.bs b o e).1;have Vbo:∀y∈ps.zip us,scope.names.lookup y.1=some .local∨(scope.names.lookup y.1=some .cell∧((cellsFrom (s.heap.objs.size+1) scope.names []).lookup y.1).isSome=true):=fun ⟨n,v⟩ hy=>by
  rcases S.par n (List.of_mem_zip hy).1 with q | q
  ·exact .inl q
  ·exact .inr ⟨q,PySem.W.cellsFrom_some _ _ _ (.inl q)⟩
 refine codeAny_call_function hr.depth (KX _ _ lk) rfl S.co S.gen rfl (PySem.W.codeRec_of KX xN) (hb _ _ _ _ ?_);refine wpAny_newFunctionEnv_cells S.kind Vbo fun env he s1 x=>?_;subst he;refine ⟨lim.keeps x.toInCall.keep,codeAny_func ?_⟩;obtain ⟨t,ht,hq⟩:=JaI A outer s H vs Q E (hr.deeper _) hsp;have I:Inv (WaC CX P w K mg base N qual scope f uK A outer s H E) [] (start N vs) H s1:=zaY S hr.hd e0 hl r x;refine wpAny_mono (ht [] s1 (start N vs) H _ I hq) (fun fl s' hs=>?_) fun e s' hs=>hs;have fin:∀{σ':St} {H':Hp} {v:V} {u:Value},Inv (WaC CX P w K mg base N qual scope f uK A outer s H E) [] σ' H' s'→RelV v u→Q v H'→CE outer P w H s Q u s':=
  fun {σ' H' v u} J rv q=>⟨v,H',J.os,J.bare,J.base,J.Xd,rv,q⟩
 cases fl with
 | ret u=>
  obtain ⟨v,σ',H',J,rv,q⟩:=hs;exact fin J rv q
 | next=>
  obtain ⟨σ',H',J,q⟩:=hs;exact fin (v:=V.non) (u:=Value.none) J rfl q
 | brk=>
  obtain ⟨_,_,_,q⟩:=hs;exact False.elim q
 | cont=>
  obtain ⟨_,_,_,q⟩:=hs;exact False.elim q
end L2
namespace L2
open PySem PySem.Spec PyProof.Rows
section
variable{X:Cx}{x:Str}{p pos:Pos}{e:Expr}{es:List Expr}{t:TA}{id T:String}{r:List V→Hp→VK→Prop}
def tCB(r:List V→Hp→VK→Prop)(t:TA):TE:=fun σ H Q=>t σ H fun vs H1=>r vs H1 Q
theorem jd(hc:vax X (.builtin id) r)(hg:Gl X x)(hm:X.mg x=none)(hv:bootBuiltins x=some (.builtin id))(ha:PA X (e::es) t)(hn:x≠"__name__":=by decide)(hdb:(x==("__debug__":Str))=false:=by decide)
  (he:starEach (e::es) X.env=(false,eval e X.env)::starEach es X.env:=by rfl) (hpl:(backTo pos (starEach es X.env)).any (·.1)=false:=by rfl):PE X (.Call (.Name x p) (e::es) [] pos) (tCB r t):=by
 intro pins s σ H Q I h;refine wpAny_Call_Name_kw (Wao I hg hm hv ?_ hn hdb);exact PyProof.Rows.callWith_builtin1 (zg (ha pos pins s σ H _ I h) fun us s1 ⟨vs,H1,I1,r1,q1⟩=>hc pins s1 σ H1 vs us Q I1 r1 q1) he hpl
theorem XJ(hc:vax X (.type T) r)(hg:Gl X x)(hm:X.mg x=none)(hv:bootBuiltins x=some (.type T))(ha:PA X (e::es) t)(hn:x≠"__name__":=by decide)(hdb:(x==("__debug__":Str))=false:=by decide)
  (he:starEach (e::es) X.env=(false,eval e X.env)::starEach es X.env:=by rfl) (hpl:(backTo pos (starEach es X.env)).any (·.1)=false:=by rfl):PE X (.Call (.Name x p) (e::es) [] pos) (tCB r t):=by
 intro pins s σ H Q I h;refine wpAny_Call_Name_kw (Wao I hg hm hv ?_ hn hdb);exact PyProof.Rows.callWith_type1 (zg (ha pos pins s σ H _ I h) fun us s1 ⟨vs,H1,I1,r1,q1⟩=>hc pins s1 σ H1 vs us Q I1 r1 q1) he hpl
end
end L2
namespace HT
open PySem PyProof.Rows
section
variable{prog:Program}{w:World}{A:Around}{E:Value→Shared→Prop}{s:Shared}
def sIx(n d:Nat):Option Int→Nat
 | none=>d
 | some v=>if v<0 then (v+(n:Int)).toNat else min v.toNat n
theorem VaU(n d k:Nat):sIx n d (some (k:Int))=min k n:=by
 show (if (k:Int)<0 then ((k:Int)+(n:Int)).toNat else min (k:Int).toNat n)=min k n;rw [if_neg (by omega),Int.toNat_natCast]
end
end HT
namespace L2
open PySem PySem.Spec PyProof.Rows
abbrev TO:=St→Hp→(Option Int→Hp→Prop)→Prop
def PO(X:Cx)(e:Option Expr)(t:TO):Prop:=
 ∀(pins:List (Addr×Obj)) (s:Shared) (σ:St) (H:Hp) (Q:Option Int→Hp→Prop),Inv X pins σ H s→t σ H Q→
  wpAny (model X.prog X.w) X.A (evalPart e X.env) (fun u s'=>∃o H',Inv X pins σ H' s'∧IsPart u o∧Q o H') X.xe s
def Qbn(t:TE):TO:=fun σ H Q=>t σ H fun x H1=>∃i,x= .int i∧Q (some i) H1
section
variable{X:Cx}{e:Expr}{te:TE}{lo hi:Option Expr}{tl th:TO}{pos p2:Pos}
theorem JaV(h:PE X e te):PO X (some e) (Qbn te):=by
 intro pins s σ H Q I hw;rw [evalPart_some];refine zg (h pins s σ H _ I hw) fun u s1 ⟨x,H1,I1,r1,q1⟩=>?_;obtain ⟨i,rfl,q⟩:=q1;obtain ⟨t,rfl⟩:=r1;exact ⟨some i,H1,I1, .int i t,q⟩
def SlR(X:Cx)(r:V→Option Int→Option Int→Hp→VK→Prop):Prop:=
 ∀(pins:List (Addr×Obj)) (s:Shared) (σ:St) (H:Hp) (x:V) (v vl vu:Value) (lo hi:Option Int) (sl:Addr) (Q:VK),Inv X pins σ H s→RelV x v→s.heap.IsSliceOf sl vl vu .none→IsPart vl lo→IsPart vu hi→r x lo hi H Q→
  ∃T id,typeLookup (.type T) "__getitem__"=pure (some (.builtin id))∧s.TypeIs v T∧wpAny (model X.prog X.w) X.A (getItem v (.ref sl)) (EP X pins σ Q) X.xe s
def tSl(r:V→Option Int→Option Int→Hp→VK→Prop)(te:TE)(tl th:TO):TE:=fun σ H Q=>te σ H fun x H1=>tl σ H1 fun l H2=>th σ H2 fun u H3=>r x l u H3 Q
theorem qa6{r:V→Option Int→Option Int→Hp→VK→Prop}(hr:SlR X r)(he:PE X e te)(hl:PO X lo tl)(hu:PO X hi th):PE X (.Subscript e (.Slice lo hi none p2) pos) (tSl r te tl th):=by
 intro pins s σ H Q I h;refine Subscript_ (zg (he pins s σ H _ I h) fun v s1 ⟨x,H1,I1,r1,q1⟩=>?_);refine wpAny_Slice (zg (hl pins s1 σ H1 _ I1 q1) fun vl s2 ⟨l,H2,I2,pl,q2⟩=>zg (hu pins s2 σ H2 _ I2 q2) fun vu s3 ⟨u,H3,I3,pu,q3⟩=>?_);rw [evalPart_none];refine wpAny_pure ?_;have I4:Inv X pins σ H3 {s3 with heap:=s3.heap.push {cls:= .type "slice",data:= .fields #[vl,vu, .none]}}:=I3.kept (t':=s3.toks) fun b ob q=>Heap.get?_push_of_some _ q;obtain ⟨T,id,hT,ht,hg⟩:=hr pins {s3 with heap:=s3.heap.push {cls:= .type "slice",data:= .fields #[vl,vu, .none]}} σ H3 x v vl vu l u s3.heap.objs.size Q I4 r1 (Heap.IsSliceOf.new ..) pl pu q3;show wpAny (model X.prog X.w) X.A (subscriptTail e (.Slice lo hi none p2) v (.ref s3.heap.objs.size)) (EP X pins σ Q) X.xe {s3 with heap:=s3.heap.push {cls:= .type "slice",data:= .fields #[vl,vu, .none]}};exact tail_any (ops:= [.ref s3.heap.objs.size,v]) ht hT hg (by with_unfolding_all rfl)
def qaJ(xs:List V)(lo hi:Option Int):List V:=(xs.drop (HT.sIx xs.length 0 lo)).take (HT.sIx xs.length xs.length hi-HT.sIx xs.length 0 lo)
theorem qaN(xs:List V)(lo hi:Option Int):(qaJ xs lo hi).length≤xs.length:=by
 unfold qaJ;rw [List.length_take,List.length_drop];omega
end
end L2
namespace L2
open PySem PySem.Spec PyProof.Rows
def ixN(n:Nat)(i:Int):Option Nat:=if 0≤i then (if i<n then some i.toNat else none) else if-(n:Int)≤i then some (i+n).toNat else none
def atI{α:Type}(xs:List α)(i:Int):Option α:=(ixN xs.length i).bind fun j=>xs[j]?
theorem kba{n:Nat}{i:Int}{j:Nat}(h:ixN n i=some j):seqIndex? i n=some j∧j<n∧-(n:Int)≤i∧i<n:=by
 unfold ixN at h;by_cases h0:0≤i
 ·rw [if_pos h0] at h;by_cases h1:i<n
  ·rw [if_pos h1] at h;have e:i.toNat=j:=Option.some.inj h;exact ⟨by rw [seqIndex_of h0 h1,e],by omega,by omega,h1⟩
  ·rw [if_neg h1] at h;cases h
 ·rw [if_neg h0] at h;by_cases h1: -(n:Int)≤i
  ·rw [if_pos h1] at h;have e:(i+n).toNat=j:=Option.some.inj h;exact ⟨by rw [seqIndex_neg (by omega) h1,e],by omega,h1,by omega⟩
  ·rw [if_neg h1] at h;cases h
theorem YaV{α:Type}{xs:List α}{i:Int}{v:α}(h:atI xs i=some v):∃j,seqIndex? i xs.length=some j∧xs[j]? =some v∧j<xs.length∧-(xs.length:Int)≤i∧i<xs.length:=by
 unfold atI at h;cases e:ixN xs.length i with
 | none=>rw [e] at h;cases h
 | some j=>
  rw [e] at h;obtain ⟨h1,h2,h3,h4⟩:=kba e;exact ⟨j,h1,h,h2,h3,h4⟩
theorem jan{α:Type}{xs:List α}{j:Nat}{v:α}(h:xs[j]? =some v):atI xs (j:Int)=some v:=by
 have hj:j<xs.length:=(List.getElem?_eq_some_iff.mp h).1;have e:ixN xs.length (j:Int)=some j:=by
  unfold ixN;rw [if_pos (by omega),if_pos (by omega)];simp
 unfold atI;rw [e];exact h
theorem X0{α:Type}(xs:List α)(v:α):atI (xs++ [v]) (-1)=some v:=by
 have hl:(xs++ [v]).length=xs.length+1:=by simp
 have e:ixN (xs++ [v]).length (-1)=some xs.length:=by
  unfold ixN;rw [hl,if_neg (by decide),if_pos (by omega)]
  congr 1
  omega
 unfold atI;rw [e];show (xs++ [v])[xs.length]? =some v;simp
def ya8(b:Expr):Prop:=∀o i,subscripted b false o i=operate [o,i] (getItem o i)
def IxR(X:Cx)(r:R2):Prop:=
 ∀(value slice:Expr) (pins:List (Addr×Obj)) (s:Shared) (σ:St) (H:Hp) (x y:V) (v u:Value) (Q:VK),Inv X pins σ H s→RelV x v→RelV y u→r x y H Q→
  subscripted slice false v u=operate [v,u] (getItem v u)→wpAny (model X.prog X.w) X.A (subscriptTail value slice v u) (EP X pins σ Q) X.xe s
def MtR(X:Cx)(id:String)(r:V→List V→Hp→VK→Prop):Prop:=
 ∀(pins:List (Addr×Obj)) (s:Shared) (σ:St) (H:Hp) (x:V) (xs:List V) (v:Value) (us:List Value) (Q:VK),Inv X pins σ H s→RelV x v→Vals xs us→r x xs H Q→
  wpAny (model X.prog X.w) X.A (call (.builtin id) (v::us)) (EP X pins σ Q) X.xe s
section
variable{X:Cx}{a b:Expr}{ta tb:TE}{pos:Pos}
theorem Vb{r:R2}(hr:IxR X r)(ha:PE X a ta)(hb:PE X b tb)(hs:ya8 b):PE X (.Subscript a b pos) (tOp r ta tb):=by
 intro pins s σ H Q I h;exact Subscript_ (zbl ha hb I h fun v u s2 x y H2 I2 rx ry q=>hr a b pins s2 σ H2 x y v u Q I2 rx ry q (hs _ _))
def Zbs(K:PySem.W.Frag):R2:=fun x y H Q=>∃p xs i v,x= .ref p∧y= .int i∧xb K H p xs∧atI xs i=some v∧Q v H
def zaZ(K:PySem.W.Frag):R2:=fun x y H Q=>∃p xs i v,x= .ref p∧y= .int i∧vQ K H p xs∧atI xs i=some v∧Q v H
theorem Xa:IxR X (Zbs X.K):=by
 intro value slice pins s σ H x y v u Q I rx ry h hs;obtain ⟨p,xs,i,z,rfl,rfl,hq,he,q⟩:=h;cases rx;obtain ⟨t,rfl⟩:=ry;obtain ⟨Jd,r,pl,hz⟩:=I.list hq;obtain ⟨j,h1,h2,h3,h4,h5⟩:=YaV he;obtain ⟨w,ew,rw'⟩:=r.get h2;have hl:=r.length;have hn:=uaD;have fin:EP X pins σ Q w s:=⟨z,H,I,rw',q⟩;by_cases h0:0≤i
 ·have hj:i.toNat=j:=by
   rw [seqIndex_of h0 h5] at h1;exact Option.some.inj h1
  exact item_listR pl.isList h0 (by omega) (by rw [hj];simpa using ew) fin hs
 ·have hj:(i+(Jd.toArray.size:Int)).toNat=j:=by
   rw [seqIndex_neg (by omega) h4] at h1;rw [List.size_toArray,←hl];exact Option.some.inj h1
  exact subscriptTail_builtinR (x:=w) pl.isList.typeIs slot_list_getitem.lookup
   (wpAny_getItem_list_neg (Q:=fun r s'=>r=w∧EP X pins σ Q r s') pl.isList (by omega) (by rw [List.size_toArray]<;>omega) (by omega) (by rw [hj];simpa using ew) ⟨rfl,fin⟩) hs
theorem Q9:IxR X (zaZ X.K):=by
 intro value slice pins s σ H x y v u Q I rx ry h hs;obtain ⟨p,xs,i,z,rfl,rfl,hq,he,q⟩:=h;cases rx;obtain ⟨t,rfl⟩:=ry;obtain ⟨Jd,r,pl,hz⟩:=I.tuple hq;obtain ⟨j,h1,h2,h3,h4,h5⟩:=YaV he;obtain ⟨w,ew,rw'⟩:=r.get h2;have hl:=r.length;have hn:=uaD;have fin:EP X pins σ Q w s:=⟨z,H,I,rw',q⟩;exact subscriptTail_builtinR (x:=w) pl.typeIs slot_tuple_getitem.lookup
  (getItem_tuple (j:=j) (Q:=fun r s'=>r=w∧EP X pins σ Q r s') pl (by omega) (by omega) (by rw [List.size_toArray,←hl];exact h1) (by simpa using ew) ⟨rfl,fin⟩) hs
theorem VaH(lo hi:Option Int)(n:Nat):(sliceBounds lo hi none n).1=((HT.sIx n 0 lo:Nat):Int)∧(sliceBounds lo hi none n).2.1=((HT.sIx n n hi:Nat):Int)∧(sliceBounds lo hi none n).2.2=1:=by
 refine ⟨?_,?_,rfl⟩
 ·cases lo with
  | none=>simp [sliceBounds,HT.sIx]
  | some i=>
   simp only [sliceBounds,HT.sIx,Option.getD_none,show (1:Int)>0 by decide,if_true];by_cases h:i<0
   ·simp only [h,if_true]<;>omega
   ·simp only [h,if_false]<;>omega
 ·cases hi with
  | none=>simp [sliceBounds,HT.sIx]
  | some i=>
   simp only [sliceBounds,HT.sIx,Option.getD_none,show (1:Int)>0 by decide,if_true];by_cases h:i<0
   ·simp only [h,if_true]<;>omega
   ·simp only [h,if_false]<;>omega
theorem yay(Jd:List Value)(lo hi:Option Int):slicePick Jd.toArray lo hi none=((Jd.drop (HT.sIx Jd.length 0 lo)).take (HT.sIx Jd.length Jd.length hi-HT.sIx Jd.length 0 lo)).toArray:=by
 obtain ⟨h1,h2,h3⟩:=VaH lo hi Jd.toArray.size;unfold slicePick;rw [h1,h2,h3];simp only [sliceRange_one,pick_run,List.size_toArray]<;>rfl
def xbq(K:PySem.W.Frag):V→Option Int→Option Int→Hp→VK→Prop:=fun x lo hi H Q=>∃a xs,x= .ref a∧xb K H a xs∧∀p,H p=none→Q (.ref p) (upd H p (.lst (qaJ xs lo hi)))
theorem zbb:SlR X (xbq X.K):=by
 intro pins s σ H x v vl vu lo hi sl Q I rx hs pl pu h;obtain ⟨a,xs,rfl,hx,q⟩:=h;cases rx;obtain ⟨Jd,r,ht,hz⟩:=I.list hx;have hlen:=r.length;refine ⟨"list",_,slot_list_getitem.lookup,ht.isList.typeIs,?_⟩;refine wpAny_getItem_list_slice ht.isList hs pl pu .none (by simp) ?_ (by rw [List.size_toArray]<;>omega);rw [yay,←hlen];refine ⟨.ref s.heap.objs.size,_,I.laid (t':=s.toks) (o:= .lst (qaJ xs lo hi)) (fun b ob q=>Heap.get?_push_of_some _ q) (Nat.le_refl _) ?_,rfl,q _ (I.Xd.fresh (Nat.le_refl _))⟩;exact ⟨Nat.le_trans (qaN xs lo hi) hz,_,0,(r.drop (HT.sIx xs.length 0 lo)).take (HT.sIx xs.length xs.length hi-HT.sIx xs.length 0 lo),Heap.get?_push_size _ rfl⟩
theorem Jc:vax X (.builtin "len") (fun xs H Q=>∃p ys,xs= [.ref p]∧(xb X.K H p ys∨vQ X.K H p ys)∧Q (.int ys.length) H):=by
 intro pins s σ H xs us Q I r h;obtain ⟨p,ys,rfl,hq,q⟩:=h;obtain ⟨u,rfl,rx⟩:=vals1 r;cases rx;have hn:=uaD;rcases hq with hq | hq
 ·obtain ⟨Jd,r',pl,hz⟩:=I.list hq;have hlen:=r'.length;exact Calls.call_len_list pl.isList (by simp only [List.size_toArray]<;>omega) ⟨.int ys.length,H,I.tok _,⟨s.toks+1,by rw [List.size_toArray,hlen]⟩,q⟩
 ·obtain ⟨Jd,r',pl,hz⟩:=I.tuple hq;have hlen:=r'.length;exact len_tuple pl (by simp only [List.size_toArray]<;>omega) ⟨.int ys.length,H,I.tok _,⟨s.toks+1,by rw [List.size_toArray,hlen]⟩,q⟩
def tyV(K:PySem.W.Frag)(T:String)(x:V)(H:Hp):Prop:=match x with
 | .str _=>T="str"
 | .int _=>T="int"
 | .ref p=>(T="list"∧∃xs,xb K H p xs)∨(T="tuple"∧∃o,K.lookup p=some o∧o.cls= .type "tuple"∧o.dict=none)∨
   (T="dict"∧((∃Yb,H p=some (.dK Yb))∨∃Yb,H p=some (.dT Yb)))∨(T="set"∧∃S n,H p=some (.set S n))
 | _=>False
theorem qbf{pins:List (Addr×Obj)}{σ:St}{H:Hp}{s:Shared}{T:String}{x:V}{v:Value}(I:Inv X pins σ H s)(r:RelV x v)(ty:tyV X.K T x H):
  s.TypeIs v T∧∀a,v= .ref a→∃ob,s.heap.get? a=some ob∧ob.dict=none:=by
 cases x with
 | str z=>
  obtain ⟨t,rfl⟩:=r;cases (show T="str" from ty);exact ⟨typeIs_str s z t,fun _ e=>nomatch e⟩
 | int i=>
  obtain ⟨t,rfl⟩:=r;cases (show T="int" from ty);exact ⟨typeIs_int s i t,fun _ e=>nomatch e⟩
 | ref p=>
  cases r;rcases ty with ⟨rfl,xs,hq⟩ | ⟨rfl,o,hk,hc,hd⟩ | ⟨rfl,hk⟩ | ⟨rfl,S,n,hk⟩
  ·obtain ⟨Jd,_,pl,_⟩:=I.list hq;refine ⟨pl.isList.typeIs,fun a e=>?_⟩;cases e;obtain ⟨o,n,e,c,hd,_⟩:=pl;exact ⟨o,e,hd⟩
  ·refine ⟨⟨o,I.kIn p o hk,hc⟩,fun a e=>?_⟩;cases e;exact ⟨o,I.kIn _ o hk,hd⟩
  ·have z:∃o,s.heap.get? p=some o∧o.ExactDict:=by
    rcases hk with ⟨Yb,hk⟩ | ⟨Yb,hk⟩
    ·obtain ⟨_,_,_,_,o,_,_,e,ex,_⟩:=I.Xd p _ hk;exact ⟨o,e,ex⟩
    ·obtain ⟨_,_,_,_,o,_,_,e,ex,_⟩:=I.Xd p _ hk;exact ⟨o,e,ex⟩
   obtain ⟨o,e,ex⟩:=z;refine ⟨⟨o,e,ex.1⟩,fun a e2=>?_⟩;cases e2;exact ⟨o,e,ex.2.1⟩
  ·obtain ⟨o,_,_,_,e,ex,_⟩:=I.Xd p _ hk;refine ⟨⟨o,e,ex.1⟩,fun a e2=>?_⟩;cases e2;exact ⟨o,e,ex.2.1⟩
 | _=>exact False.elim ty
def tBM(K:PySem.W.Frag)(T:String)(r:V→List V→Hp→VK→Prop)(to:TE)(t:TA):TE:=fun σ H Q=>to σ H fun x H1=>tyV K T x H1∧t σ H1 fun xs H2=>r x xs H2 Q
variable{o e:Expr}{es:List Expr}{to:TE}{t:TA}{name:Str}{apos Kn:Pos}{T id:String}{r:V→List V→Hp→VK→Prop}
theorem wy(pa:PlainAttrs T)(slot:Slot T name id)(hty:typeOf (.builtin id)=pure (.type "method_descriptor"))(hm:MtR X id r)(ho:PE X o to)(ha:PA X (e::es) t)
  (uaI:attributeBase o name X.env (eval o X.env)=eval o X.env:=by rfl)
  (kbd:((backTo Kn (starEach (e::es) X.env)).all (fun x=> !x.1) && (backToKw Kn (keywordEach [] X.env)).all (fun x=>x.1.isSome)
   && decide ((e::es).length+([]:List Keyword).length+(if ([]:List Keyword).isEmpty then 0 else 1)<30))=true:=by rfl)
  (UaI:(apos.endLine==Kn.line)=true:=by rfl) (hs:starEach (e::es) X.env=(false,eval e X.env)::starEach es X.env:=by rfl) (Wbh:(backTo Kn (starEach es X.env)).any (·.1)=false:=by rfl):
  PE X (.Call (.Attribute o name apos) (e::es) [] Kn) (tBM X.K T r to t):=by
 intro pins s σ H Q I h;refine wpAny_Call_method_late uaI kbd UaI rfl (zg (ho pins s σ H _ I h) fun v s1 ⟨x,H1,I1,r1,ty,q1⟩=>?_);obtain ⟨h1,h2⟩:=qbf I1 r1 ty;refine ⟨T,id,pa,slot,hty,h1,h2,?_⟩;have hA:=ha Kn pins s1 σ H1 _ I1 q1;rw [hs] at hA⊢;refine Calls.callWith_builtin (by show (false || (backTo Kn (starEach es X.env)).any (·.1))=false;rw [Wbh]<;>rfl) (Calls.evalArgs_plain ?_);exact zg hA fun us s2 ⟨vs,H2,I2,r2,q2⟩=>hm pins s2 σ H2 x vs v us Q I2 r1 r2 q2
end
end L2
namespace L2
open PySem PySem.Spec PyProof.Rows
def MtM(X:Cx)(id:String)(r:V→List V→Hp→VK→Prop):Prop:=
 ∀(pins:List (Addr×Obj)) (s:Shared) (σ:St) (H:Hp) (x:V) (xs:List V) (v:Value) (us:List Value) (Q:VK),Inv X pins σ H s→RelV x v→Vals xs us→r x xs H Q→
  wpAny (model X.prog X.w) X.A (call (.builtin id) (v::us)) (EP X pins σ Q) X.xe s
theorem Vals.one:∀{x:V} {us:List Value},Vals [x] us→∃u,us= [u]∧RelV x u
 | _,_, .cons r .nil=>⟨_,rfl,r⟩
section
variable{X:Cx}{pins:List (Addr×Obj)}{σ:St}{H:Hp}{s:Shared}{l b:Addr}{xs ys zs:List V}
theorem Inv.Qbk{Jd its':List Value}{n:Nat}{f:Array Value→Array Value}{t':Nat}(I:Inv X pins σ H s)(hH:H l=some (.lst xs))
  (e:s.heap.get? l=some {cls:= .type "list",data:= .seq Jd.toArray n}) (hf:f Jd.toArray=its'.toArray) (hv:Vals ys its') (hz:ys.length≤sizeLine):
  Inv X pins σ (upd H l (.lst ys)) {s with heap:=s.heap.update l (Obj.mapSeq f),toks:=t'}:=by
 have q:=PySem.IsL.update e f;rw [hf] at q;refine I.write (x:=l) (e:=l) (by rw [hH];exact trivial) (.inl rfl) (fun b' u hb hu=>(Heap.get?_update_other s.heap (Obj.mapSeq f) (Ne.symm hb)).trans hu) ⟨_,q⟩ ?_;exact ⟨hz,its',_,hv,q⟩
theorem Inv.Xbq{Jd:List Value}{t':Nat}(I:Inv X pins σ H s)(hv:Vals ys Jd)(hz:ys.length≤sizeLine):
  Inv X pins σ (upd H s.heap.objs.size (.lst ys)) {s with heap:=s.heap.push {cls:= .type "list",data:= .seq Jd.toArray},toks:=t'}:=
 I.laid (fun _ _ q=>Heap.get?_push_of_some _ q) (Nat.le_refl _) ⟨hz,Jd,0,hv,Heap.get?_push_size _ rfl⟩
theorem Inv.fresh(I:Inv X pins σ H s):H s.heap.objs.size=none:=I.Xd.fresh (Nat.le_refl _)
theorem Inv.xaW(I:Inv X pins σ H s)(hH:H l=some (.lst xs)):xs.length≤sizeLine∧∃(Jd:List Value) (n:Nat),Vals xs Jd∧xs.length=Jd.length∧s.heap.get? l=some {cls:= .type "list",data:= .seq Jd.toArray n}:=by
 obtain ⟨z,Jd,n,r,e⟩:=I.Xd l _ hH;exact ⟨z,Jd,n,r,r.length,e⟩
theorem ya6{n:Nat}(h:n≤sizeLine):Builtin.List.listTooLong n=false:=by
 unfold Builtin.List.listTooLong;exact decide_eq_false (by omega)
end
section
variable{X:Cx}
def ka8:V→List V→Hp→VK→Prop:=fun x vs H Q=>∃l xs y,x= .ref l∧vs= [y]∧H l=some (.lst xs)∧xs.length<sizeLine∧Q .non (upd H l (.lst (xs++ [y])))
theorem vh:MtM X "list.append" ka8:=by
 intro pins s σ H x vs v us Q I rx rv h;obtain ⟨l,xs,y,rfl,rfl,hH,hz,q⟩:=h;cases rx;obtain ⟨u,rfl,ru⟩:=rv.one;obtain ⟨z,Jd,n,r,hl,e⟩:=I.xaW hH;refine call_meets F.slot_list_append ⟨_,e,rfl⟩ F.entry_list_append (F.args_list_append_2 _ _) (PySem.list_append l Jd.toArray n u (by rw [List.size_toArray];omega)) ⟨e,?_⟩;refine ⟨.non,_,I.Qbk (its':=Jd++ [u]) hH e (by simp) (r.append (.cons ru .nil)) ?_,rfl,q⟩;rw [List.length_append,List.length_singleton];omega
def Va8:V→List V→Hp→VK→Prop:=fun x vs H Q=>∃l b xs zs,x= .ref l∧vs= [.ref b]∧H l=some (.lst xs)∧H b=some (.lst zs)∧xs.length+zs.length≤sizeLine∧Q .non (upd H l (.lst (xs++zs)))
theorem qaD:MtM X "list.extend" Va8:=by
 intro pins s σ H x vs v us Q I rx rv h;obtain ⟨l,b,xs,zs,rfl,rfl,hH,hB,hz,q⟩:=h;cases rx;obtain ⟨u,rfl,ru⟩:=rv.one;cases ru;obtain ⟨z,Jd,n,r,hl,e⟩:=I.xaW hH;obtain ⟨z2,YaJ,n2,r2,hl2,e2⟩:=I.xaW hB;have hsz:Jd.toArray.size+YaJ.toArray.size≤sizeLine:=by rw [List.size_toArray,List.size_toArray];omega
 have kbo:¬(!Jd.toArray.isEmpty && Builtin.List.listTooLong (Jd.toArray.size+YaJ.toArray.size))=true:=by
  rw [ya6 hsz,Bool.and_false];exact Bool.false_ne_true
 refine call_meets F.slot_list_extend ⟨_,e,rfl⟩ F.entry_list_extend (F.args_list_extend_2 _ _)
  (AutoSeq1.list_extend_list_list_0 l Jd.toArray n b YaJ.toArray n2 kbo (by rw [List.size_toArray];omega) (by omega)) ⟨e,e2,?_⟩
 refine ⟨.non,_,I.Qbk (its':=Jd++YaJ) hH e (by simp) (r.append r2) ?_,rfl,q⟩;rw [List.length_append];omega
def wbr:R2:=fun x y H Q=>∃l b xs zs,x= .ref l∧y= .ref b∧H l=some (.lst xs)∧H b=some (.lst zs)∧xs.length+zs.length≤sizeLine∧∀p,H p=none→Q (.ref p) (upd H p (.lst (xs++zs)))
theorem ubf:OpR X (binaryOp .Add) wbr:=by
 intro pins s σ H x y v u Q I rx ry h;obtain ⟨l,b,xs,zs,rfl,rfl,hH,hB,hz,q⟩:=h;cases rx;cases ry;obtain ⟨z,Jd,n,r,hl,e⟩:=I.xaW hH;obtain ⟨z2,YaJ,n2,r2,hl2,e2⟩:=I.xaW hB;refine PySem.P.add_list e e2 ?_ (by rw [List.size_toArray,List.size_toArray];omega);have ea:Jd.toArray++YaJ.toArray=(Jd++YaJ).toArray:=by simp
 rw [ea];exact ⟨.ref _,_,I.Xbq (t':=s.toks) (r.append r2) (by rw [List.length_append];omega),rfl,q _ I.fresh⟩
end
section
variable{prog:Program}{w:World}{A:Around}{E:Value→Shared→Prop}{s:Shared}
set_option maxRecDepth 100000 in
end
end L2
namespace L2
open PySem PySem.Spec PyProof.Rows
theorem Vals.ints:∀{ns:List Int} {us:List Value},Vals (ns.map V.int) us→IntsAre us ns
 | [],us,h=>by
  rw [List.map_nil] at h;cases h;exact IntsAre.nil
 | n::ns,us,h=>by
  rw [List.map_cons] at h;cases h with
  | cons r t=>
   obtain ⟨k,rfl⟩:=r;exact IntsAre.cons n k (Vals.ints t)
theorem Vals.wbq{a:Addr}{us:List Value}(r:Vals [V.ref a] us):us= [Value.ref a]:=by
 cases r with
 | cons r t=>
  cases t;cases r;rfl
section
variable{prog:Program}{w:World}{A:Around}{E:Value→Shared→Prop}{s:Shared}{l:Addr}{Jd:List Value}{ns:List Int}{Q:Value→Shared→Prop}
theorem wba(hh:A.handled=none)(hl:s.heap.IsList l Jd.toArray)(hi:IntsAre Jd ns)
  (h:∀h' tk t',(∀b o,s.heap.get? b=some o→h'.get? b=some o)→Q (.int ns.sum t') {s with heap:=h',toks:=tk}):wpAny (model prog w) A (call (.builtin "sum") [.ref l]) Q E s:=by
 obtain ⟨xs,e⟩:=hi.allInts.items;have hn:numsOf (intItems xs).toList=ns:=by rw [←e];exact hi.numsOf
 rw [nums_intItems] at hn;rw [e] at hl;refine PySem.sum_intListG hh hl fun h' tk t' hk=>?_;have:=h h' tk t' hk;rw [preSum_eq,List.take_of_length_le (by simp),hn];exact this
end
section
variable{X:Cx}
def zbs(K:PySem.W.Frag):List V→Hp→VK→Prop:=fun vs H Q=>∃(a:Addr) (ns:List Int),vs= [V.ref a]∧xb K H a (ns.map V.int)∧Q (.int ns.sum) H
theorem vT(hc:X.calm=true):vax X (.builtin "sum") (zbs X.K):=by
 intro pins s σ H vs us Q I r h;obtain ⟨a,ns,rfl,hs,q⟩:=h;obtain ⟨Jd,rv,hl,_⟩:=I.list hs;rw [Vals.wbq r];exact wba (I.ok.hd hc) hl.isList rv.ints fun h' tk t' hk=>⟨.int _,H,I.kept hk,⟨_,rfl⟩,q⟩
end
end L2
namespace L2
open PySem PySem.Spec PyProof.Rows
abbrev xa0(h:Heap)(c:Addr)(v:Option Value):Prop:=h.IsCell c v
def zbr(scope sc:Scope):Scope:=
 {scope with names:=scope.names.map fun (n,k)=>if (k== .free && sc.kind== .function && sc.names.lookup n==some .cell) then (n, .cell) else (n,k)}
def yh(cells:List (Str×Addr)):List (Str×NameKind)→List (Str×Addr)→List (Str×Addr)
 | [],acc=>acc
 | (n,k)::r,acc=>if k== .free then yh cells r ((n,(cells.lookup n).getD 0)::acc) else yh cells r acc
theorem yaf(env:Env)(f:Str×NameKind→List (Str×Addr)→Sem (ForInStep (List (Str×Addr))))
  (hf:∀n k c,f (n,k) c=if k== .free then (do let a←cellOf env n;pure (.yield ((n,a)::c))) else pure (.yield c)):
  ∀(names:List (Str×NameKind)) (acc:List (Str×Addr)),(∀y∈names,y.2= .free→∃c,env.cells.lookup y.1=some c)→forIn names acc f=pure (yh env.cells names acc)
 | [],acc,_=>by rw [List.forIn_nil];rfl
 | (n,k)::r,acc,h=>by
  rw [List.forIn_cons,hf];have ih:=fun acc=>yaf env f hf r acc fun y hy=>h y (List.mem_cons_of_mem _ hy);unfold yh;by_cases hk:(k==NameKind.free)=true
  ·rw [if_pos hk,if_pos hk];obtain ⟨c,hc⟩:=h (n,k) List.mem_cons_self (by simpa using hk);have e:cellOf env n=pure c:=by unfold cellOf;rw [hc]
   rw [e];have e2:(env.cells.lookup n).getD 0=c:=by rw [hc];rfl
   rw [e2];exact ih _
  ·rw [if_neg hk,if_neg hk];exact ih _
theorem KaR{scope:Scope}{env:Env}(h:∀y∈scope.names,y.2= .free→∃c,env.cells.lookup y.1=some c):closureFor scope env=pure (yh env.cells scope.names []):=by
 simp only [closureFor];rw [yaf env _ (fun n k c=>rfl) scope.names [] h];rfl
theorem mem_lookup{α:Type}:∀{l:List (Str×α)} {n:Str} {c:α},(n,c)∈l→∃c',l.lookup n=some c'
 | (k,v)::r,n,c,h=>by
  rw [List.lookup_cons];cases hb:n==k with
  | true=>exact ⟨_,rfl⟩
  | false=>
   rcases List.mem_cons.mp h with e | h
   ·cases e;simp at hb
   ·exact mem_lookup h
theorem yP{cells:List (Str×Addr)}:∀{names:List (Str×NameKind)} {acc:List (Str×Addr)} {n:Str} {c:Addr},(n,c)∈yh cells names acc→(n,c)∈acc∨((n, .free)∈names∧c=(cells.lookup n).getD 0)
 | [],_,_,_,h=> .inl h
 | (m,k)::r,acc,n,c,h=>by
  unfold yh at h;split at h
  ·rename_i hk;have hk:k= .free:=by simpa using hk
   rcases yP h with h | ⟨h1,h2⟩
   ·rcases List.mem_cons.mp h with e | h
    ·cases e;exact .inr ⟨hk▸List.mem_cons_self,rfl⟩
    ·exact .inl h
   ·exact .inr ⟨List.mem_cons_of_mem _ h1,h2⟩
  ·rcases yP h with h | ⟨h1,h2⟩
   ·exact .inl h
   ·exact .inr ⟨List.mem_cons_of_mem _ h1,h2⟩
theorem Y4{cells:List (Str×Addr)}:∀{names:List (Str×NameKind)} {acc:List (Str×Addr)} {p:Str×Addr},p∈acc→p∈yh cells names acc
 | [],_,_,h=>h
 | (m,k)::r,acc,p,h=>by
  unfold yh;split
  ·exact Y4 (List.mem_cons_of_mem _ h)
  ·exact Y4 h
theorem W3{cells:List (Str×Addr)}:∀{names:List (Str×NameKind)} {acc:List (Str×Addr)} {n:Str},(n, .free)∈names→(n,(cells.lookup n).getD 0)∈yh cells names acc
 | (m,k)::r,acc,n,h=>by
  unfold yh;rcases List.mem_cons.mp h with e | h
  ·cases e;exact Y4 List.mem_cons_self
  ·split
   ·exact W3 h
   ·exact W3 h
theorem YT:∀{names:List (Str×NameKind)} {h:Heap} {acc:List (Str×Addr)} {x:Str} {c:Addr},(x,c)∈cellsFrom h.objs.size names acc→
  (x,c)∈acc∨((x, .cell)∈names∧h.objs.size≤c∧xa0 (pushCells h names) c none)
 | [],_,_,_,_,h=> .inl h
 | (n,k)::r,h,acc,x,c,hm=>by
  unfold cellsFrom at hm;unfold pushCells;split at hm
  ·rename_i hk;rw [if_pos hk];have hk:k= .cell:=by simpa using hk
   rw [←Heap.size_push h {cls:= .type "cell",data:= .cell none}] at hm;rcases YT hm with hm | ⟨h1,h2,h3⟩
   ·rcases List.mem_cons.mp hm with e | hm
    ·cases e;exact .inr ⟨hk▸List.mem_cons_self,Nat.le_refl _,_,pushCells_keeps r _ _ _ (Heap.get?_push_size _ rfl),rfl⟩
    ·exact .inl hm
   ·rw [Heap.size_push] at h2;exact .inr ⟨List.mem_cons_of_mem _ h1,Nat.le_of_succ_le h2,h3⟩
  ·rename_i hk;rw [if_neg hk];rcases YT hm with hm | ⟨h1,h2,h3⟩
   ·exact .inl hm
   ·exact .inr ⟨List.mem_cons_of_mem _ h1,h2,h3⟩
theorem K5:∀{names:List (Str×NameKind)} {n:Nat} {acc:List (Str×Addr)} {p:Str×Addr},p∈acc→p∈cellsFrom n names acc
 | [],_,_,_,h=>h
 | (m,k)::r,n,acc,p,h=>by
  unfold cellsFrom;split
  ·exact K5 (List.mem_cons_of_mem _ h)
  ·exact K5 h
theorem Wai:∀{names:List (Str×NameKind)} {n:Nat} {acc:List (Str×Addr)} {x:Str},(x, .cell)∈names→∃c,(x,c)∈cellsFrom n names acc
 | (m,k)::r,n,acc,x,h=>by
  unfold cellsFrom;rcases List.mem_cons.mp h with e | h
  ·cases e;exact ⟨n,K5 List.mem_cons_self⟩
  ·split
   ·exact Wai h
   ·exact Wai h
theorem Waj:∀{names:List (Str×NameKind)} {h:Heap} {acc:List (Str×Addr)} {x y:Str} {c:Addr},(∀p∈acc,p.2<h.objs.size)→(∀x y c,(x,c)∈acc→(y,c)∈acc→x=y)→
  (x,c)∈cellsFrom h.objs.size names acc→(y,c)∈cellsFrom h.objs.size names acc→x=y
 | [],_,_,_,_,_,_,hi,h1,h2=>hi _ _ _ h1 h2
 | (n,k)::r,h,acc,x,y,c,hl,hi,h1,h2=>by
  unfold cellsFrom at h1 h2;split at h1
  ·rename_i hk;rw [if_pos hk] at h2;rw [←Heap.size_push h {cls:= .type "cell",data:= .cell none}] at h1 h2;refine Waj (h:=h.push _) (fun p hp=>?_) (fun x y c a b=>?_) h1 h2
   ·rw [Heap.size_push];rcases List.mem_cons.mp hp with rfl | hp
    ·exact Nat.lt_succ_self _
    ·exact Nat.lt_succ_of_lt (hl p hp)
   ·rcases List.mem_cons.mp a with e | a<;>rcases List.mem_cons.mp b with e' | b
    ·cases e;cases e';rfl
    ·cases e;exact absurd (hl _ b) (Nat.lt_irrefl _)
    ·cases e';exact absurd (hl _ a) (Nat.lt_irrefl _)
    ·exact hi _ _ _ a b
  ·rename_i hk;rw [if_neg hk] at h2;exact Waj hl hi h1 h2
theorem VaM{M:Model}{A:Around}{E:Value→Shared→Prop}{s:Shared}{scope:Scope}{globals:Addr}{closure:List (Str×Addr)}{qual:Str}{func:Option Addr}{code:Value}{around:Env}{builtins:Addr}{Q:Env→Shared→Prop}
  (h:Q (newEnv scope s.heap.objs.size globals (cellsFrom (s.heap.objs.size+1) scope.names closure) qual func code (some around) builtins)
   {s with heap:=pushCells (s.heap.push {cls:= .type "dict",data:= .dict #[]}) scope.names}):
  wpAny M A (newFunctionEnv scope globals closure [] qual func code (some around) builtins) Q E s:=by
 simp only [newFunctionEnv,Option.isSome_some,if_true];refine wpAny_bind (wpAny_alloc ?_);refine wpAny_bind (wpAny_layCells _ (fun n k c=>rfl) scope.names closure _ _ ?_);rw [show ({s with heap:=s.heap.push {cls:= .type "dict",data:= .dict #[]}}:Shared).heap.objs.size=s.heap.objs.size+1 from Heap.size_push ..];rw [List.forIn_nil];exact wpAny_bind (wpAny_pure (wpAny_pure h))
theorem z5{sc:Scope}:∀{names:List (Str×NameKind)} {x:Str} {k:NameKind},
  (names.map fun (n,k)=>if (k==NameKind.free && sc.kind== .function && sc.names.lookup n==some .cell) then (n,NameKind.cell) else (n,k)).lookup x=some k→
  ∃k',names.lookup x=some k'∧(k=k'∨(k'= .free∧k= .cell))
 | [],_,_,h=>by simp at h
 | (n,k₀)::r,x,k,h=>by
  have ih:= @z5 sc r x k;have h':List.lookup x ((if (k₀==NameKind.free && sc.kind== .function && sc.names.lookup n==some .cell)=true then (n,NameKind.cell) else (n,k₀))::(r.map _))=some k:=h;cases hx:x==n with
  | true=>
   simp only [List.lookup_cons,hx];by_cases hc:(k₀==NameKind.free && sc.kind== .function && sc.names.lookup n==some .cell)=true
   ·rw [if_pos hc] at h';simp only [List.lookup_cons,hx] at h';cases h';simp only [Bool.and_eq_true,beq_iff_eq] at hc;exact ⟨k₀,rfl, .inr ⟨hc.1.1,rfl⟩⟩
   ·rw [if_neg hc] at h';simp only [List.lookup_cons,hx] at h';cases h';exact ⟨_,rfl, .inl rfl⟩
  | false=>
   simp only [List.lookup_cons,hx];by_cases hc:(k₀==NameKind.free && sc.kind== .function && sc.names.lookup n==some .cell)=true
   ·rw [if_pos hc] at h';simp only [List.lookup_cons,hx] at h';exact ih h'
   ·rw [if_neg hc] at h';simp only [List.lookup_cons,hx] at h';exact ih h'
structure KaF(N:List Str)(sc scope:Scope)(own:List (Str×Nat)):Prop where
 kind:scope.kind= .function
 uniq:∀y∈scope.names,scope.names.lookup y.1=some y.2
 ix:∀p∈own,N[p.2]? =some p.1
 free:∀y∈scope.names,y.2= .free→sc.names.lookup y.1=some .cell∨sc.names.lookup y.1=some .free
 own:∀y∈scope.names,y.2= .local∨y.2= .cell→y.1∈own.map (·.1)∨y.1∉N
def wipe(σ:St):List Nat→St
 | []=>σ
 | v::vs=>(wipe σ vs).set v none
theorem u4(σ:St):∀vs:List Nat,(wipe σ vs).length=σ.length
 | []=>rfl
 | v::vs=>by unfold wipe;rw [List.length_set,u4 σ vs]
theorem Xaj{σ:St}{i:Nat}{x:V}:∀{vs:List Nat},(wipe σ vs)[i]? =some (some x)→σ[i]? =some (some x)∧i∉vs
 | [],h=>⟨h,by simp⟩
 | v::vs,h=>by
  unfold wipe at h;by_cases hi:v=i
  ·subst hi;by_cases hv:v<(wipe σ vs).length
   ·rw [List.getElem?_set_self hv] at h;cases h
   ·rw [List.getElem?_eq_none (by simpa using hv)] at h;cases h
  ·rw [List.getElem?_set_ne hi] at h;obtain ⟨h1,h2⟩:=Xaj h;exact ⟨h1,by simp only [List.mem_cons,not_or];exact ⟨fun e=>hi e.symm,h2⟩⟩
abbrev Cx.blk(X:Cx)(s:Shared)(H:Hp)(scope:Scope)(Zr:Env)(fp:List Addr):Cx:={X with s_0:=s,H_0:=H,env:=Zr,outer:=X.stack,ex:=fp,fn:=fun x=>scope.names.lookup x==some .cell,pn:= [],xe:=fun _ _=>False}
section
variable{X:Cx}{pins:List (Addr×Obj)}{σ:St}{H:Hp}{s:Shared}
theorem jaL{scope:Scope}{own:List (Str×Nat)}{fp:List Addr}(I:Inv X pins σ H s)(ok:KaF X.N X.env.scope scope own)(hN:X.N.Nodup)(hfp:∀b∈fp,Vaj X pins H b∧b<s.heap.objs.size):
  Inv (X.blk s H scope (compEnvC scope (cellsFrom (s.heap.objs.size+1) scope.names (yh X.env.cells scope.names [])) s.heap.objs.size X.env) fp) [] (wipe σ (own.map (·.2))) H {s with heap:=pushCells (s.heap.push {cls:= .type "dict",data:= .dict #[]}) scope.names}:=by
 have Vax:∀y∈scope.names,y.2= .free→∃c,X.env.cells.lookup y.1=some c:=fun y hy e=>by
  rcases ok.free y hy e with k | k
  ·exact I.ok.has _ (.inl k)
  ·exact I.ok.has _ (.inr k)
 generalize waI:compEnvC scope (cellsFrom (s.heap.objs.size+1) scope.names (yh X.env.cells scope.names [])) s.heap.objs.size X.env=Zr;have kp:∀b o,s.heap.get? b=some o→(pushCells (s.heap.push {cls:= .type "dict",data:= .dict #[]}) scope.names).get? b=some o:=fun b o e=>pushCells_keeps _ _ _ _ (Heap.get?_push_of_some _ e);have hL:Zr.locals=s.heap.objs.size:=by rw [←waI];rfl
 have K8:Zr.cells=cellsFrom (s.heap.objs.size+1) scope.names (yh X.env.cells scope.names []):=by rw [←waI];rfl
 have hsc:Zr.scope=zbr scope X.env.scope:=by rw [←waI];rfl
 rw [←Heap.size_push s.heap {cls:= .type "dict",data:= .dict #[]}] at K8;have cm:∀{y c},(y,c)∈yh X.env.cells scope.names []→X.env.cells.lookup y=some c∧c<s.heap.objs.size:=fun {y c} hm=>by
  rcases yP hm with hm | ⟨h1,rfl⟩
  ·cases hm
  ·obtain ⟨c,hc⟩:=Vax _ h1 rfl;rw [hc];obtain ⟨w,z⟩:=I.cell _ _ hc;exact ⟨rfl,z.lt⟩
 have mem:∀{y c},Zr.cells.lookup y=some c→(X.env.cells.lookup y=some c∧c<s.heap.objs.size)∨(s.heap.objs.size+1≤c∧xa0 (pushCells (s.heap.push {cls:= .type "dict",data:= .dict #[]}) scope.names) c none):=fun {y c} e=>by
  rw [K8] at e;rcases YT (PySem.mem_of_lookup e) with hm | ⟨_,h2,h3⟩
  ·exact .inl (cm hm)
  ·rw [Heap.size_push] at h2;exact .inr ⟨h2,h3⟩
 have look:∀{y},scope.names.lookup y=some .free→∃c,Zr.cells.lookup y=some c∧X.env.cells.lookup y=some c:=fun {y} hl=>by
  have hy:(y,NameKind.free)∈scope.names:=PySem.mem_of_lookup hl;obtain ⟨c',e'⟩:=mem_lookup (K5 (names:=scope.names) (n:=(s.heap.push {cls:= .type "dict",data:= .dict #[]}).objs.size) (W3 (cells:=X.env.cells) (acc:= []) hy));rw [←K8] at e';refine ⟨c',e',?_⟩;rw [K8] at e';rcases YT (PySem.mem_of_lookup e') with hm | ⟨h1,_,_⟩
  ·exact (cm hm).1
  ·have:=ok.uniq _ h1;rw [hl] at this;cases this
 have okB:(X.blk s H scope Zr fp).Ok:=by
  refine ⟨I.ok.mod,by show Zr.scope.kind=_;rw [hsc];exact ok.kind,by show Zr.globals=_;rw [←waI];exact I.ok.glob,by show Zr.builtins=_;rw [←waI];exact I.ok.blt,by show s.heap.objs.size≤Zr.locals;rw [hL];exact Nat.le_refl _,
   fun y z c e1 e2=>?_,fun y hy=>?_,fun y c z e=>?_,I.ok.hd,I.ok.frames, .inl rfl,fun b hb=>⟨?_,fun y c e z=>?_⟩,I.bs,Nat.le_trans I.ok.bsz I.sz,fun b o e hb=>?_,fun b hb z=>?_,I.stack,I.JaT⟩
  ·have e1:Zr.cells.lookup y=some c:=e1;have e2:Zr.cells.lookup z=some c:=e2;rw [K8] at e1 e2;refine Waj (fun p hp=>?_) (fun y z c a b=>I.ok.inj y z c (cm a).1 (cm b).1) (PySem.mem_of_lookup e1) (PySem.mem_of_lookup e2);rw [Heap.size_push];exact Nat.lt_succ_of_lt (cm (y:=p.1) (c:=p.2) hp).2
  ·show∃c,Zr.cells.lookup y=some c;have key:∀k,Zr.kindOf y=some k→(k= .cell∨k= .free)→∃c,Zr.cells.lookup y=some c:=fun k hk hk'=>by
    unfold Env.kindOf at hk;rw [hsc] at hk;obtain ⟨k',e,r⟩:=z5 hk;have:k'= .cell∨k'= .free:=by
     rcases r with rfl | ⟨rfl,_⟩
     ·exact hk'
     ·exact .inr rfl
    rcases this with rfl | rfl
    ·obtain ⟨c,hm⟩:=Wai (n:=(s.heap.push {cls:= .type "dict",data:= .dict #[]}).objs.size) (acc:=yh X.env.cells scope.names []) (PySem.mem_of_lookup e);obtain ⟨c',e'⟩:=mem_lookup hm;exact ⟨c',by rw [K8];exact e'⟩
    ·obtain ⟨c,h1,_⟩:=look e;exact ⟨c,h1⟩
   rcases hy with hy | hy
   ·exact key _ hy (.inl rfl)
   ·exact key _ hy (.inr rfl)
  ·have z:(scope.names.lookup y==some NameKind.cell)=true:=z;have z:scope.names.lookup y=some .cell:=by simpa using z
   have e:Zr.cells.lookup y=some c:=e;rw [K8] at e;rcases YT (PySem.mem_of_lookup e) with hm | ⟨_,h2,_⟩
   ·rcases yP hm with hm | ⟨h1,_⟩
    ·cases hm
    ·have q:=ok.uniq _ h1;rw [z] at q;cases q
   ·rw [Heap.size_push] at h2;exact Nat.le_of_succ_le h2
  ·show b≠Zr.locals;rw [hL];exact Nat.ne_of_lt (hfp b hb).2
  ·have e:Zr.cells.lookup y=some c:=e;rcases mem e with ⟨h1,_⟩ | ⟨h1,_⟩
   ·exact (hfp b hb).1.2.2.2.2.1 y c h1 z
   ·have h2:s.heap.objs.size+1≤b:=by rw [←z];exact h1
    exact absurd (Nat.lt_of_lt_of_le (hfp b hb).2 (Nat.le_of_succ_le h2)) (Nat.lt_irrefl _)
  ·rcases (hfp b hb).1.2.2.2.1 with z | z
   ·exact I.ok.KaX b o e z
   ·exact absurd (Nat.lt_of_lt_of_le (Heap.lt_size e) (Nat.le_trans I.ok.bsz z)) (Nat.lt_irrefl _)
  ·rcases List.mem_cons.mp (I.KaN b z) with z | z
   ·exact (hfp b hb).1.2.1 z
   ·exact (hfp b hb).1.2.2.1 z
 refine ⟨okB,rfl,I.bare,Un.kept kp,⟨fun _=>none,?_,fun i y av e1 e2 e3=>?_⟩,fun y c e=>?_,?_,fun y c e=>?_,fun p hp=>?_,I.Xd.kept kp,by rw [u4];exact I.len⟩
 ·show Heap.Ns _ Zr.locals _;rw [hL];exact Heap.Ns.keeps (Heap.Ns.new ..) fun b o e=>pushCells_keeps _ _ _ _ e
 ·obtain ⟨e2,KD⟩:=Xaj e2;have hfr:scope.names.lookup y=some .free∧(Zr.kindOf y=some .cell∨Zr.kindOf y=some .free):=by
   have key:∀k,Zr.scope.names.lookup y=some k→k= .local∨k= .cell∨k= .free→scope.names.lookup y=some .free∧(Zr.kindOf y=some .cell∨Zr.kindOf y=some .free):=fun k hk hk'=>by
    have hk0:=hk;rw [hsc] at hk;obtain ⟨k',e,r⟩:=z5 hk;have no:¬(k'= .local∨k'= .cell):=fun hh=>by
     rcases ok.own _ (PySem.mem_of_lookup e) hh with e' | e'
     ·obtain ⟨p,hp,hpy⟩:=List.mem_map.mp e';have e3:=ok.ix p hp;have:p.1=y:=hpy;rw [this] at e3;exact KD (List.mem_map.mpr ⟨p,hp,kar hN e3 e1⟩)
     ·exact e' (List.mem_of_getElem? e1)
    rcases r with rfl | ⟨rfl,rfl⟩
    ·rcases hk' with rfl | rfl | rfl
     ·exact absurd (.inl rfl) no
     ·exact absurd (.inr rfl) no
     ·exact ⟨e, .inr hk0⟩
    ·exact ⟨e, .inl hk0⟩
   have e3:Vis Zr.scope y:=e3;rcases e3 with e3 | e3 | e3
   ·exact key _ e3 (.inl rfl)
   ·exact key _ e3 (.inr (.inl rfl))
   ·exact key _ e3 (.inr (.inr rfl))
  obtain ⟨m,hn,hl⟩:=I.loc;have Kbs:Vis X.env.scope y:=(ok.free _ (PySem.mem_of_lookup hfr.1) rfl).elim (fun k=> .inr (.inl k)) (fun k=> .inr (.inr k));obtain ⟨w,r,q⟩:=hl i y av e1 e2 Kbs;refine ⟨w,r, .inr ⟨hfr.2,?_⟩⟩;obtain ⟨c,h1,h2⟩:=look hfr.1;rcases q with ⟨k,_⟩ | ⟨_,c',e',z⟩
  ·have k:X.env.scope.names.lookup y=some .local:=k;rcases ok.free _ (PySem.mem_of_lookup hfr.1) rfl with k' | k'<;>rw [show X.env.scope.names.lookup y=_ from k'] at k<;>cases k
  ·rw [h2] at e';cases e'
   exact ⟨c,h1,z.keeps kp⟩
 ·have e:Zr.cells.lookup y=some c:=e;rcases mem e with ⟨h1,_⟩ | ⟨_,z⟩
  ·obtain ⟨w,z⟩:=I.cell y c h1;exact ⟨w,z.keeps kp⟩
  ·exact ⟨_,z⟩
 ·show H Zr.locals=none;rw [hL];exact I.Xd.fresh (Nat.le_refl _)
 ·have e:Zr.cells.lookup y=some c:=e;rcases mem e with ⟨h1,_⟩ | ⟨h1,_⟩
  ·exact I.UN y c h1
  ·exact I.Xd.fresh (Nat.le_of_succ_le h1)
 ·exact absurd (show p∈([]:List (Addr×Obj))++ [] from hp) (by simp)
theorem zbe{E:Value→Shared→Prop}{D:Addr}{xs:List V}{y:V}{v:Value}{Q:Value→Shared→Prop}(I:Inv X pins σ H s)(hD:H D=some (.lst xs))(hz:xs.length<sizeLine)(r:RelV y v)
  (h:∀s',Inv X pins σ (upd H D (.lst (xs++ [y]))) s'→Q .none s'):wpAny (model X.prog X.w) X.A (call (.builtin "list.append") [.ref D,v]) Q E s:=by
 obtain ⟨hz',Jd,n,ri,e⟩:=I.Xd D _ hD;have hl:=ri.length;refine append_at (hsz:=by rw [List.size_toArray];omega) e fun h' sb ho'=>?_
 refine h {s with heap:=h'} (I.write (t':=s.toks) (by rw [hD];trivial) (.inl rfl) (fun b u hb q=>(sb.2 b hb).trans q) ⟨_,ho'⟩ ⟨by rw [List.length_append];exact hz,Jd++ [v],n+1,ri.append (.cons r .nil),?_⟩);rw [ho'];simp
def PTs(X:Cx)(ifs:List Expr)(t:TT):Prop:=
 ∀(pins:List (Addr×Obj)) (s:Shared) (σ:St) (H:Hp) (Q:Bool→Hp→Prop),Inv X pins σ H s→t σ H Q→
  wpAny (model X.prog X.w) X.A (forIn ifs true fun c r=>if r=true then do let ok←isTrue c X.env (eval c X.env);pure (ForInStep.yield ok) else pure (ForInStep.yield r)) (TP X pins σ Q) X.xe s
def jaj:TT:=fun _ H Q=>Q true H
theorem ZN:PTs X [] jaj:=fun _ _ _ H _ I h=>wpAny_tests_nil ⟨H,I,h⟩
theorem yH{c:Expr}{t:TT}(h:PT X c t):PTs X [c] t:=fun pins s σ H Q I hw=>wpAny_tests_one (h pins s σ H Q I hw)
end
theorem UaP{α:Type}{t:Sem α}{Q Q':α→Shared→Prop}{M:Model}{A:Around}{E:Value→Shared→Prop}{s:Shared}(h:wpAny M A t Q (fun _ _=>False) s)(hQ:∀a s,Q a s→Q' a s):wpAny M A t Q' E s:=wpAny_mono h hQ fun _ _ z=>False.elim z
theorem JaG{prog:Program}{w:World}{A:Around}{R:Result→Shared→Prop}{s:Shared}{elt target iter:Expr}{ifs:List Expr}{scope:Scope}{pos:Pos}{it acc:Value}{env:Env}(I:Nat→Shared→Prop)
  (turn:∀n s,I n s→wpAny (model prog w) A (pyNext it) (fun r s₁=>match r with
   | none=>R (.ok .next) s₁
   | some v=>wpAny (model prog w) A (letOwnedTupleGo target it v) (fun _ s₁'=>wpAny (model prog w) A (assign target env v) (fun _ s₂=>
     wpAny (model prog w) A (forIn ifs true fun c r=>if r=true then do let ok←isTrue c env (eval c env);pure (ForInStep.yield ok) else pure (ForInStep.yield r)) (fun ok s₃=>
      if ok=true then wpAny (model prog w) A (eval elt env) (fun x s₄=>
       wpAny (model prog w) A (call (.builtin "list.append") [acc,x]) (fun _ s₅=>∃m,m<n∧I m s₅) (notedBy (model prog w) A env fun e s'=>R (.error e) s') s₄) (notedBy (model prog w) A env fun e s'=>R (.error e) s') s₃
      else∃m,m<n∧I m s₃) (notedBy (model prog w) A env fun e s'=>R (.error e) s') s₂) (notedBy (model prog w) A env fun e s'=>R (.error e) s') s₁') (notedBy (model prog w) A env fun e s'=>R (.error e) s') s₁) (notedBy (model prog w) A env fun e s'=>R (.error e) s') s)
  (n:Nat) (h:I n s):
  codeAny (model prog w) A (.compLoop (.ListComp elt [⟨target,iter,ifs,0⟩] scope pos) 0 it acc env) R s:=by
 refine codeAny_loop rfl I (fun n s hI=>?_) n h;show wpAny _ A ((compTurn (.ListComp elt [⟨target,iter,ifs,0⟩] scope pos) 0 it acc env).onRaise (fun x=>do noteFrame x env;theTreesLotGoes x)) _ _ s;refine wpAny_noted ?_;rw [compTurn_list];refine wpAny_bind (wpAny_standAt (wpAny_bind (wpAny_mono (turn n s hI) (fun r s₁ h₁=>?_) fun _ _ h'=>h')));cases r with
 | none=>exact wpAny_pure h₁
 | some v=>
  refine wpAny_bind (wpAny_mono h₁ (fun _ s₁' h₁'=>?_) fun _ _ h'=>h');refine wpAny_bind (wpAny_mono h₁' (fun _ s₂ h₂=>wpAny_bind (wpAny_mono h₂ (fun ok s₃ h₃=>?_) fun _ _ h'=>h')) fun _ _ h'=>h');cases ok with
  | false=>exact wpAny_pure ⟨rfl,h₃⟩
  | true=>
   exact wpAny_bind (wpAny_bind (wpAny_mono h₃ (fun x s₄ h₄=>wpAny_bind (wpAny_mono h₄ (fun _ s₅ h₅=>wpAny_pure (wpAny_pure ⟨rfl,h₅⟩)) fun _ _ h'=>h')) fun _ _ h'=>h'))
section
variable{X:Cx}
def tLc(wi:TI)(g:TG)(tt:TT)(te:TE)(vs:List Nat):TE:=fun σ H Q=>wi σ H fun J H1=>∀D,H1 D=none→∃W:Nat→Nat→Hp→Prop,(∃m,W 0 m (upd H1 D (.lst [])))∧∀i m H,W i m H→
 (J.stop i H∧Q (.ref D) H)∨(J.go i H∧∃Nx:Hp→Prop,(∀H',Nx H'→∃m',m'<m∧W (i+1) m' H')∧∀x H',J.yld i H x H'→g x (wipe σ vs) H' fun σ2 H2=>wipe σ2 vs=wipe σ vs∧tt σ2 H2 fun b H3=>
  if b=true then te σ2 H3 fun y H4=>∃acc,H4 D=some (.lst acc)∧acc.length<sizeLine∧Nx (upd H4 D (.lst (acc++ [y]))) else Nx H3)
theorem zaV{pins:List (Addr×Obj)}{s:Shared}{σ:St}{H:Hp}{Q:VK}{elt tg iter:Expr}{ifs:List Expr}{scope:Scope}{own:List (Str×Nat)}{pos pos':Pos}{wi:TI}{g:TG}{tt:TT}{te:TE}{use:Option (Value→Sem Unit)}{Qf:Value→Shared→Prop}
  (hc:X.calm=true) (hN:X.N.Nodup) (I:Inv X pins σ H s) (hi:PI X tg iter wi) (ok:KaF X.N X.env.scope scope own)
  (hg:∀(s:Shared) (H:Hp) (C:Addr) (cl:List (Str×Addr)) (fp:List Addr),PG (X.blk s H scope (compEnvC scope cl C X.env) fp) tg g) (ht:∀(s:Shared) (H:Hp) (C:Addr) (cl:List (Str×Addr)) (fp:List Addr),PTs (X.blk s H scope (compEnvC scope cl C X.env) fp) ifs tt)
  (he:∀(s:Shared) (H:Hp) (C:Addr) (cl:List (Str×Addr)) (fp:List Addr),PE (X.blk s H scope (compEnvC scope cl C X.env) fp) elt te) (hs:∀x,foldedSetIterable iter X.env x=pure x)
  (h:tLc wi g tt te (own.map (·.2)) σ H Q)
  (hRR:∀D C s' m H',Inv X pins σ H' s'→Q (.ref D) H'→s'.heap.Ns C m→Vaj X pins H' C→compPost (model X.prog X.w) X.A X.xe use Qf (.ref D) C (.ok .next) s'):
  wpAny (model X.prog X.w) X.A (comprehension (.ListComp elt [⟨tg,iter,ifs,0⟩] scope pos) scope X.env pos' (newList []) false (eval iter X.env) use) Qf X.xe s:=by
 have Vax:∀y∈scope.names,y.2= .free→∃c,X.env.cells.lookup y.1=some c:=fun y hy e=>by
  rcases ok.free y hy e with k | k
  ·exact I.ok.has _ (.inl k)
  ·exact I.ok.has _ (.inr k)
 refine wpAny_comprehension_free (use:=use) rfl hs (KaR Vax) ok.kind (fun y hy e=>by rw [ok.uniq y hy,e])
  (zg (hi pins s σ H _ I h) fun xv s1 hx=>zg hx fun itv s2 h2=>?_)
 obtain ⟨it,fp,tn,J,H2,e,I2,T,st2,f2,q⟩:=h2;subst e;refine wpAny_newObj_type (VaM ?_) (by show 0≤sizeLine;decide);generalize hD:s2.heap.objs.size=D;have hDn:H2 D=none:=I2.Xd.fresh (Nat.le_of_eq hD);obtain ⟨W,⟨m0,w0⟩,turn⟩:=q D hDn;generalize hs3:({s2 with heap:=s2.heap.push {cls:= .type "list",data:= .seq ([]:List Value).toArray}}:Shared)=s3;have I3:Inv X pins σ (upd H2 D (.lst [])) s3:=by
  rw [←hs3];refine I2.laid (t':=s2.toks) (fun b o e=>Heap.get?_push_of_some _ e) (Nat.le_of_eq hD) ⟨Nat.zero_le _, [],0, .nil,?_⟩;rw [←hD];exact Heap.get?_push_size _ rfl
 have h3:s3.heap=s2.heap.push {cls:= .type "list",data:= .seq ([]:List Value).toArray}:=by rw [←hs3]
 have sz:∀b∈fp,b<s2.heap.objs.size:=fun b hb=>by
  obtain ⟨o,e,_⟩:=T.obj _ _ st2 b hb;exact Heap.lt_size e
 have f3:∀b∈fp,Vaj X pins (upd H2 D (.lst [])) b∧b<s3.heap.objs.size:=fun b hb=>by
  have XF:=sz b hb;refine ⟨⟨?_,(f2 b hb).2⟩,by rw [h3,Heap.size_push];exact Nat.lt_succ_of_lt XF⟩;rw [Va (by rw [←hD];exact Nat.ne_of_lt XF)];exact (f2 b hb).1
 have st3:tn 0 s3.heap:=T.keep _ _ _ st2 fun b _ o e=>by rw [h3];exact Heap.get?_push_of_some _ e
 have I4:=jaL I3 ok hN f3;have pg:=hg s3 (upd H2 D (.lst [])) s3.heap.objs.size (cellsFrom (s3.heap.objs.size+1) scope.names (yh X.env.cells scope.names [])) fp;have pt:=ht s3 (upd H2 D (.lst [])) s3.heap.objs.size (cellsFrom (s3.heap.objs.size+1) scope.names (yh X.env.cells scope.names [])) fp;have pe:=he s3 (upd H2 D (.lst [])) s3.heap.objs.size (cellsFrom (s3.heap.objs.size+1) scope.names (yh X.env.cells scope.names [])) fp;show codeAny _ _ (.compStart (.ListComp elt [⟨tg,iter,ifs,0⟩] scope pos) 0 (.ref it) (.ref D) (compEnvC scope (cellsFrom (s3.heap.objs.size+1) scope.names (yh X.env.cells scope.names [])) s3.heap.objs.size X.env)) (compPost (model X.prog X.w) X.A X.xe use Qf (.ref D) s3.heap.objs.size) {s3 with heap:=pushCells (s3.heap.push {cls:= .type "dict",data:= .dict #[]}) scope.names};have nfp:∀b∈fp,(upd H2 D (.lst [])) b=none:=fun b hb=>(f3 b hb).1.1;generalize hce:compEnvC scope (cellsFrom (s3.heap.objs.size+1) scope.names (yh X.env.cells scope.names [])) s3.heap.objs.size X.env=ce at I4 pg pt pe⊢;have cL:ce.locals=s3.heap.objs.size:=by subst hce;rfl
 generalize hH3:upd H2 D (.lst [])=H3 at I3 I4 pg pt pe w0 nfp f3;generalize hs4:({s3 with heap:=pushCells (s3.heap.push {cls:= .type "dict",data:= .dict #[]}) scope.names}:Shared)=s4 at I4⊢;have st4:tn 0 s4.heap:=T.keep _ _ _ st3 fun b _ o e=>by rw [←hs4];exact pushCells_keeps _ _ _ _ (Heap.get?_push_of_some _ e)
 have stat:∀{σ':St} {H':Hp} {s':Shared},Inv (X.blk s3 H3 scope ce fp) [] σ' H' s'→(∀b∈fp,H' b=none)→∀b∈fp,Vaj (X.blk s3 H3 scope ce fp) [] H' b:=fun {σ' H' s'} I' hn b hb=>
  ⟨hn b hb,(I'.ok.exf b hb).1,I'.ok.kaZ b hb, .inl hb,fun x c e=>(I'.ok.exf b hb).2 x c e,fun p hp=>absurd (show p∈([]:List (Addr×Obj))++ [] from hp) (by simp)⟩
 have loop:codeAny (model X.prog X.w) X.A (.compLoop (.ListComp elt [⟨tg,iter,ifs,0⟩] scope pos) 0 (.ref it) (.ref D) ce) (compPost (model X.prog X.w) X.A X.xe use Qf (.ref D) s3.heap.objs.size) s4:=by
  refine JaG (fun n s'=>∃i H',Inv (X.blk s3 H3 scope ce fp) [] (wipe σ (own.map (·.2))) H' s'∧tn i s'.heap∧(∀b∈fp,H' b=none)∧W i n H') ?_ m0 ⟨0,H3,I4,st4,nfp,w0⟩
  rintro n s5 ⟨i,H5,I5,st5,n5,w5⟩
  rcases turn i n H5 w5 with ⟨stop,qq⟩ | ⟨go,Nx,hNx,step⟩
  ·have td:=T.done (X.blk s3 H3 scope ce fp) rfl rfl rfl hc i [] s5 _ H5 (fun _ _=>False) I5 (stat I5 n5) st5 stop;refine UaP td fun r s6 ⟨hr,I6⟩=>?_;subst hr;have I7:Inv X pins σ H5 s6:=I3.Wbn (ch:=fp) I6.os I6.base I6.Xd I6.bare fun b hb=>⟨(f3 b hb).1.2.2.2.1,(f3 b hb).1.2.1,(f3 b hb).1.2.2.2.2.1,(f3 b hb).1.2.2.2.2.2⟩;have nC:H5 s3.heap.objs.size=none:=by
    have z:H5 ce.locals=none:=I6.free;rw [cL] at z;exact z
   obtain ⟨m,hn,_⟩:=I6.loc;have hn:s6.heap.Ns ce.locals m:=hn;rw [cL] at hn;exact hRR D s3.heap.objs.size s6 m H5 I7 qq hn (I3.zaX (Nat.le_refl _) nC)
  ·have ti:=T.item (X.blk s3 H3 scope ce fp) rfl rfl rfl hc i [] s5 _ H5 (fun _ _=>False) I5 (stat I5 n5) st5 go;refine UaP ti fun r s6 ⟨u,hr,h6⟩=>?_;subst hr;refine UaP h6 fun _ s7 ⟨x,H7,I7,r7,y7,st7,n7⟩=>?_;have I7':=I7.pinned (stat I7 n7) (T.obj _ _ st7);refine UaP (pg _ s7 _ H7 x u _ I7' r7 (step x H7 y7)) fun _ s8 ⟨σ8,H8,I8,hw8,q8⟩=>?_;refine UaP (pt _ s8 σ8 H8 _ I8 q8) fun b s9 ⟨H9,I9,q9⟩=>?_;have fin:∀{s':Shared} {H':Hp},Inv (X.blk s3 H3 scope ce fp) ([]++Uap fp s7.heap) σ8 H' s'→Nx H'→∃m,m<n∧∃i H',Inv (X.blk s3 H3 scope ce fp) [] (wipe σ (own.map (·.2))) H' s'∧tn i s'.heap∧(∀b∈fp,H' b=none)∧W i m H':=fun {s' H'} I' nx=>by
    obtain ⟨m',hm,w'⟩:=hNx H' nx;have pin':∀b∈fp,∀o,s7.heap.get? b=some o→s'.heap.get? b=some o∧H' b=none:=fun b hb o e=>
     let z:=I'.pin (b,o) (List.mem_append_right _ (List.mem_append_right _ (zac hb e)))
     ⟨z.1,z.2.1⟩
    have hl:(wipe σ (own.map (·.2))).length=σ8.length:=by rw [←hw8,u4]
    refine ⟨m',hm,i+1,H',(I'.uae (pins:= [])).weak hl (fun j v e=>?_),T.keep _ _ _ st7 fun b hb o e=>(pin' b hb o e).1,fun b hb=>?_,w'⟩
    ·rw [←hw8] at e;exact (Xaj e).1
    ·obtain ⟨o,e,_⟩:=T.obj _ _ st7 b hb;exact (pin' b hb o e).2
   cases b with
   | false=>
    simp only [Bool.false_eq_true,if_false] at q9⊢;exact fin I9 q9
   | true=>
    simp only [if_true] at q9⊢;refine UaP (pe _ s9 σ8 H9 _ I9 q9) fun z s10 ⟨yv,H10,I10,r10,acc,jbs,Jbs,nx⟩=>?_;exact zbe (X:=X.blk s3 H3 scope ce fp) I10 jbs Jbs r10 fun s11 I11=>fin I11 nx
 exact codeAny_compStart_list loop (T.self X.A 0 _ _ _ st4 loop)
theorem zY{elt tg iter:Expr}{ifs:List Expr}{scope:Scope}{own:List (Str×Nat)}{pos:Pos}{wi:TI}{g:TG}{tt:TT}{te:TE}(hc:X.calm=true)(hN:X.N.Nodup)(hi:PI X tg iter wi)(ok:KaF X.N X.env.scope scope own)
  (hg:∀(s:Shared) (H:Hp) (C:Addr) (cl:List (Str×Addr)) (fp:List Addr),PG (X.blk s H scope (compEnvC scope cl C X.env) fp) tg g) (ht:∀(s:Shared) (H:Hp) (C:Addr) (cl:List (Str×Addr)) (fp:List Addr),PTs (X.blk s H scope (compEnvC scope cl C X.env) fp) ifs tt)
  (he:∀(s:Shared) (H:Hp) (C:Addr) (cl:List (Str×Addr)) (fp:List Addr),PE (X.blk s H scope (compEnvC scope cl C X.env) fp) elt te) (hs:∀x,foldedSetIterable iter X.env x=pure x:=by intro _;rfl):
  PE X (.ListComp elt [⟨tg,iter,ifs,0⟩] scope pos) (tLc wi g tt te (own.map (·.2))):=by
 intro pins s σ H Q I h;rw [eval_ListComp];refine zaV hc hN I hi ok hg ht he hs h fun D C s' m H' I' q hn f=>⟨m,hn,fun h'' sb=>?_⟩;obtain ⟨f0,f1,f2,f3,f4,f5⟩:=f;exact ⟨.ref D,H',I'.turned (t':=s'.toks) (fun b o hb e=>(sb.2 b hb).trans e) f0 f1 f3 f4 f5,rfl,q⟩
theorem kS{i:Nat}{y:Str}{py:Pos}{elt tg iter:Expr}{ifs:List Expr}{scope:Scope}{own:List (Str×Nat)}{pos spos:Pos}{wi:TI}{g:TG}{tt:TT}{te:TE}(hc:X.calm=true)(hN:X.N.Nodup)(hy:X.N[i]? =some y)(hyl:X.env.scope.names.lookup y=some .local)
  (hsw:swapsWith (.ListComp elt [⟨tg,iter,ifs,0⟩] scope pos) (some (.Name y py)) spos.line X.env=pure true) (hi:PI X tg iter wi) (ok:KaF X.N X.env.scope scope own)
  (hg:∀(s:Shared) (H:Hp) (C:Addr) (cl:List (Str×Addr)) (fp:List Addr),PG (X.blk s H scope (compEnvC scope cl C X.env) fp) tg g) (ht:∀(s:Shared) (H:Hp) (C:Addr) (cl:List (Str×Addr)) (fp:List Addr),PTs (X.blk s H scope (compEnvC scope cl C X.env) fp) ifs tt)
  (he:∀(s:Shared) (H:Hp) (C:Addr) (cl:List (Str×Addr)) (fp:List Addr),PE (X.blk s H scope (compEnvC scope cl C X.env) fp) elt te) (hs:∀x,foldedSetIterable iter X.env x=pure x:=by intro _;rfl):
  PS X (.Assign [.Name y py] (.ListComp elt [⟨tg,iter,ifs,0⟩] scope pos) spos) (Jbj (tLc wi g tt te (own.map (·.2))) (xam i)):=by
 intro pins s σ H D I h;rw [exec_Assign_Name_used _ _ _ _ hsw];refine wpAny_bind (wpAny_standAt (wpAny_bind ?_));show wpAny _ X.A (do let _←comprehension (.ListComp elt [⟨tg,iter,ifs,0⟩] scope pos) scope X.env (firstIterPos [⟨tg,iter,ifs,0⟩] pos) (newList []) false (eval iter X.env) (some (assign (.Name y py) X.env))) _ _ s;have h:tLc wi g tt te (own.map (·.2)) σ H (fun x H1=>xam i x σ H1 D.nx):=h;refine wpAny_bind (zg (zaV (Qf:=fun _ s'=>SP X pins D .next s') hc hN I hi ok hg ht he hs h fun L C s' m H' I' q hn f=>?_) fun _ s' hq=>wpAny_pure (wpAny_pure hq));show wpAny _ _ (assign (.Name y py) X.env (.ref L)) _ _ _;refine wpAny_assign_Name (QaD (v:=V.ref L) I' hN hy (.inl hyl) rfl (fun s2 I2 ⟨a,sb,ha⟩=>?_) (.inr hyl));obtain ⟨f0,f1,f2,f3,f4,f5⟩:=f;have haC:C≠a:=by
  rcases ha with z | z
  ·rw [z];exact f1
  ·exact fun e=>f4 y a z e.symm
 refine ⟨m,hn.sameBut sb haC,fun h3 sb3=>?_⟩;exact ⟨_,H',I2.turned (t':=s2.toks) (fun b o hb e=>(sb3.2 b hb).trans e) f0 f1 f3 f4 f5,q⟩
theorem V3{elt:Expr}{gs:List Comprehension}{scope:Scope}{pos py:Pos}{y:Str}{l:Nat}{env:Env}(hk:env.scope.kind= .function)(hy:env.scope.names.lookup y=some .local)(hl:(py.line==pos.line)=true)
  (ha:(scope.names.any fun (n,k)=>n==y && (k== .local || k== .cell))=false):swapsWith (.ListComp elt gs scope pos) (some (.Name y py)) l env=pure true:=by
 have ky:env.kindOf y=some .local:=hy;have hb:env.blockKind= .function:=by unfold Env.blockKind;rw [hk];rfl
 unfold swapsWith;simp only [hb,ky,ha,Expr.pos,hl];rfl
end
theorem Ja2{lo:Int}{n:Nat}{g:TG}{tt:TT}{te:TE}{vs:List Nat}{σ:St}{H1:Hp}{D:Addr}{Qd:Hp→Prop}(Pv:Nat→Hp→Prop)(h0:Pv 0 (upd H1 D (.lst [])))
  (hs:∀i H,i<n→Pv i H→g (.int (lo+i)) (wipe σ vs) H fun σ2 H2=>wipe σ2 vs=wipe σ vs∧tt σ2 H2 fun b H3=>
   if b=true then te σ2 H3 fun y H4=>∃acc,H4 D=some (.lst acc)∧acc.length<sizeLine∧Pv (i+1) (upd H4 D (.lst (acc++ [y]))) else Pv (i+1) H3) (hd:∀H,Pv n H→Qd H):
  ∃W:Nat→Nat→Hp→Prop,(∃m,W 0 m (upd H1 D (.lst [])))∧∀i m H,W i m H→
   ((Itr lo n).stop i H∧Qd H)∨((Itr lo n).go i H∧∃Nx:Hp→Prop,(∀H',Nx H'→∃m',m'<m∧W (i+1) m' H')∧∀x H',(Itr lo n).yld i H x H'→g x (wipe σ vs) H' fun σ2 H2=>wipe σ2 vs=wipe σ vs∧tt σ2 H2 fun b H3=>
    if b=true then te σ2 H3 fun y H4=>∃acc,H4 D=some (.lst acc)∧acc.length<sizeLine∧Nx (upd H4 D (.lst (acc++ [y]))) else Nx H3):=by
 refine ⟨fun i m H=>m=n-i∧i≤n∧Pv i H,⟨n,by simp,Nat.zero_le _,h0⟩,?_⟩
 rintro i m H ⟨rfl,hi,p⟩
 by_cases XF:i<n
 ·refine .inr ⟨XF,Pv (i+1),fun H' p'=>⟨n- (i+1),by omega,rfl,XF,p'⟩,fun x H' y=>?_⟩;obtain ⟨e,y⟩:=y;subst e y;exact hs i _ XF p
 ·have e:i=n:=by omega
  subst e;exact .inl ⟨Nat.le_refl _,hd H p⟩
theorem yba{K:PySem.W.Frag}{a:Addr}{xs:List V}{g:TG}{tt:TT}{te:TE}{vs:List Nat}{σ:St}{H1:Hp}{D:Addr}{Qd:Hp→Prop}(Pv:Nat→Hp→Prop)(h0:Pv 0 (upd H1 D (.lst [])))(hl:∀i H,i≤xs.length→Pv i H→xb K H a xs)
  (hs:∀i x H,xs[i]? =some x→Pv i H→g x (wipe σ vs) H fun σ2 H2=>wipe σ2 vs=wipe σ vs∧tt σ2 H2 fun b H3=>
   if b=true then te σ2 H3 fun y H4=>∃acc,H4 D=some (.lst acc)∧acc.length<sizeLine∧Pv (i+1) (upd H4 D (.lst (acc++ [y]))) else Pv (i+1) H3) (hd:∀H,Pv xs.length H→Qd H):
  ∃W:Nat→Nat→Hp→Prop,(∃m,W 0 m (upd H1 D (.lst [])))∧∀i m H,W i m H→
   ((Itl K a).stop i H∧Qd H)∨((Itl K a).go i H∧∃Nx:Hp→Prop,(∀H',Nx H'→∃m',m'<m∧W (i+1) m' H')∧∀x H',(Itl K a).yld i H x H'→g x (wipe σ vs) H' fun σ2 H2=>wipe σ2 vs=wipe σ vs∧tt σ2 H2 fun b H3=>
    if b=true then te σ2 H3 fun y H4=>∃acc,H4 D=some (.lst acc)∧acc.length<sizeLine∧Nx (upd H4 D (.lst (acc++ [y]))) else Nx H3):=by
 refine ⟨fun i m H=>m=xs.length-i∧i≤xs.length∧Pv i H,⟨xs.length,by simp,Nat.zero_le _,h0⟩,?_⟩
 rintro i m H ⟨rfl,hi,p⟩
 have q:=hl i H hi p;by_cases XF:i<xs.length
 ·refine .inr ⟨⟨xs,xs[i],q,by simp [XF]⟩,Pv (i+1),fun H' p'=>⟨xs.length- (i+1),by omega,rfl,XF,p'⟩,fun x H' y=>?_⟩;obtain ⟨e,y⟩:=y;subst e;exact hs i x _ (y xs q) p
 ·have e:i=xs.length:=by omega
  subst e;exact .inl ⟨⟨xs,q,Nat.le_refl _⟩,hd H p⟩
def ybk(N:List Str)(sc scope:Scope)(own:List (Str×Nat)):Bool:=
 (match scope.kind with | .function=>true | _=>false) && (scope.names.all fun y=>decide (scope.names.lookup y.1=some y.2)) && (own.all fun p=>decide (N[p.2]? =some p.1)) &&
  (scope.names.all fun y=>match y.2 with
   | .free=>(match sc.names.lookup y.1 with | some .cell=>true | some .free=>true | _=>false)
   | .local=>decide (y.1∈own.map (·.1)) || decide (y.1∉N)
   | .cell=>decide (y.1∈own.map (·.1)) || decide (y.1∉N)
   | _=>true)
theorem Wh{N:List Str}{sc scope:Scope}{own:List (Str×Nat)}(h:ybk N sc scope own=true):KaF N sc scope own:=by
 unfold ybk at h;simp only [Bool.and_eq_true,List.all_eq_true,decide_eq_true_eq] at h;obtain ⟨⟨⟨h1,h2⟩,h3⟩,h4⟩:=h;refine ⟨?_,h2,h3,fun y hy e=>?_,fun y hy e=>?_⟩
 ·split at h1
  ·assumption
  ·cases h1
 ·have q:=h4 y hy;simp only [e] at q;split at q<;>first | exact .inl (by assumption) | exact .inr (by assumption) | cases q
 ·have q:=h4 y hy;rcases e with e | e<;>(simp only [e,Bool.or_eq_true,decide_eq_true_eq] at q;exact q)
end L2
namespace L2
open PySem PySem.Spec PyProof.Rows
section
variable{κ:Type} [DecidableEq κ]
def yA(Yb:List (κ×V))(k:κ):Option V:=(Yb.find? fun kv=>decide (kv.1=k)).map (·.2)
def putK(Yb:List (κ×V))(k:κ)(v:V):List (κ×V):=
 if (Yb.any fun kv=>decide (kv.1=k))=true then Yb.map (fun kv=>if kv.1=k then (kv.1,v) else kv) else Yb++ [(k,v)]
theorem yas{p:κ×V}{r:List (κ×V)}{k:κ}(e:p.1=k):yA (p::r) k=some p.2:=by simp [yA,List.find?_cons,e]
theorem Xar{p:κ×V}{r:List (κ×V)}{k:κ}(e:¬p.1=k):yA (p::r) k=yA r k:=by simp [yA,List.find?_cons,e]
theorem zas(k:κ):∀Yb:List (κ×V),(Yb.any fun kv=>decide (kv.1=k))=(yA Yb k).isSome
 | []=>rfl
 | p::r=>by
  rw [List.any_cons];by_cases e:p.1=k
  ·simp only [yas e,decide_eq_true e,Bool.true_or,Option.isSome_some]
  ·rw [Xar e,decide_eq_false e,Bool.false_or];exact zas k r
theorem J4(Yb:List (κ×V))(k:κ)(v:V):(putK Yb k v).length≤Yb.length+1:=by
 unfold putK;split
 ·rw [List.length_map];omega
 ·rw [List.length_append,List.length_cons,List.length_nil];omega
theorem Wa2{Yb:List (κ×V)}{k:κ}(v:V)(h:yA Yb k=none):putK Yb k v=Yb++ [(k,v)]:=by
 unfold putK;rw [zas,h];exact if_neg (by decide)
theorem je.XaY{o:Option V}{u:Option Value}(r:je o u):o.isSome=u.isSome:=by
 cases o with
 | none=>cases u with
  | none=>rfl
  | some _=>exact (show False from r).elim
 | some _=>cases u with
  | none=>exact (show False from r).elim
  | some _=>rfl
theorem je.getD{o:Option V}{u:Option Value}{d:V}{d':Value}(r:je o u)(rd:RelV d d'):RelV (o.getD d) (u.getD d'):=by
 cases o with
 | none=>cases u with
  | none=>exact rd
  | some _=>exact (show False from r).elim
 | some _=>cases u with
  | none=>exact (show False from r).elim
  | some _=>exact r
theorem KV.val{Yb:List (κ×V)}{vs:List (κ×Value)}(r:KV Yb vs)(k:κ):je (yA Yb k) (valueAt vs k):=by
 unfold KV at r;induction r with
 | nil=>exact True.intro
 | @cons p q ps qs h t ih=>
  obtain ⟨h1,h2⟩:=h;by_cases e:p.1=k
  ·have e':q.1=k:=h1.symm.trans e;have b:valueAt (q::qs) k=some q.2:=by simp [valueAt,List.find?_cons,e']
   rw [yas e,b];exact h2
  ·have e':¬q.1=k:=fun z=>e (h1.trans z);have b:valueAt (q::qs) k=valueAt qs k:=by simp [valueAt,List.find?_cons,e']
   rw [Xar e,b];exact ih
theorem KV.any{Yb:List (κ×V)}{vs:List (κ×Value)}(r:KV Yb vs)(k:κ):(Yb.any fun kv=>decide (kv.1=k))=vs.any fun kv=>decide (kv.1=k):=by
 unfold KV at r;induction r with
 | nil=>rfl
 | cons h t ih=>rw [List.any_cons,List.any_cons,ih,h.1]
theorem KV.Ybd{Yb:List (κ×V)}{vs:List (κ×Value)}(r:KV Yb vs)(k:κ){y:V}{u:Value}(ry:RelV y u):
  KV (Yb.map fun kv=>if kv.1=k then (kv.1,y) else kv) (vs.map fun kv=>if kv.1=k then (kv.1,u) else kv):=by
 unfold KV at r⊢;induction r with
 | nil=>exact .nil
 | @cons p q ps qs h t ih=>
  rw [List.map_cons,List.map_cons];refine .cons ?_ ih;obtain ⟨h1,h2⟩:=h;by_cases e:p.1=k
  ·rw [if_pos e,if_pos (h1.symm.trans e)];exact ⟨h1,ry⟩
  ·rw [if_neg e,if_neg (fun z=>e (h1.trans z))];exact ⟨h1,h2⟩
theorem KV.put{Yb:List (κ×V)}{vs:List (κ×Value)}(r:KV Yb vs)(k:κ){y:V}{u:Value}(ry:RelV y u):KV (putK Yb k y) (stored vs k u):=by
 unfold putK stored;rw [r.any k];by_cases e:(vs.any fun kv=>decide (kv.1=k))=true
 ·rw [if_pos e,if_pos e];exact r.Ybd k ry
 ·rw [if_neg e,if_neg e];exact Paired.snoc r ⟨rfl,ry⟩
theorem KV.length{Yb:List (κ×V)}{vs:List (κ×Value)}(r:KV Yb vs):Yb.length=vs.length:=Paired.length r
end
theorem jaF{P:Program}{w:World}{k:Key}{u:Value}(r:RelV (kV k) u):(Vg P w).is k u=true:=by
 cases k with
 | inl i=>obtain ⟨t,e⟩:=(show∃t,u=Value.int i t from r);subst e;exact kaM P w i t
 | inr x=>obtain ⟨t,e⟩:=(show∃t,u=Value.str x t from r);subst e;exact VaN P w x t
theorem YaC{P:Program}{w:World}:∀{ks:List Key} {us:List Value},Vals (ks.map kV) us→ItemsAre (Vg P w) ks us
 | [],_,r=>by rw [List.map_nil] at r;cases r;exact .nil
 | k::ks,_,r=>by
  rw [List.map_cons] at r;cases r with
  | cons h t=>exact .cons (jaF h) (YaC t)
abbrev KT(H:Hp):List (List Key×V)→List (List Key×Addr×Value)→Prop:=Paired fun p q=>p.1=q.1∧H q.2.1=some (.tup (p.1.map kV))∧RelV p.2 q.2.2
theorem KT.val{H:Hp}{Yb:List (List Key×V)}{xs:List (List Key×Addr×Value)}(r:KT H Yb xs)(k:List Key):je (yA Yb k) ((atKey xs k).map (·.2)):=by
 induction r with
 | nil=>exact True.intro
 | @cons p q ps qs h t ih=>
  obtain ⟨h1,_,h2⟩:=h;by_cases e:p.1=k
  ·have e':q.1=k:=h1.symm.trans e;have b:atKey (q::qs) k=some q.2:=by simp [atKey,List.find?_cons,e']
   rw [yas e,b];exact h2
  ·have e':¬q.1=k:=fun z=>e (h1.trans z);have b:atKey (q::qs) k=atKey qs k:=by simp [atKey,List.find?_cons,e']
   rw [Xar e,b];exact ih
theorem KT.Ybd{H:Hp}{Yb:List (List Key×V)}{xs:List (List Key×Addr×Value)}(r:KT H Yb xs)(k:List Key){y:V}{u:Value}(ry:RelV y u):
  KT H (Yb.map fun kv=>if kv.1=k then (kv.1,y) else kv) (xs.map (putAt k u)):=by
 induction r with
 | nil=>exact .nil
 | @cons p q ps qs h t ih=>
  rw [List.map_cons,List.map_cons];refine .cons ?_ ih;obtain ⟨h1,h2,h3⟩:=h;unfold putAt;by_cases e:p.1=k
  ·rw [if_pos e,if_pos (h1.symm.trans e)];exact ⟨h1,h2,ry⟩
  ·rw [if_neg e,if_neg (fun z=>e (h1.trans z))];exact ⟨h1,h2,h3⟩
theorem KT.put{H:Hp}{Yb:List (List Key×V)}{xs:List (List Key×Addr×Value)}(r:KT H Yb xs)(k:List Key){b:Addr}{y:V}{u:Value}(hb:H b=some (.tup (k.map kV)))(ry:RelV y u):
  KT H (putK Yb k y) (storedH xs k b u):=by
 have e:(Yb.any fun kv=>decide (kv.1=k))=(atKey xs k).isSome:=by
  rw [zas,(r.val k).XaY,Option.isSome_map]
 unfold putK storedH;rw [e];by_cases q:(atKey xs k).isSome=true
 ·rw [if_pos q,if_pos q];exact r.Ybd k ry
 ·rw [if_neg q,if_neg q];exact Paired.snoc r ⟨rfl,hb,ry⟩
theorem KT.keeps{H H':Hp}{Yb:List (List Key×V)}{xs:List (List Key×Addr×Value)}(r:KT H Yb xs)(ht:∀b ys,H b=some (.tup ys)→H' b=some (.tup ys)):KT H' Yb xs:=
 Paired.Uao r fun _ _ z=>⟨z.1,ht _ _ z.2.1,z.2.2⟩
section
variable{P:Program}{w:World}{H:Hp}{h:Heap}{a:Addr}
theorem Ybc{u:HO}(ok:jG P w H h)(e:Rd H a u):Kh P w H h a u:=e.ok ok
theorem xaw{Yb:List (Key×V)}(ok:jG P w H h)(e:Rd H a (.dK Yb)):Yb.length≤sizeLine∧(a==sysModules)=false∧∃vs,KV Yb vs∧h.DictOf (Vg P w) a vs:=
 show Kh P w H h a (.dK Yb) from Ybc ok e
theorem Zbc{Yb:List (Key×V)}(ok:jG P w H h)(e:H a=some (.dK Yb)):Yb.length≤sizeLine∧(a==sysModules)=false∧∃vs,KV Yb vs∧h.DictOf (Vg P w) a vs:=xaw ok (.inl e)
theorem Xaf{ks:List Key}(ok:jG P w H h)(e:H a=some (.tup (ks.map kV))):(tupleKind (Vg P w)).is h ks a:=by
 obtain ⟨_,Jd,r,o,h1,h2,n,h3⟩:=(show Kh P w H h a (.tup (ks.map kV)) from ok a _ e);exact ⟨o,Jd.toArray,n,h1,h2,h3,by simpa using YaC r⟩
theorem Xaw{Yb:List (List Key×V)}(ok:jG P w H h)(e:Rd H a (.dT Yb)):Yb.length≤sizeLine∧(a==sysModules)=false∧
  ∃xs,KT H Yb xs∧h.DictOfH (tupleKind (Vg P w)) a xs:=by
 obtain ⟨z,y,xs,r,o,es,ep,h1,h2,h3,h4,h5⟩:=(show Kh P w H h a (.dT Yb) from Ybc ok e);refine ⟨z,y,xs,r,o,es,ep,h1,h2,h3,h4,fun x hx=>?_,h5⟩;have all:∀{l:List (List Key×V)} {m:List (List Key×Addr×Value)},KT H l m→∀x∈m,(tupleKind (Vg P w)).is h x.1 x.2.1:=by
  intro l m q;induction q with
  | nil=>intro x hx;exact nomatch hx
  | @cons p q ps qs hq t ih=>
   intro x hx;rcases List.mem_cons.mp hx with e | hx
   ·subst e;exact Xaf ok (by rw [←hq.1];exact hq.2.1)
   ·exact ih x hx
 exact all r x hx
theorem vbc{Yb:List (List Key×V)}(ok:jG P w H h)(e:H a=some (.dT Yb)):Yb.length≤sizeLine∧(a==sysModules)=false∧
  ∃xs,KT H Yb xs∧h.DictOfH (tupleKind (Vg P w)) a xs:=Xaw ok (.inl e)
end
def VT(H:Hp)(a:Addr)(y:V)(r:Option V):Prop:=
 (∃Yb k,Rd H a (.dK Yb)∧y=kV k∧r=yA Yb k)∨∃Yb k b,Rd H a (.dT Yb)∧y= .ref b∧H b=some (.tup (k.map kV))∧r=yA Yb k
def uaY(H:Hp)(a:Addr)(y v:V)(H':Hp):Prop:=
 (∃Yb k,H a=some (.dK Yb)∧y=kV k∧Yb.length<sizeLine∧H'=upd H a (.dK (putK Yb k v)))∨
 ∃Yb k b,H a=some (.dT Yb)∧y= .ref b∧H b=some (.tup (k.map kV))∧Yb.length<sizeLine∧H'=upd H a (.dT (putK Yb k v))
theorem VT.k{H:Hp}{a:Addr}{Yb:List (Key×V)}{k:Key}(e:H a=some (.dK Yb)):VT H a (kV k) (yA Yb k):= .inl ⟨Yb,k, .inl e,rfl,rfl⟩
theorem VT.t{H:Hp}{a b:Addr}{Yb:List (List Key×V)}{k:List Key}(e:H a=some (.dT Yb))(eb:H b=some (.tup (k.map kV))):VT H a (.ref b) (yA Yb k):= .inr ⟨Yb,k,b, .inl e,rfl,eb,rfl⟩
theorem uaY.k{H:Hp}{a:Addr}{Yb:List (Key×V)}{k:Key}{v:V}(e:H a=some (.dK Yb))(hl:Yb.length<sizeLine):uaY H a (kV k) v (upd H a (.dK (putK Yb k v))):= .inl ⟨Yb,k,e,rfl,hl,rfl⟩
section
variable{X:Cx}{pins:List (Addr×Obj)}{σ:St}{H:Hp}{s:Shared}{a:Addr}{y v:V}{u r:Value}{o:Option V}{A:Around}{E:Value→Shared→Prop}
theorem Inv.big(I:Inv X pins σ H s):sysModules<s.heap.objs.size:=by
 have h:mainGlobals<s.heap.objs.size:=(I.mod.glob.keeps I.bk).lt;exact Nat.lt_trans (by decide) h
theorem QaW{Q:Value→Shared→Prop}(hu:A.units+1<cLine)(I:Inv X pins σ H s)(g:VT H a y (some v))(ry:RelV y u)(h:∀w' s',Inv X pins σ H s'→RelV v w'→Q w' s'):
  wpAny (model X.prog X.w) A (getItem (.ref a) u) Q E s:=by
 rcases g with ⟨Yb,k,e,ey,l⟩ | ⟨Yb,k,b,e,ey,eb,l⟩
 ·subst ey;obtain ⟨z,hd,vs,rel,dd⟩:=xaw I.Xd e;obtain ⟨w',hw,rw'⟩:=je.some_of (v:=v) (o:=valueAt vs k) (by rw [l];exact rel.val k);exact wpAny_getItem_of (jaF ry) dd.mapOf hw (h w' _ (I.tok _) rw')
 ·subst ey;cases (show u=Value.ref b from ry);obtain ⟨z,hd,xs,rel,dd⟩:=Xaw I.Xd e;obtain ⟨w',hw,rw'⟩:=je.some_of (v:=v) (o:=(atKey xs k).map (·.2)) (by rw [l];exact rel.val k);obtain ⟨p,hp,hp2⟩:=Option.map_eq_some_iff.mp hw;refine wpAny_getItem_heap (tupleKind_room_in1 hu) (Xaf I.Xd eb) dd hp ?_;rw [hp2];exact h w' _ (I.tok _) rw'
theorem waE{h':Heap}{t':Nat}{ob:HO}(I:Inv X pins σ H s)(mu:Mut (H a))(hs:Heap.SameBut a s.heap h')(he:∃q,h'.get? a=some q)(new:Kh X.prog X.w (upd H a ob) h' a ob):
  Inv X pins σ (upd H a ob) {s with heap:=h',toks:=t'}:=
 I.write (x:=a) (e:=a) mu (.inl rfl) (fun b q hb z=>(hs.2 b hb).trans z) he new
theorem qbe{P:Program}{w:World}{H':Hp}{h':Heap}{Yb:List (Key×V)}{vs:List (Key×Value)}(z:Yb.length≤sizeLine)(hd:(a==sysModules)=false)(rel:KV Yb vs)(dd:h'.DictOf (Vg P w) a vs):
  Kh P w H' h' a (.dK Yb):=⟨z,hd,vs,rel,dd⟩
theorem VaZ{H':Hp}{Q:Unit→Shared→Prop}(hu:A.units+1<cLine)(I:Inv X pins σ H s)(g:uaY H a y v H')(ry:RelV y u)(rv:RelV v r)(h:∀s',Inv X pins σ H' s'→Q () s'):
  wpAny (model X.prog X.w) A (setItem (.ref a) u r) Q E s:=by
 rcases g with ⟨Yb,k,e,ey,l,eH⟩ | ⟨Yb,k,b,e,ey,eb,l,eH⟩
 ·subst ey eH;obtain ⟨z,hd,vs,rel,dd⟩:=Zbc I.Xd e;have hz:vs.length≤sizeLine:=by rw [←rel.length];exact z
  have hl:(putK Yb k v).length≤sizeLine:=by have:=J4 Yb k v;omega
  refine wpAny_setItem_pairs (hsz:=hz) (jaF ry) dd fun h' dd' hs=>h _ ?_;have he:∃q,h'.get? a=some q:=let ⟨q,_,_,hq,_⟩:=dd';⟨q,hq⟩
  exact waE I (by rw [e];exact True.intro) hs he (qbe hl hd (rel.put k rv) dd')
 ·subst ey eH;cases (show u=Value.ref b from ry);obtain ⟨z,hd,xs,rel,dd⟩:=vbc I.Xd e;have hz:xs.length≤sizeLine:=by rw [←Paired.length rel];exact z
  have hl:(putK Yb k v).length≤sizeLine:=by have:=J4 Yb k v;omega
  refine wpAny_setItem_heap (hsz:=hz) (tupleKind_room_in1 hu) (Xaf I.Xd eb) dd fun h' dd' hs=>h _ ?_;obtain ⟨q,es,ep,hq,h2,h3,h4,_,h5⟩:=dd';refine waE I (by rw [e];exact True.intro) hs ⟨q,hq⟩ ⟨hl,hd,_,(rel.put k eb rv).keeps fun c ys ec=>?_,q,es,ep,hq,h2,h3,h4,h5⟩;rw [Va (qbc ec e (fun z=>nomatch z))];exact ec
end
def Wbk(i:Expr):Prop:=∀ov iv,subscripted i false ov iv=operate [ov,iv] (getItem ov iv)
theorem Qba{prog:Program}{w:World}{A:Around}{E:Value→Shared→Prop}{s:Shared}{env:Env}{value slice:Expr}{pos:Pos}{T id:String}{Q:Value→Shared→Prop}
  (hl:typeLookup (.type T) "__getitem__"=pure (some (.builtin id))) (hs:Wbk slice)
  (h:wpAny (model prog w) A (eval value env) (fun o s₁=>wpAny (model prog w) A (eval slice env) (fun i s₂=>s₂.TypeIs o T∧wpAny (model prog w) A (getItem o i) Q E s₂) E s₁) E s):
  wpAny (model prog w) A (eval (.Subscript value slice pos) env) Q E s:=by
 refine Subscript_ (wpAny_mono h (fun o s₁ h₁=>wpAny_mono h₁ (fun i s₂ h₂=>?_) fun _ _ x=>x) fun _ _ x=>x);obtain ⟨hT,h₂⟩:=h₂;unfold subscriptTail;refine wpAny_bind ?_;rw [getitemInPython_of_ne hT.not_modules];refine wpAny_bind (wpAny_specialOf hT hl ?_);have fin:wpAny (model prog w) A (subscripted slice false o i) (fun r s₃=>wpAny (model prog w) A (letTemporaryGo value o r>>=fun _=>pure r) Q E s₃) E s₂:=by
  rw [hs o i];exact wpAny_operating (wpAny_mono h₂ (fun r s₃ h₃=>wpAny_bind (wpAny_letTemporaryGo (wpAny_pure h₃))) fun _ _ x=>x)
 first
  | exact wpAny_pure (wpAny_bind fin)
  | exact wpAny_bind (wpAny_pure (wpAny_bind fin))
  | exact wpAny_bind fin
theorem waM{X:Cx}{pins:List (Addr×Obj)}{σ:St}{H:Hp}{s:Shared}{a:Addr}{y:V}{o:Option V}(I:Inv X pins σ H s)(g:VT H a y o):s.TypeIs (.ref a) "dict":=by
 rcases g with ⟨Yb,k,e,_,_⟩ | ⟨Yb,k,b,e,_,_,_⟩
 ·obtain ⟨_,_,vs,_,dd⟩:=xaw I.Xd e;exact dd.typeIs
 ·obtain ⟨_,_,xs,_,dd⟩:=Xaw I.Xd e;exact dd.typeIs
def xbn(td ty:TE):TE:=fun σ H Q=>td σ H fun x H1=>ty σ H1 fun y H2=>∃a v,x= .ref a∧VT H2 a y (some v)∧Q v H2
def ybn(td ty tv:TE):TS:=fun D σ H=>tv σ H fun v H1=>td σ H1 fun x H2=>ty σ H2 fun y H3=>∃a H4,x= .ref a∧uaY H3 a y v H4∧D.nx σ H4
section
variable{X:Cx}{o i e value:Expr}{pos pos' tpos:Pos}{td ty tv:TE}
theorem uan(hu:X.A.units+1<cLine)(ho:PE X o td)(hi:PE X i ty)(hs:Wbk i):PE X (.Subscript o i pos) (xbn td ty):=by
 intro pins s σ H Q I h;refine Qba PySem.F.slot_dict_getitem.lookup hs (zg (ho pins s σ H _ I h) fun u s1 ⟨x,H1,I1,rx,q1⟩=>zg (hi pins s1 σ H1 _ I1 q1) fun iv s2 ⟨y,H2,I2,ry,a,v,ex,g,q2⟩=>?_);subst ex;obtain rfl:u=Value.ref a:=rx;exact ⟨waM I2 g,QaW hu I2 g ry fun w' s3 I3 rw'=>⟨v,H2,I3,rw',q2⟩⟩
theorem jba(hu:X.A.units+1<cLine)(ho:PE X o td)(hi:PE X i ty)(hv:PE X value tv)(hs:swapsWith value (some (.Subscript o i pos')) pos.line X.env=pure false):
  PS X (.Assign [.Subscript o i pos'] value pos) (ybn td ty tv):=by
 intro pins s σ H D I h;refine wpAny_Assign_Subscript (zg (hv pins s σ H _ I h) fun r s1 ⟨v,H1,I1,rv,q1⟩=>zg (ho pins s1 σ H1 _ I1 q1) fun u s2 ⟨x,H2,I2,rx,q2⟩=>zg (hi pins s2 σ H2 _ I2 q2) fun iv s3 ⟨y,H3,I3,ry,a,H4,ex,g,q3⟩=>?_) hs;subst ex;obtain rfl:u=Value.ref a:=rx;exact VaZ hu I3 g ry rv fun s4 I4=>⟨σ,H4,I4,q3⟩
end
theorem ka4{P:Program}{w:World}{H:Hp}(h:Heap)(hb:sysModules<h.objs.size):Kh P w H (h.push {cls:= .type "dict",data:= .dict #[]}) h.objs.size (.dK []):=
 ⟨Nat.zero_le _,beq_eq_false_iff_ne.mpr (Ne.symm (Nat.ne_of_lt hb)), [], .nil,Heap.DictOf.new h⟩
theorem xa3{P:Program}{w:World}{H:Hp}(h:Heap)(hb:sysModules<h.objs.size):Kh P w H (h.push {cls:= .type "dict",data:= .dict #[]}) h.objs.size (.dT []):=
 ⟨Nat.zero_le _,beq_eq_false_iff_ne.mpr (Ne.symm (Nat.ne_of_lt hb)), [], .nil,_, #[],0,Heap.get?_push_size _ rfl,⟨rfl,rfl,rfl⟩,rfl,rfl,List.nodup_nil⟩
def Xbf:TE:=fun _ H Q=>∀p,H p=none→Q (.ref p) (upd H p (.dK []))
def Zbg:TE:=fun _ H Q=>∀p,H p=none→Q (.ref p) (upd H p (.dT []))
section
variable{X:Cx}{pos:Pos}
theorem xa4:PE X (.Dict [] [] pos) Xbf:=fun pins s σ H Q I h=>
 wpAny_Dict_empty ⟨.ref s.heap.objs.size,_,I.laid (a:=s.heap.objs.size) (o:= .dK []) (t':=s.toks) (fun _ _ q=>Heap.get?_push_of_some _ q) (Nat.le_refl _) (ka4 s.heap I.big),rfl,h _ (I.Xd.fresh (Nat.le_refl _))⟩
theorem ya3:PE X (.Dict [] [] pos) Zbg:=fun pins s σ H Q I h=>
 wpAny_Dict_empty ⟨.ref s.heap.objs.size,_,I.laid (a:=s.heap.objs.size) (o:= .dT []) (t':=s.toks) (fun _ _ q=>Heap.get?_push_of_some _ q) (Nat.le_refl _) (xa3 s.heap I.big),rfl,h _ (I.Xd.fresh (Nat.le_refl _))⟩
end
structure M1(X:Cx)(o:Expr)(m:Str)(apos:Pos)(e:Expr)(Kn:Pos):Prop where
 base:attributeBase o m X.env (eval o X.env)=eval o X.env
 few:((backTo Kn (starEach [e] X.env)).all (fun x=> !x.1) && (backToKw Kn (keywordEach [] X.env)).all (fun x=>x.1.isSome)
  && decide (([e]:List Expr).length+([]:List Keyword).length+(if ([]:List Keyword).isEmpty then 0 else 1)<30))=true
 line:(apos.endLine==Kn.line)=true
 trees:backTo Kn (starEach [e] X.env)= [(false,eval e X.env)]
structure M2(X:Cx)(o:Expr)(m:Str)(apos:Pos)(e f:Expr)(Kn:Pos):Prop where
 base:attributeBase o m X.env (eval o X.env)=eval o X.env
 few:((backTo Kn (starEach [e,f] X.env)).all (fun x=> !x.1) && (backToKw Kn (keywordEach [] X.env)).all (fun x=>x.1.isSome)
  && decide (([e,f]:List Expr).length+([]:List Keyword).length+(if ([]:List Keyword).isEmpty then 0 else 1)<30))=true
 line:(apos.endLine==Kn.line)=true
 trees:backTo Kn (starEach [e,f] X.env)= [(false,eval e X.env),(false,eval f X.env)]
def IsD(H:Hp)(a:Addr):Prop:=(∃Yb,Rd H a (.dK Yb))∨∃Yb,Rd H a (.dT Yb)
theorem KaO{X:Cx}{pins:List (Addr×Obj)}{σ:St}{H:Hp}{s:Shared}{a:Addr}(I:Inv X pins σ H s)(d:IsD H a):
  s.TypeIs (.ref a) "dict"∧(∀b,Value.ref a= .ref b→∃ob,s.heap.get? b=some ob∧ob.dict=none)∧(a==sysModules)=false:=by
 rcases d with ⟨Yb,e⟩ | ⟨Yb,e⟩
 ·obtain ⟨_,hd,vs,_,dd⟩:=xaw I.Xd e;refine ⟨dd.typeIs,fun b q=>?_,hd⟩;cases q;obtain ⟨ob,_,_,h1,h2,_⟩:=dd;exact ⟨ob,h1,h2.2.1⟩
 ·obtain ⟨_,hd,xs,_,dd⟩:=Xaw I.Xd e;refine ⟨dd.typeIs,fun b q=>?_,hd⟩;cases q;obtain ⟨ob,_,_,h1,h2,_⟩:=dd;exact ⟨ob,h1,h2.2.1⟩
section
variable{X:Cx}{pins:List (Addr×Obj)}{σ:St}{H:Hp}{s:Shared}{a:Addr}{y d:V}{u r:Value}{o:Option V}{A:Around}{E:Value→Shared→Prop}
theorem vbg{Q:Value→Shared→Prop}(hu:A.units+1<cLine)(I:Inv X pins σ H s)(g:VT H a y o)(ry:RelV y u)(h:∀w' s',Inv X pins σ H s'→RelV (o.getD .non) w'→Q w' s'):
  wpAny (model X.prog X.w) A (call (.builtin "dict.get") [.ref a,u]) Q E s:=by
 rcases g with ⟨Yb,k,e,ey,l⟩ | ⟨Yb,k,b,e,ey,eb,l⟩
 ·subst ey;obtain ⟨z,hd,vs,rel,dd⟩:=xaw I.Xd e;refine call_meetsIn PySem.F.slot_dict_get dd.typeIs PySem.F.entry_dict_get (PySem.F.args_dict_get_2 _ _) (meets_dict_get (Vg X.prog X.w) a (jaF ry) hd) ⟨_,dd.mapOf,h _ _ (I.tok _) ?_⟩;rw [l];exact (rel.val k).getD rfl
 ·subst ey;cases (show u=Value.ref b from ry);obtain ⟨z,hd,xs,rel,dd⟩:=Xaw I.Xd e;refine call_meetsIn PySem.F.slot_dict_get dd.typeIs PySem.F.entry_dict_get (PySem.F.args_dict_get_2 _ _) (meetsH_dict_get (tupleKind (Vg X.prog X.w)) a b hd) ⟨tupleKind_room_in1 hu,k,xs,Xaf I.Xd eb,dd,h _ _ (I.tok _) ?_⟩;rw [l];exact (rel.val k).getD rfl
theorem Ybf{Q:Value→Shared→Prop}(hu:A.units+1<cLine)(I:Inv X pins σ H s)(g:VT H a y o)(ry:RelV y u)(rd:RelV d r)(h:∀w' s',Inv X pins σ H s'→RelV (o.getD d) w'→Q w' s'):
  wpAny (model X.prog X.w) A (call (.builtin "dict.get") [.ref a,u,r]) Q E s:=by
 rcases g with ⟨Yb,k,e,ey,l⟩ | ⟨Yb,k,b,e,ey,eb,l⟩
 ·subst ey;obtain ⟨z,hd,vs,rel,dd⟩:=xaw I.Xd e;refine call_meetsIn PySem.F.slot_dict_get dd.typeIs PySem.F.entry_dict_get (PySem.F.args_dict_get_3 _ _ _) (meets_dict_get_default (Vg X.prog X.w) a (jaF ry) hd r) ⟨_,dd.mapOf,h _ _ (I.tok _) ?_⟩;rw [l];exact (rel.val k).getD rd
 ·subst ey;cases (show u=Value.ref b from ry);obtain ⟨z,hd,xs,rel,dd⟩:=Xaw I.Xd e;refine call_meetsIn PySem.F.slot_dict_get dd.typeIs PySem.F.entry_dict_get (PySem.F.args_dict_get_3 _ _ _) (meetsH_dict_get_default (tupleKind (Vg X.prog X.w)) a b hd r) ⟨tupleKind_room_in1 hu,k,xs,Xaf I.Xd eb,dd,h _ _ (I.tok _) ?_⟩;rw [l];exact (rel.val k).getD rd
end
def Vbf(td ty:TE):TE:=fun σ H Q=>td σ H fun x H1=>∃a,x= .ref a∧IsD H1 a∧ty σ H1 fun y H2=>∃o,VT H2 a y o∧Q (o.getD .non) H2
def Vbg(td ty tx:TE):TE:=fun σ H Q=>td σ H fun x H1=>∃a,x= .ref a∧IsD H1 a∧ty σ H1 fun y H2=>tx σ H2 fun z H3=>∃o,VT H3 a y o∧Q (o.getD z) H3
section
variable{X:Cx}{o e f:Expr}{apos Kn:Pos}{td ty tx:TE}
theorem U2(hu:X.A.units+1<cLine)(ho:PE X o td)(he:PE X e ty)(m:M1 X o "get" apos e Kn):PE X (.Call (.Attribute o "get" apos) [e] [] Kn) (Vbf td ty):=by
 intro pins s σ H Q I h;refine wpAny_Call_method m.base m.few m.line PySem.F.plainAttrs_dict PySem.F.slot_dict_get PySem.F.type_dict_get (zg (ho pins s σ H _ I h) fun u s1 ⟨x,H1,I1,rx,a,ex,d,q1⟩=>?_);subst ex;obtain rfl:u=Value.ref a:=rx;obtain ⟨t1,t2,_⟩:=KaO I1 d;refine ⟨t1,t2,?_⟩;rw [m.trees];refine Calls.callWith_builtin rfl (Calls.evalArgs_plain (Calls.spliced_cons (zg (he pins s1 σ H1 _ I1 q1) fun iv s2 ⟨y,H2,I2,ry,ov,g,q2⟩=>Calls.spliced_nil ?_)));exact vbg hu I2 g ry fun w' s3 I3 rw'=>⟨_,H2,I3,rw',q2⟩
theorem ja5(hu:X.A.units+1<cLine)(ho:PE X o td)(he:PE X e ty)(hf:PE X f tx)(m:M2 X o "get" apos e f Kn):PE X (.Call (.Attribute o "get" apos) [e,f] [] Kn) (Vbg td ty tx):=by
 intro pins s σ H Q I h;refine wpAny_Call_method m.base m.few m.line PySem.F.plainAttrs_dict PySem.F.slot_dict_get PySem.F.type_dict_get (zg (ho pins s σ H _ I h) fun u s1 ⟨x,H1,I1,rx,a,ex,d,q1⟩=>?_);subst ex;obtain rfl:u=Value.ref a:=rx;obtain ⟨t1,t2,_⟩:=KaO I1 d;refine ⟨t1,t2,?_⟩;rw [m.trees];refine Calls.callWith_builtin rfl (Calls.evalArgs_plain (Calls.spliced_cons (zg (he pins s1 σ H1 _ I1 q1) fun iv s2 ⟨y,H2,I2,ry,q2⟩=>
  Calls.spliced_cons (zg (hf pins s2 σ H2 _ I2 q2) fun fv s3 ⟨z,H3,I3,rz,ov,g,q3⟩=>Calls.spliced_nil ?_))))
 exact Ybf hu I3 g ry rz fun w' s4 I4 rw'=>⟨_,H3,I4,rw',q3⟩
end
end L2
namespace L2
open PySem PySem.Spec PyProof.Rows
section
variable{X:Cx}{pins:List (Addr×Obj)}{σ:St}{H:Hp}{s:Shared}{h':Heap}
theorem Inv.XaW{t':Nat}{ch:List Addr}{T:Addr}{ob:HO}(I:Inv X pins σ H s)(k:∀b o,b∉ch→s.heap.get? b=some o→h'.get? b=some o)(hf:∀b∈ch,Vaj X pins H b)(hT:s.heap.objs.size≤T)
  (new:Kh X.prog X.w (upd H T ob) h' T ob):Inv X pins σ (upd H T ob) {s with heap:=h',toks:=t'}:=by
 have hn:H T=none:=I.Xd.fresh hT;have nit:∀b u,H b=some u→b∉ch:=fun b u e z=>by
  have q:=(hf b z).1;rw [q] at e;cases e
 refine I.step (g':=s.gens) (d':=s.drawn) (ch:=ch) (fun b hb=>⟨(hf b hb).2.2.2.1,(hf b hb).2.1,(hf b hb).2.2.2.2.1,(hf b hb).2.2.2.2.2⟩) (fun b o _ _ hc e _=>k b o hc e) (fun b o _ _ hc e _=>⟨o.slots,k b o hc e⟩)
  (fun b o _ e n=>?_) (fun b o hc e=>⟨o,k b o hc e⟩) (fun b xs e=>?_) (fun b o u e=>?_) (fun b ps e=>⟨#[],?_⟩) (fun m hm=>?_) (fun b u e=>?_) I.bare
 ·rw [Va (Nat.ne_of_lt (Nat.lt_of_lt_of_le (Heap.lt_size e) hT))];exact n
 ·rw [Va (Qb e hn)];exact e
 ·rw [Va (Qb e hn)];exact e
 ·rw [Va (Qb e hn),e];simp
 ·obtain ⟨o,es,ep,ho,r⟩:=hm;exact ⟨o,es,ep,k _ o (fun z=>(hf _ z).2.1 rfl) ho,r⟩
 ·by_cases hb:b=T
  ·subst hb;rw [Ya] at e;cases e;exact new
  ·rw [Va hb] at e;refine (I.Xd b u e).jae (fun c v hc q=>k c v ?_ q) (fun c q=>by rw [Va (Qb q hn)];exact q) fun c xs q=>by rw [Va (Qb q hn)];exact q
   rcases hc with z | z
   ·rw [z];exact nit b u e
   ·exact nit c _ z
theorem Inv.lock{d:Addr}{u:HO}(I:Inv X pins σ H s)(h:H d=some u)(mu:Mut (some u)):∃od,Inv X pins σ (upd H d (.frz od u)) s:=by
 have x:=I.Xd d u h;have ex:∃od,s.heap.get? d=some od:=by
  cases u with
  | lst xs=>obtain ⟨_,_,_,_,e⟩:=x;exact ⟨_,e⟩
  | dK Yb=>obtain ⟨_,_,_,_,o,_,_,e,_⟩:=x;exact ⟨o,e⟩
  | dT Yb=>obtain ⟨_,_,_,_,o,_,_,e,_⟩:=x;exact ⟨o,e⟩
  | set S n=>obtain ⟨o,_,_,_,e,_⟩:=x;exact ⟨o,e⟩
  | ins C dx fs=>obtain ⟨_,_,_,e,_⟩:=x;exact ⟨_,e⟩
  | ext φ=>obtain ⟨_,⟨_,e⟩,_⟩:=x;exact ⟨_,e⟩
  | _=>exact False.elim mu
 obtain ⟨od,e⟩:=ex;have new:Kh X.prog X.w (upd H d (.frz od u)) s.heap d (.frz od u):=by
  refine ⟨e,x.jae (fun b v _ q=>q) (fun b q=>?_) fun b xs q=>?_⟩
  ·rw [Va (fun z=>by rw [z,h] at q;cases q;exact mu)];exact q
  ·rw [Va (fun z=>by rw [z,h] at q;cases q;exact mu)];exact q
 exact ⟨od,I.write (x:=d) (e:=d) (t':=s.toks) (h':=s.heap) (by rw [h];exact mu) (.inl rfl) (fun b v _ q=>q) ⟨od,e⟩ new⟩
theorem Inv.QaP{d:Addr}{u:HO}(I:Inv X pins σ H s)(h:H d=some u)(mu:Mut (some u)):∀o' u',X.H_0 d≠some (.frz o' u'):=fun o' u' e=>by
 have q:=I.base.uai d o' u' e;rw [h] at q;cases q;exact mu
theorem Inv.unlock{d:Addr}{od:Obj}{u:HO}(I:Inv X pins σ H s)(h:H d=some (.frz od u))(hn:∀o' u',X.H_0 d≠some (.frz o' u')):Inv X pins σ (upd H d u) s:=by
 have neH:∀b o,H b=some o→(∀o' u',o≠ .frz o' u')→b≠d:=fun b o e KD z=>by
  rw [z,h] at e;cases e;exact KD _ _ rfl
 have neN:∀b,H b=none→b≠d:=fun b e z=>by rw [z,h] at e;cases e
 refine ⟨I.ok,I.os,I.bare,⟨I.base.keep,I.base.slot,fun b o e n hx=>?_,I.base.there,fun b xs e=>?_,fun b o x e=>?_,fun b ps e=>?_⟩,I.loc,I.cell,?_,fun x c e=>?_,fun p hp=>?_,fun b o e=>?_,I.len⟩
 ·rw [Va (neN b (I.base.free b o e n hx))];exact I.base.free b o e n hx
 ·have q:=I.base.kaw b xs e;rw [Va (neH b _ q (fun _ _ z=>nomatch z))];exact q
 ·have q:=I.base.uai b o x e;rw [Va (fun z=>by rw [z] at e;exact hn _ _ e)];exact q
 ·obtain ⟨m,q⟩:=I.base.Kan b ps e;exact ⟨m,by rw [Va (neH b _ q (fun _ _ z=>nomatch z))];exact q⟩
 ·rw [Va (neN _ I.free)];exact I.free
 ·rw [Va (neN c (I.UN x c e))];exact I.UN x c e
 ·obtain ⟨e,n,r⟩:=I.pin p hp;exact ⟨e,by rw [Va (neN _ n)];exact n,r⟩
 ·by_cases hb:b=d
  ·rw [hb,Ya] at e;cases e;rw [hb];obtain ⟨_,x⟩:=I.Xd d _ h;exact x.jae (fun c v _ q=>q) (fun c q=>by rw [Va (neH c _ q (fun _ _ z=>nomatch z))];exact q) fun c xs q=>by rw [Va (neH c _ q (fun _ _ z=>nomatch z))];exact q
  ·rw [Va hb] at e;exact (I.Xd b o e).jae (fun c v _ q=>q) (fun c q=>by rw [Va (neH c _ q (fun _ _ z=>nomatch z))];exact q) fun c xs q=>by rw [Va (neH c _ q (fun _ _ z=>nomatch z))];exact q
end
def kbm(t:TS):TS:=fun D σ H=>∃d u,H d=some u∧Mut (some u)∧∀od,t ⟨fun σ' H'=>H' d=some (.frz od u)∧D.nx σ' (upd H' d u),fun v H'=>H' d=some (.frz od u)∧D.rt v (upd H' d u),fun σ' H'=>H' d=some (.frz od u)∧D.bk σ' (upd H' d u),fun σ' H'=>H' d=some (.frz od u)∧D.ct σ' (upd H' d u)⟩ σ (upd H d (.frz od u))
section
variable{X:Cx}
theorem JaE{st:Stmt}{t:TS}(h:PS X st t):PS X st (kbm t):=by
 intro pins s σ H D I hw;obtain ⟨d,u,hd,mu,hw⟩:=hw;obtain ⟨od,I1⟩:=I.lock hd mu;refine zg (h pins s σ _ _ I1 (hw od)) fun f s1 q=>?_;cases f with
 | next=>obtain ⟨σ',H',I2,e,q⟩:=q;exact ⟨σ',_,I2.unlock e (I.QaP hd mu),q⟩
 | brk=>obtain ⟨σ',H',I2,e,q⟩:=q;exact ⟨σ',_,I2.unlock e (I.QaP hd mu),q⟩
 | cont=>obtain ⟨σ',H',I2,e,q⟩:=q;exact ⟨σ',_,I2.unlock e (I.QaP hd mu),q⟩
 | ret v=>obtain ⟨x,σ',H',I2,r,e,q⟩:=q;exact ⟨x,σ',_,I2.unlock e (I.QaP hd mu),r,q⟩
theorem xa1{tg:Expr}{pins:List (Addr×Obj)}{σ:St}{H:Hp}{s:Shared}{R:It→Hp→Prop}{J:It}{tn:Nat→Heap→Prop}{tk:Nat}(I:Inv X pins σ H s)(o:Obj)
  (T:Turn X.prog X.w X.K tg J [s.heap.objs.size] s.heap.objs.size tn) (st:tn 0 (s.heap.push o)) (q:R J H):PIE X pins σ tg R (.ref s.heap.objs.size) {s with heap:=s.heap.push o,toks:=tk}:=by
 refine ⟨s.heap.objs.size, [s.heap.objs.size],tn,J,H,rfl,I.kept fun b ob e=>Heap.get?_push_of_some _ e,T,st,fun b hb=>?_,q⟩;have e:b=s.heap.objs.size:=by simpa using hb
 subst e;exact I.zaX (Nat.le_refl _) (I.Xd.fresh (Nat.le_refl _))
end
theorem wa0{κ:Type}{Yb:List (κ×V)}{vs:List (κ×Value)}(h:KV Yb vs):∀{i:Nat} {k:κ} {v:V},Yb[i]? =some (k,v)→∃u,vs[i]? =some (k,u)∧RelV v u:=by
 unfold KV at h;induction h with
 | nil=>intro i k v e;simp at e
 | @cons a b l₁ l₂ r t ih=>
  intro i k v e;cases i with
  | zero=>
   simp only [List.getElem?_cons_zero,Option.some.injEq] at e;subst e;refine ⟨b.2,?_,r.2⟩;simp only [List.getElem?_cons_zero];exact congrArg some (Prod.ext r.1.symm rfl)
  | succ j=>
   simp only [List.getElem?_cons_succ] at e⊢;exact ih e
theorem xW{α β:Type}{G:α→β→Prop}{l₁:List α}{l₂:List β}(h:Paired G l₁ l₂):∀{i:Nat} {a:α},l₁[i]? =some a→∃b,l₂[i]? =some b∧G a b:=by
 induction h with
 | nil=>intro i a e;simp at e
 | @cons a b l₁ l₂ r t ih=>
  intro i a' e;cases i with
  | zero=>
   simp only [List.getElem?_cons_zero,Option.some.injEq] at e;subst e;exact ⟨b,rfl,r⟩
  | succ j=>
   simp only [List.getElem?_cons_succ] at e⊢;exact ih e
theorem ja3{k:Key}{u:Value}(h:qan k u=true):RelV (kV k) u:=by
 rcases Qj h with ⟨i,t,rfl,rfl⟩ | ⟨x,t,rfl,rfl⟩
 ·exact ⟨t,rfl⟩
 ·exact ⟨t,rfl⟩
section
variable{X:Cx}{pins:List (Addr×Obj)}{σ:St}{H:Hp}{s:Shared}{d:Addr}{o:Obj}
theorem Inv.Qbd{Yb:List (Key×V)}(I:Inv X pins σ H s)(h:H d=some (.frz o (.dK Yb))):
  (d==sysModules)=false∧s.heap.get? d=some o∧o.ExactDict∧∃(es:Array DictEntry) (ep:Nat) (vs:List (Key×Value)),o.data= .dict es ep∧es.size=Yb.length∧KV Yb vs∧s.heap.DictAt (Vg X.prog X.w) d vs ep:=by
 obtain ⟨hd,z,hs,vs,kv,o',es,ep,ho,hx,hdt,r⟩:=I.Xd d _ h;rw [hd] at ho;cases ho;refine ⟨hs,hd,hx,es,ep,vs,hdt,?_,kv,o,es,hd,hx,hdt,r⟩;have l1:=r.2.1.length;have l2:Yb.length=vs.length:=Paired.length kv;rw [Array.length_toList] at l1;omega
end
def Itd(d:Addr)(o:Obj)(Yb:List (Key×V)):It:=
 ⟨fun i H=>H d=some (.frz o (.dK Yb))∧i<Yb.length,fun i H x H'=>H'=H∧∃k,Yb[i]? =some (k,x),fun i H=>H d=some (.frz o (.dK Yb))∧Yb.length≤i⟩
theorem Uan{o:Obj}{es es':Array DictEntry}{ep ep':Nat}(h:o.data= .dict es ep)(h':o.data= .dict es' ep'):es'=es∧ep'=ep:=by
 rw [h] at h';cases h';exact ⟨rfl,rfl⟩
section
variable{P:Program}{w:World}{K:PySem.W.Frag}{tg:Expr}{d:Addr}{o:Obj}{es:Array DictEntry}{ep:Nat}
theorem KaZ{Yb:List (Key×V)}(it:Addr)(hod:o.data= .dict es ep):Turn P w K tg (Itd d o Yb) [it] it (fun i h=>h.IsValIter it d i Yb.length ep) where
 mem:=by simp
 obj:=fun i h st b hb=>by
  have e:b=it:=by simpa using hb
  subst e;obtain ⟨oi,e,c,dd⟩:=st;exact ⟨oi,e,fun v z=>by rw [dd] at z;cases z⟩
 keep:=fun i h h' st k=>st.at fun oi e=>k it (by simp) oi e
 item:=by
  intro X hP hw hK hc i pins s σ H E I hf st hg;subst hP hw hK;obtain ⟨hd,hi⟩:=hg;obtain ⟨f0,f1,f2,f3,f4,f5⟩:=hf it (by simp);obtain ⟨hs,hgd,hx,es',ep',vs,hdt,hsz,kv,hm⟩:=I.Qbd hd;obtain ⟨rfl,rfl⟩:=Uan hod hdt;obtain ⟨⟨k,v⟩,hkv⟩:∃p,Yb[i]? =some p:=⟨Yb[i],List.getElem?_eq_getElem hi⟩;obtain ⟨u,hu,ru⟩:=wa0 kv hkv;have hl:Yb.length=vs.length:=Paired.length kv;rw [hl] at st;refine wpAny_pyNext_values_item st hm hu fun h' st' sb=>?_;have I1:Inv X pins σ H {s with heap:=h'}:=I.turned (t':=s.toks) (fun b ob hb e=>(sb.2 b hb).trans e) f0 f1 f3 f4 f5;obtain ⟨oi,e,c,dd⟩:=id st';refine ⟨u,rfl,jaP (s:={s with heap:=h'}) e c dd (by decide) ⟨v,H,I1,ru,⟨rfl,k,hkv⟩,?_,fun b hb=>(hf b hb).1⟩⟩;show h'.IsValIter it d (i+1) Yb.length _;rw [hl];exact st'
 done:=by
  intro X hP hw hK hc i pins s σ H E I hf st hg;subst hP hw hK;obtain ⟨hd,hi⟩:=hg;obtain ⟨f0,f1,f2,f3,f4,f5⟩:=hf it (by simp);obtain ⟨hs,hgd,hx,es',ep',vs,hdt,hsz,kv,hm⟩:=I.Qbd hd;obtain ⟨rfl,rfl⟩:=Uan hod hdt;have hl:Yb.length=vs.length:=Paired.length kv;rw [hl] at st;exact wpAny_pyNext_values_end (I.ok.hd hc) st hm (List.getElem?_eq_none (by omega)) fun h' eb=>⟨rfl,I.turned (t':=s.toks) (fun b ob hb e=>eb b ob hb e) f0 f1 f3 f4 f5⟩
 self:=fun A i s Q E st h=>wpAny_pyIter_valiter st h
end
def zbn(td:TE):TI:=fun σ H R=>td σ H fun x H1=>∃d o Yb,x= .ref d∧H1 d=some (.frz o (.dK Yb))∧R (Itd d o Yb) H1
section
variable{X:Cx}{tg e:Expr}{td:TE}{apos Kn:Pos}
theorem jaX(he:PE X e td)(uaI:attributeBase e "values" X.env (eval e X.env)=eval e X.env:=by rfl)(UaI:(apos.endLine==Kn.line)=true:=by rfl):PI X tg (.Call (.Attribute e "values" apos) [] [] Kn) (zbn td):=by
 intro pins s σ H R I h;refine wpAny_Call_method (T:="dict") (id:="dict.values") uaI rfl UaI F.plainAttrs_dict F.slot_dict_values F.type_dict_values (zg (he pins s σ H _ I h) fun u s1 ⟨x,H1,I1,rx,d,o,Yb,ex,hd,q⟩=>?_);subst ex;obtain rfl:u=Value.ref d:=rx;obtain ⟨hs,hgd,hx,es,ep,vs,hdt,hsz,kv,hm⟩:=I1.Qbd hd;have hl:Yb.length=vs.length:=Paired.length kv;refine ⟨hm.dictOf.typeIs,hm.dictOf.mapOf.noDict,?_⟩;have I2:Inv X pins σ H1 {s1 with heap:=s1.heap.push {cls:= .type "dict_values",data:= .fields #[.ref d]}}:=I1.kept (t':=s1.toks) fun b ob q=>Heap.get?_push_of_some _ q;have fin:wpAny (model X.prog X.w) X.A (pyIter (.ref s1.heap.objs.size)) (PIE X pins σ tg R) X.xe {s1 with heap:=s1.heap.push {cls:= .type "dict_values",data:= .fields #[.ref d]}}:=by
  refine wpAny_pyIter_values (d:=d) (knd:=Vg X.prog X.w) ⟨_,Heap.get?_push_size _ rfl,rfl,rfl⟩ (hm.push _) (xa1 (tk:=s1.toks) I2 _ (KaZ _ hdt) ⟨_,Heap.get?_push_size _ rfl,rfl,?_⟩ q);rw [hl]<;>rfl
 show wpAny _ _ (callWith Kn (.builtin "dict.values") [.ref d] [] []) _ X.xe s1;exact method_meetsIn F.slot_dict_values F.entry_dict_values rfl (PySem.evalArgs_none ⟨rfl,hm.dictOf.typeIs,F.args_dict_values_1 _,_,meets_dict_values (Vg X.prog X.w) d hs,⟨vs,hm.dictOf⟩,fin⟩)
end
def Ite(K:PySem.W.Frag)(a:Addr):It:=
 ⟨fun i H=>∃(xs:List V) (x:V),xb K H a xs∧xs[i]? =some x,fun i H v H'=>∃T x,v= .ref T∧H T=none∧H'=upd H T (.tup [.int (i:Nat),x])∧∀xs,xb K H a xs→xs[i]? =some x,fun i H=>∃xs:List V,xb K H a xs∧xs.length≤i⟩
theorem vaX{P:Program}{w:World}{K:PySem.W.Frag}{elts:List Expr}{kk:Nat}{tpos:Pos}(a e it:Addr):
  Turn P w K (.Tuple elts kk tpos) (Ite K a) [e,it] e (fun i h=>(∃old,IsEnum h e it ((i:Nat):Int) old)∧h.IsListIter it a i∧e≠it) where
 mem:=by simp
 obj:=fun i h st b hb=>by
  obtain ⟨⟨old,he⟩,⟨o,ho,hc,hd⟩,_⟩:=st;have e':b=e∨b=it:=by simpa using hb
  rcases e' with z | z
  ·rw [z];exact ⟨_,he,fun v q=>nomatch q⟩
  ·rw [z];exact ⟨o,ho,fun v q=>by rw [hd] at q;cases q⟩
 keep:=fun i h h' st k=>let ⟨⟨old,he⟩,hi,KD⟩:=st;⟨⟨old,k e (by simp) _ he⟩,hi.at fun o q=>k it (by simp) o q,KD⟩
 item:=by
  intro X hP hw hK hc i pins s σ H E I hf st hg;subst hP hw hK;obtain ⟨⟨old,he⟩,hit,KD⟩:=st;obtain ⟨xs,x,hq,hx⟩:=hg;obtain ⟨Jd,rv,p,hz⟩:=I.list hq;obtain ⟨u,hu,ru⟩:=rv.get hx;have hel:e<s.heap.objs.size:=Heap.lt_size he;have hil:it<s.heap.objs.size:=by obtain ⟨_,q,_⟩:=hit;exact Heap.lt_size q
  refine wpAny_pyNext_enum_item he hit p.isList (x:=u) (by simpa using hu) KD fun h' ho za0 hT hsz hk=>?_
  refine ⟨_,rfl,wpAny_letOwnedTupleGo_enum (s:={s with heap:=h',toks:=s.toks+1}) ho fun h'' he' sb=>?_⟩;have hT2:h''.get? s.heap.objs.size=some {cls:= .type "tuple",data:= .seq #[.int i s.toks,u]}:=(sb.2 _ (Nat.ne_of_gt hel)).trans hT;have new:Kh X.prog X.w (upd H s.heap.objs.size (.tup [.int (i:Nat),x])) h'' s.heap.objs.size (.tup [.int (i:Nat),x]):=
   ⟨by show 2≤sizeLine;decide, [.int i s.toks,u], .cons ⟨_,rfl⟩ (.cons ru .nil),⟨_,hT2,rfl,_,rfl⟩⟩
  have I1:Inv X pins σ (upd H s.heap.objs.size (.tup [.int (i:Nat),x])) {s with heap:=h'',toks:=s.toks+1}:=
   I.XaW (ch:= [e,it]) (fun b ob hb q=>(sb.2 b (fun z=>hb (by simp [z]))).trans (hk b ob (fun z=>hb (by simp [z])) (fun z=>hb (by simp [z])) q)) hf (Nat.le_refl _) new
  refine ⟨.ref s.heap.objs.size,_,I1,rfl,⟨_,x,rfl,I.Xd.fresh (Nat.le_refl _),rfl,fun ys hy=>by rw [I.ZaL hy hq];exact hx⟩,⟨⟨u,?_⟩,za0.at fun o q=>(sb.2 it (Ne.symm KD)).trans q,KD⟩,fun b hb=>?_⟩
  ·have e1:((i+1:Nat):Int)=(i:Int)+1:=by omega
   rw [e1];exact he'
  ·have hb':b<s.heap.objs.size:=by
    have e':b=e∨b=it:=by simpa using hb
    rcases e' with z | z
    ·rw [z];exact hel
    ·rw [z];exact hil
   rw [Va (Nat.ne_of_lt hb')];exact (hf b hb).1
 done:=by
  intro X hP hw hK hc i pins s σ H E I hf st hg;subst hP hw hK;obtain ⟨⟨old,he⟩,hit,KD⟩:=st;obtain ⟨xs,hq,hx⟩:=hg;obtain ⟨Jd,rv,p,hz⟩:=I.list hq;obtain ⟨f0,f1,f2,f3,f4,f5⟩:=hf it (by simp);have hl:=rv.length;exact wpAny_pyNext_enum_end (I.ok.hd hc) he hit p.isList (by simp;omega) fun h' eb=>⟨rfl,I.turned (t':=s.toks) (fun b o hb q=>eb b o hb q) f0 f1 f3 f4 f5⟩
 self:=fun A i s Q E st h=>let ⟨⟨_,he⟩,_⟩:=st;wpAny_pyIter_enum he h
def qbo(K:PySem.W.Frag)(ta:TA):TI:=fun σ H R=>ta σ H fun vs H1=>∃a xs,vs= [.ref a]∧xb K H1 a xs∧R (Ite K a) H1
theorem Xa8{X:Cx}{e:Expr}{ta:TA}{p pos tpos:Pos}{elts:List Expr}{kk:Nat}(hg:Gl X "enumerate")(hm:X.mg "enumerate"=none)(ha:PA X [e] ta)(hs:starEach [e] X.env= [(false,eval e X.env)]:=by rfl):
  PI X (.Tuple elts kk tpos) (.Call (.Name "enumerate" p) [e] [] pos) (qbo X.K ta):=by
 intro pins s σ H R I h;refine Call_ (Wao I hg hm boot_enumerate (PyProof.Rows.callWith_type1 (zg (ha pos pins s σ H _ I h) fun us s1 ⟨vs,H1,I1,r1,q1⟩=>?_) hs rfl));obtain ⟨a,xs,ex,hq,q⟩:=q1;subst ex;cases r1 with
 | cons r rr=>
  cases rr;cases r;obtain ⟨Jd,rv,p',hz⟩:=I1.list hq;refine call_enumerate_list p'.isList fun h' he hit hsz hk=>wpAny_pyIter_enum he ?_;have I2:Inv X pins σ H1 {s1 with heap:=h'}:=I1.kept (t':=s1.toks) hk;refine ⟨s1.heap.objs.size+1, [s1.heap.objs.size+1,s1.heap.objs.size],_,_,H1,rfl,I2,vaX a (s1.heap.objs.size+1) s1.heap.objs.size,⟨⟨.none,he⟩,hit,Nat.succ_ne_self _⟩,fun b hb=>?_,q⟩;have e':b=s1.heap.objs.size+1∨b=s1.heap.objs.size:=by simpa using hb
  have hle:s1.heap.objs.size≤b:=by
   rcases e' with z | z
   ·rw [z];exact Nat.le_add_right _ _
   ·rw [z];exact Nat.le_refl _
  exact I1.zaX hle (I1.Xd.fresh hle)
end L2
namespace L2
open PySem PySem.Spec PyProof.Rows
def inClass(s:Stmt)(j:Nat):Stmt:=match s with
 | .ClassDef _ _ _ body _ _ _ _ _ _ _=>body.getD j (.Pass ⟨0,0,0,0⟩)
 | _=> .Pass ⟨0,0,0,0⟩
def Q3(s:Stmt):Arguments:=match s with
 | .FunctionDef _ a _ _ _ _ _ _ _ _=>a
 | _=>{posonlyargs:= [],args:= [],vararg:=none,kwonlyargs:= [],kw_defaults:= [],kwarg:=none,defaults:= []}
def xG(s:Stmt):List Stmt:=match s with
 | .FunctionDef _ _ b _ _ _ _ _ _ _=>b
 | _=> []
def ka(s:Stmt):Scope:=match s with
 | .FunctionDef _ _ _ _ _ _ sc _ _ _=>sc
 | _=>{kind:= .function,names:= [],isGenerator:=false,isCoroutine:=false}
abbrev ke:CXT:=fun _ _ _ _ _ _=>False
abbrev E0:XK:=fun _ _ _=>False
theorem Ka{X:Cx}:Passes ke X E0:=fun _ _ _ _ _ _ _ h=>h.elim
structure Ke(K:PySem.W.Frag)(x qual:Str)(st:Stmt)(f:Addr)(fd:FuncData):Prop where
 ex:∃(oc:Value) (od:Option Addr) (kV doc pm:Value) (an:Option Addr) (uK ct:Value) (osl:Array (Option Value)),
  fd=PySem.W.fnOf x qual (Q3 st) (xG st) (ka st) .none kV doc pm an uK ct∧K.lookup f=some ⟨oc,od, .func fd,osl⟩∧PySem.W.codeIn K uK qual=true
 kp:PySem.W.keepIn K (.ref f)=true
section
variable{P:Program}{w:World}{K:PySem.W.Frag}{mg:Str→Option Value}{base:Heap}
theorem Ke.ok{x qual:Str}{st:Stmt}{f:Addr}{fd:FuncData}{N ps:List Str}{k:Nat}{sp:Sp}(F:Ke K x qual st f fd)(S:Wa N ps (ka st))(len:∀vs H Q E,sp vs H Q E→vs.length=ps.length)
  (JaI:∀(uK:Value) (A:Around) (outer:List Env) (s:Shared) (H:Hp) (vs:List V) (Q:VK) (E:XK),jo k (A.deeper (envOfC qual (ka st) s.heap.objs.size f uK))→sp vs H Q E→
   ∃t,PSs (WaC ke P w K mg base N qual (ka st) f uK A outer s H E).nox (xG st) t∧t {nx:=fun _ H'=>Q .non H',rt:=Q} (start N vs) H):wb P w K mg base ke (k+1) f fd ps sp:=by
 obtain ⟨oc,od,kV,doc,pm,an,uK,ct,osl,rfl,lk,xN⟩:=F.ex;refine jbc lk xN S len fun A outer s H vs Q E hr hsp=>?_;obtain ⟨t,h,q⟩:=JaI uK A outer s H vs Q E hr hsp;exact ⟨t,h.nox,q⟩
theorem Ke.binds{x qual:Str}{st:Stmt}{f:Addr}{fd:FuncData}{ps:List Str}(F:Ke K x qual st f fd)
  (h:∀(kV doc pm:Value) (an:Option Addr) (uK ct:Value) (us:List Value),us.length=ps.length→bindArgs (PySem.W.fnOf x qual (Q3 st) (xG st) (ka st) .none kV doc pm an uK ct) ⟨us, []⟩=pure (ps.zip us)):Binds K fd ps []:=by
 obtain ⟨oc,od,kV,doc,pm,an,uK,ct,osl,rfl,lk,xN⟩:=F.ex;exact .all (h kV doc pm an uK ct)
theorem va1{x qual:Str}{st:Stmt}{f:Addr}{oc:Value}{od an:Option Addr}{osl:Array (Option Value)}{kV doc pm uK ct:Value}(l:K.lookup f=some ⟨oc,od, .func (PySem.W.fnOf x qual (Q3 st) (xG st) (ka st) .none kV doc pm an uK ct),osl⟩)
  (c:PySem.W.codeIn K uK qual=true) (k:PySem.W.keepIn K (.ref f)=true):Ke K x qual st f (PySem.W.fnOf x qual (Q3 st) (xG st) (ka st) .none kV doc pm an uK ct):=⟨⟨oc,od,kV,doc,pm,an,uK,ct,osl,rfl,l,c⟩,k⟩
end
theorem YS{A:Around}{k:Nat}(hr:jo k A):A.units+1<cLine:=Nat.lt_of_le_of_lt (Nat.add_le_add_left (by decide:1≤64) _) hr.units
section
variable{X:Cx}
theorem pv(i:Nat){x:Str}{pos:Pos}(hN:X.N[i]? =some x:=by rfl)(hv:Vis X.env.scope x:=by first | exact Or.inl rfl | exact Or.inr (Or.inl rfl) | exact Or.inr (Or.inr rfl))(hd:(x==("__debug__":Str))=false:=by decide)
  (xN:(x==("__classdict__":Str))=false:=by decide):PE X (.Name x pos) (Km i):=Wbe hN hv hd xN
end
theorem Xad{A B:Prop}(h:B):if false=true then A else B:=by
 rw [if_neg Bool.false_ne_true];exact h
theorem waw{A B:Prop}(h:A):if true=true then A else B:=by
 rw [if_pos rfl];exact h
def Ua(H H':Hp):Prop:=∀b o,H b=some o→H' b=some o
theorem Ua.refl(H:Hp):Ua H H:=fun _ _ h=>h
theorem Ua.trans{H H1 H2:Hp}(a:Ua H H1)(b:Ua H1 H2):Ua H H2:=fun c o h=>b c o (a c o h)
theorem Ua.free{H H':Hp}(e:Ua H H'){l:Addr}(h:H' l=Option.none):H l=Option.none:=by
 cases q:H l with
 | none=>rfl
 | some o=>
  rw [e l o q] at h;cases h
theorem Ua.seq{K:PySem.W.Frag}{H H':Hp}{a:Addr}{xs:List V}(e:Ua H H')(h:xb K H a xs):xb K H' a xs:=by
 rcases h with (h | ⟨o,h⟩) | h
 ·exact .inl (.inl (e _ _ h))
 ·exact .inl (.inr ⟨o,e _ _ h⟩)
 ·exact .inr h
theorem at_of{xs:List V}{z:Int}{j:Nat}{v:V}(e:z=(j:Int))(h:xs[j]? =some v):atI xs z=some v:=by
 rw [e];exact jan h
end L2
section
namespace L2
open PySem PySem.Spec PyProof.Rows
open PySem.W (WData Codec OpenSpec Well WellAll ReadsW ReadsAllW)
mutual
inductive Dw(K:PySem.W.Frag)(H:Hp):V→WData→Prop
 | non:Dw K H .non .none
 | bl (b:Bool):Dw K H (.bl b) (.bool b)
 | int (i:Int):Dw K H (.int i) (.int i)
 | str (x:Str):Dw K H (.str x) (.str x)
 | byt (b:Array UInt8):Dw K H (.byt b) (.bytes b.toList)
 | lst {a:Addr} {xs:List V} {ds:List WData}:xb K H a xs→Kx K H xs ds→Dw K H (.ref a) (.list ds)
 | tup {a:Addr} {xs:List V} {ds:List WData}:vQ K H a xs→Kx K H xs ds→Dw K H (.ref a) (.tuple ds)
inductive Kx(K:PySem.W.Frag)(H:Hp):List V→List WData→Prop
 | nil:Kx K H [] []
 | cons {v:V} {vs:List V} {d:WData} {ds:List WData}:Dw K H v d→Kx K H vs ds→Kx K H (v::vs) (d::ds)
end
theorem jaU{K:PySem.W.Frag}{H:Hp}:∀ns:List Int,Kx K H (ns.map V.int) (ns.map WData.int)
 | []=> .nil
 | n::r=> .cons (.int n) (jaU r)
theorem kaU{K:PySem.W.Frag}{H:Hp}:∀(ns:List Int) (xs:List V),Kx K H xs (ns.map WData.int)→xs=ns.map V.int
 | [],xs,h=>by
  cases h;rfl
 | n::r,xs,h=>by
  cases h with
  | cons h1 h2=>
   cases h1;rw [kaU r _ h2]<;>rfl
section
variable{P:Program}{w:World}{K:PySem.W.Frag}{H:Hp}{h:Heap}{R:PySem.W.WRecords}{cl:Str→Option Addr}
theorem Jbe{a:Addr}{xs:List V}(Xd:jG P w H h)(KX:K.In h)(q:xb K H a xs):∃(Jd:List Value) (o:Obj) (n:Nat),Vals xs Jd∧h.get? a=some o∧o.cls= .type "list"∧o.data= .seq Jd.toArray n:=by
 rcases q with q | ⟨o,Jd,n,e,hc,_,hd,_,hv⟩
 ·obtain ⟨_,Jd,n,hv,e⟩:=(show Kh P w H h a (.lst xs) from q.ok Xd);exact ⟨Jd,_,n,hv,e,rfl,rfl⟩
 ·exact ⟨Jd.toList,o,n,hv,KX _ _ e,hc,by simp [hd]⟩
theorem Xbe{a:Addr}{xs:List V}(Xd:jG P w H h)(KX:K.In h)(q:vQ K H a xs):∃(Jd:List Value) (o:Obj) (n:Nat),Vals xs Jd∧h.get? a=some o∧o.cls= .type "tuple"∧o.data= .seq Jd.toArray n:=by
 rcases q with q | ⟨o,Jd,n,e,hc,hd,_,hv⟩
 ·obtain ⟨_,Jd,hv,o,e,hc,n,hd⟩:=(show Kh P w H h a (.tup xs) from q.ok Xd);exact ⟨Jd,o,n,hv,e,hc,hd⟩
 ·exact ⟨Jd.toList,o,n,hv,KX _ _ e,hc,by simp [hd]⟩
mutual
theorem Dw.reads(Xd:jG P w H h)(KX:K.In h):∀(d:WData) (v:V) (u:Value),Dw K H v d→RelV v u→∃as,ReadsW R cl h u d as
 | .none,_,_,x,r=>by
  cases x;cases r;exact ⟨_,ReadsW.none⟩
 | .bool b,_,_,x,r=>by
  cases x;cases r;exact ⟨_,ReadsW.bool b⟩
 | .int i,_,_,x,r=>by
  cases x;obtain ⟨t,rfl⟩:=r;exact ⟨_,ReadsW.int i t⟩
 | .str s,_,_,x,r=>by
  cases x;obtain ⟨t,rfl⟩:=r;exact ⟨_,ReadsW.str s t⟩
 | .bytes b,_,_,x,r=>by
  cases x;obtain ⟨t,rfl⟩:=r;exact ⟨_,ReadsW.bytes _ t⟩
 | .list ds,_,_,x,r=>by
  cases x with
  | lst hs ha=>
   cases r;obtain ⟨Jd,o,n,rv,ho,hc,hd⟩:=Jbe Xd KX hs;obtain ⟨as,hr⟩:=Dw.readsAll Xd KX ds _ Jd ha rv;exact ⟨_,ReadsW.list ho hc hd hr⟩
 | .tuple ds,_,_,x,r=>by
  cases x with
  | tup hs ha=>
   cases r;obtain ⟨Jd,o,n,rv,ho,hc,hd⟩:=Xbe Xd KX hs;obtain ⟨as,hr⟩:=Dw.readsAll Xd KX ds _ Jd ha rv;exact ⟨_,ReadsW.tuple ho hc hd hr⟩
 | .float _,_,_,x,_=>by cases x
 | .dict _,_,_,x,_=>by cases x
 | .bytearray _,_,_,x,_=>by cases x
 | .set _,_,_,x,_=>by cases x
 | .frozenset _,_,_,x,_=>by cases x
 | .obj _ _,_,_,x,_=>by cases x
theorem Dw.readsAll(Xd:jG P w H h)(KX:K.In h):∀(ds:List WData) (vs:List V) (us:List Value),Kx K H vs ds→Vals vs us→∃as,ReadsAllW R cl h us ds as
 | [],_,_,x,r=>by
  cases x;cases r;exact ⟨_,ReadsAllW.nil⟩
 | d::ds,_,_,x,r=>by
  cases x with
  | cons h1 h2=>
   cases r with
   | cons r1 r2=>
    obtain ⟨as,q1⟩:=Dw.reads Xd KX d _ _ h1 r1;obtain ⟨bs,q2⟩:=Dw.readsAll Xd KX ds _ _ h2 r2;exact ⟨_,ReadsAllW.cons q1 q2⟩
end
end
mutual
def plW:WData→Bool
 | .none=>true
 | .bool _=>true
 | .int _=>true
 | .str _=>true
 | .bytes _=>true
 | .list xs=>qae xs
 | .tuple xs=>qae xs
 | _=>false
def qae:List WData→Bool
 | []=>true
 | x::r=>plW x && qae r
end
theorem kaK{α:Type}{f:α→WData}(h:∀a,plW (f a)=true):∀l:List α,qae (l.map f)=true
 | []=>rfl
 | x::r=>by
  show (plW (f x) && qae (r.map f))=true;rw [h x,kaK h r]<;>rfl
theorem J0:∀(c:Codec) (a:c.denote),plW (c.enc a)=true
 | .unit,_=>rfl
 | .bool,_=>rfl
 | .int _ _,_=>rfl
 | .nat _ _,_=>rfl
 | .u8,_=>rfl
 | .bytes _ _,_=>rfl
 | .text _ _ _ _,_=>rfl
 | .list _ _ c,a=>kaK (fun x=>J0 c x) a
 | .pair c d,a=>by
  show (plW (c.enc a.1) && (plW (d.enc a.2) && true))=true;rw [J0 c a.1,J0 d a.2]<;>rfl
 | .triple c d e,a=>by
  show (plW (c.enc a.1) && (plW (d.enc a.2.1) && (plW (e.enc a.2.2) && true)))=true;rw [J0 c a.1,J0 d a.2.1,J0 e a.2.2]<;>rfl
 | .option c,none=>rfl
 | .option c,some x=>J0 c x
theorem kaC:∀(cs:List Codec) (a:Codec.denoteAll cs),qae (Codec.encAll cs a)=true
 | [],_=>rfl
 | c::cs,a=>by
  show (plW (c.enc a.1) && qae (Codec.encAll cs a.2))=true;rw [J0 c a.1,kaC cs a.2]<;>rfl
theorem vab:∀{xs:List WData} {d:WData},d∈xs→d.weight≤WData.weightAll xs
 | [],d,h=>absurd h (by simp)
 | x::r,d,h=>by
  show d.weight≤x.weight+1+WData.weightAll r;rcases List.mem_cons.mp h with e | m
  ·rw [e];omega
  ·have z:=vab m;omega
def toV:Value→V
 | .none=> .non
 | .bool b=> .bl b
 | .int i _=> .int i
 | .str x _=> .str x
 | .bytes b _=> .byt b
 | .ref a=> .ref a
 | _=> .non
def OkU(A:List Addr):Value→Prop
 | .none=>True
 | .bool _=>True
 | .int _ _=>True
 | .str _ _=>True
 | .bytes _ _=>True
 | .ref a=>a∈A
 | _=>False
theorem OkU.mono{A B:List Addr}(h:∀a∈A,a∈B):∀{u:Value},OkU A u→OkU B u:=fun {u} x=>by
 cases u with
 | ref a=>exact h a x
 | none=>trivial
 | bool b=>trivial
 | int i t=>trivial
 | str s t=>trivial
 | bytes b t=>trivial
 | _=>exact False.elim x
theorem Qa4{A:List Addr}{u:Value}(x:OkU A u):RelV (toV u) u:=by
 cases u with
 | ref a=>rfl
 | none=>rfl
 | bool b=>rfl
 | int i t=>exact ⟨t,rfl⟩
 | str s t=>exact ⟨t,rfl⟩
 | bytes b t=>exact ⟨t,rfl⟩
 | _=>exact False.elim x
theorem QS{A:List Addr}:∀{vs:List Value},(∀u∈vs,OkU A u)→Vals (vs.map toV) vs
 | [],_=> .nil
 | u::r,h=> .cons (Qa4 (h u (List.mem_cons_self ..))) (QS fun x hx=>h x (List.mem_cons_of_mem _ hx))
def jS(h:Heap)(A:List Addr)(a:Addr):Prop:=∃vs:List Value,vs.length≤sizeLine∧(∀u∈vs,OkU A u)∧
 (h.get? a=some {cls:= .type "list",data:= .seq vs.toArray}∨h.get? a=some {cls:= .type "tuple",data:= .seq vs.toArray})
theorem jS.mono{h:Heap}{A B:List Addr}{a:Addr}(k:∀a∈A,a∈B)(x:jS h A a):jS h B a:=by
 obtain ⟨vs,h1,h2,h3⟩:=x;exact ⟨vs,h1,fun u hu=>(h2 u hu).mono k,h3⟩
theorem XO{P:Params}{h:Heap}:∀{vs:List Value} {ds:List WData},WellAll P h vs ds→vs.length=ds.length
 | _,_, .nil=>rfl
 | _,_, .cons _ b=>by
  show _+1=_+1;rw [XO b]
theorem VaA{P:Params}{h:Heap}{v:Value}{ds:List WData}(x:Well P h v (.list ds)):∃(a:Addr) (vs:List Value),v= .ref a∧h.get? a=some {cls:= .type "list",data:= .seq vs.toArray}∧WellAll P h vs ds:=by
 cases x with
 | list ho yaa=>exact ⟨_,_,rfl,ho,yaa⟩
theorem Yat{P:Params}{h:Heap}{v:Value}{ds:List WData}(x:Well P h v (.tuple ds)):∃(a:Addr) (vs:List Value),v= .ref a∧h.get? a=some {cls:= .type "tuple",data:= .seq vs.toArray}∧WellAll P h vs ds:=by
 cases x with
 | tuple ho yaa=>exact ⟨_,_,rfl,ho,yaa⟩
theorem zaA{P:Params}{h:Heap}{us:List Value}{d:WData}{ds:List WData}(x:WellAll P h us (d::ds)):∃(v:Value) (vs:List Value),us=v::vs∧Well P h v d∧WellAll P h vs ds:=by
 cases x with
 | cons a b=>exact ⟨_,_,rfl,a,b⟩
theorem XaT{n:Nat}(h:n≤1048576):n≤sizeLine:=Nat.le_trans h (by decide)
section
variable{P:Params}{h:Heap}
mutual
theorem ja4:∀(d:WData) (v:Value),Well P h v d→plW d=true→d.weight≤1048576→∃A:List Addr,OkU A v∧∀a∈A,jS h A a
 | .none,_,x,_,_=>by
  cases x;exact ⟨[],trivial,fun a m=>absurd m (by simp)⟩
 | .bool b,_,x,_,_=>by
  cases x;exact ⟨[],trivial,fun a m=>absurd m (by simp)⟩
 | .int i,_,x,_,_=>by
  cases x;exact ⟨[],trivial,fun a m=>absurd m (by simp)⟩
 | .str s,_,x,_,_=>by
  cases x;exact ⟨[],trivial,fun a m=>absurd m (by simp)⟩
 | .bytes b,_,x,_,_=>by
  cases x;exact ⟨[],trivial,fun a m=>absurd m (by simp)⟩
 | .list ds,_,x,p,z=>by
  obtain ⟨a,vs,rfl,ho,yaa⟩:=VaA x;have z2:WData.weightAll ds≤1048576:=z;obtain ⟨A,h1,h2⟩:=Wae ds _ yaa p fun d hd=>Nat.le_trans (vab hd) z2;have k:∀b∈A,b∈a::A:=fun b hb=>List.mem_cons_of_mem _ hb;refine ⟨a::A,List.mem_cons_self ..,fun b hb=>?_⟩;rcases List.mem_cons.mp hb with e | m
  ·rw [e];exact ⟨vs,XaT (by rw [XO yaa];exact Nat.le_trans (PySem.W.length_le_weightAllW ds) z2),fun u hu=>(h1 u hu).mono k, .inl ho⟩
  ·exact (h2 b m).mono k
 | .tuple ds,_,x,p,z=>by
  obtain ⟨a,vs,rfl,ho,yaa⟩:=Yat x;have z2:WData.weightAll ds≤1048576:=z;obtain ⟨A,h1,h2⟩:=Wae ds _ yaa p fun d hd=>Nat.le_trans (vab hd) z2;have k:∀b∈A,b∈a::A:=fun b hb=>List.mem_cons_of_mem _ hb;refine ⟨a::A,List.mem_cons_self ..,fun b hb=>?_⟩;rcases List.mem_cons.mp hb with e | m
  ·rw [e];exact ⟨vs,XaT (by rw [XO yaa];exact Nat.le_trans (PySem.W.length_le_weightAllW ds) z2),fun u hu=>(h1 u hu).mono k, .inr ho⟩
  ·exact (h2 b m).mono k
 | .float _,_,_,p,_=>Bool.noConfusion (show false=true from p)
 | .dict _,_,_,p,_=>Bool.noConfusion (show false=true from p)
 | .bytearray _,_,_,p,_=>Bool.noConfusion (show false=true from p)
 | .set _,_,_,p,_=>Bool.noConfusion (show false=true from p)
 | .frozenset _,_,_,p,_=>Bool.noConfusion (show false=true from p)
 | .obj _ _,_,_,p,_=>Bool.noConfusion (show false=true from p)
theorem Wae:∀(ds:List WData) (vs:List Value),WellAll P h vs ds→qae ds=true→(∀d∈ds,d.weight≤1048576)→∃A:List Addr,(∀u∈vs,OkU A u)∧∀a∈A,jS h A a
 | [],_,x,_,_=>by
  cases x;exact ⟨[],fun u m=>absurd m (by simp),fun a m=>absurd m (by simp)⟩
 | d::ds,_,x,p,z=>by
  obtain ⟨v,vs,rfl,x1,x2⟩:=zaA x;have q:plW d=true∧qae ds=true:=Bool.and_eq_true_iff.mp p;obtain ⟨A,a1,a2⟩:=ja4 d v x1 q.1 (z d (List.mem_cons_self ..));obtain ⟨B,b1,b2⟩:=Wae ds vs x2 q.2 fun e he=>z e (List.mem_cons_of_mem _ he);have kA:∀b∈A,b∈A++B:=fun b hb=>List.mem_append.mpr (.inl hb);have kB:∀b∈B,b∈A++B:=fun b hb=>List.mem_append.mpr (.inr hb);refine ⟨A++B,fun u hu=>?_,fun b hb=>?_⟩
  ·rcases List.mem_cons.mp hu with e | m
   ·rw [e];exact a1.mono kA
   ·exact (b1 u m).mono kB
  ·rcases List.mem_append.mp hb with m | m
   ·exact (a2 b m).mono kA
   ·exact (b2 b m).mono kB
end
end
def ka6(o:Obj):Option HO:=match o.data with
 | .seq vs _=>if (o.cls==Value.type "list")=true then some (.frz o (.lst (vs.toList.map toV))) else some (.frz o (.tup (vs.toList.map toV)))
 | _=>none
def QL(K:PySem.W.Frag)(h:Heap)(A:List Addr):Hp:=fun b=>if b∈A then (if (K.lookup b).isNone=true then (h.get? b).bind ka6 else none) else none
def xbb(H:Hp):Prop:=∀b,H b=none∨∃o u,H b=some (.frz o u)
theorem zaK(vs:List Value):ka6 {cls:= .type "list",data:= .seq vs.toArray}=some (.frz {cls:= .type "list",data:= .seq vs.toArray} (.lst (vs.map toV))):=by
 show (if (Value.type "list"==Value.type "list")=true then some (HO.frz {cls:= .type "list",data:= .seq vs.toArray} (.lst (vs.toArray.toList.map toV))) else some (HO.frz {cls:= .type "list",data:= .seq vs.toArray} (.tup (vs.toArray.toList.map toV))))=_;rw [if_pos (beq_self_eq_true _)]
theorem KaK(vs:List Value):ka6 {cls:= .type "tuple",data:= .seq vs.toArray}=some (.frz {cls:= .type "tuple",data:= .seq vs.toArray} (.tup (vs.map toV))):=by
 show (if (Value.type "tuple"==Value.type "list")=true then some (HO.frz {cls:= .type "tuple",data:= .seq vs.toArray} (.lst (vs.toArray.toList.map toV))) else some (HO.frz {cls:= .type "tuple",data:= .seq vs.toArray} (.tup (vs.toArray.toList.map toV))))=_;rw [if_neg (by decide)]
section
variable{P:Program}{w:World}{K:PySem.W.Frag}{h:Heap}{A:List Addr}
theorem Yan{b:Addr}{o:Obj}(hb:b∈A)(hk:K.lookup b=none)(e:h.get? b=some o):QL K h A b=ka6 o:=by
 unfold QL;rw [if_pos hb,hk,if_pos (show (none:Option Obj).isNone=true from rfl),e]<;>rfl
theorem Wa9{b:Addr}{u:HO}(q:QL K h A b=some u):b∈A∧K.lookup b=none:=by
 unfold QL at q;by_cases hb:b∈A
 ·rw [if_pos hb] at q;cases hk:K.lookup b with
  | none=>exact ⟨hb,rfl⟩
  | some o=>
   rw [hk,if_neg (by simp)] at q;cases q
 ·rw [if_neg hb] at q;cases q
theorem Jan(ar:∀a∈A,jS h A a){b:Addr}{u:HO}(q:QL K h A b=some u):K.lookup b=none∧∃vs:List Value,vs.length≤sizeLine∧(∀u∈vs,OkU A u)∧
  ((h.get? b=some {cls:= .type "list",data:= .seq vs.toArray}∧u= .frz {cls:= .type "list",data:= .seq vs.toArray} (.lst (vs.map toV)))∨
   (h.get? b=some {cls:= .type "tuple",data:= .seq vs.toArray}∧u= .frz {cls:= .type "tuple",data:= .seq vs.toArray} (.tup (vs.map toV)))):=by
 obtain ⟨hb,hk⟩:=Wa9 q;obtain ⟨vs,h1,h2,h3⟩:=ar b hb;refine ⟨hk,vs,h1,h2,?_⟩;rcases h3 with e | e
 ·rw [Yan hb hk e,zaK] at q;exact .inl ⟨e,(Option.some.inj q).symm⟩
 ·rw [Yan hb hk e,KaK] at q;exact .inr ⟨e,(Option.some.inj q).symm⟩
theorem QaZ(ar:∀a∈A,jS h A a):xbb (QL K h A):=fun b=>by
 cases q:QL K h A b with
 | none=>exact .inl rfl
 | some u=>
  obtain ⟨_,vs,_,_,⟨_,e⟩ | ⟨_,e⟩⟩:=Jan ar q
  ·exact .inr ⟨_,_,by rw [e]⟩
  ·exact .inr ⟨_,_,by rw [e]⟩
theorem xa8(ar:∀a∈A,jS h A a):jG P w (QL K h A) h:=fun b u q=>by
 obtain ⟨_,vs,h1,h2,⟨e,rfl⟩ | ⟨e,rfl⟩⟩:=Jan ar q
 ·exact ⟨e,by rw [List.length_map];exact h1,vs,_,QS h2,e⟩
 ·exact ⟨e,by rw [List.length_map];exact h1,vs,QS h2,_,e,rfl,_,rfl⟩
theorem uao{c c':Value}{vs us:List Value}(e:(some {cls:=c,data:= .seq vs.toArray}:Option Obj)=some {cls:=c',data:= .seq us.toArray}):c=c'∧vs=us:=by
 have e1:=Option.some.inj e;have e2:c=c':=congrArg Obj.cls e1;have e3:Data.seq vs.toArray=Data.seq us.toArray:=congrArg Obj.data e1;injection e3 with e4;refine ⟨e2,?_⟩;have e5:=congrArg Array.toList e4;simpa using e5
theorem Kbr(KX:K.In h)(ar:∀a∈A,jS h A a){a:Addr}{vs:List Value}(ha:a∈A)(e:h.get? a=some {cls:= .type "list",data:= .seq vs.toArray}):(∀u∈vs,OkU A u)∧xb K (QL K h A) a (vs.map toV):=by
 obtain ⟨us,h1,h2,h3⟩:=ar a ha;have hu:us=vs:=by
  rcases h3 with q | q
  ·rw [e] at q;exact (uao q).2.symm
  ·rw [e] at q;exact absurd (Value.type.inj (uao q).1) (by decide)
 subst hu;refine ⟨h2,?_⟩;cases hk:K.lookup a with
 | none=>exact .inl (.inr ⟨_,by rw [Yan ha hk e,zaK]⟩)
 | some o=>
  have e2:=KX a o hk;rw [e] at e2;obtain rfl:=Option.some.inj e2;exact .inr ⟨_,us.toArray,_,hk,rfl,rfl,rfl,by rw [List.size_toArray];exact h1,by simpa using QS h2⟩
theorem Vbr(KX:K.In h)(ar:∀a∈A,jS h A a){a:Addr}{vs:List Value}(ha:a∈A)(e:h.get? a=some {cls:= .type "tuple",data:= .seq vs.toArray}):(∀u∈vs,OkU A u)∧vQ K (QL K h A) a (vs.map toV):=by
 obtain ⟨us,h1,h2,h3⟩:=ar a ha;have hu:us=vs:=by
  rcases h3 with q | q
  ·rw [e] at q;exact absurd (Value.type.inj (uao q).1) (by decide)
  ·rw [e] at q;exact (uao q).2.symm
 subst hu;refine ⟨h2,?_⟩;cases hk:K.lookup a with
 | none=>exact .inl (.inr ⟨_,by rw [Yan ha hk e,KaK]⟩)
 | some o=>
  have e2:=KX a o hk;rw [e] at e2;obtain rfl:=Option.some.inj e2;exact .inr ⟨_,us.toArray,_,hk,rfl,rfl,by rw [List.size_toArray];exact h1,by simpa using QS h2⟩
mutual
theorem ube{Pm:Params}(KX:K.In h)(ar:∀a∈A,jS h A a):∀(d:WData) (v:Value),Well Pm h v d→plW d=true→OkU A v→Dw K (QL K h A) (toV v) d
 | .none,_,x,_,_=>by
  cases x;exact .non
 | .bool b,_,x,_,_=>by
  cases x;exact .bl b
 | .int i,_,x,_,_=>by
  cases x;exact .int i
 | .str s,_,x,_,_=>by
  cases x;exact .str s
 | .bytes b,_,x,_,_=>by
  cases x;have z:=Dw.byt (K:=K) (H:=QL K h A) b.toArray;exact z
 | .list ds,_,x,p,hu=>by
  obtain ⟨a,vs,rfl,ho,yaa⟩:=VaA x;obtain ⟨h2,hs⟩:=Kbr KX ar hu ho;exact .lst hs (uaB KX ar ds _ yaa p h2)
 | .tuple ds,_,x,p,hu=>by
  obtain ⟨a,vs,rfl,ho,yaa⟩:=Yat x;obtain ⟨h2,hs⟩:=Vbr KX ar hu ho;exact .tup hs (uaB KX ar ds _ yaa p h2)
 | .float _,_,_,p,_=>Bool.noConfusion (show false=true from p)
 | .dict _,_,_,p,_=>Bool.noConfusion (show false=true from p)
 | .bytearray _,_,_,p,_=>Bool.noConfusion (show false=true from p)
 | .set _,_,_,p,_=>Bool.noConfusion (show false=true from p)
 | .frozenset _,_,_,p,_=>Bool.noConfusion (show false=true from p)
 | .obj _ _,_,_,p,_=>Bool.noConfusion (show false=true from p)
theorem uaB{Pm:Params}(KX:K.In h)(ar:∀a∈A,jS h A a):∀(ds:List WData) (vs:List Value),WellAll Pm h vs ds→qae ds=true→(∀u∈vs,OkU A u)→Kx K (QL K h A) (vs.map toV) ds
 | [],_,x,_,_=>by
  cases x;exact .nil
 | d::ds,_,x,p,hu=>by
  obtain ⟨v,vs,rfl,x1,x2⟩:=zaA x;have q:plW d=true∧qae ds=true:=Bool.and_eq_true_iff.mp p;exact .cons (ube KX ar d v x1 q.1 (hu _ (List.mem_cons_self ..))) (uaB KX ar ds vs x2 q.2 fun u m=>hu u (List.mem_cons_of_mem _ m))
end
end
theorem Qav{ds:List WData}(h:WData.layableAll ds=true):∀d∈ds,d.weight≤1048576:=fun d hd=>
 (PySem.W.layableW_iff.mp (List.all_eq_true.mp h d hd)).2.2
theorem jat:∀(cs:List Codec) (a:Codec.denoteAll cs),(Codec.encAll cs a).length=cs.length
 | [],_=>rfl
 | c::cs,a=>by
  show (Codec.encAll cs a.2).length+1=cs.length+1;rw [jat cs a.2]
end L2
end
namespace L2
open PySem PySem.Spec PyProof.Rows
section
variable{X:Cx}{a b:Expr}{ta tb:TE}{pos:Pos}{rest:List Expr}
def Wbq(ta tb:TE):TE:=fun σ H Q=>ta σ H fun x H1=>∃i,x= .int i∧if i=0 then tb σ H1 Q else Q (.int i) H1
theorem Ud(ha:PE X a ta)(hb:PE X (.BoolOp .Or (b::rest) pos) tb):PE X (.BoolOp .Or (a::b::rest) pos) (Wbq ta tb):=by
 intro pins s σ H Q I h;refine BoolOp_or (zg (ha pins s σ H _ I h) fun v s1 ⟨x,H1,I1,r1,q1⟩=>?_);obtain ⟨i,rfl,q1⟩:=q1;obtain ⟨t,rfl⟩:=r1;refine PySem.P.truthy_int ?_;by_cases e:i=0
 ·subst e;rw [if_pos rfl] at q1;exact hb pins s1 σ H1 Q I1 q1
 ·rw [if_neg e] at q1;have:(i !=0)=true:=by simpa using e
  rw [this];exact ⟨.int i,H1,I1,⟨t,rfl⟩,q1⟩
theorem Vl(ha:PE X a ta)(he:∀whole,isTrue a X.env whole=(do let v←whole;standAt a.pos;holding [v] (truthy v))):
  PT X a (fun σ H Q=>ta σ H fun x H'=>∃i,x= .int i∧Q (i !=0) H'):=by
 intro pins s σ H Q I h;refine isTrue_plain (zg (ha pins s σ H _ I h) fun v s1 ⟨x,H1,I1,r1,q1⟩=>?_) (he _);obtain ⟨i,rfl,q1⟩:=q1;exact Ja1 pins s1 σ H1 (.int i) v Q I1 r1 ⟨_,rfl,q1⟩
theorem XaN(ha:PE X a ta)(he:∀whole,isTrue a X.env whole=(do let v←whole;standAt a.pos;holding [v] (truthy v))):
  PT X a (fun σ H Q=>ta σ H fun x H'=>∃p xs,x= .ref p∧xb X.K H' p xs∧Q (!xs.isEmpty) H'):=by
 intro pins s σ H Q I h;refine isTrue_plain (zg (ha pins s σ H _ I h) fun v s1 ⟨x,H1,I1,r1,q1⟩=>?_) (he _);obtain ⟨p,xs,rfl,hs,q1⟩:=q1;exact Ja1 pins s1 σ H1 (.ref p) v Q I1 r1 ⟨_, .inl ⟨xs,hs,rfl⟩,q1⟩
end
theorem Ke.kf{P:Program}{w:World}{K:PySem.W.Frag}{mg:Str→Option Value}{base:Heap}{x qual:Str}{st:Stmt}{f:Addr}{fd:FuncData}{N ps:List Str}{k:Nat}{sp:Sp}(F:Ke K x qual st f fd)(S:Wa N ps (ka st))
  (h:∀vs H Q E,sp vs H Q E→vs.length=ps.length∧∀(uK:Value) (A:Around) (outer:List Env) (s:Shared),jo k (A.deeper (envOfC qual (ka st) s.heap.objs.size f uK))→
   ∃t,PSs (WaC ke P w K mg base N qual (ka st) f uK A outer s H E).nox (xG st) t∧t {nx:=fun _ H'=>Q .non H',rt:=Q} (start N vs) H):wb P w K mg base ke (k+1) f fd ps sp:=
 F.ok S (fun vs H Q E z=>(h vs H Q E z).1) fun uK A outer s H vs Q E hr z=>(h vs H Q E z).2 uK A outer s hr
theorem jo.m{j k:Nat}{A:Around}(r:jo k A)(h:j≤k:=by decide):jo j A:=r.mono h
theorem nb{a b:Nat}(h:Nat.ble a b=true):a≤b:=Nat.le_of_ble_eq_true h
end L2
namespace PySem
open Sem (wp)
section
variable{prog:Program}{w:World}{K:Type} [DecidableEq K] {knd:HeapKind prog w K}{A:Around}{E:Value→Shared→Prop}{s:Shared}
theorem Ja5{d a:Addr}{xs:List (K×Addr×Value)}{k:K}{dflt:Value}{Q:Value→Shared→Prop}(hu:knd.room A)(yaJ:knd.is s.heap k a)(hm:s.heap.DictOfH knd d xs)
  (h1:∀v,(atKey xs k).map (·.2)=some v→Q v {s with toks:=s.toks+knd.draws k})
  (h2:atKey xs k=none→∀h',h'.DictOfH knd d (storedH xs k a dflt)→Heap.SameBut d s.heap h'→Q dflt {s with heap:=h',toks:=s.toks+knd.draws k})
  (hsz:xs.length≤sizeLine:=by size_fits):wpAny (model prog w) A (dictSetDefault d (.ref a) dflt) Q E s:=by
 obtain ⟨o,es,ep,ho,hc,hd,he,his,hn⟩:=hm;unfold dictSetDefault;try with_reducible refine wpAny_holding ?_
 refine wpAny_bind (knd.pyHash hu yaJ ?_);refine wpAny_bind (wpAny_dictFind_heap (s:={s with toks:=s.toks+knd.draws k}) hu yaJ ho hd he his hn ?_ ?_)
 ·intro hno;have ubs:k∉xs.map (·.1):=not_mem_keys_of_get hno;refine wpAny_bind (wpAny_rule (wpAny_bind (wpAny_updateDictKeys (hz:=by have e:=size_of_entries he;omega) (s:={s with toks:=s.toks+knd.draws k}) ho hd (wpAny_pure (h2 (atKey_none_of_get hno) _ ⟨_,_,ep+1,Heap.get?_update_self _ ho (Obj.isFreed_of_dict (Obj.data_mapDictKeys hd _)),
   hc.mapDictKeys _,Obj.data_mapDictKeys hd _,?_,?_,?_⟩ (Heap.SameBut.update ..))))))
  ·rw [storedH_new (atKey_none_of_get hno)];simp [he,entryOfKey]
  ·rw [storedH_new (atKey_none_of_get hno)];intro x hx;rcases List.mem_append.mp hx with hx | hx
   ·exact knd.keeps (his x hx) ho hd (Heap.SameBut.update ..)
   ·simp only [List.mem_singleton] at hx;subst hx;exact knd.keeps yaJ ho hd (Heap.SameBut.update ..)
  ·rw [storedH_new (atKey_none_of_get hno)];rw [List.map_append,List.nodup_append];refine ⟨hn,by simp,?_⟩;intro x hx y hy;simp only [List.map_cons,List.map_nil,List.mem_singleton] at hy;subst hy;exact fun e=>ubs (e▸hx)
 ·intro j p hj;refine wpAny_bind (wpAny_dictEntries (s:={s with toks:=s.toks+knd.draws k}) ho hd ?_);rw [entry_at he j,hj];refine wpAny_bind (wpAny_rule (wpAny_pure (h1 _ ?_)));rw [atKey_of_get hn hj];rfl
theorem KaM(d a:Addr)(hd:(d==sysModules)=false)(dflt:Value):
  MeetsIn prog w (Builtin.«dict.setdefault» ⟨[.ref d, .ref a,dflt], []⟩) (fun A R s=>knd.room A.in1∧∃k xs,knd.is s.heap k a∧s.heap.DictOfH knd d xs∧xs.length≤sizeLine∧
   (∀v,(atKey xs k).map (·.2)=some v→R (.ok (.ret v)) {s with toks:=s.toks+knd.draws k})∧
   (atKey xs k=none→∀h',h'.DictOfH knd d (storedH xs k a dflt)→Heap.SameBut d s.heap h'→R (.ok (.ret dflt)) {s with heap:=h',toks:=s.toks+knd.draws k})):=
 .of_wp fun A R s ⟨hu,k,xs,yaJ,hm,hz,h1,h2⟩=>by
  unfold Builtin.«dict.setdefault»;refine wpAny_bind ?_;unfold Builtin.Dict.keyAndDefault;refine wpAny_bind (wpAny_notOrdered_dict hm.typeIs ?_);show wpAny _ _ (pure (d,Value.ref a,some dflt)) _ _ s;refine wpAny_pure ?_;show wpAny _ _ (if (d==sysModules)=true then _ else (dictSetDefault d (.ref a) dflt>>=_)) _ _ s;rw [if_neg (by rw [hd];exact Bool.false_ne_true)];exact wpAny_bind (Ja5 (hsz:=hz) hu yaJ hm (fun v hv=>wpAny_pure ⟨v,rfl,h1 v hv⟩) fun hn h' hm' hs'=>wpAny_pure ⟨dflt,rfl,h2 hn h' hm' hs'⟩)
end
end PySem
namespace L2
open PySem PySem.Spec PyProof.Rows
section
variable{X:Cx}{pins:List (Addr×Obj)}{σ:L2.St}{H:Hp}{s:Shared}{a b:Addr}{v:V}{r:Value}{A:Around}{E:Value→Shared→Prop}{Yb:List (List Key×V)}{k:List Key}
theorem wbg{Q:Value→Shared→Prop}(hu:A.units+1<cLine)(I:Inv X pins σ H s)(e:H a=some (.dT Yb))(eb:H b=some (.tup (k.map kV)))(rv:RelV v r)(hl:Yb.length<sizeLine)
  (h1:∀z w' s',yA Yb k=some z→Inv X pins σ H s'→RelV z w'→Q w' s') (h2:∀s',yA Yb k=none→Inv X pins σ (upd H a (.dT (putK Yb k v))) s'→Q r s'):
  wpAny (model X.prog X.w) A (call (.builtin "dict.setdefault") [.ref a, .ref b,r]) Q E s:=by
 obtain ⟨z,hd,xs,rel,dd⟩:=vbc I.Xd e;have hz:xs.length≤sizeLine:=by rw [←Paired.length rel];exact z
 have rv':=rel.val k;refine call_meetsIn PySem.F.slot_dict_setdefault dd.typeIs PySem.F.entry_dict_setdefault (PySem.F.args_dict_setdefault_3 _ _ _) (KaM (knd:=tupleKind (Vg X.prog X.w)) a b hd r) ⟨tupleKind_room_in1 hu,k,xs,Xaf I.Xd eb,dd,hz,fun u hq=>?_,fun hq h' dd' hs=>?_⟩
 ·rw [hq] at rv';cases q:yA Yb k with
  | none=>rw [q] at rv';exact (show False from rv').elim
  | some z'=>
   rw [q] at rv';exact h1 z' u _ q (I.tok _) rv'
 ·rw [hq] at rv';have q:yA Yb k=none:=by
   cases q:yA Yb k with
   | none=>rfl
   | some z'=>rw [q] at rv';exact (show False from rv').elim
  have hl':(putK Yb k v).length≤sizeLine:=by have:=J4 Yb k v;omega
  refine h2 _ q ?_;obtain ⟨q,es,ep,hq,g2,g3,g4,_,g5⟩:=dd';refine waE I (by rw [e];exact True.intro) hs ⟨q,hq⟩ ⟨hl',hd,_,(rel.put k eb rv).keeps fun c ys ec=>?_,q,es,ep,hq,g2,g3,g4,g5⟩;rw [Va (qbc ec e (fun z=>nomatch z))];exact ec
end
def Kbf(td ty tx:TE):TE:=fun σ H Q=>td σ H fun x H1=>∃a,x= .ref a∧IsD H1 a∧ty σ H1 fun y H2=>tx σ H2 fun z H3=>∃Yb k b,H3 a=some (.dT Yb)∧y= .ref b∧H3 b=some (.tup (k.map kV))∧Yb.length<sizeLine∧
 (∀v,yA Yb k=some v→Q v H3)∧(yA Yb k=none→Q z (upd H3 a (.dT (putK Yb k z))))
section
variable{X:Cx}{o e f:Expr}{apos Kn:Pos}{td ty tx:TE}
theorem xa5(hu:X.A.units+1<cLine)(ho:PE X o td)(he:PE X e ty)(hf:PE X f tx)(m:M2 X o "setdefault" apos e f Kn):PE X (.Call (.Attribute o "setdefault" apos) [e,f] [] Kn) (Kbf td ty tx):=by
 intro pins s σ H Q I h;refine wpAny_Call_method m.base m.few m.line PySem.F.plainAttrs_dict PySem.F.slot_dict_setdefault PySem.F.type_dict_setdefault (zg (ho pins s σ H _ I h) fun u s1 ⟨x,H1,I1,rx,a,ex,d,q1⟩=>?_);subst ex;obtain rfl:u=Value.ref a:=rx;obtain ⟨t1,t2,_⟩:=KaO I1 d;refine ⟨t1,t2,?_⟩;rw [m.trees];refine Calls.callWith_builtin rfl (Calls.evalArgs_plain (Calls.spliced_cons (zg (he pins s1 σ H1 _ I1 q1) fun iv s2 ⟨y,H2,I2,ry,q2⟩=>
  Calls.spliced_cons (zg (hf pins s2 σ H2 _ I2 q2) fun fv s3 ⟨z,H3,I3,rz,q3⟩=>Calls.spliced_nil ?_))))
 obtain ⟨Yb,k,b,g1,rfl,g2,g3,g4,g5⟩:=q3;cases (show iv=Value.ref b from ry);exact wbg hu I3 g1 g2 rz g3 (fun z' w' s4 q I4 r4=>⟨_,H3,I4,r4,g4 z' q⟩) fun s4 q I4=>⟨z,_,I4,rz,g5 q⟩
end
end L2
namespace L2
open PySem PySem.Spec PyProof.Rows
section
variable{prog:Program}{w:World}{A:Around}{E:Value→Shared→Prop}{s:Shared}
theorem XaQ{v d:Addr}{o:Obj}{es:Array DictEntry}{ep:Nat}{Q:Value→Shared→Prop}(hv:s.heap.IsValuesView v d)(ho:s.heap.get? d=some o)(Vbl:o.data= .dict es ep)
  (hQ:Q (.ref s.heap.objs.size) {s with heap:=s.heap.push {cls:= .type "dict_valueiterator",data:= .fields #[.ref d, .int 0 0, .int es.size 0, .int ep 0]}}):
  wpAny (model prog w) A (pyIter (.ref v)) Q E s:=by
 obtain ⟨ow,how,_,Ubs⟩:=id hv;refine wpAny_pyIter_slot hv.typeIs F.slot_dict_values_iter (wpAny_call_entry F.slot_dict_values_iter hv.typeIs F.entry_dict_values_iter ?_ (F.args_dict_values_iter_1 _));unfold Builtin.«dict_values.__iter__»;refine wpAny_bind (wpAny_pure (wpAny_bind ?_));unfold Builtin.Dict_items.dictOf;refine wpAny_bind (wpAny_field how Ubs (x:= .ref d) rfl (wpAny_pure (wpAny_bind ?_)));unfold Builtin.Dict_items.newIterator;refine wpAny_bind (wpAny_dictEntries ho Vbl (wpAny_bind (wpAny_dictEpoch ho Vbl ?_)));simp only [show Builtin.Dict_items.ownsTuple "dict_valueiterator"=false by decide,Bool.false_eq_true,if_false];refine wpAny_newObj_type (wpAny_pure ⟨_,rfl,"dict_valueiterator",_,⟨_,Heap.get?_push_size _ rfl,rfl⟩,F.slot_dict_valueiterator_next.lookup,?_⟩);simpa [rawInt] using hQ
theorem Uay{it d:Addr}{i n ep:Nat}{od:Obj}{es:Array DictEntry}{en:DictEntry}{Q:Option Value→Shared→Prop}(hit:s.heap.IsValIter it d i n ep)(hod:s.heap.get? d=some od)(hdd:od.data= .dict es ep)
  (hsz:es.size=n) (hx:es[i]? =some en) (hQ:∀h',h'.IsValIter it d (i+1) n ep→Heap.SameBut it s.heap h'→Q (some en.val) {s with heap:=h'}):wpAny (model prog w) A (pyNext (.ref it)) Q E s:=by
 obtain ⟨o,ho,hc,hd⟩:=id hit;unfold pyNext;refine wpAny_bind (wpAny_attempt (wpAny_callSpecial?_slot (name:=Str.ofString "__next__") hit.typeIs F.slot_dict_valueiterator_next
  (wpAny_call_entry F.slot_dict_valueiterator_next hit.typeIs F.entry_dict_valueiterator_next ?_ (F.args_dict_valueiterator_next_1 _))))
 refine wpAny_bind (wpAny_pure (wpAny_bind (wpAny_bind ?_)));first | refine wpAny_bind (wpAny_typeNameOfWhole_valiter hit.typeIs (wpAny_pure ?_)) | refine wpAny_bind (wpAny_typeNameOf_valiter hit.typeIs (wpAny_pure ?_))
 refine wpAny_bind (wpAny_fieldsOf ho hd ?_);simp only [show Builtin.Dict_items.ownsTuple "dict_valueiterator"=false by decide,Bool.false_eq_true,if_false];show wpAny _ _ (if (Value.ref d==Value.none)=true then _ else _) _ _ s;rw [if_neg (show¬((Value.ref d==Value.none)=true) from Bool.false_ne_true)];refine wpAny_bind (wpAny_pure (wpAny_bind (wpAny_dictEntries hod hdd ?_)));rw [if_neg (by rw [hsz];simp)];refine wpAny_bind (wpAny_pure (wpAny_bind (wpAny_dictEpoch hod hdd ?_)));rw [if_neg (by simp)];refine wpAny_pure ?_;obtain ⟨wbs,hen⟩:=Array.getElem?_eq_some_iff.mp hx;simp only [show¬((i:Int)<0) from by omega,if_false,Int.toNat_natCast,Array.getElem?_eq_getElem wbs];refine wpAny_bind ?_;first | refine wpAny_bind (wpAny_typeNameOfWhole_valiter hit.typeIs (wpAny_pure ?_)) | refine wpAny_bind (wpAny_typeNameOf_valiter hit.typeIs (wpAny_pure ?_))
 refine wpAny_bind (wpAny_isOneOf_valiter hit.typeIs ?_);show wpAny _ _ (setField (.ref it) 1 (rawInt ((i:Int)+1))>>=_) _ _ s;refine wpAny_bind (wpAny_setField ho hd (by simp) ?_);have za0:(s.heap.update it (Obj.mapFields (·.setIfInBounds 1 (rawInt ((i:Int)+1))))).IsValIter it d (i+1) n ep:=
  ⟨_,Heap.get?_update_self _ ho (Obj.isFreed_of_fields (Obj.data_mapFields hd _)),(Obj.cls_mapFields ..).trans hc,by rw [Obj.data_mapFields hd];simp [rawInt]⟩
 refine wpAny_bind (wpAny_holding ?_);refine wpAny_bind (wpAny_isOneOf_valiter (s:={s with heap:=s.heap.update it (Obj.mapFields (·.setIfInBounds 1 (rawInt ((i:Int)+1))))}) za0.typeIs ?_);rw [if_neg (by decide)];refine wpAny_bind (wpAny_isOneOf_valiter (s:={s with heap:=s.heap.update it (Obj.mapFields (·.setIfInBounds 1 (rawInt ((i:Int)+1))))}) za0.typeIs ?_);rw [if_pos (by decide)];show wpAny _ _ (pure es[i].val) _ _ _;rw [hen];exact wpAny_pure (wpAny_pure ⟨_,rfl,wpAny_pure (hQ _ za0 (Heap.SameBut.update ..))⟩)
theorem yaH{it d:Addr}{i n ep:Nat}{od:Obj}{es:Array DictEntry}{Q:Option Value→Shared→Prop}(hh:A.handled=none)(hit:s.heap.IsValIter it d i n ep)(hod:s.heap.get? d=some od)(hdd:od.data= .dict es ep)
  (hsz:es.size=n) (hge:n≤i) (hQ:∀h',Heap.ExtBut it s.heap h'→Q none {s with heap:=h'}):wpAny (model prog w) A (pyNext (.ref it)) Q E s:=by
 obtain ⟨o,ho,hc,hd⟩:=id hit;unfold pyNext;refine wpAny_bind (wpAny_attempt (wpAny_callSpecial?_slot (name:=Str.ofString "__next__") hit.typeIs F.slot_dict_valueiterator_next
  (wpAny_call_entry F.slot_dict_valueiterator_next hit.typeIs F.entry_dict_valueiterator_next ?_ (F.args_dict_valueiterator_next_1 _))))
 refine wpAny_bind (wpAny_pure (wpAny_bind (wpAny_bind ?_)));first | refine wpAny_bind (wpAny_typeNameOfWhole_valiter hit.typeIs (wpAny_pure ?_)) | refine wpAny_bind (wpAny_typeNameOf_valiter hit.typeIs (wpAny_pure ?_))
 refine wpAny_bind (wpAny_fieldsOf ho hd ?_);simp only [show Builtin.Dict_items.ownsTuple "dict_valueiterator"=false by decide,Bool.false_eq_true,if_false];show wpAny _ _ (if (Value.ref d==Value.none)=true then _ else _) _ _ s;rw [if_neg (show¬((Value.ref d==Value.none)=true) from Bool.false_ne_true)];refine wpAny_bind (wpAny_pure (wpAny_bind (wpAny_dictEntries hod hdd ?_)));rw [if_neg (by rw [hsz];simp)];refine wpAny_bind (wpAny_pure (wpAny_bind (wpAny_dictEpoch hod hdd ?_)));rw [if_neg (by simp)];refine wpAny_pure ?_;have Wbs:es.size≤i:=by rw [hsz];exact hge
 simp only [show¬((i:Int)<0) from by omega,if_false,Int.toNat_natCast,Array.getElem?_eq_none Wbs];refine wpAny_bind ?_;first | refine wpAny_bind (wpAny_typeNameOfWhole_valiter hit.typeIs (wpAny_pure ?_)) | refine wpAny_bind (wpAny_typeNameOf_valiter hit.typeIs (wpAny_pure ?_))
 show wpAny _ _ (setField (.ref it) 0 .none>>=_) _ _ s;refine wpAny_bind (wpAny_setField ho hd (by simp) ?_);show wpAny _ _ (newExc (.type "StopIteration") []>>=_) _ _ _;refine wpAny_bind ?_;simp only [newExc,newTuple];refine wpAny_bind (wpAny_newObj_type ?_ (by size_fits));refine wpAny_bind (m:=firstArgMember _ _) (wpAny_of_eq (a:=Value.none) (by first | rfl | (simp only [firstArgMember];rfl)) ?_);refine wpAny_newObj_type ?_ (by size_fits);simp only [raiseNew];refine wpAny_bind (wpAny_handled ?_);rw [show A.in1.handled=none from hh];refine wpAny_bind (wpAny_pure (wpAny_throw ?_));refine wpAny_bind (wpAny_isInstance (T:="StopIteration") (b:=true) ⟨_,Heap.get?_push_size _ rfl,rfl⟩ isSubtype_stop ?_);exact wpAny_pure (hQ _ (((Heap.SameBut.update ..).extBut.push _).push _))
end
section
variable{X:Cx}{pins:List (Addr×Obj)}{σ:L2.St}{H:Hp}{s:Shared}{d:Addr}{o:Obj}
theorem Inv.Ja0{Yb:List (List Key×V)}(I:Inv X pins σ H s)(h:H d=some (.frz o (.dT Yb))):
  (d==sysModules)=false∧s.heap.get? d=some o∧o.ExactDict∧∃(es:Array DictEntry) (ep:Nat),o.data= .dict es ep∧es.size=Yb.length∧
   ∀(i:Nat) (k:List Key) (v:V),Yb[i]? =some (k,v)→∃(en:DictEntry),es[i]? =some en∧RelV v en.val:=by
 obtain ⟨hd,z,hs,xs,pr,o',es,ep,ho,hx,hdt,he,_⟩:=I.Xd d _ h;rw [hd] at ho;cases ho;refine ⟨hs,hd,hx,es,ep,hdt,?_,fun i k v e=>?_⟩
 ·have l1:es.size=xs.length:=size_of_entries he;have l2:Yb.length=xs.length:=Paired.length pr;omega
 ·obtain ⟨b,hb,e1,e2,e3⟩:=xW pr e;have q:=entry_at he i;rw [hb] at q;exact ⟨_,q,e3⟩
end
def qbd(d:Addr)(o:Obj)(Yb:List (List Key×V)):It:=
 ⟨fun i H=>H d=some (.frz o (.dT Yb))∧i<Yb.length,fun i H x H'=>H'=H∧∃k,Yb[i]? =some (k,x),fun i H=>H d=some (.frz o (.dT Yb))∧Yb.length≤i⟩
theorem ZaR{P:Program}{w:World}{K:PySem.W.Frag}{tg:Expr}{d:Addr}{o:Obj}{es:Array DictEntry}{ep:Nat}{Yb:List (List Key×V)}(it:Addr)(hod:o.data= .dict es ep):Turn P w K tg (qbd d o Yb) [it] it (fun i h=>h.IsValIter it d i Yb.length ep) where
 mem:=by simp
 obj:=fun i h st b hb=>by
  have e:b=it:=by simpa using hb
  subst e;obtain ⟨oi,e,c,dd⟩:=st;exact ⟨oi,e,fun v z=>by rw [dd] at z;cases z⟩
 keep:=fun i h h' st k=>(show h'.IsValIter it d i Yb.length ep from let ⟨oi,e,c⟩:=st;⟨oi,k it (by simp) oi e,c⟩)
 item:=by
  intro X hP hw hK hc i pins s σ H E I hf st hg;subst hP hw hK;obtain ⟨hd,hi⟩:=hg;obtain ⟨f0,f1,f2,f3,f4,f5⟩:=hf it (by simp);obtain ⟨hs,hgd,hx,es',ep',hdt,hsz,ent⟩:=I.Ja0 hd;obtain ⟨rfl,rfl⟩:=Uan hod hdt;obtain ⟨⟨k,v⟩,hkv⟩:∃p,Yb[i]? =some p:=⟨Yb[i],List.getElem?_eq_getElem hi⟩;obtain ⟨en,hen,xbs⟩:=ent i k v hkv;refine Uay st hgd hdt hsz hen fun h' st' sb=>?_;have I1:Inv X pins σ H {s with heap:=h'}:=I.turned (t':=s.toks) (fun b ob hb e=>(sb.2 b hb).trans e) f0 f1 f3 f4 f5;obtain ⟨oi,e,c,dd⟩:=id st';exact ⟨en.val,rfl,jaP (s:={s with heap:=h'}) e c dd (by decide) ⟨v,H,I1,xbs,⟨rfl,k,hkv⟩,st',fun b hb=>(hf b hb).1⟩⟩
 done:=by
  intro X hP hw hK hc i pins s σ H E I hf st hg;subst hP hw hK;obtain ⟨hd,hi⟩:=hg;obtain ⟨f0,f1,f2,f3,f4,f5⟩:=hf it (by simp);obtain ⟨hs,hgd,hx,es',ep',hdt,hsz,ent⟩:=I.Ja0 hd;obtain ⟨rfl,rfl⟩:=Uan hod hdt;exact yaH (I.ok.hd hc) st hgd hdt hsz hi fun h' eb=>⟨rfl,I.turned (t':=s.toks) (fun b ob hb e=>eb b ob hb e) f0 f1 f3 f4 f5⟩
 self:=fun A i s Q E st h=>wpAny_pyIter_valiter st h
def wbe(td:TE):TI:=fun σ H R=>td σ H fun x H1=>∃d o Yb,x= .ref d∧H1 d=some (.frz o (.dT Yb))∧R (qbd d o Yb) H1
theorem waL{prog:Program}{w:World}(d:Addr)(hd:(d==sysModules)=false):
  MeetsIn prog w (Builtin.«dict.values» ⟨[.ref d], []⟩) (fun _ R s=>s.TypeIs (.ref d) "dict"∧R (.ok (.ret (.ref s.heap.objs.size))) {s with heap:=s.heap.push {cls:= .type "dict_values",data:= .fields #[.ref d]}}):=
 .of_wp fun A R s ⟨hT,h⟩=>by
  refine wpAny_bind ?_;unfold Builtin.Dict.noArgs;refine wpAny_bind (wpAny_notOrdered_dict hT (show wpAny _ _ (pure d) _ _ s from wpAny_pure ?_));show wpAny _ _ (Builtin.Dict.showsAll d>>=_) _ _ s;unfold Builtin.Dict.showsAll;rw [if_neg (by rw [hd];exact Bool.false_ne_true)];exact wpAny_bind (wpAny_pure (wpAny_bind (wpAny_newObj_type (wpAny_pure ⟨_,rfl,h⟩))))
theorem vat{X:Cx}{tg e:Expr}{td:TE}{apos Kn:Pos}(he:PE X e td)(uaI:attributeBase e "values" X.env (eval e X.env)=eval e X.env:=by rfl)(UaI:(apos.endLine==Kn.line)=true:=by rfl):PI X tg (.Call (.Attribute e "values" apos) [] [] Kn) (wbe td):=by
 intro pins s σ H R I h;refine wpAny_Call_method (T:="dict") (id:="dict.values") uaI rfl UaI F.plainAttrs_dict F.slot_dict_values F.type_dict_values (zg (he pins s σ H _ I h) fun u s1 ⟨x,H1,I1,rx,d,o,Yb,ex,hd,q⟩=>?_);subst ex;obtain rfl:u=Value.ref d:=rx;obtain ⟨hs,hgd,hx,es,ep,hdt,hsz,ent⟩:=I1.Ja0 hd;have hT:s1.TypeIs (.ref d) "dict":=⟨o,hgd,hx.1⟩;refine ⟨hT,fun b q=>by cases q;exact ⟨o,hgd,hx.2.1⟩,?_⟩;have I2:Inv X pins σ H1 {s1 with heap:=s1.heap.push {cls:= .type "dict_values",data:= .fields #[.ref d]}}:=I1.kept (t':=s1.toks) fun b ob q=>Heap.get?_push_of_some _ q;have fin:wpAny (model X.prog X.w) X.A (pyIter (.ref s1.heap.objs.size)) (PIE X pins σ tg R) X.xe {s1 with heap:=s1.heap.push {cls:= .type "dict_values",data:= .fields #[.ref d]}}:=by
  refine XaQ (d:=d) ⟨_,Heap.get?_push_size _ rfl,rfl,rfl⟩ (Heap.get?_push_of_some _ hgd) hdt (xa1 (tk:=s1.toks) I2 _ (ZaR _ hdt) ⟨_,Heap.get?_push_size _ rfl,rfl,?_⟩ q);rw [hsz]<;>rfl
 show wpAny _ _ (callWith Kn (.builtin "dict.values") [.ref d] [] []) _ X.xe s1;exact method_meetsIn F.slot_dict_values F.entry_dict_values rfl (PySem.evalArgs_none ⟨rfl,hT,F.args_dict_values_1 _,_,waL d hs,hT,fin⟩)
end L2
namespace L2
open PySem PySem.Spec PyProof.Rows
theorem jaB{α β:Type}{F:α→β→Prop}:∀(l:List α) (m:List β),l.length=m.length→(∀(j:Nat) (a:α) (b:β),l[j]? =some a→m[j]? =some b→F a b)→Paired F l m
 | [], [],_,_=> .nil
 | a::l,b::m,h,f=> .cons (f 0 a b rfl rfl) (jaB l m (by simpa using h) fun j x y h1 h2=>f (j+1) x y (by simpa using h1) (by simpa using h2))
theorem zau{X:Cx}(hc:X.calm=true):vax X (.type "list") (fun xs H Q=>∃p Yb,xs= [.ref p]∧H p=some (.dK Yb)∧∀l,H l=none→Q (.ref l) (upd H l (.lst (Yb.map fun kv=>kV kv.1)))):=by
 intro pins s σ H xs us Q I r h;obtain ⟨p,Yb,rfl,hp,q⟩:=h;obtain ⟨u,rfl,rx⟩:=vals1 r;cases rx;obtain ⟨z,hS,vs,rel,o,es,ep,ho,hx,hdt,rest⟩:=Zbc I.Xd hp;have hm:s.heap.DictAt (Vg X.prog X.w) p vs ep:=⟨o,es,ho,hx,hdt,rest⟩;have hl:Yb.length=vs.length:=Paired.length rel;refine PySem.W.kdl_call (PySem.W.kdl_dict hS) (I.ok.hd hc) hm (by omega) fun h' tk acc' c' kp e items=>?_
 refine ⟨.ref s.heap.objs.size,_,I.laid (t':=tk) kp (Nat.le_refl _) (show Kh X.prog X.w _ h' _ (.lst (Yb.map fun kv=>kV kv.1)) from ⟨by rw [List.length_map];exact z,acc'.toList,c',?_,by simpa using e⟩),rfl,q _ (I.Xd.fresh (Nat.le_refl _))⟩;have hsz:(Yb.map fun kv=>kV kv.1).length=acc'.toList.length:=by
  have h1:=items.1;have h2:acc'.toList.length=acc'.size:=Array.length_toList;rw [List.length_map,h2];omega
 refine jaB _ _ hsz fun j a b h1 h2=>?_;rw [List.getElem?_map] at h1;cases ek:Yb[j]? with
 | none=>rw [ek] at h1;cases h1
 | some kv=>
  rw [ek] at h1;have ea:kV kv.1=a:=Option.some.inj h1;obtain ⟨k,x,e1,e2⟩:=items.2 j b (by rw [←Array.getElem?_toList];exact h2);obtain ⟨u',hu',_⟩:=wa0 rel (i:=j) (k:=kv.1) (v:=kv.2) ek;rw [hu'] at e1;cases e1;rw [←ea];exact ja3 e2
end L2
namespace L2
open PySem PySem.Spec PyProof.Rows
structure Bm(mg:Str→Option Value)(base:Heap)(c P:Addr):Prop where
 bm:∃bm ob,mg "__builtins__"=some (.ref bm)∧bm≠builtinsNs∧base.get? bm=some ob∧ob.cls= .type "module"∧ob.dict=some builtinsNs∧ob.data= .plain
 hd:PySem.W.CodeHd base c P
abbrev yaG(c':Addr)(qual:Str):HO:= .ext fun h=>h.CodeRec (.ref c') qual
def Tb(P:Addr)(pos:Pos)(qual:Str)(H:Hp):Prop:=
 H P=some (.tbl #[])∨∃c',H P=some (.tbl #[rawInt pos.line,rawInt pos.col, .ref c'])∧H c'=some (yaG c' qual)
def JC(P:Addr)(H H':Hp):Prop:=∀b o,b≠P→H b=some o→H' b=some o
theorem JC.refl{P:Addr}{H:Hp}:JC P H H:=fun _ _ _ e=>e
theorem Tb.at_ {P:Addr}{pos:Pos}{qual:Str}{H:Hp}(h:Tb P pos qual H):∃ps,H P=some (.tbl ps):=by
 rcases h with h | ⟨_,h,_⟩
 ·exact ⟨_,h⟩
 ·exact ⟨_,h⟩
section
variable{X:Cx}{pins:List (Addr×Obj)}{σ:St}{H:Hp}{s:Shared}{E:Value→Shared→Prop}{c P:Addr}{pos:Pos}{qual:Str}{params:Arguments}{body:Expr}{sc:Scope}
theorem UaM{h1 h2:Heap}{c':Addr}(x:h1.CodeRec (.ref c') qual)(k:∀o,h1.get? c'=some o→h2.get? c'=some o):h2.CodeRec (.ref c') qual:=by
 obtain ⟨c,o,vs,t,e,g,r⟩:=x;cases e;exact ⟨c',o,vs,t,rfl,k _ g,r⟩
theorem Ua5{Q:Value→Shared→Prop}(I:Inv X pins σ H s)(B:Bm X.mg X.base c P)(hc:X.env.code= .ref c)(hq:X.env.qual++"<lambda>"=qual)(Kbd:defaultsOf params X.env=([], []))(K8:closureFor sc X.env=pure [])(tb:Tb P pos qual H)
  (h:∀(f c':Addr) (ctv pm:Value) (H2:Hp) (s':Shared),Inv X pins σ H2 s'→s'.heap.get? f=some (PySem.W.kla_obj "<lambda>" qual params body sc [] pm c' ctv)→s'.heap.CodeRec (.ref c') qual→Tb P pos qual H2→JC P H H2→Q (.ref f) s'):
  wpAny (model X.prog X.w) X.A (eval (.Lambda params body sc pos) X.env) Q E s:=by
 have hg:=I.mod.glob.keeps I.bk;obtain ⟨bm,ob,b1,b2,b3,b4,b5,b6⟩:=B.bm;have cont:∀{ps:Array Value},H P=some (.tbl ps)→s.heap.get? P=some (PySem.W.tabObj ps):=fun {ps} e=>(show Kh X.prog X.w H s.heap P (.tbl ps) from I.Xd P _ e);have bAt:∀{ps:Array Value},s.heap.get? P=some (PySem.W.tabObj ps)→s.heap.BuiltinsAt X.mg P:=fun {ps} e=>by
  refine ⟨bm,ob,b1,b2,fun z=>?_,fun z=>?_,I.bk _ _ b3,b4,b5,b6⟩
  ·obtain ⟨o,es,ep,e',hd,_⟩:=I.mod.glob;rw [z,e'] at b3;cases b3;rw [hd] at b6;cases b6
  ·have e2:=I.bk _ _ b3;rw [z,e] at e2;cases e2;cases b4
 refine PySem.W.kla_eval Kbd ?_;rw [hq];rcases tb with tb | ⟨c0,tb,tc⟩
 ·have hP:=cont tb;have hgP:mainGlobals≠P:=fun z=>by
   obtain ⟨o,es,ep,e',hd,_⟩:=hg;rw [z,hP] at e';cases e';cases hd
  refine PySem.W.kla_makeFunction (mg:=X.mg) K8 I.ok.glob hg hc (B.hd.keeps I.bk) hP trivial rfl hgP (bAt hP) fun c' ctv h' tk hx hge XF Xbs htb=>?_;rw [show (#[]:Array Value)++ #[rawInt pos.line,rawInt pos.col, .ref c']= #[rawInt pos.line,rawInt pos.col, .ref c'] from Array.empty_append] at htb;have nc:H c'=none:=I.Xd.fresh hge;have cP:c'≠P:=fun z=>by rw [z,tb] at nc;cases nc
  have kp:∀b o,b≠P→s.heap.get? b=some o→(h'.push (PySem.W.kla_obj "<lambda>" qual params body sc [] ((X.mg "__name__").getD .none) c' ctv)).get? b=some o:=fun b o n e=>Heap.get?_push_of_some _ (hx b o n e);have e2:upd (upd H P (.tbl #[rawInt pos.line,rawInt pos.col, .ref c'])) c' (yaG c' qual) P=some (.tbl #[rawInt pos.line,rawInt pos.col, .ref c']):=by
   rw [Va (Ne.symm cP),Ya]
  have en:∀{b o},b≠P→H b=some o→upd (upd H P (.tbl #[rawInt pos.line,rawInt pos.col, .ref c'])) c' (yaG c' qual) b=some o:=fun {b o} n e=>by
   rw [Va (Qb e nc),Va n];exact e
  have tne:∀{b xs},H b=some (.tup xs)→b≠P:=fun {b xs} e z=>by rw [z,tb] at e;cases e
  have fne:∀{b o u},H b=some (.frz o u)→b≠P:=fun {b o u} e z=>by rw [z,tb] at e;cases e
  have one:∀{b y},H b=some (.own y)→b≠P:=fun {b y} e z=>by rw [z,tb] at e;cases e
  have hcr:=Xbs.push (PySem.W.kla_obj "<lambda>" qual params body sc [] ((X.mg "__name__").getD .none) c' ctv);refine h _ c' ctv _ (upd (upd H P (.tbl #[rawInt pos.line,rawInt pos.col, .ref c'])) c' (yaG c' qual)) _ (I.un (t':=tk) (h':=h'.push _) ⟨fun b o e n _ _=>kp b o (fun z=>by rw [z,tb] at n;cases n) e,fun b o e n _ _=>⟨o.slots,kp b o (fun z=>by rw [z,tb] at n;cases n) e⟩,fun b o e n _=>?_,fun b o e _=>?_,fun b xs e=>en (tne e) e,fun b o u e=>en (fne e) e,fun b ps e=>?_⟩ fun b u e=>?_)
   (Heap.get?_push_size _ rfl) hcr (.inr ⟨c',e2,Ya⟩) fun b o n e=>en n e
  ·rw [Va (Nat.ne_of_lt (Nat.lt_of_lt_of_le (Heap.lt_size e) hge)),Va (fun z=>by rw [z,tb] at n;cases n)];exact n
  ·by_cases z:b=P
   ·exact ⟨_,by rw [z];exact Heap.get?_push_of_some _ htb⟩
   ·exact ⟨o,kp b o z e⟩
  ·by_cases z:b=P
   ·subst z;rw [tb] at e;cases e;exact ⟨_,by rw [e2,Array.empty_append]⟩
   ·exact ⟨#[],by rw [en z e];simp⟩
  ·by_cases z:b=c'
   ·subst z;rw [Ya] at e;cases e;obtain ⟨c2,o2,vs2,t2,q1,q2,q3⟩:=id hcr;cases q1;exact ⟨hcr,⟨_,q2⟩,fun h1 h2 x k=>UaM x k⟩
   ·by_cases z2:b=P
    ·subst z2;rw [e2] at e;cases e;exact Heap.get?_push_of_some _ htb
    ·rw [Va z,Va z2] at e;refine (I.Xd b u e).jae (fun d v hd q=>kp d v ?_ q) (fun d q=>en (one q) q) fun d xs q=>en (tne q) q;rcases hd with rfl | hd
     ·exact z2
     ·exact one hd
 ·have hP:=cont tb;have hcr:s.heap.CodeRec (.ref c0) qual:=(show Kh X.prog X.w H s.heap c0 (yaG c0 qual) from I.Xd c0 _ tc).1;refine PySem.W.kla_makeFunctionHit (mg:=X.mg) (cv:= .ref c0) K8 I.ok.glob hg hc (B.hd.keeps I.bk) hP ⟨⟩ (by simp [codeAmong,rawInt]) (bAt hP) fun ctv h' tk hk hsz=>?_
  have kp:∀b o,s.heap.get? b=some o→(h'.push (PySem.W.kla_obj "<lambda>" qual params body sc [] ((X.mg "__name__").getD .none) c0 ctv)).get? b=some o:=fun b o e=>Heap.get?_push_of_some _ (hk b o e);exact h _ c0 ctv _ H _ (I.kept (t':=tk) kp) (Heap.get?_push_size _ rfl) (hcr.keeps kp) (.inr ⟨c0,tb,tc⟩) JC.refl
end
end L2
namespace L2
open PySem PySem.Spec PyProof.Rows
theorem za5{prog:Program}{w:World}{A:Around}{E:Value→Shared→Prop}{s:Shared}{K:PySem.W.Frag}{fa c' a dx C:Addr}{mA:Str→Option Value}{qual y f:Str}{params:Arguments}{sc:Scope}{q1 q2:Pos}{pm ctv:Value}{k:Int}{t:Tok}{Q:Value→Shared→Prop}
  (room:A.depth<recursionLimit) (lim:s.heap.NoLimit) (ho:s.heap.get? fa=some (PySem.W.kla_obj "<lambda>" qual params (.Attribute (.Name y q1) f q2) sc [] pm c' ctv)) (xN:s.heap.CodeRec (.ref c') qual) (KX:K.In s.heap)
  (ob:JaD s.heap a dx C mA) (cl:Y9 K C) (na:qc K C f) (hv:mA f=some (.int k t))
  (bind:bindArgs (PySem.W.kla_fn "<lambda>" qual params (.Attribute (.Name y q1) f q2) sc [] pm (.ref c') ctv) ⟨[.ref a], []⟩=pure [(y, .ref a)])
  (hk:sc.kind= .function) (hco:sc.isCoroutine=false) (jbd:sc.isGenerator=false) (kax:∀x∈sc.names,x.2≠ .cell) (hy:sc.names.lookup y=some .local) (hdb:(y==("__debug__":Str))=false)
  (h:∀h' tk,(∀b o,s.heap.get? b=some o→h'.get? b=some o)→Q (.int k t) {s with heap:=h',toks:=tk}):wpAny (model prog w) A (call (.ref fa) [.ref a]) Q E s:=by
 refine wpAny_call (PySem.W.kla_callFunE room ho rfl hco jbd rfl xN ?_);rw [bind];refine wpAny_pure (wpAny_newFunctionEnv kax (fun x hx=>?_) (fun h₁ hns hsb=>?_) hk)
 ·have e:x=(y, .ref a):=by simpa using hx
  rw [e];exact hy
 ·have kp:∀b o,s.heap.get? b=some o→h₁.get? b=some o:=fun b o e=>hsb.extBut b o (Nat.ne_of_lt (Heap.lt_size e)) (Heap.get?_push_of_some _ e);refine ⟨lim.keeps kp,PySem.W.kla_codeExpr (WaU rfl (wpAny_Name (wpAny_loadName_local (v:= .ref a) hk hy hns ?_ ?_) hdb))⟩
  ·show List.lookup y [(y,Value.ref a)]=_;simp
  ·refine get_map (K:=K) (KX.keeps kp) ⟨kp _ _ ob.obj,?_,ob.ne⟩ (cl.get f) cl.hd na hv rfl ?_
   ·obtain ⟨o,es,ep,e,r⟩:=ob.ns;exact ⟨o,es,ep,kp _ _ e,r⟩
   ·exact h _ _ kp
end L2
namespace L2
open PySem PySem.Spec PyProof.Rows
theorem JC.seq{K:PySem.W.Frag}{P:Addr}{H H':Hp}{a:Addr}{xs:List V}{ps:Array Value}(e:JC P H H')(hP:H P=some (.tbl ps))(h:xb K H a xs):xb K H' a xs:=by
 rcases h with (h | ⟨o,h⟩) | h
 ·exact .inl (.inl (e _ _ (fun z=>by rw [z,hP] at h;cases h) h))
 ·exact .inl (.inr ⟨o,e _ _ (fun z=>by rw [z,hP] at h;cases h) h⟩)
 ·exact .inr h
theorem jaV:∀{xs:List Addr} {us:List Value},Vals (xs.map V.ref) us→us=xs.map Value.ref
 | [],_,h=>by cases h;rfl
 | a::r,_,h=>by
  cases h with
  | cons h1 h2=>
   cases h1;rw [jaV h2];rfl
theorem Kh.there{P:Program}{w:World}{H:Hp}{h:Heap}{a:Addr}{o:HO}(x:Kh P w H h a o):∃ob,h.get? a=some ob:=by
 cases o with
 | lst xs=>obtain ⟨_,_,_,_,e⟩:=x;exact ⟨_,e⟩
 | tup xs=>obtain ⟨_,_,_,_,e,_⟩:=x;exact ⟨_,e⟩
 | dK Yb=>obtain ⟨_,_,_,_,o,_,_,e,_⟩:=x;exact ⟨_,e⟩
 | dT Yb=>obtain ⟨_,_,_,_,o,_,_,e,_⟩:=x;exact ⟨_,e⟩
 | set S n=>obtain ⟨o,_,_,_,e,_⟩:=x;exact ⟨_,e⟩
 | ins C dx fs=>obtain ⟨_,_,_,e,_⟩:=x;exact ⟨_,e⟩
 | own y=>exact x
 | xd fs=>obtain ⟨_,⟨_,_,_,e,_⟩,_⟩:=x;exact ⟨_,e⟩
 | rng lo hi=>obtain ⟨_,_,_,e⟩:=x;exact ⟨_,e⟩
 | frz ob u=>obtain ⟨e,_⟩:=x;exact ⟨_,e⟩
 | tbl ps=>exact ⟨_,(show h.get? a=some _ from x)⟩
 | met f y=>exact ⟨_,(show h.get? a=some _ from x)⟩
 | ext φ=>obtain ⟨_,e,_⟩:=x;exact e
theorem Kbb:∀(ps:List (Int×Value)) (zs:List (Int×Addr)),ps.Perm (zs.map fun p=>(p.1,Value.ref p.2))→∃rs:List (Int×Addr),rs.Perm zs∧ps=rs.map fun p=>(p.1,Value.ref p.2)
 | [],zs,h=>by
  have:=h.length_eq;rw [List.length_map] at this;have:zs= []:=List.length_eq_zero_iff.mp this.symm;subst this;exact ⟨[], .nil,rfl⟩
 | x::r,zs,h=>by
  have hx:x∈zs.map fun p=>(p.1,Value.ref p.2):=h.mem_iff.mp List.mem_cons_self;obtain ⟨z,hz,rfl⟩:=List.mem_map.mp hx;obtain ⟨s,t,rfl⟩:=List.append_of_mem hz;have h2:((z.1,Value.ref z.2)::r).Perm ((z.1,Value.ref z.2)::((s++t).map fun p=>(p.1,Value.ref p.2))):=h.trans (by
   rw [List.map_append,List.map_cons,List.map_append];exact List.perm_middle)
  obtain ⟨rs,h3,h4⟩:=Kbb r (s++t) (List.Perm.cons_inv h2);exact ⟨z::rs,(h3.cons z).trans List.perm_middle.symm,by rw [h4];rfl⟩
def ubb(K:PySem.W.Frag)(C P:Addr)(lpos:Pos)(qual f:Str)(Q:VK)(v:V)(H1:Hp):Prop:=∃(l:Addr) (xs:List Addr) (kz:List Int),v= .ref l∧xb K H1 l (xs.map V.ref)∧kz.length=xs.length∧xs.length≤sizeLine∧
 (∀(i:Nat) (a:Addr) (k:Int),xs[i]? =some a→kz[i]? =some k→∃dx fs,H1 a=some (.ins C dx fs)∧fs.lookup f=some (.int k))∧Tb P lpos qual H1∧
 ∀(H2:Hp) (D:Addr) (ps:List (Int×Addr)),Tb P lpos qual H2→JC P H1 H2→H2 D=none→ps.Perm (kz.zip xs)→ps.Pairwise (fun p q=>p.1≤q.1)→Q (.ref D) (upd H2 D (.lst (ps.map fun p=>V.ref p.2)))
def Zbf(K:PySem.W.Frag)(C P:Addr)(lpos:Pos)(qual f:Str)(te:TE):TE:=fun σ H Q=>te σ H fun v H1=>ubb K C P lpos qual f Q v H1
theorem vaU:∀(kz:List Int) (xs:List Addr),kz.zip (xs.map Value.ref)=(kz.zip xs).map fun p=>(p.1,Value.ref p.2)
 | [],_=>rfl
 | _::_, []=>rfl
 | k::kz,a::xs=>by
  show (k,Value.ref a)::kz.zip (xs.map Value.ref)=(k,Value.ref a)::_;rw [vaU kz xs];rfl
theorem Xaz:∀xs:List Addr,Vals (xs.map V.ref) (xs.map Value.ref)
 | []=> .nil
 | a::r=> .cons rfl (Xaz r)
theorem va5{X:Cx}{k:Nat}{e:Expr}{te:TE}{c P C:Addr}{p q1 q2 lpos kpos pos:Pos}{y f qual:Str}{params:Arguments}{sc:Scope}(he:PE X e te)(hr:jo k X.A)(B:Bm X.mg X.base c P)(hc:X.env.code= .ref c)(hq:X.env.qual++"<lambda>"=qual)
  (hg:Gl X "sorted") (hm:X.mg "sorted"=none) (hv:bootBuiltins "sorted"=some (.builtin "sorted")) (Kbd:defaultsOf params X.env=([], [])) (K8:closureFor sc X.env=pure []) (cl:Y9 X.K C) (na:qc X.K C f)
  (Ua0:∀(pm ctv:Value) (c' a:Addr),bindArgs (PySem.W.kla_fn "<lambda>" qual params (.Attribute (.Name y q1) f q2) sc [] pm (.ref c') ctv) ⟨[.ref a], []⟩=pure [(y, .ref a)])
  (hk:sc.kind= .function) (hco:sc.isCoroutine=false) (jbd:sc.isGenerator=false) (kax:∀x∈sc.names,x.2≠ .cell) (hy:sc.names.lookup y=some .local) (hdb:(y==("__debug__":Str))=false)
  (hs1:starEach [e] X.env=(false,eval e X.env)::starEach [] X.env:=by rfl):
  PE X (.Call (.Name "sorted" p) [e] [⟨some "key", .Lambda params (.Attribute (.Name y q1) f q2) sc lpos,kpos⟩] pos) (Zbf X.K C P lpos qual f te):=by
 intro pins s σ H Q I h;refine wpAny_Call_Name_kw (Wao I hg hm hv ?_ (by decide) (by decide));refine callWith_kw ?_ (by rw [hs1];rfl) (by rw [hs1];rfl);refine zg ((za he Qa hs1) pos pins s σ H (fun vs H1=>match vs with
  | [v]=>ubb X.K C P lpos qual f Q v H1
  | _=>False) I h) fun us s1 ⟨vs,H1,I1,r1,hq1⟩=>?_
 match vs,r1,hq1 with
 | [v],r1,⟨l,xs,kz,ev,hl,hlen,hz,hit,tb,q⟩=>
 subst ev;obtain ⟨u,rfl,ru⟩:=vals1 r1;cases ru;refine kws_cons (Ua5 I1 B hc hq Kbd K8 tb fun fa c' ctv pm H2 s2 I2 hf hcr tb2 sb=>kws_nil ?_);obtain ⟨pt,hpt⟩:=tb.at_
 have hl2:=sb.seq hpt hl;obtain ⟨Jd,rv,hpl,_⟩:=I2.list hl2;have ei:=jaV rv;subst ei;obtain ⟨m,F⟩:=I2.fr;have N:=qa5 (g:=X.base) (h:=s2.heap) (L:=X.env.locals);have kh:∀{h':Heap} {m':Str→Option Value} {own:List (Addr×Obj)},Fr X.base X.env.locals h' m'→News X.base X.env.locals h' (wan X.base s2.heap X.env.locals++own)→∀b o,b≠X.env.locals→s2.heap.get? b=some o→h'.get? b=some o:=fun {h' m' own} F' N' b o nb e=>by
  cases q2:X.base.get? b with
  | some u=>
   have:=I2.bk b u q2;rw [e] at this;cases this
   exact F'.keep b _ q2
  | none=>exact (N' (b,o) (List.mem_append_left _ (Qam nb q2 e))).1
 have nL:∀{b:Addr} {o:Obj},s2.heap.get? b=some o→(∀es ep,o.data≠ .dict es ep)→b≠X.env.locals:=fun {b o} e hd z=>by
  obtain ⟨m2,⟨o2,es,ep,e2,d2,_⟩,_⟩:=I2.loc;rw [z,e2] at e;cases e
  exact hd _ _ d2
 refine ksk_sortedAny (kz:=kz) (b:=false) (f:= .ref fa) (vs:=xs.map Value.ref) F N hpl.isList (by rw [List.length_map];exact hlen) (by rw [List.length_map];exact hz) (ksk_s1 _ _) (fun _=>ksk_l1 _ _) (fun x=>ksk_t1 fa x) (fun i v kk hv' hk' h' tk own F' N'=>?_) fun D h' tk out cc F' N' lt ko=>?_
 ·have kp:=kh F' N';rw [List.getElem?_map] at hv';cases ea:xs[i]? with
  | none=>rw [ea] at hv';cases hv'
  | some a=>
   rw [ea] at hv';have hv':Value.ref a=v:=Option.some.inj hv';subst hv';obtain ⟨dx,fs,h1,h2⟩:=hit i a kk ea hk';have h1':=sb _ _ (fun z=>by rw [z,hpt] at h1;cases h1) h1;obtain ⟨mA,O,rr,_,_,zbt⟩:=Xan I2.Xd h1';obtain ⟨u,hu,ru⟩:=je.some_of (v:= .int kk) (o:=mA f) (by rw [←h2];exact rr f);obtain ⟨t,rfl⟩:=ru;have na1:a≠X.env.locals:=fun z=>by have:=I2.free;rw [←z,h1'] at this;cases this
   have na2:dx≠X.env.locals:=fun z=>by have:=I2.free;rw [←z,zbt] at this;cases this
   obtain ⟨c2,oc,vs2,t2,ec,hoc,hdc,hqc⟩:=id hcr;cases ec;refine za5 (K:=X.K) (show X.A.depth<_ by have:=hr.dp;omega) (I2.mod.nolimit.keeps F'.keep) (kp _ _ (nL hf (fun es ep z=>by cases z)) hf) ⟨c',oc,vs2,t2,rfl,kp _ _ (nL hoc (fun es ep z=>by rw [hdc] at z;cases z)) hoc,hdc,hqc⟩ (I2.mod.kin.keeps F'.keep)
    ⟨kp _ _ na1 O.obj,O.ns.at fun o e=>kp _ _ na2 e,O.ne⟩ cl na hu (Ua0 pm ctv c' a) hk hco jbd kax hy hdb fun h'' tk' kp'=>⟨h'',tk',t,rfl,rfl,F'.kept kp',N'.grown kp'⟩
 ·have kp:=kh (own:= []) F' (by rw [List.append_nil];exact fun p hp=>N' p (.tail _ hp));have nD:=N' _ (.head _);have fD:s2.heap.get? D=none:=by
   cases q2:s2.heap.get? D with
   | none=>rfl
   | some o=>exact absurd (lt (D,o) (Qam nD.2.1 nD.2.2 q2)) (Nat.lt_irrefl _)
  have hD:H2 D=none:=by
   cases q2:H2 D with
   | none=>rfl
   | some o=>
    obtain ⟨ob,e⟩:=Kh.there (I2.Xd D o q2);rw [fD] at e;cases e
  obtain ⟨ps,hp,ho,hs⟩:=ko;rw [vaU] at hp;obtain ⟨rs,hrs,rfl⟩:=Kbb ps _ hp;have q2:=q H2 D rs tb2 sb hD hrs (by
   rw [List.pairwise_map] at hs;exact hs)
  have lrs:rs.length≤sizeLine:=by
   rw [hrs.length_eq,List.length_zip,hlen,Nat.min_self];exact hz
  have eo:out=((rs.map (·.2)).map Value.ref).toArray:=by
   apply Array.toList_inj.mp;rw [ho,List.map_map,List.map_map];rfl
  have neD:∀{b:Addr} {o:HO},H2 b=some o→b≠D:=fun e=>Qb e hD;refine ⟨.ref D,upd H2 D (.lst (rs.map fun p=>V.ref p.2)),I2.step (ch:= []) (fun _ z=>nomatch z) (fun b o nb _ _ e _=>kp b o nb e) (fun b o nb _ _ e _=>⟨o.slots,kp b o nb e⟩) (fun b o _ e n=>?_) (fun b o _ e=>?_) (fun b xs' e=>by rw [Va (neD e)];exact e) (fun b o u e=>by rw [Va (neD e)];exact e) (fun b ps' e=>⟨#[],by rw [Va (neD e),e];simp⟩) (fun m' hm'=>?_) (fun b u e=>?_) I2.bare,rfl,q2⟩
  ·rw [Va (fun z=>by rw [z,fD] at e;cases e)];exact n
  ·by_cases z:b=X.env.locals
   ·obtain ⟨o',_,_,e',_⟩:=F'.ns;exact ⟨o',by rw [z];exact e'⟩
   ·exact ⟨o,kp b o z e⟩
  ·have:m'=m:=hm'.eq_nsMap.trans F.ns.eq_nsMap.symm;rw [this];exact F'.ns
  ·by_cases z:b=D
   ·subst z;rw [Ya] at e;cases e;refine ⟨by rw [List.length_map];exact lrs,(rs.map (·.2)).map Value.ref,cc,?_,?_⟩
    ·rw [show (rs.map fun p=>V.ref p.2)=(rs.map (·.2)).map V.ref by rw [List.map_map];rfl];exact Xaz _
    ·rw [nD.1,eo]
   ·rw [Va z] at e;refine (I2.Xd b u e).jae (fun d v hd e2=>kp d v ?_ e2) (fun d e2=>by rw [Va (neD e2)];exact e2) fun d xs' e2=>by rw [Va (neD e2)];exact e2
    intro zL;have fr:=I2.free;rcases hd with rfl | hd
    ·rw [←zL,e] at fr;cases fr
    ·rw [←zL,hd] at fr;cases fr
end L2
namespace L2
open PySem PySem.Spec PyProof.Rows
open PySem.W (WData Codec OpenSpec Well WellAll ReadsW ReadsAllW)
mutual
theorem Dw.same{K:PySem.W.Frag}{H H':Hp}(s:Ua H H'):∀{v:V} {d:WData},Dw K H v d→Dw K H' v d
 | _,_, .non=> .non
 | _,_, .bl b=> .bl b
 | _,_, .int i=> .int i
 | _,_, .str x=> .str x
 | _,_, .byt b=> .byt b
 | _,_, .lst q r=> .lst (s.seq q) (Kx.same s r)
 | _,_, .tup q r=> .tup (by
   rcases q with (q | ⟨o,q⟩) | q
   ·exact .inl (.inl (s _ _ q))
   ·exact .inl (.inr ⟨o,s _ _ q⟩)
   ·exact .inr q) (Kx.same s r)
theorem Kx.same{K:PySem.W.Frag}{H H':Hp}(s:Ua H H'):∀{vs:List V} {ds:List WData},Kx K H vs ds→Kx K H' vs ds
 | _,_, .nil=> .nil
 | _,_, .cons a b=> .cons (Dw.same s a) (Kx.same s b)
end
def zaH(P0:Addr)(H:Hp):Prop:=H P0=some (.tbl #[])∧∀b,b≠P0→H b=none∨∃o u,H b=some (.frz o u)
theorem kaS{P:Program}{w:World}{K:PySem.W.Frag}{mg mb:Str→Option Value}{CX:CXT}{k:Nat}{fa c0 P0:Addr}{fd:FuncData}{ps:List Str}{sp:Sp}{s1:Shared}{vals:List Value}{ds:List WData}{R:PySem.W.WRecords}{cl:Str→Option Addr}{d0:WData}
  (KX:K.In s1.heap) (hP:s1.heap.get? P0=some (PySem.W.tabObj #[])) (xN:PySem.W.CodeHd s1.heap c0 P0) (hKP:K.lookup P0=none) (hbm:∃bm ob,mg "__builtins__"=some (.ref bm)∧bm≠builtinsNs∧s1.heap.get? bm=some ob∧ob.cls= .type "module"∧ob.dict=some builtinsNs∧ob.data= .plain)
  (hns:s1.heap.Ns mainGlobals mg) (hb:s1.heap.Ns builtinsNs mb) (hbb:∀x:Str,x≠"__name__"→mb x=bootBuiltins x) (Zbt:s1.heap.NoLimit) (hg:s1.gens= #[])
  (hwl:WellAll w.params s1.heap vals ds) (hpl:qae ds=true) (hwt:∀d∈ds,d.weight≤1048576) (hr:jo k callerA)
  (F:∀base:Heap,K.In base→base.Ns mainGlobals mg→Bm mg base c0 P0→wb P w K mg base CX k fa fd ps sp) (Ua0:∀(s:Shared) (us:List Value),us.length=ps.length→BindsTo s fd ⟨us, []⟩ (ps.zip us)) (hlen:ds.length=ps.length)
  (hsp:∀(H:Hp) (xs:List V),zaH P0 H→Kx K H xs ds→sp xs H (fun v H'=>Dw K H' v d0) fun _ _ _=>False)
  (hCX:∀H e s',CX [] H s1 (fun _ _ _=>False) e s'→False):
  codeAny (model P w) callerA (.call (.ref fa) ⟨vals, []⟩) (fun r s'=>∃u as,r= .ok (.ret u)∧ReadsW R cl s'.heap u d0 as∧OldK s1.heap s'.heap∧s'.os=s1.os∧AllBare s'.gens) s1:=by
 obtain ⟨A,ho,ar⟩:=Wae ds vals hwl hpl hwt;have hO:xbb (QL K s1.heap A):=QaZ ar;have Xd:jG P w (QL K s1.heap A) s1.heap:=xa8 ar;have hS:=uaB KX ar ds vals hwl hpl ho;have hV:=QS ho;have hK:∀b u,QL K s1.heap A b=some u→K.lookup b=none:=fun b u q=>(Jan ar q).1;have noA:∀{b:Addr} {o:Obj},s1.heap.get? b=some o→(∀vs n,o.data≠ .seq vs n)→QL K s1.heap A b=none:=fun {b o} e d=>by
  cases q:QL K s1.heap A b with
  | none=>rfl
  | some u=>
   obtain ⟨_,vs,_,_,⟨e2,_⟩ | ⟨e2,_⟩⟩:=Jan ar q
   ·rw [e2] at e;cases e;exact absurd rfl (d _ _)
   ·rw [e2] at e;cases e;exact absurd rfl (d _ _)
 generalize QL K s1.heap A=H0 at hO Xd hS hK noA;have hP0:H0 P0=none:=noA hP fun vs n z=>by cases z
 have sm:Ua H0 (upd H0 P0 (.tbl #[])):=fun b o e=>by rw [Va (Qb e hP0)];exact e
 have hO':zaH P0 (upd H0 P0 (.tbl #[])):=⟨Ya,fun b nb=>by rw [Va nb];exact hO b⟩;have Jbd:jG P w (upd H0 P0 (.tbl #[])) s1.heap:=fun b u e=>by
  by_cases z:b=P0
  ·subst z;rw [Ya] at e;cases e;exact hP
  ·rw [Va z] at e;exact (Xd b u e).jae (fun _ _ _ q=>q) (fun d q=>sm _ _ q) fun d xs q=>sm _ _ q
 have hS2:=Kx.same sm hS;have ubd:∀{b:Addr} {o:Obj},s1.heap.get? b=some o→(∀vs n,o.data≠ .seq vs n)→o.cls≠ .none→upd H0 P0 (.tbl #[]) b=none:=fun {b o} e d hc=>by
  rw [Va (fun z=>by rw [z,hP] at e;cases e;exact hc rfl)];exact noA e d
 have noD:∀{b:Addr} {o:Obj} {es:Array DictEntry} {ep:Nat},s1.heap.get? b=some o→o.data= .dict es ep→upd H0 P0 (.tbl #[]) b=none:=fun {b o es ep} e d=>by
  rw [Va (fun z=>by rw [z,hP] at e;cases e;cases d)];exact noA e fun vs n z=>by rw [d] at z;cases z
 have hK2:∀b o,K.lookup b=some o→upd H0 P0 (.tbl #[]) b=none:=fun b o e=>by
  rw [Va (fun z=>by rw [z,hKP] at e;cases e)];cases q:H0 b with
  | none=>rfl
  | some u=>rw [hK b u q] at e;cases e
 generalize upd H0 P0 (.tbl #[])=H at hO' Jbd hS2 ubd noD hK2;have base_of:∀{b:Addr} {o:Obj},s1.heap.get? b=some o→H b=none→(Zao s1.heap H).get? b=some o:=fun e n=>Za6 e n;have nsK:∀{b:Addr} {m:Str→Option Value},s1.heap.Ns b m→(Zao s1.heap H).Ns b m:=fun {b m} ⟨o,es,ep,e,d,r⟩=>⟨o,es,ep,base_of e (noD e d),d,r⟩;have hKb:K.In (Zao s1.heap H):=fun b o e=>base_of (KX b o e) (hK2 b o e);have hM:Mod K mg (Zao s1.heap H):=⟨hKb,nsK hns,⟨mb,nsK hb,hbb⟩,let ⟨mc,h1,h2⟩:=Zbt;⟨mc,nsK h1,h2⟩⟩;have hB:Bm mg (Zao s1.heap H) c0 P0:=by
  obtain ⟨bm,ob,b1,b2,b3,b4,b5,b6⟩:=hbm;obtain ⟨o,vs,file,tf,flags,tg,inF,text,tt,e1,e2,e3,r⟩:=xN;exact ⟨⟨bm,ob,b1,b2,base_of b3 (ubd b3 (fun vs n z=>by rw [b6] at z;cases z) (by rw [b4];nofun)),b4,b5,b6⟩,
   ⟨o,vs,file,tf,flags,tg,inF,text,tt,base_of e1 (ubd e1 (fun vs n z=>by rw [e3] at z;cases z) (by rw [e2];nofun)),e2,e3,r⟩⟩
 have e0:QaJ P w K mg (Zao s1.heap H) callerA [] s1 H:=⟨rfl,hM,fun b o e=>Ja8 e,Nat.le_of_eq (waX _ _),trivial,fun b hb=>absurd (show b∈([]:List Addr) from hb) (by simp),Jbd, .of_eq hg⟩;have hl:vals.length=ps.length:=by rw [XO hwl];exact hlen
 refine codeAny_mono ((F _ hKb (nsK hns) hB).run callerA [] s1 H ⟨vals, []⟩ vals (vals.map toV) _ _ hr e0 (Ua0 s1 vals hl) hV (hsp H _ hO' hS2)) fun r s' x=>?_;cases r with
 | error e=>exact (hCX H e s' x).elim
 | ok fl=>
  cases fl with
  | next=>exact False.elim x
  | brk=>exact False.elim x
  | cont=>exact False.elim x
  | ret u=>
   obtain ⟨v,H',os,bare,un,zaQ,r',q⟩:=x;obtain ⟨more,hT⟩:=un.Kan P0 _ hO'.1;have hT':s'.heap.get? P0=some (PySem.W.tabObj (#[]++more)):=(show Kh P w H' s'.heap P0 (.tbl (#[]++more)) from zaQ P0 _ hT);have kept:∀b o,b≠P0→s1.heap.get? b=some o→s'.heap.get? b=some o:=fun b o nb e=>by
    rcases hO'.2 b nb with z | ⟨ob,u3,z⟩
    ·exact un.keep b o e z (by intro z;exact absurd (show b∈([]:List Addr) from z) (by simp)) (by simp)
    ·have z2:=un.uai b ob _ z;obtain ⟨e1,_⟩:=Jbd b _ z;obtain ⟨e2,_⟩:=zaQ b _ z2;rw [e] at e1;cases e1;exact e2
   have KX':K.In s'.heap:=fun b o e=>kept b o (fun z=>by rw [z,hKP] at e;cases e) (KX b o e)
   obtain ⟨as,hrd⟩:=Dw.reads (R:=R) (cl:=cl) zaQ KX' d0 v u q r';refine ⟨u,as,rfl,hrd,⟨fun b o e=>?_,fun b o e=>?_⟩,os,bare⟩
   ·by_cases z:b=P0
    ·subst z;have eo:o=PySem.W.tabObj #[]:=by rw [hP] at e;exact (Option.some.inj e).symm
     subst eo;exact .inr (.inl ⟨(xN.tab hP).isCodeTable,rfl, #[],more,rfl,hT'⟩)
    ·exact .inl (kept b o z e)
   ·by_cases z:b=P0
    ·exact ⟨_,by rw [z];exact hT'⟩
    ·exact ⟨o,kept b o z e⟩
theorem kaQ{r:OpenSpec}{k:Nat}{q:Program}{loose:List Str}{XP:(Str→Option Value)→Heap→Prop}{YP:World→Heap→Prop}{d:DefRec}{K:Params→PySem.W.Frag}{CX:CXT}{ps:List Str}{c0 P0:Addr}{sp:PySem.W.Frag→Sp}
  (Kbo:r.wellSaid=true) (hlen:r.args.length=ps.length) (hr:jo k callerA)
  (hY:∀(w:World) (h:Heap),YP w h→(K w.params).In h∧h.get? P0=some (PySem.W.tabObj #[])) (xN:∀p:Params,PySem.W.codeHdIn (K p) c0 P0=true) (hKP:∀p:Params,(K p).lookup P0=none)
  (F:∀(w:World) (mg:Str→Option Value) (fa:Addr) (h:Heap),(K w.params).In h→h.Ns mainGlobals mg→mg d.name=some (.ref fa)→
   ∃fd:FuncData,(∀(s:Shared) (us:List Value),us.length=ps.length→BindsTo s fd ⟨us, []⟩ (ps.zip us))∧
    ∀base:Heap,(K w.params).In base→base.Ns mainGlobals mg→Bm mg base c0 P0→wb r.prog w (K w.params) mg base CX k fa fd ps (sp (K w.params)))
  (hsp:∀(K:PySem.W.Frag) (H:Hp) (xs:List V) (a:Codec.denoteAll r.args),zaH P0 H→Codec.withinAll r.args a=true→Codec.app r.args r.asked a=true→Kx K H xs (Codec.encAll r.args a)→
   sp K xs H (fun v H'=>Dw K H' v (r.ret.enc (Codec.app r.args r.f a))) fun _ _ _=>False)
  (hCX:∀(H:Hp) (s:Shared) (e:Value) (s':Shared),CX [] H s (fun _ _ _=>False) e s'→False):
  PySem.W.WalkOS q loose XP YP r d [] (fun f vs=>PySem.call f vs):=by
 intro w s_0 s1 mg mb G Y fa o pm cd doc dV kV ho hd hcd' hD hmg hg args vals as qbt Qbt hrd hwl hlo;obtain ⟨a,e1,e2⟩:=PySem.W.os_pre_some qbt;obtain ⟨e3,hwi⟩:=Codec.encAll_of_decAll r.args args a e1;subst e3;obtain ⟨KX,hT⟩:=hY w _ Y;obtain ⟨fd,hb,hF⟩:=F w mg fa _ KX G.T.g hmg;refine PySem.W.enter_call (codeAny_mono (kaS (R:= []) (cl:=classAt s_0.heap) (d0:=r.ret.enc (Codec.app r.args r.f a)) KX hT (PySem.W.codeHd_of_K KX (xN _)) (hKP _) G.T.bmain G.T.g G.T.b G.T.builtins G.T.nolimit hg hwl (kaC _ _) (Qav Qbt) hr hF hb (by rw [jat];exact hlen)
  (fun H xs hO hS=>hsp (K w.params) H xs a hO hwi e2 hS) fun H e s'=>hCX H s1 e s') fun r' s' hq=>?_)
 obtain ⟨u,as',rfl,h1,h2,h3,h4⟩:=hq;exact ⟨.inl ⟨u,_,as',rfl,fun _=>rfl,h1,(OpenSpec.post_iff Kbo hwi _ _).mpr rfl,fun z=>Bool.noConfusion (show false=true from z)⟩,h2,h3,h4⟩
end L2
namespace Mo
open Vbpoak
theorem Q6(r q:Rec)(l:List Rec):doneActs (r::q::l)=(if r.kind=2∧q.kind=3 then [r] else [])++doneActs (q::l):=by
 unfold doneActs;rw [actsFrom];by_cases h:r.kind=2
 ·by_cases h3:q.kind=3
  ·simp [h,h3]
  ·by_cases h4:q.kind=4
   ·simp [h,h3,h4]
   ·simp [h,h3,h4]
 ·simp [h]
theorem done_one(r:Rec):doneActs [r]= []:=by
 unfold doneActs;rw [actsFrom];by_cases h:r.kind=2<;>simp [h,actsFrom]
theorem vaF(r q:Rec)(l:List Rec):pending (r::q::l)=pending (q::l):=by
 unfold pending;rw [List.getLast?_cons_cons]
theorem Ug(j:List Rec)(q:Rec):pending (j++ [q])=if q.kind=2 then some q else none:=by
 unfold pending;simp
def fin(o:Option Rec)(q:Rec):List Rec:=match o with
 | some r=>if q.kind=3 then [r] else []
 | none=> []
theorem VI:∀(j:List Rec) (q:Rec),doneActs (j++ [q])=doneActs j++fin (pending j) q
 | [],q=>by
  show doneActs [q]=doneActs []++_;rw [done_one];rfl
 | [r],q=>by
  show doneActs (r::q:: [])=_;rw [Q6,done_one,done_one];unfold pending fin;by_cases h:r.kind=2<;>by_cases h3:q.kind=3<;>simp [h,h3]
 | r::p::l,q=>by
  show doneActs (r::p::(l++ [q]))=_;rw [Q6,Q6,vaF,List.append_assoc];have:=VI (p::l) q;rw [List.cons_append] at this;rw [this]
theorem J2:∀(j:List Rec),(doneActs j).Sublist (j.filter fun r=>r.kind==2)
 | []=>by simp [doneActs,actsFrom]
 | [r]=>by rw [done_one];exact List.nil_sublist _
 | r::q::l=>by
  rw [Q6];have ih:=J2 (q::l);rw [List.filter_cons];by_cases h:r.kind=2
  ·rw [if_pos (show (r.kind==2)=true by simp [h])];by_cases h3:q.kind=3
   ·rw [if_pos ⟨h,h3⟩];exact ih.cons_cons r
   ·rw [if_neg (fun z=>h3 z.2)];exact ih.cons r
  ·rw [if_neg (fun z=>h z.1),if_neg (show¬(r.kind==2)=true by simp [h])];exact ih
theorem vK{j:List Rec}{r:Rec}(h:r∈doneActs j):r∈j∧r.kind=2:=by
 have:=(J2 j).subset h;rw [List.mem_filter] at this;exact ⟨this.1,by simpa using this.2⟩
end Mo
namespace Mo
open Vbpoak
structure G where
 num:Nat
 jf:Nat
 uk:Int
 back:Bool
 deriving DecidableEq
structure Od where
 vb:Nat
 key:Nat
 ood:Int
 gs:List G
 closed:Bool
 refunded:Bool
 deriving DecidableEq
structure Cl where
 vb:Nat
 uk:Int
 known:Bool
 paid:Bool
 YX:Bool
 deriving DecidableEq
def blank:Cl:=⟨0,0,false,false,false⟩
def yl(j:List Rec)(n g:Nat):Bool:=j.any fun q=>q.kind==6 && (q.no==n && q.g==g)
def gOf(j:List Rec)(q:Rec):G:=⟨q.g,q.b,q.d,yl j q.no q.g⟩
def Qk(j:List Rec)(n:Nat):List G:=(grants j n).map (gOf j)
def xg(fee:Nat)(j:List Rec)(r:Rec):Od:=⟨r.a-fee,r.c,r.d,Qk j r.no,closed j r.no,refunded j r.no⟩
def issues(j:List Rec):List Rec:=(doneActs j).filter fun r=>r.b==1
def zh(fee:Nat)(j:List Rec):List (Nat×Od):=(issues j).map fun r=>(r.no,xg fee j r)
def XH(ks:List (Nat×Nat))(k:Nat×Nat):List (Nat×Nat):=if k∈ks then ks else ks++ [k]
def Kl(ks:List (Nat×Nat))(r:Rec):List (Nat×Nat):=if r.kind=8∨r.kind=9 then XH ks (r.no,r.g) else ks
def keysOf(j:List Rec):List (Nat×Nat):=j.foldl Kl []
def Zo(j:List Rec)(k:Nat×Nat):Cl:=⟨((mayOf j k.1 k.2).map (·.a)).getD 0,((mayOf j k.1 k.2).map (·.d)).getD 0,(mayOf j k.1 k.2).isSome,paid j k.1 k.2,never j k.1 k.2⟩
def Zk(j:List Rec):List ((Nat×Nat)×Cl):=(keysOf j).map fun k=>(k,Zo j k)
def ze(j:List Rec):Nat:=(j.filter fun r=>r.kind==2 && r.b==1).length
theorem Jx(j:List Rec)(q:Rec)(n:Nat):grants (j++ [q]) n=grants j n++(if q.kind=5∧q.no=n then [q] else []):=by
 unfold grants;rw [List.filter_append];by_cases h:q.kind=5∧q.no=n
 ·rw [if_pos h,List.filter_cons,if_pos (by simp [h.1,h.2])];rfl
 ·rw [if_neg h,List.filter_cons,if_neg (by simpa using h)];rfl
theorem X4(j:List Rec)(q:Rec)(n g:Nat):yl (j++ [q]) n g=(yl j n g || (q.kind==6 && (q.no==n && q.g==g))):=by
 unfold yl;simp
theorem vj(j:List Rec)(q:Rec)(n:Nat):closed (j++ [q]) n=(closed j n || (q.kind==7 && q.no==n)):=by
 unfold closed;simp
theorem JK(j:List Rec)(q:Rec)(n g:Nat):never (j++ [q]) n g=(never j n g || (q.kind==9 && (q.no==n && q.g==g))):=by
 unfold never;simp
theorem Qi(j:List Rec)(q:Rec)(n:Nat):refunded (j++ [q]) n=(refunded j n || (fin (pending j) q).any fun r=>r.b==3 && r.no==n):=by
 unfold refunded;rw [VI,List.any_append]
theorem zT(j:List Rec)(q:Rec)(n g:Nat):paid (j++ [q]) n g=(paid j n g || (fin (pending j) q).any fun r=>r.b==2 && (r.no==n && r.g==g)):=by
 unfold paid;rw [VI,List.any_append]
theorem kr(j:List Rec)(q:Rec)(n g:Nat):mayOf (j++ [q]) n g=((mayOf j n g).or (if q.kind=8∧q.no=n∧q.g=g then some q else none)):=by
 unfold mayOf;rw [List.find?_append]
 congr 1
 by_cases h:q.kind=8∧q.no=n∧q.g=g
 ·rw [if_pos h,List.find?_cons_of_pos (by simp [h.1,h.2.1,h.2.2])]
 ·rw [if_neg h,List.find?_cons_of_neg (by simpa using h)];rfl
theorem Wf(j:List Rec)(q:Rec):keysOf (j++ [q])=Kl (keysOf j) q:=by
 unfold keysOf;rw [List.foldl_append];rfl
theorem Zf(j:List Rec)(q:Rec):issues (j++ [q])=issues j++((fin (pending j) q).filter fun r=>r.b==1):=by
 unfold issues;rw [VI,List.filter_append]
theorem Wn(j:List Rec)(q:Rec):ze (j++ [q])=ze j+(if q.kind=2∧q.b=1 then 1 else 0):=by
 unfold ze;rw [List.filter_append,List.length_append]
 congr 1
 by_cases h:q.kind=2∧q.b=1
 ·rw [if_pos h,List.filter_cons,if_pos (by simp [h.1,h.2])];rfl
 ·rw [if_neg h,List.filter_cons,if_neg (by simpa using h)];rfl
theorem Zac{ks:List (Nat×Nat)}{k x:Nat×Nat}:x∈XH ks k↔x∈ks∨x=k:=by
 unfold XH;by_cases h:k∈ks
 ·rw [if_pos h];constructor
  ·exact .inl
  ·rintro (h' | rfl)
   ·exact h'
   ·exact h
 ·rw [if_neg h];simp
theorem XaG{ks:List (Nat×Nat)}{k:Nat×Nat}(h:ks.Nodup):(XH ks k).Nodup:=by
 unfold XH;by_cases hk:k∈ks
 ·rw [if_pos hk];exact h
 ·rw [if_neg hk,List.nodup_append];refine ⟨h,by simp,?_⟩;intro a ha b hb e;simp at hb;subst e;subst hb;exact hk ha
theorem snocInd{α:Type}{P:List α→Prop}(h0:P [])(h1:∀l x,P l→P (l++ [x])):∀l,P l:=by
 intro l;have:∀m:List α,P m.reverse:=by
  intro m;induction m with
  | nil=>exact h0
  | cons x r ih=>rw [List.reverse_cons];exact h1 _ _ ih
 have:=this l.reverse
 rwa [List.reverse_reverse] at this
theorem nodup_keys(j:List Rec):(keysOf j).Nodup:=by
 induction j using snocInd with
 | h0=>exact List.nodup_nil
 | h1 l x ih=>
  rw [Wf];unfold Kl;split
  ·exact XaG ih
  ·exact ih
theorem mem_keys(j:List Rec)(k:Nat×Nat):k∈keysOf j↔∃r∈j,(r.kind=8∨r.kind=9)∧(r.no,r.g)=k:=by
 induction j using snocInd with
 | h0=>simp [keysOf]
 | h1 l x ih=>
  rw [Wf];unfold Kl;by_cases h:x.kind=8∨x.kind=9
  ·rw [if_pos h,Zac,ih];constructor
   ·rintro (⟨r,hr,h1,h2⟩ | e)
    ·exact ⟨r,by simp [hr],h1,h2⟩
    ·exact ⟨x,by simp,h,e.symm⟩
   ·rintro ⟨r,hr,h1,h2⟩
    simp at hr;rcases hr with hr | rfl
    ·exact .inl ⟨r,hr,h1,h2⟩
    ·exact .inr h2.symm
  ·rw [if_neg h,ih];constructor
   ·rintro ⟨r,hr,h1,h2⟩
    exact ⟨r,by simp [hr],h1,h2⟩
   ·rintro ⟨r,hr,h1,h2⟩
    simp at hr;rcases hr with hr | rfl
    ·exact ⟨r,hr,h1,h2⟩
    ·exact absurd h1 h
theorem jK{j:List Rec}{k:Nat×Nat}(h:k∉keysOf j):mayOf j k.1 k.2=none:=by
 unfold mayOf;rw [List.find?_eq_none];intro r hr hk;simp at hk;exact h ((mem_keys j k).mpr ⟨r,hr, .inl hk.1,by rw [hk.2.1,hk.2.2]⟩)
theorem Uab{j:List Rec}{k:Nat×Nat}(h:k∉keysOf j):never j k.1 k.2=false:=by
 unfold never;rw [List.any_eq_false];intro r hr hk;simp at hk;exact h ((mem_keys j k).mpr ⟨r,hr, .inr hk.1,by rw [hk.2.1,hk.2.2]⟩)
def QG{κ α:Type} [DecidableEq κ] (k:κ)(f:α→α)(l:List (κ×α)):List (κ×α):=l.map fun p=>if p.1=k then (p.1,f p.2) else p
def YaI{κ α:Type} [DecidableEq κ] (k:κ)(b:α)(l:List (κ×α)):List (κ×α):=if k∈l.map (·.1) then l else l++ [(k,b)]
theorem vaY(j:List Rec):(Zk j).map (·.1)=keysOf j:=by
 unfold Zk;rw [List.map_map];exact List.map_id' _
theorem JaC(fee:Nat)(j:List Rec):(zh fee j).map (·.1)=(issues j).map (·.no):=by
 unfold zh;rw [List.map_map];rfl
end Mo
namespace Mo
open Vbpoak
theorem YC{κ α β:Type} [DecidableEq κ] (k:κ)(f:α→α)(l:List β)(g:β→κ)(h h':β→α)(e:∀x∈l,h' x=if g x=k then f (h x) else h x):
  (l.map fun x=>(g x,h' x))=QG k f (l.map fun x=>(g x,h x)):=by
 unfold QG;rw [List.map_map];apply List.map_congr_left;intro x hx;simp only [Function.comp];rw [e x hx];split<;>rfl
theorem WM{o:Option Rec}{q:Rec}(h:q.kind≠3):fin o q= []:=by
 cases o with
 | none=>rfl
 | some r=>simp [fin,h]
theorem UC{r q:Rec}(h:q.kind=3):fin (some r) q= [r]:=by simp [fin,h]
theorem yar(j:List Rec)(q r:Rec)(h:q.kind≠6):gOf (j++ [q]) r=gOf j r:=by
 unfold gOf;rw [X4];have:(q.kind==6)=false:=by simpa using h
 rw [this];simp
theorem QC(j:List Rec)(q:Rec)(n:Nat)(h:q.kind≠6)(h5:¬(q.kind=5∧q.no=n)):Qk (j++ [q]) n=Qk j n:=by
 unfold Qk;rw [Jx,if_neg h5,List.append_nil];exact List.map_congr_left fun r _=>yar j q r h
theorem xaj(fee:Nat){j:List Rec}{q:Rec}(hf:fin (pending j) q= [])(h5:q.kind≠5)(h6:q.kind≠6)(h7:q.kind≠7):zh fee (j++ [q])=zh fee j:=by
 unfold zh;rw [Zf,hf,List.filter_nil,List.append_nil];apply List.map_congr_left;intro r _;unfold xg;rw [QC j q r.no h6 (fun z=>h5 z.1),vj,Qi,hf];have:(q.kind==7)=false:=by simpa using h7
 rw [this];simp
theorem qaZ(fee:Nat){j:List Rec}{q:Rec}(hk:q.kind=5)(hb:yl j q.no q.g=false):
  zh fee (j++ [q])=QG q.no (fun o=>{o with gs:=o.gs++ [⟨q.g,q.b,q.d,false⟩]}) (zh fee j):=by
 have hf:fin (pending j) q= []:=WM (by omega);unfold zh;rw [Zf,hf,List.filter_nil,List.append_nil];apply YC;intro r _;have h7:(q.kind==7)=false:=by simp [hk]
 have h6:q.kind≠6:=by omega
 by_cases e:r.no=q.no
 ·rw [if_pos e];unfold xg;rw [vj,Qi,hf,h7];have:Qk (j++ [q]) r.no=Qk j r.no++ [⟨q.g,q.b,q.d,false⟩]:=by
   unfold Qk;rw [Jx,if_pos ⟨hk,e.symm⟩,List.map_append]
   congr 1
   ·exact List.map_congr_left fun r _=>yar j q r h6
   ·rw [List.map_cons,List.map_nil,yar j q q h6];unfold gOf;rw [hb]
  rw [this];simp
 ·rw [if_neg e];unfold xg;rw [QC j q r.no h6 (fun z=>e z.2.symm),vj,Qi,hf,h7];simp
theorem Za4(fee:Nat){j:List Rec}{q:Rec}(hk:q.kind=6):
  zh fee (j++ [q])=QG q.no (fun o=>{o with gs:=o.gs.map fun x=>if x.num=q.g then {x with back:=true} else x}) (zh fee j):=by
 have hf:fin (pending j) q= []:=WM (by omega);unfold zh;rw [Zf,hf,List.filter_nil,List.append_nil];apply YC;intro r _;have h7:(q.kind==7)=false:=by simp [hk]
 have gs:Qk (j++ [q]) r.no=(grants j r.no).map fun p=>⟨p.g,p.b,p.d,yl j p.no p.g || (q.no==p.no && q.g==p.g)⟩:=by
  unfold Qk;rw [Jx,if_neg (by omega),List.append_nil];apply List.map_congr_left;intro p _;unfold gOf;rw [X4];simp [hk]
 have isn:∀p∈grants j r.no,p.no=r.no:=fun p hp=>by
  unfold grants at hp;have:=(List.mem_filter.mp hp).2;simp at this;exact this.2
 unfold xg;rw [vj,Qi,hf,h7,gs];by_cases e:r.no=q.no
 ·rw [if_pos e];simp only [List.any_nil,Bool.or_false,Bool.false_and,Od.mk.injEq,true_and,and_true];unfold Qk;rw [List.map_map];apply List.map_congr_left;intro p hp;simp only [Function.comp,gOf];rw [isn p hp,e];by_cases eg:p.g=q.g
  ·simp [eg]
  ·have:(q.g==p.g)=false:=by simpa using fun z=>eg z.symm
   simp [eg,this]
 ·rw [if_neg e];simp only [List.any_nil,Bool.or_false,Bool.false_and,Od.mk.injEq,true_and,and_true];unfold Qk;apply List.map_congr_left;intro p hp;unfold gOf;rw [isn p hp];have:(q.no==r.no)=false:=by simpa using fun z=>e z.symm
  simp [this]
theorem yaY(fee:Nat){j:List Rec}{q:Rec}(hk:q.kind=7):zh fee (j++ [q])=QG q.no (fun o=>{o with closed:=true}) (zh fee j):=by
 have hf:fin (pending j) q= []:=WM (by omega);unfold zh;rw [Zf,hf,List.filter_nil,List.append_nil];apply YC;intro r _;unfold xg;rw [QC j q r.no (by omega) (fun z=>by omega),vj,Qi,hf];have h7:(q.kind==7)=true:=by simp [hk]
 rw [h7];by_cases e:r.no=q.no
 ·rw [if_pos e];have:(q.no==r.no)=true:=by simp [e]
  simp [this]
 ·rw [if_neg e];have:(q.no==r.no)=false:=by simpa using fun z=>e z.symm
  simp [this]
theorem uaR(fee:Nat){j:List Rec}{r q:Rec}(hp:pending j=some r)(hk:q.kind=3)(hb:r.b=1):
  zh fee (j++ [q])=zh fee j++ [(r.no,xg fee j r)]:=by
 have hf:fin (pending j) q= [r]:=by rw [hp];exact UC hk
 have od:∀x,xg fee (j++ [q]) x=xg fee j x:=fun x=>by
  unfold xg;rw [QC j q x.no (by omega) (fun z=>by omega),vj,Qi,hf];have h7:(q.kind==7)=false:=by simp [hk]
  rw [h7];simp [hb]
 unfold zh;rw [Zf,hf,List.map_append]
 congr 1
 ·exact List.map_congr_left fun x _=>by rw [od x]
 ·rw [List.filter_cons,if_pos (by simp [hb])];simp [od]
theorem va6(fee:Nat){j:List Rec}{r q:Rec}(hp:pending j=some r)(hk:q.kind=3)(hb:r.b=2):zh fee (j++ [q])=zh fee j:=by
 have hf:fin (pending j) q= [r]:=by rw [hp];exact UC hk
 unfold zh;rw [Zf,hf,List.filter_cons,if_neg (by simp [hb]),List.filter_nil,List.append_nil];apply List.map_congr_left;intro x _;unfold xg;rw [QC j q x.no (by omega) (fun z=>by omega),vj,Qi,hf];have h7:(q.kind==7)=false:=by simp [hk]
 rw [h7];simp [hb]
theorem vaH(fee:Nat){j:List Rec}{r q:Rec}(hp:pending j=some r)(hk:q.kind=3)(hb:r.b=3):zh fee (j++ [q])=QG r.no (fun o=>{o with refunded:=true}) (zh fee j):=by
 have hf:fin (pending j) q= [r]:=by rw [hp];exact UC hk
 unfold zh;rw [Zf,hf,List.filter_cons,if_neg (by simp [hb]),List.filter_nil,List.append_nil];apply YC;intro x _;unfold xg;rw [QC j q x.no (by omega) (fun z=>by omega),vj,Qi,hf];have h7:(q.kind==7)=false:=by simp [hk]
 rw [h7];by_cases e:x.no=r.no
 ·rw [if_pos e];simp [hb,e]
 ·rw [if_neg e];have:(r.no==x.no)=false:=by simpa using fun z=>e z.symm
  simp [hb,this]
theorem wai{j:List Rec}{q:Rec}(h8:q.kind≠8)(h9:q.kind≠9)(hf:∀r∈fin (pending j) q,r.b≠2):Zk (j++ [q])=Zk j:=by
 unfold Zk;rw [Wf];unfold Kl;rw [if_neg (by omega)];apply List.map_congr_left;intro k _;unfold Zo;rw [kr,if_neg (fun z=>h8 z.1),JK,zT];have e9:(q.kind==9)=false:=by simpa using h9
 have ep:((fin (pending j) q).any fun r=>r.b==2 && (r.no==k.1 && r.g==k.2))=false:=by
  rw [List.any_eq_false];intro r hr hz;simp at hz;exact hf r hr hz.1
 rw [e9,ep];simp
theorem jai{j:List Rec}{k:Nat×Nat}(hp:k∉keysOf j→paid j k.1 k.2=false):
  YaI k blank (Zk j)=(XH (keysOf j) k).map fun x=>(x,Zo j x):=by
 unfold YaI;rw [vaY];unfold XH;by_cases h:k∈keysOf j
 ·rw [if_pos h,if_pos h];rfl
 ·rw [if_neg h,if_neg h,List.map_append];unfold Zk
  congr 1
  simp only [List.map_cons,List.map_nil,List.cons.injEq,Prod.mk.injEq,true_and,and_true];unfold Zo blank;rw [jK h,Uab h,hp h];rfl
theorem XaX{j:List Rec}{q:Rec}(hk:q.kind=8)(hm:mayOf j q.no q.g=none)(hp:(q.no,q.g)∉keysOf j→paid j q.no q.g=false):
  Zk (j++ [q])=QG (q.no,q.g) (fun c=>{c with vb:=q.a,uk:=q.d,known:=true}) (YaI (q.no,q.g) blank (Zk j)):=by
 rw [jai hp];unfold Zk;rw [Wf];unfold Kl;rw [if_pos (.inl hk)];apply YC;intro k _;unfold Zo;have hf:fin (pending j) q= []:=WM (by omega);have h9:(q.kind==9)=false:=by simp [hk]
 rw [kr,JK,zT,hf,h9];by_cases e:k=(q.no,q.g)
 ·subst e;rw [if_pos rfl];simp [hm,hk]
 ·rw [if_neg e];have:¬(q.kind=8∧q.no=k.1∧q.g=k.2):=fun z=>e (by rw [z.2.1,z.2.2])
  rw [if_neg this];simp
theorem yaD{j:List Rec}{q:Rec}(hk:q.kind=9)(hp:(q.no,q.g)∉keysOf j→paid j q.no q.g=false):
  Zk (j++ [q])=QG (q.no,q.g) (fun c=>{c with YX:=true}) (YaI (q.no,q.g) blank (Zk j)):=by
 rw [jai hp];unfold Zk;rw [Wf];unfold Kl;rw [if_pos (.inr hk)];apply YC;intro k _;unfold Zo;have hf:fin (pending j) q= []:=WM (by omega);have h9:(q.kind==9)=true:=by simp [hk]
 rw [kr,JK,zT,hf,h9,if_neg (fun z=>by omega)];by_cases e:k=(q.no,q.g)
 ·subst e;rw [if_pos rfl];simp
 ·rw [if_neg e];have:(q.no==k.1 && q.g==k.2)=false:=by
   rw [Bool.and_eq_false_iff];by_cases e1:q.no=k.1
   ·right
    simpa using fun z=>e (by rw [e1,z])
   ·left
    simpa using e1
  rw [this];simp
theorem Za5{j:List Rec}{r q:Rec}(hp:pending j=some r)(hk:q.kind=3)(hb:r.b=2):Zk (j++ [q])=QG (r.no,r.g) (fun c=>{c with paid:=true}) (Zk j):=by
 have hf:fin (pending j) q= [r]:=by rw [hp];exact UC hk
 unfold Zk;rw [Wf];unfold Kl;rw [if_neg (by omega)];apply YC;intro k _;unfold Zo;have h9:(q.kind==9)=false:=by simp [hk]
 rw [kr,JK,zT,hf,h9,if_neg (fun z=>by omega)];by_cases e:k=(r.no,r.g)
 ·subst e;rw [if_pos rfl];simp [hb]
 ·rw [if_neg e];have:(r.no==k.1 && r.g==k.2)=false:=by
   rw [Bool.and_eq_false_iff];by_cases e1:r.no=k.1
   ·right
    simpa using fun z=>e (by rw [e1,z])
   ·left
    simpa using e1
  simp [this]
end Mo
namespace Mo
open Vbpoak
abbrev jn(s:State)(o:Nat):List Rec:=(officeAt s o).journal
def uU(s:State)(n g p:Nat):Prop:=∃q∈jn s (issuerOf n),q.kind=5∧q.no=n∧q.g=g∧q.b=p
structure qG(s:State)(m:Msg):Prop where
 from_:m.from_<s.offices.length
 to:m.to<s.offices.length
 one:m.kind=1→m.to=issuerOf m.no∧m.g=0
 two:m.kind=2→uU s m.no m.g m.to
 waB:m.kind=5→never (jn s m.from_) m.no m.g=true
 six:m.kind=6→m.from_=issuerOf m.no
structure Good(s:State):Prop where
 up:∀o,(officeAt s o).up=true→pending (jn s o)=none
 len:s.offices.length≤5
 nos:∀o,((jn s o).filter fun r=>r.kind==2 && r.b==1).map (·.no)=(List.range (ze (jn s o))).map fun k=>(k+1)*10+o
 vD:∀o,∀r∈jn s o,r.kind=5→(∃q∈issues (jn s o),q.no=r.no)∧r.b<s.offices.length
 nums:∀o n,(grants (jn s o) n).map (·.g)=List.range' 1 (grants (jn s o) n).length
 given:∀o n,∀q∈(grants (jn s o) n).dropLast,yl (jn s o) n q.g=true
 back:∀o,∀r∈jn s o,r.kind=6→∃q∈jn s o,q.kind=5∧q.no=r.no∧q.g=r.g∧never (jn s q.b) r.no r.g=true
 may:∀p,∀r∈jn s p,r.kind=8→uU s r.no r.g p
 zaJ:∀p,(((jn s p).filter fun r=>r.kind==8).map fun r=>(r.no,r.g)).Nodup
 paid:∀p,∀r∈jn s p,r.kind=2→r.b=2→(mayOf (jn s p) r.no r.g).isSome=true
 refs:∀o,∀r∈jn s o,r.kind=2→r.b=3→∃q∈issues (jn s o),q.no=r.no
 vaB:∀o,∀r∈jn s o,r.kind=2→r.b=1∨r.b=2∨r.b=3
 known:∀p,((keysOf (jn s p)).filter fun k=>(mayOf (jn s p) k.1 k.2).isSome)=((jn s p).filter fun r=>r.kind==8).map fun r=>(r.no,r.g)
 msgs:∀m∈s.msgs,qG s m
 srt:∀p n,(((jn s p).filter fun r=>r.kind==8 && r.no==n).map (·.g)).Pairwise (· < ·)
 clo:∀o n,closed (jn s o) n=true→(standing (jn s o) n).isSome=true
 bg:∀o,ze (jn s o)≤100
 qaY:∀p,∀r∈jn s p,r.kind=2→r.b=2→∃q,mayOf (jn s p) r.no r.g=some q∧q.a=r.a
 once:∀p,(((doneActs (jn s p)).filter fun r=>r.b==2).map fun r=>(r.no,r.g)).Nodup
 yaP:∀p r,pending (jn s p)=some r→r.b=2→Vbpoak.paid (jn s p) r.no r.g=false
theorem Wg(s:State)(o p:Nat)(x:Office)(h:o<s.offices.length):officeAt (setOffice s o x) p=if p=o then x else officeAt s p:=by
 unfold officeAt setOffice;show ((s.offices.set o x)[p]?).getD noOffice=_;by_cases e:p=o
 ·subst e;rw [if_pos rfl,List.getElem?_set_self h];rfl
 ·rw [if_neg e,List.getElem?_set_ne (fun z=>e z.symm)]
theorem ju(s:State)(o:Nat)(x:Office):(setOffice s o x).offices.length=s.offices.length:=by
 unfold setOffice;simp
def Grows(s t:State):Prop:=s.offices.length=t.offices.length∧∀o,∃l,jn t o=jn s o++l
theorem Grows.refl(s:State):Grows s s:=⟨rfl,fun _=>⟨[],by simp⟩⟩
theorem Grows.trans{s t u:State}(a:Grows s t)(b:Grows t u):Grows s u:=⟨a.1.trans b.1,fun o=>by
 obtain ⟨l,e⟩:=a.2 o;obtain ⟨k,f⟩:=b.2 o;exact ⟨l++k,by rw [f,e,List.append_assoc]⟩⟩
theorem qat{j l:List Rec}{n g:Nat}(h:never j n g=true):never (j++l) n g=true:=by
 unfold never at*;rw [List.any_append,h];rfl
theorem Xal{j l:List Rec}{n g:Nat}(h:yl j n g=true):yl (j++l) n g=true:=by
 unfold yl at*;rw [List.any_append,h];rfl
theorem Jat{j l:List Rec}{n g:Nat}(h:(mayOf j n g).isSome=true):(mayOf (j++l) n g).isSome=true:=by
 unfold mayOf at*;rw [List.find?_append];cases e:List.find? (fun r=>r.kind==8 && (r.no==n && r.g==g)) j with
 | none=>rw [e] at h;simp at h
 | some x=>simp
theorem uU.grows{s t:State}(k:Grows s t){n g p:Nat}(h:uU s n g p):uU t n g p:=by
 obtain ⟨q,hq,r⟩:=h;obtain ⟨l,e⟩:=k.2 (issuerOf n);exact ⟨q,by rw [e];exact List.mem_append_left _ hq,r⟩
theorem qG.grows{s t:State}(k:Grows s t){m:Msg}(h:qG s m):qG t m:=
 ⟨by rw [←k.1];exact h.from_,by rw [←k.1];exact h.to,h.one,fun z=>(h.two z).grows k,fun z=>by
  obtain ⟨l,e⟩:=k.2 m.from_;rw [e];exact qat (h.waB z),h.six⟩
theorem Good.V2{s t:State}(g:Good s)(ho:t.offices=s.offices)(h:∀m∈t.msgs,qG s m):Good t:=by
 have e:∀o,officeAt t o=officeAt s o:=fun o=>by unfold officeAt;rw [ho]
 have G:Grows s t:=⟨by rw [ho],fun o=>⟨[],by show (officeAt t o).journal=_;rw [e];simp⟩⟩;exact ⟨fun o=>by show (officeAt t o).up=true→pending (officeAt t o).journal=none;rw [e];exact g.up o,by rw [ho];exact g.len,fun o=>by show ((officeAt t o).journal.filter _).map _=_;rw [show jn t o=jn s o by show (officeAt t o).journal=_;rw [e],e];exact g.nos o,
  fun o=>by rw [show jn t o=jn s o by show (officeAt t o).journal=_;rw [e],ho];exact g.vD o,fun o n=>by rw [show jn t o=jn s o by show (officeAt t o).journal=_;rw [e]];exact g.nums o n,
  fun o n=>by rw [show jn t o=jn s o by show (officeAt t o).journal=_;rw [e]];exact g.given o n,
  fun o r hr hk=>by
   rw [show jn t o=jn s o by show (officeAt t o).journal=_;rw [e]] at hr⊢;obtain ⟨q,hq,h1,h2,h3,h4⟩:=g.back o r hr hk;exact ⟨q,hq,h1,h2,h3,by rw [show jn t q.b=jn s q.b by show (officeAt t q.b).journal=_;rw [e]];exact h4⟩,
  fun p r hr hk=>by
   rw [show jn t p=jn s p by show (officeAt t p).journal=_;rw [e]] at hr;exact (g.may p r hr hk).grows G,
  fun p=>by rw [show jn t p=jn s p by show (officeAt t p).journal=_;rw [e]];exact g.zaJ p,
  fun p=>by rw [show jn t p=jn s p by show (officeAt t p).journal=_;rw [e]];exact g.paid p,
  fun p=>by rw [show jn t p=jn s p by show (officeAt t p).journal=_;rw [e]];exact g.refs p,
  fun p=>by rw [show jn t p=jn s p by show (officeAt t p).journal=_;rw [e]];exact g.vaB p,
  fun p=>by rw [show jn t p=jn s p by show (officeAt t p).journal=_;rw [e]];exact g.known p,
  fun m hm=>(h m hm).grows G,
  fun p n=>by rw [show jn t p=jn s p by show (officeAt t p).journal=_;rw [e]];exact g.srt p n,
  fun p n=>by rw [show jn t p=jn s p by show (officeAt t p).journal=_;rw [e]];exact g.clo p n,
  fun p=>by rw [show jn t p=jn s p by show (officeAt t p).journal=_;rw [e]];exact g.bg p,
  fun p=>by rw [show jn t p=jn s p by show (officeAt t p).journal=_;rw [e]];exact g.qaY p,
  fun p=>by rw [show jn t p=jn s p by show (officeAt t p).journal=_;rw [e]];exact g.once p,
  fun p=>by rw [show jn t p=jn s p by show (officeAt t p).journal=_;rw [e]];exact g.yaP p⟩
theorem Good.same{s:State}(g:Good s){o:Nat}{x:Office}(ho:o<s.offices.length)(hj:x.journal=jn s o)(hu:x.up=true→pending (jn s o)=none):Good (setOffice s o x):=by
 have e:∀p,jn (setOffice s o x) p=jn s p:=fun p=>by
  show (officeAt (setOffice s o x) p).journal=_;rw [Wg s o p x ho];by_cases z:p=o
  ·rw [if_pos z,hj,z]
  ·rw [if_neg z]
 have G:Grows s (setOffice s o x):=⟨(ju s o x).symm,fun p=>⟨[],by rw [e];simp⟩⟩;refine ⟨fun p hp=>?_,by rw [ju];exact g.len,fun p=>by rw [e];exact g.nos p,fun p=>by rw [e,ju];exact g.vD p,fun p n=>by rw [e];exact g.nums p n,fun p n=>by rw [e];exact g.given p n,
  fun p r hr hk=>?_,fun p r hr hk=>?_,fun p=>by rw [e];exact g.zaJ p,fun p=>by rw [e];exact g.paid p,fun p=>by rw [e];exact g.refs p,fun p=>by rw [e];exact g.vaB p,fun p=>by rw [e];exact g.known p,fun m hm=>(g.msgs m hm).grows G,fun p n=>by rw [e];exact g.srt p n,fun p n=>by rw [e];exact g.clo p n,fun p=>by rw [e];exact g.bg p,fun p=>by rw [e];exact g.qaY p,fun p=>by rw [e];exact g.once p,fun p=>by rw [e];exact g.yaP p⟩
 ·rw [e];rw [Wg s o p x ho] at hp;by_cases z:p=o
  ·rw [if_pos z] at hp;rw [z];exact hu hp
  ·rw [if_neg z] at hp;exact g.up p hp
 ·rw [e] at hr⊢;obtain ⟨q,hq,h1,h2,h3,h4⟩:=g.back p r hr hk;exact ⟨q,hq,h1,h2,h3,by rw [e];exact h4⟩
 ·rw [e] at hr;exact (g.may p r hr hk).grows G
structure X2(s:State)(o:Nat)(r:Rec):Prop where
 issue:r.kind=2→r.b=1→r.no=(ze (jn s o)+1)*10+o
 yc:r.kind=5→(∃q∈issues (jn s o),q.no=r.no)∧r.b<s.offices.length∧r.g=(grants (jn s o) r.no).length+1∧standing (jn s o) r.no=none
 back:r.kind=6→∃q∈jn s o,q.kind=5∧q.no=r.no∧q.g=r.g∧never (jn s q.b) r.no r.g=true
 may:r.kind=8→uU s r.no r.g o∧mayOf (jn s o) r.no r.g=none∧never (jn s o) r.no r.g=false
 paid:r.kind=2→r.b=2→(mayOf (jn s o) r.no r.g).isSome=true
 refs:r.kind=2→r.b=3→∃q∈issues (jn s o),q.no=r.no
 vaB:r.kind=2→r.b=1∨r.b=2∨r.b=3
 vbo:r.kind=5→closed (jn s o) r.no=false
 vbn:r.kind=6→closed (jn s o) r.no=false
 close:r.kind=7→(standing (jn s o) r.no).isSome=true
 few:r.kind=2→r.b=1→ze (jn s o)<100
 Zbl:r.kind=2→r.b=2→Vbpoak.paid (jn s o) r.no r.g=false∧∃q,mayOf (jn s o) r.no r.g=some q∧q.a=r.a
theorem yO{j:List Rec}{r:Rec}{n:Nat}(h:∃q∈issues j,q.no=n):∃q∈issues (j++ [r]),q.no=n:=by
 obtain ⟨q,hq,e⟩:=h;exact ⟨q,by rw [Zf];exact List.mem_append_left _ hq,e⟩
theorem yr{j:List Rec}{n:Nat}{q:Rec}:q∈grants j n↔q∈j∧q.kind=5∧q.no=n:=by
 unfold grants;rw [List.mem_filter];simp
theorem Zah{j:List Rec}{n:Nat}(hg:∀q∈(grants j n).dropLast,yl j n q.g=true)(h:standing j n=none):∀q∈grants j n,yl j n q.g=true:=by
 unfold standing at h;intro q hq;cases e:(grants j n).getLast? with
 | none=>
  rw [List.getLast?_eq_none_iff] at e;rw [e] at hq;cases hq
 | some z=>
  rw [e] at h;have ez:grants j n=(grants j n).dropLast++ [z]:=by
   have KD:grants j n≠ []:=fun w=>by rw [w] at hq;cases hq
   have:=List.dropLast_concat_getLast KD;rw [List.getLast?_eq_some_getLast KD] at e;rw [Option.some.inj e] at this;exact this.symm
  rw [ez] at hq;rcases List.mem_append.mp hq with hq | hq
  ·exact hg q hq
  ·simp at hq;subst hq;by_cases w:(j.any fun x=>x.kind==6 && (x.no==n && x.g==q.g))=true
   ·exact w
   ·simp only [] at h;rw [if_neg w] at h;cases h
theorem va8{j:List Rec}{n g:Nat}(h1:mayOf j n g=none)(h2:never j n g=false):(n,g)∉keysOf j:=by
 intro h;obtain ⟨r,hr,hk,e⟩:=(mem_keys j (n,g)).mp h;have e1:r.no=n:=congrArg Prod.fst e;have e2:r.g=g:=congrArg Prod.snd e;rcases hk with hk | hk
 ·unfold mayOf at h1;rw [List.find?_eq_none] at h1;exact h1 r hr (by simp [hk,e1,e2])
 ·unfold never at h2;rw [List.any_eq_false] at h2;exact h2 r hr (by simp [hk,e1,e2])
theorem JaS{j:List Rec}{r:Rec}(h:((keysOf j).filter fun k=>(mayOf j k.1 k.2).isSome)=(j.filter fun r=>r.kind==8).map fun r=>(r.no,r.g))
  (c:r.kind=8→mayOf j r.no r.g=none∧never j r.no r.g=false):
  ((keysOf (j++ [r])).filter fun k=>(mayOf (j++ [r]) k.1 k.2).isSome)=((j++ [r]).filter fun r=>r.kind==8).map fun r=>(r.no,r.g):=by
 rw [Wf,List.filter_append,List.map_append,←h];unfold Kl;by_cases h8:r.kind=8
 ·obtain ⟨c1,c2⟩:=c h8;have hn:=va8 c1 c2;have f8:([r].filter fun r=>r.kind==8)= [r]:=by simp [h8]
  have m8:(mayOf (j++ [r]) r.no r.g).isSome=true:=by simp [kr,h8]
  rw [if_pos (.inl h8),f8];unfold XH;rw [if_neg hn,List.filter_append]
  congr 1
  ·apply List.filter_congr;intro k hk;have:¬(r.kind=8∧r.no=k.1∧r.g=k.2):=fun z=>hn (by rw [z.2.1,z.2.2];exact hk)
   rw [kr,if_neg this];simp
  ·rw [List.filter_cons,if_pos m8];rfl
 ·have same:∀k:Nat×Nat,mayOf (j++ [r]) k.1 k.2=mayOf j k.1 k.2:=fun k=>by
   rw [kr,if_neg (fun z=>h8 z.1)];simp
  have f8:([r].filter fun r=>r.kind==8)= []:=by simp [h8]
  simp only [same];rw [f8,List.map_nil,List.append_nil];by_cases h9:r.kind=9
  ·rw [if_pos (.inr h9)];unfold XH;by_cases hk:(r.no,r.g)∈keysOf j
   ·rw [if_pos hk]
   ·have m0:¬(mayOf j r.no r.g).isSome=true:=by rw [jK hk];simp
    rw [if_neg hk,List.filter_append,List.filter_cons,if_neg m0];simp
  ·rw [if_neg (by omega)]
theorem Qaz{j:List Rec}{r:Rec}{n:Nat}(h5:¬(r.kind=5∧r.no=n))(h6:¬(r.kind=6∧r.no=n)):standing (j++ [r]) n=standing j n:=by
 unfold standing;rw [Jx,if_neg h5,List.append_nil];cases (grants j n).getLast? with
 | none=>rfl
 | some q=>
  simp only [List.any_append];have:([r].any fun x=>x.kind==6 && (x.no==n && x.g==q.g))=false:=by
   simp;intro a b;exact absurd ⟨a,b⟩ h6
  rw [this,Bool.or_false]
theorem uaQ{s:State}(g:Good s){n:Nat}{u v:Rec}(hu:u∈grants (jn s (issuerOf n)) n)(hv:v∈grants (jn s (issuerOf n)) n)(h:v.g<u.g):never (jn s v.b) n v.g=true:=by
 have hn:=g.nums (issuerOf n) n;have hd:v∈(grants (jn s (issuerOf n)) n).dropLast:=by
  cases e:(grants (jn s (issuerOf n)) n).getLast? with
  | none=>
   rw [List.getLast?_eq_none_iff] at e;rw [e] at hv;cases hv
  | some w=>
   obtain ⟨ys,hys⟩:=List.getLast?_eq_some_iff.mp e;rw [hys] at hu hv hn⊢;rw [List.dropLast_concat];rcases List.mem_append.mp hv with hv | hv
   ·exact hv
   ·exfalso;simp at hv;subst hv;rw [List.map_append,List.length_append] at hn;simp only [List.map_cons,List.map_nil,List.length_cons,List.length_nil] at hn;rw [List.range'_concat] at hn;have hn2:=List.append_inj_right' hn rfl;simp at hn2;have hn1:=List.append_inj_left' hn rfl;rcases List.mem_append.mp hu with hu | hu
    ·have:u.g∈ys.map (·.g):=List.mem_map.mpr ⟨u,hu,rfl⟩;rw [hn1,List.mem_range'_1] at this;omega
    ·simp at hu;subst hu;omega
 have hb:=g.given _ _ v hd;unfold yl at hb;rw [List.any_eq_true] at hb;obtain ⟨r,hr,hr2⟩:=hb;simp at hr2;obtain ⟨q,hq,q1,q2,q3,q4⟩:=g.back _ r hr hr2.1;have hq':q∈grants (jn s (issuerOf n)) n:=yr.mpr ⟨hq,q1,by rw [q2,hr2.2.1]⟩;have nd:((grants (jn s (issuerOf n)) n).map (·.g)).Nodup:=by rw [hn];exact List.nodup_range'
 have same:q=v:=by
  have e1:q.g=v.g:=by rw [q3,hr2.2.2]
  obtain ⟨i,hi⟩:=List.mem_iff_getElem?.mp hq';obtain ⟨j,hj⟩:=List.mem_iff_getElem?.mp hv;have hi':((grants (jn s (issuerOf n)) n).map (·.g))[i]? =some q.g:=by rw [List.getElem?_map,hi];rfl
  have hj':((grants (jn s (issuerOf n)) n).map (·.g))[j]? =some q.g:=by rw [List.getElem?_map,hj,e1];rfl
  obtain ⟨a1,a2⟩:=List.getElem?_eq_some_iff.mp hi';obtain ⟨b1,b2⟩:=List.getElem?_eq_some_iff.mp hj';have:i=j:=(List.getElem_inj nd).mp (a2.trans b2.symm);subst this;exact Option.some.inj (hi.symm.trans hj)
 rw [hr2.2.1,hr2.2.2,same] at q4;exact q4
theorem Good.grow{s:State}(g:Good s){o:Nat}{x:Office}{r:Rec}(ho:o<s.offices.length)(hj:x.journal=jn s o++ [r])(hu:x.up=true→r.kind≠2)(c:X2 s o r):Good (setOffice s o x):=by
 have e:∀p,jn (setOffice s o x) p=if p=o then jn s o++ [r] else jn s p:=fun p=>by
  show (officeAt (setOffice s o x) p).journal=_;rw [Wg s o p x ho];by_cases z:p=o
  ·rw [if_pos z,if_pos z,hj]
  ·rw [if_neg z,if_neg z]
 have eo:jn (setOffice s o x) o=jn s o++ [r]:=by rw [e,if_pos rfl]
 have en:∀{p},p≠o→jn (setOffice s o x) p=jn s p:=fun h=>by rw [e,if_neg h]
 have G:Grows s (setOffice s o x):=⟨(ju s o x).symm,fun p=>by
  by_cases z:p=o
  ·rw [z];exact ⟨[r],eo⟩
  ·exact ⟨[],by rw [en z];simp⟩⟩
 have nv:∀{p n k},never (jn s p) n k=true→never (jn (setOffice s o x) p) n k=true:=fun {p n k} h=>by
  obtain ⟨l,z⟩:=G.2 p;rw [z];exact qat h
 refine ⟨fun p hp=>?_,by rw [ju];exact g.len,fun p=>?_,fun p=>?_,fun p n=>?_,fun p n=>?_,fun p q hq hk=>?_,fun p q hq hk=>?_,fun p=>?_,fun p=>?_,fun p=>?_,fun p=>?_,fun p=>?_,fun m hm=>(g.msgs m hm).grows G,fun p n=>?_,fun p n=>?_,fun p=>?_,fun p=>?_,fun p=>?_,fun p=>?_⟩
 ·rw [Wg s o p x ho] at hp;by_cases z:p=o
  ·subst z;rw [if_pos rfl] at hp;rw [eo,Ug,if_neg (hu hp)]
  ·rw [if_neg z] at hp;rw [en z];exact g.up p hp
 ·by_cases z:p=o
  ·subst z;rw [eo,Wn,List.filter_append,List.map_append,g.nos p];by_cases w:r.kind=2∧r.b=1
   ·rw [if_pos w,List.range_succ,List.map_append,List.filter_cons,if_pos (by simp [w.1,w.2])]
    congr 1
    simp [c.issue w.1 w.2]
   ·rw [if_neg w,List.filter_cons,if_neg (by simpa using w)];simp
  ·rw [en z];exact g.nos p
 ·by_cases z:p=o
  ·subst z;rw [eo,ju];intro q hq hk;rcases List.mem_append.mp hq with hq | hq
   ·exact ⟨yO (g.vD p q hq hk).1,(g.vD p q hq hk).2⟩
   ·simp at hq;subst hq;exact ⟨yO (c.yc hk).1,(c.yc hk).2.1⟩
  ·rw [en z,ju];exact g.vD p
 ·by_cases z:p=o
  ·subst z;rw [eo,Jx];by_cases w:r.kind=5∧r.no=n
   ·rw [if_pos w,List.map_append,g.nums,List.length_append];simp only [List.length_cons,List.length_nil,Nat.zero_add,List.map_cons,List.map_nil];rw [List.range'_concat,(c.yc w.1).2.2.1,w.2];simp [Nat.add_comm]
   ·rw [if_neg w,List.append_nil];exact g.nums p n
  ·rw [en z];exact g.nums p n
 ·by_cases z:p=o
  ·subst z;rw [eo,Jx];by_cases w:r.kind=5∧r.no=n
   ·rw [if_pos w];intro q hq;rw [List.dropLast_concat] at hq;have:=(c.yc w.1).2.2.2;rw [w.2] at this;exact Xal (Zah (g.given p n) this q hq)
   ·rw [if_neg w,List.append_nil];exact fun q hq=>Xal (g.given p n q hq)
  ·rw [en z];exact g.given p n
 ·by_cases z:p=o
  ·subst z;rw [eo] at hq⊢;have old:(∃w∈jn s p,w.kind=5∧w.no=q.no∧w.g=q.g∧never (jn s w.b) q.no q.g=true)→∃w∈jn s p++ [r],w.kind=5∧w.no=q.no∧w.g=q.g∧never (jn (setOffice s p x) w.b) q.no q.g=true:=by
    rintro ⟨w,hw,h1,h2,h3,h4⟩
    exact ⟨w,List.mem_append_left _ hw,h1,h2,h3,nv h4⟩
   rcases List.mem_append.mp hq with hq | hq
   ·exact old (g.back p q hq hk)
   ·simp at hq;subst hq;exact old (c.back hk)
  ·rw [en z] at hq⊢;obtain ⟨w,hw,h1,h2,h3,h4⟩:=g.back p q hq hk;exact ⟨w,hw,h1,h2,h3,nv h4⟩
 ·by_cases z:p=o
  ·subst z;rw [eo] at hq;rcases List.mem_append.mp hq with hq | hq
   ·exact (g.may p q hq hk).grows G
   ·simp at hq;subst hq;exact (c.may hk).1.grows G
  ·rw [en z] at hq;exact (g.may p q hq hk).grows G
 ·by_cases z:p=o
  ·subst z;rw [eo,List.filter_append,List.map_append];by_cases w:r.kind=8
   ·rw [List.filter_cons,if_pos (by simp [w])];rw [List.nodup_append];refine ⟨g.zaJ p,by simp,?_⟩;intro a ha b hb hab;simp at hb;subst hab;subst hb;rw [List.mem_map] at ha;obtain ⟨q,hq,eq⟩:=ha;rw [List.mem_filter] at hq;have hm:=(c.may w).2.1;unfold mayOf at hm;rw [List.find?_eq_none] at hm;have:=hm q hq.1;simp at this;have h1:q.no=r.no:=congrArg Prod.fst eq;have h2:q.g=r.g:=congrArg Prod.snd eq;exact this (by simpa using hq.2) h1 h2
   ·rw [List.filter_cons,if_neg (by simpa using w)];simpa using g.zaJ p
  ·rw [en z];exact g.zaJ p
 ·by_cases z:p=o
  ·subst z;rw [eo];intro q hq hk hb;rcases List.mem_append.mp hq with hq | hq
   ·exact Jat (g.paid p q hq hk hb)
   ·simp at hq;subst hq;exact Jat (c.paid hk hb)
  ·rw [en z];exact g.paid p
 ·by_cases z:p=o
  ·subst z;rw [eo];intro q hq hk hb;rcases List.mem_append.mp hq with hq | hq
   ·exact yO (g.refs p q hq hk hb)
   ·simp at hq;subst hq;exact yO (c.refs hk hb)
  ·rw [en z];exact g.refs p
 ·by_cases z:p=o
  ·subst z;rw [eo];intro q hq hk;rcases List.mem_append.mp hq with hq | hq
   ·exact g.vaB p q hq hk
   ·simp at hq;subst hq;exact c.vaB hk
  ·rw [en z];exact g.vaB p
 ·by_cases z:p=o
  ·subst z;rw [eo];exact JaS (g.known p) fun h=>(c.may h).2
  ·rw [en z];exact g.known p
 ·by_cases z:p=o
  ·subst z;rw [eo,List.filter_append,List.map_append];by_cases w:r.kind=8∧r.no=n
   ·rw [List.filter_cons,if_pos (by simp [w.1,w.2]),List.pairwise_append];refine ⟨g.srt p n,by simp,?_⟩;intro a ha b hb;simp at hb;subst hb;rw [List.mem_map] at ha;obtain ⟨q,hq,rfl⟩:=ha;rw [List.mem_filter] at hq;simp at hq;obtain ⟨hq1,hq2,hq3⟩:=hq;obtain ⟨m1,m2,m3⟩:=c.may w.1;obtain ⟨u,hu1,hu2,hu3,hu4,hu5⟩:=g.may p q hq1 hq2;obtain ⟨v,hv1,hv2,hv3,hv4,hv5⟩:=m1;rw [hq3] at hu1 hu3;rw [w.2] at hv1 hv3;rcases Nat.lt_trichotomy q.g r.g with h | h | h
    ·exact h
    ·exfalso;have hm:=m2;unfold mayOf at hm;rw [List.find?_eq_none] at hm;have:=hm q hq1;simp at this;exact this hq2 (by rw [hq3,w.2]) h
    ·exfalso;have:=uaQ g (n:=n) (u:=u) (v:=v) (yr.mpr ⟨hu1,hu2,hu3⟩) (yr.mpr ⟨hv1,hv2,hv3⟩) (by omega);rw [hv4,hv5,←w.2] at this;rw [this] at m3;cases m3
   ·rw [List.filter_cons,if_neg (by simpa using w)];simpa using g.srt p n
  ·rw [en z];exact g.srt p n
 ·by_cases z:p=o
  ·subst z;rw [eo];intro h;rw [vj] at h;have hb:∀k,yl (jn s p++ [r]) n k=(yl (jn s p) n k || (r.kind==6 && (r.no==n && r.g==k))):=fun k=>X4 _ _ _ _
   have st:(standing (jn s p) n).isSome=true:=by
    cases hc:closed (jn s p) n with
    | true=>exact g.clo p n hc
    | false=>
     rw [hc] at h;simp at h;have:=c.close h.1;rw [h.2] at this;exact this
   have n5:¬(r.kind=5∧r.no=n):=fun w=>by
    have:=c.vbo w.1;rw [w.2] at this;rw [this] at h;simp [w.1] at h
   have n6:¬(r.kind=6∧r.no=n):=fun w=>by
    have:=c.vbn w.1;rw [w.2] at this;rw [this] at h;simp [w.1] at h
   rw [Qaz n5 n6];exact st
  ·rw [en z];exact g.clo p n
 ·by_cases z:p=o
  ·subst z;rw [eo,Wn];by_cases w:r.kind=2∧r.b=1
   ·rw [if_pos w];exact c.few w.1 w.2
   ·rw [if_neg w];exact g.bg p
  ·rw [en z];exact g.bg p
 ·by_cases z:p=o
  ·subst z;rw [eo];have keep:∀{n k q},mayOf (jn s p) n k=some q→mayOf (jn s p++ [r]) n k=some q:=fun h=>by rw [kr,h];rfl
   intro q hq hk hb;rcases List.mem_append.mp hq with hq | hq
   ·obtain ⟨w,h1,h2⟩:=g.qaY p q hq hk hb;exact ⟨w,keep h1,h2⟩
   ·simp at hq;subst hq;obtain ⟨_,w,h1,h2⟩:=c.Zbl hk hb;exact ⟨w,keep h1,h2⟩
  ·rw [en z];exact g.qaY p
 ·by_cases z:p=o
  ·subst z;rw [eo,VI,List.filter_append,List.map_append];cases hp:pending (jn s p) with
   | none=>simpa [fin] using g.once p
   | some y=>
    by_cases k3:r.kind=3
    ·by_cases b2:y.b=2
     ·rw [UC k3,List.filter_cons,if_pos (by simp [b2]),List.nodup_append];refine ⟨g.once p,by simp,?_⟩;intro a ha b hb hab;simp at hb;subst hab;subst hb;obtain ⟨q,hq,eq⟩:=List.mem_map.mp ha;rw [List.mem_filter] at hq;have h:=g.yaP p y hp b2;unfold Vbpoak.paid at h;rw [List.any_eq_false] at h;refine h q hq.1 ?_;have h1:q.no=y.no:=congrArg Prod.fst eq;have h2:q.g=y.g:=congrArg Prod.snd eq;have h3:q.b=2:=by simpa using hq.2
      simp [h1,h2,h3]
     ·rw [UC k3,List.filter_cons,if_neg (by simp [b2])];simpa using g.once p
    ·rw [WM k3];simpa using g.once p
  ·rw [en z];exact g.once p
 ·by_cases z:p=o
  ·subst z;rw [eo];intro q hq hb;rw [Ug] at hq;by_cases k2:r.kind=2
   ·rw [if_pos k2] at hq;have e:r=q:=Option.some.inj hq;subst e;rw [zT,(c.Zbl k2 hb).1,WM (by omega)];rfl
   ·rw [if_neg k2] at hq;cases hq
  ·rw [en z];exact g.yaP p
end Mo
namespace Mo
open Vbpoak
theorem kaY{s:State}{f:Int}{x:State×Ans}(h:f≠0):refuseOr s f x=(s,⟨f, []⟩):=by
 unfold refuseOr;rw [if_neg h]
theorem refuse_eq{s:State}{f:Int}{x:State×Ans}(h:f=0):refuseOr s f x=x:=by
 unfold refuseOr;rw [if_pos h]
theorem vaR(n:Int)(r:List Int):firstFault (n::r)=if n=0 then firstFault r else n:=rfl
theorem Jh:∀{l:List Int},firstFault l=0↔∀n∈l,n=0
 | []=>by simp [firstFault]
 | n::r=>by
  rw [vaR];by_cases h:n=0
  ·rw [if_pos h,Jh];simp [h]
  ·rw [if_neg h];simp [h]
theorem kC{b:Bool}{n:Int}(hn:n≠0):when_ b n=0↔b=false:=by
 unfold when_;cases b<;>simp [hn]
theorem qi{s:State}{o:Int}:isOffice s o=0↔0≤o∧o.toNat<s.offices.length:=by
 unfold isOffice;rw [kC (by decide)];simp;omega
theorem Uc{s:State}{o:Int}:upFault s o=0↔0≤o∧o.toNat<s.offices.length∧(officeAt s o.toNat).up=true:=by
 unfold upFault;rw [Jh];simp only [List.mem_cons,List.not_mem_nil,or_false,forall_eq_or_imp,forall_eq,qi,kC (show (-6:Int)≠0 by decide)];simp;constructor
 ·rintro ⟨⟨a,b⟩,c⟩;exact ⟨a,b,c⟩
 ·rintro ⟨a,b,c⟩;exact ⟨⟨a,b⟩,c⟩
theorem Good.off{s:State}(g:Good s){o:Nat}(h:(officeAt s o).up=true):o<s.offices.length:=by
 by_cases z:o<s.offices.length
 ·exact z
 ·unfold officeAt at h;rw [List.getElem?_eq_none (by omega)] at h;cases h
theorem Good.send{s:State}(g:Good s){k n gr f t a:Nat}{d:Int}(h:qG s ⟨k,n,gr,f,t,a,d,false⟩):Good (Vbpoak.send s k n gr f t a d):=
 g.V2 rfl fun m hm=>by
  rcases List.mem_append.mp hm with hm | hm
  ·exact g.msgs m hm
  ·simp at hm;subst hm;exact h
theorem Good.put{s:State}(g:Good s){o:Nat}{r:Rec}(h:(officeAt s o).up=true)(hk:r.kind≠2)(c:X2 s o r):Good (Vbpoak.put s o r):=
 g.grow (g.off h) rfl (fun _=>hk) c
theorem qa1{s:State}{o:Nat}(r:Rec)(h:o<s.offices.length):jn (Vbpoak.put s o r) o=jn s o++ [r]:=by
 show (officeAt (setOffice s o _) o).journal=_;rw [Wg _ _ _ _ h,if_pos rfl];rfl
theorem vU(s:State)(o:Nat)(r:Rec)(h:o<s.offices.length):Grows s (Vbpoak.put s o r):=⟨(ju _ _ _).symm,fun p=>by
 show∃l,(officeAt (setOffice s o _) p).journal=_;rw [Wg _ _ _ _ h];by_cases z:p=o
 ·rw [if_pos z,z];exact ⟨[r],rfl⟩
 ·rw [if_neg z];exact ⟨[],by simp⟩⟩
theorem Yn{j:List Rec}{n:Nat}{r:Rec}(h:issueOf j n=some r):r∈issues j∧r.no=n:=by
 unfold issueOf at h;have h1:=List.find?_some h;have h2:=List.mem_of_find?_eq_some h;simp at h1;unfold issues;rw [List.mem_filter];exact ⟨⟨h2,by simp [h1.1]⟩,h1.2⟩
theorem Xk{j:List Rec}{n:Nat}{q:Rec}(h:standing j n=some q):q∈j∧q.kind=5∧q.no=n:=by
 unfold standing at h;cases e:(grants j n).getLast? with
 | none=>rw [e] at h;cases h
 | some z=>
  rw [e] at h;simp only [] at h;split at h
  ·cases h
  ·have:z=q:=Option.some.inj h;subst this;exact yr.mp (List.mem_of_getLast? e)
theorem Vbk{s:State}{o n g:Nat}:X2 s o ⟨9,n,g,0,0,0,0⟩:=⟨nofun,nofun,nofun,nofun,nofun,nofun,nofun,nofun,nofun,nofun,nofun,nofun⟩
theorem Kbq{s:State}{o n g:Nat}(h:(standing (jn s o) n).isSome=true):X2 s o ⟨7,n,g,0,0,0,0⟩:=⟨nofun,nofun,nofun,nofun,nofun,nofun,nofun,nofun,nofun,fun _=>h,nofun,nofun⟩
theorem waC{s:State}{o n g:Nat}(h:o<s.offices.length):never (jn (Vbpoak.put s o ⟨9,n,g,0,0,0,0⟩) o) n g=true:=by
 rw [qa1 _ h,JK];simp
theorem Good.onAsk{s:State}(g:Good s){m:Msg}(hm:qG s m)(h1:m.kind=1)(hu:(officeAt s m.to).up=true):Good (onAsk s m):=by
 have no3:Good (Vbpoak.send s 3 m.no 0 m.to m.from_ 0 0):=g.send ⟨hm.to,hm.from_,nofun,nofun,nofun,nofun⟩;unfold Vbpoak.onAsk;simp only [];cases e:issueOf (officeAt s m.to).journal m.no with
 | none=>exact no3
 | some r=>
  simp only [];split
  ·exact no3
  ·rename_i hnc;cases e2:standing (officeAt s m.to).journal m.no with
   | some q=>
    simp only [];split
    ·rename_i hb;obtain ⟨hq,hk,hn⟩:=Xk e2;exact g.send ⟨hm.to,hm.from_,nofun,fun _=>⟨q,by rw [←(hm.one h1).1];exact hq,hk,hn,rfl,hb⟩,nofun,nofun⟩
    ·exact no3
   | none=>
    simp only [];split
    ·exact no3
    ·have hc:X2 s m.to ⟨5,m.no,(grants (officeAt s m.to).journal m.no).length+1,0,m.from_,0,clockOf s m.to+s.lease⟩:=
      ⟨nofun,fun _=>⟨⟨r,Yn e⟩,hm.from_,rfl,e2⟩,nofun,nofun,nofun,nofun,nofun,fun _=>by
       cases q:closed (officeAt s m.to).journal m.no with
       | false=>rfl
       | true=>exact absurd (Or.inr (Or.inr q)) hnc,nofun,nofun,nofun,nofun⟩
     have g1:=g.put (r:=⟨5,m.no,(grants (officeAt s m.to).journal m.no).length+1,0,m.from_,0,clockOf s m.to+s.lease⟩) hu (by show (5:Nat)≠2;decide) hc;have K:=vU s m.to ⟨5,m.no,(grants (officeAt s m.to).journal m.no).length+1,0,m.from_,0,clockOf s m.to+s.lease⟩ hm.to;refine g1.send ⟨by rw [←K.1];exact hm.to,by rw [←K.1];exact hm.from_,nofun,fun _=>?_,nofun,nofun⟩;exact ⟨_,by rw [←(hm.one h1).1,qa1 _ hm.to];exact List.mem_append_right _ (List.mem_singleton.mpr rfl),rfl,rfl,rfl,rfl⟩
theorem Good.onMay{s:State}(g:Good s){m:Msg}(hm:qG s m)(h2:m.kind=2)(hu:(officeAt s m.to).up=true)(hn:never (jn s m.to) m.no m.g=false):Good (onMay s m):=by
 unfold Vbpoak.onMay;split
 ·exact g
 ·rename_i h;refine g.put hu (by show (8:Nat)≠2;decide) ⟨nofun,nofun,nofun,fun _=>⟨hm.two h2,?_,hn⟩,nofun,nofun,nofun,nofun,nofun,nofun,nofun,nofun⟩;cases e:mayOf (officeAt s m.to).journal m.no m.g with
  | none=>rfl
  | some r=>rw [e] at h;simp at h
theorem yL{s:State}{m:Msg}(h:isStanding s m=true):∃q,standing (jn s m.to) m.no=some q∧q.g=m.g∧q.b=m.from_∧closed (jn s m.to) m.no=false:=by
 unfold isStanding at h;cases e:standing (officeAt s m.to).journal m.no with
 | none=>rw [e] at h;cases h
 | some q=>
  rw [e] at h;simp at h;exact ⟨q,rfl,h.1,h.2.1,h.2.2⟩
theorem Good.onPaid{s:State}(g:Good s){m:Msg}(hu:(officeAt s m.to).up=true):Good (onPaid s m):=by
 unfold Vbpoak.onPaid;split
 ·rename_i h;obtain ⟨q,e,_⟩:=yL h;exact g.put hu (by show (7:Nat)≠2;decide) (Kbq (by rw [e];rfl))
 ·exact g
theorem Good.onNever{s:State}(g:Good s){m:Msg}(hm:qG s m)(h5:m.kind=5)(hu:(officeAt s m.to).up=true):Good (onNever s m):=by
 unfold Vbpoak.onNever;split
 ·rename_i h;obtain ⟨q,e,h1,h2,h6⟩:=yL h;obtain ⟨hq,hk,hn⟩:=Xk e;exact g.put hu (by show (6:Nat)≠2;decide) ⟨nofun,nofun,fun _=>⟨q,hq,hk,hn,h1,by rw [h2];exact hm.waB h5⟩,nofun,nofun,nofun,nofun,nofun,fun _=>h6,nofun,nofun,nofun⟩
 ·exact g
theorem Good.onDid{s:State}(g:Good s){m:Msg}(hf:m.from_<s.offices.length)(ht:m.to<s.offices.length)(hu:(officeAt s m.to).up=true):Good (onDid s m):=by
 have go:Good (Vbpoak.send (Vbpoak.put s m.to ⟨9,m.no,m.g,0,0,0,0⟩) 5 m.no m.g m.to m.from_ 0 0):=by
  refine (g.put hu (by show (9:Nat)≠2;decide) Vbk).send ⟨?_,?_,nofun,nofun,fun _=>waC ht,nofun⟩
  ·rw [←(vU s m.to _ ht).1];exact ht
  ·rw [←(vU s m.to _ ht).1];exact hf
 unfold Vbpoak.onDid;simp only [];split
 ·exact g.send ⟨ht,hf,nofun,nofun,nofun,nofun⟩
 ·split
  ·rename_i h;exact g.send ⟨ht,hf,nofun,nofun,fun _=>h,nofun⟩
  ·cases mayOf (officeAt s m.to).journal m.no m.g with
   | none=>exact go
   | some r=>
    simp only [];split
    ·exact g
    ·exact go
theorem Good.received{s:State}(g:Good s){m:Msg}(hm:qG s m)(hu:(officeAt s m.to).up=true):Good (received s m):=by
 unfold Vbpoak.received;split
 ·exact g.onAsk hm (by assumption) hu
 ·split
  ·split
   ·exact g
   ·exact g.onMay hm (by assumption) hu (by rename_i h;simpa using h)
  ·split
   ·exact g.onPaid hu
   ·split
    ·exact g.onNever hm (by assumption) hu
    ·split
     ·exact g.onDid hm.from_ hm.to hu
     ·exact g
theorem set_set(s:State)(o:Nat)(x y:Office):setOffice (setOffice s o x) o y=setOffice s o y:=by
 unfold setOffice;simp
theorem Good.act{s:State}(g:Good s){o:Nat}{r:Rec}(cut:Nat)(hu:(officeAt s o).up=true)(hk:r.kind=2)(c:X2 s o r):Good (act s o r cut):=by
 have ho:=g.off hu;unfold Vbpoak.act;simp only [];split
 ·exact g.same ho rfl nofun
 ·split
  ·exact g.grow ho rfl nofun c
  ·split
   ·exact g.grow ho rfl nofun c
   ·have g1:Good (setOffice s o {Vbpoak.write (officeAt s o) r with up:=false}):=g.grow ho rfl nofun c;have e:officeAt (setOffice s o {Vbpoak.write (officeAt s o) r with up:=false}) o={Vbpoak.write (officeAt s o) r with up:=false}:=by
     rw [Wg _ _ _ _ ho,if_pos rfl]
    have:=g1.grow (o:=o) (r:=⟨3,r.no,r.g,0,0,0,0⟩) (x:=Vbpoak.write {Vbpoak.write (officeAt s o) r with drawer:=(((officeAt s o).drawer:Int)+cashOf r).toNat} ⟨3,r.no,r.g,0,0,0,0⟩) (by rw [ju];exact ho)
     (by show _=(officeAt _ o).journal++_;rw [e];rfl) (fun _=>by show (3:Nat)≠2;decide) ⟨nofun,nofun,nofun,nofun,nofun,nofun,nofun,nofun,nofun,nofun,nofun,nofun⟩
    rw [set_set] at this;exact this
theorem kaF{j:List Rec}{r:Rec}(h:pending j=some r):r∈j∧r.kind=2:=by
 unfold pending at h;cases e:j.getLast? with
 | none=>rw [e] at h;cases h
 | some z=>
  rw [e] at h;simp only [] at h;split at h
  ·rename_i hz;have:z=r:=Option.some.inj h;subst this;exact ⟨List.mem_of_getLast? e,hz⟩
  ·cases h
theorem Good.counted{s:State}(g:Good s){o:Nat}(ho:o<s.offices.length):Good (counted s o):=by
 unfold Vbpoak.counted;simp only [];cases e:pending (officeAt s o).journal with
 | none=>exact g.same ho rfl fun _=>e
 | some r=>
  simp only [];by_cases h:(((officeAt s o).drawer:Nat):Int)=book (officeAt s o).journal
  ·exact g.grow (r:=⟨if (((officeAt s o).drawer:Nat):Int)=book (officeAt s o).journal then 4 else 3,r.no,r.g,0,0,0,0⟩) ho rfl (fun _=>by show (if _ then 4 else 3)≠2;rw [if_pos h];decide)
    (by rw [if_pos h];exact ⟨nofun,nofun,nofun,nofun,nofun,nofun,nofun,nofun,nofun,nofun,nofun,nofun⟩)
  ·exact g.grow (r:=⟨if (((officeAt s o).drawer:Nat):Int)=book (officeAt s o).journal then 4 else 3,r.no,r.g,0,0,0,0⟩) ho rfl (fun _=>by show (if _ then 4 else 3)≠2;rw [if_neg h];decide)
    (by rw [if_neg h];exact ⟨nofun,nofun,nofun,nofun,nofun,nofun,nofun,nofun,nofun,nofun,nofun,nofun⟩)
end Mo
namespace Mo
open Vbpoak
structure Kept(s t:State):Prop where
 grows:Grows s t
 time:t.time=s.time
 fee:t.fee=s.fee
 life:t.life=s.life
 lease:t.lease=s.lease
 ups:∀o,(officeAt t o).up=(officeAt s o).up
 xbj:∀o,(officeAt t o).off=(officeAt s o).off
theorem Kept.refl(s:State):Kept s s:=⟨.refl s,rfl,rfl,rfl,rfl,fun _=>rfl,fun _=>rfl⟩
theorem Kept.trans{s t u:State}(a:Kept s t)(b:Kept t u):Kept s u:=
 ⟨a.grows.trans b.grows,b.time.trans a.time,b.fee.trans a.fee,b.life.trans a.life,b.lease.trans a.lease,fun o=>(b.ups o).trans (a.ups o),fun o=>(b.xbj o).trans (a.xbj o)⟩
theorem Kept.send(s:State){k n gr f t a:Nat}{d:Int}:Kept s (Vbpoak.send s k n gr f t a d):=⟨⟨rfl,fun _=>⟨[],by simp [jn];rfl⟩⟩,rfl,rfl,rfl,rfl,fun _=>rfl,fun _=>rfl⟩
theorem Kept.put(s:State){o:Nat}{r:Rec}(h:o<s.offices.length):Kept s (Vbpoak.put s o r):=by
 refine ⟨vU s o r h,rfl,rfl,rfl,rfl,fun p=>?_,fun p=>?_⟩
 ·unfold Vbpoak.put;rw [Wg _ _ _ _ h];split
  ·rename_i z;rw [z];rfl
  ·rfl
 ·unfold Vbpoak.put;rw [Wg _ _ _ _ h];split
  ·rename_i z;rw [z];rfl
  ·rfl
theorem Kept.msgs(s:State)(l:List Msg):Kept s {s with msgs:=l}:=⟨⟨rfl,fun _=>⟨[],by simp [jn];rfl⟩⟩,rfl,rfl,rfl,rfl,fun _=>rfl,fun _=>rfl⟩
theorem Kat{s:State}{m:Msg}(h:m.to<s.offices.length):Kept s (onDid s m):=by
 have go:Kept s (Vbpoak.send (Vbpoak.put s m.to ⟨9,m.no,m.g,0,0,0,0⟩) 5 m.no m.g m.to m.from_ 0 0):=(Kept.put s h).trans (Kept.send _);unfold onDid;simp only [];split
 ·exact Kept.send s
 ·split
  ·exact Kept.send s
  ·cases mayOf (officeAt s m.to).journal m.no m.g with
   | none=>exact go
   | some r=>
    simp only [];split
    ·exact .refl s
    ·exact go
theorem yaS(s:State)(m:Msg):(onDid s m).msgs=s.msgs∨(paid (jn s m.to) m.no m.g=true∧(onDid s m).msgs=s.msgs++ [⟨4,m.no,m.g,m.to,m.from_,0,0,false⟩])∨(onDid s m).msgs=s.msgs++ [⟨5,m.no,m.g,m.to,m.from_,0,0,false⟩]:=by
 unfold onDid;simp only [];split
 ·exact .inr (.inl ⟨by assumption,rfl⟩)
 ·split
  ·exact .inr (.inr rfl)
  ·cases mayOf (officeAt s m.to).journal m.no m.g with
   | none=>exact .inr (.inr rfl)
   | some r=>
    simp only [];split
    ·exact .inl rfl
    ·exact .inr (.inr rfl)
theorem vaM{s:State}{m:Msg}(h:m.to<s.offices.length):Kept s (onPaid s m):=by
 unfold onPaid;split
 ·exact Kept.put s h
 ·exact .refl s
theorem uaG{s:State}{m:Msg}(h:m.to<s.offices.length):Kept s (onNever s m):=by
 unfold onNever;split
 ·exact Kept.put s h
 ·exact .refl s
theorem z4(s:State)(m:Msg):(onPaid s m).msgs=s.msgs:=by
 unfold onPaid;split<;>rfl
theorem JY(s:State)(m:Msg):(onNever s m).msgs=s.msgs:=by
 unfold onNever;split<;>rfl
theorem yaA(s:State){m:Msg}(h:m.kind=4):received s m=onPaid s m:=by
 unfold received;rw [if_neg (by omega),if_neg (by omega),if_pos h]
theorem qaA(s:State){m:Msg}(h:m.kind=5):received s m=onNever s m:=by
 unfold received;rw [if_neg (by omega),if_neg (by omega),if_neg (by omega),if_pos h]
theorem YaA(s:State)(o no:Nat):askOne s o no=match standing (jn s o) no with
  | none=>s
  | some q=>if closed (jn s o) no=true∨(officeAt s o).up=false∨(officeAt s q.b).up=false then s
   else
    let t:=onDid s ⟨6,no,q.g,o,q.b,0,0,false⟩
    if t.msgs=s.msgs then t
    else if paid (jn s q.b) no q.g=true then onPaid {t with msgs:=s.msgs} ⟨4,no,q.g,q.b,o,0,0,false⟩
    else onNever {t with msgs:=s.msgs} ⟨5,no,q.g,q.b,o,0,0,false⟩:=by
 unfold askOne;cases e:standing (officeAt s o).journal no with
 | none=>rfl
 | some q=>
  simp only [];split
  ·rfl
  ·have sp:∀t:State,∀m:Msg,(m.kind=4∨m.kind=5)→{received {t with msgs:=s.msgs} m with msgs:=s.msgs}=received {t with msgs:=s.msgs} m:=by
    intro t m hk;have:(received {t with msgs:=s.msgs} m).msgs=s.msgs:=by
     rcases hk with hk | hk
     ·rw [yaA _ hk,z4]
     ·rw [qaA _ hk,JY]
    generalize received {t with msgs:=s.msgs} m=u at*;cases u;simp at this;subst this;rfl
   unfold onDid;simp only [];by_cases hp:paid (officeAt s q.b).journal no q.g=true
   ·rw [if_pos hp,if_pos hp];have em:(Vbpoak.send s 4 no q.g q.b o 0 0).msgs=s.msgs++ [⟨4,no,q.g,q.b,o,0,0,false⟩]:=rfl;rw [em,List.getLast?_concat];simp only [];rw [if_pos (by simp),if_neg (by simp),sp _ _ (.inl rfl),yaA _ rfl]
   ·rw [if_neg hp,if_neg hp];have waB:∀t:State,t.msgs=s.msgs++ [⟨5,no,q.g,q.b,o,0,0,false⟩]→(match t.msgs.getLast? with
      | some m=>if s.msgs.length<t.msgs.length then {received {t with msgs:=s.msgs} m with msgs:=s.msgs} else {t with msgs:=s.msgs}
      | none=>t)=if t.msgs=s.msgs then t else onNever {t with msgs:=s.msgs} ⟨5,no,q.g,q.b,o,0,0,false⟩:=by
     intro t em;rw [em,List.getLast?_concat];simp only [];rw [if_pos (by simp),if_neg (by simp),sp _ _ (.inr rfl),qaA _ rfl]
    by_cases hn:never (officeAt s q.b).journal no q.g=true
    ·rw [if_pos hn];exact waB _ rfl
    ·rw [if_neg hn];cases e2:mayOf (officeAt s q.b).journal no q.g with
     | none=>exact waB _ rfl
     | some r=>
      simp only [];by_cases hc:clockOf s q.b<r.d
      ·rw [if_pos hc,if_pos rfl];cases e3:s.msgs.getLast? with
       | none=>rfl
       | some m=>
        simp only [];rw [if_neg (by omega)]
      ·rw [if_neg hc];exact waB _ rfl
theorem Good.askOne{s:State}(g:Good s)(o no:Nat):Good (Vbpoak.askOne s o no)∧Kept s (Vbpoak.askOne s o no)∧(Vbpoak.askOne s o no).msgs=s.msgs:=by
 rw [YaA];cases e:standing (jn s o) no with
 | none=>exact ⟨g, .refl s,rfl⟩
 | some q=>
  simp only [];split
  ·exact ⟨g, .refl s,rfl⟩
  ·rename_i h;have hu:(officeAt s o).up=true:=by
    cases z:(officeAt s o).up with
    | true=>rfl
    | false=>exact absurd (.inr (.inl z)) h
   have hv:(officeAt s q.b).up=true:=by
    cases z:(officeAt s q.b).up with
    | true=>rfl
    | false=>exact absurd (.inr (.inr z)) h
   have ho:=g.off hu;have hq:=g.off hv;have g1:=g.onDid (m:=⟨6,no,q.g,o,q.b,0,0,false⟩) ho hq hv;have K:=Kat (s:=s) (m:=⟨6,no,q.g,o,q.b,0,0,false⟩) hq;have ms:=yaS s ⟨6,no,q.g,o,q.b,0,0,false⟩;generalize Vbpoak.onDid s ⟨6,no,q.g,o,q.b,0,0,false⟩=t at*;have g2:Good {t with msgs:=s.msgs}:=g1.V2 rfl fun m hm=>(g.msgs m hm).grows K.grows;have hu2:(officeAt {t with msgs:=s.msgs} o).up=true:=(K.ups o).trans hu;have ho2:o<{t with msgs:=s.msgs}.offices.length:=by show o<t.offices.length;rw [←K.grows.1];exact ho
   have K2:Kept s {t with msgs:=s.msgs}:=K.trans (Kept.msgs t _);by_cases em:t.msgs=s.msgs
   ·rw [if_pos em];exact ⟨g1,K,em⟩
   ·rw [if_neg em];split
    ·exact ⟨g2.onPaid hu2,K2.trans (vaM ho2),z4 _ _⟩
    ·rename_i hp;refine ⟨g2.onNever (m:=⟨5,no,q.g,q.b,o,0,0,false⟩) ?_ rfl hu2,K2.trans (uaG ho2),JY _ _⟩;rcases ms with ms | ms | ms
     ·exact absurd ms em
     ·exact absurd ms.1 hp
     ·have:=(g1.msgs ⟨5,no,q.g,q.b,o,0,0,false⟩ (by rw [ms];simp));exact ⟨this.from_,this.to,nofun,nofun,this.waB,nofun⟩
theorem qam{s:State}(g:Good s)(o:Nat):∀(l:List Nat),Good (l.foldl (fun u no=>askOne u o no) s)∧Kept s (l.foldl (fun u no=>askOne u o no) s)∧(l.foldl (fun u no=>askOne u o no) s).msgs=s.msgs:=by
 intro l;induction l generalizing s with
 | nil=>exact ⟨g, .refl s,rfl⟩
 | cons no r ih=>
  obtain ⟨g1,k1,m1⟩:=g.askOne o no;obtain ⟨g2,k2,m2⟩:=ih g1;exact ⟨g2,k1.trans k2,m2.trans m1⟩
theorem ZaH{s:State}(g:Good s):∀(l:List Nat),Good (l.foldl (fun t o=>(ordersOf (officeAt t o).journal).foldl (fun u no=>askOne u o no) t) s)∧Kept s (l.foldl (fun t o=>(ordersOf (officeAt t o).journal).foldl (fun u no=>askOne u o no) t) s)∧
  (l.foldl (fun t o=>(ordersOf (officeAt t o).journal).foldl (fun u no=>askOne u o no) t) s).msgs=s.msgs:=by
 intro l;induction l generalizing s with
 | nil=>exact ⟨g, .refl s,rfl⟩
 | cons o r ih=>
  obtain ⟨g1,k1,m1⟩:=qam g o (ordersOf (officeAt s o).journal);obtain ⟨g2,k2,m2⟩:=ih g1;exact ⟨g2,k1.trans k2,m2.trans m1⟩
theorem Good.oneRound{s:State}(g:Good s):Good (oneRound s)∧Kept s (Vbpoak.oneRound s)∧(Vbpoak.oneRound s).msgs=s.msgs:=ZaH g _
theorem qG.gone{s:State}{m:Msg}(h:qG s m):qG s {m with gone:=true}:=⟨h.from_,h.to,h.one,h.two,h.waB,h.six⟩
theorem VaT:Good start:=by
 have e:∀o,officeAt start o=noOffice:=fun o=>by unfold officeAt start;simp
 have j:∀o,jn start o= []:=fun o=>by show (officeAt start o).journal= [];rw [e];rfl
 refine ⟨fun o h=>?_,by show 0≤5;decide,fun o=>by rw [j];rfl,fun o=>by rw [j];nofun,fun o n=>by rw [j];rfl,fun o n=>by rw [j];nofun,fun o=>by rw [j];nofun,fun o=>by rw [j];nofun,fun o=>by rw [j];exact List.nodup_nil,fun o=>by rw [j];nofun,fun o=>by rw [j];nofun,fun o=>by rw [j];nofun,fun o=>by rw [j];rfl,nofun,fun o n=>by rw [j];exact List.Pairwise.nil,fun o n h=>(by rw [j] at h;cases h),fun o=>by rw [j];exact Nat.zero_le _,fun o=>by rw [j];nofun,fun o=>by rw [j];exact List.nodup_nil,fun o=>by rw [j];nofun⟩;rw [j];rfl
theorem va3(n:Nat)(hn:n≤5)(t:Int)(f l k:Nat):Good ⟨List.replicate n ⟨[],0,true,0⟩,t,f,l,k, []⟩:=by
 have j:∀o,jn ⟨List.replicate n ⟨[],0,true,0⟩,t,f,l,k, []⟩ o= []:=fun o=>by
  show (officeAt _ o).journal= [];unfold officeAt;simp only [List.getElem?_replicate];split<;>rfl
 refine ⟨fun o h=>?_,by simpa using hn,fun o=>by rw [j];rfl,fun o=>by rw [j];nofun,fun o n=>by rw [j];rfl,fun o n=>by rw [j];nofun,fun o=>by rw [j];nofun,fun o=>by rw [j];nofun,fun o=>by rw [j];exact List.nodup_nil,fun o=>by rw [j];nofun,fun o=>by rw [j];nofun,fun o=>by rw [j];nofun,fun o=>by rw [j];rfl,nofun,fun o n=>by rw [j];exact List.Pairwise.nil,fun o n h=>(by rw [j] at h;cases h),fun o=>by rw [j];exact Nat.zero_le _,fun o=>by rw [j];nofun,fun o=>by rw [j];exact List.nodup_nil,fun o=>by rw [j];nofun⟩;rw [j];rfl
theorem Yam{j:List Rec}{n:Nat}{r:Rec}(h:payable j n=some r):r∈j∧r.kind=8∧r.no=n∧never j n r.g=false∧paid j n r.g=false:=by
 unfold payable at h;have:=List.mem_of_getLast? h;rw [List.mem_filter,List.mem_filter] at this;simp at this;exact ⟨this.1.1,this.1.2.1,this.1.2.2,this.2.1,this.2.2⟩
theorem Kas{j:List Rec}{n g:Nat}{r:Rec}(h:r∈j)(h1:r.kind=8)(h2:r.no=n)(h3:r.g=g):(mayOf j n g).isSome=true:=by
 unfold mayOf;rw [List.find?_isSome];exact ⟨r,h,by simp [h1,h2,h3]⟩
theorem Good.Ja9{s:State}(g:Good s){p n k:Nat}{r:Rec}(h:r∈jn s p)(h1:r.kind=8)(h2:r.no=n)(h3:r.g=k):mayOf (jn s p) n k=some r:=by
 have hs:=Kas h h1 h2 h3;cases e:mayOf (jn s p) n k with
 | none=>rw [e] at hs;cases hs
 | some q=>
  unfold mayOf at e;have m1:=List.mem_of_find?_eq_some e;have m2:=List.find?_some e;simp at m2;have nd:=g.zaJ p;have hq:q∈(jn s p).filter fun r=>r.kind==8:=List.mem_filter.mpr ⟨m1,by simp [m2.1]⟩
  have hr:r∈(jn s p).filter fun r=>r.kind==8:=List.mem_filter.mpr ⟨h,by simp [h1]⟩
  obtain ⟨i,hi⟩:=List.mem_iff_getElem?.mp hq;obtain ⟨j,hj⟩:=List.mem_iff_getElem?.mp hr;have hi':(((jn s p).filter fun r=>r.kind==8).map fun r=>(r.no,r.g))[i]? =some (n,k):=by rw [List.getElem?_map,hi];simp [m2.2.1,m2.2.2]
  have hj':(((jn s p).filter fun r=>r.kind==8).map fun r=>(r.no,r.g))[j]? =some (n,k):=by rw [List.getElem?_map,hj];simp [h2,h3]
  obtain ⟨a1,a2⟩:=List.getElem?_eq_some_iff.mp hi';obtain ⟨b1,b2⟩:=List.getElem?_eq_some_iff.mp hj';have:i=j:=(List.getElem_inj nd).mp (a2.trans b2.symm);subst this;exact hi.symm.trans hj
theorem Good.fill{s:State}(g:Good s){o:Nat}{a:Nat}(hu:(officeAt s o).up=true):Good (setOffice s o {Vbpoak.write (officeAt s o) ⟨1,0,0,a,0,0,0⟩ with drawer:=(officeAt s o).drawer+a}):=
 g.grow (g.off hu) rfl (fun _=>by show (1:Nat)≠2;decide) ⟨nofun,nofun,nofun,nofun,nofun,nofun,nofun,nofun,nofun,nofun,nofun,nofun⟩
theorem Good.step{s:State}(g:Good s)(c:Call):Good (Vbpoak.step s c).1:=by
 have ref:∀{f:Int} {x:State×Ans},(f=0→Good x.1)→Good (refuseOr s f x).1:=by
  intro f x h;by_cases e:f=0
  ·rw [refuse_eq e];exact h e
  ·rw [kaY e];exact g
 cases c with
 | begin_ n f l k=>
  simp only [Vbpoak.step];split
  ·exact g
  ·rename_i h;refine va3 _ ?_ _ _ _ _;have:inside n 1 OFFICES=true:=by
    cases z:inside n 1 OFFICES with
    | true=>rfl
    | false=>exact absurd (.inl z) h
   unfold inside OFFICES at this;simp at this;omega
 | pass n=>
  simp only [Vbpoak.step];split
  ·exact g
  ·exact g.V2 rfl g.msgs
 | clock o z=>
  simp only [Vbpoak.step];refine ref fun e=>?_;rw [Jh] at e;have h1:=qi.mp (e _ List.mem_cons_self);exact g.same h1.2 rfl (g.up _)
 | fill o n=>
  simp only [Vbpoak.step];refine ref fun e=>?_;rw [Jh] at e;have h1:=Uc.mp (e _ List.mem_cons_self);exact g.fill h1.2.2
 | issue o a k c=>
  simp only [Vbpoak.step];refine ref fun e=>?_;rw [Jh] at e;have h1:=Uc.mp (e _ List.mem_cons_self);have kbd:ze (jn s o.toNat)<100:=by
   have h9:=e _ (List.mem_cons_of_mem _ (List.mem_cons_of_mem _ (List.mem_cons_of_mem _ List.mem_cons_self)));rw [kC (by decide)] at h9;simp at h9;exact h9
  exact g.act _ h1.2.2 rfl ⟨fun _ _=>rfl,nofun,nofun,nofun,nofun,nofun,fun _=> .inl rfl,nofun,nofun,nofun,fun _ _=>kbd,nofun⟩
 | present p n k=>
  simp only [Vbpoak.step];refine ref fun e=>?_;rw [Jh] at e;have h1:=Uc.mp (e _ List.mem_cons_self);have h2:=e (when_ (decide (s.offices.length≤issuerOf n.toNat)) (-5)) (by simp);rw [kC (by decide)] at h2;simp at h2;exact g.send ⟨h1.2.1,h2,fun _=>⟨rfl,rfl⟩,nofun,nofun,nofun⟩
 | deliver m=>
  simp only [Vbpoak.step];split
  ·exact g
  ·cases e:s.msgs[m.toNat]? with
   | none=>exact g
   | some x=>
    simp only [];refine ref fun e2=>?_;rw [Jh] at e2;have h2:=e2 (when_ (!(officeAt s x.to).up) (-6)) (by simp);rw [kC (by decide)] at h2;simp at h2;exact g.received (g.msgs x (List.mem_of_getElem? e)) h2
 | lose m=>
  simp only [Vbpoak.step];split
  ·exact g
  ·cases e:s.msgs[m.toNat]? with
   | none=>exact g
   | some x=>
    refine g.V2 rfl fun y hy=>?_;rcases List.mem_or_eq_of_mem_set hy with h | h
    ·exact g.msgs y h
    ·rw [h];exact (g.msgs x (List.mem_of_getElem? e)).gone
 | pay p n c=>
  simp only [Vbpoak.step];refine ref fun e=>?_;rw [Jh] at e;have h1:=Uc.mp (e _ List.mem_cons_self);cases e2:payable (officeAt s p.toNat).journal n.toNat with
  | none=>exact g
  | some r=>
   simp only [];split
   ·exact g
   ·split
    ·exact g
    ·obtain ⟨a,b,c',_,hpd⟩:=Yam e2;exact g.act _ h1.2.2 rfl ⟨nofun,nofun,nofun,nofun,fun _ _=>Kas a b c' rfl,nofun,fun _=> .inr (.inl rfl),nofun,nofun,nofun,nofun,fun _ _=>⟨hpd,r,g.Ja9 a b c' rfl,rfl⟩⟩
 | giveUp p n=>
  simp only [Vbpoak.step];refine ref fun e=>?_;rw [Jh] at e;have h1:=Uc.mp (e _ List.mem_cons_self);cases e2:payable (officeAt s p.toNat).journal n.toNat with
  | none=>exact g
  | some r=>
   obtain ⟨a,b,c',_,hpd⟩:=Yam e2;have g1:=g.put (o:=p.toNat) (r:=⟨9,n.toNat,r.g,0,0,0,0⟩) h1.2.2 (by show (9:Nat)≠2;decide) Vbk;have K:=vU s p.toNat ⟨9,n.toNat,r.g,0,0,0,0⟩ h1.2.1;refine g1.send ⟨by rw [←K.1];exact h1.2.1,?_,nofun,nofun,fun _=>waC h1.2.1,nofun⟩;rw [←K.1];obtain ⟨q,hq,_⟩:=g.may p.toNat r a b;rw [c'] at hq;by_cases z:issuerOf n.toNat<s.offices.length
   ·exact z
   ·have:jn s (issuerOf n.toNat)= []:=by
     show (officeAt s _).journal= [];unfold officeAt;rw [List.getElem?_eq_none (by omega)];rfl
    rw [this] at hq;cases hq
 | query o n=>
  simp only [Vbpoak.step];refine ref fun e=>?_;rw [Jh] at e;have h1:=Uc.mp (e _ List.mem_cons_self);cases e2:standing (officeAt s o.toNat).journal n.toNat with
  | none=>exact g
  | some q=>
   simp only [];split
   ·exact g
   ·obtain ⟨hq,hk,hn⟩:=Xk e2;obtain ⟨⟨w,hw,ew⟩,hb⟩:=g.vD _ q hq hk;refine g.send ⟨h1.2.1,hb,nofun,nofun,nofun,fun _=>?_⟩;unfold issues at hw;have hd:=(List.mem_filter.mp hw);have hm:=vK hd.1;have:w.no∈((jn s o.toNat).filter fun r=>r.kind==2 && r.b==1).map (·.no):=List.mem_map.mpr ⟨w,List.mem_filter.mpr ⟨hm.1,by simp [hm.2];simpa using hd.2⟩,rfl⟩;rw [g.nos] at this;obtain ⟨k,_,ek⟩:=List.mem_map.mp this;show o.toNat=issuerOf n.toNat;unfold issuerOf;have hl:=g.len;have:=h1.2.1;rw [←hn,←ew,←ek];omega
 | tell p n gr=>
  simp only [Vbpoak.step];refine ref fun e=>?_;rw [Jh] at e;have h1:=Uc.mp (e _ List.mem_cons_self);have h2:=e (when_ (decide (s.offices.length≤issuerOf n.toNat)) (-5)) (by simp);rw [kC (by decide)] at h2;simp at h2;split
  ·exact g.send ⟨h1.2.1,h2,nofun,nofun,nofun,nofun⟩
  ·split
   ·rename_i hn;exact g.send ⟨h1.2.1,h2,nofun,nofun,fun _=>hn,nofun⟩
   ·exact g
 | refund o n c=>
  simp only [Vbpoak.step];refine ref fun e=>?_;rw [Jh] at e;have h1:=Uc.mp (e _ List.mem_cons_self);cases e2:issueOf (officeAt s o.toNat).journal n.toNat with
  | none=>exact g
  | some r=>
   simp only [];split
   ·exact g
   ·split
    ·exact g
    ·exact g.act _ h1.2.2 rfl ⟨nofun,nofun,nofun,nofun,nofun,fun _ _=>⟨r,Yn e2⟩,fun _=> .inr (.inr rfl),nofun,nofun,nofun,nofun,nofun⟩
 | cut o=>
  simp only [Vbpoak.step];refine ref fun e=>?_;have h1:=Uc.mp e;exact g.same h1.2.1 rfl nofun
 | count o=>
  simp only [Vbpoak.step];refine ref fun e=>?_;rw [Jh] at e;have h1:=qi.mp (e _ List.mem_cons_self);exact g.counted h1.2
 | round=>exact g.oneRound.1
 | office o=>
  simp only [Vbpoak.step];exact ref fun _=>g
 | order n=>
  simp only [Vbpoak.step];split
  ·exact g
  ·split
   ·exact g
   ·split<;>exact g
 | claim p n=>
  simp only [Vbpoak.step];exact ref fun _=>g
 | msg m=>
  simp only [Vbpoak.step];split
  ·exact g
  ·split<;>exact g
 | net=>exact g
 | sums=>exact g
end Mo
namespace Mo
open Vbpoak
theorem WW(j:List Rec)(n:Nat):issueOf j n=(issues j).find? fun r=>r.no==n:=by
 unfold issueOf issues;rw [List.find?_filter]
 congr 1
 funext r
 cases r.b==1<;>cases r.no==n<;>rfl
theorem uaZ{s:State}(g:Good s)(fee o:Nat):((zh fee (jn s o)).map (·.1)).Nodup:=by
 rw [JaC];have sub:((issues (jn s o)).map (·.no)).Sublist (((jn s o).filter fun r=>r.kind==2 && r.b==1).map (·.no)):=by
  refine List.Sublist.map _ ?_;unfold issues;have:=(J2 (jn s o)).filter fun r=>r.b==1;rw [List.filter_filter] at this;have e:(fun r:Rec=>r.b==1 && r.kind==2)=fun r:Rec=>r.kind==2 && r.b==1:=by
   funext r
   exact Bool.and_comm _ _
  rw [e] at this;exact this
 refine List.Nodup.sublist sub ?_;rw [g.nos];rw [List.nodup_iff_pairwise_ne,List.pairwise_map];exact List.Pairwise.imp (fun h=>by omega) List.nodup_range
def Uaf(gs:List G):Option G:=match gs.getLast? with
 | none=>none
 | some g=>if g.back=true then none else some g
theorem qaL(j:List Rec)(n:Nat):Uaf (Qk j n)=(standing j n).map (gOf j):=by
 unfold Uaf standing Qk;rw [List.getLast?_map];cases e:(grants j n).getLast? with
 | none=>rfl
 | some r=>
  have hn:r.no=n:=(yr.mp (List.mem_of_getLast? e)).2.2;simp only [Option.map_some];have hb:(gOf j r).back=j.any fun q=>q.kind==6 && (q.no==n && q.g==r.g):=by
   show yl j r.no r.g=_;rw [hn];rfl
  rw [hb];split<;>rfl
theorem xaQ{j:List Rec}{n:Nat}{q:Rec}(h:standing j n=some q):gOf j q=⟨q.g,q.b,q.d,false⟩:=by
 have hn:=(Xk h).2.2;unfold standing at h;cases e:(grants j n).getLast? with
 | none=>rw [e] at h;cases h
 | some r=>
  rw [e] at h;simp only [] at h;split at h
  ·cases h
  ·rename_i hb;have:r=q:=Option.some.inj h;subst this;unfold gOf yl;rw [hn];simp only [G.mk.injEq,true_and];simpa using hb
theorem JaQ{s:State}(g:Good s)(p n:Nat):((Zk (jn s p)).filter fun x=>x.1.1==n && x.2.known).map (fun x=>(x.1.2,x.2))=((jn s p).filter fun r=>r.kind==8 && r.no==n).map fun r=>(r.g,⟨r.a,r.d,true,paid (jn s p) n r.g,never (jn s p) n r.g⟩):=by
 have h1:(Zk (jn s p)).filter (fun x=>x.1.1==n && x.2.known)=(((keysOf (jn s p)).filter fun k=>(mayOf (jn s p) k.1 k.2).isSome).filter fun k=>k.1==n).map fun k=>(k,Zo (jn s p) k):=by
  unfold Zk;rw [List.filter_map,List.filter_filter];rfl
 rw [h1,g.known,List.filter_map,List.map_map,List.map_map,List.filter_filter];have h2:(fun r:Rec=>r.no==n && r.kind==8)=fun r=>r.kind==8 && r.no==n:=by
  funext r
  exact Bool.and_comm _ _
 show List.map _ (List.filter (fun r:Rec=>r.no==n && r.kind==8) (jn s p))=_;rw [h2];apply List.map_congr_left;intro r hr;rw [List.mem_filter] at hr;have hk:=hr.2;simp at hk;have hm:mayOf (jn s p) r.no r.g=some r:=by
  unfold mayOf;cases e:(jn s p).find? fun q=>q.kind==8 && (q.no==r.no && q.g==r.g) with
  | none=>
   rw [List.find?_eq_none] at e;exact absurd (by simp [hk.1]) (e r hr.1)
  | some q=>
   have hq:=List.find?_some e;simp at hq;have hq1:=List.mem_of_find?_eq_some e;have nd:=g.zaJ p;have i1:q∈(jn s p).filter fun r=>r.kind==8:=List.mem_filter.mpr ⟨hq1,by simp [hq.1]⟩
   have i2:r∈(jn s p).filter fun r=>r.kind==8:=List.mem_filter.mpr ⟨hr.1,by simp [hk.1]⟩
   obtain ⟨a,ha⟩:=List.getElem?_of_mem i1;obtain ⟨b,hb⟩:=List.getElem?_of_mem i2;have ea:(((jn s p).filter fun r=>r.kind==8).map fun r=>(r.no,r.g))[a]? =some (r.no,r.g):=by rw [List.getElem?_map,ha];simp [hq.2.1,hq.2.2]
   have eb:(((jn s p).filter fun r=>r.kind==8).map fun r=>(r.no,r.g))[b]? =some (r.no,r.g):=by rw [List.getElem?_map,hb];rfl
   have:a=b:=by
    obtain ⟨l1,e1⟩:=List.getElem?_eq_some_iff.mp ea;obtain ⟨l2,e2⟩:=List.getElem?_eq_some_iff.mp eb;exact (List.getElem_inj nd).mp (e1.trans e2.symm)
   subst this;exact congrArg some (Option.some.inj (ha.symm.trans hb))
 show (r.g,Zo (jn s p) (r.no,r.g))=_;unfold Zo;simp only [];rw [hm,hk.2];rfl
end Mo
namespace Mo
open Vbpoak
section
variable{α:Type}{Q:List α→Prop}
theorem al0(h:Q []):∀a:List α,a.length=0→Q a
 | [],_=>h
theorem al1(h:∀x,Q [x]):∀a:List α,a.length=1→Q a
 | x::a,e=>al0 (Q:=fun a=>Q (x::a)) (h x) a (Nat.succ.inj e)
theorem al2(h:∀x y,Q [x,y]):∀a:List α,a.length=2→Q a
 | x::a,e=>al1 (Q:=fun a=>Q (x::a)) (h x) a (Nat.succ.inj e)
theorem al3(h:∀x y z,Q [x,y,z]):∀a:List α,a.length=3→Q a
 | x::a,e=>al2 (Q:=fun a=>Q (x::a)) (h x) a (Nat.succ.inj e)
theorem al4(h:∀x y z u,Q [x,y,z,u]):∀a:List α,a.length=4→Q a
 | x::a,e=>al3 (Q:=fun a=>Q (x::a)) (h x) a (Nat.succ.inj e)
theorem al5(h:∀x y z u v,Q [x,y,z,u,v]):∀a:List α,a.length=5→Q a
 | x::a,e=>al4 (Q:=fun a=>Q (x::a)) (h x) a (Nat.succ.inj e)
theorem al6(h:∀x y z u v w,Q [x,y,z,u,v,w]):∀a:List α,a.length=6→Q a
 | x::a,e=>al5 (Q:=fun a=>Q (x::a)) (h x) a (Nat.succ.inj e)
theorem al7(h:∀x y z u v w p,Q [x,y,z,u,v,w,p]):∀a:List α,a.length=7→Q a
 | x::a,e=>al6 (Q:=fun a=>Q (x::a)) (h x) a (Nat.succ.inj e)
theorem al8(h:∀x y z u v w p q,Q [x,y,z,u,v,w,p,q]):∀a:List α,a.length=8→Q a
 | x::a,e=>al7 (Q:=fun a=>Q (x::a)) (h x) a (Nat.succ.inj e)
end
theorem Qp{c:Prop} [Decidable c] {α:Type}{x y z:α}{G:Prop}(h:(if c then x else y)=z)(h1:c→x=z→G)(h2:y=z→G):G:=by
 by_cases k:c
 ·rw [if_pos k] at h;exact h1 k h
 ·rw [if_neg k] at h;exact h2 h
theorem UaK{Q:Int→Nat→Nat→Prop}{p:Int}{n k:Nat}(h:PyVbpoak.shape p=some (n,k))(h0:Q 0 4 0)(h1:Q 1 1 0)(h2:Q 2 2 0)(h3:Q 3 2 0)(h4:Q 4 4 0)(h5:Q 5 3 0)(h6:Q 6 1 0)(h7:Q 7 1 0)(h8:Q 8 3 0)(h9:Q 9 2 0)(h10:Q 10 2 0)(h11:Q 11 3 0)(h12:Q 12 3 0)(h13:Q 13 1 0)(h14:Q 14 1 0)(h15:Q 15 0 0)(h16:Q 16 1 0)(h17:Q 17 1 0)(h18:Q 18 2 0)(h19:Q 19 1 0)(h20:Q 20 0 0)(h21:Q 21 0 0):Q p n k:=by
 unfold PyVbpoak.shape at h;refine Qp h (fun e h=>by subst e;cases h;exact h0) fun h=>?_
 refine Qp h (fun e h=>by subst e;cases h;exact h1) fun h=>?_
 refine Qp h (fun e h=>by subst e;cases h;exact h2) fun h=>?_
 refine Qp h (fun e h=>by subst e;cases h;exact h3) fun h=>?_
 refine Qp h (fun e h=>by subst e;cases h;exact h4) fun h=>?_
 refine Qp h (fun e h=>by subst e;cases h;exact h5) fun h=>?_
 refine Qp h (fun e h=>by subst e;cases h;exact h6) fun h=>?_
 refine Qp h (fun e h=>by subst e;cases h;exact h7) fun h=>?_
 refine Qp h (fun e h=>by subst e;cases h;exact h8) fun h=>?_
 refine Qp h (fun e h=>by subst e;cases h;exact h9) fun h=>?_
 refine Qp h (fun e h=>by subst e;cases h;exact h10) fun h=>?_
 refine Qp h (fun e h=>by subst e;cases h;exact h11) fun h=>?_
 refine Qp h (fun e h=>by subst e;cases h;exact h12) fun h=>?_
 refine Qp h (fun e h=>by subst e;cases h;exact h13) fun h=>?_
 refine Qp h (fun e h=>by subst e;cases h;exact h14) fun h=>?_
 refine Qp h (fun e h=>by subst e;cases h;exact h15) fun h=>?_
 refine Qp h (fun e h=>by subst e;cases h;exact h16) fun h=>?_
 refine Qp h (fun e h=>by subst e;cases h;exact h17) fun h=>?_
 refine Qp h (fun e h=>by subst e;cases h;exact h18) fun h=>?_
 refine Qp h (fun e h=>by subst e;cases h;exact h19) fun h=>?_
 refine Qp h (fun e h=>by subst e;cases h;exact h20) fun h=>?_
 refine Qp h (fun e h=>by subst e;cases h;exact h21) fun h=>?_
 cases h
theorem uaS{p:Int}{n k:Nat}(h:PyVbpoak.shape p=some (n,k)):k=0:=UaK (Q:=fun _ _ k=>k=0) h rfl rfl rfl rfl rfl rfl rfl rfl rfl rfl rfl rfl rfl rfl rfl rfl rfl rfl rfl rfl rfl rfl
theorem Ya0{Q:List Int→Prop}{p:Int}{a:List Int}(h:PyVbpoak.shape p=some (a.length,0))(h0:∀x y z u,Q [0,x,y,z,u])(h1:∀x,Q [1,x])(h2:∀x y,Q [2,x,y])(h3:∀x y,Q [3,x,y])(h4:∀x y z u,Q [4,x,y,z,u])(h5:∀x y z,Q [5,x,y,z])(h6:∀x,Q [6,x])(h7:∀x,Q [7,x])(h8:∀x y z,Q [8,x,y,z])(h9:∀x y,Q [9,x,y])(h10:∀x y,Q [10,x,y])(h11:∀x y z,Q [11,x,y,z])(h12:∀x y z,Q [12,x,y,z])(h13:∀x,Q [13,x])(h14:∀x,Q [14,x])(h15:Q [15])(h16:∀x,Q [16,x])(h17:∀x,Q [17,x])(h18:∀x y,Q [18,x,y])(h19:∀x,Q [19,x])(h20:Q [20])(h21:Q [21]):Q (p::a):=
 UaK (Q:=fun p n _=>∀a:List Int,a.length=n→Q (p::a)) h (al4 h0) (al1 h1) (al2 h2) (al2 h3) (al4 h4) (al3 h5) (al1 h6) (al1 h7) (al3 h8) (al2 h9) (al2 h10) (al3 h11) (al3 h12) (al1 h13) (al1 h14) (al0 h15) (al1 h16) (al1 h17) (al2 h18) (al1 h19) (al0 h20) (al0 h21) a rfl
theorem wa3{p:Int}{a:List Int}(h:PyVbpoak.shape p=some (a.length,0)):PyVbpoak.whole [p::a]= [p::a]:=
 Ya0 (Q:=fun c=>PyVbpoak.whole [c]= [c]) h (fun _ _ _ _=>rfl) (fun _=>rfl) (fun _ _=>rfl) (fun _ _=>rfl) (fun _ _ _ _=>rfl) (fun _ _ _=>rfl) (fun _=>rfl) (fun _=>rfl) (fun _ _ _=>rfl) (fun _ _=>rfl) (fun _ _=>rfl) (fun _ _ _=>rfl) (fun _ _ _=>rfl) (fun _=>rfl) (fun _=>rfl) rfl (fun _=>rfl) (fun _=>rfl) (fun _ _=>rfl) (fun _=>rfl) rfl rfl
def Ok1(c:List Int):Prop:=∃p a,c=p::a∧PyVbpoak.shape p=some (a.length,0)∧VbpoakNeutral.asked1 [c]=true
def ja6:State→List (List Int)→List (List Int)
 | _, []=> []
 | s,c::r=>(VbpoakNeutral.step s [c]).2::ja6 (VbpoakNeutral.step s [c]).1 r
theorem ZaV:∀(s:State) (cs:List (List Int)),PyFlat.played VbpoakNeutral.step s (cs.map fun c=> [c])=ja6 s cs
 | _, []=>rfl
 | s,c::r=>congrArg _ (ZaV _ r)
theorem XaK:∀cs:List (List Int),PyFlat.put (cs.map fun c=> [c])=cs.flatten
 | []=>rfl
 | c::r=>by
  show PyFlat.put1 [c]++PyFlat.put (r.map fun c=> [c])=c++r.flatten;rw [XaK r];show (c++ [])++_=_;rw [List.append_nil]
theorem xaC:∀{cs:List (List (List Int))},(∀c∈cs,PyFlat.okCall PyVbpoak.shape c)→∃ds:List (List Int),cs=ds.map (fun c=> [c])∧∀d∈ds,∃p a,d=p::a∧PyVbpoak.shape p=some (a.length,0)
 | [],_=>⟨[],rfl,nofun⟩
 | c::r,h=>by
  obtain ⟨ds,e,hd⟩:=xaC (cs:=r) fun x hx=>h x (List.mem_cons_of_mem _ hx);obtain ⟨p,a,xs,ec,hs⟩:=h c List.mem_cons_self;have h0:=uaS hs;have:xs= []:=List.length_eq_zero_iff.mp h0;subst this;subst ec;refine ⟨(p::a)::ds,by rw [e];rfl,?_⟩;intro d uQ;rcases List.mem_cons.mp uQ with rfl | uQ
  ·exact ⟨p,a,rfl,hs⟩
  ·exact hd d uQ
theorem qaT{l:List Int}(h:PyVbpoak.answers_asked l=true):∃cs:List (List Int),l=cs.flatten∧(∀c∈cs,Ok1 c)∧cs.length≤400∧PyVbpoak.answers l=PyFlat.told (ja6 start cs):=by
 unfold PyVbpoak.answers_asked at h;unfold PyVbpoak.answers;unfold PyVbpoak.calls at h⊢;cases e:PyFlat.calls PyVbpoak.shape l.length l with
 | none=>rw [e] at h;cases h
 | some cs=>
  rw [e] at h;obtain ⟨hl,Xd⟩:=PyFlat.put_calls _ _ _ e;obtain ⟨ds,ed,hd⟩:=xaC Xd;simp only [] at h⊢;subst ed;have hw:(ds.map fun c=> [c]).map PyVbpoak.whole=ds.map fun c=> [c]:=by
   rw [List.map_map];refine List.map_congr_left fun c hc=>?_;obtain ⟨p,a,rfl,hs⟩:=hd c hc;exact wa3 hs
  rw [hw] at h⊢;rw [Bool.and_eq_true] at h;have h1:=h.1;unfold PyFlat.atMost at h1;have h2:=h.2;unfold VbpoakNeutral.asked at h2;rw [Bool.and_eq_true] at h2;have h3:=h2.1;rw [List.all_eq_true] at h3;refine ⟨ds,by rw [hl,XaK],?_,by simpa using h1,congrArg _ (ZaV _ _)⟩;intro c hc;obtain ⟨p,a,e1,e2⟩:=hd c hc;exact ⟨p,a,e1,e2,h3 [c] (List.mem_map.mpr ⟨c,hc,rfl⟩)⟩
end Mo
namespace Mo
open Vbpoak
structure MG where
 num:Int
 jf:Int
 uk:Int
 back:Bool
structure Qe where
 vb:Int
 key:Int
 ood:Int
 gs:List MG
 closed:Bool
 refunded:Bool
structure Jn where
 vb:Int
 uk:Int
 known:Bool
 paid:Bool
 YX:Bool
def cl0:Jn:=⟨0,0,false,false,false⟩
structure Je where
 kind:Int
 order:Int
 yc:Int
 Yg:Int
 receiver:Int
 VD:Int
 uk:Int
 gone:Bool
structure Xj where
 kind:Nat
 no:Int
 Qy:Int
 g:Int
inductive JR where
 | bank (n:Int) | begun (a:Xj) | done (a:Xj) | other
structure Mw where
 time:Int
 fee:Int
 life:Int
 lease:Int
 k:Nat
 ms:List Je
 up:Nat→Bool
 off:Nat→Int
 drawer:Nat→Int
 jr:Nat→List JR
 begun:Nat→Int
 ub:Nat→List Int
 Kc:Nat→List (Int×Int)
 ord:Nat→Int→Option Qe
 cl:Nat→Int→Int→Option Jn
def ye{α:Type}(f:Nat→α)(i:Nat)(v:α):Nat→α:=fun j=>if j=i then v else f j
theorem Ub{α:Type}(f:Nat→α)(i:Nat)(v:α):ye f i v i=v:=if_pos rfl
theorem Xe{α:Type}{f:Nat→α}{i j:Nat}{v:α}(h:j≠i):ye f i v j=f j:=if_neg h
def mw0:Mw:=⟨0,0,0,0,0, [],fun _=>true,fun _=>0,fun _=>0,fun _=> [],fun _=>0,fun _=> [],fun _=> [],fun _ _=>none,fun _ _ _=>none⟩
def Zz(n fee life lease:Int):Mw:={mw0 with k:=n.toNat,fee:=fee,life:=life,lease:=lease}
def Xc(o:Qe):Option MG:=match o.gs.getLast? with
 | none=>none
 | some g=>if g.back=true then none else some g
def zd(M:Mw)(i:Nat):Int:=M.time+M.off i
def UaG(M:Mw):Int:=((List.range M.k).map M.drawer).sum
def zJ(M:Mw):Int:=((List.range M.k).map fun i=>((M.jr i).length:Int)).sum
def zq:List JR→List Int
 | []=> []
 | .bank n::r=>n::zq r
 | _::r=>zq r
def Yv:List JR→List Xj
 | []=> []
 | .done a::r=>a::Yv r
 | _::r=>Yv r
def YD(j:List JR):Int:=(zq j).sum
def v3(j:List JR)(k:Nat):Int:=(((Yv j).filter fun a=>a.kind==k).map (·.Qy)).sum
def Yp(j:List JR):Int:=YD j+((Yv j).map (·.Qy)).sum
def Wy(M:Mw)(i:Nat)(n:Int):Option Qe:=if n∈M.ub i then M.ord i n else none
def VaF(M:Mw)(i:Nat)(n g:Int):Option Jn:=if (n,g)∈M.Kc i then M.cl i n g else none
def Yf(M:Mw)(i:Nat)(n g:Int):Jn:=(VaF M i n g).getD cl0
def qd(M:Mw)(i:Nat)(n:Int):List (Int×Jn):=((M.Kc i).filter fun k=>k.1==n && (Yf M i k.1 k.2).known).map fun k=>(k.2,Yf M i k.1 k.2)
def UU(c:Jn):Bool:=c.known && (!c.paid && !c.YX)
def Kg(M:Mw)(i:Nat)(n:Int):Option (Int×Jn):=((qd M i n).filter fun p=>UU p.2).getLast?
def jc(M:Mw)(i:Nat)(r:JR):Mw:={M with jr:=ye M.jr i (M.jr i++ [r])}
def ug(M:Mw)(i:Nat)(n:Int)(o:Qe):Mw:={M with ord:=fun j m=>if j=i∧m=n then some o else M.ord j m}
def Ze(M:Mw)(i:Nat)(n:Int)(f:Qe→Qe):Mw:={M with ord:=fun j m=>if j=i∧m=n then (M.ord i n).map f else M.ord j m}
def Ubb(M:Mw)(i:Nat)(n g:Int)(c:Jn):Mw:={M with cl:=fun j m h=>if j=i∧m=n∧h=g then some c else M.cl j m h}
def ZG(M:Mw)(i:Nat)(n g:Int)(f:Jn→Jn):Mw:={M with cl:=fun j m h=>if j=i∧m=n∧h=g then (M.cl i n g).map f else M.cl j m h}
def qg(M:Mw)(i:Nat)(b:Bool):Mw:={M with up:=ye M.up i b}
def qj(M:Mw)(i:Nat)(z:Int):Mw:={M with drawer:=ye M.drawer i (M.drawer i+z)}
def kaA(M:Mw)(i:Nat)(n:Int):Mw:=qj (jc M i (.bank n)) i n
def Xf(M:Mw)(i:Nat)(a:Xj):Mw:={jc M i (.begun a) with begun:=if a.kind=1 then ye M.begun i (M.begun i+1) else M.begun}
def j5{α:Type} [DecidableEq α] (ks:List α)(k:α):List α:=if k∈ks then ks else ks++ [k]
def Qm(M:Mw)(i:Nat)(a:Xj):Mw:=
 if a.kind=1 then {jc M i (.done a) with ub:=ye M.ub i (j5 (M.ub i) a.no)}
 else if a.kind=2 then ZG (jc M i (.done a)) i a.no a.g fun c=>{c with paid:=true}
 else Ze (jc M i (.done a)) i a.no fun o=>{o with refunded:=true}
def Ja6(M:Mw)(i:Nat):Mw:=jc M i .other
def Xp(M:Mw)(i:Nat)(n jf uk:Int):Mw:=Ze (jc M i .other) i n fun o=>{o with gs:=o.gs++ [⟨o.gs.length+1,jf,uk,false⟩]}
def Qao(M:Mw)(i:Nat)(n:Int):Mw:=Ze (jc M i .other) i n fun o=>{o with closed:=true}
def Vj(gs:List MG):List MG:=match gs.getLast? with
 | none=>gs
 | some g=>gs.dropLast++ [{g with back:=true}]
def WaP(M:Mw)(i:Nat)(n:Int):Mw:=Ze (jc M i .other) i n fun o=>{o with gs:=Vj o.gs}
def yb(M:Mw)(i:Nat)(n g:Int):Mw:=if (n,g)∈M.Kc i then M else {Ubb M i n g cl0 with Kc:=ye M.Kc i (M.Kc i++ [(n,g)])}
def Yap(M:Mw)(i:Nat)(n g vb uk:Int):Mw:=ZG (yb (jc M i .other) i n g) i n g fun c=>{c with vb:=vb,uk:=uk,known:=true}
def xn(M:Mw)(i:Nat)(n g:Int):Mw:=ZG (yb (jc M i .other) i n g) i n g fun c=>{c with YX:=true}
def vd(M:Mw)(i:Nat)(a:Xj)(cut:Int):Mw:=
 if cut=3 then qg M i false
 else if cut=1 then Xf (qg M i false) i a
 else if cut=2 then qj (Xf (qg M i false) i a) i a.Qy
 else qg (Qm (qj (Xf (qg M i false) i a) i a.Qy) i a) i true
def yd(M:Mw)(i:Nat):Mw×Int:=match (M.jr i).getLast? with
 | some (.begun a)=>if M.drawer i=Yp (M.jr i) then (Ja6 (qg M i true) i,4) else (Qm (qg M i true) i a,3)
 | _=>(qg M i true,0)
def zG(M:Mw)(m:Je):Mw:={M with ms:=M.ms++ [m]}
def wg(m:Je)(kind:Int):Je:=⟨kind,m.order,m.yc,m.receiver,m.Yg,0,0,false⟩
def jC(M:Mw)(m:Je):Mw×Option Je:=
 let i:=m.receiver.toNat
 match Wy M i m.order with
 | none=>(M,some (wg m 3))
 | some o=>
  if o.key≠m.VD∨o.refunded=true∨o.closed=true then (M,some (wg m 3))
  else match Xc o with
   | none=>if o.ood≤zd M i then (M,some (wg m 3))
    else (Xp M i m.order m.Yg (zd M i+M.lease),some ⟨2,m.order,o.gs.length+1,m.receiver,m.Yg,o.vb,zd M i+M.lease,false⟩)
   | some g=>if g.jf≠m.Yg then (M,some (wg m 3)) else (M,some ⟨2,m.order,g.num,m.receiver,m.Yg,o.vb,g.uk,false⟩)
def XG(M:Mw)(m:Je):Mw:=
 let c:=Yf M m.receiver.toNat m.order m.yc
 if c.known=false∧c.YX=false then Yap M m.receiver.toNat m.order m.yc m.VD m.uk else M
def V9(M:Mw)(m:Je):Bool:=match Wy M m.receiver.toNat m.order with
 | none=>false
 | some o=>if o.closed=true then false else match Xc o with
  | none=>false
  | some g=>decide (g.num=m.yc∧g.jf=m.Yg)
def WC(M:Mw)(m:Je):Mw:=if V9 M m=true then Qao M m.receiver.toNat m.order else M
def XC(M:Mw)(m:Je):Mw:=if V9 M m=true then WaP M m.receiver.toNat m.order else M
def Ul(M:Mw)(m:Je):Mw×Option Je:=
 let c:=Yf M m.receiver.toNat m.order m.yc
 if c.paid=true then (M,some (wg m 4))
 else if c.YX=true then (M,some (wg m 5))
 else if c.known=true∧zd M m.receiver.toNat<c.uk then (M,none)
 else (xn M m.receiver.toNat m.order m.yc,some (wg m 5))
def xc(M:Mw)(m:Je):Mw×Option Je:=
 if m.kind=1 then jC M m
 else if m.kind=2 then (XG M m,none)
 else if m.kind=4 then (WC M m,none)
 else if m.kind=5 then (XC M m,none)
 else if m.kind=6 then Ul M m
 else (M,none)
def Wb(a b:Int):Int:=if a=0 then b else a
def outI(n lo hi:Int):Int:=if lo≤n∧n≤hi then 0 else-12
def jh(M:Mw)(o:Int):Int:=if 0≤o∧o<(M.k:Int) then 0 else-5
def WS(M:Mw)(o:Int):Int:=if M.up o.toNat=true then 0 else-6
def uj(M:Mw)(o:Int):Int:=Wb (jh M o) (WS M o)
def vZ(M:Mw)(m:Int):Int:=if 0≤m∧m<(M.ms.length:Int) then 0 else-5
def uy(M:Mw):Int:=if 300≤M.ms.length then-9 else 0
def Zan(M:Mw)(z:Int):Int:=if 1000000000<UaG M+z then-8 else 0
def Zax(M:Mw)(o:Int):Int:=if 100≤M.begun o.toNat then-9 else 0
def Jr(n:Int):Int:=n % 10
def kU(M:Mw)(n f l k:Int):Mw×List Int:=
 let r:=Wb (outI n 1 5) (Wb (outI f 0 1000) (Wb (outI l 1 1000000) (outI k 1 1000000)))
 if r=0 then (Zz n f l k, [0]) else (M, [r])
def K9(M:Mw)(n:Int):Mw×List Int:=
 let r:=Wb (outI n 0 1000000) (outI (M.time+n) 0 1000000000)
 if r=0 then ({M with time:=M.time+n}, [M.time+n]) else (M, [r])
def jT(M:Mw)(o z:Int):Mw×List Int:=
 let r:=Wb (jh M o) (outI z (-100000) 100000)
 if r=0 then ({M with off:=ye M.off o.toNat z}, [0,M.time+z]) else (M, [r])
def X9(M:Mw)(o n:Int):Mw×List Int:=
 let r:=Wb (uj M o) (Wb (outI n 1 1000000000) (Zan M n))
 if r=0 then (kaA M o.toNat n, [M.drawer o.toNat+n]) else (M, [r])
def QU(M:Mw)(o vb key cut:Int):Mw×List Int:=
 let r:=Wb (uj M o) (Wb (outI vb 1 1000000) (Wb (outI key 0 9999) (Wb (outI cut 0 3) (Wb (Zan M (vb+M.fee)) (Zax M o)))))
 if r=0 then
  let n:=(M.begun o.toNat+1)*10+o
  (vd (ug M o.toNat n ⟨vb,key,zd M o.toNat+M.life, [],false,false⟩) o.toNat ⟨1,n,vb+M.fee,0⟩ cut, [n])
 else (M, [r])
def qy(M:Mw)(p n key:Int):Mw×List Int:=
 let r:=Wb (uj M p) (Wb (outI n 0 100000) (Wb (outI key 0 9999) (Wb (jh M (Jr n)) (uy M))))
 if r=0 then (zG M ⟨1,n,0,p,Jr n,key,0,false⟩, [(M.ms.length:Int)]) else (M, [r])
def Ju(M:Mw)(m:Int):Mw×List Int:=
 if 0≤m∧m<(M.ms.length:Int) then match M.ms[m.toNat]? with
  | none=>(M, [-5])
  | some x=>
   let r:=Wb (if x.gone=true then-4 else WS M x.receiver) (uy M)
   if r=0 then
    let t:=xc M x
    let w:Int:=((t.1.jr x.receiver.toNat).length:Int)- ((M.jr x.receiver.toNat).length:Int)
    match t.2 with
    | none=>(t.1, [0,w,-1])
    | some a=>(zG t.1 a, [1,w,(t.1.ms.length:Int)])
   else (M, [r])
 else (M, [-5])
def Y3(M:Mw)(m:Int):Mw×List Int:=
 if 0≤m∧m<(M.ms.length:Int) then ({M with ms:=M.ms.modify m.toNat fun x=>{x with gone:=true}}, [0]) else (M, [-5])
def Kad(M:Mw)(p n:Int):Int:=match Kg M p.toNat n with
 | none=> -3
 | some c=>if c.2.uk≤zd M p.toNat then-4 else if M.drawer p.toNat<c.2.vb then-7 else 0
def Wav(M:Mw)(p n cut:Int):Mw×List Int:=
 let r:=Wb (uj M p) (Wb (outI n 0 100000) (Wb (outI cut 0 3) (Kad M p n)))
 if r=0 then match Kg M p.toNat n with
  | none=>(M, [r])
  | some c=>(vd M p.toNat ⟨2,n,-c.2.vb,c.1⟩ cut, [c.2.vb])
 else (M, [r])
def WG(M:Mw)(p n:Int):Mw×List Int:=
 let r:=Wb (uj M p) (Wb (outI n 0 100000) (Wb (uy M) (if (Kg M p.toNat n).isSome=true then 0 else-3)))
 if r=0 then match Kg M p.toNat n with
  | none=>(M, [r])
  | some c=>(zG (xn M p.toNat n c.1) ⟨5,n,c.1,p,Jr n,0,0,false⟩, [(M.ms.length:Int)])
 else (M, [r])
def yo(M:Mw)(i:Nat)(n:Int):Option MG:=match Wy M i n with
 | none=>none
 | some o=>if o.closed=true then none else Xc o
def YK(M:Mw)(o n:Int):Int:=if (yo M o.toNat n).isSome=true then 0 else-3
def ud(o n:Int)(g:MG):Je:=⟨6,n,g.num,o,g.jf,0,0,false⟩
def jU(M:Mw)(o n:Int):Mw×List Int:=
 let r:=Wb (uj M o) (Wb (outI n 0 100000) (Wb (uy M) (YK M o n)))
 if r=0 then match yo M o.toNat n with
  | none=>(M, [r])
  | some g=>(zG M (ud o n g), [(M.ms.length:Int)])
 else (M, [r])
def yan(M:Mw)(p n g:Int):Int:=if (Yf M p.toNat n g).paid=true∨(Yf M p.toNat n g).YX=true then 0 else-3
def J9(M:Mw)(p n g:Int):Mw×List Int:=
 let r:=Wb (uj M p) (Wb (outI n 0 100000) (Wb (outI g 0 1000) (Wb (jh M (Jr n)) (Wb (uy M) (yan M p n g)))))
 if r=0 then
  let kind:Int:=if (Yf M p.toNat n g).paid=true then 4 else 5
  (zG M ⟨kind,n,g,p,Jr n,0,0,false⟩, [(M.ms.length:Int),kind])
 else (M, [r])
def Jad(M:Mw)(o n:Int):Int:=match Wy M o.toNat n with
 | none=> -3
 | some x=>if x.refunded=true∨x.closed=true∨(Xc x).isSome=true then-4 else if M.drawer o.toNat<x.vb then-7 else 0
def QH(M:Mw)(o n cut:Int):Mw×List Int:=
 let r:=Wb (uj M o) (Wb (outI n 0 100000) (Wb (outI cut 0 3) (Jad M o n)))
 if r=0 then match Wy M o.toNat n with
  | none=>(M, [r])
  | some x=>(vd M o.toNat ⟨3,n,-x.vb,0⟩ cut, [x.vb])
 else (M, [r])
def Xav(M:Mw)(o:Int):Mw×List Int:=if uj M o=0 then (qg M o.toNat false, [0]) else (M, [uj M o])
def countM(M:Mw)(o:Int):Mw×List Int:=
 let r:=Wb (jh M o) (if M.up o.toNat=true then-4 else 0)
 if r=0 then
  let t:=yd M o.toNat
  (t.1, [t.2,t.1.drawer o.toNat,Yp (t.1.jr o.toNat)])
 else (M, [r])
def wG(M:Mw)(o n:Int):Mw:=match yo M o.toNat n with
 | none=>M
 | some g=>if M.up o.toNat=false∨M.up g.jf.toNat=false then M
  else
   let t:=xc M (ud o n g)
   match t.2 with
   | none=>t.1
   | some a=>(xc t.1 a).1
def z0(M:Mw)(o:Nat):Mw:=(M.ub o).foldl (fun u n=>wG u (o:Int) n) M
def jZ(M:Mw):Mw×List Int:=
 let t:=(List.range M.k).foldl z0 M
 (t, [zJ t-zJ M])
def Ye(n:Int)(rows:List (List Int)):List Int:=n::(if rows.length=1 then rows.flatten else rows.flatMap fun r=>(r.length:Int)::r)
def b2(b:Bool):Int:=if b=true then 1 else 0
def zH(M:Mw)(o:Int):List Int:=if jh M o=0 then
  Ye (b2 (M.up o.toNat)) [[M.drawer o.toNat,Yp (M.jr o.toNat),zd M o.toNat,((M.jr o.toNat).length:Int)],M.ub o.toNat]
 else [jh M o]
def K0(o:Qe):Int:=if o.refunded=true then 4 else if o.closed=true then 3 else if (Xc o).isSome=true then 2 else 1
def Kj(o:Qe):List Int:=match Xc o with
 | none=> []
 | some g=> [g.jf,g.num,g.uk]
def ZT(M:Mw)(n:Int):List Int:=
 let r:=Wb (outI n 0 100000) (jh M (Jr n))
 if r=0 then match Wy M (Jr n).toNat n with
  | none=> [0]
  | some o=>Ye (K0 o) [[o.vb,o.ood,(o.gs.length:Int)],Kj o]
 else [r]
def kK(p:Int×Jn):List Int:= [p.1,p.2.vb,p.2.uk,b2 p.2.paid,b2 p.2.YX]
def yT(M:Mw)(p n:Int):List Int:=
 let r:=Wb (jh M p) (outI n 0 100000)
 if r=0 then Ye ((qd M p.toNat n).length:Int) ((qd M p.toNat n).map kK) else [r]
def Vau(M:Mw)(m:Int):List Int:=if 0≤m∧m<(M.ms.length:Int) then match M.ms[m.toNat]? with
  | none=> [-5]
  | some x=> [x.kind,x.order,x.yc,x.Yg,x.receiver,x.VD,x.uk,b2 x.gone]
 else [-5]
def yk(M:Mw)(o p:Nat):Int:=((((M.ub o).filterMap (M.ord o)).filter fun x=>x.closed && decide ((Xc x).map (·.jf)=some (p:Int))).map (·.vb)).sum
def Jl(M:Mw)(o p:Nat):Int:=(((M.Kc p).filter fun k=>(Yf M p k.1 k.2).paid && decide (Jr k.1=(o:Int))).map fun k=>(Yf M p k.1 k.2).vb).sum
def JU(M:Mw)(o:Nat):List Int:=(List.range M.k).flatMap fun p=> [yk M o p,Jl M o p]
def waD(M:Mw):List Int:=Ye (M.k:Int) ((List.range M.k).map (JU M))
def VS(M:Mw)(k:Nat):Int:=((List.range M.k).map fun i=>v3 (M.jr i) k).sum
def zan(M:Mw):List Int:= [UaG M,((List.range M.k).map fun i=>YD (M.jr i)).sum,VS M 1,-VS M 2,-VS M 3,(M.ms.length:Int)]
def qk(M:Mw):List Int→Mw×List Int
 | [0,n,f,l,k]=>kU M n f l k
 | [1,n]=>K9 M n
 | [2,o,z]=>jT M o z
 | [3,o,n]=>X9 M o n
 | [4,o,a,k,c]=>QU M o a k c
 | [5,p,n,k]=>qy M p n k
 | [6,m]=>Ju M m
 | [7,m]=>Y3 M m
 | [8,p,n,c]=>Wav M p n c
 | [9,p,n]=>WG M p n
 | [10,o,n]=>jU M o n
 | [11,p,n,g]=>J9 M p n g
 | [12,o,n,c]=>QH M o n c
 | [13,o]=>Xav M o
 | [14,o]=>countM M o
 | [15]=>jZ M
 | [16,o]=>(M,zH M o)
 | [17,n]=>(M,ZT M n)
 | [18,p,n]=>(M,yT M p n)
 | [19,m]=>(M,Vau M m)
 | [20]=>(M,waD M)
 | [21]=>(M,zan M)
 | _=>(M, [])
def Qan:Mw→List (List Int)→List (List Int)
 | _, []=> []
 | M,c::r=>(qk M c).2::Qan (qk M c).1 r
end Mo
namespace Mo
open Vbpoak
def gI(g:G):MG:=⟨g.num,g.jf,g.uk,g.back⟩
def Ym(o:Od):Qe:=⟨o.vb,o.key,o.ood,o.gs.map gI,o.closed,o.refunded⟩
def clI(c:Cl):Jn:=⟨c.vb,c.uk,c.known,c.paid,c.YX⟩
def Kk(m:Msg):Je:=⟨m.kind,m.no,m.g,m.from_,m.to,m.a,m.d,m.gone⟩
def xu(r:Rec):Xj:=⟨r.b,r.no,cashOf r,r.g⟩
def zP(k:Nat×Nat):Int×Int:=(k.1,k.2)
def qX(p:Option Rec)(r:Rec):JR:=
 if r.kind=1 then .bank r.a else if r.kind=2 then .begun (xu r) else if r.kind=3 then (match p with
  | some q=> .done (xu q)
  | none=> .other) else .other
def qaB(a:List JR×Option Rec)(r:Rec):List JR×Option Rec:=(a.1++ [qX a.2 r],if r.kind=2 then some r else none)
def jrs(j:List Rec):List JR:=(j.foldl qaB ([],none)).1
theorem ya5(j:List Rec):(j.foldl qaB ([],none)).2=pending j:=by
 induction j using snocInd with
 | h0=>rfl
 | h1 l x ih=>
  rw [List.foldl_append,Ug];rfl
theorem Yy(j:List Rec)(r:Rec):jrs (j++ [r])=jrs j++ [qX (pending j) r]:=by
 unfold jrs;rw [List.foldl_append];show (j.foldl qaB ([],none)).1++ [qX (j.foldl qaB ([],none)).2 r]=_;rw [ya5]
theorem kN(j:List Rec):(jrs j).length=j.length:=by
 induction j using snocInd with
 | h0=>rfl
 | h1 l x ih=>rw [Yy,List.length_append,List.length_append,ih];rfl
theorem Ja3{a b:Nat×Nat}(h:zP a=zP b):a=b:=by
 unfold zP at h;have h1:=(Prod.mk.inj h).1;have h2:=(Prod.mk.inj h).2;exact Prod.ext (by omega) (by omega)
theorem qaq(a b:List JR):zq (a++b)=zq a++zq b:=by
 induction a with
 | nil=>rfl
 | cons x r ih=>cases x<;>simp [zq,ih]
theorem vaG(a b:List JR):Yv (a++b)=Yv a++Yv b:=by
 induction a with
 | nil=>rfl
 | cons x r ih=>cases x<;>simp [Yv,ih]
theorem Vas(j:List Rec):zq (jrs j)=(j.filter fun r=>r.kind==1).map fun r=>(r.a:Int):=by
 induction j using snocInd with
 | h0=>rfl
 | h1 l x ih=>
  rw [Yy,qaq,ih,List.filter_append,List.map_append]
  congr 1
  unfold qX;by_cases h1:x.kind=1
  ·simp [h1,zq]
  ·have:(x.kind==1)=false:=by simpa using h1
   rw [if_neg h1,List.filter_cons,this];by_cases h2:x.kind=2
   ·rw [if_pos h2];rfl
   ·rw [if_neg h2];by_cases h3:x.kind=3
    ·rw [if_pos h3];cases pending l<;>rfl
    ·rw [if_neg h3];rfl
theorem QaE(j:List Rec):Yv (jrs j)=(doneActs j).map xu:=by
 induction j using snocInd with
 | h0=>rfl
 | h1 l x ih=>
  rw [Yy,vaG,ih,VI,List.map_append]
  congr 1
  unfold qX;by_cases h3:x.kind=3
  ·rw [if_neg (by omega),if_neg (by omega),if_pos h3];cases pending l with
   | none=>rfl
   | some q=>rw [UC h3];rfl
  ·rw [WM h3];by_cases h1:x.kind=1
   ·rw [if_pos h1];rfl
   ·rw [if_neg h1];by_cases h2:x.kind=2
    ·rw [if_pos h2];rfl
    ·rw [if_neg h2,if_neg h3];rfl
theorem WaB(l:List Int):sumInt l=l.sum:=by
 induction l with
 | nil=>rfl
 | cons a r ih=>rw [sumInt,ih,List.sum_cons]
theorem WaE(j:List Rec):Yp (jrs j)=book j:=by
 unfold Yp YD book;rw [Vas,QaE,WaB,WaB,List.map_map];rfl
theorem last_eq(j:List Rec):(match (jrs j).getLast? with | some (.begun a)=>some a | _=>none)=(pending j).map xu:=by
 induction j using snocInd with
 | h0=>rfl
 | h1 l x ih=>
  rw [Yy,List.getLast?_concat,Ug];unfold qX;by_cases h2:x.kind=2
  ·rw [if_neg (by omega),if_pos h2,if_pos h2];rfl
  ·by_cases h1:x.kind=1
   ·rw [if_pos h1,if_neg h2];rfl
   ·rw [if_neg h1,if_neg h2,if_neg h2];by_cases h3:x.kind=3
    ·rw [if_pos h3];cases pending l<;>rfl
    ·rw [if_neg h3];rfl
structure je(fee:Nat)(M:Mw)(i:Nat)(x:Office):Prop where
 up:M.up i=x.up
 off:M.off i=x.off
 drawer:M.drawer i=x.drawer
 jr:M.jr i=jrs x.journal
 begun:M.begun i=ze x.journal
 ub:M.ub i=(issues x.journal).map fun r=>(r.no:Int)
 Kc:M.Kc i=(keysOf x.journal).map zP
 ord:∀r,(r∈issues x.journal∨(pending x.journal=some r∧r.b=1))→M.ord i r.no=some (Ym (xg fee x.journal r))
 cl:∀k∈keysOf x.journal,M.cl i k.1 k.2=some (clI (Zo x.journal k))
structure Rel(M:Mw)(s:State):Prop where
 time:M.time=s.time
 fee:M.fee=s.fee
 life:M.life=s.life
 lease:M.lease=s.lease
 k:M.k=s.offices.length
 ms:M.ms=s.msgs.map Kk
 at_:∀i,i<s.offices.length→je s.fee M i (officeAt s i)
structure Zp(M M':Mw)(i:Nat):Prop where
 time:M'.time=M.time
 fee:M'.fee=M.fee
 life:M'.life=M.life
 lease:M'.lease=M.lease
 k:M'.k=M.k
 ms:M'.ms=M.ms
 up:∀j,j≠i→M'.up j=M.up j
 off:∀j,j≠i→M'.off j=M.off j
 drawer:∀j,j≠i→M'.drawer j=M.drawer j
 jr:∀j,j≠i→M'.jr j=M.jr j
 begun:∀j,j≠i→M'.begun j=M.begun j
 ub:∀j,j≠i→M'.ub j=M.ub j
 Kc:∀j,j≠i→M'.Kc j=M.Kc j
 ord:∀j n,j≠i→M'.ord j n=M.ord j n
 cl:∀j n g,j≠i→M'.cl j n g=M.cl j n g
theorem Zp.refl(M:Mw)(i:Nat):Zp M M i:=⟨rfl,rfl,rfl,rfl,rfl,rfl,fun _ _=>rfl,fun _ _=>rfl,fun _ _=>rfl,fun _ _=>rfl,fun _ _=>rfl,fun _ _=>rfl,fun _ _=>rfl,fun _ _ _=>rfl,fun _ _ _ _=>rfl⟩
theorem Zp.trans{M M1 M2:Mw}{i:Nat}(a:Zp M M1 i)(b:Zp M1 M2 i):Zp M M2 i:=
 ⟨b.time.trans a.time,b.fee.trans a.fee,b.life.trans a.life,b.lease.trans a.lease,b.k.trans a.k,b.ms.trans a.ms,fun j h=>(b.up j h).trans (a.up j h),fun j h=>(b.off j h).trans (a.off j h),fun j h=>(b.drawer j h).trans (a.drawer j h),
  fun j h=>(b.jr j h).trans (a.jr j h),fun j h=>(b.begun j h).trans (a.begun j h),fun j h=>(b.ub j h).trans (a.ub j h),fun j h=>(b.Kc j h).trans (a.Kc j h),fun j n h=>(b.ord j n h).trans (a.ord j n h),fun j n g h=>(b.cl j n g h).trans (a.cl j n g h)⟩
theorem Rel.set{M M':Mw}{s:State}{i:Nat}{x:Office}(R:Rel M s)(hi:i<s.offices.length)(b:Zp M M' i)(h:je s.fee M' i x):Rel M' (setOffice s i x):=by
 refine ⟨b.time.trans R.time,b.fee.trans R.fee,b.life.trans R.life,b.lease.trans R.lease,b.k.trans (R.k.trans (ju s i x).symm),b.ms.trans R.ms,fun j hj=>?_⟩;rw [ju] at hj;rw [Wg s i j x hi];by_cases e:j=i
 ·rw [if_pos e,e];exact h
 ·rw [if_neg e];have r:=R.at_ j hj
  exact ⟨(b.up j e).trans r.up,(b.off j e).trans r.off,(b.drawer j e).trans r.drawer,(b.jr j e).trans r.jr,(b.begun j e).trans r.begun,(b.ub j e).trans r.ub,(b.Kc j e).trans r.Kc,
   fun q hq=>(b.ord j _ e).trans (r.ord q hq),fun q hq=>(b.cl j _ _ e).trans (r.cl q hq)⟩
theorem Xg(M:Mw)(i:Nat)(r:JR):Zp M (jc M i r) i:={Zp.refl M i with jr:=fun j h=>Xe h}
theorem UT(M:Mw)(i:Nat)(b:Bool):Zp M (qg M i b) i:={Zp.refl M i with up:=fun j h=>Xe h}
theorem Zas(M:Mw)(i:Nat)(z:Int):Zp M (qj M i z) i:={Zp.refl M i with drawer:=fun j h=>Xe h}
theorem KC(M:Mw)(i:Nat)(n:Int)(f:Qe→Qe):Zp M (Ze M i n f) i:={Zp.refl M i with ord:=fun j m h=>if_neg fun z=>h z.1}
theorem zo(M:Mw)(i:Nat)(n g:Int)(f:Jn→Jn):Zp M (ZG M i n g f) i:={Zp.refl M i with cl:=fun j m _ h=>if_neg fun z=>h z.1}
theorem vm(M:Mw)(i:Nat)(n g:Int):Zp M (yb M i n g) i:=by
 unfold yb;split
 ·exact Zp.refl M i
 ·exact {Zp.refl M i with cl:=fun j m _ h=>if_neg fun z=>h z.1,Kc:=fun j h=>Xe h}
theorem W6(M:Mw)(i:Nat)(a:Xj):Zp M (Xf M i a) i:=by
 unfold Xf;split
 ·exact {Zp.refl M i with jr:=fun j h=>Xe h,begun:=fun j h=>Xe h}
 ·exact {Zp.refl M i with jr:=fun j h=>Xe h}
theorem yae(M:Mw)(i:Nat)(a:Xj):Zp M (Qm M i a) i:=by
 unfold Qm;split
 ·exact {Zp.refl M i with jr:=fun j h=>Xe h,ub:=fun j h=>Xe h}
 ·split
  ·exact (Xg M i _).trans (zo _ _ _ _ _)
  ·exact (Xg M i _).trans (KC _ _ _ _)
theorem xO(M:Mw)(i:Nat)(a:Xj)(c:Int):Zp M (vd M i a c) i:=by
 unfold vd;split
 ·exact UT _ _ _
 ·split
  ·exact (UT _ _ _).trans (W6 _ _ _)
  ·split
   ·exact ((UT _ _ _).trans (W6 _ _ _)).trans (Zas _ _ _)
   ·exact ((((UT _ _ _).trans (W6 _ _ _)).trans (Zas _ _ _)).trans (yae _ _ _)).trans (UT _ _ _)
section
variable{fee:Nat}{M:Mw}{i:Nat}{x:Office}
theorem Za1{j:List Rec}{q:Rec}{n:Nat}{f:Od→Od}(h:zh fee (j++ [q])=QG n f (zh fee j))(hi:issues (j++ [q])=issues j){r:Rec}(hr:r∈issues j):
  xg fee (j++ [q]) r=if r.no=n then f (xg fee j r) else xg fee j r:=by
 unfold zh QG at h;rw [hi,List.map_map] at h;have:=(List.map_inj_left.mp h) r hr;simp only [Function.comp] at this;by_cases e:r.no=n
 ·rw [if_pos e] at this⊢;exact congrArg Prod.snd this
 ·rw [if_neg e] at this⊢;exact congrArg Prod.snd this
theorem je.up' (R:je fee M i x)(b:Bool):je fee (qg M i b) i {x with up:=b}:=⟨Ub _ _ _,R.off,R.drawer,R.jr,R.begun,R.ub,R.Kc,R.ord,R.cl⟩
theorem je.Qy(R:je fee M i x){z:Int}{d:Nat}(h:(x.drawer:Int)+z=d):je fee (qj M i z) i {x with drawer:=d}:=
 ⟨R.up,R.off,by show ye _ _ _ _=_;rw [Ub,R.drawer,h],R.jr,R.begun,R.ub,R.Kc,R.ord,R.cl⟩
theorem je.plain(R:je fee M i x){q:Rec}(hp:pending x.journal=none∨q.kind=4)(h2:q.kind≠2)(h5:q.kind≠5)(h6:q.kind≠6)(h7:q.kind≠7)(h8:q.kind≠8)(h9:q.kind≠9):
  je fee (jc M i (qX (pending x.journal) q)) i (write x q):=by
 have hf:fin (pending x.journal) q= []:=by
  rcases hp with h | h
  ·rw [h];rfl
  ·exact WM (by omega)
 have hi:issues (x.journal++ [q])=issues x.journal:=by rw [Zf,hf];simp
 refine ⟨R.up,R.off,R.drawer,?_,?_,?_,?_,fun r hr=>?_,fun k hk=>?_⟩
 ·show ye _ _ _ _=jrs (x.journal++ [q]);rw [Ub,Yy,R.jr]
 ·show M.begun i=(ze (x.journal++ [q]):Int);rw [Wn,if_neg (fun z=>h2 z.1),R.begun];rfl
 ·show M.ub i=_;rw [R.ub];show _=(issues (x.journal++ [q])).map _;rw [hi]
 ·show M.Kc i=(keysOf (x.journal++ [q])).map zP;rw [R.Kc,Wf];unfold Kl;rw [if_neg (by omega)]
 ·have hr:r∈issues (x.journal++ [q])∨(pending (x.journal++ [q])=some r∧r.b=1):=hr;rw [hi,Ug,if_neg h2] at hr;have hr':r∈issues x.journal:=hr.elim id fun z=>by cases z.1
  show M.ord i r.no=some (Ym (xg fee (x.journal++ [q]) r));rw [R.ord r (.inl hr')];have h:=xaj fee (j:=x.journal) (q:=q) hf h5 h6 h7;unfold zh at h;rw [hi] at h;have:=(List.map_inj_left.mp h) r hr';rw [(Prod.mk.inj this).2]
 ·have hk:k∈keysOf (x.journal++ [q]):=hk;show M.cl i k.1 k.2=some (clI (Zo (x.journal++ [q]) k));have h:=wai (j:=x.journal) (q:=q) h8 h9 (by rw [hf];nofun);have uv:k∈keysOf x.journal:=by
   rw [Wf] at hk;unfold Kl at hk;rw [if_neg (by omega)] at hk;exact hk
  rw [R.cl k uv];unfold Zk at h;have e:keysOf (x.journal++ [q])=keysOf x.journal:=by
   rw [Wf];unfold Kl;rw [if_neg (by omega)]
  rw [e] at h;have:=(List.map_inj_left.mp h) k uv;rw [(Prod.mk.inj this).2]
theorem je.order(R:je fee M i x){q:Rec}{f:Od→Od}{f':Qe→Qe}(hp:pending x.journal=none)(hk:q.kind=5∨q.kind=6∨q.kind=7)(h:zh fee (x.journal++ [q])=QG q.no f (zh fee x.journal))
  (hf:∀r∈issues x.journal,r.no=q.no→f' (Ym (xg fee x.journal r))=Ym (f (xg fee x.journal r))):je fee (Ze (jc M i .other) i q.no f') i (write x q):=by
 have hfi:fin (pending x.journal) q= []:=by rw [hp];rfl
 have hi:issues (x.journal++ [q])=issues x.journal:=by rw [Zf,hfi];simp
 have ej:qX (pending x.journal) q= .other:=by
  unfold qX;rw [if_neg (by omega),if_neg (by omega),if_neg (by omega)]
 refine ⟨R.up,R.off,R.drawer,?_,?_,?_,?_,fun r hr=>?_,fun k uv=>?_⟩
 ·show ye _ _ _ _=jrs (x.journal++ [q]);rw [Ub,Yy,R.jr,ej]
 ·show M.begun i=(ze (x.journal++ [q]):Int);rw [Wn,if_neg (by omega),R.begun];rfl
 ·show M.ub i=(issues (x.journal++ [q])).map _;rw [R.ub,hi]
 ·show M.Kc i=(keysOf (x.journal++ [q])).map zP;rw [R.Kc,Wf];unfold Kl;rw [if_neg (by omega)]
 ·have hr:r∈issues (x.journal++ [q])∨(pending (x.journal++ [q])=some r∧r.b=1):=hr;rw [hi,Ug,if_neg (by omega)] at hr;have hr':r∈issues x.journal:=hr.elim id fun z=>by cases z.1
  show (if i=i∧(r.no:Int)=q.no then (M.ord i q.no).map f' else M.ord i r.no)=some (Ym (xg fee (x.journal++ [q]) r));rw [Za1 h hi hr'];by_cases e:r.no=q.no
  ·rw [if_pos ⟨rfl,by rw [e]⟩,if_pos e,←e,R.ord r (.inl hr'),←hf r hr' e];rfl
  ·rw [if_neg (fun z=>e (by have:=z.2;omega)),if_neg e,R.ord r (.inl hr')]
 ·have uv:k∈keysOf (x.journal++ [q]):=uv;have e:keysOf (x.journal++ [q])=keysOf x.journal:=by
   rw [Wf];unfold Kl;rw [if_neg (by omega)]
  rw [e] at uv;show M.cl i k.1 k.2=some (clI (Zo (x.journal++ [q]) k));have h:=wai (j:=x.journal) (q:=q) (by omega) (by omega) (by rw [hfi];nofun);rw [R.cl k uv];unfold Zk at h;rw [e] at h;have:=(List.map_inj_left.mp h) k uv;rw [(Prod.mk.inj this).2]
theorem VaJ{k:Nat×Nat}{ks:List (Nat×Nat)}:zP k∈ks.map zP↔k∈ks:=by
 constructor
 ·intro h;obtain ⟨k',h1,h2⟩:=List.mem_map.mp h;rw [←Ja3 h2];exact h1
 ·exact fun h=>List.mem_map.mpr ⟨k,h,rfl⟩
theorem je.claim(R:je fee M i x){q:Rec}{f:Cl→Cl}{f':Jn→Jn}(hp:pending x.journal=none)(hk:q.kind=8∨q.kind=9)(h:Zk (x.journal++ [q])=QG (q.no,q.g) f (YaI (q.no,q.g) blank (Zk x.journal)))
  (hf:∀c,f' (clI c)=clI (f c)) (hpd:(q.no,q.g)∉keysOf x.journal→paid x.journal q.no q.g=false):je fee (ZG (yb (jc M i .other) i q.no q.g) i q.no q.g f') i (write x q):=by
 have hfi:fin (pending x.journal) q= []:=by rw [hp];rfl
 have hi:issues (x.journal++ [q])=issues x.journal:=by rw [Zf,hfi];simp
 have ej:qX (pending x.journal) q= .other:=by
  unfold qX;rw [if_neg (by omega),if_neg (by omega),if_neg (by omega)]
 have hks:keysOf (x.journal++ [q])=XH (keysOf x.journal) (q.no,q.g):=by
  rw [Wf];unfold Kl;rw [if_pos (by omega)]
 have tj:(yb (jc M i .other) i q.no q.g).jr=(jc M i .other).jr:=by unfold yb;split<;>rfl
 have tu:(yb (jc M i .other) i q.no q.g).up=M.up:=by unfold yb;split<;>rfl
 have to:(yb (jc M i .other) i q.no q.g).off=M.off:=by unfold yb;split<;>rfl
 have td:(yb (jc M i .other) i q.no q.g).drawer=M.drawer:=by unfold yb;split<;>rfl
 have tb:(yb (jc M i .other) i q.no q.g).begun=M.begun:=by unfold yb;split<;>rfl
 have tk:(yb (jc M i .other) i q.no q.g).ub=M.ub:=by unfold yb;split<;>rfl
 have tr:(yb (jc M i .other) i q.no q.g).ord=M.ord:=by unfold yb;split<;>rfl
 have mk:((q.no:Int),(q.g:Int))∈(jc M i .other).Kc i↔(q.no,q.g)∈keysOf x.journal:=by
  show _∈M.Kc i↔_;rw [R.Kc];exact VaJ (k:=(q.no,q.g))
 refine ⟨?_,?_,?_,?_,?_,?_,?_,fun r hr=>?_,fun k uv=>?_⟩
 ·show (yb (jc M i .other) i q.no q.g).up i=_;rw [tu];exact R.up
 ·show (yb (jc M i .other) i q.no q.g).off i=_;rw [to];exact R.off
 ·show (yb (jc M i .other) i q.no q.g).drawer i=_;rw [td];exact R.drawer
 ·show (yb (jc M i .other) i q.no q.g).jr i=jrs (x.journal++ [q]);rw [tj];show ye _ _ _ _=_;rw [Ub,Yy,R.jr,ej]
 ·show (yb (jc M i .other) i q.no q.g).begun i=(ze (x.journal++ [q]):Int);rw [tb,Wn,if_neg (by omega),R.begun];rfl
 ·show (yb (jc M i .other) i q.no q.g).ub i=(issues (x.journal++ [q])).map _;rw [tk,R.ub,hi]
 ·show (yb (jc M i .other) i q.no q.g).Kc i=(keysOf (x.journal++ [q])).map zP;rw [hks];unfold yb XH;by_cases e:(q.no,q.g)∈keysOf x.journal
  ·rw [if_pos e,if_pos (mk.mpr e)];exact R.Kc
  ·rw [if_neg e,if_neg (fun z=>e (mk.mp z))];show ye _ _ _ _=_;rw [Ub,List.map_append];show M.Kc i++_=_;rw [R.Kc];rfl
 ·have hr:r∈issues (x.journal++ [q])∨(pending (x.journal++ [q])=some r∧r.b=1):=hr;rw [hi,Ug,if_neg (by omega)] at hr;have hr':r∈issues x.journal:=hr.elim id fun z=>by cases z.1
  show (yb (jc M i .other) i q.no q.g).ord i r.no=some (Ym (xg fee (x.journal++ [q]) r));rw [tr,R.ord r (.inl hr')];have h:=xaj fee (j:=x.journal) (q:=q) hfi (by omega) (by omega) (by omega);unfold zh at h;rw [hi] at h;have:=(List.map_inj_left.mp h) r hr';rw [(Prod.mk.inj this).2]
 ·have uv:k∈keysOf (x.journal++ [q]):=uv;rw [hks] at uv;have pt:Zo (x.journal++ [q]) k=if k=(q.no,q.g) then f (Zo x.journal k) else Zo x.journal k:=by
   rw [jai hpd] at h;unfold Zk QG at h;rw [hks,List.map_map] at h;have:=(List.map_inj_left.mp h) k uv;simp only [Function.comp] at this;by_cases e:k=(q.no,q.g)
   ·rw [if_pos e] at this⊢;exact congrArg Prod.snd this
   ·rw [if_neg e] at this⊢;exact congrArg Prod.snd this
  have old:(yb (jc M i .other) i q.no q.g).cl i k.1 k.2=some (clI (Zo x.journal k)):=by
   unfold yb;by_cases e:(q.no,q.g)∈keysOf x.journal
   ·rw [if_pos (mk.mpr e)];refine R.cl k ?_;rcases Zac.mp uv with z | z
    ·exact z
    ·rw [z];exact e
   ·rw [if_neg (fun z=>e (mk.mp z))];show (if i=i∧(k.1:Int)=q.no∧(k.2:Int)=q.g then some cl0 else M.cl i k.1 k.2)=_;by_cases ek:k=(q.no,q.g)
    ·subst ek;rw [if_pos ⟨rfl,rfl,rfl⟩];unfold Zo;rw [jK e,Uab e,hpd e];rfl
    ·rw [if_neg (fun z=>ek (Prod.ext (by show k.1=q.no;omega) (by show k.2=q.g;omega)))];exact R.cl k ((Zac.mp uv).resolve_right ek)
  show (if i=i∧(k.1:Int)=q.no∧(k.2:Int)=q.g then ((yb (jc M i .other) i q.no q.g).cl i q.no q.g).map f' else (yb (jc M i .other) i q.no q.g).cl i k.1 k.2)=some (clI (Zo (x.journal++ [q]) k));rw [pt];by_cases ek:k=(q.no,q.g)
  ·subst ek;rw [if_pos ⟨rfl,rfl,rfl⟩,if_pos rfl,old,←hf];rfl
  ·rw [if_neg (fun z=>ek (Prod.ext (by show k.1=q.no;omega) (by show k.2=q.g;omega))),if_neg ek,old]
end
end Mo
namespace Mo
open Vbpoak
section
variable{fee:Nat}{M:Mw}{i:Nat}{x:Office}
theorem XI{j:List Rec}{q:Rec}(h8:q.kind≠8)(h9:q.kind≠9):keysOf (j++ [q])=keysOf j:=by
 rw [Wf];unfold Kl;rw [if_neg (by omega)]
theorem uaE{j:List Rec}{q:Rec}(h8:q.kind≠8)(h9:q.kind≠9)(hf:∀r∈fin (pending j) q,r.b≠2){k:Nat×Nat}(hk:k∈keysOf j):Zo (j++ [q]) k=Zo j k:=by
 have h:=wai (j:=j) (q:=q) h8 h9 hf;unfold Zk at h;rw [XI h8 h9] at h;exact (Prod.mk.inj ((List.map_inj_left.mp h) k hk)).2
theorem je.begin(R:je fee M i x){q:Rec}(hp:pending x.journal=none)(hk:q.kind=2)(ho:q.b=1→M.ord i q.no=some (Ym (xg fee (x.journal++ [q]) q))):je fee (Xf M i (xu q)) i (write x q):=by
 have hfi:fin (pending x.journal) q= []:=by rw [hp];rfl
 have hi:issues (x.journal++ [q])=issues x.journal:=by rw [Zf,hfi];simp
 have ej:qX (pending x.journal) q= .begun (xu q):=by
  unfold qX;rw [if_neg (by omega),if_pos hk]
 refine ⟨R.up,R.off,R.drawer,?_,?_,?_,?_,fun r hr=>?_,fun k uv=>?_⟩
 ·show ye _ _ _ _=jrs (x.journal++ [q]);rw [Ub,Yy,R.jr,ej]
 ·show (if q.b=1 then ye M.begun i (M.begun i+1) else M.begun) i=(ze (x.journal++ [q]):Int);rw [Wn];by_cases e:q.b=1
  ·rw [if_pos e,if_pos ⟨hk,e⟩,Ub,R.begun];rfl
  ·rw [if_neg e,if_neg (fun z=>e z.2),R.begun];rfl
 ·show M.ub i=(issues (x.journal++ [q])).map _;rw [R.ub,hi]
 ·show M.Kc i=(keysOf (x.journal++ [q])).map zP;rw [R.Kc,XI (by omega) (by omega)]
 ·have hr:r∈issues (x.journal++ [q])∨(pending (x.journal++ [q])=some r∧r.b=1):=hr;rw [hi,Ug,if_pos hk] at hr;show M.ord i r.no=some (Ym (xg fee (x.journal++ [q]) r));rcases hr with hr | ⟨e,hb⟩
  ·rw [R.ord r (.inl hr)];have h:=xaj fee (j:=x.journal) (q:=q) hfi (by omega) (by omega) (by omega);unfold zh at h;rw [hi] at h;have:=(List.map_inj_left.mp h) r hr;rw [(Prod.mk.inj this).2]
  ·have e:q=r:=Option.some.inj e;subst e;exact ho hb
 ·have uv:k∈keysOf (x.journal++ [q]):=uv;rw [XI (by omega) (by omega)] at uv;show M.cl i k.1 k.2=some (clI (Zo (x.journal++ [q]) k));rw [R.cl k uv,uaE (by omega) (by omega) (by rw [hfi];nofun) uv]
theorem waj{n:Nat}{l:List Rec}:(n:Int)∈l.map (fun r=>(r.no:Int))↔∃r∈l,r.no=n:=by
 constructor
 ·intro h;obtain ⟨r,h1,h2⟩:=List.mem_map.mp h;exact ⟨r,h1,by omega⟩
 ·rintro ⟨r,h1,rfl⟩
  exact List.mem_map.mpr ⟨r,h1,rfl⟩
theorem je.done(R:je fee M i x){r q:Rec}(hp:pending x.journal=some r)(hk:q.kind=3)(hb:r.b=1∨r.b=2∨r.b=3)(h1:r.b=1→¬∃y∈issues x.journal,y.no=r.no):je fee (Qm M i (xu r)) i (write x q):=by
 have hf:fin (pending x.journal) q= [r]:=by rw [hp];exact UC hk
 have xbl:issues (x.journal++ [q])=issues x.journal++ [r].filter fun r=>r.b==1:=by rw [Zf,hf]
 have Ubd:pending (x.journal++ [q])=none:=by rw [Ug,if_neg (by omega)]
 have ybt:ze (x.journal++ [q])=ze x.journal:=by rw [Wn,if_neg (by omega)];rfl
 have xaI:keysOf (x.journal++ [q])=keysOf x.journal:=XI (by omega) (by omega);have ej:qX (pending x.journal) q= .done (xu r):=by
  unfold qX;rw [if_neg (by omega),if_neg (by omega),if_pos hk,hp]
 have jj:∀(h:ye M.jr i (M.jr i++ [JR.done (xu r)]) i=ye M.jr i (M.jr i++ [JR.done (xu r)]) i),ye M.jr i (M.jr i++ [JR.done (xu r)]) i=jrs (x.journal++ [q]):=fun _=>by
  rw [Ub,Yy,R.jr,ej]
 have bb:M.begun i=(ze (x.journal++ [q]):Int):=by rw [ybt];exact R.begun
 have kk:M.Kc i=(keysOf (x.journal++ [q])).map zP:=by rw [xaI];exact R.Kc
 unfold Qm;by_cases b1:r.b=1
 ·have hi2:issues (x.journal++ [q])=issues x.journal++ [r]:=by rw [xbl,List.filter_cons,if_pos (by simp [b1])];rfl
  rw [if_pos (show (xu r).kind=1 from b1)];refine ⟨R.up,R.off,R.drawer,jj rfl,bb,?_,kk,fun y hy=>?_,fun k uv=>?_⟩
  ·show ye _ _ _ _=(issues (x.journal++ [q])).map _;rw [Ub,hi2,List.map_append];unfold j5;rw [R.ub,if_neg (show¬(xu r).no∈_ from fun z=>h1 b1 (waj.mp z))];rfl
  ·have hy:y∈issues (x.journal++ [q])∨(pending (x.journal++ [q])=some y∧y.b=1):=hy;rw [Ubd] at hy;have hy2:y∈issues (x.journal++ [q]):=hy.elim id fun z=>by cases z.1
   show M.ord i y.no=some (Ym (xg fee (x.journal++ [q]) y));have h:=uaR fee hp hk b1;unfold zh at h;rw [hi2,List.map_append] at h;have ha:=List.append_inj h (by simp);rw [hi2] at hy2;rcases List.mem_append.mp hy2 with z | z
   ·rw [R.ord y (.inl z),(Prod.mk.inj ((List.map_inj_left.mp ha.1) y z)).2]
   ·have e:y=r:=by simpa using z
    subst e;have e2:=ha.2;simp at e2;rw [R.ord y (.inr ⟨hp,b1⟩),e2]
  ·have uv:k∈keysOf (x.journal++ [q]):=uv;rw [xaI] at uv;show M.cl i k.1 k.2=some (clI (Zo (x.journal++ [q]) k));rw [R.cl k uv,uaE (by omega) (by omega) (fun y hy=>by rw [hf] at hy;simp at hy;subst hy;omega) uv]
 ·have hi2:issues (x.journal++ [q])=issues x.journal:=by rw [xbl,List.filter_cons,if_neg (by simp [b1])];simp
  rw [if_neg (show¬(xu r).kind=1 from b1)];by_cases b2:r.b=2
  ·rw [if_pos (show (xu r).kind=2 from b2)];refine ⟨R.up,R.off,R.drawer,jj rfl,bb,by show M.ub i=(issues (x.journal++ [q])).map _;rw [hi2];exact R.ub,kk,fun y hy=>?_,fun k uv=>?_⟩
   ·have hy:y∈issues (x.journal++ [q])∨(pending (x.journal++ [q])=some y∧y.b=1):=hy;rw [Ubd,hi2] at hy;have hy2:y∈issues x.journal:=hy.elim id fun z=>by cases z.1
    show M.ord i y.no=some (Ym (xg fee (x.journal++ [q]) y));have h:=va6 fee hp hk b2;unfold zh at h;rw [hi2] at h;rw [R.ord y (.inl hy2),(Prod.mk.inj ((List.map_inj_left.mp h) y hy2)).2]
   ·have uv:k∈keysOf (x.journal++ [q]):=uv;rw [xaI] at uv;have h:=Za5 hp hk b2;unfold Zk QG at h;rw [xaI,List.map_map] at h;have pt:=(List.map_inj_left.mp h) k uv;simp only [Function.comp] at pt;show (if i=i∧(k.1:Int)=r.no∧(k.2:Int)=r.g then (M.cl i r.no r.g).map _ else M.cl i k.1 k.2)=some (clI (Zo (x.journal++ [q]) k));by_cases ek:k=(r.no,r.g)
    ·subst ek;rw [if_pos rfl] at pt;rw [if_pos ⟨rfl,rfl,rfl⟩,R.cl _ uv,(Prod.mk.inj pt).2];rfl
    ·rw [if_neg ek] at pt;rw [if_neg (fun z=>ek (Prod.ext (by show k.1=r.no;omega) (by show k.2=r.g;omega))),R.cl k uv,(Prod.mk.inj pt).2]
  ·have b3:r.b=3:=by omega
   rw [if_neg (show¬(xu r).kind=2 from b2)];refine ⟨R.up,R.off,R.drawer,jj rfl,bb,by show M.ub i=(issues (x.journal++ [q])).map _;rw [hi2];exact R.ub,kk,fun y hy=>?_,fun k uv=>?_⟩
   ·have hy:y∈issues (x.journal++ [q])∨(pending (x.journal++ [q])=some y∧y.b=1):=hy;rw [Ubd,hi2] at hy;have hy2:y∈issues x.journal:=hy.elim id fun z=>by cases z.1
    show (if i=i∧(y.no:Int)=r.no then (M.ord i r.no).map _ else M.ord i y.no)=some (Ym (xg fee (x.journal++ [q]) y));rw [Za1 (vaH fee hp hk b3) hi2 hy2];by_cases e:y.no=r.no
    ·rw [if_pos ⟨rfl,by rw [e]⟩,if_pos e,←e,R.ord y (.inl hy2)];rfl
    ·rw [if_neg (fun z=>e (by have:=z.2;omega)),if_neg e,R.ord y (.inl hy2)]
   ·have uv:k∈keysOf (x.journal++ [q]):=uv;rw [xaI] at uv;show M.cl i k.1 k.2=some (clI (Zo (x.journal++ [q]) k));rw [R.cl k uv,uaE (by omega) (by omega) (fun y hy=>by rw [hf] at hy;simp at hy;subst hy;omega) uv]
end
theorem Qat(j:List Rec):((issues j).map (·.no)).Sublist ((j.filter fun r=>r.kind==2 && r.b==1).map (·.no)):=by
 apply List.Sublist.map;unfold issues;have h:=(J2 j).filter (fun r=>r.b==1);rw [List.filter_filter] at h;have e:(fun a:Rec=>(a.b==1) && (a.kind==2))=fun r=>r.kind==2 && r.b==1:=by funext r;rw [Bool.and_comm]
 rw [e] at h;exact h
theorem KaY{s:State}(g:Good s)(o:Nat):(((jn s o).filter fun r=>r.kind==2 && r.b==1).map (·.no)).Nodup:=by
 rw [g.nos o];exact List.nodup_iff_pairwise_ne.mpr (List.pairwise_map.mpr ((List.nodup_iff_pairwise_ne.mp List.nodup_range).imp fun h e=>h (by omega)))
theorem YaR{j:List Rec}{r:Rec}(h:pending j=some r):∃j0,j=j0++ [r]∧r.kind=2:=by
 induction j using snocInd with
 | h0=>cases h
 | h1 l y _=>
  rw [Ug] at h;by_cases e:y.kind=2
  ·rw [if_pos e] at h;cases h;exact ⟨l,rfl,e⟩
  ·rw [if_neg e] at h;cases h
theorem Qa6{s:State}(g:Good s){o:Nat}{r:Rec}(h:pending (jn s o)=some r)(hb:r.b=1):¬∃y∈issues (jn s o),y.no=r.no:=by
 obtain ⟨j0,e,hk⟩:=YaR h;have nd:=KaY g o
 rintro ⟨y,hy,en⟩
 rw [e,List.filter_append,List.map_append,List.filter_cons,if_pos (by simp [hk,hb]),List.nodup_append] at nd;rw [e,Zf,WM (by omega)] at hy;simp at hy;have:y.no∈(j0.filter fun r=>r.kind==2 && r.b==1).map (·.no):=(Qat j0).subset (List.mem_map.mpr ⟨y,hy,rfl⟩);exact nd.2.2 _ this _ (by simp) en
theorem WaJ{s:State}(g:Good s){o n:Nat}(e:n=(ze (jn s o)+1)*10+o):(¬∃y∈issues (jn s o),y.no=n)∧grants (jn s o) n= []∧closed (jn s o) n=false∧refunded (jn s o) n=false:=by
 have h1:¬∃y∈issues (jn s o),y.no=n:=by
  rintro ⟨y,hy,en⟩
  have:y.no∈((jn s o).filter fun r=>r.kind==2 && r.b==1).map (·.no):=(Qat _).subset (List.mem_map.mpr ⟨y,hy,rfl⟩);rw [g.nos o] at this;obtain ⟨k,hk,ek⟩:=List.mem_map.mp this;rw [List.mem_range] at hk;omega
 have h2:grants (jn s o) n= []:=by
  rw [List.eq_nil_iff_forall_not_mem];intro q hq;obtain ⟨a,b,c⟩:=yr.mp hq;obtain ⟨y,hy,en⟩:=(g.vD o q a b).1;exact h1 ⟨y,hy,en.trans c⟩
 refine ⟨h1,h2,?_,?_⟩
 ·cases hc:closed (jn s o) n with
  | false=>rfl
  | true=>
   have:=g.clo o n hc;unfold standing at this;rw [h2] at this;simp at this
 ·cases hc:refunded (jn s o) n with
  | false=>rfl
  | true=>
   unfold refunded at hc;rw [List.any_eq_true] at hc;obtain ⟨r,hr,hz⟩:=hc;simp at hz;obtain ⟨y,hy,en⟩:=g.refs o r (vK hr).1 (vK hr).2 hz.1;exact absurd ⟨y,hy,en.trans hz.2⟩ h1
theorem Rel.ug{M:Mw}{s:State}(R:Rel M s){i n:Nat}{o:Qe}(hp:pending (jn s i)=none)(hn:¬∃y∈issues (jn s i),y.no=n):Rel (ug M i n o) s:=by
 refine ⟨R.time,R.fee,R.life,R.lease,R.k,R.ms,fun j hj=>?_⟩;have r:=R.at_ j hj
 refine ⟨r.up,r.off,r.drawer,r.jr,r.begun,r.ub,r.Kc,fun q hq=>?_,r.cl⟩;show (if j=i∧(q.no:Int)=n then some o else M.ord j q.no)=_;by_cases e:j=i∧(q.no:Int)=n
 ·exfalso;obtain ⟨rfl,e2⟩:=e;rcases hq with z | z
  ·exact hn ⟨q,z,by omega⟩
  ·rw [show pending (officeAt s j).journal=pending (jn s j) from rfl,hp] at z;cases z.1
 ·rw [if_neg e];exact r.ord q hq
theorem jaa(s:State)(o:Nat)(x:Office)(h:o<s.offices.length):officeAt (setOffice s o x) o=x:=by rw [Wg s o o x h,if_pos rfl]
theorem Rel.act{M:Mw}{s:State}(R:Rel M s)(g:Good s){i cut:Nat}{r:Rec}(hu:(officeAt s i).up=true)(hk:r.kind=2)(hb:r.b=1∨r.b=2∨r.b=3)
  (ho:r.b=1→M.ord i r.no=some (Ym (xg s.fee (jn s i++ [r]) r))) (hn:r.b=1→¬∃y∈issues (jn s i),y.no=r.no) (hd:0≤((officeAt s i).drawer:Int)+cashOf r):Rel (vd M i (xu r) cut) (act s i r cut):=by
 have hi:=g.off hu;have hp:pending (officeAt s i).journal=none:=g.up i hu;have ra:=R.at_ i hi
 have r0:je s.fee (qg M i false) i {officeAt s i with up:=false}:=ra.up' false;have r1:je s.fee (Xf (qg M i false) i (xu r)) i {write (officeAt s i) r with up:=false}:=je.begin r0 (q:=r) hp hk ho;have r2:je s.fee (qj (Xf (qg M i false) i (xu r)) i (cashOf r)) i {write (officeAt s i) r with drawer:=(((officeAt s i).drawer:Int)+cashOf r).toNat,up:=false}:=
  je.Qy r1 (z:=cashOf r) (d:=(((officeAt s i).drawer:Int)+cashOf r).toNat) (by show ((officeAt s i).drawer:Int)+cashOf r=_;rw [Int.toNat_of_nonneg hd])
 have b0:=xO M i (xu r) cut;unfold vd at b0⊢;unfold Vbpoak.act;simp only [];by_cases c3:cut=3
 ·rw [if_pos (by omega)] at b0⊢;rw [if_pos c3]
  exact R.set hi b0 r0
 ·rw [if_neg (by omega)] at b0⊢;rw [if_neg c3]
  by_cases c1:cut=1
  ·rw [if_pos (by omega)] at b0⊢;rw [if_pos c1]
   exact R.set hi b0 r1
  ·rw [if_neg (by omega)] at b0⊢;rw [if_neg c1]
   by_cases c2:cut=2
   ·rw [if_pos (by omega)] at b0⊢;rw [if_pos c2]
    exact R.set hi b0 r2
   ·rw [if_neg (by omega)] at b0⊢;rw [if_neg c2]
    refine R.set hi b0 ?_;have e:issues ((officeAt s i).journal++ [r])=issues (officeAt s i).journal:=by rw [Zf,hp];simp [fin]
    have r3:=je.done r2 (r:=r) (q:=⟨3,r.no,r.g,0,0,0,0⟩) (by show pending ((officeAt s i).journal++ [r])=_;rw [Ug,if_pos hk]) rfl hb
     (fun z=>by show¬∃y∈issues ((officeAt s i).journal++ [r]),y.no=r.no;rw [e];exact hn z)
    have hup:(officeAt s i).up=true:=hu;have:=je.up' r3 true;show je s.fee _ i {write (officeAt s i) r with drawer:=_,journal:=_};have e2:({write ({write (officeAt s i) r with drawer:=(((officeAt s i).drawer:Int)+cashOf r).toNat,up:=false}) ⟨3,r.no,r.g,0,0,0,0⟩ with up:=true}:Office)=write {write (officeAt s i) r with drawer:=(((officeAt s i).drawer:Int)+cashOf r).toNat} ⟨3,r.no,r.g,0,0,0,0⟩:=by
     unfold write;simp [hup]
    rw [e2] at this;exact this
theorem Zat(M:Mw)(i:Nat):Zp M (yd M i).1 i:=by
 unfold yd;split
 ·split
  ·exact (UT _ _ _).trans (Xg _ _ _)
  ·exact (UT _ _ _).trans (yae _ _ _)
 ·exact UT _ _ _
theorem Rel.counted{M:Mw}{s:State}(R:Rel M s)(g:Good s){i:Nat}(hi:i<s.offices.length):Rel (yd M i).1 (counted s i)∧
  (yd M i).2=match pending (jn s i) with
   | none=>0
   | some _=>((((officeAt (counted s i) i).journal.getLast?).map fun r=>r.kind).getD 0:Nat):=by
 have ra:=R.at_ i hi
 have b0:=Zat M i;have la:=last_eq (jn s i);have rj:M.jr i=jrs (jn s i):=ra.jr;unfold Vbpoak.counted;simp only [];cases hp:pending (officeAt s i).journal with
 | none=>
  simp only [hp] at*;have e:yd M i=(qg M i true,0):=by
   unfold yd;rw [rj];cases hl:(jrs (jn s i)).getLast? with
   | none=>rfl
   | some z=>
    rw [hl] at la;cases z<;>first | rfl | cases la
  rw [e] at b0⊢;refine ⟨R.set hi b0 (ra.up' true),?_⟩;first | rfl | (rw [hp])
 | some r=>
  have e:∃a,(jrs (jn s i)).getLast? =some (.begun a)∧a=xu r:=by
   rw [hp] at la;cases hl:(jrs (jn s i)).getLast? with
   | none=>rw [hl] at la;cases la
   | some z=>
    rw [hl] at la;cases z with
    | begun a=>exact ⟨a,rfl,Option.some.inj la⟩
    | bank _=>cases la
    | done _=>cases la
    | other=>cases la
  obtain ⟨a,hl,rfl⟩:=e;obtain ⟨hm,hk⟩:=kaF hp;simp only [];unfold yd at b0⊢;rw [rj,hl] at b0⊢;simp only [] at b0⊢;rw [ra.drawer,WaE] at b0⊢;have r0:=ra.up' true;by_cases hd:(((officeAt s i).drawer:Nat):Int)=book (officeAt s i).journal
  ·rw [if_pos hd] at b0⊢;rw [if_pos hd];have r1:=je.plain r0 (q:=⟨4,r.no,r.g,0,0,0,0⟩) (.inr rfl) (by show (4:Nat)≠2;decide) (by show (4:Nat)≠5;decide) (by show (4:Nat)≠6;decide) (by show (4:Nat)≠7;decide) (by show (4:Nat)≠8;decide) (by show (4:Nat)≠9;decide);refine ⟨R.set hi b0 r1,?_⟩;rw [jaa _ _ _ hi];show (4:Int)=_;simp [write,hp]
  ·rw [if_neg hd] at b0⊢;rw [if_neg hd];have r1:=je.done r0 (r:=r) (q:=⟨3,r.no,r.g,0,0,0,0⟩) hp rfl (g.vaB i r hm hk) (fun z=>Qa6 g hp z);refine ⟨R.set hi b0 r1,?_⟩;rw [jaa _ _ _ hi];show (3:Int)=_;simp [write,hp]
end Mo
namespace Mo
open Vbpoak
section
variable{M:Mw}{s:State}{i:Nat}
theorem xT(R:Rel M s)(hi:i<s.offices.length)(n:Nat):Wy M i n=(issueOf (jn s i) n).map fun r=>Ym (xg s.fee (jn s i) r):=by
 have ra:=R.at_ i hi
 unfold Wy;rw [WW];cases e:(issues (jn s i)).find? fun r=>r.no==n with
 | none=>
  rw [List.find?_eq_none] at e;rw [if_neg]
  ·rfl
  ·rw [ra.ub,waj]
   rintro ⟨r,hr,hn⟩
   exact e r hr (by simp [hn])
 | some r=>
  have h1:=List.mem_of_find?_eq_some e;have h2:=List.find?_some e;have h3:r.no=n:=by simpa using h2
  rw [if_pos (by rw [ra.ub,waj];exact ⟨r,h1,h3⟩),←h3,ra.ord r (.inl h1)];rfl
theorem yD(g:Good s){p n k:Nat}(h:(n,k)∉keysOf (jn s p)):paid (jn s p) n k=false:=by
 cases e:paid (jn s p) n k with
 | false=>rfl
 | true=>
  unfold paid at e;rw [List.any_eq_true] at e;obtain ⟨r,hr,hz⟩:=e;simp at hz;have hm:=g.paid p r (vK hr).1 (vK hr).2 hz.1;rw [hz.2.1,hz.2.2,jK (k:=(n,k)) h] at hm;cases hm
theorem ua4(R:Rel M s)(hi:i<s.offices.length)(n g:Nat):VaF M i n g=if (n,g)∈keysOf (jn s i) then some (clI (Zo (jn s i) (n,g))) else none:=by
 have ra:=R.at_ i hi
 unfold VaF;have e:((n:Int),(g:Int))∈M.Kc i↔(n,g)∈keysOf (jn s i):=by
  rw [ra.Kc];exact VaJ (k:=(n,g))
 by_cases h:(n,g)∈keysOf (jn s i)
 ·rw [if_pos h,if_pos (e.mpr h)];exact ra.cl _ h
 ·rw [if_neg h,if_neg (fun z=>h (e.mp z))]
theorem wU(R:Rel M s)(G:Good s)(hi:i<s.offices.length)(n g:Nat):Yf M i n g=clI (Zo (jn s i) (n,g)):=by
 unfold Yf;rw [ua4 R hi];by_cases h:(n,g)∈keysOf (jn s i)
 ·rw [if_pos h];rfl
 ·rw [if_neg h];unfold Zo;rw [jK h,Uab h,yD G h];rfl
end
theorem ZaC(o:Od):Xc (Ym o)=(Uaf o.gs).map gI:=by
 unfold Xc Uaf;show (match (o.gs.map gI).getLast? with | none=>none | some g=>if g.back=true then none else some g)=_;rw [List.getLast?_map];cases o.gs.getLast? with
 | none=>rfl
 | some g=>
  show (if (gI g).back=true then none else some (gI g))=_;show (if g.back=true then none else some (gI g))=Option.map gI (if g.back=true then none else some g);split<;>rfl
theorem US{fee:Nat}{j:List Rec}{r:Rec}:Xc (Ym (xg fee j r))=(standing j r.no).map fun q=>(⟨q.g,q.b,q.d,false⟩:MG):=by
 rw [ZaC];show (Uaf (Qk j r.no)).map gI=_;rw [qaL,Option.map_map];cases e:standing j r.no with
 | none=>rfl
 | some q=>
  show some (gI (gOf j q))=_;rw [xaQ e];rfl
theorem qT{M:Mw}{s:State}(R:Rel M s){i:Nat}(hi:i<s.offices.length):zd M i=clockOf s i:=by
 unfold zd clockOf;rw [R.time,(R.at_ i hi).off]
structure kbr(M:Mw)(s:State)(i:Nat)(m:Msg)(t:State)(o:Option Msg):Prop where
 eq:received s m=match o with
  | none=>t
  | some a=>{t with msgs:=t.msgs++ [a]}
 ms:t.msgs=s.msgs
 rel:Rel (xc M (Kk m)).1 t
 out:(xc M (Kk m)).2=o.map Kk
theorem Z3{M M':Mw}{s:State}{i:Nat}{r:Rec}(R:Rel M s)(hi:i<s.offices.length)(b:Zp M M' i)(h:je s.fee M' i (write (officeAt s i) r)):Rel M' (put s i r):=R.set hi b h
theorem Va5{M:Mw}{s:State}{m:Msg}(R:Rel M s)(g:Good s)(hm:qG s m)(h1:m.kind=1)(hu:(officeAt s m.to).up=true):∃t a,onAsk s m={t with msgs:=t.msgs++ [a]}∧t.msgs=s.msgs∧Rel (jC M (Kk m)).1 t∧(jC M (Kk m)).2=some (Kk a):=by
 have hp:pending (officeAt s m.to).journal=none:=g.up _ hu;have hg0:=(hm.one h1).2;have no3:some (wg (Kk m) 3)=some (Kk ⟨3,m.no,0,m.to,m.from_,0,0,false⟩):=by
  unfold wg Kk;simp [hg0]
 unfold onAsk jC;simp only [];rw [show (Kk m).receiver.toNat=m.to from Int.toNat_natCast _,show (Kk m).order=(m.no:Int) from rfl,xT R hm.to];cases e:issueOf (officeAt s m.to).journal m.no with
 | none=>exact ⟨s,_,rfl,rfl,R,no3⟩
 | some r=>
  have hrn:=(Yn e).2;have hri:=(Yn e).1;simp only [Option.map_some];have ek:((Ym (xg s.fee (jn s m.to) r)).key≠(Kk m).VD∨(Ym (xg s.fee (jn s m.to) r)).refunded=true∨(Ym (xg s.fee (jn s m.to) r)).closed=true)↔(r.c≠m.a∨refunded (officeAt s m.to).journal m.no=true∨closed (officeAt s m.to).journal m.no=true):=by
   show ((r.c:Int)≠m.a∨refunded (jn s m.to) r.no=true∨closed (jn s m.to) r.no=true)↔_;rw [hrn];constructor
   ·exact Or.imp_left fun h z=>h (by rw [z])
   ·exact Or.imp_left fun h z=>h (by omega)
  by_cases hc:r.c≠m.a∨refunded (officeAt s m.to).journal m.no=true∨closed (officeAt s m.to).journal m.no=true
  ·rw [if_pos hc,if_pos (ek.mpr hc)];exact ⟨s,_,rfl,rfl,R,no3⟩
  ·rw [if_neg hc,if_neg (fun z=>hc (ek.mp z)),US,hrn];cases e2:standing (officeAt s m.to).journal m.no with
   | some q=>
    simp only [Option.map_some];by_cases hq:q.b=m.from_
    ·rw [if_pos hq,if_neg (by show¬((q.b:Int)≠(m.from_:Int));rw [hq];simp)];exact ⟨s,_,rfl,rfl,R,rfl⟩
    ·rw [if_neg hq,if_pos (by show (q.b:Int)≠(m.from_:Int);omega)];exact ⟨s,_,rfl,rfl,R,no3⟩
   | none=>
    simp only [Option.map_none];rw [qT R hm.to,R.lease,show (Ym (xg s.fee (jn s m.to) r)).ood=r.d from rfl];by_cases hd:r.d≤clockOf s m.to
    ·rw [if_pos hd,if_pos hd];exact ⟨s,_,rfl,rfl,R,no3⟩
    ·rw [if_neg hd,if_neg hd];have hlen:(Ym (xg s.fee (jn s m.to) r)).gs.length=(grants (officeAt s m.to).journal m.no).length:=by
      show ((Qk (jn s m.to) r.no).map gI).length=_;unfold Qk;rw [List.length_map,List.length_map,hrn]
     have hb:yl (officeAt s m.to).journal m.no ((grants (officeAt s m.to).journal m.no).length+1)=false:=by
      cases hbk:yl (officeAt s m.to).journal m.no ((grants (officeAt s m.to).journal m.no).length+1) with
      | false=>rfl
      | true=>
       exfalso;unfold yl at hbk;rw [List.any_eq_true] at hbk;obtain ⟨y,hy,hz⟩:=hbk;simp at hz;obtain ⟨q,hq,q1,q2,q3,_⟩:=g.back m.to y hy hz.1;have hn:=g.nums m.to m.no;have:q.g∈(grants (jn s m.to) m.no).map (·.g):=List.mem_map.mpr ⟨q,yr.mpr ⟨hq,q1,by rw [q2,hz.2.1]⟩,rfl⟩;rw [hn,List.mem_range'_1] at this;have h5:q.g=(grants (jn s m.to) m.no).length+1:=by rw [q3];exact hz.2.2
       omega
     refine ⟨put s m.to ⟨5,m.no,(grants (officeAt s m.to).journal m.no).length+1,0,m.from_,0,clockOf s m.to+s.lease⟩,_,rfl,rfl,?_,?_⟩
     ·refine Z3 R hm.to ((Xg _ _ _).trans (KC _ _ _ _)) ?_;exact je.order (R.at_ _ hm.to) (q:=⟨5,m.no,(grants (officeAt s m.to).journal m.no).length+1,0,m.from_,0,clockOf s m.to+s.lease⟩) hp (.inl rfl) (qaZ s.fee rfl hb)
       (fun y _ hy=>by
        have hl:(xg s.fee (officeAt s m.to).journal y).gs.length=(grants (officeAt s m.to).journal m.no).length:=by
         show (Qk _ y.no).length=_;unfold Qk;rw [List.length_map,hy]
        unfold Ym;simp [gI,hl];rfl)
     ·show some _=some _;rw [hlen];rfl
theorem UaL{l:List MG}{num:Int}(h:∀x∈l.dropLast,x.num≠num)(hl:∀x,l.getLast? =some x→x.num=num):Vj l=l.map fun x=>if x.num=num then {x with back:=true} else x:=by
 unfold Vj;cases e:l.getLast? with
 | none=>
  rw [List.getLast?_eq_none_iff] at e;subst e;rfl
 | some g=>
  obtain ⟨ys,rfl⟩:=List.getLast?_eq_some_iff.mp e;rw [List.dropLast_concat] at h;show (ys++ [g]).dropLast++ [{g with back:=true}]=_;rw [List.dropLast_concat,List.map_append]
  congr 1
  ·conv=>lhs;rw [←List.map_id' ys]
   exact List.map_congr_left fun x hx=>by rw [if_neg (h x hx)]
  ·rw [List.map_cons,List.map_nil,if_pos (hl g e)]
theorem Ka3{M:Mw}{s:State}{m:Msg}(R:Rel M s)(g:Good s)(ht:m.to<s.offices.length)(hu:(officeAt s m.to).up=true):
  Rel (XG M (Kk m)) (if never (officeAt s m.to).journal m.no m.g=true then s else onMay s m):=by
 have hp:pending (officeAt s m.to).journal=none:=g.up _ hu;unfold XG onMay;simp only [];rw [show (Kk m).receiver.toNat=m.to from Int.toNat_natCast _,show (Kk m).order=(m.no:Int) from rfl,show (Kk m).yc=(m.g:Int) from rfl,wU R g ht];show Rel (if (mayOf (jn s m.to) m.no m.g).isSome=false∧never (jn s m.to) m.no m.g=false then _ else _) _;by_cases h1:never (officeAt s m.to).journal m.no m.g=true
 ·rw [if_pos h1,if_neg (fun z=>by rw [h1] at z;cases z.2)];exact R
 ·rw [if_neg h1];by_cases h2:(mayOf (officeAt s m.to).journal m.no m.g).isSome=true
  ·rw [if_pos h2,if_neg (fun z=>by rw [h2] at z;cases z.1)];exact R
  ·have h3:never (officeAt s m.to).journal m.no m.g=false:=by simpa using h1
   have h4:mayOf (officeAt s m.to).journal m.no m.g=none:=by simpa using h2
   rw [if_neg h2,if_pos ⟨by rw [h4];rfl,h3⟩];refine Z3 R ht (((Xg _ _ _).trans (vm _ _ _ _)).trans (zo _ _ _ _ _)) ?_;exact je.claim (R.at_ _ ht) (q:=⟨8,m.no,m.g,m.a,0,0,m.d⟩) hp (.inl rfl) (XaX rfl h4 fun z=>yD g z) (fun c=>rfl) fun z=>yD g z
theorem WaT{M:Mw}{s:State}{m:Msg}(R:Rel M s)(g:Good s)(ht:m.to<s.offices.length):V9 M (Kk m)=isStanding s m:=by
 unfold V9 isStanding;rw [show (Kk m).receiver.toNat=m.to from Int.toNat_natCast _,show (Kk m).order=(m.no:Int) from rfl,xT R ht];cases e:issueOf (jn s m.to) m.no with
 | none=>
  cases e2:standing (officeAt s m.to).journal m.no with
  | none=>rfl
  | some q=>
   exfalso;obtain ⟨a,b,c⟩:=Xk e2;obtain ⟨y,hy,hn⟩:=(g.vD _ q a b).1;rw [WW,List.find?_eq_none] at e;exact e y hy (by simp [hn,c])
 | some r=>
  have hrn:=(Yn e).2;simp only [Option.map_some];rw [US,hrn];show (if closed (jn s m.to) r.no=true then false else _)=_;rw [hrn];cases hc:closed (officeAt s m.to).journal m.no with
  | true=>
   rw [if_pos rfl];cases standing (officeAt s m.to).journal m.no with
   | none=>rfl
   | some q=>simp
  | false=>
   rw [if_neg (by decide)];cases standing (officeAt s m.to).journal m.no with
   | none=>rfl
   | some q=>
    show decide ((q.g:Int)=(m.g:Int)∧(q.b:Int)=(m.from_:Int))=(q.g==m.g && (q.b==m.from_ && true));rw [Bool.and_true,Bool.eq_iff_iff];simp only [decide_eq_true_eq,Bool.and_eq_true,beq_iff_eq];omega
theorem yaw{s:State}(g:Good s){o n:Nat}{q:Rec}(h:standing (jn s o) n=some q):∃y∈issues (jn s o),y.no=n:=by
 obtain ⟨a,b,c⟩:=Xk h;obtain ⟨y,hy,hn⟩:=(g.vD _ q a b).1;exact ⟨y,hy,hn.trans c⟩
theorem XaC{M:Mw}{s:State}{m:Msg}(R:Rel M s)(g:Good s)(ht:m.to<s.offices.length)(hu:(officeAt s m.to).up=true):Rel (WC M (Kk m)) (onPaid s m):=by
 have hp:pending (officeAt s m.to).journal=none:=g.up _ hu;unfold WC onPaid;rw [WaT R g ht];by_cases h:isStanding s m=true
 ·rw [if_pos h,if_pos h,show (Kk m).receiver.toNat=m.to from Int.toNat_natCast _];refine Z3 R ht ((Xg _ _ _).trans (KC _ _ _ _)) ?_;exact je.order (R.at_ _ ht) (q:=⟨7,m.no,m.g,0,0,0,0⟩) hp (.inr (.inr rfl)) (yaY s.fee rfl) (fun y _ hy=>rfl)
 ·rw [if_neg h,if_neg h];exact R
theorem yat{M:Mw}{s:State}{m:Msg}(R:Rel M s)(g:Good s)(ht:m.to<s.offices.length)(hu:(officeAt s m.to).up=true):Rel (XC M (Kk m)) (onNever s m):=by
 have hp:pending (officeAt s m.to).journal=none:=g.up _ hu;unfold XC onNever;rw [WaT R g ht];by_cases h:isStanding s m=true
 ·rw [if_pos h,if_pos h,show (Kk m).receiver.toNat=m.to from Int.toNat_natCast _];refine Z3 R ht ((Xg _ _ _).trans (KC _ _ _ _)) ?_;obtain ⟨q,hst,hg,hb,hc⟩:=yL h;refine je.order (R.at_ _ ht) (q:=⟨6,m.no,m.g,0,0,0,0⟩) hp (.inr (.inl rfl)) (Za4 s.fee rfl) (fun y _ hy=>?_);have hy:y.no=m.no:=hy;have key:Vj ((Qk (jn s m.to) m.no).map gI)=((Qk (jn s m.to) m.no).map fun x=>if x.num=m.g then {x with back:=true} else x).map gI:=by
   have Ybt:((Qk (jn s m.to) m.no).map gI).map (·.num)=(List.range' 1 (grants (jn s m.to) m.no).length).map fun (k:Nat)=>(k:Int):=by
    rw [←g.nums m.to m.no];unfold Qk;rw [List.map_map,List.map_map,List.map_map];rfl
   have KD:grants (jn s m.to) m.no≠ []:=by
    intro z;unfold standing at hst;rw [z] at hst;cases hst
   have ZaQ:∀x,((Qk (jn s m.to) m.no).map gI).getLast? =some x→x.num=(m.g:Int):=by
    intro x hx;unfold Qk at hx;rw [List.getLast?_map,List.getLast?_map] at hx;unfold standing at hst;cases e:(grants (jn s m.to) m.no).getLast? with
    | none=>rw [e] at hx;cases hx
    | some z=>
     rw [e] at hx hst;simp only [] at hst;split at hst
     ·cases hst
     ·have e1:z=q:=Option.some.inj hst;have e2:gI (gOf (jn s m.to) z)=x:=Option.some.inj hx;rw [←e2,←hg,←e1];rfl
   have jbo:∀x∈((Qk (jn s m.to) m.no).map gI).dropLast,x.num≠(m.g:Int):=by
    obtain ⟨z,hz⟩:∃z,((Qk (jn s m.to) m.no).map gI).getLast? =some z:=by
     cases e:((Qk (jn s m.to) m.no).map gI).getLast? with
     | none=>
      rw [List.getLast?_eq_none_iff] at e;unfold Qk at e;simp at e;exact absurd e KD
     | some z=>exact ⟨z,rfl⟩
    have hzn:=ZaQ z hz;obtain ⟨ys,hys⟩:=List.getLast?_eq_some_iff.mp hz;have nd:(((Qk (jn s m.to) m.no).map gI).map (·.num)).Nodup:=by
     rw [Ybt];exact List.nodup_iff_pairwise_ne.mpr (List.pairwise_map.mpr ((List.nodup_iff_pairwise_ne.mp List.nodup_range').imp fun h e=>h (by omega)))
    rw [hys] at nd⊢;rw [List.dropLast_concat];intro x hx e;rw [List.map_append,List.nodup_append] at nd;exact nd.2.2 x.num (List.mem_map.mpr ⟨x,hx,rfl⟩) z.num (by simp) (by rw [e,hzn])
   rw [UaL jbo ZaQ,List.map_map,List.map_map];refine List.map_congr_left fun x _=>?_;simp only [Function.comp];by_cases e:x.num=m.g
   ·rw [if_pos e,if_pos (by show (x.num:Int)=m.g;rw [e])];rfl
   ·rw [if_neg e,if_neg (by show¬(x.num:Int)=m.g;omega)]
  show ({Ym (xg s.fee (jn s m.to) y) with gs:=Vj ((Qk (jn s m.to) y.no).map gI)}:Qe)=_;rw [hy,key];unfold Ym xg;simp only [];rw [hy]
 ·rw [if_neg h,if_neg h];exact R
theorem UaJ{M:Mw}{s:State}{m:Msg}(R:Rel M s)(g:Good s)(ht:m.to<s.offices.length)(hu:(officeAt s m.to).up=true):
  ∃t o,onDid s m=(match o with | none=>t | some a=>{t with msgs:=t.msgs++ [a]})∧t.msgs=s.msgs∧Rel (Ul M (Kk m)).1 t∧(Ul M (Kk m)).2=o.map Kk∧(∀a,o=some a→a=⟨if paid (jn s m.to) m.no m.g=true then 4 else 5,m.no,m.g,m.to,m.from_,0,0,false⟩):=by
 have hp:pending (officeAt s m.to).journal=none:=g.up _ hu;have wr:Rel (xn M m.to m.no m.g) (put s m.to ⟨9,m.no,m.g,0,0,0,0⟩):=by
  refine Z3 R ht (((Xg _ _ _).trans (vm _ _ _ _)).trans (zo _ _ _ _ _)) ?_;exact je.claim (R.at_ _ ht) (q:=⟨9,m.no,m.g,0,0,0,0⟩) hp (.inr rfl) (yaD rfl fun z=>yD g z) (fun c=>rfl) fun z=>yD g z
 have ed:Ul M (Kk m)=(if paid (jn s m.to) m.no m.g=true then (M,some (wg (Kk m) 4)) else if never (jn s m.to) m.no m.g=true then (M,some (wg (Kk m) 5))
   else if (mayOf (jn s m.to) m.no m.g).isSome=true∧clockOf s m.to<((mayOf (jn s m.to) m.no m.g).map (fun (y:Rec)=>y.d)).getD 0 then (M,none) else (xn M m.to m.no m.g,some (wg (Kk m) 5)):Mw×Option Je):=by
  unfold Ul;simp only [];rw [show (Kk m).receiver.toNat=m.to from Int.toNat_natCast _,show (Kk m).order=(m.no:Int) from rfl,show (Kk m).yc=(m.g:Int) from rfl,wU R g ht,qT R ht];rfl
 rw [ed];unfold onDid;simp only [];by_cases h1:paid (officeAt s m.to).journal m.no m.g=true
 ·rw [if_pos h1,if_pos h1];exact ⟨s,some ⟨4,m.no,m.g,m.to,m.from_,0,0,false⟩,rfl,rfl,R,rfl,fun a e=>by cases e;rw [if_pos h1]⟩
 ·rw [if_neg h1,if_neg h1];by_cases h2:never (officeAt s m.to).journal m.no m.g=true
  ·rw [if_pos h2,if_pos h2];exact ⟨s,some ⟨5,m.no,m.g,m.to,m.from_,0,0,false⟩,rfl,rfl,R,rfl,fun a e=>by cases e;rw [if_neg h1]⟩
  ·rw [if_neg h2,if_neg h2];cases e:mayOf (officeAt s m.to).journal m.no m.g with
   | none=>
    simp only [];rw [if_neg (fun z=>by cases z.1)];exact ⟨_,some ⟨5,m.no,m.g,m.to,m.from_,0,0,false⟩,rfl,rfl,wr,rfl,fun a e=>by cases e;rw [if_neg h1]⟩
   | some r=>
    simp only [];simp only [Option.isSome_some,Option.map_some,Option.getD_some];by_cases h3:clockOf s m.to<r.d
    ·rw [if_pos h3,if_pos ⟨trivial,h3⟩];exact ⟨s,none,rfl,rfl,R,rfl,nofun⟩
    ·rw [if_neg h3,if_neg (fun z=>h3 z.2)];exact ⟨_,some ⟨5,m.no,m.g,m.to,m.from_,0,0,false⟩,rfl,rfl,wr,rfl,fun a e=>by cases e;rw [if_neg h1]⟩
theorem ybs{M:Mw}{s:State}{m:Msg}(R:Rel M s)(g:Good s)(hm:qG s m)(hu:(officeAt s m.to).up=true):∃t o,kbr M s m.to m t o:=by
 have k1:(Kk m).kind=1↔m.kind=1:=by show (m.kind:Int)=1↔_;omega
 have k2:(Kk m).kind=2↔m.kind=2:=by show (m.kind:Int)=2↔_;omega
 have k4:(Kk m).kind=4↔m.kind=4:=by show (m.kind:Int)=4↔_;omega
 have k5:(Kk m).kind=5↔m.kind=5:=by show (m.kind:Int)=5↔_;omega
 have k6:(Kk m).kind=6↔m.kind=6:=by show (m.kind:Int)=6↔_;omega
 by_cases h1:m.kind=1
 ·obtain ⟨t,a,e1,e2,e3,e4⟩:=Va5 R g hm h1 hu;refine ⟨t,some a,?_,e2,?_,?_⟩
  ·unfold received;rw [if_pos h1];exact e1
  ·unfold xc;rw [if_pos (k1.mpr h1)];exact e3
  ·unfold xc;rw [if_pos (k1.mpr h1)];exact e4
 ·by_cases h2:m.kind=2
  ·refine ⟨if never (officeAt s m.to).journal m.no m.g=true then s else onMay s m,none,?_,?_,?_,?_⟩
   ·unfold received;rw [if_neg h1,if_pos h2]
   ·split
    ·rfl
    ·unfold onMay;split<;>rfl
   ·unfold xc;rw [if_neg (fun z=>h1 (k1.mp z)),if_pos (k2.mpr h2)];exact Ka3 R g hm.to hu
   ·unfold xc;rw [if_neg (fun z=>h1 (k1.mp z)),if_pos (k2.mpr h2)];rfl
  ·by_cases h4:m.kind=4
   ·refine ⟨onPaid s m,none,?_,?_,?_,?_⟩
    ·unfold received;rw [if_neg h1,if_neg h2,if_pos h4]
    ·exact z4 s m
    ·unfold xc;rw [if_neg (fun z=>h1 (k1.mp z)),if_neg (fun z=>h2 (k2.mp z)),if_pos (k4.mpr h4)];exact XaC R g hm.to hu
    ·unfold xc;rw [if_neg (fun z=>h1 (k1.mp z)),if_neg (fun z=>h2 (k2.mp z)),if_pos (k4.mpr h4)];rfl
   ·by_cases h5:m.kind=5
    ·refine ⟨onNever s m,none,?_,?_,?_,?_⟩
     ·unfold received;rw [if_neg h1,if_neg h2,if_neg h4,if_pos h5]
     ·exact JY s m
     ·unfold xc;rw [if_neg (fun z=>h1 (k1.mp z)),if_neg (fun z=>h2 (k2.mp z)),if_neg (fun z=>h4 (k4.mp z)),if_pos (k5.mpr h5)];exact yat R g hm.to hu
     ·unfold xc;rw [if_neg (fun z=>h1 (k1.mp z)),if_neg (fun z=>h2 (k2.mp z)),if_neg (fun z=>h4 (k4.mp z)),if_pos (k5.mpr h5)];rfl
    ·by_cases h6:m.kind=6
     ·obtain ⟨t,o,e1,e2,e3,e4,_⟩:=UaJ R g hm.to hu;refine ⟨t,o,?_,e2,?_,?_⟩
      ·unfold received;rw [if_neg h1,if_neg h2,if_neg h4,if_neg h5,if_pos h6];exact e1
      ·unfold xc;rw [if_neg (fun z=>h1 (k1.mp z)),if_neg (fun z=>h2 (k2.mp z)),if_neg (fun z=>h4 (k4.mp z)),if_neg (fun z=>h5 (k5.mp z)),if_pos (k6.mpr h6)];exact e3
      ·unfold xc;rw [if_neg (fun z=>h1 (k1.mp z)),if_neg (fun z=>h2 (k2.mp z)),if_neg (fun z=>h4 (k4.mp z)),if_neg (fun z=>h5 (k5.mp z)),if_pos (k6.mpr h6)];exact e4
     ·refine ⟨s,none,?_,rfl,?_,?_⟩
      ·unfold received;rw [if_neg h1,if_neg h2,if_neg h4,if_neg h5,if_neg h6]
      ·unfold xc;rw [if_neg (fun z=>h1 (k1.mp z)),if_neg (fun z=>h2 (k2.mp z)),if_neg (fun z=>h4 (k4.mp z)),if_neg (fun z=>h5 (k5.mp z)),if_neg (fun z=>h6 (k6.mp z))];exact R
      ·unfold xc;rw [if_neg (fun z=>h1 (k1.mp z)),if_neg (fun z=>h2 (k2.mp z)),if_neg (fun z=>h4 (k4.mp z)),if_neg (fun z=>h5 (k5.mp z)),if_neg (fun z=>h6 (k6.mp z))];rfl
end Mo
namespace Mo
open Vbpoak
theorem ff(a:Int)(l:List Int):firstFault (a::l)=Wb a (firstFault l):=rfl
theorem ff1(a:Int):firstFault [a]=a:=by
 show (if a=0 then 0 else a)=a;split
 ·rename_i h;exact h.symm
 ·rfl
theorem yz(b:Int):Wb 0 b=b:=rfl
theorem Ku{a:Int}(h:a≠0)(b:Int):Wb a b=a:=if_neg h
theorem Vd{a b:Int}:Wb a b=0↔a=0∧b=0:=by
 unfold Wb;split
 ·rename_i h;exact ⟨fun z=>⟨h,z⟩,fun z=>z.2⟩
 ·rename_i h;exact ⟨fun z=>absurd z h,fun z=>absurd z.1 h⟩
theorem fl0(f:Int):VbpoakNeutral.flatAns ⟨f, []⟩= [f]:=rfl
theorem fl1(f:Int)(r:List Int):VbpoakNeutral.flatAns ⟨f, [r]⟩=f::r:=by
 show f::(if 1≤1 then [r].flatten else _)=_;rw [if_pos (by decide)];simp
theorem qe{n:Int}{lo hi:Nat}:outI n lo hi=when_ (!inside n lo hi) (-12):=by
 unfold outI when_ inside;by_cases h:(lo:Int)≤n∧n≤(hi:Int)
 ·rw [if_pos h];simp [h.1,h.2]
 ·rw [if_neg h];by_cases h1:(lo:Int)≤n
  ·have:¬n≤(hi:Int):=fun z=>h ⟨h1,z⟩;simp [h1,this]
  ·simp [h1]
theorem uS(a b:Bool)(n:Int):when_ (!(a && b)) n=Wb (when_ (!a) n) (when_ (!b) n):=by
 cases a<;>cases b<;>simp [when_,Wb]
theorem vg(a b c:Int):Wb (Wb a b) c=Wb a (Wb b c):=by
 unfold Wb;by_cases h:a=0
 ·simp [h]
 ·simp [h]
section
variable{M:Mw}{s:State}
theorem ZH(R:Rel M s)(o:Int):jh M o=isOffice s o:=by
 unfold jh isOffice when_;rw [R.k];by_cases h:0≤o∧o<(s.offices.length:Int)
 ·rw [if_pos h];simp [h.1,h.2]
 ·rw [if_neg h];by_cases h1:0≤o
  ·have:¬o<(s.offices.length:Int):=fun z=>h ⟨h1,z⟩;simp [h1,this]
  ·simp [h1]
theorem down_eq(R:Rel M s){o:Int}(ho:o.toNat<s.offices.length):WS M o=when_ (!(officeAt s o.toNat).up) (-6):=by
 unfold WS when_;rw [(R.at_ _ ho).up];cases (officeAt s o.toNat).up<;>rfl
theorem ym(R:Rel M s)(o:Int):uj M o=upFault s o:=by
 unfold uj upFault;rw [ff,ff1,ZH R];by_cases h:isOffice s o=0
 ·rw [h,yz,yz,down_eq R (qi.mp h).2]
 ·rw [Ku h,Ku h]
theorem yac(R:Rel M s):uy M=full s:=by
 unfold uy full when_ MOSTMSGS;rw [R.ms,List.length_map];simp
theorem map_range(R:Rel M s){α:Type}{f:Nat→α}{g:Office→α}(h:∀i,i<s.offices.length→f i=g (officeAt s i)):(List.range M.k).map f=s.offices.map g:=by
 rw [R.k];apply List.ext_getElem
 ·simp
 ·intro i h1 h2;simp at h1;rw [List.getElem_map,List.getElem_map,List.getElem_range,h i h1];unfold officeAt;rw [List.getElem?_eq_getElem h1];rfl
theorem jaZ(l:List Nat):∀a:Nat,((l.foldl (fun a b=>a+b) a:Nat):Int)=(a:Int)+(l.map fun (n:Nat)=>(n:Int)).sum:=by
 induction l with
 | nil=>intro a;simp
 | cons x r ih=>intro a;rw [List.foldl_cons,ih,List.map_cons,List.sum_cons];omega
theorem yax(l:List Nat):((l.foldl (fun a b=>a+b) 0:Nat):Int)=(l.map fun (n:Nat)=>(n:Int)).sum:=by
 rw [jaZ];simp
theorem qaV(R:Rel M s):UaG M=(drawers s:Int):=by
 unfold UaG drawers;rw [yax,List.map_map,map_range R (g:=fun x=>(x.drawer:Int)) fun i hi=>(R.at_ i hi).drawer];rfl
theorem uaV(R:Rel M s)(z:Int):Zan M z=when_ (decide ((MOST:Int)<(drawers s:Int)+z)) (-8):=by
 unfold Zan when_ MOST;rw [qaV R];simp
theorem ja8(R:Rel M s){o:Int}(ho:o.toNat<s.offices.length):Zax M o=when_ (decide (100≤((officeAt s o.toNat).journal.filter fun r=>r.kind==2 && r.b==1).length)) (-9):=by
 unfold Zax when_;rw [(R.at_ _ ho).begun];show (if (100:Int)≤(ze (jn s o.toNat):Int) then _ else _)=if decide (100≤ze (jn s o.toNat))=true then _ else _
 by_cases h:100≤ze (jn s o.toNat)
 ·rw [if_pos (by omega),if_pos (by simpa using h)]
 ·rw [if_neg (by omega),if_neg (by simpa using h)]
theorem K3(n:Int)(h:0≤n):Jr n=((issuerOf n.toNat:Nat):Int):=by
 unfold Jr issuerOf;omega
theorem zak(R:Rel M s){n:Int}(h:0≤n):jh M (Jr n)=when_ (decide (s.offices.length≤issuerOf n.toNat)) (-5):=by
 unfold jh when_;rw [K3 n h,R.k];by_cases q:s.offices.length≤issuerOf n.toNat
 ·rw [if_neg (by omega),if_pos (by simpa using q)]
 ·rw [if_pos (by omega),if_neg (by simpa using q)]
theorem KA{n lo hi:Int}:outI n lo hi=0↔lo≤n∧n≤hi:=by
 unfold outI;split
 ·rename_i h;exact ⟨fun _=>h,fun _=>rfl⟩
 ·rename_i h;exact ⟨fun z=>absurd z (by decide),fun z=>absurd z h⟩
theorem QT{r f:Int}{A:Mw×List Int}{x:State×Ans}(e:r=f)(R:Rel M s)(h:r=0→Rel A.1 x.1∧A.2=VbpoakNeutral.flatAns x.2):
  Rel (if r=0 then A else (M, [r])).1 (refuseOr s f x).1∧(if r=0 then A else (M, [r])).2=VbpoakNeutral.flatAns (refuseOr s f x).2:=by
 subst e;unfold refuseOr;by_cases h0:r=0
 ·rw [if_pos h0,if_pos h0];exact h h0
 ·rw [if_neg h0,if_neg h0];exact ⟨R,rfl⟩
theorem Y2(R:Rel M s){k n g f t a:Nat}{d:Int}{m:Je}(e:m=Kk ⟨k,n,g,f,t,a,d,false⟩):Rel (zG M m) (send s k n g f t a d):=
 ⟨R.time,R.fee,R.life,R.lease,R.k,by show M.ms++ [m]=(s.msgs++ [_]).map Kk;rw [R.ms,List.map_append,e];rfl,fun i hi=>(let r:=R.at_ i hi;⟨r.up,r.off,r.drawer,r.jr,r.begun,r.ub,r.Kc,r.ord,r.cl⟩)⟩
theorem YU(R:Rel M s){k n g f t a:Nat}{d:Int}:(M.ms.length:Int)=lastMsg (send s k n g f t a d):=by
 unfold lastMsg send;rw [R.ms];simp
def Ve(M:Mw)(s:State)(A:Mw×List Int)(x:State×Ans):Prop:=Rel A.1 x.1∧A.2=VbpoakNeutral.flatAns x.2
theorem Wa7{n f l k:Int}(hn:0≤n)(hf:0≤f)(hl:0≤l)(hk:0≤k):Rel (Zz n f l k) ⟨List.replicate n.toNat ⟨[],0,true,0⟩,0,f.toNat,l.toNat,k.toNat, []⟩:=by
 refine ⟨rfl,(Int.toNat_of_nonneg hf).symm,(Int.toNat_of_nonneg hl).symm,(Int.toNat_of_nonneg hk).symm,by simp [Zz],rfl,fun i hi=>?_⟩;have e:officeAt ⟨List.replicate n.toNat ⟨[],0,true,0⟩,0,f.toNat,l.toNat,k.toNat, []⟩ i=⟨[],0,true,0⟩:=by
  unfold officeAt;simp at hi;simp [hi]
 rw [e];exact ⟨rfl,rfl,rfl,rfl,rfl,rfl,rfl,fun r hr=>hr.elim nofun (fun z=>nomatch z.1),nofun⟩
theorem wa7(R:Rel M s)(n f l k:Int):Ve M s (kU M n f l k) (step s (.begin_ n f l k)):=by
 unfold Ve kU;simp only [step];have e:Wb (outI n 1 5) (Wb (outI f 0 1000) (Wb (outI l 1 1000000) (outI k 1 1000000)))=if inside n 1 OFFICES=false∨inside f 0 1000=false∨inside l 1 1000000=false∨inside k 1 1000000=false then-12 else 0:=by
  have a1:= @qe n 1 5;have a2:= @qe f 0 1000;have a3:= @qe l 1 1000000;have a4:= @qe k 1 1000000;show Wb (outI n 1 5) (Wb (outI f 0 1000) (Wb (outI l 1 1000000) (outI k 1 1000000)))=if inside n 1 5=false∨_ then _ else _
  rw [show outI n 1 5=_ from a1,show outI f 0 1000=_ from a2,show outI l 1 1000000=_ from a3,show outI k 1 1000000=_ from a4];have key:∀a b c d:Bool,Wb (when_ (!a) (-12)) (Wb (when_ (!b) (-12)) (Wb (when_ (!c) (-12)) (when_ (!d) (-12))))=if a=false∨b=false∨c=false∨d=false then-12 else 0:=by
   intro a b c d;cases a<;>cases b<;>cases c<;>cases d<;>rfl
  exact key _ _ _ _
 by_cases h:inside n 1 OFFICES=false∨inside f 0 1000=false∨inside l 1 1000000=false∨inside k 1 1000000=false
 ·rw [if_pos h] at e⊢;rw [e];exact ⟨R,rfl⟩
 ·rw [if_neg h] at e⊢;rw [e];rw [Vd,Vd,Vd,KA,KA,KA,KA] at e;exact ⟨Wa7 (by omega) (by omega) (by omega) (by omega),rfl⟩
theorem Jbf(R:Rel M s)(ht:0≤s.time)(n:Int):Ve M s (K9 M n) (step s (.pass n)):=by
 unfold Ve K9;simp only [step];rw [R.time];have a1:= @qe n 0 1000000;have e:Wb (outI n 0 1000000) (outI (s.time+n) 0 1000000000)=if inside n 0 1000000=false∨(MOST:Int)<s.time+n then-12 else 0:=by
  rw [show outI n 0 1000000=_ from a1];unfold MOST;by_cases hn:inside n 0 1000000=true
  ·have hn2:0≤n:=by
    unfold inside at hn;simp at hn;exact hn.1
   rw [hn];show Wb 0 _=_;rw [yz];unfold outI;by_cases h:(1000000000:Int)<s.time+n
   ·rw [if_neg (by omega),if_pos (.inr h)]
   ·rw [if_pos (by omega),if_neg (fun z=>z.elim (by simp) h)]
  ·have hn:inside n 0 1000000=false:=by simpa using hn
   rw [hn,if_pos (.inl rfl)];rfl
 by_cases h:inside n 0 1000000=false∨(MOST:Int)<s.time+n
 ·rw [if_pos h] at e⊢;rw [e];exact ⟨R,rfl⟩
 ·rw [if_neg h] at e⊢;rw [e];exact ⟨⟨rfl,R.fee,R.life,R.lease,R.k,R.ms,fun i hi=>let r:=R.at_ i hi;⟨r.up,r.off,r.drawer,r.jr,r.begun,r.ub,r.Kc,r.ord,r.cl⟩⟩,rfl⟩
theorem Ua7(R:Rel M s)(o z:Int):Ve M s (jT M o z) (step s (.clock o z)):=by
 unfold Ve jT;simp only [step];have e:Wb (jh M o) (outI z (-100000) 100000)=firstFault [isOffice s o,when_ (!(decide (-100000≤z) && decide (z≤100000))) (-12)]:=by
  rw [ff,ff1,ZH R]
  congr 1
  unfold outI when_;by_cases h: -100000≤z∧z≤100000
  ·rw [if_pos h];simp [h.1,h.2]
  ·rw [if_neg h];by_cases h1: -100000≤z
   ·have:¬z≤100000:=fun q=>h ⟨h1,q⟩;simp [h1,this]
   ·simp [h1]
 refine QT e R fun h0=>?_;rw [Vd,ZH R] at h0;have hi:=qi.mp h0.1;refine ⟨R.set hi.2 {Zp.refl M o.toNat with off:=fun j h=>Xe h} ?_,?_⟩
 ·have r:=R.at_ _ hi.2
  exact ⟨r.up,Ub _ _ _,r.drawer,r.jr,r.begun,r.ub,r.Kc,r.ord,r.cl⟩
 ·show [0,M.time+z]=_;rw [fl1,R.time]
theorem kbg(R:Rel M s)(g:Good s)(o n:Int):Ve M s (X9 M o n) (step s (.fill o n)):=by
 unfold Ve X9;simp only [step];refine QT (by rw [ff,ff,ff1,ym R,uaV R,show outI n 1 1000000000=_ from @qe n 1 MOST]) R fun h0=>?_
 rw [Vd,Vd,ym R,KA] at h0;have hu:=Uc.mp h0.1;have hp:pending (officeAt s o.toNat).journal=none:=g.up _ hu.2.2;have ra:=R.at_ _ hu.2.1
 refine ⟨R.set hu.2.1 ((Xg _ _ _).trans (Zas _ _ _)) ?_,?_⟩
 ·have r1:=je.plain ra (q:=⟨1,0,0,n.toNat,0,0,0⟩) (.inl hp) (by show (1:Nat)≠2;decide) (by show (1:Nat)≠5;decide) (by show (1:Nat)≠6;decide) (by show (1:Nat)≠7;decide) (by show (1:Nat)≠8;decide) (by show (1:Nat)≠9;decide);have e:qX (pending (officeAt s o.toNat).journal) ⟨1,0,0,n.toNat,0,0,0⟩= .bank n:=by
   show JR.bank ((n.toNat:Nat):Int)=_;rw [Int.toNat_of_nonneg (by omega)]
  rw [e] at r1;exact je.Qy r1 (z:=n) (d:=(officeAt s o.toNat).drawer+n.toNat) (by show ((officeAt s o.toNat).drawer:Int)+n=_;omega)
 ·show [M.drawer o.toNat+n]=_;rw [fl0,ra.drawer]
  congr 1
  omega
theorem Za9(R:Rel M s)(g:Good s)(o a k c:Int):Ve M s (QU M o a k c) (step s (.issue o a k c)):=by
 unfold Ve QU;simp only [step];have e:Wb (uj M o) (Wb (outI a 1 1000000) (Wb (outI k 0 9999) (Wb (outI c 0 3) (Wb (Zan M (a+M.fee)) (Zax M o)))))=firstFault [upFault s o,when_ (!(inside a 1 1000000 && (inside k 0 9999 && inside c 0 3))) (-12),when_ (decide ((MOST:Int)<(drawers s:Int)+a+s.fee)) (-8),when_ (decide (100≤((officeAt s o.toNat).journal.filter fun r=>r.kind==2 && r.b==1).length)) (-9)]:=by
  rw [ff,ff,ff,ff1,ym R];by_cases h:upFault s o=0
  ·rw [h,yz,yz,uS,uS,uaV R,ja8 R (Uc.mp h).2.1,show outI a 1 1000000=_ from @qe a 1 1000000,show outI k 0 9999=_ from @qe k 0 9999,show outI c 0 3=_ from @qe c 0 3,R.fee,Int.add_assoc,vg,vg]
  ·rw [Ku h,Ku h]
 refine QT e R fun h0=>?_;rw [Vd,Vd,Vd,Vd,ym R,KA,KA,KA] at h0;have hu:=Uc.mp h0.1;have hp:pending (officeAt s o.toNat).journal=none:=g.up _ hu.2.2;have ra:=R.at_ _ hu.2.1
 have en:(M.begun o.toNat+1)*10+o=(((ze (jn s o.toNat)+1)*10+o.toNat:Nat):Int):=by
  rw [ra.begun];show ((ze (jn s o.toNat):Int)+1)*10+o=_;omega
 obtain ⟨n1,n2,n3,n4⟩:=WaJ g (o:=o.toNat) (n:=(ze (jn s o.toNat)+1)*10+o.toNat) rfl;have ek:zd M o.toNat+M.life=clockOf s o.toNat+s.life:=by rw [qT R hu.2.1,R.life]
 have ea:(⟨1,(M.begun o.toNat+1)*10+o,a+M.fee,0⟩:Xj)=xu ⟨2,(ze (jn s o.toNat)+1)*10+o.toNat,0,a.toNat+s.fee,1,k.toNat,clockOf s o.toNat+s.life⟩:=by
  unfold xu cashOf;rw [en,R.fee];simp;omega
 have ec:c=((c.toNat:Nat):Int):=by omega
 refine ⟨?_,?_⟩
 ·show Rel (vd (ug M o.toNat ((M.begun o.toNat+1)*10+o) ⟨a,k,zd M o.toNat+M.life, [],false,false⟩) o.toNat ⟨1,(M.begun o.toNat+1)*10+o,a+M.fee,0⟩ c) _;rw [ea,en,ek];have R1:=R.ug (i:=o.toNat) (n:=(ze (jn s o.toNat)+1)*10+o.toNat) (o:=⟨a,k,clockOf s o.toNat+s.life, [],false,false⟩) hp n1;have:=R1.act g (i:=o.toNat) (cut:=c.toNat) (r:=⟨2,(ze (jn s o.toNat)+1)*10+o.toNat,0,a.toNat+s.fee,1,k.toNat,clockOf s o.toNat+s.life⟩) hu.2.2 rfl (.inl rfl) ?_ (fun _=>n1) ?_
  ·rw [←ec] at this;exact this
  ·intro _;show (if o.toNat=o.toNat∧_ then _ else _)=_;rw [if_pos ⟨rfl,rfl⟩]
   congr 1
   unfold Ym xg;simp only [];have h1:Qk (jn s o.toNat++ [⟨2,(ze (jn s o.toNat)+1)*10+o.toNat,0,a.toNat+s.fee,1,k.toNat,clockOf s o.toNat+s.life⟩]) ((ze (jn s o.toNat)+1)*10+o.toNat)= []:=by
    rw [QC _ _ _ (by show (2:Nat)≠6;decide) (by show¬((2:Nat)=5∧_);omega)];unfold Qk;rw [n2];rfl
   rw [h1,vj,Qi,n3,n4,show pending (jn s o.toNat)=none from hp];simp [fin];omega
  ·show 0≤((officeAt s o.toNat).drawer:Int)+cashOf _;unfold cashOf;simp;omega
 ·show [(M.begun o.toNat+1)*10+o]=_;rw [en,fl0];rfl
theorem JaW(R:Rel M s)(p n k:Int):Ve M s (qy M p n k) (step s (.present p n k)):=by
 unfold Ve qy;simp only [step];have e:Wb (uj M p) (Wb (outI n 0 100000) (Wb (outI k 0 9999) (Wb (jh M (Jr n)) (uy M))))=firstFault [upFault s p,when_ (!(inside n 0 100000 && inside k 0 9999)) (-12),when_ (decide (s.offices.length≤issuerOf n.toNat)) (-5),full s]:=by
  rw [ff,ff,ff,ff1,ym R,yac R,uS,vg,←show outI n 0 100000=_ from @qe n 0 100000,←show outI k 0 9999=_ from @qe k 0 9999]
  congr 1
  by_cases h:outI n 0 100000=0
  ·rw [h,yz,yz,zak R (KA.mp h).1]
  ·rw [Ku h,Ku h]
 refine QT e R fun h0=>?_;rw [Vd,Vd,Vd,ym R,KA,KA] at h0;have hu:=Uc.mp h0.1;refine ⟨Y2 R ?_,?_⟩
 ·unfold Kk;simp only [];rw [K3 n (by omega),Int.toNat_of_nonneg hu.1,Int.toNat_of_nonneg (show 0≤n by omega),Int.toNat_of_nonneg (show 0≤k by omega)];rfl
 ·show [(M.ms.length:Int)]=_;rw [fl0,YU R]
end
end Mo
namespace Mo
open Vbpoak
section
variable{M:Mw}{s:State}
theorem Vae(R:Rel M s)(g:Good s){i:Nat}(hi:i<s.offices.length)(n:Nat):
  qd M i n=((jn s i).filter fun r=>r.kind==8 && r.no==n).map fun r=>((r.g:Int),(⟨r.a,r.d,true,paid (jn s i) n r.g,never (jn s i) n r.g⟩:Jn)):=by
 have h:=congrArg (List.map fun p:Nat×Cl=>((p.1:Int),clI p.2)) (JaQ g i n);rw [List.map_map,List.map_map] at h;unfold Zk at h;rw [List.filter_map,List.map_map] at h;refine Eq.trans ?_ (h.trans ?_)
 ·unfold qd;rw [(R.at_ i hi).Kc,List.filter_map,List.map_map];have e1:((fun k:Int×Int=>k.1==(n:Int) && (Yf M i k.1 k.2).known)∘zP)=((fun x:(Nat×Nat)×Cl=>x.1.1==n && x.2.known)∘fun k=>(k,Zo (jn s i) k)):=by
   funext k
   simp only [Function.comp,zP];rw [wU R g hi]
   congr 1
   rw [Bool.eq_iff_iff];simp only [beq_iff_eq];omega
  rw [e1];refine List.map_congr_left fun k _=>?_;simp only [Function.comp,zP];rw [wU R g hi]
 ·rfl
theorem Uas(R:Rel M s)(g:Good s){i:Nat}(hi:i<s.offices.length)(n:Nat):Kg M i n=(payable (jn s i) n).map fun r=>((r.g:Int),(⟨r.a,r.d,true,false,false⟩:Jn)):=by
 unfold Kg payable;rw [Vae R g hi,List.filter_map,List.getLast?_map];have e:((fun p:Int×Jn=>UU p.2)∘fun r:Rec=>((r.g:Int),(⟨r.a,r.d,true,paid (jn s i) n r.g,never (jn s i) n r.g⟩:Jn)))=fun r:Rec=> !never (jn s i) n r.g && !paid (jn s i) n r.g:=by
  funext r
  simp only [Function.comp,UU,Bool.true_and];exact Bool.and_comm _ _
 rw [e];cases e2:(((jn s i).filter fun r=>r.kind==8 && r.no==n).filter fun r=> !never (jn s i) n r.g && !paid (jn s i) n r.g).getLast? with
 | none=>rfl
 | some r=>
  have hm:=List.mem_of_getLast? e2;rw [List.mem_filter] at hm;have h2:=hm.2;simp at h2;simp only [Option.map_some];rw [h2.1,h2.2]
theorem KS(M:Mw)(m:Je):Zp M (xc M m).1 m.receiver.toNat:=by
 have kn:∀i n g c t,Zp M (Yap M i n g c t) i:=fun i n g c t=>((Xg _ _ _).trans (vm _ _ _ _)).trans (zo _ _ _ _ _);have ge:∀i n g,Zp M (xn M i n g) i:=fun i n g=>((Xg _ _ _).trans (vm _ _ _ _)).trans (zo _ _ _ _ _);have md:∀i n f,Zp M (Ze (jc M i .other) i n f) i:=fun i n f=>(Xg _ _ _).trans (KC _ _ _ _);unfold xc;split
 ·unfold jC;simp only [];split
  ·exact Zp.refl _ _
  ·split
   ·exact Zp.refl _ _
   ·split
    ·split
     ·exact Zp.refl _ _
     ·exact md _ _ _
    ·split
     ·exact Zp.refl _ _
     ·exact Zp.refl _ _
 ·split
  ·show Zp M (XG M m) _;unfold XG;simp only [];split
   ·exact kn _ _ _ _ _
   ·exact Zp.refl _ _
  ·split
   ·show Zp M (WC M m) _;unfold WC;split
    ·exact md _ _ _
    ·exact Zp.refl _ _
   ·split
    ·show Zp M (XC M m) _;unfold XC;split
     ·exact md _ _ _
     ·exact Zp.refl _ _
    ·split
     ·unfold Ul;simp only [];split
      ·exact Zp.refl _ _
      ·split
       ·exact Zp.refl _ _
       ·split
        ·exact Zp.refl _ _
        ·exact ge _ _ _
     ·exact Zp.refl _ _
theorem Uw{n:Int}(h:0≤n):n=((n.toNat:Nat):Int):=(Int.toNat_of_nonneg h).symm
theorem waW(R:Rel M s)(g:Good s)(m:Int):Ve M s (Ju M m) (step s (.deliver m)):=by
 unfold Ve Ju;simp only [step];have el:(M.ms.length:Int)=(s.msgs.length:Int):=by rw [R.ms,List.length_map]
 rw [el];by_cases h:m<0∨(s.msgs.length:Int)≤m
 ·rw [if_pos h,if_neg (by omega)];exact ⟨R,rfl⟩
 ·rw [if_neg h,if_pos (by omega),show M.ms[m.toNat]? =(s.msgs[m.toNat]?).map Kk by rw [R.ms,List.getElem?_map]];cases e:s.msgs[m.toNat]? with
  | none=>exact ⟨R,rfl⟩
  | some x=>
   have hm:=g.msgs x (List.mem_of_getElem? e);simp only [Option.map_some];have ef:Wb (if (Kk x).gone=true then-4 else WS M (Kk x).receiver) (uy M)=firstFault [when_ x.gone (-4),when_ (!(officeAt s x.to).up) (-6),full s]:=by
    rw [ff,ff,ff1,yac R,←vg]
    congr 1
    show (if x.gone=true then (-4:Int) else WS M (x.to:Int))=_;rw [down_eq R (o:=(x.to:Int)) (by rw [Int.toNat_natCast];exact hm.to),Int.toNat_natCast];cases x.gone<;>rfl
   refine QT ef R fun h0=>?_;rw [ef,ff,ff,Vd,Vd] at h0;have hup:(officeAt s x.to).up=true:=by
    have:=(kC (by decide)).mp h0.2.1;simpa using this
   obtain ⟨t,o,T⟩:=ybs R g hm hup;have ho:=T.out;have hl:s.offices.length=t.offices.length:=by
    have h1:=T.rel.k;rw [(KS M (Kk x)).k,R.k] at h1;exact h1
   have hto:x.to<t.offices.length:=by rw [←hl];exact hm.to
   have w1:(xc M (Kk x)).1.jr (Kk x).receiver.toNat=jrs (officeAt t x.to).journal:=by
    rw [show (Kk x).receiver.toNat=x.to from Int.toNat_natCast _];exact (T.rel.at_ _ hto).jr
   have w2:M.jr (Kk x).receiver.toNat=jrs (officeAt s x.to).journal:=by
    rw [show (Kk x).receiver.toNat=x.to from Int.toNat_natCast _];exact (R.at_ _ hm.to).jr
   have tm:(xc M (Kk x)).1.ms.length=s.msgs.length:=by rw [T.rel.ms,List.length_map,T.ms]
   rw [T.eq];cases o with
   | none=>
    simp only [Option.map_none] at ho⊢;rw [ho];simp only [];rw [if_pos (by rw [T.ms]),w1,w2,kN,kN];refine ⟨T.rel,?_⟩;rw [fl1,T.ms];simp
   | some a=>
    simp only [Option.map_some] at ho⊢;rw [ho];simp only [];rw [if_neg (by rw [T.ms];simp),w1,w2,kN,kN];refine ⟨?_,?_⟩
    ·exact ⟨T.rel.time,T.rel.fee,T.rel.life,T.rel.lease,T.rel.k,by show _++ [Kk a]=(t.msgs++ [a]).map Kk;rw [T.rel.ms,List.map_append];rfl,fun i hi=>(let r:=T.rel.at_ i hi;⟨r.up,r.off,r.drawer,r.jr,r.begun,r.ub,r.Kc,r.ord,r.cl⟩)⟩
    ·rw [fl1,tm];have e5:((List.length (t.msgs++ [a])-s.msgs.length:Nat):Int)=1:=by rw [T.ms];simp
     unfold lastMsg;rw [e5];simp [T.ms];rfl
theorem XaR{α:Type}(l:List α)(i:Nat)(f:α→α){x:α}(h:l[i]? =some x):l.modify i f=l.set i (f x):=by
 apply List.ext_getElem?;intro j;rw [List.getElem?_modify,List.getElem?_set];by_cases e:i=j
 ·subst e;have hl:=(List.getElem?_eq_some_iff.mp h).1;rw [if_pos rfl,if_pos hl,h];simp
 ·rw [if_neg e];cases l[j]? <;>simp [e]
theorem wbf(R:Rel M s)(m:Int):Ve M s (Y3 M m) (step s (.lose m)):=by
 unfold Ve Y3;simp only [step];have el:(M.ms.length:Int)=(s.msgs.length:Int):=by rw [R.ms,List.length_map]
 rw [el];by_cases h:m<0∨(s.msgs.length:Int)≤m
 ·rw [if_pos h,if_neg (by omega)];exact ⟨R,rfl⟩
 ·rw [if_neg h,if_pos (by omega)];have hb:m.toNat<s.msgs.length:=by omega
  rw [List.getElem?_eq_getElem hb];simp only [];refine ⟨⟨R.time,R.fee,R.life,R.lease,R.k,?_,fun i hi=>(let r:=R.at_ i hi;⟨r.up,r.off,r.drawer,r.jr,r.begun,r.ub,r.Kc,r.ord,r.cl⟩)⟩,rfl⟩;show M.ms.modify m.toNat _=(s.msgs.set m.toNat _).map Kk;rw [R.ms,XaR _ _ _ (x:=Kk (s.msgs[m.toNat])) (by rw [List.getElem?_map,List.getElem?_eq_getElem hb];rfl),List.map_set];rfl
theorem wbm(R:Rel M s)(g:Good s)(p n c:Int):Ve M s (Wav M p n c) (step s (.pay p n c)):=by
 unfold Ve Wav;simp only [step];rw [ym R];have e12:Wb (outI n 0 100000) (outI c 0 3)=when_ (!(inside n 0 100000 && inside c 0 3)) (-12):=by
  rw [uS,show outI n 0 100000=_ from @qe n 0 100000,show outI c 0 3=_ from @qe c 0 3]
 rw [ff,ff1,←e12,←vg (outI n 0 100000),←vg (upFault s p)];generalize hf:Wb (upFault s p) (Wb (outI n 0 100000) (outI c 0 3))=f;by_cases h0:f=0
 ·rw [h0,yz];rw [h0,Vd,Vd,KA,KA] at hf;have hu:=Uc.mp hf.1;have hn:=Uw hf.2.1.1;unfold refuseOr;rw [if_pos rfl];unfold Kad;have hx:=Uas R g hu.2.1 n.toNat;rw [←hn] at hx;rw [hx];cases e:payable (officeAt s p.toNat).journal n.toNat with
  | none=>
   try rw [show payable (jn s p.toNat) n.toNat=none from e]
   exact ⟨R,rfl⟩
  | some r=>
   try rw [show payable (jn s p.toNat) n.toNat=some r from e]
   simp only [Option.map_some];rw [qT R hu.2.1,(R.at_ _ hu.2.1).drawer];by_cases h1:r.d≤clockOf s p.toNat
   ·rw [if_pos h1,if_pos h1];exact ⟨R,rfl⟩
   ·rw [if_neg h1,if_neg h1];by_cases h2:(officeAt s p.toNat).drawer<r.a
    ·rw [if_pos (show ((officeAt s p.toNat).drawer:Int)<(r.a:Int) by omega),if_pos h2];exact ⟨R,rfl⟩
    ·rw [if_neg (show¬((officeAt s p.toNat).drawer:Int)<(r.a:Int) by omega),if_neg h2,if_pos rfl];refine ⟨?_,rfl⟩;have:=R.act g (i:=p.toNat) (cut:=c.toNat) (r:=⟨2,n.toNat,r.g,r.a,2,0,0⟩) hu.2.2 rfl (.inr (.inl rfl)) nofun nofun (by show 0≤((officeAt s p.toNat).drawer:Int)+cashOf _;unfold cashOf;simp;omega);have ea:(⟨2,n,-(r.a:Int),r.g⟩:Xj)=xu ⟨2,n.toNat,r.g,r.a,2,0,0⟩:=by
      unfold xu cashOf;simp;omega
     rw [←Uw hf.2.2.1,←ea] at this;exact this
 ·rw [Ku h0];unfold refuseOr;rw [if_neg h0,if_neg h0];exact ⟨R,rfl⟩
theorem Xa5(R:Rel M s)(g:Good s)(p n:Int):Ve M s (WG M p n) (step s (.giveUp p n)):=by
 unfold Ve WG;simp only [step];rw [ym R,yac R,ff,ff,ff1,←show outI n 0 100000=_ from @qe n 0 100000,←vg (outI n 0 100000),←vg (upFault s p)];generalize hf:Wb (upFault s p) (Wb (outI n 0 100000) (full s))=f;by_cases h0:f=0
 ·rw [h0,yz];rw [h0,Vd,Vd,KA] at hf;have hu:=Uc.mp hf.1;have hn:=Uw hf.2.1.1;have hp:pending (officeAt s p.toNat).journal=none:=g.up _ hu.2.2;unfold refuseOr;rw [if_pos rfl];have hx:=Uas R g hu.2.1 n.toNat;rw [←hn] at hx;rw [hx];cases e:payable (officeAt s p.toNat).journal n.toNat with
  | none=>
   try rw [show payable (jn s p.toNat) n.toNat=none from e]
   exact ⟨R,rfl⟩
  | some r=>
   try rw [show payable (jn s p.toNat) n.toNat=some r from e]
   simp only [Option.map_some,Option.isSome_some,if_true];have wr:Rel (xn M p.toNat n.toNat r.g) (put s p.toNat ⟨9,n.toNat,r.g,0,0,0,0⟩):=by
    refine Z3 R hu.2.1 (((Xg _ _ _).trans (vm _ _ _ _)).trans (zo _ _ _ _ _)) ?_;exact je.claim (R.at_ _ hu.2.1) (q:=⟨9,n.toNat,r.g,0,0,0,0⟩) hp (.inr rfl) (yaD rfl fun z=>yD g z) (fun c=>rfl) fun z=>yD g z
   rw [←hn] at wr;refine ⟨Y2 wr ?_,?_⟩
   ·unfold Kk;simp only [];rw [K3 n hf.2.1.1,←hn,←Uw hu.1];rfl
   ·rw [fl0,←YU wr];have:(xn M p.toNat n r.g).ms=M.ms:=by
     unfold xn ZG yb;show (if _ then _ else _:Mw).ms=_;split<;>rfl
    rw [this]
 ·rw [Ku h0];unfold refuseOr;rw [if_neg h0,if_neg h0];exact ⟨R,rfl⟩
theorem kaO(R:Rel M s)(g:Good s){i:Nat}(hi:i<s.offices.length)(n:Nat):yo M i n=if closed (jn s i) n=true then none else (standing (jn s i) n).map fun q=>(⟨q.g,q.b,q.d,false⟩:MG):=by
 unfold yo;rw [xT R hi];cases e:issueOf (jn s i) n with
 | none=>
  cases e2:standing (jn s i) n with
  | none=>simp
  | some q=>
   exfalso;obtain ⟨y,hy,hn⟩:=yaw g e2;rw [WW,List.find?_eq_none] at e;exact e y hy (by simp [hn])
 | some r=>
  have hrn:=(Yn e).2;simp only [Option.map_some];rw [US,hrn];show (if closed (jn s i) r.no=true then none else _)=_;rw [hrn]
theorem wa8(R:Rel M s)(g:Good s)(o n:Int):Ve M s (jU M o n) (step s (.query o n)):=by
 unfold Ve jU;simp only [step];rw [ym R,yac R,ff,ff,ff1,←show outI n 0 100000=_ from @qe n 0 100000,←vg (outI n 0 100000),←vg (upFault s o)];generalize hf:Wb (upFault s o) (Wb (outI n 0 100000) (full s))=f;by_cases h0:f=0
 ·rw [h0,yz];rw [h0,Vd,Vd,KA] at hf;have hu:=Uc.mp hf.1;have hn:=Uw hf.2.1.1;unfold refuseOr YK;rw [if_pos rfl];have hx:=kaO R g hu.2.1 n.toNat;rw [←hn] at hx;rw [hx];cases e:standing (officeAt s o.toNat).journal n.toNat with
  | none=>
   try rw [show standing (jn s o.toNat) n.toNat=none from e]
   have:(if closed (jn s o.toNat) n.toNat=true then none else Option.map (fun q:Rec=>(⟨q.g,q.b,q.d,false⟩:MG)) none)=none:=by split<;>rfl
   rw [this];exact ⟨R,rfl⟩
  | some q=>
   try rw [show standing (jn s o.toNat) n.toNat=some q from e]
   simp only [Option.map_some];by_cases hc:closed (officeAt s o.toNat).journal n.toNat=true
   ·rw [if_pos hc,if_pos (show closed (jn s o.toNat) n.toNat=true from hc)];exact ⟨R,rfl⟩
   ·rw [if_neg hc,if_neg (show¬closed (jn s o.toNat) n.toNat=true from hc)];simp only [Option.isSome_some,if_true];refine ⟨Y2 R ?_,?_⟩
    ·unfold Kk ud;simp only [];rw [←hn,←Uw hu.1];rfl
    ·rw [fl0,YU R]
 ·rw [Ku h0];unfold refuseOr;rw [if_neg h0,if_neg h0];exact ⟨R,rfl⟩
theorem jbf(R:Rel M s)(g:Good s)(p n k:Int):Ve M s (J9 M p n k) (step s (.tell p n k)):=by
 unfold Ve J9;simp only [step];rw [ym R,yac R,ff,ff,ff,ff1,uS,←show outI n 0 100000=_ from @qe n 0 100000,←show outI k 0 1000=_ from @qe k 0 1000,←vg (jh M (Jr n)),←vg (outI k 0 1000),←vg (outI n 0 100000),←vg (upFault s p),vg (outI n 0 100000)];have eh:Wb (upFault s p) (Wb (outI n 0 100000) (Wb (outI k 0 1000) (Wb (jh M (Jr n)) (full s))))=Wb (upFault s p) (Wb (outI n 0 100000) (Wb (outI k 0 1000) (Wb (when_ (decide (s.offices.length≤issuerOf n.toNat)) (-5)) (full s)))):=by
  congr 1
  by_cases h:outI n 0 100000=0
  ·rw [h,yz,yz,zak R (KA.mp h).1]
  ·rw [Ku h,Ku h]
 rw [eh];generalize hf:Wb (upFault s p) (Wb (outI n 0 100000) (Wb (outI k 0 1000) (Wb (when_ (decide (s.offices.length≤issuerOf n.toNat)) (-5)) (full s))))=f;by_cases h0:f=0
 ·rw [h0,yz];rw [h0,Vd,Vd,Vd,KA,KA] at hf;have hu:=Uc.mp hf.1;have hn:=Uw hf.2.1.1;have hk:=Uw hf.2.2.1.1;unfold refuseOr yan;rw [if_pos rfl,show Yf M p.toNat n k=clI (Zo (jn s p.toNat) (n.toNat,k.toNat)) by rw [hn,hk,Int.toNat_natCast,Int.toNat_natCast];exact wU R g hu.2.1 _ _];show Rel (if (if paid (jn s p.toNat) n.toNat k.toNat=true∨never (jn s p.toNat) n.toNat k.toNat=true then (0:Int) else-3)=0 then _ else _:Mw×List Int).1 _∧(if (if paid (jn s p.toNat) n.toNat k.toNat=true∨never (jn s p.toNat) n.toNat k.toNat=true then (0:Int) else-3)=0 then _ else _:Mw×List Int).2=_;by_cases h1:paid (officeAt s p.toNat).journal n.toNat k.toNat=true
  ·rw [if_pos (show (if paid (jn s p.toNat) n.toNat k.toNat=true∨never (jn s p.toNat) n.toNat k.toNat=true then (0:Int) else-3)=0 from if_pos (.inl h1)),if_pos h1];have e4:(if (clI (Zo (jn s p.toNat) (n.toNat,k.toNat))).paid=true then (4:Int) else 5)=4:=if_pos h1;rw [e4];refine ⟨Y2 R ?_,?_⟩
   ·unfold Kk;simp only [];rw [K3 n hf.2.1.1,←hn,←hk,←Uw hu.1];rfl
   ·rw [fl1,YU R]
  ·rw [if_neg h1];by_cases h2:never (officeAt s p.toNat).journal n.toNat k.toNat=true
   ·rw [if_pos (show (if paid (jn s p.toNat) n.toNat k.toNat=true∨never (jn s p.toNat) n.toNat k.toNat=true then (0:Int) else-3)=0 from if_pos (.inr h2)),if_pos h2];have e4:(if (clI (Zo (jn s p.toNat) (n.toNat,k.toNat))).paid=true then (4:Int) else 5)=5:=if_neg h1;rw [e4];refine ⟨Y2 R ?_,?_⟩
    ·unfold Kk;simp only [];rw [K3 n hf.2.1.1,←hn,←hk,←Uw hu.1];rfl
    ·rw [fl1,YU R]
   ·have e3:(if paid (jn s p.toNat) n.toNat k.toNat=true∨never (jn s p.toNat) n.toNat k.toNat=true then (0:Int) else-3)= -3:=if_neg (fun z=>z.elim h1 h2);rw [e3,if_neg (by decide),if_neg h2];refine ⟨R,?_⟩;show [if paid (jn s p.toNat) n.toNat k.toNat=true∨never (jn s p.toNat) n.toNat k.toNat=true then (0:Int) else-3]=_;rw [e3];rfl
 ·rw [Ku h0];unfold refuseOr;rw [if_neg h0,if_neg h0];exact ⟨R,rfl⟩
theorem Ua3(R:Rel M s)(g:Good s)(o n c:Int):Ve M s (QH M o n c) (step s (.refund o n c)):=by
 unfold Ve QH;simp only [step];rw [ym R];have e12:Wb (outI n 0 100000) (outI c 0 3)=when_ (!(inside n 0 100000 && inside c 0 3)) (-12):=by
  rw [uS,show outI n 0 100000=_ from @qe n 0 100000,show outI c 0 3=_ from @qe c 0 3]
 rw [ff,ff1,←e12,←vg (outI n 0 100000),←vg (upFault s o)];generalize hf:Wb (upFault s o) (Wb (outI n 0 100000) (outI c 0 3))=f;by_cases h0:f=0
 ·rw [h0,yz];rw [h0,Vd,Vd,KA,KA] at hf;have hu:=Uc.mp hf.1;have hn:=Uw hf.2.1.1;unfold refuseOr Jad;rw [if_pos rfl];have hx:=xT R hu.2.1 n.toNat;rw [←hn] at hx;rw [hx];cases e:issueOf (officeAt s o.toNat).journal n.toNat with
  | none=>
   try rw [show issueOf (jn s o.toNat) n.toNat=none from e]
   exact ⟨R,rfl⟩
  | some r=>
   have hrn:=(Yn e).2;try rw [show issueOf (jn s o.toNat) n.toNat=some r from e]
   simp only [Option.map_some];rw [(R.at_ _ hu.2.1).drawer,US,hrn];have ec:((Ym (xg s.fee (jn s o.toNat) r)).refunded=true∨(Ym (xg s.fee (jn s o.toNat) r)).closed=true∨((standing (jn s o.toNat) n.toNat).map fun q=>(⟨q.g,q.b,q.d,false⟩:MG)).isSome=true)↔(refunded (officeAt s o.toNat).journal n.toNat=true∨closed (officeAt s o.toNat).journal n.toNat=true∨(standing (officeAt s o.toNat).journal n.toNat).isSome=true):=by
    show (refunded (jn s o.toNat) r.no=true∨closed (jn s o.toNat) r.no=true∨_)↔_;rw [hrn,Option.isSome_map]
   have eco:(Ym (xg s.fee (jn s o.toNat) r)).vb=((amountOf s r:Nat):Int):=rfl;rw [eco];by_cases h1:refunded (officeAt s o.toNat).journal n.toNat=true∨closed (officeAt s o.toNat).journal n.toNat=true∨(standing (officeAt s o.toNat).journal n.toNat).isSome=true
   ·rw [if_pos h1,if_pos (ec.mpr h1)];exact ⟨R,rfl⟩
   ·rw [if_neg h1,if_neg (fun z=>h1 (ec.mp z))];by_cases h2:(officeAt s o.toNat).drawer<amountOf s r
    ·rw [if_pos (show ((officeAt s o.toNat).drawer:Int)<((amountOf s r:Nat):Int) by omega),if_pos h2];exact ⟨R,rfl⟩
    ·rw [if_neg (show¬((officeAt s o.toNat).drawer:Int)<((amountOf s r:Nat):Int) by omega),if_neg h2,if_pos rfl];refine ⟨?_,rfl⟩;have:=R.act g (i:=o.toNat) (cut:=c.toNat) (r:=⟨2,n.toNat,0,amountOf s r,3,0,0⟩) hu.2.2 rfl (.inr (.inr rfl)) nofun nofun (by show 0≤((officeAt s o.toNat).drawer:Int)+cashOf _;unfold cashOf;simp;omega);have ea:(⟨3,n,-((amountOf s r:Nat):Int),0⟩:Xj)=xu ⟨2,n.toNat,0,amountOf s r,3,0,0⟩:=by
      unfold xu cashOf;simp;omega
     rw [←Uw hf.2.2.1,←ea] at this;exact this
 ·rw [Ku h0];unfold refuseOr;rw [if_neg h0,if_neg h0];exact ⟨R,rfl⟩
theorem wbn(R:Rel M s)(o:Int):Ve M s (Xav M o) (step s (.cut o)):=by
 unfold Ve Xav;simp only [step];refine QT (ym R o) R fun h0=>?_;rw [ym R] at h0;have hu:=Uc.mp h0;exact ⟨R.set hu.2.1 (UT _ _ _) ((R.at_ _ hu.2.1).up' false),rfl⟩
theorem VaL(s:State)(o:Nat):(counted s o).offices.length=s.offices.length:=by
 unfold counted;simp only [];split<;>exact ju _ _ _
theorem Zba(R:Rel M s)(g:Good s)(o:Int):Ve M s (countM M o) (step s (.count o)):=by
 unfold Ve countM;simp only [step];have e:Wb (jh M o) (if M.up o.toNat=true then-4 else 0)=firstFault [isOffice s o,when_ (officeAt s o.toNat).up (-4)]:=by
  rw [ff,ff1,ZH R];by_cases h:isOffice s o=0
  ·rw [h,yz,yz,(R.at_ _ (qi.mp h).2).up];rfl
  ·rw [Ku h,Ku h]
 refine QT e R fun h0=>?_;rw [Vd,ZH R] at h0;have hi:=qi.mp h0.1;obtain ⟨R1,e1⟩:=R.counted g hi.2;have ra:=R1.at_ o.toNat (by rw [VaL];exact hi.2)
 refine ⟨R1,?_⟩;show [(yd M o.toNat).2,(yd M o.toNat).1.drawer o.toNat,Yp ((yd M o.toNat).1.jr o.toNat)]=_;rw [fl1,e1,ra.drawer,ra.jr,WaE];rfl
end
end Mo
namespace Mo
open Vbpoak
section
variable{M:Mw}{s:State}
theorem Xbk(R:Rel M s)(g:Good s){o:Nat}(ho:o<s.offices.length)(n:Nat):Rel (wG M o n) (askOne s o n):=by
 rw [YaA];unfold wG;rw [Int.toNat_natCast,kaO R g ho];cases e:standing (jn s o) n with
 | none=>
  have:(if closed (jn s o) n=true then none else Option.map (fun q:Rec=>(⟨q.g,q.b,q.d,false⟩:MG)) none)=none:=by split<;>rfl
  rw [this];exact R
 | some q=>
  simp only [Option.map_some];obtain ⟨hq1,hq2,hq3⟩:=Xk e;have hqb:=(g.vD o q hq1 hq2).2;by_cases hc:closed (jn s o) n=true
  ·rw [if_pos hc,if_pos (.inl hc)];exact R
  ·rw [if_neg hc];simp only [];rw [Int.toNat_natCast,(R.at_ _ ho).up,(R.at_ _ hqb).up];by_cases hu:(officeAt s o).up=false∨(officeAt s q.b).up=false
   ·rw [if_pos hu,if_pos (.inr hu)];exact R
   ·rw [if_neg hu,if_neg (fun z=>z.elim hc hu)];have hu1:(officeAt s o).up=true:=by simpa using fun z=>hu (.inl z)
    have hu2:(officeAt s q.b).up=true:=by simpa using fun z=>hu (.inr z)
    have em:ud (o:Int) (n:Int) ⟨q.g,q.b,q.d,false⟩=Kk ⟨6,n,q.g,o,q.b,0,0,false⟩:=rfl;have et:xc M (Kk ⟨6,n,q.g,o,q.b,0,0,false⟩)=Ul M (Kk ⟨6,n,q.g,o,q.b,0,0,false⟩):=rfl;rw [em,et];obtain ⟨t,o',e1,e2,e3,e4,e5⟩:=UaJ (m:=⟨6,n,q.g,o,q.b,0,0,false⟩) R g hqb hu2;have gd:=g.onDid (m:=⟨6,n,q.g,o,q.b,0,0,false⟩) ho hqb hu2;have kd:=Kat (s:=s) (m:=⟨6,n,q.g,o,q.b,0,0,false⟩) hqb;rw [e4];cases o' with
    | none=>
     simp only [] at e1;rw [e1,if_pos e2];exact e3
    | some a=>
     simp only [] at e1;have ea:=e5 a rfl;simp only [] at ea;rw [e1,if_neg (by simp [e2])];have et2:({({t with msgs:=t.msgs++ [a]}:State) with msgs:=s.msgs}:State)=t:=by
      cases t;simp at e2;subst e2;rfl
     rw [et2];rw [e1] at gd kd;have gt:Good t:=gd.V2 rfl fun m hm=>gd.msgs m (List.mem_append_left _ hm);have lt:o<t.offices.length:=by have:=kd.grows.1;exact this▸ho
     have ut:(officeAt t o).up=true:=(kd.ups o).trans hu1;simp only [Option.map_some];by_cases hp:paid (jn s q.b) n q.g=true
     ·rw [if_pos hp] at ea⊢;subst ea;exact XaC (m:=⟨4,n,q.g,q.b,o,0,0,false⟩) e3 gt lt ut
     ·rw [if_neg hp] at ea⊢;subst ea;exact yat (m:=⟨5,n,q.g,q.b,o,0,0,false⟩) e3 gt lt ut
theorem zaL(o:Nat):∀(l:List Nat) (M:Mw) (s:State),Rel M s→Good s→o<s.offices.length→Rel ((l.map fun (n:Nat)=>(n:Int)).foldl (fun u n=>wG u (o:Int) n) M) (l.foldl (fun u no=>askOne u o no) s)
 | [],_,_,R,_,_=>R
 | n::r,M,s,R,g,ho=>by
  obtain ⟨g1,k1,_⟩:=g.askOne o n;exact zaL o r _ _ (Xbk R g ho n) g1 (by rw [←k1.grows.1];exact ho)
theorem WaA:∀(l:List Nat) (M:Mw) (s:State),Rel M s→Good s→(∀o∈l,o<s.offices.length)→Rel (l.foldl z0 M) (l.foldl (fun t o=>(ordersOf (officeAt t o).journal).foldl (fun u no=>askOne u o no) t) s)
 | [],_,_,R,_,_=>R
 | o::r,M,s,R,g,ho=>by
  have h1:Rel (z0 M o) ((ordersOf (officeAt s o).journal).foldl (fun u no=>askOne u o no) s):=by
   unfold z0;have e:M.ub o=(ordersOf (officeAt s o).journal).map fun (n:Nat)=>(n:Int):=by
    rw [(R.at_ o (ho o List.mem_cons_self)).ub];unfold ordersOf issues;rw [List.map_map];rfl
   rw [e];exact zaL o _ M s R g (ho o List.mem_cons_self)
  obtain ⟨g1,k1,_⟩:=qam g o (ordersOf (officeAt s o).journal);exact WaA r _ _ h1 g1 fun p hp=>by rw [←k1.grows.1];exact ho p (List.mem_cons_of_mem _ hp)
theorem JaX(R:Rel M s)(g:Good s):Rel ((List.range M.k).foldl z0 M) (oneRound s):=by
 unfold oneRound;rw [R.k];exact WaA _ M s R g fun o ho=>List.mem_range.mp ho
theorem KaU(R:Rel M s):zJ M=(((s.offices.map fun x=>x.journal.length).foldl (fun a b=>a+b) 0:Nat):Int):=by
 unfold zJ;rw [yax,List.map_map,map_range R (g:=fun x=>(x.journal.length:Int)) fun i hi=>by rw [(R.at_ i hi).jr,kN]];rfl
theorem zaR{l:List Nat}{f h:Nat→Int}(H:∀i∈l,f i≤h i):(l.map f).sum≤(l.map h).sum:=by
 induction l with
 | nil=>exact Int.le_refl _
 | cons a r ih=>
  rw [List.map_cons,List.map_cons,List.sum_cons,List.sum_cons];have h1:=H a List.mem_cons_self;have h2:=ih fun i hi=>H i (List.mem_cons_of_mem _ hi);omega
theorem Qa8(R:Rel M s)(g:Good s):Ve M s (jZ M) (step s .round):=by
 unfold Ve jZ;simp only [step];have R1:=JaX R g;refine ⟨R1,?_⟩;obtain ⟨_,k1,_⟩:=g.oneRound;generalize (List.range M.k).foldl z0 M=T at R1⊢;have hle:zJ M≤zJ T:=by
  unfold zJ;rw [R1.k,R.k,←k1.grows.1];refine zaR fun i hi=>?_;have hi':=List.mem_range.mp hi;rw [(R.at_ i hi').jr,(R1.at_ i (by rw [←k1.grows.1];exact hi')).jr,kN,kN];obtain ⟨l,hl⟩:=k1.grows.2 i;rw [show (officeAt (oneRound s) i).journal=_ from hl,List.length_append];show ((jn s i).length:Int)≤_;omega
 show [zJ T-zJ M]=_;rw [fl0,KaU R,KaU R1] at*
 congr 1
 omega
theorem wao(n:Int)(rows:List (List Int)):Ye n rows=VbpoakNeutral.flatAns ⟨n,rows⟩:=by
 unfold Ye VbpoakNeutral.flatAns;match rows with
 | []=>rfl
 | [r]=>rfl
 | a::b::r=>simp
theorem VaD(b:Bool):b2 b=((bit b:Nat):Int):=by cases b<;>rfl
theorem ya4(R:Rel M s)(o:Int):Ve M s (M,zH M o) (step s (.office o)):=by
 unfold Ve zH;simp only [step];have:= @QT M s (jh M o) (isOffice s o) (M,Ye (b2 (M.up o.toNat)) [[M.drawer o.toNat,Yp (M.jr o.toNat),zd M o.toNat,((M.jr o.toNat).length:Int)],M.ub o.toNat])
  (s,⟨(bit (officeAt s o.toNat).up:Nat), [[((officeAt s o.toNat).drawer:Int),book (officeAt s o.toNat).journal,clockOf s o.toNat,((officeAt s o.toNat).journal.length:Int)],Vbpoak.ints (ordersOf (officeAt s o.toNat).journal)]⟩) (ZH R o) R fun h0=>?_
 ·by_cases h:jh M o=0
  ·rw [if_pos h] at this⊢;exact this
  ·rw [if_neg h] at this⊢;exact this
 ·rw [ZH R] at h0;have hi:=qi.mp h0;have ra:=R.at_ _ hi.2
  refine ⟨R,?_⟩;show Ye _ _=_;rw [wao,ra.up,ra.drawer,ra.jr,WaE,kN,qT R hi.2,ra.ub,VaD];unfold Vbpoak.ints ordersOf issues;rw [List.map_map];rfl
theorem Qa9(R:Rel M s)(g:Good s)(n:Int):Ve M s (M,ZT M n) (step s (.order n)):=by
 unfold Ve ZT;simp only [step];have a1:= @qe n 0 100000;by_cases h1:inside n 0 100000=false
 ·have e:Wb (outI n 0 100000) (jh M (Jr n))= -12:=by
   rw [show outI n 0 100000=_ from a1,h1];rfl
  rw [if_pos h1,e];exact ⟨R,rfl⟩
 ·rw [if_neg h1];have h1':inside n 0 100000=true:=by simpa using h1
  have e0:outI n 0 100000=0:=by rw [show outI n 0 100000=_ from a1,h1'];rfl
  have hn0:=(KA.mp e0).1;rw [e0,yz,zak R hn0];by_cases h2:s.offices.length≤issuerOf n.toNat
  ·rw [if_pos h2];have:when_ (decide (s.offices.length≤issuerOf n.toNat)) (-5)= -5:=by unfold when_;rw [if_pos (by simpa using h2)]
   rw [this];exact ⟨R,rfl⟩
  ·rw [if_neg h2];have:when_ (decide (s.offices.length≤issuerOf n.toNat)) (-5)=0:=by unfold when_;rw [if_neg (by simpa using h2)]
   rw [this,if_pos rfl];have hn:=Uw hn0;have hx:=xT R (i:=issuerOf n.toNat) (by omega) n.toNat;rw [←hn] at hx;rw [K3 n hn0,Int.toNat_natCast,hx];cases e:issueOf (officeAt s (issuerOf n.toNat)).journal n.toNat with
   | none=>
    try rw [show issueOf (jn s (issuerOf n.toNat)) n.toNat=none from e]
    exact ⟨R,rfl⟩
   | some r=>
    try rw [show issueOf (jn s (issuerOf n.toNat)) n.toNat=some r from e]
    have hrn:=(Yn e).2;simp only [Option.map_some];refine ⟨R,?_⟩;show Ye _ _=_;rw [wao];unfold K0 Kj stateOf;rw [e,US,hrn];simp only [];have hl:(Ym (xg s.fee (jn s (issuerOf n.toNat)) r)).gs.length=(grants (officeAt s (issuerOf n.toNat)).journal n.toNat).length:=by
     show ((Qk (jn s (issuerOf n.toNat)) r.no).map gI).length=_;unfold Qk;rw [List.length_map,List.length_map,hrn]
    rw [hl];have hr:(Ym (xg s.fee (jn s (issuerOf n.toNat)) r)).refunded=refunded (officeAt s (issuerOf n.toNat)).journal n.toNat:=by
     show refunded (jn s (issuerOf n.toNat)) r.no=_;rw [hrn]
    have hc:(Ym (xg s.fee (jn s (issuerOf n.toNat)) r)).closed=closed (officeAt s (issuerOf n.toNat)).journal n.toNat:=by
     show closed (jn s (issuerOf n.toNat)) r.no=_;rw [hrn]
    rw [hr,hc,Option.isSome_map];have hv:(if refunded (officeAt s (issuerOf n.toNat)).journal n.toNat=true then (4:Int) else if closed (officeAt s (issuerOf n.toNat)).journal n.toNat=true then 3 else if (standing (jn s (issuerOf n.toNat)) n.toNat).isSome=true then 2 else 1)=(((if refunded (officeAt s (issuerOf n.toNat)).journal n.toNat=true then 4 else if closed (officeAt s (issuerOf n.toNat)).journal n.toNat=true then 3 else if (standing (officeAt s (issuerOf n.toNat)).journal n.toNat).isSome=true then 2 else 1:Nat)):Int):=by
     split
     ·rfl
     ·split
      ·rfl
      ·split<;>rfl
    rw [hv];cases standing (jn s (issuerOf n.toNat)) n.toNat with
    | none=>rfl
    | some q=>rfl
theorem Yba(R:Rel M s)(g:Good s)(p n:Int):Ve M s (M,yT M p n) (step s (.claim p n)):=by
 unfold Ve yT;simp only [step];have e:Wb (jh M p) (outI n 0 100000)=firstFault [isOffice s p,when_ (!inside n 0 100000) (-12)]:=by
  rw [ff,ff1,ZH R,show outI n 0 100000=_ from @qe n 0 100000]
 have:= @QT M s _ _ (M,Ye ((qd M p.toNat n).length:Int) ((qd M p.toNat n).map kK))
  (s,⟨(((officeAt s p.toNat).journal.filter fun r=>r.kind==8 && r.no==n.toNat).length:Nat),((officeAt s p.toNat).journal.filter fun r=>r.kind==8 && r.no==n.toNat).map fun r=> [(r.g:Int),(r.a:Int),r.d,(bit (paid (officeAt s p.toNat).journal n.toNat r.g):Nat),(bit (never (officeAt s p.toNat).journal n.toNat r.g):Nat)]⟩) e R fun h0=>?_
 ·by_cases h:Wb (jh M p) (outI n 0 100000)=0
  ·rw [if_pos h] at this⊢;exact this
  ·rw [if_neg h] at this⊢;exact this
 ·rw [Vd,ZH R,KA] at h0;have hi:=qi.mp h0.1;have hx:=Vae R g hi.2 n.toNat;rw [←Uw h0.2.1] at hx;refine ⟨R,?_⟩;show Ye _ _=_;rw [wao,hx,List.length_map,List.map_map]
  congr 2
  refine List.map_congr_left fun r _=>?_;show [(r.g:Int),(r.a:Int),r.d,b2 _,b2 _]=_;rw [VaD,VaD]
theorem jbn(R:Rel M s)(m:Int):Ve M s (M,Vau M m) (step s (.msg m)):=by
 unfold Ve Vau;simp only [step];have el:(M.ms.length:Int)=(s.msgs.length:Int):=by rw [R.ms,List.length_map]
 rw [el];by_cases h:m<0∨(s.msgs.length:Int)≤m
 ·rw [if_pos h,if_neg (by omega)];exact ⟨R,rfl⟩
 ·rw [if_neg h,if_pos (by omega),show M.ms[m.toNat]? =(s.msgs[m.toNat]?).map Kk by rw [R.ms,List.getElem?_map]];cases e:s.msgs[m.toNat]? with
  | none=>exact ⟨R,rfl⟩
  | some x=>
   refine ⟨R,?_⟩;show [(x.kind:Int),x.no,x.g,x.from_,x.to,x.a,x.d,b2 x.gone]=_;rw [fl1,VaD]
theorem qa9(R:Rel M s)(g:Good s){o:Nat}(ho:o<s.offices.length)(p:Nat):yk M o p=(owes s o p:Int):=by
 unfold yk owes;simp only [];rw [yax,List.map_map,(R.at_ o ho).ub];have h1:(List.map (fun r:Rec=>(r.no:Int)) (issues (officeAt s o).journal)).filterMap (M.ord o)=(issues (jn s o)).map fun r=>Ym (xg s.fee (jn s o) r):=by
  rw [List.filterMap_map];have:∀l:List Rec,(∀r∈l,r∈issues (jn s o))→l.filterMap (M.ord o∘fun r:Rec=>(r.no:Int))=l.map fun r=>Ym (xg s.fee (jn s o) r):=by
   intro l;induction l with
   | nil=>intro _;rfl
   | cons a r ih=>
    intro h;rw [List.filterMap_cons,List.map_cons];have ha:(M.ord o∘fun r:Rec=>(r.no:Int)) a=some (Ym (xg s.fee (jn s o) a)):=(R.at_ o ho).ord a (.inl (h a List.mem_cons_self));rw [ha,ih fun x hx=>h x (List.mem_cons_of_mem _ hx)]
  exact this _ fun r h=>h
 rw [h1,List.filter_map,List.map_map];have h2:ordersOf (officeAt s o).journal=(issues (jn s o)).map (·.no):=rfl;rw [h2,List.filter_map,List.map_map];have nd:((issues (jn s o)).map (·.no)).Nodup:=by
  have:=uaZ g s.fee o;rw [JaC] at this;exact this
 have hf:(issues (jn s o)).filter ((fun x:Qe=>x.closed && decide ((Xc x).map (·.jf)=some (p:Int)))∘fun r=>Ym (xg s.fee (jn s o) r))=(issues (jn s o)).filter ((fun no=>closed (officeAt s o).journal no && ((standing (officeAt s o).journal no).map fun q=>q.b)==some p)∘fun r=>r.no):=by
  refine List.filter_congr fun r _=>?_;simp only [Function.comp];rw [US];show (closed (jn s o) r.no && _)=_
  congr 1
  cases standing (jn s o) r.no with
  | none=>rfl
  | some q=>
   rw [Bool.eq_iff_iff];simp;omega
 rw [hf]
 congr 1
 refine List.map_congr_left fun r hr=>?_;have hm:=(List.mem_filter.mp hr).1;simp only [Function.comp];have hi:issueOf (officeAt s o).journal r.no=some r:=by
  rw [WW];cases e:(issues (officeAt s o).journal).find? fun q=>q.no==r.no with
  | none=>
   rw [List.find?_eq_none] at e;exact absurd (by simp) (e r hm)
  | some q=>
   have q1:=List.mem_of_find?_eq_some e;have q2:q.no=r.no:=by simpa using List.find?_some e
   obtain ⟨i,hi⟩:=List.mem_iff_getElem?.mp q1;obtain ⟨j,hj⟩:=List.mem_iff_getElem?.mp hm;have hi':((issues (jn s o)).map (·.no))[i]? =some r.no:=by rw [List.getElem?_map,show (issues (jn s o))[i]? =some q from hi];simp [q2]
   have hj':((issues (jn s o)).map (·.no))[j]? =some r.no:=by rw [List.getElem?_map,show (issues (jn s o))[j]? =some r from hj];rfl
   obtain ⟨a1,a2⟩:=List.getElem?_eq_some_iff.mp hi';obtain ⟨b1,b2⟩:=List.getElem?_eq_some_iff.mp hj';have:i=j:=(List.getElem_inj nd).mp (a2.trans b2.symm);subst this;exact hi.symm.trans hj
 rw [hi];rfl
theorem JaK{j:List Rec}{n k:Nat}:paid j n k=true↔(n,k)∈((doneActs j).filter fun r=>r.b==2).map fun r=>(r.no,r.g):=by
 unfold paid;rw [List.any_eq_true];constructor
 ·rintro ⟨r,hr,h⟩
  simp at h;exact List.mem_map.mpr ⟨r,List.mem_filter.mpr ⟨hr,by simp [h.1]⟩,by simp [h.2.1,h.2.2]⟩
 ·intro h;obtain ⟨r,hr,e⟩:=List.mem_map.mp h;obtain ⟨h1,h2⟩:=List.mem_filter.mp hr;have e1:r.no=n:=congrArg Prod.fst e;have e2:r.g=k:=congrArg Prod.snd e;exact ⟨r,h1,by simp [e1,e2];simpa using h2⟩
theorem xa2{l l':List Int}(h:l.Perm l'):l.sum=l'.sum:=by
 induction h with
 | nil=>rfl
 | cons x _ ih=>rw [List.sum_cons,List.sum_cons,ih]
 | swap x y l=>rw [List.sum_cons,List.sum_cons,List.sum_cons,List.sum_cons];omega
 | trans _ _ a b=>exact a.trans b
theorem WaY(R:Rel M s)(g:Good s){p:Nat}(hp:p<s.offices.length)(o:Nat):Jl M o p=(paidFor s p o:Int):=by
 unfold Jl paidFor;rw [yax,List.map_map,(R.at_ p hp).Kc,List.filter_map,List.map_map]
 let co:Nat×Nat→Int:=fun k=>(((mayOf (jn s p) k.1 k.2).map (fun (y:Rec)=>y.a)).getD 0:Nat)
 have e1:((fun k:Int×Int=>(Yf M p k.1 k.2).paid && decide (Jr k.1=(o:Int)))∘zP)=fun k=>paid (jn s p) k.1 k.2 && issuerOf k.1==o:=by
  funext k
  simp only [Function.comp,zP];rw [wU R g hp];show (paid (jn s p) k.1 k.2 && _)=_
  congr 1
  have hh:(Jr (k.1:Int)=(o:Int))↔issuerOf k.1=o:=by
   unfold Jr issuerOf;omega
  rw [Bool.eq_iff_iff];exact Iff.trans decide_eq_true_iff (hh.trans beq_iff_eq.symm)
 have e2:((fun k:Int×Int=>(Yf M p k.1 k.2).vb)∘zP)=co:=by
  funext k
  simp only [Function.comp,zP];rw [wU R g hp];rfl
 rw [e1,e2];have e3:(((doneActs (officeAt s p).journal).filter fun r=>r.b==2 && issuerOf r.no==o).map ((fun (n:Nat)=>(n:Int))∘fun r=>r.a))=((((doneActs (jn s p)).filter fun r=>r.b==2).map fun r=>(r.no,r.g)).filter fun k=>issuerOf k.1==o).map co:=by
  rw [List.filter_map,List.map_map,List.filter_filter];have:(fun r:Rec=>((fun k:Nat×Nat=>issuerOf k.1==o)∘fun r:Rec=>(r.no,r.g)) r && (r.b==2))=fun r:Rec=>r.b==2 && issuerOf r.no==o:=by
   funext r
   exact Bool.and_comm _ _
  rw [this];refine List.map_congr_left fun r hr=>?_;obtain ⟨h1,h2⟩:=List.mem_filter.mp hr;simp at h2;obtain ⟨q,hq,ha⟩:=g.qaY p r (vK h1).1 (vK h1).2 h2.1;show (r.a:Int)=(((mayOf (jn s p) r.no r.g).map (fun (y:Rec)=>y.a)).getD 0:Nat);rw [hq,←ha];rfl
 rw [e3];have perm:((keysOf (officeAt s p).journal).filter fun k=>paid (jn s p) k.1 k.2 && issuerOf k.1==o).Perm ((((doneActs (jn s p)).filter fun r=>r.b==2).map fun r=>(r.no,r.g)).filter fun k=>issuerOf k.1==o):=by
  refine (List.perm_ext_iff_of_nodup ((nodup_keys _).filter _) ((g.once p).filter _)).mpr fun k=>?_;rw [List.mem_filter,List.mem_filter,Bool.and_eq_true,JaK];constructor
  ·exact fun h=>⟨h.2.1,h.2.2⟩
  ·refine fun h=>⟨?_,h.1,h.2⟩;have hpd:paid (jn s p) k.1 k.2=true:=JaK.mpr h.1;cases Classical.em (k∈keysOf (jn s p)) with
   | inl z=>exact z
   | inr z=>
    rw [yD g (n:=k.1) (k:=k.2) z] at hpd;cases hpd
 exact xa2 (perm.map co)
theorem jbm(R:Rel M s)(g:Good s):Ve M s (M,waD M) (step s .net):=by
 unfold Ve waD;simp only [step];refine ⟨R,?_⟩;show Ye _ _=_;rw [wao,R.k]
 congr 2
 refine List.map_congr_left fun o ho=>?_;unfold JU Vbpoak.ints;rw [R.k,List.map_flatMap];have:∀l:List Nat,(∀p∈l,p<s.offices.length)→(l.flatMap fun p=> [yk M o p,Jl M o p])=l.flatMap fun p=>List.map (fun (n:Nat)=>(n:Int)) [owes s o p,paidFor s p o]:=by
  intro l;induction l with
  | nil=>intro _;rfl
  | cons a r ih=>
   intro h;rw [List.flatMap_cons,List.flatMap_cons,ih fun p hp=>h p (List.mem_cons_of_mem _ hp),qa9 R g (List.mem_range.mp ho),WaY R g (h a List.mem_cons_self)];rfl
 exact this _ fun p hp=>List.mem_range.mp hp
theorem KaJ(l:List Office)(f:Office→List Rec):((l.flatMap f).map fun r=>((r.a:Nat):Int)).sum=(l.map fun x=>((f x).map fun r=>((r.a:Nat):Int)).sum).sum:=by
 induction l with
 | nil=>rfl
 | cons a r ih=>rw [List.flatMap_cons,List.map_append,List.sum_append,ih,List.map_cons,List.sum_cons]
theorem kab(R:Rel M s){b:Nat}(hb:b=1∨b=2∨b=3):VS M b=if b=1 then (allDone s b:Int) else-(allDone s b:Int):=by
 have neg:∀l:List Rec,(l.map fun r=> -((r.a:Nat):Int)).sum= -(l.map fun r=>((r.a:Nat):Int)).sum:=by
  intro l;induction l with
  | nil=>rfl
  | cons a r ih=>rw [List.map_cons,List.map_cons,List.sum_cons,List.sum_cons,ih];omega
 have negO:∀(l:List Office) (f:Office→Int),(l.map fun x=> -f x).sum= -(l.map f).sum:=by
  intro l f;induction l with
  | nil=>rfl
  | cons a r ih=>rw [List.map_cons,List.map_cons,List.sum_cons,List.sum_cons,ih];omega
 unfold VS allDone;rw [yax,List.map_map];have e:(List.range M.k).map (fun i=>v3 (M.jr i) b)=s.offices.map fun x=>(((doneActs x.journal).filter fun r=>r.b==b).map cashOf).sum:=by
  refine map_range R fun i hi=>?_;rw [(R.at_ i hi).jr];unfold v3;rw [QaE,List.filter_map,List.map_map];rfl
 rw [e];show _=if b=1 then (List.map (fun r:Rec=>((r.a:Nat):Int)) _).sum else-(List.map (fun r:Rec=>((r.a:Nat):Int)) _).sum
 rw [KaJ];have c1:∀x:Office,(((doneActs x.journal).filter fun r=>r.b==b).map cashOf)=((doneActs x.journal).filter fun r=>r.b==b).map fun r=>if b=1 then ((r.a:Nat):Int) else-((r.a:Nat):Int):=by
  intro x;refine List.map_congr_left fun r hr=>?_;have:=(List.mem_filter.mp hr).2;have hb':r.b=b:=by simpa using this
  unfold cashOf;rw [hb']
 by_cases h:b=1
 ·rw [if_pos h]
  congr 1
  refine List.map_congr_left fun x _=>?_;rw [c1 x];simp [h]
 ·rw [if_neg h,←negO]
  congr 1
  refine List.map_congr_left fun x _=>?_;rw [c1 x,←neg];simp [h]
theorem Kbg(R:Rel M s):Ve M s (M,zan M) (step s .sums):=by
 unfold Ve zan;simp only [step];refine ⟨R,?_⟩;rw [fl1,qaV R,kab R (.inl rfl),kab R (.inr (.inl rfl)),kab R (.inr (.inr rfl))];have hb:((List.range M.k).map fun i=>YD (M.jr i)).sum=(filled s:Int):=by
  unfold filled;rw [yax,List.map_map];show _=(List.map (fun r:Rec=>((r.a:Nat):Int)) _).sum;rw [KaJ,map_range R (g:=fun x=>((x.journal.filter fun r=>r.kind==1).map fun r=>((r.a:Nat):Int)).sum) fun i hi=>by
   rw [(R.at_ i hi).jr];unfold YD;rw [Vas]]
 rw [hb,R.ms,List.length_map];simp [Vbpoak.ints]
end
end Mo
namespace Mo
open Vbpoak
theorem ua5(M:Mw)(o n:Int):(wG M o n).time=M.time:=by
 unfold wG;split
 ·rfl
 ·split
  ·rfl
  ·simp only [];split
   ·exact (KS _ _).time
   ·exact (KS _ _).time.trans (KS _ _).time
theorem YaQ(M:Mw):(jZ M).1.time=M.time:=by
 have h1:∀(o:Nat) (l:List Int) (M:Mw),(l.foldl (fun u n=>wG u (o:Int) n) M).time=M.time:=by
  intro o l;induction l with
  | nil=>intro M;rfl
  | cons a r ih=>intro M;rw [List.foldl_cons,ih,ua5]
 have h2:∀(l:List Nat) (M:Mw),(l.foldl z0 M).time=M.time:=by
  intro l;induction l with
  | nil=>intro M;rfl
  | cons a r ih=>intro M;rw [List.foldl_cons,ih];exact h1 _ _ _
 exact h2 _ _
theorem wX(M:Mw)(i:Nat)(a:Xj)(c:Int):(vd M i a c).time=M.time:=(xO M i a c).time
theorem zaF{M:Mw}{Q:Mw×List Int→Prop}{p:Int}{a:List Int}(h:PyVbpoak.shape p=some (a.length,0))(h0:∀x y z u,Q (kU M x y z u))(h1:∀x,Q (K9 M x))(h2:∀x y,Q (jT M x y))(h3:∀x y,Q (X9 M x y))(h4:∀x y z u,Q (QU M x y z u))(h5:∀x y z,Q (qy M x y z))(h6:∀x,Q (Ju M x))(h7:∀x,Q (Y3 M x))(h8:∀x y z,Q (Wav M x y z))(h9:∀x y,Q (WG M x y))(h10:∀x y,Q (jU M x y))(h11:∀x y z,Q (J9 M x y z))(h12:∀x y z,Q (QH M x y z))(h13:∀x,Q (Xav M x))(h14:∀x,Q (countM M x))(h15:Q (jZ M))(h16:∀x,Q (M,zH M x))(h17:∀x,Q (M,ZT M x))(h18:∀x y,Q (M,yT M x y))(h19:∀x,Q (M,Vau M x))(h20:Q (M,waD M))(h21:Q (M,zan M)):Q (qk M (p::a)):=
 Ya0 (Q:=fun c=>Q (qk M c)) h h0 h1 h2 h3 h4 h5 h6 h7 h8 h9 h10 h11 h12 h13 h14 h15 h16 h17 h18 h19 h20 h21
theorem Wba{M:Mw}(h:0≤M.time){p:Int}{a:List Int}(hs:PyVbpoak.shape p=some (a.length,0)):0≤(qk M (p::a)).1.time:=by
 refine zaF (Q:=fun r=>0≤r.1.time) hs (fun _ _ _ _=>?_) (fun _=>?_) (fun _ _=>?_) (fun _ _=>?_) (fun _ _ _ _=>?_) (fun _ _ _=>?_) (fun _=>?_) (fun _=>?_) (fun _ _ _=>?_) (fun _ _=>?_) (fun _ _=>?_) (fun _ _ _=>?_) (fun _ _ _=>?_) (fun _=>?_) (fun _=>?_) ?_ (fun _=>?_) (fun _=>?_) (fun _ _=>?_) (fun _=>?_) ?_ ?_
 ·unfold kU;simp only [];split
  ·exact Int.le_refl _
  ·exact h
 ·unfold K9;simp only [];split
  ·rename_i h0;rw [Vd,KA,KA] at h0;exact h0.2.1
  ·exact h
 ·unfold jT;simp only [];split<;>exact h
 ·unfold X9;simp only [];split<;>exact h
 ·unfold QU;simp only [];split
  ·rw [wX];exact h
  ·exact h
 ·unfold qy;simp only [];split<;>exact h
 ·unfold Ju;split
  ·split
   ·exact h
   ·simp only [];generalize Wb _ (uy M)=r;split
    ·have e:=(KS M ‹Je›).time;split
     ·rw [e];exact h
     ·show 0≤(xc M _).1.time;rw [e];exact h
    ·exact h
  ·exact h
 ·unfold Y3;split<;>exact h
 ·unfold Wav;simp only [];split
  ·split
   ·exact h
   ·rw [wX];exact h
  ·exact h
 ·unfold WG;simp only [];generalize Wb (uj M _) _=r;split
  ·split
   ·exact h
   ·show 0≤(xn M _ _ _).time;have e:∀i n g,(xn M i n g).time=M.time:=fun i n g=>(((Xg _ _ _).trans (vm _ _ _ _)).trans (zo _ _ _ _ _):Zp M (xn M i n g) i).time;rw [e];exact h
  ·exact h
 ·unfold jU;simp only [];split
  ·split<;>exact h
  ·exact h
 ·unfold J9;simp only [];split<;>exact h
 ·unfold QH;simp only [];split
  ·split
   ·exact h
   ·rw [wX];exact h
  ·exact h
 ·unfold Xav;split<;>exact h
 ·unfold countM;simp only [];generalize Wb (jh M _) _=r;split
  ·show 0≤(yd M _).1.time;rw [(Zat M _).time];exact h
  ·exact h
 ·rw [YaQ];exact h
 all_goals exact h
structure Qw(M:Mw)(s:State):Prop where
 rel:Rel M s
 good:Good s
 time:0≤M.time
theorem uat:Qw mw0 start:=⟨⟨rfl,rfl,rfl,rfl,rfl,rfl,fun i hi=>by cases hi⟩,VaT,Int.le_refl _⟩
theorem Qw.step{M:Mw}{s:State}(F:Qw M s){c:List Int}(h:Ok1 c):Qw (qk M c).1 (VbpoakNeutral.step s [c]).1∧(qk M c).2=(VbpoakNeutral.step s [c]).2:=by
 obtain ⟨p,a,rfl,UG,_⟩:=h;have ht:0≤s.time:=by rw [←F.rel.time];exact F.time
 have fin:∀{c:List Int} (k:Vbpoak.Call),VbpoakNeutral.callOf [c]=some k→Ve M s (qk M c) (Vbpoak.step s k)→0≤(qk M c).1.time→Qw (qk M c).1 (VbpoakNeutral.step s [c]).1∧(qk M c).2=(VbpoakNeutral.step s [c]).2:=by
  intro c k hk hs h0;unfold VbpoakNeutral.step VbpoakNeutral.stepAns;rw [hk];exact ⟨⟨hs.1,F.good.step k,h0⟩,hs.2⟩
 exact Ya0 (Q:=fun c=>0≤(qk M c).1.time→Qw (qk M c).1 (VbpoakNeutral.step s [c]).1∧(qk M c).2=(VbpoakNeutral.step s [c]).2) UG
  (fun _ _ _ _=>fin _ rfl (wa7 F.rel _ _ _ _))
  (fun _=>fin _ rfl (Jbf F.rel ht _))
  (fun _ _=>fin _ rfl (Ua7 F.rel _ _))
  (fun _ _=>fin _ rfl (kbg F.rel F.good _ _))
  (fun _ _ _ _=>fin _ rfl (Za9 F.rel F.good _ _ _ _))
  (fun _ _ _=>fin _ rfl (JaW F.rel _ _ _))
  (fun _=>fin _ rfl (waW F.rel F.good _))
  (fun _=>fin _ rfl (wbf F.rel _))
  (fun _ _ _=>fin _ rfl (wbm F.rel F.good _ _ _))
  (fun _ _=>fin _ rfl (Xa5 F.rel F.good _ _))
  (fun _ _=>fin _ rfl (wa8 F.rel F.good _ _))
  (fun _ _ _=>fin _ rfl (jbf F.rel F.good _ _ _))
  (fun _ _ _=>fin _ rfl (Ua3 F.rel F.good _ _ _))
  (fun _=>fin _ rfl (wbn F.rel _))
  (fun _=>fin _ rfl (Zba F.rel F.good _))
  (fin _ rfl (Qa8 F.rel F.good))
  (fun _=>fin _ rfl (ya4 F.rel _))
  (fun _=>fin _ rfl (Qa9 F.rel F.good _))
  (fun _ _=>fin _ rfl (Yba F.rel F.good _ _))
  (fun _=>fin _ rfl (jbn F.rel _))
  (fin _ rfl (jbm F.rel F.good))
  (fin _ rfl (Kbg F.rel))
  (Wba F.time UG)
theorem uaT:∀(cs:List (List Int)) (M:Mw) (s:State),Qw M s→(∀c∈cs,Ok1 c)→Qan M cs=ja6 s cs
 | [],_,_,_,_=>rfl
 | c::r,M,s,F,h=>by
  obtain ⟨F1,e⟩:=F.step (h c List.mem_cons_self);show _::_=_::_;rw [e,uaT r _ _ F1 fun d hd=>h d (List.mem_cons_of_mem _ hd)]
theorem due{l:List Int}(h:PyVbpoak.answers_asked l=true):∃cs:List (List Int),l=cs.flatten∧(∀c∈cs,Ok1 c)∧cs.length≤400∧PyVbpoak.answers l=PyFlat.told (Qan mw0 cs):=by
 obtain ⟨cs,h1,h2,h3,h4⟩:=qaT h;exact ⟨cs,h1,h2,h3,by rw [h4,uaT cs mw0 start uat h2]⟩
end Mo
namespace Mo
open PySem PySem.Spec PyProof.Rows L2
inductive Pl where
 | wo | VJ | kT | ms (j:Nat) | of (i:Nat) | jl (i:Nat) | od (i:Nat) | cd (i:Nat) | ord (i:Nat) (n:Int) | gl (i:Nat) (n:Int) | gr (i:Nat) (n:Int) (k:Nat) | cl (i:Nat) (n g:Int)
 deriving DecidableEq
structure Cs where
 yc:Addr
 order:Addr
 claim:Addr
 act:Addr
 office:Addr
 message:Addr
 Qg:Addr
structure Ad where
 ad:Pl→Addr
 dd:Pl→Addr
 jt:Nat→List Addr
def XE(A:Ad)(M:Mw):List (Str×V):= [("time", .int M.time),("fee", .int M.fee),("life", .int M.life),("lease", .int M.lease),("offices", .ref (A.ad .VJ)),("messages", .ref (A.ad .kT))]
def Uk(m:Je):List (Str×V):= [("kind", .int m.kind),("order", .int m.order),("grant", .int m.yc),("sender", .int m.Yg),("receiver", .int m.receiver),("amount", .int m.VD),("till", .int m.uk),("gone", .bl m.gone)]
def Wi(A:Ad)(M:Mw)(i:Nat):List (Str×V):= [("up", .bl (M.up i)),("offset", .int (M.off i)),("drawer", .int (M.drawer i)),("journal", .ref (A.ad (.jl i))),("issues_begun", .int (M.begun i)),("orders", .ref (A.ad (.od i))),("claims", .ref (A.ad (.cd i)))]
def vC(g:Addr)(o:Qe):List (Str×V):= [("coins", .int o.vb),("key", .int o.key),("out_of_date", .int o.ood),("grants", .ref g),("closed", .bl o.closed),("refunded", .bl o.refunded)]
def QK(g:MG):List (Str×V):= [("number", .int g.num),("holder", .int g.jf),("till", .int g.uk),("given_back", .bl g.back)]
def zv(n g:Int)(c:Jn):List (Str×V):= [("order", .int n),("grant", .int g),("coins", .int c.vb),("till", .int c.uk),("known", .bl c.known),("paid", .bl c.paid),("given_up", .bl c.YX)]
def kindS(k:Nat):Str:=if k=1 then "issuing" else if k=2 then "paying" else "refunding"
def zt(a:Xj)(x:Addr):List (Str×V):= [("kind", .str (kindS a.kind)),("number", .int a.no),("cash", .int a.Qy),("subject", .ref x)]
def cont(c:Cs)(A:Ad)(M:Mw):Pl→Option HO
 | .wo=>some (.ins c.Qg (A.dd .wo) (XE A M))
 | .VJ=>some (.lst ((List.range M.k).map fun i=>V.ref (A.ad (.of i))))
 | .kT=>some (.lst ((List.range M.ms.length).map fun j=>V.ref (A.ad (.ms j))))
 | .ms j=>(M.ms[j]?).map fun m=> .ins c.message (A.dd (.ms j)) (Uk m)
 | .of i=>if i<M.k then some (.ins c.office (A.dd (.of i)) (Wi A M i)) else none
 | .jl i=>if i<M.k then some (.lst ((A.jt i).map V.ref)) else none
 | .od i=>if i<M.k then some (.dK ((M.ub i).map fun n=>(Sum.inl n,V.ref (A.ad (.ord i n))))) else none
 | .cd i=>if i<M.k then some (.dT ((M.Kc i).map fun k=>([Sum.inl k.1,Sum.inl k.2],V.ref (A.ad (.cl i k.1 k.2))))) else none
 | .ord i n=>if i<M.k then (M.ord i n).map fun o=> .ins c.order (A.dd (.ord i n)) (vC (A.ad (.gl i n)) o) else none
 | .gl i n=>if i<M.k then (M.ord i n).map fun o=> .lst ((List.range o.gs.length).map fun k=>V.ref (A.ad (.gr i n k))) else none
 | .gr i n k=>if i<M.k then (M.ord i n).bind fun o=>(o.gs[k]?).map fun g=> .ins c.yc (A.dd (.gr i n k)) (QK g) else none
 | .cl i n g=>if i<M.k then (M.cl i n g).map fun x=> .ins c.claim (A.dd (.cl i n g)) (zv n g x) else none
def yC(i:Nat)(a:Xj):Pl:=if a.kind=2 then .cl i a.no a.g else .ord i a.no
def kai(c:Cs)(H:Hp):JR→Addr→Prop
 | .bank n,t=>H t=some (.tup [.str "bank", .int n])
 | .begun a,t=>∃x dx y,H t=some (.tup [.str "begun", .ref x])∧H x=some (.ins c.act dx (zt a y))
 | .done a,t=>∃x dx y,H t=some (.tup [.str "done", .ref x])∧H x=some (.ins c.act dx (zt a y))
 | .other,t=>∃x xs,H t=some (.tup (.str x::xs))∧x≠"bank"∧x≠"begun"∧x≠"done"
def Wd(M:Mw):Prop:=∀i,i<M.k→(∀n∈M.ub i,(M.ord i n).isSome=true)∧(∀k∈M.Kc i,(M.cl i k.1 k.2).isSome=true)∧∀n g,(n,g)∉M.Kc i→M.cl i n g=none
def Lv(c:Cs)(A:Ad)(M:Mw)(p:Pl):Prop:=(cont c A M p).isSome=true
structure Holds(c:Cs)(H:Hp)(A:Ad)(M:Mw):Prop where
 at_:∀p o,cont c A M p=some o→H (A.ad p)=some o
 inj:∀p q,Lv c A M p→Lv c A M q→A.ad p=A.ad q→p=q
 jr:∀i,i<M.k→Paired (kai c H) (M.jr i) (A.jt i)
 pend:∀i a,i<M.k→(M.jr i).getLast? =some (.begun a)→∃t x dx,(A.jt i).getLast? =some t∧H t=some (.tup [.str "begun", .ref x])∧H x=some (.ins c.act dx (zt a (A.ad (yC i a))))∧Lv c A M (yC i a)
 wd:Wd M
def Own(c:Cs)(A:Ad)(M:Mw)(b:Addr):Prop:=∃p,Lv c A M p∧A.ad p=b
structure Ext(c:Cs)(ex:Addr→Prop)(H:Hp)(A:Ad)(M:Mw)(H':Hp)(A':Ad)(M':Mw):Prop where
 ad:∀p,Lv c A M p→A'.ad p=A.ad p∧A'.dd p=A.dd p∧Lv c A' M' p
 keep:∀b o,¬ex b→H b=some o→¬Own c A M b→H' b=some o∧¬Own c A' M' b
def ZD:HO→Prop
 | .tup _=>False
 | .ins _ _ fs=>∀a x,fs≠zt a x
 | _=>True
section
variable{c:Cs}{H H':Hp}{A A':Ad}{M M':Mw}{ex:Addr→Prop}
theorem Ext.refl:Ext c ex H A M H A M:=⟨fun _ h=>⟨rfl,rfl,h⟩,fun _ _ _ e n=>⟨e,n⟩⟩
theorem Ext.trans{H2:Hp}{A2:Ad}{M2:Mw}(a:Ext c ex H A M H' A' M')(b:Ext c ex H' A' M' H2 A2 M2):Ext c ex H A M H2 A2 M2:=
 ⟨fun p h=>by
  obtain ⟨e1,e2,l⟩:=a.ad p h;obtain ⟨e3,e4,l2⟩:=b.ad p l;exact ⟨e3.trans e1,e4.trans e2,l2⟩,fun x o hx e n=>by
  obtain ⟨e1,n1⟩:=a.keep x o hx e n;exact b.keep x o hx e1 n1⟩
theorem Holds.own(h:Holds c H A M){b:Addr}(n:H b=none):¬Own c A M b:=by
 rintro ⟨p,l,e⟩
 unfold Lv at l;cases q:cont c A M p with
 | none=>rw [q] at l;cases l
 | some o=>
  have:=h.at_ p o q
  rw [e,n] at this;cases this
theorem kai.same{r:JR}{t:Addr}(s:Ua H H')(h:kai c H r t):kai c H' r t:=by
 cases r with
 | bank n=>exact s _ _ h
 | begun a=>obtain ⟨x,dx,y,h1,h2⟩:=h;exact ⟨x,dx,y,s _ _ h1,s _ _ h2⟩
 | done a=>obtain ⟨x,dx,y,h1,h2⟩:=h;exact ⟨x,dx,y,s _ _ h1,s _ _ h2⟩
 | other=>obtain ⟨x,xs,h1,h2⟩:=h;exact ⟨x,xs,s _ _ h1,h2⟩
theorem Holds.same(h:Holds c H A M)(s:Ua H H'):Holds c H' A M:=
 ⟨fun p o e=>s _ _ (h.at_ p o e),h.inj,fun i hi=>Paired.Uao (h.jr i hi) fun _ _ q=>q.same s,fun i a hi e=>by
  obtain ⟨t,x,dx,h1,h2,h3,h4⟩:=h.pend i a hi e;exact ⟨t,x,dx,h1,s _ _ h2,s _ _ h3,h4⟩,h.wd⟩
theorem Ext.of_same(s:Ua H H'):Ext c ex H A M H' A M:=⟨fun _ h=>⟨rfl,rfl,h⟩,fun _ _ _ e n=>⟨s _ _ e,n⟩⟩
theorem kai.put{r:JR}{t b:Addr}{o o':HO}(hb:H b=some o)(nr:ZD o)(h:kai c H r t):kai c (upd H b o') r t:=by
 have tu:∀{t xs},H t=some (.tup xs)→upd H b o' t=some (.tup xs):=fun {t xs} e=>by
  rw [Va]
  ·exact e
  ·rintro rfl
   rw [hb] at e;cases e;exact nr
 have ac:∀{x dx a y},H x=some (.ins c.act dx (zt a y))→upd H b o' x=some (.ins c.act dx (zt a y)):=fun {x dx a y} e=>by
  rw [Va]
  ·exact e
  ·rintro rfl
   rw [hb] at e;cases e;exact nr a y rfl
 cases r with
 | bank n=>exact tu h
 | begun a=>obtain ⟨x,dx,y,h1,h2⟩:=h;exact ⟨x,dx,y,tu h1,ac h2⟩
 | done a=>obtain ⟨x,dx,y,h1,h2⟩:=h;exact ⟨x,dx,y,tu h1,ac h2⟩
 | other=>obtain ⟨x,xs,h1,h2⟩:=h;exact ⟨x,xs,tu h1,h2⟩
theorem Q2{i:Nat}{a:Xj}{b:Addr}{o o':HO}{L:List Addr}{y:Addr}(hb:H b=some o)(nr:ZD o)
  (h:∃t x dx,L.getLast? =some t∧H t=some (.tup [.str "begun", .ref x])∧H x=some (.ins c.act dx (zt a y))):
  ∃t x dx,L.getLast? =some t∧upd H b o' t=some (.tup [.str "begun", .ref x])∧upd H b o' x=some (.ins c.act dx (zt a y)):=by
 obtain ⟨t,x,dx,h1,h2,h3⟩:=h;refine ⟨t,x,dx,h1,?_,?_⟩
 ·rw [Va]
  ·exact h2
  ·rintro rfl
   rw [hb] at h2;cases h2;exact nr
 ·rw [Va]
  ·exact h3
  ·rintro rfl
   rw [hb] at h3;cases h3;exact nr a y rfl
theorem Holds.write(h:Holds c H A M){p:Pl}{o o':HO}(hp:cont c A M p=some o)(hp':cont c A M' p=some o')(hq:∀q,q≠p→cont c A M' q=cont c A M q)(nr:ZD o)(hk:M'.k=M.k)(hj:M'.jr=M.jr)(wd:Wd M'):
  Holds c (upd H (A.ad p) o') A M'∧Ext c ex H A M (upd H (A.ad p) o') A M':=by
 have lv:∀q,Lv c A M' q↔Lv c A M q:=fun q=>by
  unfold Lv;by_cases e:q=p
  ·subst e;rw [hp,hp'];simp
  ·rw [hq q e]
 have hb:=h.at_ p o hp
 have lp:Lv c A M p:=by unfold Lv;rw [hp];rfl
 refine ⟨⟨fun q u e=>?_,fun q r h1 h2 e=>h.inj q r ((lv q).mp h1) ((lv r).mp h2) e,fun i hi=>?_,fun i a hi e=>?_,wd⟩,fun q l=>⟨rfl,rfl,(lv q).mpr l⟩,fun b u _ e n=>⟨?_,fun ⟨q,l,z⟩=>n ⟨q,(lv q).mp l,z⟩⟩⟩
 ·by_cases z:q=p
  ·subst z;rw [hp'] at e;cases e;exact Ya
  ·have lq:Lv c A M q:=by rw [←lv];unfold Lv;rw [e];rfl
   rw [hq q z] at e;rw [Va fun w=>z (h.inj q p lq lp w)];exact h.at_ q u e
 ·rw [hj];rw [hk] at hi;exact Paired.Uao (h.jr i hi) fun _ _ q=>q.put hb nr
 ·rw [hj] at e;rw [hk] at hi;obtain ⟨t,x,dx,h1,h2,h3,h4⟩:=h.pend i a hi e;obtain ⟨t,x,dx,h1,h2,h3⟩:=Q2 (i:=i) (o':=o') hb nr ⟨t,x,dx,h1,h2,h3⟩;exact ⟨t,x,dx,h1,h2,h3,(lv _).mpr h4⟩
 ·rw [Va fun z=>n ⟨p,lp,z.symm⟩];exact e
end
end Mo
namespace Mo
open PySem PySem.Spec PyProof.Rows L2
def top(i:Nat):Stmt:=PySem.Challenge.pw_moneyorders_s01_answers.main.body.getD i (.Pass ⟨0,0,0,0⟩)
abbrev ZE:Stmt:=inClass (top 16) 0
abbrev yE:Stmt:=inClass (top 17) 0
abbrev wD:Stmt:=inClass (top 17) 1
abbrev JD:Stmt:=inClass (top 18) 0
abbrev UH:Stmt:=inClass (top 18) 1
abbrev uL:Stmt:=inClass (top 19) 0
abbrev uA:Stmt:=inClass (top 20) 0
abbrev WD:Stmt:=inClass (top 20) 1
abbrev Wx:Stmt:=inClass (top 20) 2
abbrev zE:Stmt:=inClass (top 20) 3
abbrev WQ:Stmt:=inClass (top 20) 4
abbrev uM:Stmt:=inClass (top 20) 5
abbrev VE:Stmt:=inClass (top 20) 6
abbrev kE:Stmt:=inClass (top 20) 7
abbrev Qs:Stmt:=inClass (top 20) 8
abbrev wu:Stmt:=inClass (top 20) 9
abbrev Xm:Stmt:=inClass (top 20) 10
abbrev zp:Stmt:=inClass (top 20) 11
abbrev Jp:Stmt:=inClass (top 20) 12
abbrev kl:Stmt:=inClass (top 20) 13
abbrev Zs:Stmt:=inClass (top 20) 14
abbrev xm:Stmt:=inClass (top 20) 15
abbrev UA:Stmt:=inClass (top 20) 16
abbrev Zn:Stmt:=inClass (top 20) 17
abbrev Up:Stmt:=inClass (top 20) 18
abbrev qE:Stmt:=inClass (top 20) 19
abbrev Ux:Stmt:=inClass (top 28) 0
abbrev XD:Stmt:=inClass (top 29) 0
abbrev uR:Stmt:=inClass (top 29) 1
abbrev vE:Stmt:=inClass (top 29) 2
abbrev QE:Stmt:=inClass (top 29) 3
abbrev Wu:Stmt:=inClass (top 29) 4
abbrev uY:Stmt:=inClass (top 29) 5
abbrev Zak:Stmt:=top 30
abbrev ZaO:Stmt:=top 32
abbrev UL:Stmt:=top 33
abbrev ZY:Stmt:=top 34
abbrev jL:Stmt:=top 35
abbrev WR:Stmt:=top 36
abbrev qY:Stmt:=top 37
abbrev kH:Stmt:=top 38
abbrev QM:Stmt:=top 39
abbrev Uai:Stmt:=top 56
abbrev VY:Stmt:=top 57
abbrev Kai:Stmt:=top 58
abbrev J3:Stmt:=top 59
abbrev qaj:Stmt:=top 60
abbrev W4:Stmt:=top 61
abbrev jar:Stmt:=top 62
abbrev VaO:Stmt:=top 63
abbrev UX:Stmt:=top 64
abbrev vaO:Stmt:=top 65
abbrev vH:Stmt:=top 66
abbrev yB:Stmt:=top 67
abbrev xaD:Stmt:=top 78
abbrev Yai:Stmt:=top 79
abbrev YaE:Stmt:=top 80
abbrev waO:Stmt:=top 81
abbrev kaE:Stmt:=top 82
abbrev Kaj:Stmt:=top 83
abbrev Zaj:Stmt:=top 84
abbrev JH:Stmt:=top 85
abbrev WaO:Stmt:=top 86
abbrev va0:Stmt:=top 87
abbrev KL:Stmt:=top 88
abbrev Uar:Stmt:=top 89
abbrev vR:Stmt:=top 90
abbrev qaF:Stmt:=top 91
abbrev Yab:Stmt:=top 92
abbrev jB:Stmt:=top 93
abbrev zaO:Stmt:=top 94
abbrev VB:Stmt:=top 95
abbrev qas:Stmt:=top 96
abbrev wx:Stmt:=top 97
abbrev V4:Stmt:=top 98
abbrev xK:Stmt:=top 99
abbrev jab:Stmt:=top 100
abbrev qak:Stmt:=top 101
abbrev Xab:Stmt:=top 102
abbrev XX:Stmt:=top 103
abbrev X3:Stmt:=top 110
abbrev YY:Stmt:=top 111
abbrev j4:Stmt:=top 112
abbrev UR:Stmt:=top 113
abbrev VM:Stmt:=top 114
abbrev U4:Stmt:=top 115
abbrev x4:Stmt:=top 116
abbrev XQ:Stmt:=top 117
abbrev Xai:Stmt:=top 118
abbrev Jaj:Stmt:=top 119
abbrev KY:Stmt:=top 120
abbrev QR:Stmt:=top 121
abbrev qac:Stmt:=top 122
abbrev YR:Stmt:=top 123
abbrev Uaj:Stmt:=top 126
abbrev j3:Stmt:=top 127
abbrev wB:Stmt:=top 128
theorem yf{N P:List Str}{sc:Scope}(h:sc.kind= .function∧sc.isCoroutine=false∧sc.isGenerator=false∧N.Nodup∧N.take P.length=P∧(∀x∈P,sc.names.lookup x=some .local∨sc.names.lookup x=some .cell)∧(∀y∈sc.names,y.2≠ .free):=by decide+kernel):Wa N P sc:=
 ⟨h.1,h.2.1,h.2.2.1,h.2.2.2.1,h.2.2.2.2.1,h.2.2.2.2.2.1,h.2.2.2.2.2.2⟩
theorem xah:Wa ["self","number","holder","till"] ["self","number","holder","till"] (ka ZE):=yf
theorem xag:Wa ["self","coins","key","out_of_date"] ["self","coins","key","out_of_date"] (ka yE):=yf
theorem Qag:Wa ["self"] ["self"] (ka wD):=yf
theorem Vah:Wa ["self","order","grant"] ["self","order","grant"] (ka JD):=yf
theorem yal:Wa ["self"] ["self"] (ka UH):=yf
theorem zap:Wa ["self","kind","number","cash","subject"] ["self","kind","number","cash","subject"] (ka uL):=yf
theorem kac:Wa ["self"] ["self"] (ka uA):=yf
theorem UB:Wa ["self","record"] ["self"] (ka WD):=yf
theorem qv:Wa ["self","record"] ["self"] (ka Wx):=yf
theorem XA:Wa ["self","kind","act"] ["self","kind"] (ka zE):=yf
theorem qM:Wa ["self","act"] ["self"] (ka WQ):=yf
theorem qap:Wa ["self","coins"] ["self","coins"] (ka uM):=yf
theorem Wag:Wa ["self","act","cut"] ["self","act","cut"] (ka VE):=yf
theorem kP:Wa ["self","act"] ["self"] (ka kE):=yf
theorem X1:Wa ["self","act"] ["self","act"] (ka Qs):=yf
theorem w8:Wa ["self","act"] ["self","act"] (ka wu):=yf
theorem XT:Wa ["self","act"] ["self","act"] (ka Xm):=yf
theorem Qn:Wa ["self","n","holder","till","order","grant"] ["self","n","holder","till"] (ka zp):=yf
theorem ZC:Wa ["self","n","grant","order"] ["self","n","grant"] (ka Jp):=yf
theorem WN:Wa ["self","n","grant"] ["self","n","grant"] (ka kl):=yf
theorem wC:Wa ["self","n","g","coins","till","claim"] ["self","n","g","coins","till"] (ka Zs):=yf
theorem yw:Wa ["self","n","g","claim"] ["self","n","g"] (ka xm):=yf
theorem Kac:Wa ["self","n","g"] ["self","n","g"] (ka UA):=yf
theorem xS:Wa ["self","n","g"] ["self","n","g"] (ka Zn):=yf
theorem Xo:Wa ["self","n","known","claim"] ["self","n"] (ka Up):=yf
theorem qB:Wa ["self","n","left","claim"] ["self","n"] (ka qE):=yf
theorem w9:Wa ["self","kind","order","grant","sender","receiver","amount","till"] ["self","kind","order","grant","sender","receiver","amount","till"] (ka Ux):=yf
theorem qai:Wa ["self"] ["self"] (ka XD):=yf
theorem kL:Wa ["self","offices","fee","life","lease","o"] ["self","offices","fee","life","lease"] (ka uR):=yf
theorem qah:Wa ["self","o"] ["self","o"] (ka vE):=yf
theorem JA:Wa ["self","office"] ["self"] (ka QE):=yf
theorem Xr:Wa ["self","office"] ["self"] (ka Wu):=yf
theorem kaz:Wa ["self","message"] ["self","message"] (ka uY):=yf
theorem VaS:Wa ["n"] ["n"] (ka Zak):=yf
theorem xa9:Wa ["world","message"] ["world","message"] (ka ZaO):=yf
theorem jaq:Wa ["message","kind"] ["message","kind"] (ka UL):=yf
theorem vv:Wa ["world","message","office","order","clock","grant"] ["world","message"] (ka ZY):=yf
theorem zI:Wa ["world","message","office","claim"] ["world","message"] (ka jL):=yf
theorem jM:Wa ["world","message","office","grant"] ["world","message"] (ka WR):=yf
theorem xQ:Wa ["world","message","office","grant"] ["world","message"] (ka qY):=yf
theorem uD:Wa ["office","message","order","grant"] ["office","message"] (ka kH):=yf
theorem WH:Wa ["world","message","office","claim"] ["world","message"] (ka QM):=yf
theorem vaQ:Wa ["n","least","most"] ["n","least","most"] (ka Uai):=yf
theorem xaz:Wa ["n"] ["n"] (ka VY):=yf
theorem jaQ:Wa ["key"] ["key"] (ka Kai):=yf
theorem waH:Wa ["g"] ["g"] (ka J3):=yf
theorem VaQ:Wa ["cut"] ["cut"] (ka qaj):=yf
theorem JaF:Wa ["world","o"] ["world","o"] (ka W4):=yf
theorem UaX:Wa ["world","o"] ["world","o"] (ka jar):=yf
theorem Xba:Wa ["world","o"] ["world","o"] (ka VaO):=yf
theorem vaz:Wa ["world","m"] ["world","m"] (ka UX):=yf
theorem Va9:Wa ["world"] ["world"] (ka vaO):=yf
theorem jak:Wa ["world","more"] ["world","more"] (ka vH):=yf
theorem uac:Wa ["world","o"] ["world","o"] (ka yB):=yf
theorem waJ:Wa ["world","offices","fee","life","lease","refusal"] ["world","offices","fee","life","lease"] (ka xaD):=yf
theorem kas:Wa ["world","n","refusal"] ["world","n"] (ka Yai):=yf
theorem uar:Wa ["world","o","z","refusal","office"] ["world","o","z"] (ka YaE):=yf
theorem zaE:Wa ["world","o","n","refusal","office"] ["world","o","n"] (ka waO):=yf
theorem Y1:Wa ["world","o","coins","key","cut","refusal","office","number","order"] ["world","o","coins","key","cut"] (ka kaE):=yf
theorem Wat:Wa ["world","p","n","key","refusal"] ["world","p","n","key"] (ka Kaj):=yf
theorem Wv:Wa ["world","m","refusal","message","office","records_before","answer","records"] ["world","m"] (ka Zaj):=yf
theorem Zal:Wa ["world","message"] ["world","message"] (ka JH):=yf
theorem jaE:Wa ["world","m","refusal","message"] ["world","m"] (ka WaO):=yf
theorem UaC:Wa ["world","p","n","cut","refusal","office","claim"] ["world","p","n","cut"] (ka va0):=yf
theorem uH:Wa ["world","p","n","office","claim"] ["world","p","n"] (ka KL):=yf
theorem U7:Wa ["world","p","n","refusal","office","claim"] ["world","p","n"] (ka Uar):=yf
theorem Waw:Wa ["world","p","n"] ["world","p","n"] (ka vR):=yf
theorem qaK:Wa ["world","o","n","refusal"] ["world","o","n"] (ka qaF):=yf
theorem vam:Wa ["world","o","n","grant"] ["world","o","n"] (ka Yab):=yf
theorem qN:Wa ["world","o","n","order"] ["world","o","n"] (ka jB):=yf
theorem XaD:Wa ["world","p","n","g","refusal","kind"] ["world","p","n","g"] (ka zaO):=yf
theorem VN:Wa ["world","p","n","g","claim"] ["world","p","n","g"] (ka VB):=yf
theorem V8:Wa ["world","o","n","cut","refusal","office","order"] ["world","o","n","cut"] (ka qas):=yf
theorem Xu:Wa ["world","o","n","office","order"] ["world","o","n"] (ka wx):=yf
theorem UY:Wa ["world","o","refusal","office"] ["world","o"] (ka V4):=yf
theorem Zx:Wa ["world","o","refusal","office","outcome"] ["world","o"] (ka xK):=yf
theorem xaL:Wa ["world","o"] ["world","o"] (ka jab):=yf
theorem QaQ:Wa ["written"] ["written"] (ka qak):=yf
theorem xF:Wa ["world","records_before","o","office","n"] ["world"] (ka Xab):=yf
theorem qS:Wa ["world","o","n","asked","answer"] ["world","o","n"] (ka XX):=yf
theorem xX:Wa ["number","rows","told","row"] ["number","rows"] (ka X3):=yf
theorem VF:Wa ["world","o","refusal","office","state"] ["world","o"] (ka YY):=yf
theorem kI:Wa ["world","n","refusal","order","state"] ["world","n"] (ka j4):=yf
theorem yav:Wa ["order"] ["order"] (ka UR):=yf
theorem V0:Wa ["order","grant"] ["order"] (ka VM):=yf
theorem zK:Wa ["world","p","n","refusal","rows","claim"] ["world","p","n"] (ka U4):=yf
theorem waG:Wa ["claim"] ["claim"] (ka x4):=yf
theorem zM:Wa ["world","m","refusal","message"] ["world","m"] (ka XQ):=yf
theorem Kab:Wa ["world","rows","o"] ["world"] (ka Xai):=yf
theorem yab:Wa ["world","o","row","p"] ["world","o"] (ka Jaj):=yf
theorem Jv:Wa ["world","o","p","closed","order"] ["world","o","p"] (ka KY):=yf
theorem xr:Wa ["world","o","p","paid","claim"] ["world","o","p"] (ka QR):=yf
theorem Z5:Wa ["world","office"] ["world"] (ka qac):=yf
theorem JL:Wa ["world","kind","office"] ["world","kind"] (ka YR):=yf
theorem Xv:Wa ["calls","world","told","at","behind","answer"] ["calls"] (ka Uaj):=yf
theorem UaH:Wa ["world","call","given"] ["world","call","given"] (ka j3):=yf
theorem yad:Wa ["world","call","given"] ["world","call","given"] (ka wB):=yf
set_option genInjectivity false in
set_option genSizeOfSpec false in
structure Yd where
 c:Cs
 uaU:Tok
 jaK:Tok
 UaU:Tok
 uam:Tok
 wat:Tok
 YaB:Tok
 Uaa:Tok
 yaK:Tok
 jam:Tok
 kat:Tok
 zaD:Tok
 qaf:Tok
 YJ:Tok
 jN:Tok
 vaf:Tok
 kaJ:Tok
 jas:Tok
 ybb:Tok
 KaB:Tok
 JaJ:Tok
 Uat:Tok
 uaA:Tok
 zaU:Tok
 KaC:Tok
 QaV:Tok
 ZaK:Tok
 Zam:Tok
 qaU:Tok
 xas:Tok
 Kaf:Tok
 Uam:Tok
 u7:Tok
 Vaa:Tok
 zam:Tok
 yV:Tok
 V7:Tok
 KZ:Tok
 Vam:Tok
 waf:Tok
 Qaf:Tok
 z7:Tok
 Jaa:Tok
 wZ:Tok
 qZ:Tok
 ZK:Tok
 xZ:Tok
 Kaa:Tok
 VV:Tok
 yZ:Tok
 uP:Tok
 nums:Addr
 Js:Addr
 Wt:Addr
 Zu:Addr
 yu:Addr
 uw:Addr
 QA:Addr
 Yq:Addr
 Yu:Addr
 uo:Addr
 Ws:Addr
 JF:Addr
 zA:Addr
 Qt:Addr
 Zt:Addr
 Zm:Addr
 um:Addr
 Ui:Addr
 wj:Addr
 Yk:Addr
 uh:Addr
 Xl:Addr
 xi:Addr
 jq:Addr
 Ki:Addr
 vk:Addr
 Ut:Addr
 Qo:Addr
 yt:Addr
 YF:Addr
 Ks:Addr
 Xt:Addr
 Jm:Addr
 WJ:Addr
 J7:Addr
 UaD:Addr
 Kz:Addr
 uJ:Addr
 Wz:Addr
 qF:Addr
 wI:Addr
 zx:Addr
 Vz:Addr
 z6:Addr
 ZJ:Addr
 U6:Addr
 YO:Addr
 Y6:Addr
 QP:Addr
 Zae:Addr
 ZaD:Addr
 vI:Addr
 jaD:Addr
 Yw:Addr
 Wq:Addr
 Kao:Addr
 Q8:Addr
 yao:Addr
 XaA:Addr
 Jao:Addr
 J5:Addr
 u5:Addr
 kx:Addr
 YaD:Addr
 JaP:Addr
 Uz:Addr
 wae:Addr
 zF:Addr
 van:Addr
 XW:Addr
 wq:Addr
 ZaB:Addr
 xq:Addr
 zae:Addr
 vo:Addr
 vP:Addr
 vz:Addr
 ZX:Addr
 Q7:Addr
 wW:Addr
 KI:Addr
 KO:Addr
 JI:Addr
 uO:Addr
 kF:Addr
 YA:Addr
 zO:Addr
 WO:Addr
 jF:Addr
 v7:Addr
 W7:Addr
 qK:Addr
 JE:Addr
 vX:Addr
 WE:Addr
 v8:Addr
 QO:Addr
 Xq:Addr
 wt:FuncData
 zu:FuncData
 Vu:FuncData
 Xs:FuncData
 Vw:FuncData
 VA:FuncData
 yq:FuncData
 Qu:FuncData
 Vo:FuncData
 xt:FuncData
 vF:FuncData
 Jz:FuncData
 ku:FuncData
 qu:FuncData
 zm:FuncData
 Wm:FuncData
 Ji:FuncData
 Uj:FuncData
 Vk:FuncData
 Uh:FuncData
 xl:FuncData
 Xi:FuncData
 Vq:FuncData
 ui:FuncData
 xh:FuncData
 Jt:FuncData
 Ko:FuncData
 Vt:FuncData
 xE:FuncData
 qt:FuncData
 vt:FuncData
 wm:FuncData
 wJ:FuncData
 u6:FuncData
 kaB:FuncData
 qA:FuncData
 UJ:FuncData
 vA:FuncData
 UE:FuncData
 vJ:FuncData
 Vx:FuncData
 Xz:FuncData
 Z7:FuncData
 yI:FuncData
 V6:FuncData
 jO:FuncData
 X6:FuncData
 VO:FuncData
 xae:FuncData
 KaA:FuncData
 WI:FuncData
 UaA:FuncData
 jw:FuncData
 zr:FuncData
 vao:FuncData
 W5:FuncData
 Wan:FuncData
 vaA:FuncData
 jao:FuncData
 X5:FuncData
 K6:FuncData
 Zw:FuncData
 zaB:FuncData
 KaP:FuncData
 wz:FuncData
 Yae:FuncData
 yF:FuncData
 Yao:FuncData
 zX:FuncData
 uq:FuncData
 UaB:FuncData
 Jq:FuncData
 kae:FuncData
 Jo:FuncData
 wO:FuncData
 jz:FuncData
 jX:FuncData
 z8:FuncData
 VX:FuncData
 kJ:FuncData
 kO:FuncData
 uI:FuncData
 UO:FuncData
 QF:FuncData
 ZA:FuncData
 qO:FuncData
 XN:FuncData
 ZF:FuncData
 w6:FuncData
 j7:FuncData
 YI:FuncData
 wF:FuncData
 kX:FuncData
 uF:FuncData
 Z6:FuncData
 JO:FuncData
 vq:FuncData
structure Ubr(K:PySem.W.Frag)(mg:Str→Option Value)(t:Yd):Prop where
 zy:Y9 K t.c.yc
 qa8:mg "Grant"=some (.ref t.c.yc)
 k0:qc K t.c.yc "number"
 y0:qc K t.c.yc "holder"
 waa:qc K t.c.yc "till"
 Qv:qc K t.c.yc "given_back"
 ue:Y9 K t.c.order
 Ka9:mg "Order"=some (.ref t.c.order)
 j6:qc K t.c.order "coins"
 Vaf:qc K t.c.order "key"
 VG:qc K t.c.order "out_of_date"
 WZ:qc K t.c.order "grants"
 YH:qc K t.c.order "closed"
 zB:qc K t.c.order "refunded"
 Jf:Y9 K t.c.claim
 vaV:mg "Claim"=some (.ref t.c.claim)
 Y7:qc K t.c.claim "order"
 ZL:qc K t.c.claim "grant"
 yM:qc K t.c.claim "coins"
 VR:qc K t.c.claim "till"
 UM:qc K t.c.claim "known"
 xR:qc K t.c.claim "paid"
 wA:qc K t.c.claim "given_up"
 QZ:Y9 K t.c.act
 ka0:mg "Act"=some (.ref t.c.act)
 Ual:qc K t.c.act "kind"
 Xaa:qc K t.c.act "number"
 ual:qc K t.c.act "cash"
 X7:qc K t.c.act "subject"
 Zb:Y9 K t.c.office
 Xa4:mg "Office"=some (.ref t.c.office)
 Ys:qc K t.c.office "up"
 jE:qc K t.c.office "offset"
 Us:qc K t.c.office "drawer"
 xP:qc K t.c.office "journal"
 xo:qc K t.c.office "issues_begun"
 zV:qc K t.c.office "orders"
 vV:qc K t.c.office "claims"
 zf:Y9 K t.c.message
 qI:mg "Message"=some (.ref t.c.message)
 Y0:qc K t.c.message "kind"
 QW:qc K t.c.message "order"
 qW:qc K t.c.message "grant"
 qQ:qc K t.c.message "sender"
 QJ:qc K t.c.message "receiver"
 jQ:qc K t.c.message "amount"
 VZ:qc K t.c.message "till"
 KH:qc K t.c.message "gone"
 Wc:Y9 K t.c.Qg
 Xa7:mg "World"=some (.ref t.c.Qg)
 ZS:qc K t.c.Qg "time"
 Jaf:qc K t.c.Qg "fee"
 vaa:qc K t.c.Qg "life"
 U5:qc K t.c.Qg "lease"
 VW:qc K t.c.Qg "offices"
 QQ:qc K t.c.Qg "messages"
 ya1:mg "BANK"=some (.str "bank" t.uaU)
 ZaU:mg "BEGUN"=some (.str "begun" t.jaK)
 QaC:mg "DONE"=some (.str "done" t.UaU)
 was:mg "NOT_DONE"=some (.str "not done" t.uam)
 waZ:mg "GRANTED"=some (.str "granted" t.wat)
 Ya6:mg "CLOSED"=some (.str "closed" t.YaB)
 UaF:mg "GIVEN_BACK"=some (.str "given back" t.Uaa)
 za8:mg "KNOWN"=some (.str "known" t.yaK)
 KaT:mg "GIVEN_UP"=some (.str "given up" t.jam)
 x5:mg "ISSUING"=some (.str "issuing" t.kat)
 Yas:mg "PAYING"=some (.str "paying" t.zaD)
 Kam:mg "REFUNDING"=some (.str "refunding" t.qaf)
 qad:mg "CUT_BEHIND_BEGUN"=some (.int (1) t.YJ)
 zai:mg "CUT_BEHIND_CASH"=some (.int (2) t.jN)
 ZaN:mg "CUT_AHEAD"=some (.int (3) t.vaf)
 waT:mg "MAY_I"=some (.int (1) t.kaJ)
 JaB:mg "YOU_MAY"=some (.int (2) t.jas)
 Zbd:mg "NO"=some (.int (3) t.ybb)
 Kar:mg "I_PAID"=some (.int (4) t.KaB)
 Xac:mg "NEVER"=some (.int (5) t.JaJ)
 KaD:mg "DID_YOU"=some (.int (6) t.Uat)
 V1:mg "NOT_SO"=some (.int (-3) t.uaA)
 zaC:mg "OVER"=some (.int (-4) t.zaU)
 xaK:mg "ABSENT"=some (.int (-5) t.KaC)
 vbe:mg "DOWN"=some (.int (-6) t.QaV)
 YaU:mg "SHORT"=some (.int (-7) t.ZaK)
 XaS:mg "TOO_MUCH"=some (.int (-8) t.Zam)
 Za2:mg "FULL"=some (.int (-9) t.qaU)
 UaZ:mg "OUTSIDE"=some (.int (-12) t.xas)
 kam:mg "MOST_CASH"=some (.int (1000000000) t.Kaf)
 WaQ:mg "MOST_KEY"=some (.int (9999) t.Uam)
 jaz:mg "MOST_NUMBER"=some (.int (100000) t.u7)
 yaI:mg "MOST_GRANT"=some (.int (1000) t.Vaa)
 ZaT:mg "MOST_CUT"=some (.int (3) t.zam)
 Xaq:mg "MOST_MESSAGES"=some (.int (300) t.yV)
 Kay:mg "MOST_ISSUES"=some (.int (100) t.V7)
 qaw:mg "MOST_OFFICES"=some (.int (5) t.KZ)
 waS:mg "MOST_FEE"=some (.int (1000) t.Vam)
 Y5:mg "MOST_SPAN"=some (.int (1000000) t.waf)
 YaM:mg "MOST_TIME"=some (.int (1000000000) t.Qaf)
 kaa:mg "MOST_OFFSET"=some (.int (100000) t.z7)
 jaH:mg "MOST_COINS"=some (.int (1000000) t.Jaa)
 xau:mg "COUNTED_NONE"=some (.int (0) t.wZ)
 jaw:mg "COUNTED_DONE"=some (.int (3) t.qZ)
 jac:mg "COUNTED_NOT_DONE"=some (.int (4) t.ZK)
 Uaw:mg "ABSENT_ORDER"=some (.int (0) t.xZ)
 YaH:mg "OPEN_ORDER"=some (.int (1) t.Kaa)
 uaq:mg "GRANTED_ORDER"=some (.int (2) t.VV)
 vav:mg "CLOSED_ORDER"=some (.int (3) t.yZ)
 Uak:mg "REFUNDED_ORDER"=some (.int (4) t.uP)
 VaY:mg "NUMBERS"=some (.ref t.nums)
 Uba:∀H:Hp,vQ K H t.nums [.int 4, .int 1, .int 2, .int 2, .int 4, .int 3, .int 1, .int 1, .int 3, .int 2, .int 2, .int 3, .int 3, .int 1, .int 1, .int 0, .int 1, .int 1, .int 2, .int 1, .int 0, .int 0]
 Uu:mg "len"=none
 zaa:mg "sum"=none
 XaP:mg "int"=none
 Wa0:mg "list"=none
 Ya4:mg "sorted"=none
 UaE:mg "range"=none
 zaM:mg "enumerate"=none
structure Txt(K:PySem.W.Frag)(mg:Str→Option Value)(t:Yd):Prop extends Ubr K mg t where
 ZW:Ke K "__init__" "Grant.__init__" ZE t.Js t.wt
 za3:Mk K t.c.yc t.Js
 jV:Ke K "__init__" "Order.__init__" yE t.Wt t.zu
 ka3:Mk K t.c.order t.Wt
 yW:Ke K "standing" "Order.standing" wD t.Zu t.Vu
 We:Meth K t.c.order "standing" t.Zu
 WV:Ke K "__init__" "Claim.__init__" JD t.yu t.Xs
 uaK:Mk K t.c.claim t.yu
 YZ:Ke K "may_pay" "Claim.may_pay" UH t.uw t.Vw
 xak:Meth K t.c.claim "may_pay" t.uw
 x6:Ke K "__init__" "Act.__init__" uL t.QA t.VA
 JaN:Mk K t.c.act t.QA
 zQ:Ke K "__init__" "Office.__init__" uA t.Yq t.yq
 YaY:Mk K t.c.office t.Yq
 JV:Ke K "brought" "Office.brought" WD t.Yu t.Qu
 VQ:Meth K t.c.office "brought" t.Yu
 yN:Ke K "acts_done" "Office.acts_done" Wx t.uo t.Vo
 QI:Meth K t.c.office "acts_done" t.uo
 KW:Ke K "cash_of" "Office.cash_of" zE t.Ws t.xt
 wah:Meth K t.c.office "cash_of" t.Ws
 Yaa:Ke K "book" "Office.book" WQ t.JF t.vF
 VL:Meth K t.c.office "book" t.JF
 k8:Ke K "bring" "Office.bring" uM t.zA t.Jz
 kaq:Meth K t.c.office "bring" t.zA
 ZV:Ke K "perform" "Office.perform" VE t.Qt t.ku
 WA:Meth K t.c.office "perform" t.Qt
 YV:Ke K "come_up" "Office.come_up" kE t.Zt t.qu
 Yah:Meth K t.c.office "come_up" t.Zt
 uG:Ke K "write_begun" "Office.write_begun" Qs t.Zm t.zm
 U0:Meth K t.c.office "write_begun" t.Zm
 UI:Ke K "write_done" "Office.write_done" wu t.um t.Wm
 yG:Meth K t.c.office "write_done" t.um
 Jy:Ke K "write_not_done" "Office.write_not_done" Xm t.Ui t.Ji
 VU:Meth K t.c.office "write_not_done" t.Ui
 zC:Ke K "write_granted" "Office.write_granted" zp t.wj t.Uj
 uW:Meth K t.c.office "write_granted" t.wj
 zD:Ke K "write_closed" "Office.write_closed" Jp t.Yk t.Vk
 xY:Meth K t.c.office "write_closed" t.Yk
 uu:Ke K "write_given_back" "Office.write_given_back" kl t.uh t.Uh
 uN:Meth K t.c.office "write_given_back" t.uh
 KG:Ke K "write_known" "Office.write_known" Zs t.Xl t.xl
 Q1:Meth K t.c.office "write_known" t.Xl
 jy:Ke K "write_given_up" "Office.write_given_up" xm t.xi t.Xi
 Qx:Meth K t.c.office "write_given_up" t.xi
 kQ:Ke K "claim_of" "Office.claim_of" UA t.jq t.Vq
 Wo:Meth K t.c.office "claim_of" t.jq
 Vy:Ke K "claim_to_write" "Office.claim_to_write" Zn t.Ki t.ui
 vx:Meth K t.c.office "claim_to_write" t.Ki
 xC:Ke K "known_claims" "Office.known_claims" Up t.vk t.xh
 xB:Meth K t.c.office "known_claims" t.vk
 vW:Ke K "payable" "Office.payable" qE t.Ut t.Jt
 Zq:Meth K t.c.office "payable" t.Ut
 wM:Ke K "__init__" "Message.__init__" Ux t.Qo t.Ko
 uC:Mk K t.c.message t.Qo
 wV:Ke K "__init__" "World.__init__" XD t.yt t.Vt
 za6:Mk K t.c.Qg t.yt
 xaa:Ke K "renew" "World.renew" uR t.YF t.xE
 y8:Meth K t.c.Qg "renew" t.YF
 QV:Ke K "clock_of" "World.clock_of" vE t.Ks t.qt
 Vi:Meth K t.c.Qg "clock_of" t.Ks
 qV:Ke K "all_cash" "World.all_cash" QE t.Xt t.vt
 yQ:Meth K t.c.Qg "all_cash" t.Xt
 qJ:Ke K "all_records" "World.all_records" Wu t.Jm t.wm
 kG:Meth K t.c.Qg "all_records" t.Jm
 zaf:Ke K "send" "World.send" uY t.WJ t.wJ
 Kv:Meth K t.c.Qg "send" t.WJ
 Uo:Ke K "home_of" "home_of" Zak t.J7 t.u6
 Kw:mg "home_of"=some (.ref t.J7)
 xap:Ke K "take" "take" ZaO t.UaD t.kaB
 JaO:mg "take"=some (.ref t.UaD)
 Yi:Ke K "plain_answer" "plain_answer" UL t.Kz t.qA
 jm:mg "plain_answer"=some (.ref t.Kz)
 QY:Ke K "take_may_i" "take_may_i" ZY t.uJ t.UJ
 qaI:mg "take_may_i"=some (.ref t.uJ)
 wK:Ke K "take_you_may" "take_you_may" jL t.Wz t.vA
 Jau:mg "take_you_may"=some (.ref t.Wz)
 kR:Ke K "take_i_paid" "take_i_paid" WR t.qF t.UE
 wax:mg "take_i_paid"=some (.ref t.qF)
 wY:Ke K "take_never" "take_never" qY t.wI t.vJ
 zaG:mg "take_never"=some (.ref t.wI)
 Jw:Ke K "grant_told_of" "grant_told_of" kH t.zx t.Vx
 Q0:mg "grant_told_of"=some (.ref t.zx)
 WL:Ke K "take_did_you" "take_did_you" QM t.Vz t.Xz
 vau:mg "take_did_you"=some (.ref t.Vz)
 Yh:Ke K "outside" "outside" Uai t.z6 t.Z7
 Zj:mg "outside"=some (.ref t.z6)
 Zi:Ke K "bad_number" "bad_number" VY t.ZJ t.yI
 Zl:mg "bad_number"=some (.ref t.ZJ)
 y6:Ke K "bad_key" "bad_key" Kai t.U6 t.V6
 QaA:mg "bad_key"=some (.ref t.U6)
 U3:Ke K "bad_grant" "bad_grant" J3 t.YO t.jO
 kaL:mg "bad_grant"=some (.ref t.YO)
 uT:Ke K "bad_cut" "bad_cut" qaj t.Y6 t.X6
 xai:mg "bad_cut"=some (.ref t.Y6)
 Yj:Ke K "no_office" "no_office" W4 t.QP t.VO
 vn:mg "no_office"=some (.ref t.QP)
 vp:Ke K "not_up" "not_up" jar t.Zae t.xae
 yy:mg "not_up"=some (.ref t.Zae)
 yaB:Ke K "down" "down" VaO t.ZaD t.KaA
 za1:mg "down"=some (.ref t.ZaD)
 Yz:Ke K "no_message" "no_message" UX t.vI t.WI
 vY:mg "no_message"=some (.ref t.vI)
 y9:Ke K "full" "full" vaO t.jaD t.UaA
 Jaq:mg "full"=some (.ref t.jaD)
 Ww:Ke K "too_much_cash" "too_much_cash" vH t.Yw t.jw
 JZ:mg "too_much_cash"=some (.ref t.Yw)
 YB:Ke K "too_many_issues" "too_many_issues" yB t.Wq t.zr
 Qai:mg "too_many_issues"=some (.ref t.Wq)
 qaE:Ke K "begin" "begin" xaD t.Kao t.vao
 qba:mg "begin"=some (.ref t.Kao)
 yak:Ke K "pass_on" "pass_on" Yai t.Q8 t.W5
 qaW:mg "pass_on"=some (.ref t.Q8)
 yaE:Ke K "clock" "clock" YaE t.yao t.Wan
 va9:mg "clock"=some (.ref t.yao)
 jaO:Ke K "fill" "fill" waO t.XaA t.vaA
 Qbf:mg "fill"=some (.ref t.XaA)
 XaE:Ke K "issue" "issue" kaE t.Jao t.jao
 xba:mg "issue"=some (.ref t.Jao)
 Yak:Ke K "present" "present" Kaj t.J5 t.X5
 uaX:mg "present"=some (.ref t.J5)
 uaj:Ke K "deliver" "deliver" Zaj t.u5 t.K6
 yaW:mg "deliver"=some (.ref t.u5)
 wH:Ke K "undeliverable" "undeliverable" JH t.kx t.Zw
 Qap:mg "undeliverable"=some (.ref t.kx)
 QaO:Ke K "lose" "lose" WaO t.YaD t.zaB
 jbe:mg "lose"=some (.ref t.YaD)
 Ka0:Ke K "pay" "pay" va0 t.JaP t.KaP
 kbn:mg "pay"=some (.ref t.JaP)
 WK:Ke K "why_not_paid" "why_not_paid" KL t.Uz t.wz
 Uau:mg "why_not_paid"=some (.ref t.Uz)
 xar:Ke K "giveup" "giveup" Uar t.wae t.Yae
 wa5:mg "giveup"=some (.ref t.wae)
 wR:Ke K "not_payable" "not_payable" vR t.zF t.yF
 Jax:mg "not_payable"=some (.ref t.zF)
 KaE:Ke K "query" "query" qaF t.van t.Yao
 Ka8:mg "query"=some (.ref t.van)
 yX:Ke K "question" "question" Yab t.XW t.zX
 vas:mg "question"=some (.ref t.XW)
 Uq:Ke K "nothing_granted" "nothing_granted" jB t.wq t.uq
 UP:mg "nothing_granted"=some (.ref t.wq)
 xaO:Ke K "tell" "tell" zaO t.ZaB t.UaB
 Qbg:mg "tell"=some (.ref t.ZaB)
 JB:Ke K "nothing_to_tell" "nothing_to_tell" VB t.xq t.Jq
 Kag:mg "nothing_to_tell"=some (.ref t.xq)
 Jar:Ke K "refund" "refund" qas t.zae t.kae
 va4:mg "refund"=some (.ref t.zae)
 xx:Ke K "why_not_refunded" "why_not_refunded" wx t.vo t.Jo
 vad:mg "why_not_refunded"=some (.ref t.vo)
 Z4:Ke K "cut_power" "cut_power" V4 t.vP t.wO
 uaM:mg "cut_power"=some (.ref t.vP)
 vL:Ke K "count_drawer" "count_drawer" xK t.vz t.jz
 wau:mg "count_drawer"=some (.ref t.vz)
 Wab:Ke K "still_up" "still_up" jab t.ZX t.jX
 VaR:mg "still_up"=some (.ref t.ZX)
 vaj:Ke K "counted" "counted" qak t.Q7 t.z8
 jaW:mg "counted"=some (.ref t.Q7)
 Qab:Ke K "go_round" "go_round" Xab t.wW t.VX
 UaS:mg "go_round"=some (.ref t.wW)
 kY:Ke K "ask_unsent" "ask_unsent" XX t.KI t.kJ
 kaI:mg "ask_unsent"=some (.ref t.KI)
 ux:Ke K "with_rows" "with_rows" X3 t.KO t.kO
 ZP:mg "with_rows"=some (.ref t.KO)
 uX:Ke K "see_office" "see_office" YY t.JI t.uI
 WaF:mg "see_office"=some (.ref t.JI)
 Q4:Ke K "see_order" "see_order" j4 t.uO t.UO
 XaL:mg "see_order"=some (.ref t.uO)
 wQ:Ke K "order_state" "order_state" UR t.kF t.QF
 uay:mg "order_state"=some (.ref t.kF)
 ZM:Ke K "standing_row" "standing_row" VM t.YA t.ZA
 qav:mg "standing_row"=some (.ref t.YA)
 v5:Ke K "see_claim" "see_claim" U4 t.zO t.qO
 YaN:mg "see_claim"=some (.ref t.zO)
 K4:Ke K "claim_row" "claim_row" x4 t.WO t.XN
 kaN:mg "claim_row"=some (.ref t.WO)
 XR:Ke K "see_message" "see_message" XQ t.jF t.ZF
 Yaz:mg "see_message"=some (.ref t.jF)
 Jai:Ke K "see_net" "see_net" Xai t.v7 t.w6
 ZaX:mg "see_net"=some (.ref t.v7)
 vai:Ke K "net_row" "net_row" Jaj t.W7 t.j7
 YaZ:mg "net_row"=some (.ref t.W7)
 yY:Ke K "known_paid" "known_paid" KY t.qK t.YI
 XaF:mg "known_paid"=some (.ref t.qK)
 yR:Ke K "really_paid" "really_paid" QR t.JE t.wF
 Xax:mg "really_paid"=some (.ref t.JE)
 Jab:Ke K "see_sums" "see_sums" qac t.vX t.kX
 QaT:mg "see_sums"=some (.ref t.vX)
 jv:Ke K "done_at_all" "done_at_all" YR t.WE t.uF
 zR:mg "done_at_all"=some (.ref t.WE)
 YaW:Ke K "answers" "answers" Uaj t.v8 t.Z6
 vaW:mg "answers"=some (.ref t.v8)
 y4:Ke K "answer_of" "answer_of" j3 t.QO t.JO
 QaN:mg "answer_of"=some (.ref t.QO)
 QB:Ke K "later_answer_of" "later_answer_of" wB t.Xq t.vq
 uag:mg "later_answer_of"=some (.ref t.Xq)
theorem bF{K:PySem.W.Frag}{x qual:Str}{st:Stmt}{f:Addr}{fd:FuncData}{ps:List Str}(F:Ke K x qual st f fd)
  (h:∀(kV doc pm:Value) (an:Option Addr) (uK ct:Value) (us:List Value),us.length=ps.length→bindArgs (PySem.W.fnOf x qual (Q3 st) (xG st) (ka st) .none kV doc pm an uK ct) ⟨us, []⟩=pure (ps.zip us):=by
   intro _ _ _ _ _ _;first | exact al1 fun _=>by rfl | exact al2 fun _ _=>by rfl | exact al3 fun _ _ _=>by rfl | exact al4 fun _ _ _ _=>by rfl | exact al5 fun _ _ _ _ _=>by rfl | exact al6 fun _ _ _ _ _ _=>by rfl | exact al7 fun _ _ _ _ _ _ _=>by rfl | exact al8 fun _ _ _ _ _ _ _ _=>by rfl | exact al9 fun _ _ _ _ _ _ _ _ _=>by rfl):Binds K fd ps []:=F.binds h
variable{K:PySem.W.Frag}{mg:Str→Option Value}{t:Yd}
theorem Txt.uak(T:Txt K mg t):Binds K t.wt ["self","number","holder","till"] []:=bF T.ZW
theorem Txt.Yal(T:Txt K mg t):Binds K t.zu ["self","coins","key","out_of_date"] []:=bF T.jV
theorem Txt.Kf(T:Txt K mg t):Binds K t.Vu ["self"] []:=bF T.yW
theorem Txt.YW(T:Txt K mg t):Binds K t.Xs ["self","order","grant"] []:=bF T.WV
theorem Txt.Jap(T:Txt K mg t):Binds K t.Vw ["self"] []:=bF T.YZ
theorem Txt.YM(T:Txt K mg t):Binds K t.VA ["self","kind","number","cash","subject"] []:=bF T.x6
theorem Txt.yah(T:Txt K mg t):Binds K t.yq ["self"] []:=bF T.zQ
theorem Txt.XU(T:Txt K mg t):Binds K t.Qu ["self"] []:=bF T.JV
theorem Txt.QN(T:Txt K mg t):Binds K t.Vo ["self"] []:=bF T.yN
theorem Txt.zal(T:Txt K mg t):Binds K t.xt ["self","kind"] []:=bF T.KW
theorem Txt.KR(T:Txt K mg t):Binds K t.vF ["self"] []:=bF T.Yaa
theorem Txt.Kaw(T:Txt K mg t):Binds K t.Jz ["self","coins"] []:=bF T.k8
theorem Txt.UD(T:Txt K mg t):Binds K t.ku ["self","act","cut"] []:=bF T.ZV
theorem Txt.jal(T:Txt K mg t):Binds K t.qu ["self"] []:=bF T.YV
theorem Txt.X8(T:Txt K mg t):Binds K t.zm ["self","act"] []:=bF T.uG
theorem Txt.jI(T:Txt K mg t):Binds K t.Wm ["self","act"] []:=bF T.UI
theorem Txt.jW(T:Txt K mg t):Binds K t.Ji ["self","act"] []:=bF T.Jy
theorem Txt.ZZ(T:Txt K mg t):Binds K t.Uj ["self","n","holder","till"] []:=bF T.zC
theorem Txt.J1(T:Txt K mg t):Binds K t.Vk ["self","n","grant"] []:=bF T.zD
theorem Txt.VP(T:Txt K mg t):Binds K t.Uh ["self","n","grant"] []:=bF T.uu
theorem Txt.z9(T:Txt K mg t):Binds K t.xl ["self","n","g","coins","till"] []:=bF T.KG
theorem Txt.Ky(T:Txt K mg t):Binds K t.Xi ["self","n","g"] []:=bF T.jy
theorem Txt.Qq(T:Txt K mg t):Binds K t.Vq ["self","n","g"] []:=bF T.kQ
theorem Txt.vy(T:Txt K mg t):Binds K t.ui ["self","n","g"] []:=bF T.Vy
theorem Txt.qD(T:Txt K mg t):Binds K t.xh ["self","n"] []:=bF T.xC
theorem Txt.Yt(T:Txt K mg t):Binds K t.Jt ["self","n"] []:=bF T.vW
theorem Txt.zi(T:Txt K mg t):Binds K t.Ko ["self","kind","order","grant","sender","receiver","amount","till"] []:=bF T.wM
theorem Txt.Wak(T:Txt K mg t):Binds K t.Vt ["self"] []:=bF T.wV
theorem Txt.uaa(T:Txt K mg t):Binds K t.xE ["self","offices","fee","life","lease"] []:=bF T.xaa
theorem Txt.Wj(T:Txt K mg t):Binds K t.qt ["self","o"] []:=bF T.QV
theorem Txt.kW(T:Txt K mg t):Binds K t.vt ["self"] []:=bF T.qV
theorem Txt.yJ(T:Txt K mg t):Binds K t.wm ["self"] []:=bF T.qJ
theorem Txt.Xy(T:Txt K mg t):Binds K t.wJ ["self","message"] []:=bF T.zaf
theorem Txt.Yx(T:Txt K mg t):Binds K t.u6 ["n"] []:=bF T.Uo
theorem Txt.YaO(T:Txt K mg t):Binds K t.kaB ["world","message"] []:=bF T.xap
theorem Txt.Um(T:Txt K mg t):Binds K t.qA ["message","kind"] []:=bF T.Yi
theorem Txt.YaG(T:Txt K mg t):Binds K t.UJ ["world","message"] []:=bF T.QY
theorem Txt.Jav(T:Txt K mg t):Binds K t.vA ["world","message"] []:=bF T.wK
theorem Txt.Zay(T:Txt K mg t):Binds K t.UE ["world","message"] []:=bF T.kR
theorem Txt.yaF(T:Txt K mg t):Binds K t.vJ ["world","message"] []:=bF T.wY
theorem Txt.uZ(T:Txt K mg t):Binds K t.Vx ["office","message"] []:=bF T.Jw
theorem Txt.kau(T:Txt K mg t):Binds K t.Xz ["world","message"] []:=bF T.WL
theorem Txt.zj(T:Txt K mg t):Binds K t.Z7 ["n","least","most"] []:=bF T.Yh
theorem Txt.Yl(T:Txt K mg t):Binds K t.yI ["n"] []:=bF T.Zi
theorem Txt.VaB(T:Txt K mg t):Binds K t.V6 ["key"] []:=bF T.y6
theorem Txt.vaN(T:Txt K mg t):Binds K t.jO ["g"] []:=bF T.U3
theorem Txt.Yaj(T:Txt K mg t):Binds K t.X6 ["cut"] []:=bF T.uT
theorem Txt.Vn(T:Txt K mg t):Binds K t.VO ["world","o"] []:=bF T.Yj
theorem Txt.Xx(T:Txt K mg t):Binds K t.xae ["world","o"] []:=bF T.vp
theorem Txt.Va1(T:Txt K mg t):Binds K t.KaA ["world","o"] []:=bF T.yaB
theorem Txt.jY(T:Txt K mg t):Binds K t.WI ["world","m"] []:=bF T.Yz
theorem Txt.Kaq(T:Txt K mg t):Binds K t.UaA ["world"] []:=bF T.y9
theorem Txt.u0(T:Txt K mg t):Binds K t.jw ["world","more"] []:=bF T.Ww
theorem Txt.Uag(T:Txt K mg t):Binds K t.zr ["world","o"] []:=bF T.YB
theorem Txt.ka9(T:Txt K mg t):Binds K t.vao ["world","offices","fee","life","lease"] []:=bF T.qaE
theorem Txt.JaZ(T:Txt K mg t):Binds K t.W5 ["world","n"] []:=bF T.yak
theorem Txt.ua9(T:Txt K mg t):Binds K t.Wan ["world","o","z"] []:=bF T.yaE
theorem Txt.Ube(T:Txt K mg t):Binds K t.vaA ["world","o","n"] []:=bF T.jaO
theorem Txt.Ua9(T:Txt K mg t):Binds K t.jao ["world","o","coins","key","cut"] []:=bF T.XaE
theorem Txt.JaY(T:Txt K mg t):Binds K t.X5 ["world","p","n","key"] []:=bF T.Yak
theorem Txt.WaW(T:Txt K mg t):Binds K t.K6 ["world","m"] []:=bF T.uaj
theorem Txt.Qaq(T:Txt K mg t):Binds K t.Zw ["world","message"] []:=bF T.wH
theorem Txt.Zbe(T:Txt K mg t):Binds K t.zaB ["world","m"] []:=bF T.QaO
theorem Txt.Ubm(T:Txt K mg t):Binds K t.KaP ["world","p","n","cut"] []:=bF T.Ka0
theorem Txt.Vaw(T:Txt K mg t):Binds K t.wz ["world","p","n"] []:=bF T.WK
theorem Txt.Va4(T:Txt K mg t):Binds K t.Yae ["world","p","n"] []:=bF T.xar
theorem Txt.Vaz(T:Txt K mg t):Binds K t.yF ["world","p","n"] []:=bF T.wR
theorem Txt.Xa9(T:Txt K mg t):Binds K t.Yao ["world","o","n"] []:=bF T.KaE
theorem Txt.Was(T:Txt K mg t):Binds K t.zX ["world","o","n"] []:=bF T.yX
theorem Txt.KP(T:Txt K mg t):Binds K t.uq ["world","o","n"] []:=bF T.Uq
theorem Txt.Qbe(T:Txt K mg t):Binds K t.UaB ["world","p","n","g"] []:=bF T.xaO
theorem Txt.Uah(T:Txt K mg t):Binds K t.Jq ["world","p","n","g"] []:=bF T.JB
theorem Txt.Qa5(T:Txt K mg t):Binds K t.kae ["world","o","n","cut"] []:=bF T.Jar
theorem Txt.jad(T:Txt K mg t):Binds K t.Jo ["world","o","n"] []:=bF T.xx
theorem Txt.JaM(T:Txt K mg t):Binds K t.wO ["world","o"] []:=bF T.Z4
theorem Txt.uaw(T:Txt K mg t):Binds K t.jz ["world","o"] []:=bF T.vL
theorem Txt.vaS(T:Txt K mg t):Binds K t.jX ["world","o"] []:=bF T.Wab
theorem Txt.WaX(T:Txt K mg t):Binds K t.z8 ["written"] []:=bF T.vaj
theorem Txt.jaR(T:Txt K mg t):Binds K t.VX ["world"] []:=bF T.Qab
theorem Txt.qaG(T:Txt K mg t):Binds K t.kJ ["world","o","n"] []:=bF T.kY
theorem Txt.ZO(T:Txt K mg t):Binds K t.kO ["number","rows"] []:=bF T.ux
theorem Txt.WaH(T:Txt K mg t):Binds K t.uI ["world","o"] []:=bF T.uX
theorem Txt.vaL(T:Txt K mg t):Binds K t.UO ["world","n"] []:=bF T.Q4
theorem Txt.xax(T:Txt K mg t):Binds K t.QF ["order"] []:=bF T.wQ
theorem Txt.Uav(T:Txt K mg t):Binds K t.ZA ["order"] []:=bF T.ZM
theorem Txt.WaL(T:Txt K mg t):Binds K t.qO ["world","p","n"] []:=bF T.v5
theorem Txt.KaL(T:Txt K mg t):Binds K t.XN ["claim"] []:=bF T.K4
theorem Txt.Jay(T:Txt K mg t):Binds K t.ZF ["world","m"] []:=bF T.XR
theorem Txt.UaW(T:Txt K mg t):Binds K t.w6 ["world"] []:=bF T.Jai
theorem Txt.kaX(T:Txt K mg t):Binds K t.j7 ["world","o"] []:=bF T.vai
theorem Txt.ZaI(T:Txt K mg t):Binds K t.YI ["world","o","p"] []:=bF T.yY
theorem Txt.xay(T:Txt K mg t):Binds K t.wF ["world","o","p"] []:=bF T.yR
theorem Txt.xaR(T:Txt K mg t):Binds K t.kX ["world"] []:=bF T.Jab
theorem Txt.zS(T:Txt K mg t):Binds K t.uF ["world","kind"] []:=bF T.jv
theorem Txt.qaM(T:Txt K mg t):Binds K t.JO ["world","call","given"] []:=bF T.y4
theorem Txt.Wah(T:Txt K mg t):Binds K t.vq ["world","call","given"] []:=bF T.QB
end Mo
namespace Mo
open PySem PySem.Spec PyProof.Rows L2
abbrev FG(K:PySem.W.Frag)(H:Hp)(a:Addr)(f:Str)(Q:V→Prop):Prop:=∃a' C dx fs v,V.ref a=V.ref a'∧H a'=some (.ins C dx fs)∧Y9 K C∧qc K C f∧fs.lookup f=some v∧Q v
section
variable{K:PySem.W.Frag}{mg:Str→Option Value}{t:Yd}{H:Hp}{b dx:Addr}{Q:V→Prop}
theorem zab{A:Ad}{M:Mw}:(XE A M).lookup ("time":Str)=some (.int M.time:V):=by rfl
theorem ZR(T:Txt K mg t){A:Ad}{M:Mw}(h:H b=some (.ins t.c.Qg dx (XE A M)))(q:Q (.int M.time)):FG K H b "time" Q:=⟨_,_,_,_,_,rfl,h,T.Wc,T.ZS,zab,q⟩
theorem WaG{A:Ad}{M:Mw}:(XE A M).lookup ("fee":Str)=some (.int M.fee:V):=by rfl
theorem xaf(T:Txt K mg t){A:Ad}{M:Mw}(h:H b=some (.ins t.c.Qg dx (XE A M)))(q:Q (.int M.fee)):FG K H b "fee" Q:=⟨_,_,_,_,_,rfl,h,T.Wc,T.Jaf,WaG,q⟩
theorem kay{A:Ad}{M:Mw}:(XE A M).lookup ("life":Str)=some (.int M.life:V):=by rfl
theorem zaz(T:Txt K mg t){A:Ad}{M:Mw}(h:H b=some (.ins t.c.Qg dx (XE A M)))(q:Q (.int M.life)):FG K H b "life" Q:=⟨_,_,_,_,_,rfl,h,T.Wc,T.vaa,kay,q⟩
theorem zav{A:Ad}{M:Mw}:(XE A M).lookup ("lease":Str)=some (.int M.lease:V):=by rfl
theorem Vav(T:Txt K mg t){A:Ad}{M:Mw}(h:H b=some (.ins t.c.Qg dx (XE A M)))(q:Q (.int M.lease)):FG K H b "lease" Q:=⟨_,_,_,_,_,rfl,h,T.Wc,T.U5,zav,q⟩
theorem Xak{A:Ad}{M:Mw}:(XE A M).lookup ("offices":Str)=some (.ref (A.ad .VJ):V):=by rfl
theorem wa(T:Txt K mg t){A:Ad}{M:Mw}(h:H b=some (.ins t.c.Qg dx (XE A M)))(q:Q (.ref (A.ad .VJ))):FG K H b "offices" Q:=⟨_,_,_,_,_,rfl,h,T.Wc,T.VW,Xak,q⟩
theorem Jah{A:Ad}{M:Mw}:(XE A M).lookup ("messages":Str)=some (.ref (A.ad .kT):V):=by rfl
theorem Ue(T:Txt K mg t){A:Ad}{M:Mw}(h:H b=some (.ins t.c.Qg dx (XE A M)))(q:Q (.ref (A.ad .kT))):FG K H b "messages" Q:=⟨_,_,_,_,_,rfl,h,T.Wc,T.QQ,Jah,q⟩
theorem waq{m:Je}:(Uk m).lookup ("kind":Str)=some (.int m.kind:V):=by rfl
theorem xk(T:Txt K mg t){m:Je}(h:H b=some (.ins t.c.message dx (Uk m)))(q:Q (.int m.kind)):FG K H b "kind" Q:=⟨_,_,_,_,_,rfl,h,T.zf,T.Y0,waq,q⟩
theorem Qal{m:Je}:(Uk m).lookup ("order":Str)=some (.int m.order:V):=by rfl
theorem Vc(T:Txt K mg t){m:Je}(h:H b=some (.ins t.c.message dx (Uk m)))(q:Q (.int m.order)):FG K H b "order" Q:=⟨_,_,_,_,_,rfl,h,T.zf,T.QW,Qal,q⟩
theorem Vak{m:Je}:(Uk m).lookup ("grant":Str)=some (.int m.yc:V):=by rfl
theorem kg(T:Txt K mg t){m:Je}(h:H b=some (.ins t.c.message dx (Uk m)))(q:Q (.int m.yc)):FG K H b "grant" Q:=⟨_,_,_,_,_,rfl,h,T.zf,T.qW,Vak,q⟩
theorem yai{m:Je}:(Uk m).lookup ("sender":Str)=some (.int m.Yg:V):=by rfl
theorem Zg(T:Txt K mg t){m:Je}(h:H b=some (.ins t.c.message dx (Uk m)))(q:Q (.int m.Yg)):FG K H b "sender" Q:=⟨_,_,_,_,_,rfl,h,T.zf,T.qQ,yai,q⟩
theorem Zaa{m:Je}:(Uk m).lookup ("receiver":Str)=some (.int m.receiver:V):=by rfl
theorem Xb(T:Txt K mg t){m:Je}(h:H b=some (.ins t.c.message dx (Uk m)))(q:Q (.int m.receiver)):FG K H b "receiver" Q:=⟨_,_,_,_,_,rfl,h,T.zf,T.QJ,Zaa,q⟩
theorem Xag{m:Je}:(Uk m).lookup ("amount":Str)=some (.int m.VD:V):=by rfl
theorem uB(T:Txt K mg t){m:Je}(h:H b=some (.ins t.c.message dx (Uk m)))(q:Q (.int m.VD)):FG K H b "amount" Q:=⟨_,_,_,_,_,rfl,h,T.zf,T.jQ,Xag,q⟩
theorem jap{m:Je}:(Uk m).lookup ("till":Str)=some (.int m.uk:V):=by rfl
theorem kZ(T:Txt K mg t){m:Je}(h:H b=some (.ins t.c.message dx (Uk m)))(q:Q (.int m.uk)):FG K H b "till" Q:=⟨_,_,_,_,_,rfl,h,T.zf,T.VZ,jap,q⟩
theorem Zap{m:Je}:(Uk m).lookup ("gone":Str)=some (.bl m.gone:V):=by rfl
theorem XZ(T:Txt K mg t){m:Je}(h:H b=some (.ins t.c.message dx (Uk m)))(q:Q (.bl m.gone)):FG K H b "gone" Q:=⟨_,_,_,_,_,rfl,h,T.zf,T.KH,Zap,q⟩
theorem waF{A:Ad}{M:Mw}{i:Nat}:(Wi A M i).lookup ("up":Str)=some (.bl (M.up i):V):=by rfl
theorem qz(T:Txt K mg t){A:Ad}{M:Mw}{i:Nat}(h:H b=some (.ins t.c.office dx (Wi A M i)))(q:Q (.bl (M.up i))):FG K H b "up" Q:=⟨_,_,_,_,_,rfl,h,T.Zb,T.Ys,waF,q⟩
theorem Jak{A:Ad}{M:Mw}{i:Nat}:(Wi A M i).lookup ("offset":Str)=some (.int (M.off i):V):=by rfl
theorem kal(T:Txt K mg t){A:Ad}{M:Mw}{i:Nat}(h:H b=some (.ins t.c.office dx (Wi A M i)))(q:Q (.int (M.off i))):FG K H b "offset" Q:=⟨_,_,_,_,_,rfl,h,T.Zb,T.jE,Jak,q⟩
theorem YE{A:Ad}{M:Mw}{i:Nat}:(Wi A M i).lookup ("drawer":Str)=some (.int (M.drawer i):V):=by rfl
theorem Xh(T:Txt K mg t){A:Ad}{M:Mw}{i:Nat}(h:H b=some (.ins t.c.office dx (Wi A M i)))(q:Q (.int (M.drawer i))):FG K H b "drawer" Q:=⟨_,_,_,_,_,rfl,h,T.Zb,T.Us,YE,q⟩
theorem Vag{A:Ad}{M:Mw}{i:Nat}:(Wi A M i).lookup ("journal":Str)=some (.ref (A.ad (.jl i)):V):=by rfl
theorem kb(T:Txt K mg t){A:Ad}{M:Mw}{i:Nat}(h:H b=some (.ins t.c.office dx (Wi A M i)))(q:Q (.ref (A.ad (.jl i)))):FG K H b "journal" Q:=⟨_,_,_,_,_,rfl,h,T.Zb,T.xP,Vag,q⟩
theorem WB{A:Ad}{M:Mw}{i:Nat}:(Wi A M i).lookup ("issues_begun":Str)=some (.int (M.begun i):V):=by rfl
theorem XB(T:Txt K mg t){A:Ad}{M:Mw}{i:Nat}(h:H b=some (.ins t.c.office dx (Wi A M i)))(q:Q (.int (M.begun i))):FG K H b "issues_begun" Q:=⟨_,_,_,_,_,rfl,h,T.Zb,T.xo,WB,q⟩
theorem kak{A:Ad}{M:Mw}{i:Nat}:(Wi A M i).lookup ("orders":Str)=some (.ref (A.ad (.od i)):V):=by rfl
theorem wc(T:Txt K mg t){A:Ad}{M:Mw}{i:Nat}(h:H b=some (.ins t.c.office dx (Wi A M i)))(q:Q (.ref (A.ad (.od i)))):FG K H b "orders" Q:=⟨_,_,_,_,_,rfl,h,T.Zb,T.zV,kak,q⟩
theorem qal{A:Ad}{M:Mw}{i:Nat}:(Wi A M i).lookup ("claims":Str)=some (.ref (A.ad (.cd i)):V):=by rfl
theorem Kt(T:Txt K mg t){A:Ad}{M:Mw}{i:Nat}(h:H b=some (.ins t.c.office dx (Wi A M i)))(q:Q (.ref (A.ad (.cd i)))):FG K H b "claims" Q:=⟨_,_,_,_,_,rfl,h,T.Zb,T.vV,qal,q⟩
theorem Jaw{y:Addr}{o:Qe}:(vC y o).lookup ("coins":Str)=some (.int o.vb:V):=by rfl
theorem xj(T:Txt K mg t){y:Addr}{o:Qe}(h:H b=some (.ins t.c.order dx (vC y o)))(q:Q (.int o.vb)):FG K H b "coins" Q:=⟨_,_,_,_,_,rfl,h,T.ue,T.j6,Jaw,q⟩
theorem VaG{y:Addr}{o:Qe}:(vC y o).lookup ("key":Str)=some (.int o.key:V):=by rfl
theorem QaH(T:Txt K mg t){y:Addr}{o:Qe}(h:H b=some (.ins t.c.order dx (vC y o)))(q:Q (.int o.key)):FG K H b "key" Q:=⟨_,_,_,_,_,rfl,h,T.ue,T.Vaf,VaG,q⟩
theorem x8{y:Addr}{o:Qe}:(vC y o).lookup ("out_of_date":Str)=some (.int o.ood:V):=by rfl
theorem vG(T:Txt K mg t){y:Addr}{o:Qe}(h:H b=some (.ins t.c.order dx (vC y o)))(q:Q (.int o.ood)):FG K H b "out_of_date" Q:=⟨_,_,_,_,_,rfl,h,T.ue,T.VG,x8,q⟩
theorem Xap{y:Addr}{o:Qe}:(vC y o).lookup ("grants":Str)=some (.ref y:V):=by rfl
theorem ki(T:Txt K mg t){y:Addr}{o:Qe}(h:H b=some (.ins t.c.order dx (vC y o)))(q:Q (.ref y)):FG K H b "grants" Q:=⟨_,_,_,_,_,rfl,h,T.ue,T.WZ,Xap,q⟩
theorem vap{y:Addr}{o:Qe}:(vC y o).lookup ("closed":Str)=some (.bl o.closed:V):=by rfl
theorem Ql(T:Txt K mg t){y:Addr}{o:Qe}(h:H b=some (.ins t.c.order dx (vC y o)))(q:Q (.bl o.closed)):FG K H b "closed" Q:=⟨_,_,_,_,_,rfl,h,T.ue,T.YH,vap,q⟩
theorem Qah{y:Addr}{o:Qe}:(vC y o).lookup ("refunded":Str)=some (.bl o.refunded:V):=by rfl
theorem vB(T:Txt K mg t){y:Addr}{o:Qe}(h:H b=some (.ins t.c.order dx (vC y o)))(q:Q (.bl o.refunded)):FG K H b "refunded" Q:=⟨_,_,_,_,_,rfl,h,T.ue,T.zB,Qah,q⟩
theorem Xao{g:MG}:(QK g).lookup ("number":Str)=some (.int g.num:V):=by rfl
theorem qh(T:Txt K mg t){g:MG}(h:H b=some (.ins t.c.yc dx (QK g)))(q:Q (.int g.num)):FG K H b "number" Q:=⟨_,_,_,_,_,rfl,h,T.zy,T.k0,Xao,q⟩
theorem Yaq{g:MG}:(QK g).lookup ("holder":Str)=some (.int g.jf:V):=by rfl
theorem wk(T:Txt K mg t){g:MG}(h:H b=some (.ins t.c.yc dx (QK g)))(q:Q (.int g.jf)):FG K H b "holder" Q:=⟨_,_,_,_,_,rfl,h,T.zy,T.y0,Yaq,q⟩
theorem Zaz{g:MG}:(QK g).lookup ("till":Str)=some (.int g.uk:V):=by rfl
theorem UQ(T:Txt K mg t){g:MG}(h:H b=some (.ins t.c.yc dx (QK g)))(q:Q (.int g.uk)):FG K H b "till" Q:=⟨_,_,_,_,_,rfl,h,T.zy,T.waa,Zaz,q⟩
theorem Qaa{g:MG}:(QK g).lookup ("given_back":Str)=some (.bl g.back:V):=by rfl
theorem U9(T:Txt K mg t){g:MG}(h:H b=some (.ins t.c.yc dx (QK g)))(q:Q (.bl g.back)):FG K H b "given_back" Q:=⟨_,_,_,_,_,rfl,h,T.zy,T.Qv,Qaa,q⟩
theorem Xau{n g:Int}{x:Jn}:(zv n g x).lookup ("order":Str)=some (.int n:V):=by rfl
theorem Y8(T:Txt K mg t){n g:Int}{x:Jn}(h:H b=some (.ins t.c.claim dx (zv n g x)))(q:Q (.int n)):FG K H b "order" Q:=⟨_,_,_,_,_,rfl,h,T.Jf,T.Y7,Xau,q⟩
theorem J6{n g:Int}{x:Jn}:(zv n g x).lookup ("grant":Str)=some (.int g:V):=by rfl
theorem vM(T:Txt K mg t){n g:Int}{x:Jn}(h:H b=some (.ins t.c.claim dx (zv n g x)))(q:Q (.int g)):FG K H b "grant" Q:=⟨_,_,_,_,_,rfl,h,T.Jf,T.ZL,J6,q⟩
theorem jau{n g:Int}{x:Jn}:(zv n g x).lookup ("coins":Str)=some (.int x.vb:V):=by rfl
theorem Kr(T:Txt K mg t){n g:Int}{x:Jn}(h:H b=some (.ins t.c.claim dx (zv n g x)))(q:Q (.int x.vb)):FG K H b "coins" Q:=⟨_,_,_,_,_,rfl,h,T.Jf,T.yM,jau,q⟩
theorem Yay{n g:Int}{x:Jn}:(zv n g x).lookup ("till":Str)=some (.int x.uk:V):=by rfl
theorem qR(T:Txt K mg t){n g:Int}{x:Jn}(h:H b=some (.ins t.c.claim dx (zv n g x)))(q:Q (.int x.uk)):FG K H b "till" Q:=⟨_,_,_,_,_,rfl,h,T.Jf,T.VR,Yay,q⟩
theorem kav{n g:Int}{x:Jn}:(zv n g x).lookup ("known":Str)=some (.bl x.known:V):=by rfl
theorem jA(T:Txt K mg t){n g:Int}{x:Jn}(h:H b=some (.ins t.c.claim dx (zv n g x)))(q:Q (.bl x.known)):FG K H b "known" Q:=⟨_,_,_,_,_,rfl,h,T.Jf,T.UM,kav,q⟩
theorem waz{n g:Int}{x:Jn}:(zv n g x).lookup ("paid":Str)=some (.bl x.paid:V):=by rfl
theorem yp(T:Txt K mg t){n g:Int}{x:Jn}(h:H b=some (.ins t.c.claim dx (zv n g x)))(q:Q (.bl x.paid)):FG K H b "paid" Q:=⟨_,_,_,_,_,rfl,h,T.Jf,T.xR,waz,q⟩
theorem Kah{n g:Int}{x:Jn}:(zv n g x).lookup ("given_up":Str)=some (.bl x.YX:V):=by rfl
theorem Wl(T:Txt K mg t){n g:Int}{x:Jn}(h:H b=some (.ins t.c.claim dx (zv n g x)))(q:Q (.bl x.YX)):FG K H b "given_up" Q:=⟨_,_,_,_,_,rfl,h,T.Jf,T.wA,Kah,q⟩
theorem QaM{a:Xj}{y:Addr}:(zt a y).lookup ("kind":Str)=some (.str (kindS a.kind):V):=by rfl
theorem qP(T:Txt K mg t){a:Xj}{y:Addr}(h:H b=some (.ins t.c.act dx (zt a y)))(q:Q (.str (kindS a.kind))):FG K H b "kind" Q:=⟨_,_,_,_,_,rfl,h,T.QZ,T.Ual,QaM,q⟩
theorem jay{a:Xj}{y:Addr}:(zt a y).lookup ("number":Str)=some (.int a.no:V):=by rfl
theorem uaz(T:Txt K mg t){a:Xj}{y:Addr}(h:H b=some (.ins t.c.act dx (zt a y)))(q:Q (.int a.no)):FG K H b "number" Q:=⟨_,_,_,_,_,rfl,h,T.QZ,T.Xaa,jay,q⟩
theorem yaN{a:Xj}{y:Addr}:(zt a y).lookup ("cash":Str)=some (.int a.Qy:V):=by rfl
theorem Q5(T:Txt K mg t){a:Xj}{y:Addr}(h:H b=some (.ins t.c.act dx (zt a y)))(q:Q (.int a.Qy)):FG K H b "cash" Q:=⟨_,_,_,_,_,rfl,h,T.QZ,T.ual,yaN,q⟩
theorem Zav{a:Xj}{y:Addr}:(zt a y).lookup ("subject":Str)=some (.ref y:V):=by rfl
theorem JM(T:Txt K mg t){a:Xj}{y:Addr}(h:H b=some (.ins t.c.act dx (zt a y)))(q:Q (.ref y)):FG K H b "subject" Q:=⟨_,_,_,_,_,rfl,h,T.QZ,T.X7,Zav,q⟩
end
end Mo
namespace Mo
open PySem PySem.Spec PyProof.Rows L2
variable{P:Program}{w:World}{K:PySem.W.Frag}{mg:Str→Option Value}{base:Heap}{t:Yd}
theorem yg{c A B:Prop} [Decidable c] (h1:c→A)(h2:¬c→B):if decide c=true then A else B:=by
 by_cases h:c
 ·rw [if_pos (decide_eq_true h)];exact h1 h
 ·rw [if_neg (by simpa using h)];exact h2 h
theorem ifn{c A B:Prop} [Decidable c] (h1:¬c→A)(h2:c→B):if (!decide c)=true then A else B:=by
 by_cases h:c
 ·rw [if_neg (by simp [h])];exact h2 h
 ·rw [if_pos (by simp [h])];exact h1 h
theorem ifb{b:Bool}{A B:Prop}(h1:b=true→A)(h2:b=false→B):if b=true then A else B:=by
 cases b with
 | true=>exact waw (h1 rfl)
 | false=>exact Xad (h2 rfl)
theorem WaZ{b:Bool}{A B:Prop}(h1:b=false→A)(h2:b=true→B):if (!b)=true then A else B:=by
 cases b with
 | true=>exact Xad (h2 rfl)
 | false=>exact waw (h1 rfl)
theorem qm{i:Int}{A B:Prop}(h1:i≠0→A)(h2:i=0→B):if (i !=0)=true then A else B:=by
 by_cases h:i=0
 ·rw [if_neg (by simp [h])];exact h2 h
 ·rw [if_pos (by simpa using h)];exact h1 h
theorem VC{i:Int}{A B:Prop}(h1:i=0→A)(h2:i≠0→B):if i=0 then A else B:=by
 by_cases h:i=0
 ·rw [if_pos h];exact h1 h
 ·rw [if_neg h];exact h2 h
section
variable{c:Cs}{H:Hp}{A:Ad}{M:Mw}{K:PySem.W.Frag}
theorem Holds.wo(h:Holds c H A M):H (A.ad .wo)=some (.ins c.Qg (A.dd .wo) (XE A M)):=h.at_ .wo _ rfl
theorem Holds.VJ(h:Holds c H A M):H (A.ad .VJ)=some (.lst ((List.range M.k).map fun i=>V.ref (A.ad (.of i)))):=h.at_ .VJ _ rfl
theorem Holds.kT(h:Holds c H A M):H (A.ad .kT)=some (.lst ((List.range M.ms.length).map fun j=>V.ref (A.ad (.ms j)))):=h.at_ .kT _ rfl
theorem Holds.of(h:Holds c H A M){i:Nat}(hi:i<M.k):H (A.ad (.of i))=some (.ins c.office (A.dd (.of i)) (Wi A M i)):=h.at_ (.of i) _ (if_pos hi)
theorem Holds.ms(h:Holds c H A M){j:Nat}{m:Je}(hj:M.ms[j]? =some m):H (A.ad (.ms j))=some (.ins c.message (A.dd (.ms j)) (Uk m)):=h.at_ (.ms j) _ (by show (M.ms[j]?).map _=_;rw [hj];rfl)
theorem Holds.jl(h:Holds c H A M){i:Nat}(hi:i<M.k):H (A.ad (.jl i))=some (.lst ((A.jt i).map V.ref)):=h.at_ (.jl i) _ (if_pos hi)
theorem Holds.od(h:Holds c H A M){i:Nat}(hi:i<M.k):H (A.ad (.od i))=some (.dK ((M.ub i).map fun n=>(Sum.inl n,V.ref (A.ad (.ord i n))))):=h.at_ (.od i) _ (if_pos hi)
theorem Holds.cd(h:Holds c H A M){i:Nat}(hi:i<M.k):H (A.ad (.cd i))=some (.dT ((M.Kc i).map fun k=>([Sum.inl k.1,Sum.inl k.2],V.ref (A.ad (.cl i k.1 k.2))))):=h.at_ (.cd i) _ (if_pos hi)
theorem Holds.ord(h:Holds c H A M){i:Nat}{n:Int}{o:Qe}(hi:i<M.k)(ho:M.ord i n=some o):H (A.ad (.ord i n))=some (.ins c.order (A.dd (.ord i n)) (vC (A.ad (.gl i n)) o)):=
 h.at_ (.ord i n) _ (by show (if i<M.k then (M.ord i n).map _ else none)=_;rw [if_pos hi,ho];rfl)
theorem Holds.gl(h:Holds c H A M){i:Nat}{n:Int}{o:Qe}(hi:i<M.k)(ho:M.ord i n=some o):H (A.ad (.gl i n))=some (.lst ((List.range o.gs.length).map fun k=>V.ref (A.ad (.gr i n k)))):=
 h.at_ (.gl i n) _ (by show (if i<M.k then (M.ord i n).map _ else none)=_;rw [if_pos hi,ho];rfl)
theorem Holds.gr(h:Holds c H A M){i k:Nat}{n:Int}{o:Qe}{g:MG}(hi:i<M.k)(ho:M.ord i n=some o)(hg:o.gs[k]? =some g):H (A.ad (.gr i n k))=some (.ins c.yc (A.dd (.gr i n k)) (QK g)):=
 h.at_ (.gr i n k) _ (by show (if i<M.k then (M.ord i n).bind _ else none)=_;rw [if_pos hi,ho];show (o.gs[k]?).map _=_;rw [hg];rfl)
theorem Holds.cl(h:Holds c H A M){i:Nat}{n g:Int}{x:Jn}(hi:i<M.k)(hx:M.cl i n g=some x):H (A.ad (.cl i n g))=some (.ins c.claim (A.dd (.cl i n g)) (zv n g x)):=
 h.at_ (.cl i n g) _ (by show (if i<M.k then (M.cl i n g).map _ else none)=_;rw [if_pos hi,hx];rfl)
theorem Holds.ix(h:Holds c H A M){o:Int}(h0:0≤o)(h1:o.toNat<M.k){Q:V→Prop}(q:Q (.ref (A.ad (.of o.toNat)))):
  ∃p xs i v,V.ref (A.ad .VJ)=V.ref p∧V.int o=V.int i∧xb K H p xs∧atI xs i=some v∧Q v:=
 ⟨_,_,_,_,rfl,rfl,xb.of h.VJ,at_of (j:=o.toNat) (Int.toNat_of_nonneg h0).symm (by rw [List.getElem?_map,List.getElem?_range h1];rfl),q⟩
theorem Holds.ixm(h:Holds c H A M){o:Int}(h0:0≤o)(h1:o.toNat<M.ms.length){Q:V→Prop}(q:Q (.ref (A.ad (.ms o.toNat)))):
  ∃p xs i v,V.ref (A.ad .kT)=V.ref p∧V.int o=V.int i∧xb K H p xs∧atI xs i=some v∧Q v:=
 ⟨_,_,_,_,rfl,rfl,xb.of h.kT,at_of (j:=o.toNat) (Int.toNat_of_nonneg h0).symm (by rw [List.getElem?_map,List.getElem?_range h1];rfl),q⟩
theorem JS{M:Mw}{o:Int}(h:jh M o=0):0≤o∧o.toNat<M.k:=by
 unfold jh at h;split at h
 ·omega
 ·cases h
end
def Jas(t:Yd):Sp:=fun vs H Q _=>∃n:Int,vs= [.int n]∧Q (.int (Jr n)) H
theorem Vr(T:Txt K mg t):wb P w K mg base ke 1 t.J7 t.u6 ["n"] (Jas t):=by
  refine T.Uo.kf VaS fun vs H Q E h=>?_;obtain ⟨n,rfl,k⟩:=h;refine ⟨rfl,fun _ _ _ _ hr=>⟨_,(va (Ja (Vs Ybh (pv 0) ua))),?_⟩⟩;exact ⟨_,rfl,_,_,rfl,rfl,(by show (0:Int)<10;decide),k⟩
def jaS(t:Yd):Sp:=fun vs H Q _=>∃n lo hi:Int,vs= [.int n, .int lo, .int hi]∧Q (.int (outI n lo hi)) H
theorem Vh(T:Txt K mg t):wb P w K mg base ke 1 t.z6 t.Z7 ["n","least","most"] (jaS t):=by
  refine T.Yh.kf vaQ fun vs H Q E h=>?_;obtain ⟨n,lo,hi,rfl,k⟩:=h;refine ⟨rfl,fun _ _ _ _ hr=>⟨_,(va (Ja (jk (War YaP YaP (pv 1) (pv 0) (pv 2)) ua (xa (v:= .int (-12)) rfl T.UaZ ⟨_,rfl⟩)))),?_⟩⟩;unfold outI at k;refine ⟨_,rfl,_,rfl,_,_,rfl,rfl,_,rfl,yg (fun h1=>⟨_,rfl,_,_,rfl,rfl,_,rfl,yg (fun h2=>?_) fun h2=>?_⟩) fun h1=>⟨_,rfl,Xad ?_⟩⟩
  ·rw [if_pos ⟨h1,h2⟩] at k;exact k
  ·rw [if_neg (fun z=>h2 z.2)] at k;exact k
  ·rw [if_neg (fun z=>h1 z.1)] at k;exact k
def yaz(t:Yd):Sp:=fun vs H Q _=>∃n:Int,vs= [.int n]∧Q (.int (outI n 0 100000)) H
theorem Jj(T:Txt K mg t):wb P w K mg base ke 2 t.ZJ t.yI ["n"] (yaz t):=by
  refine T.Zi.kf xaz fun vs H Q E h=>?_;obtain ⟨n,rfl,k⟩:=h;refine ⟨rfl,fun _ _ _ _ hr=>⟨_,(va (Ja (ja (Vh T) hr.m rfl T.Zj T.Yh.kp T.zj .nil Ka (za (pv 0) (za ua (za (xa (v:= .int (100000)) rfl T.jaz ⟨_,rfl⟩) Qa)))))),?_⟩⟩;exact ⟨_,rfl,_,_,_,rfl,k⟩
def xaG(t:Yd):Sp:=fun vs H Q _=>∃(A:Ad) (M:Mw) (o:Int),vs= [.ref (A.ad .wo), .int o]∧Holds t.c H A M∧Q (.int (jh M o)) H
theorem ql(T:Txt K mg t):wb P w K mg base ke 2 t.QP t.VO ["world","o"] (xaG t):=by
  refine T.Yj.kf JaF fun vs H Q E h=>?_;obtain ⟨A,M,o,rfl,hd,k⟩:=h;refine ⟨rfl,fun _ _ _ _ hr=>⟨_,(va (Ja (jk (War YaP qax ua (pv 1) (jd Jc (by rfl) T.Uu PySem.boot_len (za (ya (pv 0) rfl) Qa))) ua (xa (v:= .int (-5)) rfl T.xaK ⟨_,rfl⟩)))),?_⟩⟩;unfold jh at k;have e:((List.range M.k).map fun i=>V.ref (A.ad (.of i))).length=M.k:=by simp
  refine ⟨_,rfl,_,_,rfl,rfl,_,rfl,yg (fun h1=>⟨_,rfl,wa T hd.wo ⟨_,_,rfl, .inl (xb.of hd.VJ),_,_,rfl,rfl,_,rfl,yg (fun h2=>?_) fun h2=>?_⟩⟩) fun h1=>⟨_,rfl,Xad ?_⟩⟩
  ·rw [e] at h2;rw [if_pos ⟨h1,h2⟩] at k;exact k
  ·rw [e] at h2;rw [if_neg (fun z=>h2 z.2)] at k;exact k
  ·rw [if_neg (fun z=>h1 z.1)] at k;exact k
def Ya9(t:Yd):Sp:=fun vs H Q _=>∃(A:Ad) (M:Mw) (o:Int),vs= [.ref (A.ad .wo), .int o]∧Holds t.c H A M∧0≤o∧o.toNat<M.k∧Q (.int (WS M o)) H
theorem xaU(T:Txt K mg t):wb P w K mg base ke 1 t.ZaD t.KaA ["world","o"] (Ya9 t):=by
  refine T.yaB.kf Xba fun vs H Q E h=>?_;obtain ⟨A,M,o,rfl,hd,h0,h1,k⟩:=h;refine ⟨rfl,fun _ _ _ _ hr=>⟨_,(va (Ja (jk (Qh (ya (Vb Xa (ya (pv 0) rfl) (pv 1) (fun _ _=>rfl)) rfl)) ua (xa (v:= .int (-6)) rfl T.vbe ⟨_,rfl⟩)))),?_⟩⟩;refine ⟨_,rfl,wa T hd.wo ⟨_,rfl,hd.ix h0 h1 (qz T (hd.of h1) ⟨_,rfl,?_⟩)⟩⟩;unfold WS at k;cases e:M.up o.toNat with
  | true=>rw [e] at k;exact waw k
  | false=>rw [e] at k;exact Xad k
def QaY(t:Yd):Sp:=fun vs H Q _=>∃(A:Ad) (M:Mw) (o:Int),vs= [.ref (A.ad .wo), .int o]∧Holds t.c H A M∧Q (.int (uj M o)) H
theorem ur(T:Txt K mg t):wb P w K mg base ke 3 t.Zae t.xae ["world","o"] (QaY t):=by
  refine T.vp.kf UaX fun vs H Q E h=>?_;obtain ⟨A,M,o,rfl,hd,k⟩:=h;refine ⟨rfl,fun _ _ _ _ hr=>⟨_,(va (Ja (Ud (ja (ql T) hr.m rfl T.vn T.Yj.kp T.Vn .nil Ka (za (pv 0) (za (pv 1) Qa))) (qp (ja (xaU T) hr.m rfl T.za1 T.yaB.kp T.Va1 .nil Ka (za (pv 0) (za (pv 1) Qa))))))),?_⟩⟩;unfold uj Wb at k;refine ⟨_,rfl,_,rfl,A,M,o,rfl,hd,_,rfl,VC (fun h=>⟨_,rfl,_,rfl,A,M,o,rfl,hd,(JS h).1,(JS h).2,?_⟩) fun h=>?_⟩
  ·rw [if_pos h] at k;exact k
  ·rw [if_neg h] at k;exact k
def Xah(t:Yd):Sp:=fun vs H Q _=>∃(A:Ad) (M:Mw) (o:Int),vs= [.ref (A.ad .wo), .int o]∧Holds t.c H A M∧0≤o∧o.toNat<M.k∧Q (.int (zd M o.toNat)) H
theorem vi(T:Txt K mg t):wb P w K mg base ke 1 t.Ks t.qt ["self","o"] (Xah t):=by
  refine T.QV.kf qah fun vs H Q E h=>?_;obtain ⟨A,M,o,rfl,hd,h0,h1,k⟩:=h;refine ⟨rfl,fun _ _ _ _ hr=>⟨_,(va (Ja (Vs qx (ya (pv 0) rfl) (ya (Vb Xa (ya (pv 0) rfl) (pv 1) (fun _ _=>rfl)) rfl)))),?_⟩⟩;exact ⟨_,rfl,ZR T hd.wo ⟨_,rfl,wa T hd.wo ⟨_,rfl,hd.ix h0 h1 (kal T (hd.of h1) ⟨_,_,rfl,rfl,k⟩)⟩⟩⟩
end Mo
namespace Mo
open PySem PySem.Spec PyProof.Rows L2
theorem waP(σ:L2.St)(v:Nat)(x:V):wipe ((wipe σ [v]).set v (some x)) [v]=wipe σ [v]:=by
 show ((σ.set v none).set v (some x)).set v none=σ.set v none;rw [List.set_set,List.set_set]
theorem zw{α:Type}{l:List α}{i:Nat}{x:α}(h:l[i]? =some x):l.take (i+1)=l.take i++ [x]:=by
 rw [List.take_add_one,h];rfl
theorem Vp{β:Type}{K:PySem.W.Frag}{a:Addr}{xs:List V}{v:Nat}{tt:TT}{te:TE}{σ:L2.St}{H1:Hp}{D:Addr}{Qd:Hp→Prop}(ys:List β)(f:β→Option V)(hD:H1 D=none)(hl:xb K H1 a xs)(hxy:xs.length=ys.length)(hsz:ys.length<sizeLine)
  (hs:∀(i:Nat) (x:V) (y:β) (H:Hp) (N:Hp→Prop) (Y:V→Hp→Prop),xs[i]? =some x→ys[i]? =some y→Ua H1 H→(f y=none→∀H3,Ua H H3→N H3)→(∀z,f y=some z→∀H4,Ua H H4→Y z H4)→
   tt ((wipe σ [v]).set v (some x)) H fun b H3=>if b=true then te ((wipe σ [v]).set v (some x)) H3 Y else N H3)
  (hd:∀H,Ua H1 H→H D=some (.lst (ys.filterMap f))→Qd H):
  ∃W:Nat→Nat→Hp→Prop,(∃m,W 0 m (upd H1 D (.lst [])))∧∀i m H,W i m H→
   ((Itl K a).stop i H∧Qd H)∨((Itl K a).go i H∧∃Nx:Hp→Prop,(∀H',Nx H'→∃m',m'<m∧W (i+1) m' H')∧∀x H',(Itl K a).yld i H x H'→xam v x (wipe σ [v]) H' fun σ2 H2=>wipe σ2 [v]=wipe σ [v]∧tt σ2 H2 fun b H3=>
    if b=true then te σ2 H3 fun y H4=>∃acc,H4 D=some (.lst acc)∧acc.length<sizeLine∧Nx (upd H4 D (.lst (acc++ [y]))) else Nx H3):=by
 have up:∀{H:Hp} {o:HO},Ua H1 H→Ua H1 (upd H D o):=fun {H o} s b u e=>by rw [Va (Qb e hD)];exact s b u e
 refine yba (Pv:=fun i H=>Ua H1 H∧H D=some (.lst ((ys.take i).filterMap f))) ⟨up (Ua.refl _),Ya⟩ (fun i H _ h=>h.1.seq hl) ?_ fun H h=>hd H h.1 (by rw [h.2,hxy,List.take_length])
 intro i x H hx h;have hi:i<ys.length:=by rw [←hxy];exact (List.getElem?_eq_some_iff.mp hx).1
 have hy:ys[i]? =some ys[i]:=List.getElem?_eq_getElem hi;refine ⟨waP σ v x,hs i x ys[i] H _ _ hx hy h.1 (fun hf H3 s3=>⟨h.1.trans s3,?_⟩) fun z hf H4 s4=>⟨_,s4 _ _ h.2,?_,up (h.1.trans s4),?_⟩⟩
 ·rw [s3 _ _ h.2,zw hy,List.filterMap_append,List.filterMap_cons,hf];simp
 ·have h1:((ys.take i).filterMap f).length≤(ys.take i).length:=List.length_filterMap_le _ _;rw [List.length_take] at h1;omega
 ·rw [Ya,zw hy,List.filterMap_append,List.filterMap_cons,hf];rfl
end Mo
namespace Mo
open PySem PySem.Spec PyProof.Rows L2
variable{P:Program}{w:World}{K:PySem.W.Frag}{mg:Str→Option Value}{base:Heap}{t:Yd}
theorem uf{K:PySem.W.Frag}{H:Hp}{p C dx:Addr}{fs:List (Str×V)}{f:Str}{v:V}{N:Hp→Prop}(h:H p=some (.ins C dx fs))(cl:Y9 K C)(na:qc K C f)(hl:fs.length<1000)(n:N (upd H p (.ins C dx (uc f v fs)))):
  ∃a C' dx' fs',V.ref p=V.ref a∧H a=some (.ins C' dx' fs')∧Y9 K C'∧qc K C' f∧fs'.length<1000∧N (upd H a (.ins C' dx' (uc f v fs'))):=⟨_,_,_,_,rfl,h,cl,na,hl,n⟩
def YaT(t:Yd):Sp:=fun vs H Q _=>∃n:Int,vs= [.int n]∧Q (.int (outI n 0 9999)) H
theorem zat(T:Txt K mg t):wb P w K mg base ke 2 t.U6 t.V6 ["key"] (YaT t):=by
  refine T.y6.kf jaQ fun vs H Q E h=>?_;obtain ⟨n,rfl,k⟩:=h;refine ⟨rfl,fun _ _ _ _ hr=>⟨_,(va (Ja (ja (Vh T) hr.m rfl T.Zj T.Yh.kp T.zj .nil Ka (za (pv 0) (za ua (za (xa (v:= .int (9999)) rfl T.WaQ ⟨_,rfl⟩) Qa)))))),?_⟩⟩;exact ⟨_,rfl,_,_,_,rfl,k⟩
def ZaG(t:Yd):Sp:=fun vs H Q _=>∃n:Int,vs= [.int n]∧Q (.int (outI n 0 1000)) H
theorem jaG(T:Txt K mg t):wb P w K mg base ke 2 t.YO t.jO ["g"] (ZaG t):=by
  refine T.U3.kf waH fun vs H Q E h=>?_;obtain ⟨n,rfl,k⟩:=h;refine ⟨rfl,fun _ _ _ _ hr=>⟨_,(va (Ja (ja (Vh T) hr.m rfl T.Zj T.Yh.kp T.zj .nil Ka (za (pv 0) (za ua (za (xa (v:= .int (1000)) rfl T.yaI ⟨_,rfl⟩) Qa)))))),?_⟩⟩;exact ⟨_,rfl,_,_,_,rfl,k⟩
def xaS(t:Yd):Sp:=fun vs H Q _=>∃n:Int,vs= [.int n]∧Q (.int (outI n 0 3)) H
theorem uab(T:Txt K mg t):wb P w K mg base ke 2 t.Y6 t.X6 ["cut"] (xaS t):=by
  refine T.uT.kf VaQ fun vs H Q E h=>?_;obtain ⟨n,rfl,k⟩:=h;refine ⟨rfl,fun _ _ _ _ hr=>⟨_,(va (Ja (ja (Vh T) hr.m rfl T.Zj T.Yh.kp T.zj .nil Ka (za (pv 0) (za ua (za (xa (v:= .int (3)) rfl T.ZaT ⟨_,rfl⟩) Qa)))))),?_⟩⟩;exact ⟨_,rfl,_,_,_,rfl,k⟩
def zay(t:Yd):Sp:=fun vs H Q _=>∃(A:Ad) (M:Mw) (m:Int),vs= [.ref (A.ad .wo), .int m]∧Holds t.c H A M∧Q (.int (vZ M m)) H
theorem jR(T:Txt K mg t):wb P w K mg base ke 2 t.vI t.WI ["world","m"] (zay t):=by
  refine T.Yz.kf vaz fun vs H Q E h=>?_;obtain ⟨A,M,m,rfl,hd,k⟩:=h;refine ⟨rfl,fun _ _ _ _ hr=>⟨_,(va (Ja (jk (War YaP qax ua (pv 1) (jd Jc (by rfl) T.Uu PySem.boot_len (za (ya (pv 0) rfl) Qa))) ua (xa (v:= .int (-5)) rfl T.xaK ⟨_,rfl⟩)))),?_⟩⟩;unfold vZ at k;have e:((List.range M.ms.length).map fun i=>V.ref (A.ad (.ms i))).length=M.ms.length:=by simp
  refine ⟨_,rfl,_,_,rfl,rfl,_,rfl,yg (fun h1=>⟨_,rfl,Ue T hd.wo ⟨_,_,rfl, .inl (xb.of hd.kT),_,_,rfl,rfl,_,rfl,yg (fun h2=>?_) fun h2=>?_⟩⟩) fun h1=>⟨_,rfl,Xad ?_⟩⟩
  ·rw [e] at h2;rw [if_pos ⟨h1,h2⟩] at k;exact k
  ·rw [e] at h2;rw [if_neg (fun z=>h2 z.2)] at k;exact k
  ·rw [if_neg (fun z=>h1 z.1)] at k;exact k
def Ua8(t:Yd):Sp:=fun vs H Q _=>∃(A:Ad) (M:Mw),vs= [.ref (A.ad .wo)]∧Holds t.c H A M∧Q (.int (uy M)) H
theorem Jac(T:Txt K mg t):wb P w K mg base ke 2 t.jaD t.UaA ["world"] (Ua8 t):=by
  refine T.y9.kf Va9 fun vs H Q E h=>?_;obtain ⟨A,M,rfl,hd,k⟩:=h;refine ⟨rfl,fun _ _ _ _ hr=>⟨_,(va (Ja (jk (Kb kaP (jd Jc (by rfl) T.Uu PySem.boot_len (za (ya (pv 0) rfl) Qa)) (xa (v:= .int (300)) rfl T.Xaq ⟨_,rfl⟩) (Zc _)) (xa (v:= .int (-9)) rfl T.Za2 ⟨_,rfl⟩) ua))),?_⟩⟩;unfold uy at k;have e:((List.range M.ms.length).map fun i=>V.ref (A.ad (.ms i))).length=M.ms.length:=by simp
  refine ⟨_,rfl,Ue T hd.wo ⟨_,_,rfl, .inl (xb.of hd.kT),_,_,rfl,rfl,_,rfl,yg (fun h2=>?_) fun h2=>?_⟩⟩
  ·rw [e] at h2;rw [if_pos (by omega)] at k;exact k
  ·rw [e] at h2;rw [if_neg (by omega)] at k;exact k
def Uac(t:Yd):Sp:=fun vs H Q _=>∃(A:Ad) (M:Mw) (o:Int),vs= [.ref (A.ad .wo), .int o]∧Holds t.c H A M∧0≤o∧o.toNat<M.k∧Q (.int (Zax M o)) H
theorem uad(T:Txt K mg t):wb P w K mg base ke 1 t.Wq t.zr ["world","o"] (Uac t):=by
  refine T.YB.kf uac fun vs H Q E h=>?_;obtain ⟨A,M,o,rfl,hd,h0,h1,k⟩:=h;refine ⟨rfl,fun _ _ _ _ hr=>⟨_,(va (Ja (jk (Kb kaP (ya (Vb Xa (ya (pv 0) rfl) (pv 1) (fun _ _=>rfl)) rfl) (xa (v:= .int (100)) rfl T.Kay ⟨_,rfl⟩) (Zc _)) (xa (v:= .int (-9)) rfl T.Za2 ⟨_,rfl⟩) ua))),?_⟩⟩;unfold Zax at k;refine ⟨_,rfl,wa T hd.wo ⟨_,rfl,hd.ix h0 h1 (XB T (hd.of h1) ⟨_,_,rfl,rfl,_,rfl,yg (fun h2=>?_) fun h2=>?_⟩)⟩⟩
  ·rw [if_pos h2] at k;exact k
  ·rw [if_neg h2] at k;exact k
def JaL(t:Yd):Sp:=fun vs H Q _=>∃(A:Ad) (M:Mw) (o:Int),vs= [.ref (A.ad .wo), .int o]∧Holds t.c H A M∧0≤o∧o.toNat<M.k∧Q (.int (if M.up o.toNat=true then-4 else 0)) H
theorem zaN(T:Txt K mg t):wb P w K mg base ke 1 t.ZX t.jX ["world","o"] (JaL t):=by
  refine T.Wab.kf xaL fun vs H Q E h=>?_;obtain ⟨A,M,o,rfl,hd,h0,h1,k⟩:=h;refine ⟨rfl,fun _ _ _ _ hr=>⟨_,(va (Ja (jk (Qh (ya (Vb Xa (ya (pv 0) rfl) (pv 1) (fun _ _=>rfl)) rfl)) (xa (v:= .int (-4)) rfl T.zaC ⟨_,rfl⟩) ua))),?_⟩⟩;refine ⟨_,rfl,wa T hd.wo ⟨_,rfl,hd.ix h0 h1 (qz T (hd.of h1) ⟨_,rfl,ifb (fun e=>?_) fun e=>?_⟩)⟩⟩
  ·rw [if_pos e] at k;exact k
  ·rw [if_neg (by rw [e];decide)] at k;exact k
def Kak(t:Yd):Sp:=fun vs H Q _=>∃(A:Ad) (M:Mw) (x dx:Addr) (m:Je),vs= [.ref (A.ad .wo), .ref x]∧Holds t.c H A M∧H x=some (.ins t.c.message dx (Uk m))∧0≤m.receiver∧m.receiver.toNat<M.k∧Q (.int (if m.gone=true then-4 else WS M m.receiver)) H
theorem Jal(T:Txt K mg t):wb P w K mg base ke 2 t.kx t.Zw ["world","message"] (Kak t):=by
  refine T.wH.kf Zal fun vs H Q E h=>?_;obtain ⟨A,M,x,dx,m,rfl,hd,hx,h0,h1,k⟩:=h;refine ⟨rfl,fun _ _ _ _ hr=>⟨_,(va (Ja (jk (Qh (ya (pv 1) rfl)) (xa (v:= .int (-4)) rfl T.zaC ⟨_,rfl⟩) (ja (xaU T) hr.m rfl T.za1 T.yaB.kp T.Va1 .nil Ka (za (pv 0) (za (ya (pv 1) rfl) Qa)))))),?_⟩⟩;refine ⟨_,rfl,XZ T hx ⟨_,rfl,ifb (fun e=>?_) fun e=>⟨_,rfl,_,rfl,Xb T hx ⟨A,M,_,rfl,hd,h0,h1,?_⟩⟩⟩⟩
  ·rw [if_pos e] at k;exact k
  ·rw [if_neg (by rw [e];decide)] at k;exact k
def jag(t:Yd):Sp:=fun vs H Q _=>∃(p dx:Addr) (n h l:Int),vs= [.ref p, .int n, .int h, .int l]∧H p=some (.ins t.c.yc dx [])∧∀H':Hp,H' p=some (.ins t.c.yc dx (QK ⟨n,h,l,false⟩))→(∀b,b≠p→H' b=H b)→Q .non H'
theorem vag(T:Txt K mg t):wb P w K mg base ke 1 t.Js t.wt ["self","number","holder","till"] (jag t):=by
  refine T.ZW.kf xah fun vs H Q E h=>?_;obtain ⟨p,dx,n,h,l,rfl,hp,k⟩:=h;refine ⟨rfl,fun _ _ _ _ hr=>⟨_,(Za (zc (pv 0) (pv 1) rfl) (Za (zc (pv 0) (pv 2) rfl) (Za (zc (pv 0) (pv 3) rfl) (va (zc (pv 0) Zv rfl))))),?_⟩⟩;refine ⟨_,rfl,_,rfl,uf hp T.zy T.k0 (nb rfl) ⟨_,rfl,_,rfl,uf Ya T.zy T.y0 (nb rfl) ⟨_,rfl,_,rfl,uf Ya T.zy T.waa (nb rfl) ⟨_,rfl,uf Ya T.zy T.Qv (nb rfl) ?_⟩⟩⟩⟩;exact k _ Ya fun b hb=>by rw [Va hb,Va hb,Va hb,Va hb]
def kag(t:Yd):Sp:=fun vs H Q _=>∃(p dx:Addr) (n g:Int),vs= [.ref p, .int n, .int g]∧H p=some (.ins t.c.claim dx [])∧∀H':Hp,H' p=some (.ins t.c.claim dx (zv n g cl0))→(∀b,b≠p→H' b=H b)→Q .non H'
theorem JQ(T:Txt K mg t):wb P w K mg base ke 1 t.yu t.Xs ["self","order","grant"] (kag t):=by
  refine T.WV.kf Vah fun vs H Q E h=>?_;obtain ⟨p,dx,n,g,rfl,hp,k⟩:=h;refine ⟨rfl,fun _ _ _ _ hr=>⟨_,(Za (zc (pv 0) (pv 1) rfl) (Za (zc (pv 0) (pv 2) rfl) (Za (zc (pv 0) ua rfl) (Za (zc (pv 0) ua rfl) (Za (zc (pv 0) Zv rfl) (Za (zc (pv 0) Zv rfl) (va (zc (pv 0) Zv rfl)))))))),?_⟩⟩;refine ⟨_,rfl,_,rfl,uf hp T.Jf T.Y7 (nb rfl) ⟨_,rfl,_,rfl,uf Ya T.Jf T.ZL (nb rfl) ⟨_,rfl,uf Ya T.Jf T.yM (nb rfl) ⟨_,rfl,uf Ya T.Jf T.VR (nb rfl) ⟨_,rfl,uf Ya T.Jf T.UM (nb rfl) ⟨_,rfl,uf Ya T.Jf T.xR (nb rfl) ⟨_,rfl,uf Ya T.Jf T.wA (nb rfl) ?_⟩⟩⟩⟩⟩⟩⟩;exact k _ Ya fun b hb=>by rw [Va hb,Va hb,Va hb,Va hb,Va hb,Va hb,Va hb]
def wap(t:Yd):Sp:=fun vs H Q _=>∃(p dx y:Addr) (a:Xj),vs= [.ref p, .str (kindS a.kind), .int a.no, .int a.Qy, .ref y]∧H p=some (.ins t.c.act dx [])∧∀H':Hp,H' p=some (.ins t.c.act dx (zt a y))→(∀b,b≠p→H' b=H b)→Q .non H'
theorem VH(T:Txt K mg t):wb P w K mg base ke 1 t.QA t.VA ["self","kind","number","cash","subject"] (wap t):=by
  refine T.x6.kf zap fun vs H Q E h=>?_;obtain ⟨p,dx,y,a,rfl,hp,k⟩:=h;refine ⟨rfl,fun _ _ _ _ hr=>⟨_,(Za (zc (pv 0) (pv 1) rfl) (Za (zc (pv 0) (pv 2) rfl) (Za (zc (pv 0) (pv 3) rfl) (va (zc (pv 0) (pv 4) rfl))))),?_⟩⟩;refine ⟨_,rfl,_,rfl,uf hp T.QZ T.Ual (nb rfl) ⟨_,rfl,_,rfl,uf Ya T.QZ T.Xaa (nb rfl) ⟨_,rfl,_,rfl,uf Ya T.QZ T.ual (nb rfl) ⟨_,rfl,_,rfl,uf Ya T.QZ T.X7 (nb rfl) ?_⟩⟩⟩⟩;exact k _ Ya fun b hb=>by rw [Va hb,Va hb,Va hb,Va hb]
def x9(t:Yd):Sp:=fun vs H Q _=>∃(p dx:Addr) (a b c d e f g:Int),vs= [.ref p, .int a, .int b, .int c, .int d, .int e, .int f, .int g]∧H p=some (.ins t.c.message dx [])∧∀H':Hp,H' p=some (.ins t.c.message dx (Uk ⟨a,b,c,d,e,f,g,false⟩))→(∀b,b≠p→H' b=H b)→Q .non H'
theorem Zh(T:Txt K mg t):wb P w K mg base ke 1 t.Qo t.Ko ["self","kind","order","grant","sender","receiver","amount","till"] (x9 t):=by
  refine T.wM.kf w9 fun vs H Q E h=>?_;obtain ⟨p,dx,a,b,c,d,e,f,g,rfl,hp,k⟩:=h;refine ⟨rfl,fun _ _ _ _ hr=>⟨_,(Za (zc (pv 0) (pv 1) rfl) (Za (zc (pv 0) (pv 2) rfl) (Za (zc (pv 0) (pv 3) rfl) (Za (zc (pv 0) (pv 4) rfl) (Za (zc (pv 0) (pv 5) rfl) (Za (zc (pv 0) (pv 6) rfl) (Za (zc (pv 0) (pv 7) rfl) (va (zc (pv 0) Zv rfl))))))))),?_⟩⟩;refine ⟨_,rfl,_,rfl,uf hp T.zf T.Y0 (nb rfl) ⟨_,rfl,_,rfl,uf Ya T.zf T.QW (nb rfl) ⟨_,rfl,_,rfl,uf Ya T.zf T.qW (nb rfl) ⟨_,rfl,_,rfl,uf Ya T.zf T.qQ (nb rfl) ⟨_,rfl,_,rfl,uf Ya T.zf T.QJ (nb rfl) ⟨_,rfl,_,rfl,uf Ya T.zf T.jQ (nb rfl) ⟨_,rfl,_,rfl,uf Ya T.zf T.VZ (nb rfl) ⟨_,rfl,uf Ya T.zf T.KH (nb rfl) ?_⟩⟩⟩⟩⟩⟩⟩⟩;exact k _ Ya fun b hb=>by rw [Va hb,Va hb,Va hb,Va hb,Va hb,Va hb,Va hb,Va hb]
def wag(t:Yd):Sp:=fun vs H Q _=>∃(p dx:Addr) (a b d:Int),vs= [.ref p, .int a, .int b, .int d]∧H p=some (.ins t.c.order dx [])∧∀(H':Hp) (y:Addr),y≠p→H y=none→H' p=some (.ins t.c.order dx (vC y ⟨a,b,d, [],false,false⟩))→H' y=some (.lst [])→(∀b,b≠p→b≠y→H' b=H b)→Q .non H'
theorem Jag(T:Txt K mg t):wb P w K mg base ke 1 t.Wt t.zu ["self","coins","key","out_of_date"] (wag t):=by
  refine T.jV.kf xag fun vs H Q E h=>?_;obtain ⟨p,dx,a,b,d,rfl,hp,k⟩:=h;refine ⟨rfl,fun _ _ _ _ hr=>⟨_,(Za (zc (pv 0) (pv 1) rfl) (Za (zc (pv 0) (pv 2) rfl) (Za (zc (pv 0) (pv 3) rfl) (Za (zc (pv 0) (Qc Qa) rfl) (Za (zc (pv 0) Zv rfl) (va (zc (pv 0) Zv rfl))))))),?_⟩⟩;refine ⟨_,rfl,_,rfl,uf hp T.ue T.j6 (nb rfl) ⟨_,rfl,_,rfl,uf Ya T.ue T.Vaf (nb rfl) ⟨_,rfl,_,rfl,uf Ya T.ue T.VG (nb rfl) ⟨Nat.zero_le _,fun y hy=>⟨_,rfl,uf (by rw [Va (fun z=>by rw [←z,Ya] at hy;cases hy)];exact Ya) T.ue T.WZ (nb rfl) ⟨_,rfl,uf Ya T.ue T.YH (nb rfl) ⟨_,rfl,uf Ya T.ue T.zB (nb rfl) ?_⟩⟩⟩⟩⟩⟩⟩;have ne:y≠p:=fun z=>by rw [z,Ya] at hy;cases hy
  rw [Va ne,Va ne,Va ne] at hy;refine k _ y ne hy Ya ?_ fun b hb hb2=>by rw [Va hb,Va hb,Va hb,Va hb2,Va hb,Va hb,Va hb]
  rw [Va ne,Va ne,Va ne,Ya]
def xV(t:Yd):Sp:=fun vs H Q _=>∃(p dx:Addr) (n g:Int) (x:Jn),vs= [.ref p]∧H p=some (.ins t.c.claim dx (zv n g x))∧Q (.bl (UU x)) H
theorem vak(T:Txt K mg t):wb P w K mg base ke 1 t.uw t.Vw ["self"] (xV t):=by
  refine T.YZ.kf yal fun vs H Q E h=>?_;obtain ⟨p,dx,n,g,x,rfl,hp,k⟩:=h;refine ⟨rfl,fun _ _ _ _ hr=>⟨_,(va (Ja (ka1 (ya (pv 0) rfl) (ka1 (Xa0 (ya (pv 0) rfl)) (qp (Xa0 (ya (pv 0) rfl))))))),?_⟩⟩;unfold UU at k;refine ⟨_,rfl,jA T hp ⟨_,rfl,ifb (fun e1=>⟨_,rfl,yp T hp ⟨_,rfl,_,rfl,WaZ (fun e2=>⟨_,rfl,Wl T hp ⟨_,rfl,?_⟩⟩) fun e2=>?_⟩⟩) fun e1=>?_⟩⟩
  ·rw [e1,e2] at k;exact k
  ·rw [e1,e2] at k;exact k
  ·rw [e1] at k;exact k
end Mo
namespace Mo
open PySem PySem.Spec PyProof.Rows L2
variable{P:Program}{w:World}{K:PySem.W.Frag}{mg:Str→Option Value}{base:Heap}{t:Yd}
structure Sz(M:Mw)(d:Nat):Prop where
 k:M.k≤5
 jr:∀i,i<M.k→(M.jr i).length+d<sizeLine
 ms:M.ms.length+d<sizeLine
 ub:∀i,i<M.k→(M.ub i).length+d<sizeLine
 Kc:∀i,i<M.k→(M.Kc i).length+d<sizeLine
 gs:∀i n o,i<M.k→M.ord i n=some o→o.gs.length+d<sizeLine
theorem Sz.k' {M:Mw}{d:Nat}(z:Sz M d):M.k<sizeLine:=Nat.lt_of_le_of_lt z.k (by rw [sizeLine_eq];decide)
def zU(A:Ad)(i:Nat)(n:Int)(o:Qe):V:=match Xc o with
 | none=> .non
 | some _=> .ref (A.ad (.gr i n (o.gs.length-1)))
theorem yes{σ:L2.St}{H:Hp}{A B:Hp→Prop}(h:A H):jaj σ H fun b H3=>if b=true then A H3 else B H3:=by
 show if true=true then A H else B H
 exact waw h
theorem xaA{n i y:Nat}(h:(List.range n)[i]? =some y):y=i∧i<n:=by
 obtain ⟨h1,h2⟩:=List.getElem?_eq_some_iff.mp h;rw [List.getElem_range] at h2;rw [List.length_range] at h1;exact ⟨h2.symm,h1⟩
theorem Vao{n i y:Nat}{x:V}{f:Nat→V}(hx:((List.range n).map f)[i]? =some x)(hy:(List.range n)[i]? =some y):x=f y∧y<n:=by
 rw [List.getElem?_map,hy] at hx;obtain ⟨rfl,h⟩:=xaA hy;exact ⟨(Option.some.inj hx).symm,h⟩
theorem Vab(n:Nat)(f:Nat→V):(List.range (n+1)).map f=(List.range n).map f++ [f n]:=by rw [List.range_succ,List.map_append];rfl
theorem filterMap_some{α β:Type}(g:α→β):∀l:List α,l.filterMap (fun x=>some (g x))=l.map g
 | []=>rfl
 | a::r=>by rw [List.filterMap_cons,filterMap_some g r];rfl
def ybc:JR→Option V
 | .bank n=>some (.int n)
 | _=>none
theorem Z1:∀j:List JR,j.filterMap ybc=(zq j).map V.int
 | []=>rfl
 | .bank n::r=>by rw [List.filterMap_cons,Z1 r];rfl
 | .begun a::r=>by rw [List.filterMap_cons,Z1 r];rfl
 | .done a::r=>by rw [List.filterMap_cons,Z1 r];rfl
 | .other::r=>by rw [List.filterMap_cons,Z1 r];rfl
theorem kaV{c:Cs}{H:Hp}:∀{js:List JR} {ts:List Addr},Paired (kai c H) js ts→∃zs:List (JR×Addr),zs.map (·.1)=js∧zs.length=ts.length∧
  ∀(i:Nat) (z:JR×Addr) (u:Addr),zs[i]? =some z→ts[i]? =some u→kai c H z.1 u∧∀a,z.1= .done a→H u=some (.tup [.str "done", .ref z.2])∧∃dx y,H z.2=some (.ins c.act dx (zt a y))
 | _,_, .nil=>⟨[],rfl,rfl,fun i z u h=>by simp at h⟩
 | _,_, .cons (a:=r) (b:=u) h hs=>by
  obtain ⟨zs,e1,e2,e3⟩:=kaV hs;obtain ⟨x,hx⟩:∃x:Addr,∀a,r= .done a→H u=some (.tup [.str "done", .ref x])∧∃dx y,H x=some (.ins c.act dx (zt a y)):=by
   cases r with
   | done a=>
    obtain ⟨x,dx,y,h1,h2⟩:=h;exact ⟨x,fun a' e=>by cases e;exact ⟨h1,dx,y,h2⟩⟩
   | bank n=>exact ⟨u,fun a e=>by cases e⟩
   | begun n=>exact ⟨u,fun a e=>by cases e⟩
   | other=>exact ⟨u,fun a e=>by cases e⟩
  refine ⟨(r,x)::zs,by rw [List.map_cons,e1],by rw [List.length_cons,List.length_cons,e2],fun i z w h1 h2=>?_⟩;cases i with
  | zero=>
   simp at h1 h2;subst h1 h2;exact ⟨h,hx⟩
  | succ i=>exact e3 i z w (by simpa using h1) (by simpa using h2)
def doneF:JR×Addr→Option V
 | (.done _,x)=>some (.ref x)
 | _=>none
theorem W0(c:Cs)(H:Hp):∀zs:List (JR×Addr),(∀z∈zs,∀a,z.1= .done a→∃dx y,H z.2=some (.ins c.act dx (zt a y)))→∃xs:List Addr,zs.filterMap doneF=xs.map V.ref∧Paired (fun a x=>∃dx y,H x=some (.ins c.act dx (zt a y))) (Yv (zs.map (·.1))) xs
 | [],_=>⟨[],rfl, .nil⟩
 | (.done a,x)::r,h=>by
  obtain ⟨xs,e,p⟩:=W0 c H r fun z hz=>h z (List.mem_cons_of_mem _ hz);exact ⟨x::xs,by rw [List.filterMap_cons,e];rfl, .cons (h _ List.mem_cons_self a rfl) p⟩
 | (.bank n,x)::r,h=>by
  obtain ⟨xs,e,p⟩:=W0 c H r fun z hz=>h z (List.mem_cons_of_mem _ hz);exact ⟨xs,by rw [List.filterMap_cons,e];rfl,p⟩
 | (.begun n,x)::r,h=>by
  obtain ⟨xs,e,p⟩:=W0 c H r fun z hz=>h z (List.mem_cons_of_mem _ hz);exact ⟨xs,by rw [List.filterMap_cons,e];rfl,p⟩
 | (.other,x)::r,h=>by
  obtain ⟨xs,e,p⟩:=W0 c H r fun z hz=>h z (List.mem_cons_of_mem _ hz);exact ⟨xs,by rw [List.filterMap_cons,e];rfl,p⟩
theorem KN{x y:Str}(h:x≠y):¬V.str x=V.str y:=fun z=>h (V.str.inj z)
theorem KJ:∀j:List JR,(Yv j).length≤j.length
 | []=>Nat.le_refl _
 | .bank n::r=>Nat.le_succ_of_le (KJ r)
 | .begun a::r=>Nat.le_succ_of_le (KJ r)
 | .done a::r=>Nat.succ_le_succ (KJ r)
 | .other::r=>Nat.le_succ_of_le (KJ r)
def kaR(t:Yd):Sp:=fun vs H Q _=>∃(v:V) (z:Int),vs= [v]∧((v= .non∧z=0)∨(v= .str "done"∧z=3)∨(v= .str "not done"∧z=4))∧Q (.int z) H
theorem QaR(T:Txt K mg t):wb P w K mg base ke 1 t.Q7 t.z8 ["written"] (kaR t):=by
  refine T.vaj.kf QaQ fun vs H Q E h=>?_;obtain ⟨v,z,rfl,hv,k⟩:=h;refine ⟨rfl,fun _ _ _ _ hr=>⟨_,(Za (Jb (yn (Qz (pv 0))) (va (Ja (xa (v:= .int (0)) rfl T.xau ⟨_,rfl⟩))) zb) (va (Ja (jk (Kb Vf (pv 0) (xa (v:= .str "done") rfl T.QaC ⟨_,rfl⟩) (Zc _)) (xa (v:= .int (3)) rfl T.jaw ⟨_,rfl⟩) (xa (v:= .int (4)) rfl T.jac ⟨_,rfl⟩))))),?_⟩⟩;rcases hv with ⟨rfl,rfl⟩ | ⟨rfl,rfl⟩ | ⟨rfl,rfl⟩
  ·exact ⟨_,rfl,_,rfl,yg (fun _=>k) fun h=>absurd rfl h⟩
  ·exact ⟨_,rfl,_,rfl,yg (fun h=>by cases h) fun _=>⟨_,rfl,rfl,_,rfl,yg (fun _=>k) fun h=>absurd rfl h⟩⟩
  ·exact ⟨_,rfl,_,rfl,yg (fun h=>by cases h) fun _=>⟨_,rfl,rfl,_,rfl,yg (fun h=>absurd h (KN (by decide+kernel))) fun h=>k⟩⟩
def KQ(t:Yd):Sp:=fun vs H Q _=>∃(A:Ad) (M:Mw) (i:Nat) (n:Int) (o:Qe),vs= [.ref (A.ad (.ord i n))]∧Holds t.c H A M∧i<M.k∧M.ord i n=some o∧Q (zU A i n o) H
theorem we(T:Txt K mg t):wb P w K mg base ke 1 t.Zu t.Vu ["self"] (KQ t):=by
  refine T.yW.kf Qag fun vs H Q E h=>?_;obtain ⟨A,M,i,n,o,rfl,hd,hi,ho,k⟩:=h;refine ⟨rfl,fun _ _ _ _ hr=>⟨_,(Za (Jb (PW.pt (jJ (Waf (XaN (ya (pv 0) rfl) (fun _=>rfl))) (qU (Qh (ya (Vb Xa (ya (pv 0) rfl) (WX xH ua) (fun _ _=>rfl)) rfl))))) (va (Ja XM)) zb) (va (Ja (Vb Xa (ya (pv 0) rfl) (WX xH ua) (fun _ _=>rfl))))),?_⟩⟩;have h1:=hd.ord hi ho;have h2:=hd.gl hi ho;rcases List.eq_nil_or_concat o.gs with e | ⟨ys,g,e⟩
  ·have hs:zU A i n o= .non:=by unfold zU Xc;rw [e];rfl
   rw [hs] at k;rw [e] at h2;refine ⟨_,rfl,ki T h1 ⟨_,_,rfl,xb.of h2,waw (waw k)⟩⟩
  ·rw [List.concat_eq_append] at e;have hl:o.gs.length=ys.length+1:=by rw [e];simp
   have h3:=hd.gr (k:=ys.length) (g:=g) hi ho (by rw [e];simp);rw [hl,Vab] at h2;have hs:zU A i n o=if g.back=true then .non else .ref (A.ad (.gr i n ys.length)):=by
    unfold zU Xc;rw [show o.gs.getLast? =some g by rw [e];simp,hl];cases hb:g.back<;>simp [hb]
   rw [hs] at k;refine ⟨_,rfl,ki T h1 ⟨_,_,rfl,xb.of h2,?_⟩⟩;rw [show ((List.range ys.length).map (fun k=>V.ref (A.ad (.gr i n k)))++ [V.ref (A.ad (.gr i n ys.length))]).isEmpty=false by simp];refine Xad ⟨_,rfl,ki T h1 ⟨_,rfl,_,_,_,_,rfl,rfl,xb.of h2,X0 _ _,U9 T h3 ⟨_,rfl,ifb (fun eb=>?_) fun eb=>?_⟩⟩⟩
   ·rw [if_pos eb] at k;exact k
   ·rw [if_neg (by rw [eb];decide)] at k;exact ⟨_,rfl,ki T h1 ⟨_,rfl,_,_,_,_,rfl,rfl,xb.of h2,X0 _ _,k⟩⟩
def Zai(t:Yd):Sp:=fun vs H Q _=>∃(A:Ad) (M:Mw),vs= [.ref (A.ad .wo)]∧Holds t.c H A M∧M.k<sizeLine∧∀H',Ua H H'→Q (.int (UaG M)) H'
theorem YQ(T:Txt K mg t):wb P w K mg base ke 2 t.Xt t.vt ["self"] (Zai t):=by
  refine T.qV.kf JA fun vs H Q E h=>?_;obtain ⟨A,M,rfl,hd,hz,k⟩:=h;refine ⟨rfl,fun _ _ _ _ hr=>⟨_,(va (Ja (jd (vT rfl) (by rfl) T.zaa PyProof.Rows.boot_sum (za (zY (tt:=jaj) (te:=(Z8 K (Km 1) "drawer")) rfl JA.nd (Xn (ya (pv 0) rfl)) (Wh (own:= [("office",1)]) rfl) (fun _ _ _ _ _=>jg (i:=1) JA.nd rfl (Or.inl rfl)) (fun _ _ _ _ _=>ZN) (fun _ _ _ _ _=>(ya (pv 1) rfl))) Qa)))),?_⟩⟩;refine ⟨_,rfl,wa T hd.wo ⟨_,rfl,⟨_,xb.of hd.VJ⟩,fun D hD=>Vp (xs:=(List.range M.k).map fun i=>V.ref (A.ad (.of i))) (List.range M.k) (fun i=>some (.int (M.drawer i))) hD (xb.of hd.VJ) (by simp) (by simpa using hz) ?_ ?_⟩⟩
  ·intro i x y H2 N Y hx hy s2 _ hY;obtain ⟨rfl,hi⟩:=Vao hx hy;exact yes ⟨_,rfl,Xh T ((hd.same s2).of hi) (hY _ rfl _ (Ua.refl _))⟩
  ·intro H2 s2 Uv;rw [filterMap_some] at Uv;refine ⟨D,(List.range M.k).map M.drawer,rfl,xb.of (by rw [Uv,List.map_map];rfl),k _ s2⟩
def W8(t:Yd):Sp:=fun vs H Q _=>∃(A:Ad) (M:Mw),vs= [.ref (A.ad .wo)]∧Holds t.c H A M∧M.k<sizeLine∧∀H',Ua H H'→Q (.int (zJ M)) H'
theorem YG(T:Txt K mg t):wb P w K mg base ke 2 t.Jm t.wm ["self"] (W8 t):=by
  refine T.qJ.kf Xr fun vs H Q E h=>?_;obtain ⟨A,M,rfl,hd,hz,k⟩:=h;refine ⟨rfl,fun _ _ _ _ hr=>⟨_,(va (Ja (jd (vT rfl) (by rfl) T.zaa PyProof.Rows.boot_sum (za (zY (tt:=jaj) (te:=(tCB (fun xs H Q=>∃p ys,xs= [.ref p]∧(xb K H p ys∨vQ K H p ys)∧Q (.int ys.length) H) (Xam (Z8 K (Km 1) "journal") vae))) rfl Xr.nd (Xn (ya (pv 0) rfl)) (Wh (own:= [("office",1)]) rfl) (fun _ _ _ _ _=>jg (i:=1) Xr.nd rfl (Or.inl rfl)) (fun _ _ _ _ _=>ZN) (fun _ _ _ _ _=>(jd Jc (by rfl) T.Uu PySem.boot_len (za (ya (pv 1) rfl) Qa)))) Qa)))),?_⟩⟩;refine ⟨_,rfl,wa T hd.wo ⟨_,rfl,⟨_,xb.of hd.VJ⟩,fun D hD=>Vp (xs:=(List.range M.k).map fun i=>V.ref (A.ad (.of i))) (List.range M.k) (fun i=>some (.int ((M.jr i).length:Int))) hD (xb.of hd.VJ) (by simp) (by simpa using hz) ?_ ?_⟩⟩
  ·intro i x y H2 N Y hx hy s2 _ hY;obtain ⟨rfl,hi⟩:=Vao hx hy;have hd2:=hd.same s2;refine yes ⟨_,rfl,kb T (hd2.of hi) ⟨_,_,rfl, .inl (xb.of (hd2.jl hi)),?_⟩⟩;rw [List.length_map,←Paired.length (hd.jr y hi)];exact hY _ rfl _ (Ua.refl _)
  ·intro H2 s2 Uv;rw [filterMap_some] at Uv;refine ⟨D,(List.range M.k).map fun i=>((M.jr i).length:Int),rfl,xb.of (by rw [Uv,List.map_map];rfl),k _ s2⟩
def Kal(t:Yd):Sp:=fun vs H Q _=>∃(A:Ad) (M:Mw) (z:Int),vs= [.ref (A.ad .wo), .int z]∧Holds t.c H A M∧M.k<sizeLine∧∀H',Ua H H'→Q (.int (Zan M z)) H'
theorem uV(T:Txt K mg t):wb P w K mg base ke 3 t.Yw t.jw ["world","more"] (Kal t):=by
  refine T.Ww.kf jak fun vs H Q E h=>?_;obtain ⟨A,M,z,rfl,hd,hz,k⟩:=h;refine ⟨rfl,fun _ _ _ _ hr=>⟨_,(va (Ja (jk (Kb Ybo (Vs qx (qf (pv 0) T.Wc T.yQ (YQ T) hr.m T.kW .nil Ka) (pv 1)) (xa (v:= .int (1000000000)) rfl T.kam ⟨_,rfl⟩) (Zc _)) (xa (v:= .int (-8)) rfl T.XaS ⟨_,rfl⟩) ua))),?_⟩⟩;unfold Zan at k;refine ⟨_,rfl,_,_,_,rfl,hd.wo,rfl,A,M,rfl,hd,hz,fun H1 s1=>⟨_,rfl,_,_,rfl,rfl,_,_,rfl,rfl,_,rfl,yg (fun h=>?_) fun h=>?_⟩⟩
  ·rw [if_pos h] at k;exact k _ s1
  ·rw [if_neg h] at k;exact k _ s1
def jP(t:Yd):Sp:=fun vs H Q _=>∃(A:Ad) (M:Mw) (i:Nat),vs= [.ref (A.ad (.of i))]∧Holds t.c H A M∧i<M.k∧(M.jr i).length<sizeLine∧∀H',Ua H H'→Q (.int (YD (M.jr i))) H'
theorem ZQ(T:Txt K mg t):wb P w K mg base ke 2 t.Yu t.Qu ["self"] (jP t):=by
  refine T.JV.kf UB fun vs H Q E h=>?_;obtain ⟨A,M,i,rfl,hd,hi,hz,k⟩:=h;refine ⟨rfl,fun _ _ _ _ hr=>⟨_,(va (Ja (jd (vT rfl) (by rfl) T.zaa PyProof.Rows.boot_sum (za (zY (tt:=(Yaf (tOp rEq (tOp (zaZ K) (Km 1) (tC (.int 0))) (tC (.str "bank"))))) (te:=(tOp (zaZ K) (Km 1) (tC (.int 1)))) rfl UB.nd (Xn (ya (pv 0) rfl)) (Wh (own:= [("record",1)]) rfl) (fun _ _ _ _ _=>jg (i:=1) UB.nd rfl (Or.inl rfl)) (fun _ _ _ _ _=>(yH (Kb Vf (Vb Q9 (pv 1) ua (fun _ _=>rfl)) (xa (v:= .str "bank") rfl T.ya1 ⟨_,rfl⟩) (Zc _)))) (fun _ _ _ _ _=>(Vb Q9 (pv 1) ua (fun _ _=>rfl)))) Qa)))),?_⟩⟩;have hp:=hd.jr i hi;refine ⟨_,rfl,kb T (hd.of hi) ⟨_,rfl,⟨_,xb.of (hd.jl hi)⟩,fun D hD=>Vp (xs:=(A.jt i).map V.ref) (M.jr i) ybc hD (xb.of (hd.jl hi)) (by rw [List.length_map,Paired.length hp]) hz ?_ ?_⟩⟩
  ·intro j x y H2 N Y hx hy s2 hN hY;obtain ⟨u,hu,rfl⟩:∃u,(A.jt i)[j]? =some u∧x=V.ref u:=by
    rw [List.getElem?_map] at hx;cases e:(A.jt i)[j]? with
    | none=>rw [e] at hx;cases hx
    | some u=>rw [e] at hx;exact ⟨u,rfl,(Option.some.inj hx).symm⟩
   obtain ⟨u',hu',hr⟩:=xW hp hy;rw [hu] at hu';cases hu';have hr:=hr.same s2;cases y with
   | bank n=>
    have hr:H2 u=some (.tup [.str "bank", .int n]):=hr;exact ⟨_,rfl,_,_,_,_,rfl,rfl,vQ.of hr,rfl,rfl,_,rfl,yg (fun _=>⟨_,rfl,_,_,_,_,rfl,rfl,vQ.of hr,rfl,hY _ rfl _ (Ua.refl _)⟩) fun h=>absurd rfl h⟩
   | begun a=>
    obtain ⟨x,dx,y,h1,h2⟩:=hr;exact ⟨_,rfl,_,_,_,_,rfl,rfl,vQ.of h1,rfl,rfl,_,rfl,yg (fun h=>absurd h (KN (by decide+kernel))) fun h=>hN rfl _ (Ua.refl _)⟩
   | done a=>
    obtain ⟨x,dx,y,h1,h2⟩:=hr;exact ⟨_,rfl,_,_,_,_,rfl,rfl,vQ.of h1,rfl,rfl,_,rfl,yg (fun h=>absurd h (KN (by decide+kernel))) fun h=>hN rfl _ (Ua.refl _)⟩
   | other=>
    obtain ⟨x,xs,h1,h2,h3,h4⟩:=hr;refine ⟨_,rfl,_,_,_,_,rfl,rfl,vQ.of h1,jan (j:=0) rfl,rfl,_,rfl,yg (fun h=>absurd h (KN h2)) fun h=>hN rfl _ (Ua.refl _)⟩
  ·intro H2 s2 Uv;rw [Z1] at Uv;exact ⟨D,zq (M.jr i),rfl,xb.of Uv,k _ s2⟩
def qaa(t:Yd):Sp:=fun vs H Q _=>∃(A:Ad) (M:Mw) (i:Nat),vs= [.ref (A.ad (.of i))]∧Holds t.c H A M∧i<M.k∧(M.jr i).length<sizeLine∧∀(H':Hp) (D:Addr) (xs:List Addr),Ua H H'→H' D=some (.lst (xs.map V.ref))→Paired (fun a x=>∃dx y,H' x=some (.ins t.c.act dx (zt a y))) (Yv (M.jr i)) xs→Q (.ref D) H'
theorem xJ(T:Txt K mg t):wb P w K mg base ke 1 t.uo t.Vo ["self"] (qaa t):=by
  refine T.yN.kf qv fun vs H Q E h=>?_;obtain ⟨A,M,i,rfl,hd,hi,hz,k⟩:=h;refine ⟨rfl,fun _ _ _ _ hr=>⟨_,(va (Ja (zY (tt:=(Yaf (tOp rEq (tOp (zaZ K) (Km 1) (tC (.int 0))) (tC (.str "done"))))) (te:=(tOp (zaZ K) (Km 1) (tC (.int 1)))) rfl qv.nd (Xn (ya (pv 0) rfl)) (Wh (own:= [("record",1)]) rfl) (fun _ _ _ _ _=>jg (i:=1) qv.nd rfl (Or.inl rfl)) (fun _ _ _ _ _=>(yH (Kb Vf (Vb Q9 (pv 1) ua (fun _ _=>rfl)) (xa (v:= .str "done") rfl T.QaC ⟨_,rfl⟩) (Zc _)))) (fun _ _ _ _ _=>(Vb Q9 (pv 1) ua (fun _ _=>rfl)))))),?_⟩⟩;have hp:=hd.jr i hi;obtain ⟨zs,z1,z2,z3⟩:=kaV hp;have zl:zs.length=(M.jr i).length:=by rw [←z1,List.length_map]
  refine ⟨_,rfl,kb T (hd.of hi) ⟨_,rfl,⟨_,xb.of (hd.jl hi)⟩,fun D hD=>Vp (xs:=(A.jt i).map V.ref) zs doneF hD (xb.of (hd.jl hi)) (by rw [List.length_map,z2]) (by rw [zl];exact hz) ?_ ?_⟩⟩
  ·intro j x y H2 N Y hx hy s2 hN hY;obtain ⟨u,hu,rfl⟩:∃u,(A.jt i)[j]? =some u∧x=V.ref u:=by
    rw [List.getElem?_map] at hx;cases e:(A.jt i)[j]? with
    | none=>rw [e] at hx;cases hx
    | some u=>rw [e] at hx;exact ⟨u,rfl,(Option.some.inj hx).symm⟩
   obtain ⟨hr,hdn⟩:=z3 j y u hy hu;have hr:=hr.same s2;obtain ⟨r,w⟩:=y;cases r with
   | bank n=>
    have hr:H2 u=some (.tup [.str "bank", .int n]):=hr;exact ⟨_,rfl,_,_,_,_,rfl,rfl,vQ.of hr,rfl,rfl,_,rfl,yg (fun h=>absurd h (KN (by decide+kernel))) fun h=>hN rfl _ (Ua.refl _)⟩
   | begun a=>
    obtain ⟨x,dx,y,h1,h2⟩:=hr;exact ⟨_,rfl,_,_,_,_,rfl,rfl,vQ.of h1,rfl,rfl,_,rfl,yg (fun h=>absurd h (KN (by decide+kernel))) fun h=>hN rfl _ (Ua.refl _)⟩
   | done a=>
    obtain ⟨h1,_⟩:=hdn a rfl;have h1:=s2 _ _ h1;exact ⟨_,rfl,_,_,_,_,rfl,rfl,vQ.of h1,rfl,rfl,_,rfl,yg (fun _=>⟨_,rfl,_,_,_,_,rfl,rfl,vQ.of h1,rfl,hY _ rfl _ (Ua.refl _)⟩) fun h=>absurd rfl h⟩
   | other=>
    obtain ⟨x,xs,h1,h2,h3,h4⟩:=hr;refine ⟨_,rfl,_,_,_,_,rfl,rfl,vQ.of h1,jan (j:=0) rfl,rfl,_,rfl,yg (fun h=>absurd h (KN h4)) fun h=>hN rfl _ (Ua.refl _)⟩
  ·intro H2 s2 Uv;obtain ⟨xs,e1,e2⟩:=W0 t.c H2 zs fun z hz a ha=>by
    obtain ⟨j,hj⟩:=List.mem_iff_getElem?.mp hz;have hjl:j<(A.jt i).length:=by rw [←z2];exact (List.getElem?_eq_some_iff.mp hj).1
    obtain ⟨_,dx,y,h⟩:=(z3 j z _ hj (List.getElem?_eq_getElem hjl)).2 a ha;exact ⟨dx,y,s2 _ _ h⟩
   rw [z1] at e2;rw [e1] at Uv;exact k _ D xs s2 Uv e2
end Mo
namespace Mo
open PySem PySem.Spec PyProof.Rows L2
section
variable{c:Cs}{H:Hp}{A:Ad}{M:Mw}{ex:Addr→Prop}
theorem Ua.new{H:Hp}{p:Addr}{o:HO}(h:H p=none):Ua H (upd H p o):=fun b u e=>by rw [Va (Qb e h)];exact e
theorem Lv.of{p:Pl}{o:HO}(h:cont c A M p=some o):Lv c A M p:=by unfold Lv;rw [h];rfl
def ZaJ(A:Ad)(i:Nat)(t:Addr):Ad:={A with jt:=ye A.jt i (A.jt i++ [t])}
theorem xal{α β:Type}{F:α→β→Prop}{x:α}{y:β}(h:F x y):∀{l:List α} {l':List β},Paired F l l'→Paired F (l++ [x]) (l'++ [y])
 | _,_, .nil=> .cons h .nil
 | _,_, .cons a b=> .cons a (xal h b)
theorem Holds.jc(h:Holds c H A M){i:Nat}{t:Addr}{r:JR}(hi:i<M.k)(hr:kai c H r t)
  (hp:∀a,r= .begun a→∃x dx,H t=some (.tup [.str "begun", .ref x])∧H x=some (.ins c.act dx (zt a (A.ad (yC i a))))∧Lv c A M (yC i a)):
  Holds c (upd H (A.ad (.jl i)) (.lst ((A.jt i).map V.ref++ [V.ref t]))) (ZaJ A i t) (jc M i r)∧Ext c ex H A M (upd H (A.ad (.jl i)) (.lst ((A.jt i).map V.ref++ [V.ref t]))) (ZaJ A i t) (jc M i r):=by
 have hl:=h.jl hi;have K8:cont c A M (.jl i)=some (.lst ((A.jt i).map V.ref)):=if_pos hi;have nr:ZD (.lst ((A.jt i).map V.ref)):=trivial;have hc':cont c (ZaJ A i t) (Mo.jc M i r) (.jl i)=some (.lst ((A.jt i).map V.ref++ [V.ref t])):=by
  show (if i<M.k then some (HO.lst ((ye A.jt i (A.jt i++ [t]) i).map V.ref)) else none)=_;rw [if_pos hi,Ub,List.map_append];rfl
 have hq:∀q,q≠ .jl i→cont c (ZaJ A i t) (Mo.jc M i r) q=cont c A M q:=fun q hq=>by
  cases q with
  | jl j=>
   show (if j<M.k then some (HO.lst ((ye A.jt i (A.jt i++ [t]) j).map V.ref)) else none)=_;rw [Xe (fun z=>hq (by rw [z]))];rfl
  | _=>rfl
 have lv:∀q,Lv c (ZaJ A i t) (Mo.jc M i r) q↔Lv c A M q:=fun q=>by
  unfold Lv;by_cases e:q= .jl i
  ·subst e;rw [hc',K8];simp
  ·rw [hq q e]
 have lp:Lv c A M (.jl i):=Lv.of K8;refine ⟨⟨fun q u e=>?_,fun q r' h1 h2 e=>h.inj q r' ((lv q).mp h1) ((lv r').mp h2) e,fun j hj=>?_,fun j a hj e=>?_,h.wd⟩,fun q l=>⟨rfl,rfl,(lv q).mpr l⟩,fun b u _ e n=>⟨?_,fun ⟨q,l,z⟩=>n ⟨q,(lv q).mp l,z⟩⟩⟩
 ·by_cases z:q= .jl i
  ·subst z;rw [hc'] at e;cases e;exact Ya
  ·have lq:Lv c A M q:=by rw [←lv];exact Lv.of e
   rw [hq q z] at e;show upd H (A.ad (.jl i)) _ (A.ad q)=_;rw [Va fun w=>z (h.inj q _ lq lp w)];exact h.at_ q u e
 ·show Paired _ (ye M.jr i (M.jr i++ [r]) j) (ye A.jt i (A.jt i++ [t]) j);by_cases z:j=i
  ·subst z;rw [Ub,Ub];exact xal (hr.put hl nr) (Paired.Uao (h.jr j hj) fun _ _ q=>q.put hl nr)
  ·rw [Xe z,Xe z];exact Paired.Uao (h.jr j hj) fun _ _ q=>q.put hl nr
 ·have e:(ye M.jr i (M.jr i++ [r]) j).getLast? =some (.begun a):=e;show∃u x dx,(ye A.jt i (A.jt i++ [t]) j).getLast? =some u∧_;by_cases z:j=i
  ·subst z;rw [Ub,List.getLast?_concat] at e;have er:r= .begun a:=Option.some.inj e;obtain ⟨x,dx,h1,h2,h3⟩:=hp a er;obtain ⟨u,x,dx,g1,g2,g3⟩:=Q2 (i:=j) (L:= [t]) (o':= .lst ((A.jt j).map V.ref++ [V.ref t])) hl nr ⟨t,x,dx,rfl,h1,h2⟩;have:u=t:=(Option.some.inj g1).symm;subst this;exact ⟨u,x,dx,by rw [Ub,List.getLast?_concat],g2,g3,(lv _).mpr h3⟩
  ·rw [Xe z] at e;obtain ⟨u,x,dx,h1,h2,h3,h4⟩:=h.pend j a hj e;obtain ⟨u,x,dx,h1,h2,h3⟩:=Q2 (i:=j) (o':= .lst ((A.jt i).map V.ref++ [V.ref t])) hl nr ⟨u,x,dx,h1,h2,h3⟩;exact ⟨u,x,dx,by rw [Xe z];exact h1,h2,h3,(lv _).mpr h4⟩
 ·rw [Va fun z=>n ⟨_,lp,z.symm⟩];exact e
theorem Jbc{C dx:Addr}{i:Nat}:ZD (.ins C dx (Wi A M i)):=fun a x e=>by
 injection e with e1 _;injection e1 with _ e2;cases e2
theorem qbb{C dx y:Addr}{o:Qe}:ZD (.ins C dx (vC y o)):=fun a x e=>by
 injection e with e1 _;injection e1 with _ e2;cases e2
theorem kbb{C dx:Addr}{g:MG}:ZD (.ins C dx (QK g)):=fun a x e=>by
 injection e with e1 _;injection e1 with _ e2;cases e2
theorem Vbc{C dx:Addr}{n g:Int}{o:Jn}:ZD (.ins C dx (zv n g o)):=fun a x e=>by
 injection e with e1 _;injection e1 with _ e2;cases e2
theorem Qbc{C dx:Addr}{m:Je}:ZD (.ins C dx (Uk m)):=fun a x e=>by
 injection e with e1 _;injection e1 with _ e2;cases e2
theorem wbb{C dx:Addr}:ZD (.ins C dx (XE A M)):=fun a x e=>by
 injection e with e1 _;injection e1 with _ e2;cases e2
theorem Holds.ua6(h:Holds c H A M){i:Nat}(hi:i<M.k){M':Mw}(hk:M'.k=M.k)(hj:M'.jr=M.jr)(hms:M'.ms=M.ms)(ht:M'.time=M.time∧M'.fee=M.fee∧M'.life=M.life∧M'.lease=M.lease)(ho:M'.ub=M.ub)(hc:M'.Kc=M.Kc)(hor:M'.ord=M.ord)(K8:M'.cl=M.cl)
  (hf:∀j,j≠i→Wi A M' j=Wi A M j):Holds c (upd H (A.ad (.of i)) (.ins c.office (A.dd (.of i)) (Wi A M' i))) A M'∧Ext c ex H A M (upd H (A.ad (.of i)) (.ins c.office (A.dd (.of i)) (Wi A M' i))) A M':=by
 obtain ⟨t1,t2,t3,t4⟩:=ht;refine h.write (p:= .of i) (o:= .ins c.office (A.dd (.of i)) (Wi A M i)) (if_pos hi) (by show (if i<M'.k then _ else _)=_;rw [hk,if_pos hi]) (fun q hq=>?_) Jbc hk hj (by unfold Wd;rw [hk,ho,hc,hor,K8];exact h.wd);cases q with
 | of j=>
  show (if j<M'.k then some (HO.ins c.office (A.dd (.of j)) (Wi A M' j)) else none)=if j<M.k then some (HO.ins c.office (A.dd (.of j)) (Wi A M j)) else none
  rw [hk,hf j fun z=>hq (by rw [z])]
 | wo=>show some (HO.ins c.Qg _ (XE A M'))=some (HO.ins c.Qg _ (XE A M));unfold XE;rw [t1,t2,t3,t4]
 | VJ=>show some (HO.lst _)=some (HO.lst _);rw [hk]
 | kT=>show some (HO.lst _)=some (HO.lst _);rw [hms]
 | ms j=>show (M'.ms[j]?).map _=(M.ms[j]?).map _;rw [hms]
 | jl j=>show (if j<M'.k then _ else _)=(if j<M.k then _ else _);rw [hk]
 | od j=>show (if j<M'.k then some (HO.dK ((M'.ub j).map _)) else none)=(if j<M.k then some (HO.dK ((M.ub j).map _)) else none);rw [hk,ho]
 | cd j=>show (if j<M'.k then some (HO.dT ((M'.Kc j).map _)) else none)=(if j<M.k then some (HO.dT ((M.Kc j).map _)) else none);rw [hk,hc]
 | ord j n=>show (if j<M'.k then (M'.ord j n).map _ else none)=(if j<M.k then (M.ord j n).map _ else none);rw [hk,hor]
 | gl j n=>show (if j<M'.k then (M'.ord j n).map _ else none)=(if j<M.k then (M.ord j n).map _ else none);rw [hk,hor]
 | gr j n k=>show (if j<M'.k then (M'.ord j n).bind _ else none)=(if j<M.k then (M.ord j n).bind _ else none);rw [hk,hor]
 | cl j n g=>show (if j<M'.k then (M'.cl j n g).map _ else none)=(if j<M.k then (M.cl j n g).map _ else none);rw [hk,K8]
def ofL(u:Bool)(z d:Int)(j:Addr)(b:Int)(o k:Addr):List (Str×V):= [("up", .bl u),("offset", .int z),("drawer", .int d),("journal", .ref j),("issues_begun", .int b),("orders", .ref o),("claims", .ref k)]
theorem zbh(i:Nat)(b:Bool):uc "up" (.bl b) (Wi A M i)=Wi A (qg M i b) i:=by
 show ofL b (M.off i) (M.drawer i) (A.ad (.jl i)) (M.begun i) (A.ad (.od i)) (A.ad (.cd i))=ofL (ye M.up i b i) (M.off i) (M.drawer i) (A.ad (.jl i)) (M.begun i) (A.ad (.od i)) (A.ad (.cd i));rw [Ub]
theorem kaT(i:Nat)(z:Int):uc "drawer" (.int (M.drawer i+z)) (Wi A M i)=Wi A (qj M i z) i:=by
 show ofL (M.up i) (M.off i) (M.drawer i+z) (A.ad (.jl i)) (M.begun i) (A.ad (.od i)) (A.ad (.cd i))=ofL (M.up i) (M.off i) (ye M.drawer i (M.drawer i+z) i) (A.ad (.jl i)) (M.begun i) (A.ad (.od i)) (A.ad (.cd i));rw [Ub]
theorem KaW(i:Nat):uc "issues_begun" (.int (M.begun i+1)) (Wi A M i)=Wi A {M with begun:=ye M.begun i (M.begun i+1)} i:=by
 show ofL (M.up i) (M.off i) (M.drawer i) (A.ad (.jl i)) (M.begun i+1) (A.ad (.od i)) (A.ad (.cd i))=ofL (M.up i) (M.off i) (M.drawer i) (A.ad (.jl i)) (ye M.begun i (M.begun i+1) i) (A.ad (.od i)) (A.ad (.cd i));rw [Ub]
theorem ya9(i:Nat)(z:Int):uc "offset" (.int z) (Wi A M i)=Wi A {M with off:=ye M.off i z} i:=by
 show ofL (M.up i) z (M.drawer i) (A.ad (.jl i)) (M.begun i) (A.ad (.od i)) (A.ad (.cd i))=ofL (M.up i) (ye M.off i z i) (M.drawer i) (A.ad (.jl i)) (M.begun i) (A.ad (.od i)) (A.ad (.cd i));rw [Ub]
theorem Holds.up' (h:Holds c H A M){i:Nat}(hi:i<M.k)(b:Bool):Holds c (upd H (A.ad (.of i)) (.ins c.office (A.dd (.of i)) (uc "up" (.bl b) (Wi A M i)))) A (qg M i b)∧Ext c ex H A M (upd H (A.ad (.of i)) (.ins c.office (A.dd (.of i)) (uc "up" (.bl b) (Wi A M i)))) A (qg M i b):=by
 rw [zbh];exact h.ua6 hi rfl rfl rfl ⟨rfl,rfl,rfl,rfl⟩ rfl rfl rfl rfl fun j hj=>by
  show ofL (ye M.up i b j) (M.off j) (M.drawer j) (A.ad (.jl j)) (M.begun j) (A.ad (.od j)) (A.ad (.cd j))=_;rw [Xe hj];rfl
theorem Holds.Wbb(h:Holds c H A M){i:Nat}(hi:i<M.k)(z:Int):Holds c (upd H (A.ad (.of i)) (.ins c.office (A.dd (.of i)) (uc "drawer" (.int (M.drawer i+z)) (Wi A M i)))) A (qj M i z)∧Ext c ex H A M (upd H (A.ad (.of i)) (.ins c.office (A.dd (.of i)) (uc "drawer" (.int (M.drawer i+z)) (Wi A M i)))) A (qj M i z):=by
 rw [kaT];exact h.ua6 hi rfl rfl rfl ⟨rfl,rfl,rfl,rfl⟩ rfl rfl rfl rfl fun j hj=>by
  show ofL (M.up j) (M.off j) (ye M.drawer i (M.drawer i+z) j) (A.ad (.jl j)) (M.begun j) (A.ad (.od j)) (A.ad (.cd j))=_;rw [Xe hj];rfl
theorem Holds.Xbg(h:Holds c H A M){i:Nat}(hi:i<M.k):Holds c (upd H (A.ad (.of i)) (.ins c.office (A.dd (.of i)) (uc "issues_begun" (.int (M.begun i+1)) (Wi A M i)))) A {M with begun:=ye M.begun i (M.begun i+1)}∧Ext c ex H A M (upd H (A.ad (.of i)) (.ins c.office (A.dd (.of i)) (uc "issues_begun" (.int (M.begun i+1)) (Wi A M i)))) A {M with begun:=ye M.begun i (M.begun i+1)}:=by
 rw [KaW];exact h.ua6 hi rfl rfl rfl ⟨rfl,rfl,rfl,rfl⟩ rfl rfl rfl rfl fun j hj=>by
  show ofL (M.up j) (M.off j) (M.drawer j) (A.ad (.jl j)) (ye M.begun i (M.begun i+1) j) (A.ad (.od j)) (A.ad (.cd j))=_;rw [Xe hj];rfl
theorem Holds.Kbn(h:Holds c H A M){i:Nat}(hi:i<M.k)(z:Int):Holds c (upd H (A.ad (.of i)) (.ins c.office (A.dd (.of i)) (uc "offset" (.int z) (Wi A M i)))) A {M with off:=ye M.off i z}∧Ext c ex H A M (upd H (A.ad (.of i)) (.ins c.office (A.dd (.of i)) (uc "offset" (.int z) (Wi A M i)))) A {M with off:=ye M.off i z}:=by
 rw [ya9];exact h.ua6 hi rfl rfl rfl ⟨rfl,rfl,rfl,rfl⟩ rfl rfl rfl rfl fun j hj=>by
  show ofL (M.up j) (ye M.off i z j) (M.drawer j) (A.ad (.jl j)) (M.begun j) (A.ad (.od j)) (A.ad (.cd j))=_;rw [Xe hj];rfl
end
end Mo
namespace Mo
open PySem PySem.Spec PyProof.Rows L2
section
variable{c:Cs}{H:Hp}{A:Ad}{M M':Mw}{ex:Addr→Prop}
def Zy{α:Type}(f:Pl→α)(p:Pl)(x:α):Pl→α:=fun q=>if q=p then x else f q
theorem Vm{α:Type}(f:Pl→α)(p:Pl)(x:α):Zy f p x p=x:=if_pos rfl
theorem km{α:Type}{f:Pl→α}{p q:Pl}{x:α}(h:q≠p):Zy f p x q=f q:=if_neg h
def JT(A:Ad)(p:Pl)(x dx:Addr):Ad:={A with ad:=Zy A.ad p x,dd:=Zy A.dd p dx}
theorem Holds.grow(h:Holds c H A M){p q:Pl}{o o' oq:HO}{x dx:Addr}(hpq:p≠q)(hp:cont c A M p=some o)(hp':cont c (JT A q x dx) M' p=some o')(hq:cont c A M q=none)(hq':cont c (JT A q x dx) M' q=some oq)(hx:H x=some oq)(hn:¬Own c A M x)
  (hr:∀r,r≠p→r≠q→cont c (JT A q x dx) M' r=cont c A M r) (nr:ZD o) (hk:M'.k=M.k) (hj:M'.jr=M.jr) (wd:Wd M') (hex:ex x):
  Holds c (upd H (A.ad p) o') (JT A q x dx) M'∧Ext c ex H A M (upd H (A.ad p) o') (JT A q x dx) M':=by
 have lv:∀r,r≠q→(Lv c (JT A q x dx) M' r↔Lv c A M r):=fun r z=>by
  unfold Lv;by_cases e:r=p
  ·subst e;rw [hp,hp'];simp
  ·rw [hr r e z]
 have lp:Lv c A M p:=Lv.of hp;have nq:¬Lv c A M q:=fun l=>by unfold Lv at l;rw [hq] at l;cases l
 have hb:=h.at_ p o hp
 have xp:x≠A.ad p:=fun z=>hn ⟨p,lp,z.symm⟩;have ea:∀{r},r≠q→(JT A q x dx).ad r=A.ad r:=fun z=>km z;have eq:(JT A q x dx).ad q=x:=Vm _ _ _;refine ⟨⟨fun r u e=>?_,fun r r' h1 h2 e=>?_,fun i hi=>?_,fun i a hi e=>?_,wd⟩,fun r l=>?_,fun b u hnx e n=>⟨?_,?_⟩⟩
 ·by_cases z:r=q
  ·subst z;rw [hq'] at e;cases e;rw [eq,Va xp];exact hx
  ·rw [ea z];by_cases z2:r=p
   ·subst z2;rw [hp'] at e;cases e;exact Ya
   ·have lr:Lv c A M r:=by rw [←lv r z];exact Lv.of e
    rw [hr r z2 z] at e;rw [Va fun w=>z2 (h.inj r p lr lp w)];exact h.at_ r u e
 ·by_cases z:r=q
  ·by_cases z':r'=q
   ·rw [z,z']
   ·rw [z,eq,ea z'] at e;exact absurd ⟨r',(lv r' z').mp h2,e.symm⟩ hn
  ·by_cases z':r'=q
   ·rw [z',eq,ea z] at e;exact absurd ⟨r,(lv r z).mp h1,e⟩ hn
   ·rw [ea z,ea z'] at e;exact h.inj r r' ((lv r z).mp h1) ((lv r' z').mp h2) e
 ·rw [hj];rw [hk] at hi;exact Paired.Uao (h.jr i hi) fun _ _ q=>q.put hb nr
 ·rw [hj] at e;rw [hk] at hi;obtain ⟨t,y,dy,h1,h2,h3,h4⟩:=h.pend i a hi e;have z:yC i a≠q:=fun z=>nq (z▸h4);obtain ⟨t,y,dy,h1,h2,h3⟩:=Q2 (i:=i) (o':=o') hb nr ⟨t,y,dy,h1,h2,h3⟩;exact ⟨t,y,dy,h1,h2,by rw [ea z];exact h3,(lv _ z).mpr h4⟩
 ·have z:r≠q:=fun z=>nq (z▸l);exact ⟨ea z,km z,(lv r z).mpr l⟩
 ·rw [Va fun z=>n ⟨p,lp,z.symm⟩];exact e
 ·rintro ⟨r,l,z⟩
  by_cases w:r=q
  ·rw [w,eq] at z;exact hnx (z▸hex)
  ·rw [ea w] at z;exact n ⟨r,(lv r w).mp l,z⟩
theorem Holds.jbk(h:Holds c H A M){i:Nat}{n:Int}{o:Qe}(hi:i<M.k)(ho:M.ord i n=some o)(f:Qe→Qe)(hg:(f o).gs=o.gs):
  Holds c (upd H (A.ad (.ord i n)) (.ins c.order (A.dd (.ord i n)) (vC (A.ad (.gl i n)) (f o)))) A (Ze M i n f)∧Ext c ex H A M (upd H (A.ad (.ord i n)) (.ins c.order (A.dd (.ord i n)) (vC (A.ad (.gl i n)) (f o)))) A (Ze M i n f):=by
 have e1:∀j m,(Ze M i n f).ord j m=if j=i∧m=n then some (f o) else M.ord j m:=fun j m=>by
  show (if j=i∧m=n then (M.ord i n).map f else M.ord j m)=_;rw [ho];rfl
 refine h.write (p:= .ord i n) (o:= .ins c.order (A.dd (.ord i n)) (vC (A.ad (.gl i n)) o)) ?_ ?_ (fun q hq=>?_) qbb rfl rfl ?_
 ·show (if i<M.k then (M.ord i n).map _ else none)=_;rw [if_pos hi,ho];rfl
 ·show (if i<M.k then ((Ze M i n f).ord i n).map _ else none)=_;rw [if_pos hi,e1,if_pos ⟨rfl,rfl⟩];rfl
 ·cases q with
  | ord j m=>
   show (if j<M.k then ((Ze M i n f).ord j m).map _ else none)=(if j<M.k then (M.ord j m).map _ else none);rw [e1,if_neg (show¬(j=i∧m=n) from fun z=>hq (by rw [z.1,z.2]))]
  | gl j m=>
   show (if j<M.k then ((Ze M i n f).ord j m).map _ else none)=(if j<M.k then (M.ord j m).map _ else none);rw [e1];by_cases z:j=i∧m=n
   ·rw [if_pos z,z.1,z.2,ho];show (if i<M.k then some (HO.lst ((List.range (f o).gs.length).map _)) else none)=_;rw [hg];rfl
   ·rw [if_neg z]
  | gr j m k=>
   show (if j<M.k then ((Ze M i n f).ord j m).bind _ else none)=(if j<M.k then (M.ord j m).bind _ else none);rw [e1];by_cases z:j=i∧m=n
   ·rw [if_pos z,z.1,z.2,ho];show (if i<M.k then ((f o).gs[k]?).map _ else none)=_;rw [hg];rfl
   ·rw [if_neg z]
  | _=>rfl
 ·intro j hj;obtain ⟨w1,w2⟩:=h.wd j hj;refine ⟨fun m hm=>?_,w2⟩;rw [e1];split
  ·rfl
  ·exact w1 m hm
theorem Holds.Zbo(h:Holds c H A M){i:Nat}{n:Int}{o:Qe}{ys:List MG}{g:MG}(hi:i<M.k)(ho:M.ord i n=some o)(hg:o.gs=ys++ [g]):
  Holds c (upd H (A.ad (.gr i n ys.length)) (.ins c.yc (A.dd (.gr i n ys.length)) (QK {g with back:=true}))) A (Ze M i n fun o=>{o with gs:=Vj o.gs})∧
   Ext c ex H A M (upd H (A.ad (.gr i n ys.length)) (.ins c.yc (A.dd (.gr i n ys.length)) (QK {g with back:=true}))) A (Ze M i n fun o=>{o with gs:=Vj o.gs}):=by
 have el:Vj o.gs=ys++ [{g with back:=true}]:=by
  unfold Vj;rw [hg,List.getLast?_concat];show (ys++ [g]).dropLast++_=_;rw [List.dropLast_concat]
 have e1:∀j m,(Ze M i n fun o=>{o with gs:=Vj o.gs}).ord j m=if j=i∧m=n then some {o with gs:=ys++ [{g with back:=true}]} else M.ord j m:=fun j m=>by
  show (if j=i∧m=n then (M.ord i n).map _ else M.ord j m)=_;rw [ho];show (if j=i∧m=n then some {o with gs:=Vj o.gs} else M.ord j m)=_;rw [el]
 refine h.write (p:= .gr i n ys.length) (o:= .ins c.yc (A.dd (.gr i n ys.length)) (QK g)) ?_ ?_ (fun q hq=>?_) kbb rfl rfl ?_
 ·show (if i<M.k then (M.ord i n).bind _ else none)=_;rw [if_pos hi,ho];show (o.gs[ys.length]?).map _=_;rw [hg];simp
 ·show (if i<M.k then ((Ze M i n _).ord i n).bind _ else none)=_;rw [if_pos hi,e1,if_pos ⟨rfl,rfl⟩];show ((ys++ [{g with back:=true}])[ys.length]?).map _=_;simp
 ·cases q with
  | ord j m=>
   show (if j<M.k then ((Ze M i n _).ord j m).map _ else none)=(if j<M.k then (M.ord j m).map _ else none);rw [e1];by_cases z:j=i∧m=n
   ·rw [if_pos z,z.1,z.2,ho];rfl
   ·rw [if_neg z]
  | gl j m=>
   show (if j<M.k then ((Ze M i n _).ord j m).map _ else none)=(if j<M.k then (M.ord j m).map _ else none);rw [e1];by_cases z:j=i∧m=n
   ·rw [if_pos z,z.1,z.2,ho];show (if i<M.k then some (HO.lst ((List.range (ys++ [{g with back:=true}]).length).map _)) else none)=(if i<M.k then some (HO.lst ((List.range o.gs.length).map _)) else none);rw [hg,List.length_append,List.length_append];rfl
   ·rw [if_neg z]
  | gr j m k=>
   show (if j<M.k then ((Ze M i n _).ord j m).bind _ else none)=(if j<M.k then (M.ord j m).bind _ else none);rw [e1];by_cases z:j=i∧m=n
   ·have zk:k≠ys.length:=fun w=>hq (by rw [z.1,z.2,w])
    rw [if_pos z,z.1,z.2,ho];show (if i<M.k then ((ys++ [{g with back:=true}])[k]?).map _ else none)=(if i<M.k then (o.gs[k]?).map _ else none);rw [hg];by_cases w:k<ys.length
    ·rw [List.getElem?_append_left w,List.getElem?_append_left w]
    ·rw [List.getElem?_eq_none (by simp;omega),List.getElem?_eq_none (by simp;omega)]
   ·rw [if_neg z]
  | _=>rfl
 ·intro j hj;obtain ⟨w1,w2⟩:=h.wd j hj;refine ⟨fun m hm=>?_,w2⟩;rw [e1];split
  ·rfl
  ·exact w1 m hm
theorem Holds.Ubf(h:Holds c H A M){i:Nat}{n:Int}{o:Qe}{g:MG}{x dx:Addr}(hi:i<M.k)(ho:M.ord i n=some o)(hx:H x=some (.ins c.yc dx (QK g)))(hn:¬Own c A M x)(hex:ex x):
  Holds c (upd H (A.ad (.gl i n)) (.lst ((List.range o.gs.length).map (fun k=>V.ref (A.ad (.gr i n k)))++ [V.ref x]))) (JT A (.gr i n o.gs.length) x dx) (Ze M i n fun o=>{o with gs:=o.gs++ [g]})∧
   Ext c ex H A M (upd H (A.ad (.gl i n)) (.lst ((List.range o.gs.length).map (fun k=>V.ref (A.ad (.gr i n k)))++ [V.ref x]))) (JT A (.gr i n o.gs.length) x dx) (Ze M i n fun o=>{o with gs:=o.gs++ [g]}):=by
 have e1:∀j m,(Ze M i n fun o=>{o with gs:=o.gs++ [g]}).ord j m=if j=i∧m=n then some {o with gs:=o.gs++ [g]} else M.ord j m:=fun j m=>by
  show (if j=i∧m=n then (M.ord i n).map _ else M.ord j m)=_;rw [ho];rfl
 refine h.grow (p:= .gl i n) (q:= .gr i n o.gs.length) (o:= .lst ((List.range o.gs.length).map fun k=>V.ref (A.ad (.gr i n k)))) (by intro z;cases z) ?_ ?_ ?_ ?_ hx hn (fun r h1 h2=>?_) trivial rfl rfl ?_ hex
 ·show (if i<M.k then (M.ord i n).map _ else none)=_;rw [if_pos hi,ho];rfl
 ·show (if i<M.k then ((Ze M i n _).ord i n).map _ else none)=_;rw [if_pos hi,e1,if_pos ⟨rfl,rfl⟩];show some (HO.lst ((List.range (o.gs++ [g]).length).map fun k=>V.ref (Zy A.ad (.gr i n o.gs.length) x (.gr i n k))))=_;rw [List.length_append];show some (HO.lst ((List.range (o.gs.length+1)).map _))=_;rw [Vab,Vm]
  congr 2
  congr 1
  refine List.map_congr_left fun k hk=>?_;rw [km];intro z;injection z with _ _ z;have:=List.mem_range.mp hk;omega
 ·show (if i<M.k then (M.ord i n).bind _ else none)=_;rw [if_pos hi,ho];show (o.gs[o.gs.length]?).map _=_;rw [List.getElem?_eq_none (Nat.le_refl _)];rfl
 ·show (if i<M.k then ((Ze M i n _).ord i n).bind _ else none)=_;rw [if_pos hi,e1,if_pos ⟨rfl,rfl⟩];show ((o.gs++ [g])[o.gs.length]?).map (fun g=>HO.ins c.yc (Zy A.dd (.gr i n o.gs.length) dx (.gr i n o.gs.length)) (QK g))=_;rw [Vm];simp
 ·cases r with
  | ord j m=>
   show (if j<M.k then ((Ze M i n _).ord j m).map _ else none)=(if j<M.k then (M.ord j m).map _ else none);rw [e1];by_cases z:j=i∧m=n
   ·rw [if_pos z,z.1,z.2,ho];rfl
   ·rw [if_neg z];rfl
  | gl j m=>
   have z:¬(j=i∧m=n):=fun z=>h1 (by rw [z.1,z.2])
   have e2:=e1 j m;rw [if_neg z] at e2;show (if j<M.k then ((Ze M i n _).ord j m).map _ else none)=_;rw [e2];show (if j<M.k then (M.ord j m).map (fun o'=>HO.lst ((List.range o'.gs.length).map fun k=>V.ref (Zy A.ad (.gr i n o.gs.length) x (.gr j m k)))) else none)=(if j<M.k then (M.ord j m).map (fun o'=>HO.lst ((List.range o'.gs.length).map fun k=>V.ref (A.ad (.gr j m k)))) else none);have:∀k,Zy A.ad (.gr i n o.gs.length) x (.gr j m k)=A.ad (.gr j m k):=fun k=>km (fun w=>z (by injection w with w1 w2;exact ⟨w1,w2⟩))
   simp only [this]
  | gr j m k=>
   show (if j<M.k then ((Ze M i n _).ord j m).bind (fun o'=>(o'.gs[k]?).map fun g=>HO.ins c.yc (Zy A.dd (.gr i n o.gs.length) dx (.gr j m k)) (QK g)) else none)=_;rw [km h2,e1];by_cases z:j=i∧m=n
   ·have zk:k≠o.gs.length:=fun w=>h2 (by rw [z.1,z.2,w])
    rw [if_pos z,z.1,z.2];show (if i<M.k then ((o.gs++ [g])[k]?).map _ else none)=(if i<M.k then (M.ord i n).bind _ else none);rw [ho];show (if i<M.k then ((o.gs++ [g])[k]?).map _ else none)=(if i<M.k then (o.gs[k]?).map _ else none);by_cases w:k<o.gs.length
    ·rw [List.getElem?_append_left w]
    ·rw [List.getElem?_eq_none (by simp;omega),List.getElem?_eq_none (by omega)]
   ·rw [if_neg z];rfl
  | _=>rfl
 ·intro j hj;obtain ⟨w1,w2⟩:=h.wd j hj;refine ⟨fun m hm=>?_,w2⟩;rw [e1];split
  ·rfl
  ·exact w1 m hm
theorem Holds.clF(h:Holds c H A M){i:Nat}{n g:Int}{x:Jn}(hi:i<M.k)(hx:M.cl i n g=some x)(f:Jn→Jn):
  Holds c (upd H (A.ad (.cl i n g)) (.ins c.claim (A.dd (.cl i n g)) (zv n g (f x)))) A (ZG M i n g f)∧Ext c ex H A M (upd H (A.ad (.cl i n g)) (.ins c.claim (A.dd (.cl i n g)) (zv n g (f x)))) A (ZG M i n g f):=by
 have e1:∀j m k,(ZG M i n g f).cl j m k=if j=i∧m=n∧k=g then some (f x) else M.cl j m k:=fun j m k=>by
  show (if j=i∧m=n∧k=g then (M.cl i n g).map f else M.cl j m k)=_;rw [hx];rfl
 refine h.write (p:= .cl i n g) (o:= .ins c.claim (A.dd (.cl i n g)) (zv n g x)) ?_ ?_ (fun q hq=>?_) Vbc rfl rfl ?_
 ·show (if i<M.k then (M.cl i n g).map _ else none)=_;rw [if_pos hi,hx];rfl
 ·show (if i<M.k then ((ZG M i n g f).cl i n g).map _ else none)=_;rw [if_pos hi,e1,if_pos ⟨rfl,rfl,rfl⟩];rfl
 ·cases q with
  | cl j m k=>
   show (if j<M.k then ((ZG M i n g f).cl j m k).map _ else none)=(if j<M.k then (M.cl j m k).map _ else none);rw [e1,if_neg (show¬(j=i∧m=n∧k=g) from fun z=>hq (by rw [z.1,z.2.1,z.2.2]))]
  | _=>rfl
 ·intro j hj;obtain ⟨w1,w2,w3⟩:=h.wd j hj;refine ⟨w1,fun k hk=>?_,fun m k hk=>?_⟩
  ·rw [e1];split
   ·rfl
   ·exact w2 k hk
  ·rw [e1];split
   ·rename_i z;rw [z.1,z.2.1,z.2.2] at hk;rw [z.1] at w3;have:=w3 n g hk;rw [hx] at this;cases this
   ·exact w3 m k hk
theorem Holds.ybg(h:Holds c H A M){i:Nat}{n g:Int}{x dx:Addr}(hi:i<M.k)(hng:(n,g)∉M.Kc i)(hno:M.cl i n g=none)(hx:H x=some (.ins c.claim dx (zv n g cl0)))(hn:¬Own c A M x)(hex:ex x):
  Holds c (upd H (A.ad (.cd i)) (.dT ((M.Kc i).map (fun k=>([Sum.inl k.1,Sum.inl k.2],V.ref (A.ad (.cl i k.1 k.2))))++ [([Sum.inl n,Sum.inl g],V.ref x)]))) (JT A (.cl i n g) x dx) (yb M i n g)∧
   Ext c ex H A M (upd H (A.ad (.cd i)) (.dT ((M.Kc i).map (fun k=>([Sum.inl k.1,Sum.inl k.2],V.ref (A.ad (.cl i k.1 k.2))))++ [([Sum.inl n,Sum.inl g],V.ref x)]))) (JT A (.cl i n g) x dx) (yb M i n g):=by
 have et:yb M i n g={Ubb M i n g cl0 with Kc:=ye M.Kc i (M.Kc i++ [(n,g)])}:=by unfold yb;rw [if_neg hng]
 rw [et];refine h.grow (p:= .cd i) (q:= .cl i n g) (by intro z;cases z) (show (if i<M.k then _ else none)=some _ from if_pos hi) ?_ ?_ ?_ hx hn (fun r h1 h2=>?_) trivial rfl rfl ?_ hex
 ·show (if i<M.k then some (HO.dT ((ye M.Kc i (M.Kc i++ [(n,g)]) i).map fun k=>([Sum.inl k.1,Sum.inl k.2],V.ref (Zy A.ad (.cl i n g) x (.cl i k.1 k.2))))) else none)=_;rw [if_pos hi,Ub,List.map_append,List.map_cons,List.map_nil];show some (HO.dT (_++ [([Sum.inl n,Sum.inl g],V.ref (Zy A.ad (.cl i n g) x (.cl i n g)))]))=_;rw [Vm]
  congr 2
  congr 1
  refine List.map_congr_left fun k hk=>?_;rw [km];intro z;injection z with _ z1 z2;exact hng (by rw [←z1,←z2];exact hk)
 ·show (if i<M.k then (M.cl i n g).map _ else none)=_;rw [if_pos hi,hno];rfl
 ·show (if i<M.k then (if i=i∧n=n∧g=g then some cl0 else M.cl i n g).map (fun y=>HO.ins c.claim (Zy A.dd (.cl i n g) dx (.cl i n g)) (zv n g y)) else none)=_;rw [if_pos hi,if_pos ⟨rfl,rfl,rfl⟩,Vm];rfl
 ·cases r with
  | cd j=>
   have z:j≠i:=fun z=>h1 (by rw [z])
   show (if j<M.k then some (HO.dT ((ye M.Kc i (M.Kc i++ [(n,g)]) j).map fun k=>([Sum.inl k.1,Sum.inl k.2],V.ref (Zy A.ad (.cl i n g) x (.cl j k.1 k.2))))) else none)=_;rw [Xe z];have:∀k:Int×Int,Zy A.ad (.cl i n g) x (.cl j k.1 k.2)=A.ad (.cl j k.1 k.2):=fun k=>km (fun w=>z (by injection w))
   simp only [this];rfl
  | cl j m k=>
   show (if j<M.k then (if j=i∧m=n∧k=g then some cl0 else M.cl j m k).map (fun y=>HO.ins c.claim (Zy A.dd (.cl i n g) dx (.cl j m k)) (zv m k y)) else none)=_;rw [if_neg (show¬(j=i∧m=n∧k=g) from fun z=>h2 (by rw [z.1,z.2.1,z.2.2])),km h2];rfl
  | _=>rfl
 ·intro j hj;obtain ⟨w1,w2,w3⟩:=h.wd j hj;refine ⟨w1,fun k hk=>?_,fun m k hk=>?_⟩
  ·show (if j=i∧k.1=n∧k.2=g then some cl0 else M.cl j k.1 k.2).isSome=true;by_cases z:j=i∧k.1=n∧k.2=g
   ·rw [if_pos z];rfl
   ·rw [if_neg z];have hk:k∈ye M.Kc i (M.Kc i++ [(n,g)]) j:=hk;by_cases e:j=i
    ·subst e;rw [Ub] at hk;rcases List.mem_append.mp hk with hk | hk
     ·exact w2 k hk
     ·simp at hk;exact absurd ⟨rfl,by rw [hk],by rw [hk]⟩ z
    ·rw [Xe e] at hk;exact w2 k hk
  ·show (if j=i∧m=n∧k=g then some cl0 else M.cl j m k)=none;have hk:(m,k)∉ye M.Kc i (M.Kc i++ [(n,g)]) j:=hk;by_cases z:j=i∧m=n∧k=g
   ·exfalso;rw [z.1,Ub,z.2.1,z.2.2] at hk;exact hk (List.mem_append_right _ (List.mem_singleton.mpr rfl))
   ·rw [if_neg z];refine w3 m k fun q=>hk ?_;by_cases e:j=i
    ·subst e;rw [Ub];exact List.mem_append_left _ q
    ·rw [Xe e];exact q
theorem Holds.send' (h:Holds c H A M){m:Je}{x dx:Addr}(hx:H x=some (.ins c.message dx (Uk m)))(hn:¬Own c A M x)(hex:ex x):
  Holds c (upd H (A.ad .kT) (.lst ((List.range M.ms.length).map (fun j=>V.ref (A.ad (.ms j)))++ [V.ref x]))) (JT A (.ms M.ms.length) x dx) (zG M m)∧
   Ext c ex H A M (upd H (A.ad .kT) (.lst ((List.range M.ms.length).map (fun j=>V.ref (A.ad (.ms j)))++ [V.ref x]))) (JT A (.ms M.ms.length) x dx) (zG M m):=by
 refine h.grow (p:= .kT) (q:= .ms M.ms.length) (by intro z;cases z) rfl ?_ ?_ ?_ hx hn (fun r h1 h2=>?_) trivial rfl rfl h.wd hex
 ·show some (HO.lst ((List.range (M.ms++ [m]).length).map fun j=>V.ref (Zy A.ad (.ms M.ms.length) x (.ms j))))=_;rw [List.length_append];show some (HO.lst ((List.range (M.ms.length+1)).map _))=_;rw [Vab,Vm]
  congr 2
  congr 1
  refine List.map_congr_left fun k hk=>?_;rw [km];intro z;injection z with z;have:=List.mem_range.mp hk;omega
 ·show (M.ms[M.ms.length]?).map _=_;rw [List.getElem?_eq_none (Nat.le_refl _)];rfl
 ·show ((M.ms++ [m])[M.ms.length]?).map (fun m=>HO.ins c.message (Zy A.dd (.ms M.ms.length) dx (.ms M.ms.length)) (Uk m))=_;rw [Vm];simp
 ·cases r with
  | ms j=>
   have z:j≠M.ms.length:=fun z=>h2 (by rw [z])
   show ((M.ms++ [m])[j]?).map (fun m=>HO.ins c.message (Zy A.dd (.ms M.ms.length) dx (.ms j)) (Uk m))=(M.ms[j]?).map _;rw [km h2];by_cases w:j<M.ms.length
   ·rw [List.getElem?_append_left w]
   ·rw [List.getElem?_eq_none (by simp;omega),List.getElem?_eq_none (by omega)]
  | kT=>exact absurd rfl h1
  | _=>rfl
end
end Mo
namespace Mo
open PySem PySem.Spec PyProof.Rows L2
variable{P:Program}{w:World}{K:PySem.W.Frag}{mg:Str→Option Value}{base:Heap}{t:Yd}
section
variable{c:Cs}{H H1 H':Hp}{A A':Ad}{M M':Mw}{ex:Addr→Prop}
abbrev uz(c:Cs)(H:Hp)(A:Ad)(M:Mw)(H':Hp)(A':Ad)(M':Mw):Prop:=Ext c (fun _=>False) H A M H' A' M'
theorem Ext.drop{x:Addr}(s:Ua H H1)(hx:H x=none)(e:Ext c (fun b=>b=x) H1 A M H' A' M'):uz c H A M H' A' M':=
 ⟨e.ad,fun b o _ hb hn=>e.keep b o (fun z=>by rw [z,hx] at hb;cases hb) (s _ _ hb) hn⟩
theorem uba{p:Pl}{o:HO}(h:cont c A M p=some o):ZD o:=by
 cases p with
 | wo=>cases h;exact wbb
 | VJ=>cases h;exact trivial
 | kT=>cases h;exact trivial
 | ms j=>
  have h:(M.ms[j]?).map _=some o:=h;obtain ⟨m,_,rfl⟩:=Option.map_eq_some_iff.mp h;exact Qbc
 | of i=>
  have h:(if i<M.k then some _ else none)=some o:=h;split at h
  ·cases h;exact Jbc
  ·cases h
 | jl i=>
  have h:(if i<M.k then some _ else none)=some o:=h;split at h
  ·cases h;exact trivial
  ·cases h
 | od i=>
  have h:(if i<M.k then some _ else none)=some o:=h;split at h
  ·cases h;exact trivial
  ·cases h
 | cd i=>
  have h:(if i<M.k then some _ else none)=some o:=h;split at h
  ·cases h;exact trivial
  ·cases h
 | ord i n=>
  have h:(if i<M.k then (M.ord i n).map _ else none)=some o:=h;split at h
  ·obtain ⟨m,_,rfl⟩:=Option.map_eq_some_iff.mp h;exact qbb
  ·cases h
 | gl i n=>
  have h:(if i<M.k then (M.ord i n).map _ else none)=some o:=h;split at h
  ·obtain ⟨m,_,rfl⟩:=Option.map_eq_some_iff.mp h;exact trivial
  ·cases h
 | gr i n k=>
  have h:(if i<M.k then (M.ord i n).bind _ else none)=some o:=h;split at h
  ·obtain ⟨m,_,h⟩:=Option.bind_eq_some_iff.mp h;obtain ⟨g,_,rfl⟩:=Option.map_eq_some_iff.mp h;exact kbb
  ·cases h
 | cl i n g=>
  have h:(if i<M.k then (M.cl i n g).map _ else none)=some o:=h;split at h
  ·obtain ⟨m,_,rfl⟩:=Option.map_eq_some_iff.mp h;exact Vbc
  ·cases h
theorem Holds.U1(h:Holds c H A M){x dx y:Addr}{a:Xj}(hx:H x=some (.ins c.act dx (zt a y))):¬Own c A M x:=by
 rintro ⟨p,l,e⟩
 unfold Lv at l;cases q:cont c A M p with
 | none=>rw [q] at l;cases l
 | some o=>
  have h1:=h.at_ p o q
  rw [e,hx] at h1;cases h1;exact uba q a y rfl
theorem VaP(k:Nat):kindS k="issuing"↔k=1:=by
 unfold kindS;split
 ·rename_i h;exact ⟨fun _=>h,fun _=>rfl⟩
 ·rename_i h;split
  ·exact ⟨fun z=>absurd z (by decide+kernel),fun z=>absurd z h⟩
  ·exact ⟨fun z=>absurd z (by decide+kernel),fun z=>absurd z h⟩
theorem kbc(k:Nat):kindS k="paying"↔k=2:=by
 unfold kindS;split
 ·rename_i h;exact ⟨fun z=>absurd z (by decide+kernel),fun z=>by omega⟩
 ·split
  ·rename_i h;exact ⟨fun _=>h,fun _=>rfl⟩
  ·rename_i h;exact ⟨fun z=>absurd z (by decide+kernel),fun z=>absurd z h⟩
theorem Xbb{k b:Nat}(hk:k=1∨k=2∨k=3)(hb:b=1∨b=2∨b=3):V.str (kindS k)=V.str (kindS b)↔k=b:=by
 constructor
 ·intro h;have h:=V.str.inj h;rcases hk with rfl | rfl | rfl<;>rcases hb with rfl | rfl | rfl<;>first | rfl | exact absurd h (by decide+kernel)
 ·rintro rfl;rfl
theorem Z0(h:Holds c H A M){i:Nat}(hi:i<M.k):((A.jt i).map V.ref).length=(M.jr i).length:=by rw [List.length_map,←Paired.length (h.jr i hi)]
theorem vbd(f:Int→Addr)(m:Int):∀l:List Int,yA (l.map fun n=>((Sum.inl n:Key),V.ref (f n))) (Sum.inl m)=if m∈l then some (V.ref (f m)) else none
 | []=>rfl
 | a::r=>by
  have ih:=vbd f m r;unfold yA at ih⊢;rw [List.map_cons];by_cases h:a=m
  ·subst h;rw [List.find?_cons_of_pos (by simp)];simp
  ·rw [List.find?_cons_of_neg (by simpa using h),ih];have:m≠a:=fun z=>h z.symm;simp [this]
theorem ybd(f:Int→Int→Addr)(n g:Int):∀l:List (Int×Int),yA (l.map fun k=>(([Sum.inl k.1,Sum.inl k.2]:List Key),V.ref (f k.1 k.2))) [Sum.inl n,Sum.inl g]=if (n,g)∈l then some (V.ref (f n g)) else none
 | []=>rfl
 | a::r=>by
  have ih:=ybd f n g r;unfold yA at ih⊢;rw [List.map_cons];by_cases h:a=(n,g)
  ·subst h;rw [List.find?_cons_of_pos (by simp)];simp
  ·rw [List.find?_cons_of_neg (by
    simp;intro z1 z2;exact h (Prod.ext z1 z2)),ih]
   have:(n,g)≠a:=fun z=>h z.symm;simp [this]
theorem Ubn(f:Int→Addr)(m:Int)(l:List Int):putK (l.map fun n=>((Sum.inl n:Key),V.ref (f n))) (Sum.inl m) (V.ref (f m))=(j5 l m).map fun n=>((Sum.inl n:Key),V.ref (f n)):=by
 unfold putK j5;by_cases h:m∈l
 ·rw [if_pos h,if_pos]
  ·rw [List.map_map];refine List.map_congr_left fun n _=>?_;simp only [Function.comp];split
   ·rename_i e;have:n=m:=Sum.inl.inj e;rw [this]
   ·rfl
  ·rw [List.any_map,List.any_eq_true];exact ⟨m,h,by simp⟩
 ·rw [if_neg h,if_neg]
  ·rw [List.map_append];rfl
  ·rw [List.any_map,List.any_eq_true]
   rintro ⟨n,hn,e⟩
   simp at e;exact h (e▸hn)
theorem Holds.Qbs(h:Holds c H A M){i:Nat}{n:Int}(hi:i<M.k)(ho:(M.ord i n).isSome=true):
  Holds c (upd H (A.ad (.od i)) (.dK (putK ((M.ub i).map fun n=>(Sum.inl n,V.ref (A.ad (.ord i n)))) (Sum.inl n) (V.ref (A.ad (.ord i n)))))) A {M with ub:=ye M.ub i (j5 (M.ub i) n)}∧
   Ext c ex H A M (upd H (A.ad (.od i)) (.dK (putK ((M.ub i).map fun n=>(Sum.inl n,V.ref (A.ad (.ord i n)))) (Sum.inl n) (V.ref (A.ad (.ord i n)))))) A {M with ub:=ye M.ub i (j5 (M.ub i) n)}:=by
 rw [Ubn (fun n=>A.ad (.ord i n)) n (M.ub i)];refine h.write (p:= .od i) (show (if i<M.k then _ else none)=some _ from if_pos hi) ?_ (fun q hq=>?_) trivial rfl rfl ?_
 ·show (if i<M.k then some (HO.dK ((ye M.ub i (j5 (M.ub i) n) i).map _)) else none)=_;rw [if_pos hi,Ub]
 ·cases q with
  | od j=>
   show (if j<M.k then some (HO.dK ((ye M.ub i (j5 (M.ub i) n) j).map _)) else none)=_;rw [Xe (fun z=>hq (by rw [z]))];rfl
  | _=>rfl
 ·intro j hj;obtain ⟨w1,w2⟩:=h.wd j hj;refine ⟨fun m hm=>?_,w2⟩;have hm:m∈ye M.ub i (j5 (M.ub i) n) j:=hm;by_cases e:j=i
  ·subst e;rw [Ub] at hm;unfold j5 at hm;split at hm
   ·exact w1 m hm
   ·rcases List.mem_append.mp hm with hm | hm
    ·exact w1 m hm
    ·have e:m=n:=by simpa using hm
     rw [e];exact ho
  ·rw [Xe e] at hm;exact w1 m hm
end
theorem qH{c:Cs}{H:Hp}{A:Ad}{M:Mw}{K:PySem.W.Frag}{i:Nat}{p:Addr}{o:HO}{Q:Hp→Prop}(hd:Holds c H A M)(hi:i<M.k)(hz:(M.jr i).length<sizeLine)(hp:H p=none)
  (q:Q (upd (upd H p o) (A.ad (.jl i)) (.lst ((A.jt i).map V.ref++ [V.ref p])))):
  ∃l xs y,V.ref (A.ad (.jl i))=V.ref l∧ [V.ref p]= [y]∧upd H p o l=some (.lst xs)∧xs.length<sizeLine∧Q (upd (upd H p o) l (.lst (xs++ [y]))):=
 ⟨_,_,_,rfl,rfl,Ua.new hp _ _ (hd.jl hi),by rw [Z0 hd hi];exact hz,q⟩
theorem ZI:2≤sizeLine:=by rw [sizeLine_eq];decide
theorem ZaE:5≤sizeLine:=by rw [sizeLine_eq];decide
def xao(t:Yd):Sp:=fun vs H Q _=>∃(A:Ad) (M:Mw) (i:Nat) (n:Int),vs= [.ref (A.ad (.of i)), .int n]∧Holds t.c H A M∧i<M.k∧(M.jr i).length<sizeLine∧∀H' A',Holds t.c H' A' (kaA M i n)→uz t.c H A M H' A' (kaA M i n)→Q .non H'
theorem zaq(T:Txt K mg t):wb P w K mg base ke 2 t.zA t.Jz ["self","coins"] (xao t):=by
  refine T.k8.kf qap fun vs H Q E h=>?_;obtain ⟨A,M,i,n,rfl,hd,hi,hz,k⟩:=h;refine ⟨rfl,fun _ _ _ _ hr=>⟨_,(Za (Zd (wy PySem.F.plainAttrs_list PySem.F.slot_list_append PySem.F.type_list_append vh (ya (pv 0) rfl) (za (jH (za (xa (v:= .str "bank") rfl T.ya1 ⟨_,rfl⟩) (za (pv 1) Qa))) Qa))) (va (k7 (pv 0) (pv 1) jaA))),?_⟩⟩;refine ⟨_,rfl,kb T (hd.of hi) ⟨.inl ⟨rfl,_,xb.of (hd.jl hi)⟩,_,rfl,ZI,fun p hp=>qH (K:=K) hd hi hz hp ?_⟩⟩;have s1:Ua H (upd H p (.tup [.str "bank", .int n])):=Ua.new hp;obtain ⟨hd2,e2⟩:=(hd.same s1).jc (ex:=fun _=>False) (t:=p) (r:= .bank n) hi Ya (fun a e=>by cases e);obtain ⟨Jk,e3⟩:=hd2.Wbb (ex:=fun _=>False) (i:=i) hi n;refine ⟨_,rfl,_,_,_,_,_,rfl,hd2.of hi,T.Zb,T.Us,YE,_,rfl,_,_,rfl,rfl,_,_,hd2.of hi,nb rfl,?_⟩;exact k _ _ Jk (((Ext.of_same s1).trans e2).trans e3)
def XS(t:Yd):Sp:=fun vs H Q _=>∃(A:Ad) (M:Mw) (i:Nat) (x:Addr),vs= [.ref (A.ad (.of i)), .ref x]∧Holds t.c H A M∧i<M.k∧(M.jr i).length<sizeLine∧∀H' A',Holds t.c H' A' (Ja6 M i)→uz t.c H A M H' A' (Ja6 M i)→Q .non H'
theorem KU(T:Txt K mg t):wb P w K mg base ke 2 t.Ui t.Ji ["self","act"] (XS t):=by
  refine T.Jy.kf XT fun vs H Q E h=>?_;obtain ⟨A,M,i,x,rfl,hd,hi,hz,k⟩:=h;refine ⟨rfl,fun _ _ _ _ hr=>⟨_,(va (Zd (wy PySem.F.plainAttrs_list PySem.F.slot_list_append PySem.F.type_list_append vh (ya (pv 0) rfl) (za (jH (za (xa (v:= .str "not done") rfl T.was ⟨_,rfl⟩) (za (pv 1) Qa))) Qa)))),?_⟩⟩;refine ⟨_,rfl,kb T (hd.of hi) ⟨.inl ⟨rfl,_,xb.of (hd.jl hi)⟩,_,rfl,ZI,fun p hp=>qH (K:=K) hd hi hz hp ?_⟩⟩;have s1:Ua H (upd H p (.tup [.str "not done", .ref x])):=Ua.new hp;obtain ⟨hd2,e2⟩:=(hd.same s1).jc (ex:=fun _=>False) (t:=p) (r:= .other) hi ⟨_,_,Ya,by decide+kernel,by decide+kernel,by decide+kernel⟩ (fun a e=>by cases e);exact k _ _ hd2 ((Ext.of_same s1).trans e2)
def j1(t:Yd):Sp:=fun vs H Q _=>∃(A:Ad) (M:Mw) (i:Nat) (x dx:Addr) (a:Xj),vs= [.ref (A.ad (.of i)), .ref x]∧Holds t.c H A M∧i<M.k∧(M.jr i).length<sizeLine∧H x=some (.ins t.c.act dx (zt a (A.ad (yC i a))))∧Lv t.c A M (yC i a)∧∀H' A',Holds t.c H' A' (Xf M i a)→uz t.c H A M H' A' (Xf M i a)→Q .non H'
theorem j2(T:Txt K mg t):wb P w K mg base ke 2 t.Zm t.zm ["self","act"] (j1 t):=by
  refine T.uG.kf X1 fun vs H Q E h=>?_;obtain ⟨A,M,i,x,dx,a,rfl,hd,hi,hz,hx,hl,k⟩:=h;refine ⟨rfl,fun _ _ _ _ hr=>⟨_,(Za (Zd (wy PySem.F.plainAttrs_list PySem.F.slot_list_append PySem.F.type_list_append vh (ya (pv 0) rfl) (za (jH (za (xa (v:= .str "begun") rfl T.ZaU ⟨_,rfl⟩) (za (pv 1) Qa))) Qa))) (va (Jb (Kb Vf (ya (pv 1) rfl) (xa (v:= .str "issuing") rfl T.x5 ⟨_,rfl⟩) (Zc _)) (va (k7 (pv 0) ua jaA)) zb))),?_⟩⟩;refine ⟨_,rfl,kb T (hd.of hi) ⟨.inl ⟨rfl,_,xb.of (hd.jl hi)⟩,_,rfl,ZI,fun p hp=>qH (K:=K) hd hi hz hp ?_⟩⟩;have s1:Ua H (upd H p (.tup [.str "begun", .ref x])):=Ua.new hp;obtain ⟨hd2,e2⟩:=(hd.same s1).jc (ex:=fun _=>False) (t:=p) (r:= .begun a) hi ⟨x,dx,_,Ya,s1 _ _ hx⟩ (fun a' e=>by cases e;exact ⟨x,dx,Ya,s1 _ _ hx,hl⟩);have hx2:=(e2.keep x _ (fun z=>z) (s1 _ _ hx) ((hd.same s1).U1 (s1 _ _ hx))).1;refine ⟨_,rfl,qP T hx2 ⟨rfl,_,rfl,yg (fun h=>?_) fun h=>?_⟩⟩
  ·have h1:a.kind=1:=(VaP _).mp (V.str.inj h);obtain ⟨Jk,e3⟩:=hd2.Xbg (ex:=fun _=>False) (i:=i) hi;have em:({jc M i (.begun a) with begun:=ye (jc M i (.begun a)).begun i ((jc M i (.begun a)).begun i+1)}:Mw)=Xf M i a:=by
    unfold Xf;rw [if_pos h1];rfl
   rw [em] at Jk e3;refine ⟨_,rfl,_,_,_,_,_,rfl,hd2.of hi,T.Zb,T.xo,WB,_,_,rfl,rfl,_,_,hd2.of hi,nb rfl,?_⟩;exact k _ _ Jk (((Ext.of_same s1).trans e2).trans e3)
  ·have h1:a.kind≠1:=fun z=>h (by rw [(VaP _).mpr z])
   have em:jc M i (.begun a)=Xf M i a:=by
    unfold Xf;rw [if_neg h1];rfl
   rw [em] at hd2 e2;exact k _ _ hd2 ((Ext.of_same s1).trans e2)
def U8(t:Yd):Sp:=fun vs H Q _=>∃(A:Ad) (M:Mw) (i:Nat) (x dx:Addr) (a:Xj),vs= [.ref (A.ad (.of i)), .ref x]∧Holds t.c H A M∧i<M.k∧(M.jr i).length<sizeLine∧(M.ub i).length<sizeLine∧H x=some (.ins t.c.act dx (zt a (A.ad (yC i a))))∧Lv t.c A M (yC i a)∧∀H' A',Holds t.c H' A' (Qm M i a)→uz t.c H A M H' A' (Qm M i a)→Q .non H'
theorem JG(T:Txt K mg t):wb P w K mg base ke 2 t.um t.Wm ["self","act"] (U8 t):=by
  refine T.UI.kf w8 fun vs H Q E h=>?_;obtain ⟨A,M,i,x,dx,a,rfl,hd,hi,hz,hz2,hx,hl,k⟩:=h;refine ⟨rfl,fun _ _ _ _ hr=>⟨_,(Za (Zd (wy PySem.F.plainAttrs_list PySem.F.slot_list_append PySem.F.type_list_append vh (ya (pv 0) rfl) (za (jH (za (xa (v:= .str "done") rfl T.QaC ⟨_,rfl⟩) (za (pv 1) Qa))) Qa))) (va (Jb (Kb Vf (ya (pv 1) rfl) (xa (v:= .str "issuing") rfl T.x5 ⟨_,rfl⟩) (Zc _)) (va (jba (YS hr) (ya (pv 0) rfl) (ya (pv 1) rfl) (ya (pv 1) rfl) rfl)) (va (Jb (Kb Vf (ya (pv 1) rfl) (xa (v:= .str "paying") rfl T.Yas ⟨_,rfl⟩) (Zc _)) (va (zc (ya (pv 1) rfl) Zv rfl)) (va (zc (ya (pv 1) rfl) Zv rfl))))))),?_⟩⟩;refine ⟨_,rfl,kb T (hd.of hi) ⟨.inl ⟨rfl,_,xb.of (hd.jl hi)⟩,_,rfl,ZI,fun p hp=>qH (K:=K) hd hi hz hp ?_⟩⟩;have s1:Ua H (upd H p (.tup [.str "done", .ref x])):=Ua.new hp;obtain ⟨hd2,e2⟩:=(hd.same s1).jc (ex:=fun _=>False) (t:=p) (r:= .done a) hi ⟨x,dx,_,Ya,s1 _ _ hx⟩ (fun a' e=>by cases e);have hx2:=(e2.keep x _ (fun z=>z) (s1 _ _ hx) ((hd.same s1).U1 (s1 _ _ hx))).1;refine ⟨_,rfl,qP T hx2 ⟨rfl,_,rfl,yg (fun h=>?_) fun h=>?_⟩⟩
  ·have h1:a.kind=1:=(VaP _).mp (V.str.inj h);have es:yC i a= .ord i a.no:=by unfold yC;rw [if_neg (by omega)]
   rw [es] at hl hx2;have ho:(M.ord i a.no).isSome=true:=by
    unfold Lv at hl;have hl:(if i<M.k then (M.ord i a.no).map _ else none).isSome=true:=hl;rw [if_pos hi,Option.isSome_map] at hl;exact hl
   obtain ⟨Jk,e3⟩:=hd2.Qbs (ex:=fun _=>False) (i:=i) (n:=a.no) hi ho;have em:({jc M i (.done a) with ub:=ye (jc M i (.done a)).ub i (j5 ((jc M i (.done a)).ub i) a.no)}:Mw)=Qm M i a:=by
    unfold Qm;rw [if_pos h1];rfl
   rw [em] at Jk e3;refine ⟨_,rfl,JM T hx2 ⟨_,rfl,wc T (hd2.of hi) ⟨_,rfl,uaz T hx2 ⟨_,_,rfl,uaY.k (k:=Sum.inl a.no) (hd2.od hi) (by rw [List.length_map];exact hz2),?_⟩⟩⟩⟩;exact k _ _ Jk (((Ext.of_same s1).trans e2).trans e3)
  ·have h1:a.kind≠1:=fun z=>h (by rw [(VaP _).mpr z])
   refine ⟨_,rfl,qP T hx2 ⟨rfl,_,rfl,yg (fun h2=>?_) fun h2=>?_⟩⟩
   ·have h2:a.kind=2:=(kbc _).mp (V.str.inj h2);have es:yC i a= .cl i a.no a.g:=by unfold yC;rw [if_pos h2]
    rw [es] at hl hx2;obtain ⟨y,hy⟩:∃y,M.cl i a.no a.g=some y:=by
     unfold Lv at hl;have hl:(if i<M.k then (M.cl i a.no a.g).map _ else none).isSome=true:=hl;rw [if_pos hi,Option.isSome_map] at hl;exact Option.isSome_iff_exists.mp hl
    obtain ⟨Jk,e3⟩:=hd2.clF (ex:=fun _=>False) (i:=i) (n:=a.no) (g:=a.g) (x:=y) hi hy (fun c=>{c with paid:=true});have em:ZG (jc M i (.done a)) i a.no a.g (fun c=>{c with paid:=true})=Qm M i a:=by
     unfold Qm;rw [if_neg h1,if_pos h2]
    rw [em] at Jk e3;refine ⟨_,rfl,JM T hx2 (uf (hd2.cl (x:=y) hi hy) T.Jf T.xR (nb rfl) ?_)⟩;exact k _ _ Jk (((Ext.of_same s1).trans e2).trans e3)
   ·have h2:a.kind≠2:=fun z=>h2 (by rw [(kbc _).mpr z])
    have es:yC i a= .ord i a.no:=by unfold yC;rw [if_neg h2]
    rw [es] at hl hx2;obtain ⟨y,hy⟩:∃y,M.ord i a.no=some y:=by
     unfold Lv at hl;have hl:(if i<M.k then (M.ord i a.no).map _ else none).isSome=true:=hl;rw [if_pos hi,Option.isSome_map] at hl;exact Option.isSome_iff_exists.mp hl
    obtain ⟨Jk,e3⟩:=hd2.jbk (ex:=fun _=>False) (i:=i) (n:=a.no) (o:=y) hi hy (fun o=>{o with refunded:=true}) rfl;have em:Ze (jc M i (.done a)) i a.no (fun o=>{o with refunded:=true})=Qm M i a:=by
     unfold Qm;rw [if_neg h1,if_neg h2]
    rw [em] at Jk e3;refine ⟨_,rfl,JM T hx2 (uf (hd2.ord (o:=y) hi hy) T.ue T.zB (nb rfl) ?_)⟩;exact k _ _ Jk (((Ext.of_same s1).trans e2).trans e3)
end Mo
namespace Mo
open PySem PySem.Spec PyProof.Rows L2
variable{P:Program}{w:World}{K:PySem.W.Frag}{mg:Str→Option Value}{base:Heap}{t:Yd}
section
variable{c:Cs}{H H1 H' H2:Hp}{A A' A2:Ad}{M M' M2:Mw}{ex:Addr→Prop}
theorem vaI{i:Nat}(hi:i<M.k):Lv c A M (.of i):=Lv.of (o:= .ins c.office (A.dd (.of i)) (Wi A M i)) (if_pos hi)
theorem JaA{i:Nat}{n:Int}{o:Qe}(hi:i<M.k)(ho:M.ord i n=some o):Lv c A M (.ord i n):=by
 unfold Lv;show (if i<M.k then (M.ord i n).map _ else none).isSome=true;rw [if_pos hi,ho];rfl
theorem vaP{i:Nat}{n g:Int}{x:Jn}(hi:i<M.k)(hx:M.cl i n g=some x):Lv c A M (.cl i n g):=by
 unfold Lv;show (if i<M.k then (M.cl i n g).map _ else none).isSome=true;rw [if_pos hi,hx];rfl
theorem jaf:Lv c A M .wo:=rfl
theorem xbm{j:Nat}{m:Je}(h:M.ms[j]? =some m):Lv c A M (.ms j):=by
 unfold Lv;show ((M.ms[j]?).map _).isSome=true;rw [h];rfl
theorem ZaM{α β:Type}{F:α→β→Prop}{js:List α}{r:α}{l:List β}(h:Paired F (js++ [r]) l):∃ts u,l=ts++ [u]∧F r u:=by
 induction js generalizing l with
 | nil=>
  cases h with
  | cons a b=>
   cases b;exact ⟨[],_,rfl,a⟩
 | cons x js ih=>
  cases h with
  | cons a b=>
   obtain ⟨ts,u,e,f⟩:=ih b;exact ⟨_::ts,u,by rw [e];rfl,f⟩
end
def JP(t:Yd):Sp:=fun vs H Q _=>∃(A:Ad) (M:Mw) (i b:Nat),vs= [.ref (A.ad (.of i)), .str (kindS b)]∧Holds t.c H A M∧i<M.k∧(M.jr i).length<sizeLine∧(b=1∨b=2∨b=3)∧(∀a∈Yv (M.jr i),a.kind=1∨a.kind=2∨a.kind=3)∧∀H',Ua H H'→Q (.int (v3 (M.jr i) b)) H'
theorem jah(T:Txt K mg t):wb P w K mg base ke 2 t.Ws t.xt ["self","kind"] (JP t):=by
  refine T.KW.kf XA fun vs H Q E h=>?_;obtain ⟨A,M,i,b,rfl,hd,hi,hz,hb,ha,k⟩:=h;refine ⟨rfl,fun _ _ _ _ hr=>⟨_,(va (Ja (jd (vT rfl) (by rfl) T.zaa PyProof.Rows.boot_sum (za (zY (tt:=(Yaf (tOp rEq (Z8 K (Km 2) "kind") (Km 1)))) (te:=(Z8 K (Km 2) "cash")) rfl XA.nd (Xn (qf (pv 0) T.Zb T.QI (xJ T) hr.m T.QN .nil Ka)) (Wh (own:= [("act",2)]) rfl) (fun _ _ _ _ _=>jg (i:=2) XA.nd rfl (Or.inl rfl)) (fun _ _ _ _ _=>(yH (Kb Vf (ya (pv 2) rfl) (pv 1) (Zc _)))) (fun _ _ _ _ _=>(ya (pv 2) rfl))) Qa)))),?_⟩⟩;refine ⟨_,rfl,_,_,_,rfl,hd.of hi,rfl,A,M,i,rfl,hd,hi,hz,fun H1 D1 xs s1 hD1 hp=>⟨_,rfl,⟨_,xb.of hD1⟩,fun D hD=>Vp (xs:=xs.map V.ref) (Yv (M.jr i)) (fun a=>if a.kind=b then some (.int a.Qy) else none) hD (xb.of hD1) (by rw [List.length_map,Paired.length hp]) (Nat.lt_of_le_of_lt (KJ _) hz) ?_ ?_⟩⟩
  ·intro j x y H2 N Y hx hy s2 hN hY;obtain ⟨u,hu,dx,y',hu2⟩:=xW hp hy;rw [List.getElem?_map,hu] at hx;have hx:V.ref u=x:=Option.some.inj hx;subst hx;have hu3:=s2 _ _ hu2;refine ⟨_,rfl,qP T hu3 ⟨_,rfl,rfl,_,rfl,yg (fun h=>?_) fun h=>?_⟩⟩
   ·have h:=(Xbb (ha y (List.mem_of_getElem? hy)) hb).mp h;exact ⟨_,rfl,Q5 T hu3 (hY _ (if_pos h) _ (Ua.refl _))⟩
   ·have h:¬y.kind=b:=fun z=>h ((Xbb (ha y (List.mem_of_getElem? hy)) hb).mpr z);exact hN (if_neg h) _ (Ua.refl _)
  ·intro H2 s2 Uv;have e:∀l:List Xj,l.filterMap (fun a=>if a.kind=b then some (V.int a.Qy) else none)=((l.filter fun a=>a.kind==b).map (·.Qy)).map V.int:=by
    intro l;induction l with
    | nil=>rfl
    | cons a r ih=>
     rw [List.filterMap_cons,List.filter_cons,ih];by_cases h:a.kind=b
     ·rw [if_pos h,if_pos (by simp [h])];rfl
     ·rw [if_neg h,if_neg (by simpa using h)]
   rw [e] at Uv;exact ⟨D,_,rfl,xb.of Uv,k _ (s1.trans s2)⟩
def Kav(t:Yd):Sp:=fun vs H Q _=>∃(A:Ad) (M:Mw) (i:Nat),vs= [.ref (A.ad (.of i))]∧Holds t.c H A M∧i<M.k∧(M.jr i).length<sizeLine∧∀H',Ua H H'→Q (.int (Yp (M.jr i))) H'
theorem YL(T:Txt K mg t):wb P w K mg base ke 3 t.JF t.vF ["self"] (Kav t):=by
  refine T.Yaa.kf qM fun vs H Q E h=>?_;obtain ⟨A,M,i,rfl,hd,hi,hz,k⟩:=h;refine ⟨rfl,fun _ _ _ _ hr=>⟨_,(va (Ja (Vs qx (qf (pv 0) T.Zb T.VQ (ZQ T) hr.m T.XU .nil Ka) (jd (vT rfl) (by rfl) T.zaa PyProof.Rows.boot_sum (za (zY (tt:=jaj) (te:=(Z8 K (Km 1) "cash")) rfl qM.nd (Xn (qf (pv 0) T.Zb T.QI (xJ T) hr.m T.QN .nil Ka)) (Wh (own:= [("act",1)]) rfl) (fun _ _ _ _ _=>jg (i:=1) qM.nd rfl (Or.inl rfl)) (fun _ _ _ _ _=>ZN) (fun _ _ _ _ _=>(ya (pv 1) rfl))) Qa))))),?_⟩⟩;refine ⟨_,rfl,_,_,_,rfl,hd.of hi,rfl,A,M,i,rfl,hd,hi,hz,fun H0 s0=>?_⟩;have hd0:=hd.same s0;refine ⟨_,rfl,_,_,_,rfl,hd0.of hi,rfl,A,M,i,rfl,hd0,hi,hz,fun H1 D1 xs s1 hD1 hp=>⟨_,rfl,⟨_,xb.of hD1⟩,fun D hD=>Vp (xs:=xs.map V.ref) (Yv (M.jr i)) (fun a=>some (.int a.Qy)) hD (xb.of hD1) (by rw [List.length_map,Paired.length hp]) (Nat.lt_of_le_of_lt (KJ _) hz) ?_ ?_⟩⟩
  ·intro j x y H2 N Y hx hy s2 hN hY;obtain ⟨u,hu,dx,y',hu2⟩:=xW hp hy;rw [List.getElem?_map,hu] at hx;have hx:V.ref u=x:=Option.some.inj hx;subst hx;have hu3:=s2 _ _ hu2;exact yes ⟨_,rfl,Q5 T hu3 (hY _ rfl _ (Ua.refl _))⟩
  ·intro H2 s2 Uv;rw [filterMap_some] at Uv;exact ⟨D,(Yv (M.jr i)).map (fun a:Xj=>a.Qy),rfl,xb.of (by rw [Uv,List.map_map];rfl),_,_,rfl,rfl,k _ ((s0.trans s1).trans s2)⟩
def kah(t:Yd):Sp:=fun vs H Q _=>∃(A:Ad) (M:Mw) (i:Nat) (x dx:Addr) (a:Xj) (cut:Int),vs= [.ref (A.ad (.of i)), .ref x, .int cut]∧Holds t.c H A M∧i<M.k∧(M.jr i).length+1<sizeLine∧(M.ub i).length<sizeLine∧H x=some (.ins t.c.act dx (zt a (A.ad (yC i a))))∧Lv t.c A M (yC i a)∧∀H' A',Holds t.c H' A' (vd M i a cut)→uz t.c H A M H' A' (vd M i a cut)→Q .non H'
theorem xA(T:Txt K mg t):wb P w K mg base ke 3 t.Qt t.ku ["self","act","cut"] (kah t):=by
  refine T.ZV.kf Wag fun vs H Q E h=>?_;obtain ⟨A,M,i,x,dx,a,cut,rfl,hd,hi,hz,hz2,hx,hl,k⟩:=h;refine ⟨rfl,fun _ _ _ _ hr=>⟨_,(Za (zc (pv 0) Zv rfl) (Za (Jb (Kb Vf (pv 2) (xa (v:= .int (3)) rfl T.ZaN ⟨_,rfl⟩) (Zc _)) (va Zad) zb) (Za (Zd (Yc (pv 0) T.Zb T.U0 (j2 T) hr.m T.X8 .nil Ka (za (pv 1) Qa))) (Za (Jb (Kb Vf (pv 2) (xa (v:= .int (1)) rfl T.qad ⟨_,rfl⟩) (Zc _)) (va Zad) zb) (Za (k7 (pv 0) (ya (pv 1) rfl) jaA) (Za (Jb (Kb Vf (pv 2) (xa (v:= .int (2)) rfl T.zai ⟨_,rfl⟩) (Zc _)) (va Zad) zb) (Za (Zd (Yc (pv 0) T.Zb T.yG (JG T) hr.m T.jI .nil Ka (za (pv 1) Qa))) (va (zc (pv 0) Zv rfl))))))))),?_⟩⟩;obtain ⟨Kd,e1⟩:=hd.up' (ex:=fun _=>False) hi false;have x1:=(e1.keep x _ id hx (hd.U1 hx)).1;have l1:=(e1.ad _ hl).2.2;refine ⟨_,rfl,uf (hd.of hi) T.Zb T.Ys (nb rfl) ⟨_,rfl,rfl,_,rfl,yg (fun h=>?_) fun h=>?_⟩⟩
  ·have ek:vd M i a cut=qg M i false:=by unfold vd;rw [if_pos (V.int.inj h)]
   rw [ek] at k;exact k _ _ Kd e1
  ·have n3:cut≠3:=fun z=>h (by rw [z])
   refine ⟨_,rfl,_,_,_,rfl,Kd.of hi,rfl,_,rfl,A,_,i,x,dx,a,rfl,Kd,hi,Nat.lt_of_succ_lt hz,x1,l1,fun H2 A2 hd2 e2=>⟨_,rfl,rfl,_,rfl,yg (fun h=>?_) fun h=>?_⟩⟩
   ·have ek:vd M i a cut=Xf (qg M i false) i a:=by unfold vd;rw [if_neg n3,if_pos (V.int.inj h)]
    rw [ek] at k;exact k _ _ hd2 (e1.trans e2)
   ·have n1:cut≠1:=fun z=>h (by rw [z])
    have e12:=e1.trans e2;have uv:(Xf (qg M i false) i a).k=M.k:=(W6 _ _ _).k;have hi2:i<(Xf (qg M i false) i a).k:=by rw [uv];exact hi
    have qa:A2.ad (.of i)=A.ad (.of i):=(e12.ad _ (vaI hi)).1;have x2:=(e12.keep x _ id hx (hd.U1 hx)).1;obtain ⟨qs,_,l2⟩:=e12.ad _ hl;rw [←qs] at x2;obtain ⟨Jk,e3⟩:=hd2.Wbb (ex:=fun _=>False) hi2 a.Qy;have f2:=hd2.of hi2;rw [qa] at f2 Jk e3;refine ⟨_,rfl,_,_,_,_,_,rfl,f2,T.Zb,T.Us,YE,_,rfl,Q5 T x2 ⟨_,_,rfl,rfl,_,_,f2,nb rfl,⟨_,rfl,rfl,_,rfl,yg (fun h=>?_) fun h=>?_⟩⟩⟩
    ·have ek:vd M i a cut=qj (Xf (qg M i false) i a) i a.Qy:=by unfold vd;rw [if_neg n3,if_neg n1,if_pos (V.int.inj h)]
     rw [ek] at k;exact k _ _ Jk (e12.trans e3)
    ·have n2:cut≠2:=fun z=>h (by rw [z])
     have qbm:=e12.trans e3;have x3:=(qbm.keep x _ id hx (hd.U1 hx)).1;rw [←qs] at x3;have l3:=(e3.ad _ l2).2.2;have ej:(qj (Xf (qg M i false) i a) i a.Qy).jr i=M.jr i++ [.begun a]:=by
      show (Xf (qg M i false) i a).jr i=_;unfold Xf;exact Ub _ _ _
     have eo:(qj (Xf (qg M i false) i a) i a.Qy).ub i=M.ub i:=by
      show (Xf (qg M i false) i a).ub i=_;rfl
     have f3:=Jk.of hi2;rw [qa] at f3;refine ⟨_,rfl,_,_,_,rfl,f3,rfl,_,rfl,A2,_,i,x,dx,a,by rw [qa];rfl,Jk,hi2,by rw [ej,List.length_append];exact hz,by rw [eo];exact hz2,x3,l3,fun H4 A4 W2 e4=>?_⟩;have e14:=qbm.trans e4;have hk4:(Qm (qj (Xf (qg M i false) i a) i a.Qy) i a).k=M.k:=(yae _ _ _).k.trans uv;have hi4:i<(Qm (qj (Xf (qg M i false) i a) i a.Qy) i a).k:=by rw [hk4];exact hi
     have q4:A4.ad (.of i)=A.ad (.of i):=(e14.ad _ (vaI hi)).1;obtain ⟨j8,e5⟩:=W2.up' (ex:=fun _=>False) hi4 true;have f4:=W2.of hi4;rw [q4] at f4 j8 e5;refine ⟨_,rfl,uf f4 T.Zb T.Ys (nb rfl) ?_⟩;have ek:vd M i a cut=qg (Qm (qj (Xf (qg M i false) i a) i a.Qy) i a) i true:=by unfold vd;rw [if_neg n3,if_neg n1,if_neg n2]
     rw [ek] at k;exact k _ _ j8 (e14.trans e5)
end Mo
namespace Mo
open PySem PySem.Spec PyProof.Rows L2
variable{P:Program}{w:World}{K:PySem.W.Frag}{mg:Str→Option Value}{base:Heap}{t:Yd}
section
variable{c:Cs}{H H1 H' H2:Hp}{A A' A2:Ad}{M M' M2:Mw}{ex:Addr→Prop}
theorem yaC(h:Holds c H A M){i:Nat}{n:Int}(hi:i<M.k)(hn:n∈M.ub i):VT H (A.ad (.od i)) (.int n) (some (.ref (A.ad (.ord i n)))):=by
 have g:=VT.k (k:=Sum.inl n) (h.od hi);rw [vbd (fun n=>A.ad (.ord i n)) n (M.ub i),if_pos hn] at g;exact g
theorem QD:3≤sizeLine:=by rw [sizeLine_eq];decide
theorem ifE{l:List V}{A B:Prop}(h1:l= []→A)(h2:l≠ []→B):if (!(!l.isEmpty))=true then A else B:=by
 cases l with
 | nil=>exact waw (h1 rfl)
 | cons a r=>exact Xad (h2 (by simp))
theorem made{H H':Hp}{x dx C:Addr}{fs:List (Str×V)}(nx:H x=none)(nd:H dx=none)(k:∀b,b≠x→H' b=(upd (upd H dx (.own x)) x (.ins C dx [])) b):Ua H H':=fun b o e=>by
 rw [k b (Qb e nx),Va (Qb e nx),Va (Qb e nd)];exact e
end
def XY(t:Yd):Sp:=fun vs H Q _=>∃(A:Ad) (M:Mw) (i k':Nat) (n:Int) (o:Qe) (g:MG),vs= [.ref (A.ad (.of i)), .int n, .ref (A.ad (.gr i n k'))]∧Holds t.c H A M∧i<M.k∧(M.jr i).length<sizeLine∧n∈M.ub i∧M.ord i n=some o∧o.gs[k']? =some g∧∀H' A',Holds t.c H' A' (Qao M i n)→uz t.c H A M H' A' (Qao M i n)→Q .non H'
theorem WY(T:Txt K mg t):wb P w K mg base ke 2 t.Yk t.Vk ["self","n","grant"] (XY t):=by
  refine T.zD.kf ZC fun vs H Q E h=>?_;obtain ⟨A,M,i,k',n,o,g,rfl,hd,hi,hz,hn,ho,hg,k⟩:=h;refine ⟨rfl,fun _ _ _ _ hr=>⟨_,(Za (qb (i:=3) ZC.nd rfl (Or.inl rfl) (uan (YS hr) (ya (pv 0) rfl) (pv 1) (fun _ _=>rfl))) (Za (Zd (wy PySem.F.plainAttrs_list PySem.F.slot_list_append PySem.F.type_list_append vh (ya (pv 0) rfl) (za (jH (za (xa (v:= .str "closed") rfl T.Ya6 ⟨_,rfl⟩) (za (pv 1) (za (ya (pv 2) rfl) Qa)))) Qa))) (va (zc (pv 3) Zv rfl)))),?_⟩⟩;refine ⟨_,rfl,wc T (hd.of hi) ⟨_,rfl,_,_,rfl,yaC hd hi hn,⟨_,rfl,kb T (hd.of hi) ⟨.inl ⟨rfl,_,xb.of (hd.jl hi)⟩,_,rfl,_,rfl,qh T (hd.gr hi ho hg) ⟨QD,fun p hp=>qH (K:=K) hd hi hz hp ?_⟩⟩⟩⟩⟩;have s1:Ua H (upd H p (.tup [.str "closed", .int n, .int g.num])):=Ua.new hp;obtain ⟨hd2,e2⟩:=(hd.same s1).jc (ex:=fun _=>False) (t:=p) (r:= .other) hi ⟨_,_,Ya,by decide+kernel,by decide+kernel,by decide+kernel⟩ (fun a e=>by cases e);obtain ⟨Jk,e3⟩:=hd2.jbk (ex:=fun _=>False) (i:=i) (n:=n) (o:=o) hi ho (fun o=>{o with closed:=true}) rfl;exact ⟨_,rfl,uf (hd2.ord (o:=o) hi ho) T.ue T.YH (nb rfl) (k _ _ Jk (((Ext.of_same s1).trans e2).trans e3))⟩
def JN(t:Yd):Sp:=fun vs H Q _=>∃(A:Ad) (M:Mw) (i:Nat) (n:Int) (o:Qe) (ys:List MG) (g:MG),vs= [.ref (A.ad (.of i)), .int n, .ref (A.ad (.gr i n ys.length))]∧Holds t.c H A M∧i<M.k∧(M.jr i).length<sizeLine∧M.ord i n=some o∧o.gs=ys++ [g]∧∀H' A',Holds t.c H' A' (WaP M i n)→uz t.c H A M H' A' (WaP M i n)→Q .non H'
theorem wN(T:Txt K mg t):wb P w K mg base ke 2 t.uh t.Uh ["self","n","grant"] (JN t):=by
  refine T.uu.kf WN fun vs H Q E h=>?_;obtain ⟨A,M,i,n,o,ys,g,rfl,hd,hi,hz,ho,hg,k⟩:=h;refine ⟨rfl,fun _ _ _ _ hr=>⟨_,(Za (Zd (wy PySem.F.plainAttrs_list PySem.F.slot_list_append PySem.F.type_list_append vh (ya (pv 0) rfl) (za (jH (za (xa (v:= .str "given back") rfl T.UaF ⟨_,rfl⟩) (za (pv 1) (za (ya (pv 2) rfl) Qa)))) Qa))) (va (zc (pv 2) Zv rfl))),?_⟩⟩;have hg1:o.gs[ys.length]? =some g:=by rw [hg];simp
  refine ⟨_,rfl,kb T (hd.of hi) ⟨.inl ⟨rfl,_,xb.of (hd.jl hi)⟩,_,rfl,_,rfl,qh T (hd.gr hi ho hg1) ⟨QD,fun p hp=>qH (K:=K) hd hi hz hp ?_⟩⟩⟩;have s1:Ua H (upd H p (.tup [.str "given back", .int n, .int g.num])):=Ua.new hp;obtain ⟨hd2,e2⟩:=(hd.same s1).jc (ex:=fun _=>False) (t:=p) (r:= .other) hi ⟨_,_,Ya,by decide+kernel,by decide+kernel,by decide+kernel⟩ (fun a e=>by cases e);obtain ⟨Jk,e3⟩:=hd2.Zbo (ex:=fun _=>False) (i:=i) (n:=n) (o:=o) hi ho hg;exact ⟨_,rfl,uf (hd2.gr (o:=o) hi ho hg1) T.zy T.Qv (nb rfl) (k _ _ Jk (((Ext.of_same s1).trans e2).trans e3))⟩
def UW(t:Yd):Sp:=fun vs H Q _=>∃(A:Ad) (M:Mw) (i:Nat) (n h l:Int) (o:Qe),vs= [.ref (A.ad (.of i)), .int n, .int h, .int l]∧Holds t.c H A M∧i<M.k∧(M.jr i).length<sizeLine∧n∈M.ub i∧M.ord i n=some o∧o.gs.length<sizeLine∧∀H' A',Holds t.c H' A' (Xp M i n h l)→uz t.c H A M H' A' (Xp M i n h l)→Q .non H'
theorem JW(T:Txt K mg t):wb P w K mg base ke 3 t.wj t.Uj ["self","n","holder","till"] (UW t):=by
  refine T.zC.kf Qn fun vs H Q E h=>?_;obtain ⟨A,M,i,n,h,l,o,rfl,hd,hi,hz,hn,ho,hz2,k⟩:=h;refine ⟨rfl,fun _ _ _ _ hr=>⟨_,(Za (qb (i:=4) Qn.nd rfl (Or.inl rfl) (uan (YS hr) (ya (pv 0) rfl) (pv 1) (fun _ _=>rfl))) (Za (qb (i:=5) Qn.nd rfl (Or.inl rfl) (qr T.za3 (vag T) hr.m rfl T.qa8 T.uak .nil Ka (za (Vs qx (jd Jc (by rfl) T.Uu PySem.boot_len (za (ya (pv 4) rfl) Qa)) ua) (za (pv 2) (za (pv 3) Qa))))) (Za (Zd (wy PySem.F.plainAttrs_list PySem.F.slot_list_append PySem.F.type_list_append vh (ya (pv 0) rfl) (za (jH (za (xa (v:= .str "granted") rfl T.waZ ⟨_,rfl⟩) (za (pv 1) (za (ya (pv 5) rfl) (za (pv 2) (za (pv 3) Qa)))))) Qa))) (va (Zd (wy PySem.F.plainAttrs_list PySem.F.slot_list_append PySem.F.type_list_append vh (ya (pv 4) rfl) (za (pv 5) Qa))))))),?_⟩⟩;have el:((List.range o.gs.length).map fun k=>V.ref (A.ad (.gr i n k))).length=o.gs.length:=by simp
  refine ⟨_,rfl,wc T (hd.of hi) ⟨_,rfl,_,_,rfl,yaC hd hi hn,⟨_,rfl,ki T (hd.ord hi ho) ⟨_,_,rfl, .inl (xb.of (hd.gl hi ho)),_,_,rfl,rfl,_,rfl,_,rfl,fun x dx nx nd nxd=>⟨x,dx,_,_,_,rfl,Ya,fun H1 hx hk=>⟨rfl,?_⟩⟩⟩⟩⟩⟩;rw [el] at hx;have s1:Ua H H1:=made (C:=t.c.yc) (fs:= []) nx nd hk;have Kd:=hd.same s1;have vbt:¬Own t.c A M x:=hd.own nx;refine ⟨_,rfl,kb T (Kd.of hi) ⟨.inl ⟨rfl,_,xb.of (Kd.jl hi)⟩,_,rfl,_,rfl,qh T hx ⟨_,rfl,_,rfl,ZaE,fun p hp=>qH (K:=K) Kd hi hz hp ?_⟩⟩⟩;have s2:Ua H1 (upd H1 p (.tup [.str "granted", .int n, .int ((o.gs.length:Int)+1), .int h, .int l])):=Ua.new hp;obtain ⟨hd2,e2⟩:=(Kd.same s2).jc (ex:=fun _=>False) (t:=p) (r:= .other) hi ⟨_,_,Ya,by decide+kernel,by decide+kernel,by decide+kernel⟩ (fun a e=>by cases e);obtain ⟨x2,wbd⟩:=e2.keep x _ id (s2 _ _ hx) vbt;obtain ⟨Jk,e3⟩:=hd2.Ubf (ex:=fun b=>b=x) (i:=i) (n:=n) (o:=o) hi ho x2 wbd rfl;have em:Ze (jc M i .other) i n (fun o'=>{o' with gs:=o'.gs++ [⟨(o.gs.length:Int)+1,h,l,false⟩]})=Xp M i n h l:=by
   unfold Xp Ze
   congr 1
   funext j m
   show (if j=i∧m=n then ((jc M i .other).ord i n).map _ else _)=(if j=i∧m=n then ((jc M i .other).ord i n).map _ else _);rw [show (jc M i .other).ord i n=some o from ho];rfl
  rw [em] at Jk e3;have e13:uz t.c H A M _ _ (Xp M i n h l):=Ext.drop s1 nx (((Ext.of_same s2).trans ⟨e2.ad,fun b o _=>e2.keep b o id⟩).trans e3);exact ⟨_,rfl,ki T (hd2.ord (o:=o) hi ho) ⟨.inl ⟨rfl,_,xb.of (hd2.gl (o:=o) hi ho)⟩,_,rfl,_,_,_,rfl,rfl,hd2.gl (o:=o) hi ho,by rw [List.length_map,List.length_range];exact hz2,k _ _ Jk e13⟩⟩
def vah(t:Yd):Sp:=fun vs H Q _=>∃(A:Ad) (M:Mw) (i:Nat),vs= [.ref (A.ad (.of i))]∧Holds t.c H A M∧i<M.k∧(M.jr i).length+1<sizeLine∧(M.ub i).length<sizeLine∧∀(v:V) H' A',Holds t.c H' A' (yd M i).1→uz t.c H A M H' A' (yd M i).1→((v= .non∧(yd M i).2=0)∨(v= .str "done"∧(yd M i).2=3)∨(v= .str "not done"∧(yd M i).2=4))→Q v H'
theorem yag(T:Txt K mg t):wb P w K mg base ke 4 t.Zt t.qu ["self"] (vah t):=by
  refine T.YV.kf kP fun vs H Q E h=>?_;obtain ⟨A,M,i,rfl,hd,hi,hz,hz2,k⟩:=h;refine ⟨rfl,fun _ _ _ _ hr=>⟨_,(Za (zc (pv 0) Zv rfl) (Za (Jb (PW.pt (jJ (Waf (XaN (ya (pv 0) rfl) (fun _=>rfl))) (qU (Kb uaF (Vb Q9 (Vb Xa (ya (pv 0) rfl) (WX xH ua) (fun _ _=>rfl)) ua (fun _ _=>rfl)) (xa (v:= .str "begun") rfl T.ZaU ⟨_,rfl⟩) (Zc _))))) (va (Ja XM)) zb) (Za (qb (i:=1) kP.nd rfl (Or.inl rfl) (Vb Q9 (Vb Xa (ya (pv 0) rfl) (WX xH ua) (fun _ _=>rfl)) ua (fun _ _=>rfl))) (Za (Jb (Kb Vf (ya (pv 0) rfl) (qf (pv 0) T.Zb T.VL (YL T) hr.m T.KR .nil Ka) (Zc _)) (Za (Zd (Yc (pv 0) T.Zb T.VU (KU T) hr.m T.jW .nil Ka (za (pv 1) Qa))) (va (Ja (xa (v:= .str "not done") rfl T.was ⟨_,rfl⟩)))) zb) (Za (Zd (Yc (pv 0) T.Zb T.yG (JG T) hr.m T.jI .nil Ka (za (pv 1) Qa))) (va (Ja (xa (v:= .str "done") rfl T.QaC ⟨_,rfl⟩)))))))),?_⟩⟩;obtain ⟨Kd,e1⟩:=hd.up' (ex:=fun _=>False) hi true;have hp:=Kd.jr i hi;have hp:Paired (kai t.c _) (M.jr i) (A.jt i):=hp;refine ⟨_,rfl,uf (hd.of hi) T.Zb T.Ys (nb rfl) ⟨_,rfl,kb T (Kd.of hi) ⟨_,_,rfl,xb.of (Kd.jl hi),?_⟩⟩⟩;refine ifE (fun e0=>waw ?_) fun e0=>?_
  ·have e:M.jr i= []:=by
    have h1:=Z0 hd hi;rw [e0] at h1;exact List.length_eq_zero_iff.mp h1.symm
   have ek:yd M i=(qg M i true,0):=by unfold yd;rw [e];rfl
   rw [ek] at k;exact k .non _ _ Kd e1 (.inl ⟨rfl,rfl⟩)
  ·obtain ⟨js,r,e⟩:∃js r,M.jr i=js++ [r]:=by
    rcases List.eq_nil_or_concat (M.jr i) with e | ⟨js,r,e⟩
    ·exfalso;have h1:=Z0 hd hi;rw [e] at h1;exact e0 (List.length_eq_zero_iff.mp h1)
    ·exact ⟨js,r,by rw [e,List.concat_eq_append]⟩
   rw [e] at hp;obtain ⟨ts,u,et,hr⟩:=ZaM hp;have jl1:=Kd.jl hi;rw [et,List.map_append] at jl1;have jl1:upd H (A.ad (.of i)) (.ins t.c.office (A.dd (.of i)) (uc "up" (.bl true) (Wi A M i))) (A.ad (.jl i))=some (HO.lst (ts.map V.ref++ [V.ref u])):=jl1;have fin:(∀a,r≠ .begun a)→yd M i=(qg M i true,0):=fun h=>by
    unfold yd;rw [e,List.getLast?_concat];cases r with
    | begun a=>exact absurd rfl (h a)
    | bank n=>rfl
    | done a=>rfl
    | other=>rfl
   refine ⟨_,rfl,kb T (Kd.of hi) ⟨_,rfl,_,_,_,_,rfl,rfl,xb.of jl1,X0 _ _,?_⟩⟩;cases r with
   | bank n=>
    have hr:_=some (HO.tup [V.str "bank", .int n]):=hr;have ek:=fin fun a z=>by cases z
    rw [ek] at k;exact ⟨_,_,_,_,rfl,rfl,vQ.of hr,rfl,rfl,_,rfl,ifn (fun _=>k .non _ _ Kd e1 (.inl ⟨rfl,rfl⟩)) fun z=>absurd z (KN (by decide+kernel))⟩
   | done a=>
    obtain ⟨x,dx,y,h1,h2⟩:=hr;have ek:=fin fun a z=>by cases z
    rw [ek] at k;exact ⟨_,_,_,_,rfl,rfl,vQ.of h1,rfl,rfl,_,rfl,ifn (fun _=>k .non _ _ Kd e1 (.inl ⟨rfl,rfl⟩)) fun z=>absurd z (KN (by decide+kernel))⟩
   | other=>
    obtain ⟨x,xs,h1,h2,h3,h4⟩:=hr;have ek:=fin fun a z=>by cases z
    rw [ek] at k;exact ⟨_,_,_,_,rfl,rfl,vQ.of h1,jan (j:=0) rfl,rfl,_,rfl,ifn (fun _=>k .non _ _ Kd e1 (.inl ⟨rfl,rfl⟩)) fun z=>absurd z (KN h3)⟩
   | begun a=>
    obtain ⟨u',x,dx,h1,h2,h3,h4⟩:=Kd.pend i a hi (by show (M.jr i).getLast? =_;rw [e,List.getLast?_concat]);rw [et,List.getLast?_concat] at h1;cases h1;refine ⟨_,_,_,_,rfl,rfl,vQ.of h2,rfl,rfl,_,rfl,ifn (fun z=>absurd rfl z) fun _=>?_⟩;refine ⟨_,rfl,kb T (Kd.of hi) ⟨_,rfl,_,_,_,_,rfl,rfl,xb.of jl1,X0 _ _,_,_,_,_,rfl,rfl,vQ.of h2,rfl,?_⟩⟩;refine ⟨_,rfl,Xh T (Kd.of hi) ⟨_,rfl,_,_,_,rfl,Kd.of hi,rfl,A,_,i,rfl,Kd,hi,Nat.lt_of_succ_lt hz,fun H2 s2=>⟨rfl,_,rfl,yg (fun h=>?_) fun h=>?_⟩⟩⟩
    ·have h:M.drawer i=Yp (M.jr i):=V.int.inj h;have hd2:=Kd.same s2;have ek:yd M i=(Ja6 (qg M i true) i,4):=by
      unfold yd;rw [show (M.jr i).getLast? =some (.begun a) by rw [e,List.getLast?_concat]];show (if M.drawer i=Yp (M.jr i) then _ else _)=_;rw [if_pos h]
     rw [ek] at k;exact ⟨_,rfl,_,_,_,rfl,hd2.of hi,rfl,_,rfl,A,_,i,x,rfl,hd2,hi,Nat.lt_of_succ_lt hz,fun H3 A3 Jk e3=>k _ _ _ Jk ((e1.trans (Ext.of_same s2)).trans e3) (.inr (.inr ⟨rfl,rfl⟩))⟩
    ·have h:¬M.drawer i=Yp (M.jr i):=fun z=>h (by show V.int (M.drawer i)=V.int (Yp (M.jr i));rw [z])
     have hd2:=Kd.same s2;have ek:yd M i=(Qm (qg M i true) i a,3):=by
      unfold yd;rw [show (M.jr i).getLast? =some (.begun a) by rw [e,List.getLast?_concat]];show (if M.drawer i=Yp (M.jr i) then _ else _)=_;rw [if_neg h]
     rw [ek] at k;exact ⟨_,rfl,_,_,_,rfl,hd2.of hi,rfl,_,rfl,A,_,i,x,dx,a,rfl,hd2,hi,Nat.lt_of_succ_lt hz,hz2,s2 _ _ h3,h4,fun H3 A3 Jk e3=>k _ _ _ Jk ((e1.trans (Ext.of_same s2)).trans e3) (.inr (.inl ⟨rfl,rfl⟩))⟩
end Mo
namespace Mo
open PySem PySem.Spec PyProof.Rows L2
variable{P:Program}{w:World}{K:PySem.W.Frag}{mg:Str→Option Value}{base:Heap}{t:Yd}
section
variable{c:Cs}{H H1 H' H2:Hp}{A A' A2:Ad}{M M' M2:Mw}{ex:Addr→Prop}
theorem Ua1(h:Holds c H A M){i:Nat}(hi:i<M.k):IsD H (A.ad (.cd i)):= .inr ⟨_, .inl (h.cd hi)⟩
theorem yap(h:Holds c H A M){i:Nat}(hi:i<M.k):IsD H (A.ad (.od i)):= .inl ⟨_, .inl (h.od hi)⟩
theorem kbh(h:Holds c H A M){i:Nat}{b:Addr}{n g:Int}(hi:i<M.k)(hb:H b=some (.tup [.int n, .int g])):VT H (A.ad (.cd i)) (.ref b) (if (n,g)∈M.Kc i then some (.ref (A.ad (.cl i n g))) else none):=by
 have g':=VT.t (k:= [Sum.inl n,Sum.inl g]) (h.cd hi) hb;rw [ybd (fun n g=>A.ad (.cl i n g)) n g (M.Kc i)] at g';exact g'
theorem Uad(h:Holds c H A M){i:Nat}{n:Int}(hi:i<M.k):VT H (A.ad (.od i)) (.int n) (if n∈M.ub i then some (.ref (A.ad (.ord i n))) else none):=by
 have g:=VT.k (k:=Sum.inl n) (h.od hi);rw [vbd (fun n=>A.ad (.ord i n)) n (M.ub i)] at g;exact g
theorem yK(h:Holds c H A M){i:Nat}{n g:Int}(hi:i<M.k)(hng:(n,g)∈M.Kc i):∃x,M.cl i n g=some x∧Yf M i n g=x:=by
 obtain ⟨x,hx⟩:=Option.isSome_iff_exists.mp ((h.wd i hi).2.1 (n,g) hng);refine ⟨x,hx,?_⟩;unfold Yf VaF;rw [if_pos hng,hx];rfl
theorem jbg{i:Nat}{n g:Int}(hng:(n,g)∉M.Kc i):Yf M i n g=cl0:=by
 unfold Yf VaF;rw [if_neg hng];rfl
theorem VaX{i:Nat}{n g:Int}(hng:(n,g)∈M.Kc i):yb M i n g=M:=by
 unfold yb;rw [if_pos hng]
end
def Qad(t:Yd):Sp:=fun vs H Q _=>∃(A:Ad) (M:Mw) (i:Nat) (n g:Int),vs= [.ref (A.ad (.of i)), .int n, .int g]∧Holds t.c H A M∧i<M.k∧∀(H':Hp) (x dx:Addr),Ua H H'→H' x=some (.ins t.c.claim dx (zv n g (Yf M i n g)))→Q (.ref x) H'
theorem Yo(T:Txt K mg t):wb P w K mg base ke 3 t.jq t.Vq ["self","n","g"] (Qad t):=by
  refine T.kQ.kf Kac fun vs H Q E h=>?_;obtain ⟨A,M,i,n,g,rfl,hd,hi,k⟩:=h;refine ⟨rfl,fun _ _ _ _ hr=>⟨_,(va (Ja (ja5 (YS hr) (ya (pv 0) rfl) (jH (za (pv 1) (za (pv 2) Qa))) (qr T.uaK (JQ T) hr.m rfl T.vaV T.YW .nil Ka (za (pv 1) (za (pv 2) Qa))) ⟨rfl,rfl,rfl,rfl⟩))),?_⟩⟩;refine ⟨_,rfl,Kt T (hd.of hi) ⟨_,rfl,Ua1 hd hi,_,rfl,_,rfl,ZI,fun p hp=>⟨_,rfl,_,rfl,fun x dx nx nd nxd=>⟨x,dx,n,g,rfl,Ya,fun H2 hx hk=>⟨rfl,?_⟩⟩⟩⟩⟩;have s1:Ua H (upd H p (.tup [.int n, .int g])):=Ua.new hp;have s2:Ua (upd H p (.tup [.int n, .int g])) H2:=made (C:=t.c.claim) (fs:= []) nx nd hk;have s12:=s1.trans s2;have hd2:=hd.same s12;refine ⟨_,kbh hd2 hi (s2 _ _ Ya),?_⟩;by_cases h:(n,g)∈M.Kc i
  ·rw [if_pos h];obtain ⟨y,hy,e⟩:=yK hd hi h;exact k H2 _ _ s12 (by rw [e];exact hd2.cl hi hy)
  ·rw [if_neg h];exact k H2 x dx s12 (by rw [jbg h];exact hx)
def WT(t:Yd):Sp:=fun vs H Q _=>∃(A:Ad) (M:Mw) (i:Nat) (n g:Int),vs= [.ref (A.ad (.of i)), .int n, .int g]∧Holds t.c H A M∧i<M.k∧(M.Kc i).length<sizeLine∧∀H' A',Holds t.c H' A' (yb M i n g)→uz t.c H A M H' A' (yb M i n g)→Q (.ref (A'.ad (.cl i n g))) H'
theorem Xw(T:Txt K mg t):wb P w K mg base ke 3 t.Ki t.ui ["self","n","g"] (WT t):=by
  refine T.Vy.kf xS fun vs H Q E h=>?_;obtain ⟨A,M,i,n,g,rfl,hd,hi,hz,k⟩:=h;refine ⟨rfl,fun _ _ _ _ hr=>⟨_,(va (Ja (xa5 (YS hr) (ya (pv 0) rfl) (jH (za (pv 1) (za (pv 2) Qa))) (qr T.uaK (JQ T) hr.m rfl T.vaV T.YW .nil Ka (za (pv 1) (za (pv 2) Qa))) ⟨rfl,rfl,rfl,rfl⟩))),?_⟩⟩;refine ⟨_,rfl,Kt T (hd.of hi) ⟨_,rfl,Ua1 hd hi,_,rfl,_,rfl,ZI,fun p hp=>⟨_,rfl,_,rfl,fun x dx nx nd nxd=>⟨x,dx,n,g,rfl,Ya,fun H2 hx hk=>⟨rfl,?_⟩⟩⟩⟩⟩;have s1:Ua H (upd H p (.tup [.int n, .int g])):=Ua.new hp;have s2:Ua (upd H p (.tup [.int n, .int g])) H2:=made (C:=t.c.claim) (fs:= []) nx nd hk;have s12:=s1.trans s2;have hd2:=hd.same s12;have hxH:H x=none:=s1.free nx;have ev:=ybd (fun n g=>A.ad (.cl i n g)) n g (M.Kc i);refine ⟨_, [Sum.inl n,Sum.inl g],p,hd2.cd hi,rfl,s2 _ _ Ya,by rw [List.length_map];exact hz,fun v hv=>?_,fun hv=>?_⟩
  ·by_cases h:(n,g)∈M.Kc i
   ·rw [ev,if_pos h] at hv;cases hv;rw [VaX h] at k;exact k H2 A hd2 (Ext.of_same s12)
   ·rw [ev,if_neg h] at hv;cases hv
  ·by_cases h:(n,g)∈M.Kc i
   ·rw [ev,if_pos h] at hv;cases hv
   ·obtain ⟨Jk,e3⟩:=hd2.ybg (ex:=fun b=>b=x) hi h ((hd.wd i hi).2.2 n g h) hx (hd.own hxH) rfl;rw [Wa2 (V.ref x) hv];have:=k _ _ Jk (Ext.drop s12 hxH e3);rw [show (JT A (.cl i n g) x dx).ad (.cl i n g)=x from Vm _ _ _] at this;exact this
def Z2(t:Yd):Sp:=fun vs H Q _=>∃(A:Ad) (M:Mw) (i:Nat) (n g c' l:Int),vs= [.ref (A.ad (.of i)), .int n, .int g, .int c', .int l]∧Holds t.c H A M∧i<M.k∧(M.jr i).length<sizeLine∧(M.Kc i).length<sizeLine∧∀H' A',Holds t.c H' A' (Yap M i n g c' l)→uz t.c H A M H' A' (Yap M i n g c' l)→Q .non H'
theorem K1(T:Txt K mg t):wb P w K mg base ke 4 t.Xl t.xl ["self","n","g","coins","till"] (Z2 t):=by
  refine T.KG.kf wC fun vs H Q E h=>?_;obtain ⟨A,M,i,n,g,c',l,rfl,hd,hi,hz,hz2,k⟩:=h;refine ⟨rfl,fun _ _ _ _ hr=>⟨_,(Za (Zd (wy PySem.F.plainAttrs_list PySem.F.slot_list_append PySem.F.type_list_append vh (ya (pv 0) rfl) (za (jH (za (xa (v:= .str "known") rfl T.za8 ⟨_,rfl⟩) (za (pv 1) (za (pv 2) (za (pv 3) (za (pv 4) Qa)))))) Qa))) (Za (qb (i:=5) wC.nd rfl (Or.inl rfl) (Yc (pv 0) T.Zb T.vx (Xw T) hr.m T.vy .nil Ka (za (pv 1) (za (pv 2) Qa)))) (Za (zc (pv 5) (pv 3) rfl) (Za (zc (pv 5) (pv 4) rfl) (va (zc (pv 5) Zv rfl)))))),?_⟩⟩;refine ⟨_,rfl,kb T (hd.of hi) ⟨.inl ⟨rfl,_,xb.of (hd.jl hi)⟩,_,rfl,_,rfl,_,rfl,_,rfl,ZaE,fun p hp=>qH (K:=K) hd hi hz hp ?_⟩⟩;have s1:Ua H (upd H p (.tup [.str "known", .int n, .int g, .int c', .int l])):=Ua.new hp;obtain ⟨hd2,e2⟩:=(hd.same s1).jc (ex:=fun _=>False) (t:=p) (r:= .other) hi ⟨_,_,Ya,by decide+kernel,by decide+kernel,by decide+kernel⟩ (fun a e=>by cases e);refine ⟨_,rfl,_,_,_,rfl,hd2.of hi,rfl,_,rfl,_,rfl,ZaJ A i p,jc M i .other,i,n,g,rfl,hd2,hi,hz2,fun H3 A3 Jk e3=>?_⟩;have hk3:(yb (jc M i .other) i n g).k=M.k:=(vm _ _ _ _).k;have hi3:i<(yb (jc M i .other) i n g).k:=by rw [hk3];exact hi
  have hin:(n,g)∈(yb (jc M i .other) i n g).Kc i:=by
   unfold yb;by_cases h:(n,g)∈(jc M i .other).Kc i
   ·rw [if_pos h];exact h
   ·rw [if_neg h];show _∈ye _ _ _ _;rw [Ub];exact List.mem_append_right _ (List.mem_singleton.mpr rfl)
  obtain ⟨y,hy,_⟩:=yK Jk hi3 hin;obtain ⟨W2,e4⟩:=Jk.clF (ex:=fun _=>False) hi3 hy (fun c=>{c with vb:=c',uk:=l,known:=true});have f3:=Jk.cl hi3 hy;have fin:=k _ _ W2 ((((Ext.of_same s1).trans e2).trans e3).trans e4);refine ⟨_,rfl,_,rfl,uf f3 T.Jf T.yM (nb rfl) ⟨_,rfl,_,rfl,uf Ya T.Jf T.VR (nb rfl) ⟨_,rfl,uf Ya T.Jf T.UM (nb rfl) ?_⟩⟩⟩;have eu:∀(H:Hp) (b:Addr) (o1 o2 o3:HO),upd (upd (upd H b o1) b o2) b o3=upd H b o3:=fun H b o1 o2 o3=>by
   funext d
   unfold upd;by_cases z:d=b
   ·simp [z]
   ·simp [z]
  rw [eu];exact fin
def yU(t:Yd):Sp:=fun vs H Q _=>∃(A:Ad) (M:Mw) (i:Nat) (n g:Int),vs= [.ref (A.ad (.of i)), .int n, .int g]∧Holds t.c H A M∧i<M.k∧(M.jr i).length<sizeLine∧(M.Kc i).length<sizeLine∧∀H' A',Holds t.c H' A' (xn M i n g)→uz t.c H A M H' A' (xn M i n g)→Q .non H'
theorem vw(T:Txt K mg t):wb P w K mg base ke 4 t.xi t.Xi ["self","n","g"] (yU t):=by
  refine T.jy.kf yw fun vs H Q E h=>?_;obtain ⟨A,M,i,n,g,rfl,hd,hi,hz,hz2,k⟩:=h;refine ⟨rfl,fun _ _ _ _ hr=>⟨_,(Za (Zd (wy PySem.F.plainAttrs_list PySem.F.slot_list_append PySem.F.type_list_append vh (ya (pv 0) rfl) (za (jH (za (xa (v:= .str "given up") rfl T.KaT ⟨_,rfl⟩) (za (pv 1) (za (pv 2) Qa)))) Qa))) (Za (qb (i:=3) yw.nd rfl (Or.inl rfl) (Yc (pv 0) T.Zb T.vx (Xw T) hr.m T.vy .nil Ka (za (pv 1) (za (pv 2) Qa)))) (va (zc (pv 3) Zv rfl)))),?_⟩⟩;refine ⟨_,rfl,kb T (hd.of hi) ⟨.inl ⟨rfl,_,xb.of (hd.jl hi)⟩,_,rfl,_,rfl,QD,fun p hp=>qH (K:=K) hd hi hz hp ?_⟩⟩;have s1:Ua H (upd H p (.tup [.str "given up", .int n, .int g])):=Ua.new hp;obtain ⟨hd2,e2⟩:=(hd.same s1).jc (ex:=fun _=>False) (t:=p) (r:= .other) hi ⟨_,_,Ya,by decide+kernel,by decide+kernel,by decide+kernel⟩ (fun a e=>by cases e);refine ⟨_,rfl,_,_,_,rfl,hd2.of hi,rfl,_,rfl,_,rfl,ZaJ A i p,jc M i .other,i,n,g,rfl,hd2,hi,hz2,fun H3 A3 Jk e3=>?_⟩;have hk3:(yb (jc M i .other) i n g).k=M.k:=(vm _ _ _ _).k;have hi3:i<(yb (jc M i .other) i n g).k:=by rw [hk3];exact hi
  have hin:(n,g)∈(yb (jc M i .other) i n g).Kc i:=by
   unfold yb;by_cases h:(n,g)∈(jc M i .other).Kc i
   ·rw [if_pos h];exact h
   ·rw [if_neg h];show _∈ye _ _ _ _;rw [Ub];exact List.mem_append_right _ (List.mem_singleton.mpr rfl)
  obtain ⟨y,hy,_⟩:=yK Jk hi3 hin;obtain ⟨W2,e4⟩:=Jk.clF (ex:=fun _=>False) hi3 hy (fun c=>{c with YX:=true});exact ⟨_,rfl,uf (Jk.cl hi3 hy) T.Jf T.wA (nb rfl) (k _ _ W2 ((((Ext.of_same s1).trans e2).trans e3).trans e4))⟩
end Mo
namespace Mo
open PySem PySem.Spec PyProof.Rows L2
variable{P:Program}{w:World}{K:PySem.W.Frag}{mg:Str→Option Value}{base:Heap}{t:Yd}
section
variable{c:Cs}{H H1 H' H2:Hp}{A A' A2:Ad}{M M' M2:Mw}{ex:Addr→Prop}
def vS(c:Cs)(H:Hp)(A:Ad)(M:Mw)(x:Addr)(m:Je):Prop:=∃dx,H x=some (.ins c.message dx (Uk m))∧(¬Own c A M x∨∃j,x=A.ad (.ms j)∧M.ms[j]? =some m)
theorem vS.same{x:Addr}{m:Je}(h:vS c H A M x m)(s:Ua H H'):vS c H' A M x m:=by
 obtain ⟨dx,h1,h2⟩:=h;exact ⟨dx,s _ _ h1,h2⟩
theorem vS.ext{x:Addr}{m:Je}(h:vS c H A M x m)(e:uz c H A M H' A' M')(hd:Holds c H' A' M')(hm:M'.ms=M.ms):vS c H' A' M' x m:=by
 obtain ⟨dx,h1,h2⟩:=h;rcases h2 with h2 | ⟨j,rfl,hj⟩
 ·obtain ⟨k1,k2⟩:=e.keep x _ id h1 h2;exact ⟨dx,k1, .inl k2⟩
 ·have hj':M'.ms[j]? =some m:=by rw [hm];exact hj
  have q:=(e.ad (.ms j) (xbm hj)).1;have f:=hd.ms hj';rw [q] at f;exact ⟨_,f, .inr ⟨j,q.symm,hj'⟩⟩
structure Yax(c:Cs)(H:Hp)(A:Ad)(M:Mw)(r:Mw×Option Je)(Q:VK):Prop where
 no:∀H' A',Holds c H' A' r.1→uz c H A M H' A' r.1→r.2=none→Q .non H'
 yes:∀H' A' y dy a,Holds c H' A' r.1→uz c H A M H' A' r.1→r.2=some a→H' y=some (.ins c.message dy (Uk a))→¬Own c A' r.1 y→H y=none→Q (.ref y) H'
theorem Ur(h:Holds c H A M){i:Nat}{n:Int}(hi:i<M.k)(hn:n∈M.ub i):∃o,M.ord i n=some o∧Wy M i n=some o:=by
 obtain ⟨x,hx⟩:=Option.isSome_iff_exists.mp ((h.wd i hi).1 n hn);refine ⟨x,hx,?_⟩;unfold Wy;rw [if_pos hn,hx]
theorem WU{i:Nat}{n:Int}(hn:n∉M.ub i):Wy M i n=none:=by
 unfold Wy;rw [if_neg hn]
theorem Yr{o:Qe}{g:MG}(h:Xc o=some g):∃ys,o.gs=ys++ [g]∧g.back=false:=by
 unfold Xc at h;cases e:o.gs.getLast? with
 | none=>rw [e] at h;cases h
 | some g'=>
  rw [e] at h;obtain ⟨ys,hy⟩:=List.getLast?_eq_some_iff.mp e;cases hb:g'.back with
  | true=>simp [hb] at h
  | false=>
   simp [hb] at h;subst h;exact ⟨ys,hy,hb⟩
theorem jx{i:Nat}{n:Int}{o:Qe}(h:Xc o=none):zU A i n o= .non:=by unfold zU;rw [h]
theorem yj{i:Nat}{n:Int}{o:Qe}{g:MG}{ys:List MG}(h:Xc o=some g)(hg:o.gs=ys++ [g]):zU A i n o= .ref (A.ad (.gr i n ys.length)):=by
 unfold zU;rw [h,hg];simp
end
def xaq(t:Yd):Sp:=fun vs H Q _=>∃(x dx:Addr) (m:Je) (k':Int),vs= [.ref x, .int k']∧H x=some (.ins t.c.message dx (Uk m))∧∀(H':Hp) (y dy:Addr),Ua H H'→H y=none→H' y=some (.ins t.c.message dy (Uk (wg m k')))→Q (.ref y) H'
theorem Wk(T:Txt K mg t):wb P w K mg base ke 3 t.Kz t.qA ["message","kind"] (xaq t):=by
  refine T.Yi.kf jaq fun vs H Q E h=>?_;obtain ⟨x,dx,m,k',rfl,hx,k⟩:=h;refine ⟨rfl,fun _ _ _ _ hr=>⟨_,(va (Ja (qr T.uC (Zh T) hr.m rfl T.qI T.zi .nil Ka (za (pv 1) (za (ya (pv 0) rfl) (za (ya (pv 0) rfl) (za (ya (pv 0) rfl) (za (ya (pv 0) rfl) (za ua (za ua Qa)))))))))),?_⟩⟩;refine ⟨_,rfl,_,rfl,Vc T hx ⟨_,rfl,kg T hx ⟨_,rfl,Xb T hx ⟨_,rfl,Zg T hx fun y dy ny nd nyd=>⟨y,dy,_,_,_,_,_,_,_,rfl,Ya,fun H1 hy hk=>⟨rfl,?_⟩⟩⟩⟩⟩⟩;exact k H1 y dy (made (C:=t.c.message) (fs:= []) ny nd hk) ny hy
def wak(t:Yd):Sp:=fun vs H Q _=>∃(A:Ad) (M:Mw) (i:Nat) (x dx:Addr) (m:Je),vs= [.ref (A.ad (.of i)), .ref x]∧Holds t.c H A M∧i<M.k∧H x=some (.ins t.c.message dx (Uk m))∧i=m.receiver.toNat∧
  (V9 M m=false→Q .non H)∧(∀o g ys,V9 M m=true→m.order∈M.ub i→M.ord i m.order=some o→o.gs=ys++ [g]→Q (.ref (A.ad (.gr i m.order ys.length))) H)
theorem zW(T:Txt K mg t):wb P w K mg base ke 2 t.zx t.Vx ["office","message"] (wak t):=by
  refine T.Jw.kf uD fun vs H Q E h=>?_;obtain ⟨A,M,i,x,dx,m,rfl,hd,hi,hx,hr',k1,k⟩:=h;refine ⟨rfl,fun _ _ _ _ hr=>⟨_,(Za (qb (i:=2) uD.nd rfl (Or.inl rfl) (U2 (YS hr) (ya (pv 0) rfl) (ya (pv 1) rfl) ⟨rfl,rfl,rfl,rfl⟩)) (Za (Jb (PW.pt (jJ (yn (Qz (pv 2))) (qU (Qh (ya (pv 2) rfl))))) (va (Ja XM)) zb) (Za (qb (i:=3) uD.nd rfl (Or.inl rfl) (qf (pv 2) T.ue T.We (we T) hr.m T.Kf .nil Ka)) (Za (Jb (PW.pt (jJ (yn (Qz (pv 3))) (jJ (Kb uaF (ya (pv 3) rfl) (ya (pv 1) rfl) (Zc _)) (qU (Kb uaF (ya (pv 3) rfl) (ya (pv 1) rfl) (Zc _)))))) (va (Ja XM)) zb) (va (Ja (pv 3))))))),?_⟩⟩;have et:V9 M m=match Wy M i m.order with
   | none=>false
   | some o=>if o.closed=true then false else match Xc o with
    | none=>false
    | some g=>decide (g.num=m.yc∧g.jf=m.Yg):=by unfold V9;rw [←hr']<;>rfl
  refine ⟨_,rfl,wc T (hd.of hi) ⟨_,rfl,yap hd hi,_,rfl,Vc T hx ⟨_,Uad hd hi,?_⟩⟩⟩;by_cases hn:m.order∈M.ub i
  ·obtain ⟨o,ho,hgo⟩:=Ur hd hi hn;rw [hgo] at et;have et:V9 M m=if o.closed=true then false else match Xc o with
    | none=>false
    | some g=>decide (g.num=m.yc∧g.jf=m.Yg):=et
   rw [if_pos hn];have f1:=hd.ord hi ho;refine ⟨_,rfl,_,rfl,yg (fun h=>by cases h) fun _=>⟨_,rfl,Ql T f1 ⟨_,rfl,ifb (fun hc=>?_) fun hc=>?_⟩⟩⟩
   ·exact k1 (by rw [et];simp [hc])
   ·refine ⟨_,rfl,_,_,_,rfl,f1,rfl,A,M,i,m.order,o,rfl,hd,hi,ho,?_⟩;cases hs:Xc o with
    | none=>
     rw [jx hs];rw [hs] at et;exact ⟨_,rfl,_,rfl,yg (fun _=>k1 (by rw [et];simp [hc])) fun h=>absurd rfl h⟩
    | some g=>
     obtain ⟨ys,hg,hb⟩:=Yr hs;rw [yj hs hg];rw [hs] at et;have f2:=hd.gr (k:=ys.length) (g:=g) hi ho (by rw [hg];simp);refine ⟨_,rfl,_,rfl,yg (fun h=>by cases h) fun _=>⟨_,rfl,qh T f2 ⟨_,rfl,kg T hx ⟨rfl,_,rfl,ifn (fun h1=>?_) fun h1=>⟨_,rfl,wk T f2 ⟨_,rfl,Zg T hx ⟨rfl,_,rfl,ifn (fun h2=>?_) fun h2=>?_⟩⟩⟩⟩⟩⟩⟩
     ·exact k1 (by rw [et];simp [hc];intro z;exact absurd (by rw [z]) h1)
     ·exact k1 (by rw [et];simp [hc];intro _ z;exact absurd (by rw [z]) h2)
     ·exact ⟨_,rfl,k o g ys (by rw [et];simp [hc,V.int.inj h1,V.int.inj h2]) hn ho hg⟩
  ·rw [WU hn] at et;rw [if_neg hn];exact ⟨_,rfl,_,rfl,yg (fun _=>k1 et) fun h=>absurd rfl h⟩
def Qaw(t:Yd):Sp:=fun vs H Q _=>∃(A:Ad) (M:Mw) (x:Addr) (m:Je),vs= [.ref (A.ad .wo), .ref x]∧Holds t.c H A M∧vS t.c H A M x m∧0≤m.receiver∧m.receiver.toNat<M.k∧Sz M 1∧Yax t.c H A M (WC M m,none) Q
theorem xav(T:Txt K mg t):wb P w K mg base ke 3 t.qF t.UE ["world","message"] (Qaw t):=by
  refine T.kR.kf jM fun vs H Q E h=>?_;obtain ⟨A,M,x,m,rfl,hd,hm,h0,h1,hz,k⟩:=h;refine ⟨rfl,fun _ _ _ _ hr=>⟨_,(Za (qb (i:=2) jM.nd rfl (Or.inl rfl) (Vb Xa (ya (pv 0) rfl) (ya (pv 1) rfl) (fun _ _=>rfl))) (Za (qb (i:=3) jM.nd rfl (Or.inl rfl) (ja (zW T) hr.m rfl T.Q0 T.Jw.kp T.uZ .nil Ka (za (pv 2) (za (pv 1) Qa)))) (Za (Jb (yn (wac (pv 3))) (va (Zd (Yc (pv 2) T.Zb T.xY (WY T) hr.m T.J1 .nil Ka (za (ya (pv 1) rfl) (za (pv 3) Qa))))) zb) (va (Ja XM))))),?_⟩⟩;obtain ⟨dx,hx,_⟩:=id hm;refine ⟨_,rfl,wa T hd.wo ⟨_,rfl,Xb T hx (hd.ix h0 h1 ⟨_,rfl,_,rfl,A,M,m.receiver.toNat,x,dx,m,rfl,hd,h1,hx,rfl,fun ht=>?_,fun o g ys ht hn ho hg=>?_⟩)⟩⟩
  ·have e:WC M m=M:=by unfold WC;rw [if_neg (by rw [ht];decide)]
   rw [e] at k;exact ⟨_,rfl,_,rfl,ifn (fun h=>absurd rfl h) fun _=>k.no H A hd Ext.refl rfl⟩
  ·have e:WC M m=Qao M m.receiver.toNat m.order:=by unfold WC;rw [if_pos ht]
   rw [e] at k;refine ⟨_,rfl,_,rfl,ifn (fun _=>⟨_,rfl,_,_,_,rfl,hd.of h1,rfl,_,rfl,Vc T hx ⟨_,rfl,A,M,m.receiver.toNat,ys.length,m.order,o,g,rfl,hd,h1,Nat.lt_of_succ_lt (hz.jr _ h1),hn,ho,by rw [hg];simp,fun H' A' uQ e'=>k.no H' A' uQ e' rfl⟩⟩) fun h=>by cases h⟩
def Waz(t:Yd):Sp:=fun vs H Q _=>∃(A:Ad) (M:Mw) (x:Addr) (m:Je),vs= [.ref (A.ad .wo), .ref x]∧Holds t.c H A M∧vS t.c H A M x m∧0≤m.receiver∧m.receiver.toNat<M.k∧Sz M 1∧Yax t.c H A M (XC M m,none) Q
theorem Qay(T:Txt K mg t):wb P w K mg base ke 3 t.wI t.vJ ["world","message"] (Waz t):=by
  refine T.wY.kf xQ fun vs H Q E h=>?_;obtain ⟨A,M,x,m,rfl,hd,hm,h0,h1,hz,k⟩:=h;refine ⟨rfl,fun _ _ _ _ hr=>⟨_,(Za (qb (i:=2) xQ.nd rfl (Or.inl rfl) (Vb Xa (ya (pv 0) rfl) (ya (pv 1) rfl) (fun _ _=>rfl))) (Za (qb (i:=3) xQ.nd rfl (Or.inl rfl) (ja (zW T) hr.m rfl T.Q0 T.Jw.kp T.uZ .nil Ka (za (pv 2) (za (pv 1) Qa)))) (Za (Jb (yn (wac (pv 3))) (va (Zd (Yc (pv 2) T.Zb T.uN (wN T) hr.m T.VP .nil Ka (za (ya (pv 1) rfl) (za (pv 3) Qa))))) zb) (va (Ja XM))))),?_⟩⟩;obtain ⟨dx,hx,_⟩:=id hm;refine ⟨_,rfl,wa T hd.wo ⟨_,rfl,Xb T hx (hd.ix h0 h1 ⟨_,rfl,_,rfl,A,M,m.receiver.toNat,x,dx,m,rfl,hd,h1,hx,rfl,fun ht=>?_,fun o g ys ht hn ho hg=>?_⟩)⟩⟩
  ·have e:XC M m=M:=by unfold XC;rw [if_neg (by rw [ht];decide)]
   rw [e] at k;exact ⟨_,rfl,_,rfl,ifn (fun h=>absurd rfl h) fun _=>k.no H A hd Ext.refl rfl⟩
  ·have e:XC M m=WaP M m.receiver.toNat m.order:=by unfold XC;rw [if_pos ht]
   rw [e] at k;refine ⟨_,rfl,_,rfl,ifn (fun _=>⟨_,rfl,_,_,_,rfl,hd.of h1,rfl,_,rfl,Vc T hx ⟨_,rfl,A,M,m.receiver.toNat,m.order,o,ys,g,rfl,hd,h1,Nat.lt_of_succ_lt (hz.jr _ h1),ho,hg,fun H' A' uQ e'=>k.no H' A' uQ e' rfl⟩⟩) fun h=>by cases h⟩
def zar(t:Yd):Sp:=fun vs H Q _=>∃(A:Ad) (M:Mw) (x:Addr) (m:Je),vs= [.ref (A.ad .wo), .ref x]∧Holds t.c H A M∧vS t.c H A M x m∧0≤m.receiver∧m.receiver.toNat<M.k∧Sz M 1∧Yax t.c H A M (XG M m,none) Q
theorem kap(T:Txt K mg t):wb P w K mg base ke 5 t.Wz t.vA ["world","message"] (zar t):=by
  refine T.wK.kf zI fun vs H Q E h=>?_;obtain ⟨A,M,x,m,rfl,hd,hm,h0,h1,hz,k⟩:=h;refine ⟨rfl,fun _ _ _ _ hr=>⟨_,(Za (qb (i:=2) zI.nd rfl (Or.inl rfl) (Vb Xa (ya (pv 0) rfl) (ya (pv 1) rfl) (fun _ _=>rfl))) (Za (qb (i:=3) zI.nd rfl (Or.inl rfl) (Yc (pv 2) T.Zb T.Wo (Yo T) hr.m T.Qq .nil Ka (za (ya (pv 1) rfl) (za (ya (pv 1) rfl) Qa)))) (Za (Jb (PW.pt (qaO (Waf (Qh (ya (pv 3) rfl))) (vaE (Waf (Qh (ya (pv 3) rfl)))))) (va (Zd (Yc (pv 2) T.Zb T.Q1 (K1 T) hr.m T.z9 .nil Ka (za (ya (pv 1) rfl) (za (ya (pv 1) rfl) (za (ya (pv 1) rfl) (za (ya (pv 1) rfl) Qa))))))) zb) (va (Ja XM))))),?_⟩⟩;obtain ⟨dx,hx,_⟩:=id hm;refine ⟨_,rfl,wa T hd.wo ⟨_,rfl,Xb T hx (hd.ix h0 h1 ⟨_,rfl,_,_,_,rfl,hd.of h1,rfl,_,rfl,Vc T hx ⟨_,rfl,kg T hx ⟨A,M,m.receiver.toNat,m.order,m.yc,rfl,hd,h1,fun H1 y dy s1 hy=>?_⟩⟩⟩)⟩⟩;have Kd:=hd.same s1;have hx1:=s1 _ _ hx;have ek:XG M m=if (Yf M m.receiver.toNat m.order m.yc).known=false∧(Yf M m.receiver.toNat m.order m.yc).YX=false then Yap M m.receiver.toNat m.order m.yc m.VD m.uk else M:=rfl
  refine ⟨_,rfl,jA T hy ⟨_,rfl,WaZ (fun e1=>⟨_,rfl,Wl T hy ⟨_,rfl,WaZ (fun e2=>?_) fun e2=>?_⟩⟩) fun e1=>Xad ?_⟩⟩
  ·rw [ek,if_pos ⟨e1,e2⟩] at k;exact ⟨_,rfl,_,_,_,rfl,Kd.of h1,rfl,_,rfl,Vc T hx1 ⟨_,rfl,kg T hx1 ⟨_,rfl,uB T hx1 ⟨_,rfl,kZ T hx1 ⟨A,M,m.receiver.toNat,m.order,m.yc,m.VD,m.uk,rfl,Kd,h1,Nat.lt_of_succ_lt (hz.jr _ h1),Nat.lt_of_succ_lt (hz.Kc _ h1),fun H' A' uQ e'=>k.no H' A' uQ ((Ext.of_same s1).trans e') rfl⟩⟩⟩⟩⟩
  ·rw [ek,if_neg (fun z=>by rw [e2] at z;cases z.2)] at k;exact k.no H1 A Kd (Ext.of_same s1) rfl
  ·rw [ek,if_neg (fun z=>by rw [e1] at z;cases z.1)] at k;exact k.no H1 A Kd (Ext.of_same s1) rfl
end Mo
namespace Mo
open PySem PySem.Spec PyProof.Rows L2
variable{P:Program}{w:World}{K:PySem.W.Frag}{mg:Str→Option Value}{base:Heap}{t:Yd}
def Vaq(t:Yd):Sp:=fun vs H Q _=>∃(A:Ad) (M:Mw) (x:Addr) (m:Je),vs= [.ref (A.ad .wo), .ref x]∧Holds t.c H A M∧vS t.c H A M x m∧0≤m.receiver∧m.receiver.toNat<M.k∧Sz M 1∧Yax t.c H A M (Ul M m) Q
theorem uap(T:Txt K mg t):wb P w K mg base ke 5 t.Vz t.Xz ["world","message"] (Vaq t):=by
  refine T.WL.kf WH fun vs H Q E h=>?_;obtain ⟨A,M,x,m,rfl,hd,hm,h0,h1,hz,k⟩:=h;refine ⟨rfl,fun _ _ _ _ hr=>⟨_,(Za (qb (i:=2) WH.nd rfl (Or.inl rfl) (Vb Xa (ya (pv 0) rfl) (ya (pv 1) rfl) (fun _ _=>rfl))) (Za (qb (i:=3) WH.nd rfl (Or.inl rfl) (Yc (pv 2) T.Zb T.Wo (Yo T) hr.m T.Qq .nil Ka (za (ya (pv 1) rfl) (za (ya (pv 1) rfl) Qa)))) (Za (Jb (Qh (ya (pv 3) rfl)) (va (Ja (ja (Wk T) hr.m rfl T.jm T.Yi.kp T.Um .nil Ka (za (pv 1) (za (xa (v:= .int (4)) rfl T.Kar ⟨_,rfl⟩) Qa))))) zb) (Za (Jb (Qh (ya (pv 3) rfl)) (va (Ja (ja (Wk T) hr.m rfl T.jm T.Yi.kp T.Um .nil Ka (za (pv 1) (za (xa (v:= .int (5)) rfl T.Xac ⟨_,rfl⟩) Qa))))) zb) (Za (Jb (PW.pt (qaO (Qh (ya (pv 3) rfl)) (vaE (Kb qax (Yc (pv 0) T.Wc T.Vi (vi T) hr.m T.Wj .nil Ka (za (ya (pv 1) rfl) Qa)) (ya (pv 3) rfl) (Zc _))))) (va (Ja XM)) zb) (Za (Zd (Yc (pv 2) T.Zb T.Qx (vw T) hr.m T.Ky .nil Ka (za (ya (pv 1) rfl) (za (ya (pv 1) rfl) Qa)))) (va (Ja (ja (Wk T) hr.m rfl T.jm T.Yi.kp T.Um .nil Ka (za (pv 1) (za (xa (v:= .int (5)) rfl T.Xac ⟨_,rfl⟩) Qa))))))))))),?_⟩⟩;obtain ⟨dx,hx,_⟩:=id hm;refine ⟨_,rfl,wa T hd.wo ⟨_,rfl,Xb T hx (hd.ix h0 h1 ⟨_,rfl,_,_,_,rfl,hd.of h1,rfl,_,rfl,Vc T hx ⟨_,rfl,kg T hx ⟨A,M,m.receiver.toNat,m.order,m.yc,rfl,hd,h1,fun H1 y dy s1 hy=>?_⟩⟩⟩)⟩⟩;have Kd:=hd.same s1;have hx1:=s1 _ _ hx;have ek:Ul M m=if (Yf M m.receiver.toNat m.order m.yc).paid=true then (M,some (wg m 4)) else if (Yf M m.receiver.toNat m.order m.yc).YX=true then (M,some (wg m 5))
   else if (Yf M m.receiver.toNat m.order m.yc).known=true∧zd M m.receiver.toNat<(Yf M m.receiver.toNat m.order m.yc).uk then (M,none) else (xn M m.receiver.toNat m.order m.yc,some (wg m 5)):=rfl
  have last:∀e1:(Yf M m.receiver.toNat m.order m.yc).paid=false,∀e2:(Yf M m.receiver.toNat m.order m.yc).YX=false,¬((Yf M m.receiver.toNat m.order m.yc).known=true∧zd M m.receiver.toNat<(Yf M m.receiver.toNat m.order m.yc).uk)→Ul M m=(xn M m.receiver.toNat m.order m.yc,some (wg m 5)):=fun e1 e2 e3=>by
   rw [ek,if_neg (by rw [e1];decide),if_neg (by rw [e2];decide),if_neg e3]
  refine ⟨_,rfl,yp T hy ⟨_,rfl,ifb (fun e1=>?_) fun e1=>⟨_,rfl,Wl T hy ⟨_,rfl,ifb (fun e2=>?_) fun e2=>⟨_,rfl,jA T hy ⟨_,rfl,ifb (fun e3=>⟨_,rfl,_,_,_,rfl,Kd.wo,rfl,_,rfl,Xb T hx1 ⟨A,M,m.receiver,rfl,Kd,h0,h1,⟨_,rfl,qR T hy ⟨_,_,rfl,rfl,_,rfl,yg (fun e4=>?_) fun e4=>?_⟩⟩⟩⟩) fun e3=>?_⟩⟩⟩⟩⟩⟩
  ·rw [ek,if_pos e1] at k;exact ⟨_,rfl,x,dx,m,4,rfl,hx1,fun H2 z dz s2 nz hz'=>k.yes H2 A z dz _ (Kd.same s2) (Ext.of_same (s1.trans s2)) rfl hz' (Kd.own nz) (s1.free nz)⟩
  ·rw [ek,if_neg (by rw [e1];decide),if_pos e2] at k;exact ⟨_,rfl,x,dx,m,5,rfl,hx1,fun H2 z dz s2 nz hz'=>k.yes H2 A z dz _ (Kd.same s2) (Ext.of_same (s1.trans s2)) rfl hz' (Kd.own nz) (s1.free nz)⟩
  ·rw [ek,if_neg (by rw [e1];decide),if_neg (by rw [e2];decide),if_pos ⟨e3,e4⟩] at k;exact k.no H1 A Kd (Ext.of_same s1) rfl
  ·rw [last e1 e2 fun z=>e4 z.2] at k;refine ⟨_,rfl,_,_,_,rfl,Kd.of h1,rfl,_,rfl,Vc T hx1 ⟨_,rfl,kg T hx1 ⟨A,M,m.receiver.toNat,m.order,m.yc,rfl,Kd,h1,Nat.lt_of_succ_lt (hz.jr _ h1),Nat.lt_of_succ_lt (hz.Kc _ h1),fun H2 A2 hd2 e5=>?_⟩⟩⟩;obtain ⟨dx2,hx2,_⟩:=(hm.same s1).ext e5 hd2 (((Xg _ _ _).trans (vm _ _ _ _)).trans (zo _ _ _ _ _):Zp M (xn M m.receiver.toNat m.order m.yc) _).ms;refine ⟨_,rfl,x,dx2,m,5,rfl,hx2,fun H3 z dz s3 nz hz'=>k.yes H3 A2 z dz _ (hd2.same s3) (((Ext.of_same s1).trans e5).trans (Ext.of_same s3)) rfl hz' (hd2.own nz) ?_⟩;cases q:H z with
   | none=>rfl
   | some o=>
    exfalso;by_cases hw:Own t.c A M z
    ·obtain ⟨p,l,e⟩:=hw;obtain ⟨a1,_,a2⟩:=e5.ad p l;exact hd2.own nz ⟨p,a2,by rw [a1];exact e⟩
    ·have:=(e5.keep z o id (s1 _ _ q) hw).1;rw [nz] at this;cases this
  ·rw [last e1 e2 fun z=>by rw [e3] at z;cases z.1] at k;refine Xad ⟨_,rfl,_,_,_,rfl,Kd.of h1,rfl,_,rfl,Vc T hx1 ⟨_,rfl,kg T hx1 ⟨A,M,m.receiver.toNat,m.order,m.yc,rfl,Kd,h1,Nat.lt_of_succ_lt (hz.jr _ h1),Nat.lt_of_succ_lt (hz.Kc _ h1),fun H2 A2 hd2 e5=>?_⟩⟩⟩;obtain ⟨dx2,hx2,_⟩:=(hm.same s1).ext e5 hd2 (((Xg _ _ _).trans (vm _ _ _ _)).trans (zo _ _ _ _ _):Zp M (xn M m.receiver.toNat m.order m.yc) _).ms;refine ⟨_,rfl,x,dx2,m,5,rfl,hx2,fun H3 z dz s3 nz hz'=>k.yes H3 A2 z dz _ (hd2.same s3) (((Ext.of_same s1).trans e5).trans (Ext.of_same s3)) rfl hz' (hd2.own nz) ?_⟩;cases q:H z with
   | none=>rfl
   | some o=>
    exfalso;by_cases hw:Own t.c A M z
    ·obtain ⟨p,l,e⟩:=hw;obtain ⟨a1,_,a2⟩:=e5.ad p l;exact hd2.own nz ⟨p,a2,by rw [a1];exact e⟩
    ·have:=(e5.keep z o id (s1 _ _ q) hw).1;rw [nz] at this;cases this
def vay(t:Yd):Sp:=fun vs H Q _=>∃(A:Ad) (M:Mw) (x:Addr) (m:Je),vs= [.ref (A.ad .wo), .ref x]∧Holds t.c H A M∧vS t.c H A M x m∧0≤m.receiver∧m.receiver.toNat<M.k∧Sz M 1∧Yax t.c H A M (jC M m) Q
theorem qaz(T:Txt K mg t):wb P w K mg base ke 4 t.uJ t.UJ ["world","message"] (vay t):=by
  refine T.QY.kf vv fun vs H Q E h=>?_;obtain ⟨A,M,x,m,rfl,hd,hm,h0,h1,hz,k⟩:=h;refine ⟨rfl,fun _ _ _ _ hr=>⟨_,(Za (qb (i:=2) vv.nd rfl (Or.inl rfl) (Vb Xa (ya (pv 0) rfl) (ya (pv 1) rfl) (fun _ _=>rfl))) (Za (qb (i:=3) vv.nd rfl (Or.inl rfl) (U2 (YS hr) (ya (pv 2) rfl) (ya (pv 1) rfl) ⟨rfl,rfl,rfl,rfl⟩)) (Za (Jb (PW.pt (jJ (yn (Qz (pv 3))) (jJ (Kb uaF (ya (pv 3) rfl) (ya (pv 1) rfl) (Zc _)) (jJ (Qh (ya (pv 3) rfl)) (qU (Qh (ya (pv 3) rfl))))))) (va (Ja (ja (Wk T) hr.m rfl T.jm T.Yi.kp T.Um .nil Ka (za (pv 1) (za (xa (v:= .int (3)) rfl T.Zbd ⟨_,rfl⟩) Qa))))) zb) (Za (Jb (yn (Qz (qf (pv 3) T.ue T.We (we T) hr.m T.Kf .nil Ka))) (Za (qb (i:=4) vv.nd rfl (Or.inl rfl) (Yc (pv 0) T.Wc T.Vi (vi T) hr.m T.Wj .nil Ka (za (ya (pv 1) rfl) Qa))) (Za (Jb (Kb kaP (pv 4) (ya (pv 3) rfl) (Zc _)) (va (Ja (ja (Wk T) hr.m rfl T.jm T.Yi.kp T.Um .nil Ka (za (pv 1) (za (xa (v:= .int (3)) rfl T.Zbd ⟨_,rfl⟩) Qa))))) zb) (va (Zd (Yc (pv 2) T.Zb T.uW (JW T) hr.m T.ZZ .nil Ka (za (ya (pv 1) rfl) (za (ya (pv 1) rfl) (za (Vs qx (pv 4) (ya (pv 0) rfl)) Qa)))))))) zb) (Za (qb (i:=5) vv.nd rfl (Or.inl rfl) (qf (pv 3) T.ue T.We (we T) hr.m T.Kf .nil Ka)) (Za (Jb (Kb uaF (ya (pv 5) rfl) (ya (pv 1) rfl) (Zc _)) (va (Ja (ja (Wk T) hr.m rfl T.jm T.Yi.kp T.Um .nil Ka (za (pv 1) (za (xa (v:= .int (3)) rfl T.Zbd ⟨_,rfl⟩) Qa))))) zb) (va (Ja (qr T.uC (Zh T) hr.m rfl T.qI T.zi .nil Ka (za (xa (v:= .int (2)) rfl T.JaB ⟨_,rfl⟩) (za (ya (pv 1) rfl) (za (ya (pv 5) rfl) (za (ya (pv 1) rfl) (za (ya (pv 1) rfl) (za (ya (pv 3) rfl) (za (ya (pv 5) rfl) Qa)))))))))))))))),?_⟩⟩;obtain ⟨dx,hx,_⟩:=id hm;have fin:jC M m=(M,some (wg m 3))→∀(H2:Hp) (z dz:Addr),Ua H H2→H z=none→H2 z=some (.ins t.c.message dz (Uk (wg m 3)))→Q (.ref z) H2:=fun e H2 z dz s2 nz hz'=>by
   rw [e] at k;exact k.yes H2 A z dz _ (hd.same s2) (Ext.of_same s2) rfl hz' (hd.own nz) nz
  have fin':jC M m=(M,some (wg m 3))→∃(x' dx:Addr) (m':Je) (k':Int), [V.ref x,V.int 3]= [.ref x', .int k']∧H x'=some (.ins t.c.message dx (Uk m'))∧∀(H':Hp) (y dy:Addr),Ua H H'→H y=none→H' y=some (.ins t.c.message dy (Uk (wg m' k')))→Q (.ref y) H':=fun e=>⟨x,dx,m,3,rfl,hx,fin e⟩;refine ⟨_,rfl,wa T hd.wo ⟨_,rfl,Xb T hx (hd.ix h0 h1 ⟨_,rfl,wc T (hd.of h1) ⟨_,rfl,yap hd h1,_,rfl,Vc T hx ⟨_,Uad hd h1,?_⟩⟩⟩)⟩⟩;by_cases hn:m.order∈M.ub m.receiver.toNat
  ·obtain ⟨o,ho,hgo⟩:=Ur hd h1 hn;rw [if_pos hn];have f1:=hd.ord h1 ho;have ek:jC M m=if o.key≠m.VD∨o.refunded=true∨o.closed=true then (M,some (wg m 3)) else match Xc o with
     | none=>if o.ood≤zd M m.receiver.toNat then (M,some (wg m 3))
      else (Xp M m.receiver.toNat m.order m.Yg (zd M m.receiver.toNat+M.lease),some ⟨2,m.order,o.gs.length+1,m.receiver,m.Yg,o.vb,zd M m.receiver.toNat+M.lease,false⟩)
     | some g=>if g.jf≠m.Yg then (M,some (wg m 3)) else (M,some ⟨2,m.order,g.num,m.receiver,m.Yg,o.vb,g.uk,false⟩):=by
    unfold jC;simp only [];rw [hgo]<;>rfl
   refine ⟨_,rfl,_,rfl,yg (fun h=>by cases h) fun _=>⟨_,rfl,QaH T f1 ⟨_,rfl,uB T hx ⟨rfl,_,rfl,ifn (fun h2=>?_) fun h2=>⟨_,rfl,vB T f1 ⟨_,rfl,ifb (fun h3=>?_) fun h3=>⟨_,rfl,Ql T f1 ⟨_,rfl,ifb (fun h4=>?_) fun h4=>?_⟩⟩⟩⟩⟩⟩⟩⟩
   ·exact ⟨_,rfl,fin' (by rw [ek,if_pos (.inl fun z=>h2 (by rw [z]))])⟩
   ·exact ⟨_,rfl,fin' (by rw [ek,if_pos (.inr (.inl h3))])⟩
   ·exact ⟨_,rfl,fin' (by rw [ek,if_pos (.inr (.inr h4))])⟩
   ·have hk:¬(o.key≠m.VD∨o.refunded=true∨o.closed=true):=by
     rintro (z | z | z)
     ·exact z (V.int.inj h2)
     ·rw [h3] at z;cases z
     ·rw [h4] at z;cases z
    rw [if_neg hk] at ek;refine ⟨_,rfl,_,_,_,rfl,f1,rfl,A,M,m.receiver.toNat,m.order,o,rfl,hd,h1,ho,?_⟩;cases hs:Xc o with
    | none=>
     rw [jx hs];rw [hs] at ek;have ek:jC M m=if o.ood≤zd M m.receiver.toNat then (M,some (wg m 3)) else (Xp M m.receiver.toNat m.order m.Yg (zd M m.receiver.toNat+M.lease),some ⟨2,m.order,o.gs.length+1,m.receiver,m.Yg,o.vb,zd M m.receiver.toNat+M.lease,false⟩):=ek
     refine ⟨_,rfl,yg (fun _=>⟨_,rfl,_,_,_,rfl,hd.wo,rfl,_,rfl,Xb T hx ⟨A,M,m.receiver,rfl,hd,h0,h1,⟨_,rfl,_,rfl,vG T f1 ⟨_,_,rfl,rfl,_,rfl,yg (fun h5=>?_) fun h5=>?_⟩⟩⟩⟩) fun h=>absurd rfl h⟩
     ·exact ⟨_,rfl,fin' (by rw [ek,if_pos h5])⟩
     ·rw [ek,if_neg h5] at k;refine ⟨_,rfl,_,_,_,rfl,hd.of h1,rfl,_,rfl,Vc T hx ⟨_,rfl,Zg T hx ⟨_,rfl,_,rfl,Vav T hd.wo ⟨_,_,rfl,rfl,A,M,m.receiver.toNat,m.order,m.Yg,_,o,rfl,hd,h1,Nat.lt_of_succ_lt (hz.jr _ h1),hn,ho,Nat.lt_of_succ_lt (hz.gs _ _ _ h1 ho),fun H2 A2 hd2 e2=>?_⟩⟩⟩⟩;have bw:Zp M (Xp M m.receiver.toNat m.order m.Yg (zd M m.receiver.toNat+M.lease)) m.receiver.toNat:=(Xg _ _ _).trans (KC _ _ _ _);obtain ⟨dx2,hx2,_⟩:=hm.ext e2 hd2 bw.ms;have h12:m.receiver.toNat<(Xp M m.receiver.toNat m.order m.Yg (zd M m.receiver.toNat+M.lease)).k:=by rw [bw.k];exact h1
      have ho2:(Xp M m.receiver.toNat m.order m.Yg (zd M m.receiver.toNat+M.lease)).ord m.receiver.toNat m.order=some {o with gs:=o.gs++ [⟨o.gs.length+1,m.Yg,zd M m.receiver.toNat+M.lease,false⟩]}:=by
       show (if m.receiver.toNat=m.receiver.toNat∧m.order=m.order then (M.ord m.receiver.toNat m.order).map _ else _)=_;rw [if_pos ⟨rfl,rfl⟩,ho];rfl
      have qo:A2.ad (.ord m.receiver.toNat m.order)=A.ad (.ord m.receiver.toNat m.order):=(e2.ad _ (JaA h1 ho)).1;have f2:=hd2.ord h12 ho2;have hs2:Xc {o with gs:=o.gs++ [⟨o.gs.length+1,m.Yg,zd M m.receiver.toNat+M.lease,false⟩]}=some ⟨o.gs.length+1,m.Yg,zd M m.receiver.toNat+M.lease,false⟩:=by
       unfold Xc;simp
      have g2:=hd2.gr (k:=o.gs.length) (g:=⟨o.gs.length+1,m.Yg,zd M m.receiver.toNat+M.lease,false⟩) h12 ho2 (by simp);rw [qo] at f2;refine ⟨_,rfl,_,_,_,rfl,f2,rfl,A2,_,m.receiver.toNat,m.order,_,by rw [qo];rfl,hd2,h12,ho2,?_⟩;rw [yj hs2 rfl];refine ⟨_,rfl,wk T g2 ⟨_,rfl,Zg T hx2 ⟨rfl,_,rfl,ifn (fun h=>absurd rfl h) fun _=>⟨_,rfl,Vc T hx2 ⟨_,rfl,qh T g2 ⟨_,rfl,Xb T hx2 ⟨_,rfl,Zg T hx2 ⟨_,rfl,xj T f2 ⟨_,rfl,UQ T g2 fun y dy ny nd nyd=>⟨y,dy,_,_,_,_,_,_,_,rfl,Ya,fun H3 hy hk=>⟨rfl,?_⟩⟩⟩⟩⟩⟩⟩⟩⟩⟩⟩;have s3:Ua H2 H3:=made (C:=t.c.message) (fs:= []) ny nd hk;refine k.yes H3 A2 y dy _ (hd2.same s3) (e2.trans (Ext.of_same s3)) rfl hy (hd2.own ny) ?_;cases q:H y with
      | none=>rfl
      | some u=>
       exfalso;by_cases hw:Own t.c A M y
       ·obtain ⟨p,l,e⟩:=hw;obtain ⟨a1,_,a2⟩:=e2.ad p l;exact hd2.own ny ⟨p,a2,by rw [a1];exact e⟩
       ·have:=(e2.keep y u id q hw).1;rw [ny] at this;cases this
    | some g=>
     obtain ⟨ys,hg,hb⟩:=Yr hs;rw [yj hs hg];rw [hs] at ek;have ek:jC M m=if g.jf≠m.Yg then (M,some (wg m 3)) else (M,some ⟨2,m.order,g.num,m.receiver,m.Yg,o.vb,g.uk,false⟩):=ek
     have g2:=hd.gr (k:=ys.length) (g:=g) h1 ho (by rw [hg];simp);refine ⟨_,rfl,yg (fun h=>by cases h) fun _=>⟨_,rfl,_,_,_,rfl,f1,rfl,A,M,m.receiver.toNat,m.order,o,rfl,hd,h1,ho,?_⟩⟩;rw [yj hs hg];refine ⟨_,rfl,wk T g2 ⟨_,rfl,Zg T hx ⟨rfl,_,rfl,ifn (fun h5=>?_) fun h5=>?_⟩⟩⟩
     ·exact ⟨_,rfl,fin' (by rw [ek,if_pos (fun z=>h5 (by rw [z]))])⟩
     ·rw [ek,if_neg (by rw [V.int.inj h5];simp)] at k;refine ⟨_,rfl,Vc T hx ⟨_,rfl,qh T g2 ⟨_,rfl,Xb T hx ⟨_,rfl,Zg T hx ⟨_,rfl,xj T f1 ⟨_,rfl,UQ T g2 fun y dy ny nd nyd=>⟨y,dy,_,_,_,_,_,_,_,rfl,Ya,fun H3 hy hk=>⟨rfl,?_⟩⟩⟩⟩⟩⟩⟩⟩;have s3:Ua H H3:=made (C:=t.c.message) (fs:= []) ny nd hk;exact k.yes H3 A y dy _ (hd.same s3) (Ext.of_same s3) rfl hy (hd.own ny) ny
  ·rw [if_neg hn];have ek:jC M m=(M,some (wg m 3)):=by
    unfold jC;simp only [];rw [WU hn]
   exact ⟨_,rfl,_,rfl,yg (fun _=>⟨_,rfl,fin' ek⟩) fun h=>absurd rfl h⟩
end Mo
namespace Mo
open PySem PySem.Spec PyProof.Rows L2
variable{P:Program}{w:World}{K:PySem.W.Frag}{mg:Str→Option Value}{base:Heap}{t:Yd}
section
variable{c:Cs}{H H1 H' H2:Hp}{A A' A2:Ad}{M M' M2:Mw}{ex:Addr→Prop}
structure Kp(c:Cs)(ex:Addr→Prop)(H:Hp)(A:Ad)(M:Mw)(H':Hp)(A':Ad)(M':Mw):Prop where
 wo:A'.ad .wo=A.ad .wo
 keep:∀b o,¬ex b→H b=some o→¬Own c A M b→H' b=some o∧¬Own c A' M' b
 there:∀b,H' b=none→H b=none
theorem Kp.same(s:Ua H H'):Kp c ex H A M H' A M:=⟨rfl,fun b o _ e n=>⟨s _ _ e,n⟩,fun _ e=>s.free e⟩
theorem Kp.trans(a:Kp c ex H A M H' A' M')(b:Kp c ex H' A' M' H2 A2 M2):Kp c ex H A M H2 A2 M2:=
 ⟨b.wo.trans a.wo,fun x o h e n=>let ⟨e1,n1⟩:=a.keep x o h e n;b.keep x o h e1 n1,fun x e=>a.there x (b.there x e)⟩
theorem Kp.of(h':Holds c H' A' M')(hx:∀b,ex b→H' b≠none)(e:Ext c ex H A M H' A' M'):Kp c ex H A M H' A' M':=
 ⟨(e.ad _ jaf).1,e.keep,fun b eb=>by
  cases q:H b with
  | none=>rfl
  | some o=>
   exfalso;by_cases hw:Own c A M b
   ·obtain ⟨p,l,z⟩:=hw;obtain ⟨a1,_,a2⟩:=e.ad p l;exact h'.own eb ⟨p,a2,by rw [a1];exact z⟩
   ·by_cases he:ex b
    ·exact hx b he eb
    ·have:=(e.keep b o he q hw).1;rw [eb] at this;cases this⟩
theorem Kp.ext(h':Holds c H' A' M')(e:uz c H A M H' A' M'):Kp c ex H A M H' A' M':=
 let k:=Kp.of h' (fun _ z=>z.elim) e
 ⟨k.wo,fun b o _=>k.keep b o id,k.there⟩
def vc(c:Cs)(ex:Addr→Prop)(H:Hp)(A:Ad)(M:Mw)(r:Mw×List Int)(Q:VK):Prop:=
 ∀H' A' p,Holds c H' A' r.1→Kp c ex H A M H' A' r.1→H p=none→H' p=some (.lst (r.2.map V.int))→¬Own c A' r.1 p→Q (.ref p) H'
theorem vc.lst{r:Mw×List Int}{Q:VK}{p:Addr}{ns:List Int}(k:vc c ex H A M r Q)(hd:Holds c H1 A' r.1)(e:Kp c ex H A M H1 A' r.1)(hp:H1 p=none)(en:r.2=ns):Q (.ref p) (upd H1 p (.lst (ns.map V.int))):=by
 have s:Ua H1 (upd H1 p (.lst (ns.map V.int))):=Ua.new hp;subst en;exact k _ A' p (hd.same s) (e.trans (Kp.same s)) (e.there p hp) Ya (hd.own hp)
theorem Vbn{x dx:Addr}{p q:Pl}(h:q≠p):(JT A p x dx).ad q=A.ad q:=km h
end
def Vba(t:Yd):Sp:=fun vs H Q _=>∃(A:Ad) (M:Mw) (x:Addr) (m:Je),vs= [.ref (A.ad .wo), .ref x]∧Holds t.c H A M∧vS t.c H A M x m∧0≤m.receiver∧m.receiver.toNat<M.k∧Sz M 1∧Yax t.c H A M (xc M m) Q
theorem xaE(T:Txt K mg t):wb P w K mg base ke 6 t.UaD t.kaB ["world","message"] (Vba t):=by
  refine T.xap.kf xa9 fun vs H Q E h=>?_;obtain ⟨A,M,x,m,rfl,hd,hm,h0,h1,hz,k⟩:=h;refine ⟨rfl,fun _ _ _ _ hr=>⟨_,(Za (Jb (Kb Vf (ya (pv 1) rfl) (xa (v:= .int (1)) rfl T.waT ⟨_,rfl⟩) (Zc _)) (va (Ja (ja (qaz T) hr.m rfl T.qaI T.QY.kp T.YaG .nil Ka (za (pv 0) (za (pv 1) Qa))))) zb) (Za (Jb (Kb Vf (ya (pv 1) rfl) (xa (v:= .int (2)) rfl T.JaB ⟨_,rfl⟩) (Zc _)) (va (Ja (ja (kap T) hr.m rfl T.Jau T.wK.kp T.Jav .nil Ka (za (pv 0) (za (pv 1) Qa))))) zb) (Za (Jb (Kb Vf (ya (pv 1) rfl) (xa (v:= .int (4)) rfl T.Kar ⟨_,rfl⟩) (Zc _)) (va (Ja (ja (xav T) hr.m rfl T.wax T.kR.kp T.Zay .nil Ka (za (pv 0) (za (pv 1) Qa))))) zb) (Za (Jb (Kb Vf (ya (pv 1) rfl) (xa (v:= .int (5)) rfl T.Xac ⟨_,rfl⟩) (Zc _)) (va (Ja (ja (Qay T) hr.m rfl T.zaG T.wY.kp T.yaF .nil Ka (za (pv 0) (za (pv 1) Qa))))) zb) (Za (Jb (Kb Vf (ya (pv 1) rfl) (xa (v:= .int (6)) rfl T.KaD ⟨_,rfl⟩) (Zc _)) (va (Ja (ja (uap T) hr.m rfl T.vau T.WL.kp T.kau .nil Ka (za (pv 0) (za (pv 1) Qa))))) zb) (va (Ja XM))))))),?_⟩⟩;obtain ⟨dx,hx,_⟩:=id hm;unfold xc at k;refine ⟨_,rfl,xk T hx ⟨rfl,_,rfl,yg (fun h=>?_) fun n1=>⟨_,rfl,xk T hx ⟨rfl,_,rfl,yg (fun h=>?_) fun n2=>⟨_,rfl,xk T hx ⟨rfl,_,rfl,yg (fun h=>?_) fun n4=>⟨_,rfl,xk T hx ⟨rfl,_,rfl,yg (fun h=>?_) fun n5=>⟨_,rfl,xk T hx ⟨rfl,_,rfl,yg (fun h=>?_) fun n6=>?_⟩⟩⟩⟩⟩⟩⟩⟩⟩⟩
  ·rw [if_pos (V.int.inj h)] at k;exact ⟨_,rfl,_,rfl,A,M,x,m,rfl,hd,hm,h0,h1,hz,k⟩
  ·rw [if_neg (fun z=>n1 (by rw [z])),if_pos (V.int.inj h)] at k;exact ⟨_,rfl,_,rfl,A,M,x,m,rfl,hd,hm,h0,h1,hz,k⟩
  ·rw [if_neg (fun z=>n1 (by rw [z])),if_neg (fun z=>n2 (by rw [z])),if_pos (V.int.inj h)] at k;exact ⟨_,rfl,_,rfl,A,M,x,m,rfl,hd,hm,h0,h1,hz,k⟩
  ·rw [if_neg (fun z=>n1 (by rw [z])),if_neg (fun z=>n2 (by rw [z])),if_neg (fun z=>n4 (by rw [z])),if_pos (V.int.inj h)] at k;exact ⟨_,rfl,_,rfl,A,M,x,m,rfl,hd,hm,h0,h1,hz,k⟩
  ·rw [if_neg (fun z=>n1 (by rw [z])),if_neg (fun z=>n2 (by rw [z])),if_neg (fun z=>n4 (by rw [z])),if_neg (fun z=>n5 (by rw [z])),if_pos (V.int.inj h)] at k;exact ⟨_,rfl,_,rfl,A,M,x,m,rfl,hd,hm,h0,h1,hz,k⟩
  ·rw [if_neg (fun z=>n1 (by rw [z])),if_neg (fun z=>n2 (by rw [z])),if_neg (fun z=>n4 (by rw [z])),if_neg (fun z=>n5 (by rw [z])),if_neg (fun z=>n6 (by rw [z]))] at k;exact k.no H A hd Ext.refl rfl
def Vay(t:Yd):Sp:=fun vs H Q _=>∃(A:Ad) (M:Mw) (x dx:Addr) (m:Je),vs= [.ref (A.ad .wo), .ref x]∧Holds t.c H A M∧H x=some (.ins t.c.message dx (Uk m))∧¬Own t.c A M x∧M.ms.length<sizeLine∧∀H' A',Holds t.c H' A' (zG M m)→Ext t.c (fun b=>b=x) H A M H' A' (zG M m)→Q (.int (M.ms.length:Int)) H'
theorem Vv(T:Txt K mg t):wb P w K mg base ke 2 t.WJ t.wJ ["self","message"] (Vay t):=by
  refine T.zaf.kf kaz fun vs H Q E h=>?_;obtain ⟨A,M,x,dx,m,rfl,hd,hx,hn,hz,k⟩:=h;refine ⟨rfl,fun _ _ _ _ hr=>⟨_,(Za (Zd (wy PySem.F.plainAttrs_list PySem.F.slot_list_append PySem.F.type_list_append vh (ya (pv 0) rfl) (za (pv 1) Qa))) (va (Ja (Vs jaN (jd Jc (by rfl) T.Uu PySem.boot_len (za (ya (pv 0) rfl) Qa)) ua)))),?_⟩⟩;obtain ⟨hd2,e2⟩:=hd.send' (ex:=fun b=>b=x) hx hn rfl;have w2:=hd2.wo;rw [Vbn (by simp)] at w2;have m2:=hd2.kT;refine ⟨_,rfl,Ue T hd.wo ⟨.inl ⟨rfl,_,xb.of hd.kT⟩,_,rfl,_,_,_,rfl,rfl,hd.kT,by rw [List.length_map,List.length_range];exact hz,⟨_,rfl,Ue T w2 ⟨_,_,rfl, .inl (xb.of m2),_,_,rfl,rfl,?_⟩⟩⟩⟩;have el:((List.range (zG M m).ms.length).map fun j=>V.ref ((JT A (.ms M.ms.length) x dx).ad (.ms j))).length=M.ms.length+1:=by
   rw [List.length_map,List.length_range];show (M.ms++ [m]).length=_;rw [List.length_append];rfl
  rw [el];have e1:(((M.ms.length+1:Nat):Int)-1)=(M.ms.length:Int):=by omega
  show Q (.int (((M.ms.length+1:Nat):Int)-1)) _;rw [e1];exact k _ _ hd2 e2
def Yad(t:Yd):Sp:=fun vs H Q _=>∃(A:Ad) (M:Mw) (o n:Int),vs= [.ref (A.ad .wo), .int o, .int n]∧Holds t.c H A M∧0≤o∧o.toNat<M.k∧Q (.int (YK M o n)) H
theorem zN(T:Txt K mg t):wb P w K mg base ke 2 t.wq t.uq ["world","o","n"] (Yad t):=by
  refine T.Uq.kf qN fun vs H Q E h=>?_;obtain ⟨A,M,o,n,rfl,hd,h0,h1,k⟩:=h;refine ⟨rfl,fun _ _ _ _ hr=>⟨_,(Za (qb (i:=3) qN.nd rfl (Or.inl rfl) (U2 (YS hr) (ya (Vb Xa (ya (pv 0) rfl) (pv 1) (fun _ _=>rfl)) rfl) (pv 2) ⟨rfl,rfl,rfl,rfl⟩)) (Za (Jb (PW.pt (jJ (yn (Qz (pv 3))) (jJ (Qh (ya (pv 3) rfl)) (qU (yn (Qz (qf (pv 3) T.ue T.We (we T) hr.m T.Kf .nil Ka))))))) (va (Ja (xa (v:= .int (-3)) rfl T.V1 ⟨_,rfl⟩))) zb) (va (Ja ua)))),?_⟩⟩;refine ⟨_,rfl,wa T hd.wo ⟨_,rfl,hd.ix h0 h1 (wc T (hd.of h1) ⟨_,rfl,yap hd h1,_,rfl,_,Uad hd h1,?_⟩)⟩⟩;unfold YK yo at k;by_cases hn:n∈M.ub o.toNat
  ·obtain ⟨x,ho,hgo⟩:=Ur hd h1 hn;rw [hgo] at k;have k:Q (.int (if (if x.closed=true then none else Xc x).isSome=true then 0 else-3)) H:=k;rw [if_pos hn];have f1:=hd.ord h1 ho;refine ⟨_,rfl,_,rfl,yg (fun h=>by cases h) fun _=>⟨_,rfl,Ql T f1 ⟨_,rfl,ifb (fun hc=>?_) fun hc=>?_⟩⟩⟩
   ·rw [if_pos hc] at k;exact k
   ·have ef:(if x.closed=true then none else Xc x)=Xc x:=if_neg (by rw [hc];decide);rw [ef] at k;refine ⟨_,rfl,_,_,_,rfl,f1,rfl,A,M,o.toNat,n,x,rfl,hd,h1,ho,?_⟩;cases hs:Xc x with
    | none=>
     rw [hs] at k;rw [jx hs];exact ⟨_,rfl,yg (fun _=>k) fun h=>absurd rfl h⟩
    | some g=>
     rw [hs] at k;obtain ⟨ys,hg,hb⟩:=Yr hs;rw [yj hs hg];exact ⟨_,rfl,yg (fun h=>by cases h) fun _=>k⟩
  ·rw [WU hn] at k;rw [if_neg hn];exact ⟨_,rfl,_,rfl,yg (fun _=>k) fun h=>absurd rfl h⟩
def uaL(t:Yd):Sp:=fun vs H Q _=>∃(A:Ad) (M:Mw) (o n:Int) (g:MG),vs= [.ref (A.ad .wo), .int o, .int n]∧Holds t.c H A M∧0≤o∧o.toNat<M.k∧yo M o.toNat n=some g∧∀(H':Hp) (y dy:Addr),Ua H H'→H y=none→H' y=some (.ins t.c.message dy (Uk (ud o n g)))→Q (.ref y) H'
theorem Wal(T:Txt K mg t):wb P w K mg base ke 3 t.XW t.zX ["world","o","n"] (uaL t):=by
  refine T.yX.kf vam fun vs H Q E h=>?_;obtain ⟨A,M,o,n,g,rfl,hd,h0,h1,ha,k⟩:=h;refine ⟨rfl,fun _ _ _ _ hr=>⟨_,(Za (qb (i:=3) vam.nd rfl (Or.inl rfl) (qf (uan (YS hr) (ya (Vb Xa (ya (pv 0) rfl) (pv 1) (fun _ _=>rfl)) rfl) (pv 2) (fun _ _=>rfl)) T.ue T.We (we T) hr.m T.Kf .nil Ka)) (va (Ja (qr T.uC (Zh T) hr.m rfl T.qI T.zi .nil Ka (za (xa (v:= .int (6)) rfl T.KaD ⟨_,rfl⟩) (za (pv 2) (za (ya (pv 3) rfl) (za (pv 1) (za (ya (pv 3) rfl) (za ua (za ua Qa))))))))))),?_⟩⟩;unfold yo at ha;by_cases hn:n∈M.ub o.toNat
  ·obtain ⟨x,ho,hgo⟩:=Ur hd h1 hn;rw [hgo] at ha;have ha:(if x.closed=true then none else Xc x)=some g:=ha;have hs:Xc x=some g:=by
    split at ha
    ·cases ha
    ·exact ha
   obtain ⟨ys,hg,hb⟩:=Yr hs;have f1:=hd.ord h1 ho;have f2:=hd.gr (k:=ys.length) (g:=g) h1 ho (by rw [hg];simp);refine ⟨_,rfl,wa T hd.wo ⟨_,rfl,hd.ix h0 h1 (wc T (hd.of h1) ⟨_,rfl,_,_,rfl,yaC hd h1 hn,_,_,_,rfl,f1,rfl,A,M,o.toNat,n,x,rfl,hd,h1,ho,?_⟩)⟩⟩;rw [yj hs hg];refine ⟨_,rfl,_,rfl,qh T f2 ⟨_,rfl,_,rfl,wk T f2 fun y dy ny nd nyd=>⟨y,dy,_,_,_,_,_,_,_,rfl,Ya,fun H1 hy hk=>⟨rfl,?_⟩⟩⟩⟩;exact k H1 y dy (made (C:=t.c.message) (fs:= []) ny nd hk) ny hy
  ·rw [WU hn] at ha;cases ha
def j9(t:Yd):Sp:=fun vs H Q _=>∃(A:Ad) (M:Mw) (o n:Int),vs= [.ref (A.ad .wo), .int o, .int n]∧Holds t.c H A M∧0≤o∧o.toNat<M.k∧Q (.int (Jad M o n)) H
theorem u9(T:Txt K mg t):wb P w K mg base ke 2 t.vo t.Jo ["world","o","n"] (j9 t):=by
  refine T.xx.kf Xu fun vs H Q E h=>?_;obtain ⟨A,M,o,n,rfl,hd,h0,h1,k⟩:=h;refine ⟨rfl,fun _ _ _ _ hr=>⟨_,(Za (qb (i:=3) Xu.nd rfl (Or.inl rfl) (Vb Xa (ya (pv 0) rfl) (pv 1) (fun _ _=>rfl))) (Za (qb (i:=4) Xu.nd rfl (Or.inl rfl) (U2 (YS hr) (ya (pv 3) rfl) (pv 2) ⟨rfl,rfl,rfl,rfl⟩)) (Za (Jb (yn (Qz (pv 4))) (va (Ja (xa (v:= .int (-3)) rfl T.V1 ⟨_,rfl⟩))) zb) (Za (Jb (PW.pt (jJ (Qh (ya (pv 4) rfl)) (jJ (Qh (ya (pv 4) rfl)) (qU (yn (wac (qf (pv 4) T.ue T.We (we T) hr.m T.Kf .nil Ka))))))) (va (Ja (xa (v:= .int (-4)) rfl T.zaC ⟨_,rfl⟩))) zb) (Za (Jb (Kb qax (ya (pv 3) rfl) (ya (pv 4) rfl) (Zc _)) (va (Ja (xa (v:= .int (-7)) rfl T.YaU ⟨_,rfl⟩))) zb) (va (Ja ua))))))),?_⟩⟩;refine ⟨_,rfl,wa T hd.wo ⟨_,rfl,hd.ix h0 h1 ⟨_,rfl,wc T (hd.of h1) ⟨_,rfl,yap hd h1,_,rfl,_,Uad hd h1,?_⟩⟩⟩⟩;unfold Jad at k;by_cases hn:n∈M.ub o.toNat
  ·obtain ⟨x,ho,hgo⟩:=Ur hd h1 hn;rw [hgo] at k;have k:Q (.int (if x.refunded=true∨x.closed=true∨(Xc x).isSome=true then-4 else if M.drawer o.toNat<x.vb then-7 else 0)) H:=k;rw [if_pos hn];have f1:=hd.ord h1 ho;refine ⟨_,rfl,_,rfl,yg (fun h=>by cases h) fun _=>⟨_,rfl,vB T f1 ⟨_,rfl,ifb (fun hr=>?_) fun hr=>⟨_,rfl,Ql T f1 ⟨_,rfl,ifb (fun hc=>?_) fun hc=>?_⟩⟩⟩⟩⟩
   ·rw [if_pos (.inl hr)] at k;exact k
   ·rw [if_pos (.inr (.inl hc))] at k;exact k
   ·refine ⟨_,rfl,_,_,_,rfl,f1,rfl,A,M,o.toNat,n,x,rfl,hd,h1,ho,?_⟩;cases hs:Xc x with
    | none=>
     rw [hs,if_neg (by rw [hr,hc];simp)] at k;rw [jx hs];refine ⟨_,rfl,ifn (fun h=>absurd rfl h) fun _=>⟨_,rfl,Xh T (hd.of h1) ⟨_,rfl,xj T f1 ⟨_,_,rfl,rfl,_,rfl,yg (fun h=>?_) fun h=>?_⟩⟩⟩⟩
     ·rw [if_pos h] at k;exact k
     ·rw [if_neg h] at k;exact k
    | some g=>
     rw [hs,if_pos (.inr (.inr rfl))] at k;obtain ⟨ys,hg,hb⟩:=Yr hs;rw [yj hs hg];exact ⟨_,rfl,ifn (fun _=>k) fun h=>by cases h⟩
  ·rw [WU hn] at k;rw [if_neg hn];exact ⟨_,rfl,_,rfl,yg (fun _=>k) fun h=>absurd rfl h⟩
def Vac(t:Yd):Sp:=fun vs H Q _=>∃(A:Ad) (M:Mw) (p n g:Int),vs= [.ref (A.ad .wo), .int p, .int n, .int g]∧Holds t.c H A M∧0≤p∧p.toNat<M.k∧∀H',Ua H H'→Q (.int (yan M p n g)) H'
theorem kad(T:Txt K mg t):wb P w K mg base ke 4 t.xq t.Jq ["world","p","n","g"] (Vac t):=by
  refine T.JB.kf VN fun vs H Q E h=>?_;obtain ⟨A,M,p,n,g,rfl,hd,h0,h1,k⟩:=h;refine ⟨rfl,fun _ _ _ _ hr=>⟨_,(Za (qb (i:=4) VN.nd rfl (Or.inl rfl) (Yc (Vb Xa (ya (pv 0) rfl) (pv 1) (fun _ _=>rfl)) T.Zb T.Wo (Yo T) hr.m T.Qq .nil Ka (za (pv 2) (za (pv 3) Qa)))) (va (Ja (jk (PW.pt (jJ (Qh (ya (pv 4) rfl)) (qU (Qh (ya (pv 4) rfl))))) ua (xa (v:= .int (-3)) rfl T.V1 ⟨_,rfl⟩))))),?_⟩⟩;unfold yan at k;refine ⟨_,rfl,wa T hd.wo ⟨_,rfl,hd.ix h0 h1 ⟨_,_,_,rfl,hd.of h1,rfl,_,rfl,_,rfl,A,M,p.toNat,n,g,rfl,hd,h1,fun H1 y dy s1 hy=>⟨_,rfl,yp T hy ⟨_,rfl,ifb (fun e1=>?_) fun e1=>⟨_,rfl,Wl T hy ⟨_,rfl,ifb (fun e2=>?_) fun e2=>?_⟩⟩⟩⟩⟩⟩⟩
  ·rw [if_pos (.inl e1)] at k;exact k _ s1
  ·rw [if_pos (.inr e2)] at k;exact k _ s1
  ·rw [if_neg (by rw [e1,e2];simp)] at k;exact k _ s1
end Mo
namespace Mo
open PySem PySem.Spec PyProof.Rows L2
variable{P:Program}{w:World}{K:PySem.W.Frag}{mg:Str→Option Value}{base:Heap}{t:Yd}
theorem WaN{β:Type}{J:It}{xs:List V}{v:Nat}{tt:TT}{te:TE}{σ:L2.St}{H1:Hp}{D:Addr}{Qd:Hp→Prop}(ys:List β)(f:β→Option V)(hD:H1 D=none)
  (hgo:∀i H,Ua H1 H→i<xs.length→J.go i H) (hyl:∀i H x H',J.yld i H x H'→H'=H∧xs[i]? =some x) (hst:∀H,Ua H1 H→J.stop xs.length H) (hxy:xs.length=ys.length) (hsz:ys.length<sizeLine)
  (hs:∀(i:Nat) (x:V) (y:β) (H:Hp) (N:Hp→Prop) (Y:V→Hp→Prop),xs[i]? =some x→ys[i]? =some y→Ua H1 H→(f y=none→∀H3,Ua H H3→N H3)→(∀z,f y=some z→∀H4,Ua H H4→Y z H4)→
   tt ((wipe σ [v]).set v (some x)) H fun b H3=>if b=true then te ((wipe σ [v]).set v (some x)) H3 Y else N H3)
  (hd:∀H,Ua H1 H→H D=some (.lst (ys.filterMap f))→Qd H):
  ∃W:Nat→Nat→Hp→Prop,(∃m,W 0 m (upd H1 D (.lst [])))∧∀i m H,W i m H→
   (J.stop i H∧Qd H)∨(J.go i H∧∃Nx:Hp→Prop,(∀H',Nx H'→∃m',m'<m∧W (i+1) m' H')∧∀x H',J.yld i H x H'→xam v x (wipe σ [v]) H' fun σ2 H2=>wipe σ2 [v]=wipe σ [v]∧tt σ2 H2 fun b H3=>
    if b=true then te σ2 H3 fun y H4=>∃acc,H4 D=some (.lst acc)∧acc.length<sizeLine∧Nx (upd H4 D (.lst (acc++ [y]))) else Nx H3):=by
 have up:∀{H:Hp} {o:HO},Ua H1 H→Ua H1 (upd H D o):=fun {H o} s b u e=>by rw [Va (Qb e hD)];exact s b u e
 refine ⟨fun i m H=>m=xs.length-i∧i≤xs.length∧Ua H1 H∧H D=some (.lst ((ys.take i).filterMap f)),⟨xs.length,by simp,Nat.zero_le _,up (Ua.refl _),Ya⟩,?_⟩
 rintro i m H ⟨rfl,hi,s,e⟩
 by_cases XF:i<xs.length
 ·refine .inr ⟨hgo i H s XF,fun H'=>Ua H1 H'∧H' D=some (.lst ((ys.take (i+1)).filterMap f)),fun H' p'=>⟨xs.length- (i+1),by omega,rfl,XF,p'.1,p'.2⟩,fun x H' y=>?_⟩;obtain ⟨rfl,hx⟩:=hyl i H x H' y;have hi2:i<ys.length:=by rw [←hxy];exact XF
  have hy:ys[i]? =some ys[i]:=List.getElem?_eq_getElem hi2;refine ⟨waP σ v x,hs i x ys[i] H' _ _ hx hy s (fun hf H3 s3=>⟨s.trans s3,?_⟩) fun z hf H4 s4=>⟨_,s4 _ _ e,?_,up (s.trans s4),?_⟩⟩
  ·rw [s3 _ _ e,zw hy,List.filterMap_append,List.filterMap_cons,hf];simp
  ·have h1:((ys.take i).filterMap f).length≤(ys.take i).length:=List.length_filterMap_le _ _;rw [List.length_take] at h1;omega
  ·rw [Ya,zw hy,List.filterMap_append,List.filterMap_cons,hf];rfl
 ·have ei:i=xs.length:=by omega
  subst ei;exact .inl ⟨hst H s,hd H s (by rw [e,hxy,List.take_length])⟩
theorem qbl{d:Addr}{o:Obj}{α:Type}(l:List α)(k:α→List Key)(f:α→V):∀i H x H',(qbd d o (l.map fun a=>(k a,f a))).yld i H x H'→H'=H∧(l.map f)[i]? =some x:=by
 rintro i H x H' ⟨e,q,h⟩
 refine ⟨e,?_⟩;rw [List.getElem?_map] at h⊢;cases z:l[i]? with
 | none=>rw [z] at h;cases h
 | some a=>
  rw [z] at h;have:=Option.some.inj h;injection this with _ h2;rw [←h2];rfl
theorem Qbr{d:Addr}{o:Obj}{α:Type}(l:List α)(k:α→Key)(f:α→V):∀i H x H',(Itd d o (l.map fun a=>(k a,f a))).yld i H x H'→H'=H∧(l.map f)[i]? =some x:=by
 rintro i H x H' ⟨e,q,h⟩
 refine ⟨e,?_⟩;rw [List.getElem?_map] at h⊢;cases z:l[i]? with
 | none=>rw [z] at h;cases h
 | some a=>
  rw [z] at h;have:=Option.some.inj h;injection this with _ h2;rw [←h2];rfl
theorem unlock{H H':Hp}{d:Addr}{u:HO}{od:Obj}(hd:H d=some u)(s:Ua (upd H d (.frz od u)) H'):H' d=some (.frz od u)∧Ua H (upd H' d u):=by
 refine ⟨s _ _ Ya,fun b o e=>?_⟩;by_cases z:b=d
 ·subst z;rw [hd] at e;cases e;exact Ya
 ·rw [Va z];exact s _ _ (by rw [Va z];exact e)
def Jbh:Pos:=⟨161,33,161,58⟩
def ubq:Str:=(Str.ofString "Office.known_claims"++".<locals>.")++"<lambda>"
abbrev Z9(P:Addr)(H:Hp):Prop:=Tb P Jbh ubq H
theorem Tb.same{P:Addr}{pos:Pos}{q:Str}{H H':Hp}(h:Tb P pos q H)(s:Ua H H'):Tb P pos q H':=by
 rcases h with h | ⟨c,h1,h2⟩
 ·exact .inl (s _ _ h)
 ·exact .inr ⟨c,s _ _ h1,s _ _ h2⟩
structure Lb(mg:Str→Option Value)(base:Heap)(t:Yd)(kc kp:Addr):Prop where
 bm:Bm mg base kc kp
 code:t.xh.code= .ref kc
section
variable{P:Program}{w:World}{K:PySem.W.Frag}{mg:Str→Option Value}{base:Heap}
theorem ua8{x qual:Str}{st:Stmt}{f:Addr}{fd:FuncData}{N ps:List Str}{k:Nat}{sp:Sp}{cd:Value}(F:Ke K x qual st f fd)(hc:fd.code=cd)(S:Wa N ps (ka st))(len:∀vs H Q E,sp vs H Q E→vs.length=ps.length)
  (JaI:∀(A:Around) (outer:List Env) (s:Shared) (H:Hp) (vs:List V) (Q:VK) (E:XK),jo k (A.deeper (envOfC qual (ka st) s.heap.objs.size f cd))→sp vs H Q E→
   ∃t,PSs (WaC ke P w K mg base N qual (ka st) f cd A outer s H E).nox (xG st) t∧t {nx:=fun _ H'=>Q .non H',rt:=Q} (start N vs) H):wb P w K mg base ke (k+1) f fd ps sp:=by
 obtain ⟨oc,od,kV,doc,pm,an,uK,ct,osl,rfl,lk,xN⟩:=F.ex;have e:uK=cd:=hc;subst e;refine jbc lk xN S len fun A outer s H vs Q E hr hsp=>?_;obtain ⟨t,h,q⟩:=JaI A outer s H vs Q E hr hsp;exact ⟨t,h.nox,q⟩
end
theorem UaT:∀{l' l:List (Int×Addr)},l.Perm l'→l.Pairwise (fun p q=>p.1≤q.1)→l'.Pairwise (fun p q=>p.1<q.1)→l=l'
 | [],l,h,_,_=>List.Perm.eq_nil h
 | y::r, [],h,_,_=>by cases h.length_eq
 | y::r,x::t,h,h1,h2=>by
  have e:x=y:=by
   have hx:x∈y::r:=h.mem_iff.mp List.mem_cons_self;have hy:y∈x::t:=h.mem_iff.mpr List.mem_cons_self;rcases List.mem_cons.mp hx with z | z
   ·exact z
   ·rcases List.mem_cons.mp hy with w | w
    ·exact w.symm
    ·have a:=(List.pairwise_cons.mp h2).1 x z;have b:=(List.pairwise_cons.mp h1).1 y w;omega
  subst e;rw [UaT (List.Perm.cons_inv h) (List.pairwise_cons.mp h1).2 (List.pairwise_cons.mp h2).2]
theorem yaQ{M:Mw}{A:Ad}{i:Nat}{n:Int}:(M.Kc i).filterMap (fun k=>if k.1=n∧(Yf M i k.1 k.2).known=true then some (V.ref (A.ad (.cl i k.1 k.2))) else none)=(qd M i n).map fun p=>V.ref (A.ad (.cl i n p.1)):=by
 unfold qd;rw [List.map_map];induction M.Kc i with
 | nil=>rfl
 | cons k r ih=>
  rw [List.filterMap_cons,List.filter_cons,ih];by_cases h:k.1=n∧(Yf M i k.1 k.2).known=true
  ·rw [if_pos h,if_pos (by simp [h.1];rw [←h.1];exact h.2),List.map_cons];show V.ref (A.ad (.cl i k.1 k.2))::_=V.ref (A.ad (.cl i n k.2))::_;rw [h.1]
  ·rw [if_neg h,if_neg (by simpa using h)]
theorem Jae{c:Cs}{H:Hp}{A:Ad}{M:Mw}(h:Holds c H A M){i:Nat}{n:Int}(hi:i<M.k){p:Int×Jn}(hp:p∈qd M i n):M.cl i n p.1=some p.2:=by
 unfold qd at hp;obtain ⟨k,hk,rfl⟩:=List.mem_map.mp hp;obtain ⟨h1,h2⟩:=List.mem_filter.mp hk;have e:k.1=n:=by simp at h2;exact h2.1
 obtain ⟨x,hx,hc⟩:=yK h hi (n:=k.1) (g:=k.2) h1;show M.cl i n k.2=some (Yf M i k.1 k.2);rw [hc,←hx,e]
theorem zaj{M:Mw}{i:Nat}{n:Int}:(qd M i n).length≤(M.Kc i).length:=by
 unfold qd;rw [List.length_map];exact List.length_filter_le _ _
def zZ(t:Yd)(P:Addr):Sp:=fun vs H Q _=>∃(A:Ad) (M:Mw) (i:Nat) (n:Int),vs= [.ref (A.ad (.of i)), .int n]∧Holds t.c H A M∧i<M.k∧(M.Kc i).length<sizeLine∧Z9 P H∧((qd M i n).map (·.1)).Pairwise (· < ·)∧∀(H':Hp) (D:Addr),Z9 P H'→JC P H H'→H D=none→H' D=some (.lst ((qd M i n).map fun p=>V.ref (A.ad (.cl i n p.1))))→Q (.ref D) H'
theorem qC{kc kp:Addr}(T:Txt K mg t)(B:Lb mg base t kc kp):wb P w K mg base ke 2 t.vk t.xh ["self","n"] (zZ t kp):=by
 refine ua8 T.xC B.code Xo (fun vs H Q E h=>?_) (fun A outer s H vs Q E hr h=>?_)
 ·obtain ⟨A,M,i,n,rfl,hd,hi,hz,tb,hs,_⟩:=h;rfl
 ·obtain ⟨A,M,i,n,rfl,hd,hi,hz,tb,hs,k⟩:=h;refine ⟨_,(Za (JaE (kS (i:=2) (tt:=(qbk (Yaf (tOp rEq (Z8 K (Km 3) "order") (Km 1))) (tB (Z8 K (Km 3) "known")))) (te:=(Km 3)) rfl Xo.nd rfl rfl (V3 rfl rfl rfl rfl) (vat (ya (pv 0) rfl)) (Wh (own:= [("claim",3)]) rfl) (fun _ _ _ _ _=>jg (i:=3) Xo.nd rfl (Or.inl rfl)) (fun _ _ _ _ _=>(yH (PW.pt (qaO (Kb Vf (ya (pv 3) rfl) (pv 1) (Zc _)) (vaE (Qh (ya (pv 3) rfl))))))) (fun _ _ _ _ _=>(pv 3)))) (va (Ja (va5 (pv 2) hr B.bm rfl rfl (by rfl) T.Ya4 PyProof.Rows.boot_sorted rfl rfl T.Jf T.ZL (fun _ _ _ _=>rfl) rfl rfl rfl (by decide) rfl rfl)))),?_⟩;have xN:=hd.cd hi;have KD:∀{b:Addr} {C dx:Addr} {fs:List (Str×V)} {od:Obj},H b=some (.ins C dx fs)→upd H (A.ad (.cd i)) (.frz od (.dT ((M.Kc i).map fun k=>([Sum.inl k.1,Sum.inl k.2],V.ref (A.ad (.cl i k.1 k.2)))))) b=some (.ins C dx fs):=fun {b C dx fs od} e=>by
   rw [Va (fun z=>by rw [z,xN] at e;cases e)];exact e
  refine ⟨A.ad (.cd i),_,xN,trivial,fun od=>⟨_,rfl,Kt T (KD (hd.of hi)) ⟨_,_,_,rfl,Ya,fun D hD=>WaN (xs:=(M.Kc i).map fun k=>V.ref (A.ad (.cl i k.1 k.2))) (M.Kc i) (fun k=>if k.1=n∧(Yf M i k.1 k.2).known=true then some (V.ref (A.ad (.cl i k.1 k.2))) else none) hD (fun j H2 s2 hj=>⟨s2 _ _ Ya,by rw [List.length_map] at hj⊢;exact hj⟩) (qbl (M.Kc i) _ _) (fun H2 s2=>⟨s2 _ _ Ya,by rw [List.length_map,List.length_map];exact Nat.le_refl _⟩) (by rw [List.length_map]) hz ?_ ?_⟩⟩⟩
  ·intro j x y H2 N Y hx hy s2 hN hY;have hx:x=V.ref (A.ad (.cl i y.1 y.2)):=by
    rw [List.getElem?_map,hy] at hx;exact (Option.some.inj hx).symm
   subst hx;obtain ⟨c0,hc0,ec⟩:=yK hd hi (n:=y.1) (g:=y.2) (List.mem_of_getElem? hy);have f:=s2 _ _ (KD (od:=od) (hd.cl hi hc0));refine ⟨_,rfl,Y8 T f ⟨_,rfl,rfl,_,rfl,yg (fun h=>⟨_,rfl,jA T f ⟨_,rfl,ifb (fun e=>⟨_,rfl,hY _ (if_pos ⟨V.int.inj h,by rw [ec];exact e⟩) _ (Ua.refl _)⟩) fun e=>hN (if_neg fun z=>by rw [ec,e] at z;cases z.2) _ (Ua.refl _)⟩⟩) fun h=>Xad (hN (if_neg fun z=>h (by rw [z.1])) _ (Ua.refl _))⟩⟩
  ·intro H2 s2 Uv;obtain ⟨u1,u2⟩:=unlock xN s2;rw [yaQ] at Uv;have dne:D≠A.ad (.cd i):=fun z=>by rw [z,Ya] at hD;cases hD
   have hD3:H D=none:=by rw [Va dne] at hD;exact hD
   have Jk:=hd.same u2;have hD4:(upd H2 (A.ad (.cd i)) (.dT ((M.Kc i).map fun k=>([Sum.inl k.1,Sum.inl k.2],V.ref (A.ad (.cl i k.1 k.2)))))) D=some (.lst ((qd M i n).map fun p=>V.ref (A.ad (.cl i n p.1)))):=by rw [Va dne];exact Uv
   refine ⟨u1,_,rfl,D,(qd M i n).map (fun p=>A.ad (.cl i n p.1)),(qd M i n).map (·.1),rfl,xb.of (by rw [hD4,List.map_map];rfl),by rw [List.length_map,List.length_map],by rw [List.length_map];exact Nat.le_of_lt (Nat.lt_of_le_of_lt zaj hz),?_,Tb.same tb u2,?_⟩
   ·intro j a kk h1 h2;rw [List.getElem?_map] at h1 h2;cases e:(qd M i n)[j]? with
    | none=>rw [e] at h1;cases h1
    | some p=>
     rw [e] at h1 h2;have h1:A.ad (.cl i n p.1)=a:=Option.some.inj h1;have h2:p.1=kk:=Option.some.inj h2;subst h1 h2;have hx:=Jae hd hi (List.mem_of_getElem? e);exact ⟨_,_,Jk.cl hi hx,J6⟩
   ·intro H4 D4 ps tb4 sb hD5 hp Vbt;have ez:ps=((qd M i n).map (·.1)).zip ((qd M i n).map (fun p=>A.ad (.cl i n p.1))):=UaT hp Vbt (by
     rw [List.zip_map',List.pairwise_map];rw [List.pairwise_map] at hs;exact hs)
    rw [List.zip_map'] at ez;have nP:D4≠kp:=by
     obtain ⟨ps',z⟩:=tb4.at_
     exact fun e=>by rw [e,z] at hD5;cases hD5
    have s4:Ua H4 (upd H4 D4 (.lst (ps.map fun p=>V.ref p.2))):=Ua.new hD5;have nH:H D4=none:=by
     cases q:H D4 with
     | none=>rfl
     | some o=>
      have:=sb D4 o nP (u2 _ _ q);rw [hD5] at this;cases this
    refine k _ D4 (Tb.same tb4 s4) (fun b o nb e=>s4 _ _ (sb b o nb (u2 _ _ e))) nH ?_;rw [Ya,ez,List.map_map];rfl
end Mo
namespace Mo
open PySem PySem.Spec PyProof.Rows L2
variable{P:Program}{w:World}{K:PySem.W.Frag}{mg:Str→Option Value}{base:Heap}{t:Yd}
section
variable{c:Cs}{H H1 H' H2:Hp}{A A' A2:Ad}{M M' M2:Mw}{ex:Addr→Prop}{P:Addr}{ps:Array Value}
theorem Xa3{p:Pl}{o:HO}(h:cont c A M p=some o):o≠ .tbl ps:=by
 rintro rfl
 cases p with
 | wo=>cases h
 | VJ=>cases h
 | kT=>cases h
 | ms j=>
  obtain ⟨m,_,e⟩:=Option.map_eq_some_iff.mp (show (M.ms[j]?).map _=some _ from h);cases e
 | of i=>
  have h:(if i<M.k then some _ else none)=some _:=h;split at h<;>cases h
 | jl i=>
  have h:(if i<M.k then some _ else none)=some _:=h;split at h<;>cases h
 | od i=>
  have h:(if i<M.k then some _ else none)=some _:=h;split at h<;>cases h
 | cd i=>
  have h:(if i<M.k then some _ else none)=some _:=h;split at h<;>cases h
 | ord i n=>
  have h:(if i<M.k then (M.ord i n).map _ else none)=some _:=h;split at h
  ·obtain ⟨m,_,e⟩:=Option.map_eq_some_iff.mp h;cases e
  ·cases h
 | gl i n=>
  have h:(if i<M.k then (M.ord i n).map _ else none)=some _:=h;split at h
  ·obtain ⟨m,_,e⟩:=Option.map_eq_some_iff.mp h;cases e
  ·cases h
 | gr i n k=>
  have h:(if i<M.k then (M.ord i n).bind _ else none)=some _:=h;split at h
  ·obtain ⟨m,_,h⟩:=Option.bind_eq_some_iff.mp h;obtain ⟨g,_,e⟩:=Option.map_eq_some_iff.mp h;cases e
  ·cases h
 | cl i n g=>
  have h:(if i<M.k then (M.cl i n g).map _ else none)=some _:=h;split at h
  ·obtain ⟨m,_,e⟩:=Option.map_eq_some_iff.mp h;cases e
  ·cases h
theorem Holds.sb(h:Holds c H A M)(tb:H P=some (.tbl ps))(s:JC P H H'):Holds c H' A M:=by
 have tu:∀{t xs},H t=some (.tup xs)→H' t=some (.tup xs):=fun {t xs} e=>s _ _ (fun z=>by rw [z,tb] at e;cases e) e
 have ac:∀{x C dx fs},H x=some (.ins C dx fs)→H' x=some (.ins C dx fs):=fun {x C dx fs} e=>s _ _ (fun z=>by rw [z,tb] at e;cases e) e
 refine ⟨fun p o e=>s _ _ (fun z=>?_) (h.at_ p o e),h.inj,fun i hi=>Paired.Uao (h.jr i hi) fun r t q=>?_,fun i a hi e=>?_,h.wd⟩
 ·have:=h.at_ p o e
  rw [z,tb] at this;exact Xa3 e (Option.some.inj this).symm
 ·cases r with
  | bank n=>exact tu q
  | begun a=>obtain ⟨x,dx,y,h1,h2⟩:=q;exact ⟨x,dx,y,tu h1,ac h2⟩
  | done a=>obtain ⟨x,dx,y,h1,h2⟩:=q;exact ⟨x,dx,y,tu h1,ac h2⟩
  | other=>obtain ⟨x,xs,h1,h2⟩:=q;exact ⟨x,xs,tu h1,h2⟩
 ·obtain ⟨t,x,dx,h1,h2,h3,h4⟩:=h.pend i a hi e;exact ⟨t,x,dx,h1,tu h2,ac h3,h4⟩
theorem Kp.sb(tb:Z9 P H')(s:JC P H H'):Kp c (fun b=>b=P) H A M H' A M:=by
 refine ⟨rfl,fun b o nb e n=>⟨s b o nb e,n⟩,fun b e=>?_⟩;cases q:H b with
 | none=>rfl
 | some o=>
  exfalso;by_cases z:b=P
  ·obtain ⟨ps,w⟩:=tb.at_
   rw [z,w] at e;cases e
  ·have:=s b o z q;rw [e] at this;cases this
def ubr(A:Ad)(i:Nat)(n:Int):Option (Int×Jn)→V
 | none=> .non
 | some p=> .ref (A.ad (.cl i n p.1))
theorem vO{α:Type}(q:α→Bool)(f:α→V):∀l:List α,l.filterMap (fun p=>if q p=true then some (f p) else none)=(l.filter q).map f
 | []=>rfl
 | a::r=>by
  rw [List.filterMap_cons,List.filter_cons,vO q f r];by_cases h:q a=true
  ·rw [if_pos h,if_pos h];rfl
  ·rw [if_neg h,if_neg h]
end
def zah(t:Yd)(P:Addr):Sp:=fun vs H Q _=>∃(A:Ad) (M:Mw) (i:Nat) (n:Int),vs= [.ref (A.ad (.of i)), .int n]∧Holds t.c H A M∧i<M.k∧(M.Kc i).length<sizeLine∧Z9 P H∧((qd M i n).map (·.1)).Pairwise (· < ·)∧∀(H':Hp),Z9 P H'→JC P H H'→Q (ubr A i n (Kg M i n)) H'
theorem kq{kc kp:Addr}(T:Txt K mg t)(B:Lb mg base t kc kp):wb P w K mg base ke 3 t.Ut t.Jt ["self","n"] (zah t kp):=by
  refine T.vW.kf qB fun vs H Q E h=>?_;obtain ⟨A,M,i,n,rfl,hd,hi,hz,tb,hs,k⟩:=h;refine ⟨rfl,fun _ _ _ _ hr=>⟨_,(Za (kS (i:=2) (tt:=(tB (Qax t.c.claim "may_pay" (xV t) [] E0 (Km 3) vae))) (te:=(Km 3)) rfl qB.nd rfl rfl (V3 rfl rfl rfl rfl) (Xn (Yc (pv 0) T.Zb T.xB (qC T B) hr.m T.qD .nil Ka (za (pv 1) Qa))) (Wh (own:= [("claim",3)]) rfl) (fun _ _ _ _ _=>jg (i:=3) qB.nd rfl (Or.inl rfl)) (fun _ _ _ _ _=>(yH (Qh (qf (pv 3) T.Jf T.xak (vak T) hr.m T.Jap .nil Ka)))) (fun _ _ _ _ _=>(pv 3))) (va (Ja (jk (XaN (pv 2) (fun _=>rfl)) (Vb Xa (pv 2) (WX xH ua) (fun _ _=>rfl)) XM)))),?_⟩⟩;refine ⟨_,rfl,_,_,_,rfl,hd.of hi,rfl,_,rfl,A,M,i,n,rfl,hd,hi,hz,tb,hs,fun H1 D1 J8 sb nD1 hD1=>?_⟩;obtain ⟨pt,hpt⟩:=tb.at_
  have Kd:=hd.sb hpt sb;refine ⟨_,rfl,⟨_,xb.of hD1⟩,fun D hD=>Vp (xs:=(qd M i n).map fun p=>V.ref (A.ad (.cl i n p.1))) (qd M i n) (fun p=>if UU p.2=true then some (V.ref (A.ad (.cl i n p.1))) else none) hD (xb.of hD1) (by rw [List.length_map]) (Nat.lt_of_le_of_lt zaj hz) ?_ ?_⟩
  ·intro j x y H2 N Y hx hy s2 hN hY;have hx:x=V.ref (A.ad (.cl i n y.1)):=by
    rw [List.getElem?_map,hy] at hx;exact (Option.some.inj hx).symm
   subst hx;have f:=(Kd.same s2).cl hi (Jae hd hi (List.mem_of_getElem? hy));exact ⟨_,rfl,_,_,_,rfl,f,rfl,_,_,_,_,_,rfl,f,_,rfl,ifb (fun e=>⟨_,rfl,hY _ (if_pos e) _ (Ua.refl _)⟩) fun e=>hN (if_neg (by rw [e];decide)) _ (Ua.refl _)⟩
  ·intro H2 s2 Uv;rw [vO] at Uv;have sb2:JC kp H H2:=fun b o nb e=>s2 _ _ (sb b o nb e);have tb2:=Tb.same J8 s2;unfold Kg at k;rcases List.eq_nil_or_concat ((qd M i n).filter fun p=>UU p.2) with e | ⟨zs,z,e⟩
   ·rw [e] at Uv k;refine ⟨_,rfl,_,_,rfl,xb.of Uv,Xad (k H2 tb2 sb2)⟩
   ·rw [List.concat_eq_append] at e;rw [e,List.map_append] at Uv;rw [e,List.getLast?_concat] at k;refine ⟨_,rfl,_,_,rfl,xb.of Uv,?_⟩;rw [show (!((zs.map fun p=>V.ref (A.ad (.cl i n p.1)))++ [z].map fun p=>V.ref (A.ad (.cl i n p.1))).isEmpty)=true by simp];exact waw ⟨_,rfl,_,rfl,_,_,_,_,rfl,rfl,xb.of Uv,X0 _ _,k H2 tb2 sb2⟩
def Yav(t:Yd)(P:Addr):Sp:=fun vs H Q _=>∃(A:Ad) (M:Mw) (p n:Int),vs= [.ref (A.ad .wo), .int p, .int n]∧Holds t.c H A M∧0≤p∧p.toNat<M.k∧(M.Kc p.toNat).length<sizeLine∧Z9 P H∧((qd M p.toNat n).map (·.1)).Pairwise (· < ·)∧∀(H':Hp),Z9 P H'→JC P H H'→Q (.int (if (Kg M p.toNat n).isSome=true then 0 else-3)) H'
theorem Yaw{kc kp:Addr}(T:Txt K mg t)(B:Lb mg base t kc kp):wb P w K mg base ke 4 t.zF t.yF ["world","p","n"] (Yav t kp):=by
  refine T.wR.kf Waw fun vs H Q E h=>?_;obtain ⟨A,M,p,n,rfl,hd,h0,h1,hz,tb,hs,k⟩:=h;refine ⟨rfl,fun _ _ _ _ hr=>⟨_,(va (Ja (jk (yn (Qz (Yc (Vb Xa (ya (pv 0) rfl) (pv 1) (fun _ _=>rfl)) T.Zb T.Zq (kq T B) hr.m T.Yt .nil Ka (za (pv 2) Qa)))) (xa (v:= .int (-3)) rfl T.V1 ⟨_,rfl⟩) ua))),?_⟩⟩;refine ⟨_,rfl,wa T hd.wo ⟨_,rfl,hd.ix h0 h1 ⟨_,_,_,rfl,hd.of h1,rfl,_,rfl,A,M,p.toNat,n,rfl,hd,h1,hz,tb,hs,fun H1 J8 sb=>?_⟩⟩⟩;cases e:Kg M p.toNat n with
  | none=>
   rw [e] at k;exact ⟨_,rfl,yg (fun _=>k H1 J8 sb) fun h=>absurd rfl h⟩
  | some x=>
   rw [e] at k;exact ⟨_,rfl,yg (fun h=>by cases h) fun _=>k H1 J8 sb⟩
theorem uaO{c:Cs}{H:Hp}{A:Ad}{M:Mw}(h:Holds c H A M){i:Nat}{n:Int}(hi:i<M.k){x:Int×Jn}(e:Kg M i n=some x):M.cl i n x.1=some x.2:=by
 unfold Kg at e;have:=List.mem_of_getLast? e;exact Jae h hi (List.mem_filter.mp this).1
def Uaq(t:Yd)(P:Addr):Sp:=fun vs H Q _=>∃(A:Ad) (M:Mw) (p n:Int),vs= [.ref (A.ad .wo), .int p, .int n]∧Holds t.c H A M∧0≤p∧p.toNat<M.k∧(M.Kc p.toNat).length<sizeLine∧Z9 P H∧((qd M p.toNat n).map (·.1)).Pairwise (· < ·)∧∀(H':Hp),Z9 P H'→JC P H H'→Q (.int (Kad M p n)) H'
theorem Zaq{kc kp:Addr}(T:Txt K mg t)(B:Lb mg base t kc kp):wb P w K mg base ke 4 t.Uz t.wz ["world","p","n"] (Uaq t kp):=by
  refine T.WK.kf uH fun vs H Q E h=>?_;obtain ⟨A,M,p,n,rfl,hd,h0,h1,hz,tb,hs,k⟩:=h;refine ⟨rfl,fun _ _ _ _ hr=>⟨_,(Za (qb (i:=3) uH.nd rfl (Or.inl rfl) (Vb Xa (ya (pv 0) rfl) (pv 1) (fun _ _=>rfl))) (Za (qb (i:=4) uH.nd rfl (Or.inl rfl) (Yc (pv 3) T.Zb T.Zq (kq T B) hr.m T.Yt .nil Ka (za (pv 2) Qa))) (Za (Jb (yn (Qz (pv 4))) (va (Ja (xa (v:= .int (-3)) rfl T.V1 ⟨_,rfl⟩))) zb) (Za (Jb (Kb kaP (Yc (pv 0) T.Wc T.Vi (vi T) hr.m T.Wj .nil Ka (za (pv 1) Qa)) (ya (pv 4) rfl) (Zc _)) (va (Ja (xa (v:= .int (-4)) rfl T.zaC ⟨_,rfl⟩))) zb) (Za (Jb (Kb qax (ya (pv 3) rfl) (ya (pv 4) rfl) (Zc _)) (va (Ja (xa (v:= .int (-7)) rfl T.YaU ⟨_,rfl⟩))) zb) (va (Ja ua))))))),?_⟩⟩;refine ⟨_,rfl,wa T hd.wo ⟨_,rfl,hd.ix h0 h1 ⟨_,rfl,_,_,_,rfl,hd.of h1,rfl,_,rfl,A,M,p.toNat,n,rfl,hd,h1,hz,tb,hs,fun H1 J8 sb=>?_⟩⟩⟩;obtain ⟨pt,hpt⟩:=tb.at_
  have Kd:=hd.sb hpt sb;unfold Kad at k;cases e:Kg M p.toNat n with
  | none=>
   rw [e] at k;exact ⟨_,rfl,_,rfl,yg (fun _=>k H1 J8 sb) fun h=>absurd rfl h⟩
  | some x=>
   rw [e] at k;have k:∀H',Z9 kp H'→JC kp H H'→Q (.int (if x.2.uk≤zd M p.toNat then-4 else if M.drawer p.toNat<x.2.vb then-7 else 0)) H':=k;have f:=Kd.cl h1 (uaO hd h1 e);refine ⟨_,rfl,_,rfl,yg (fun h=>by cases h) fun _=>⟨_,rfl,_,_,_,rfl,Kd.wo,rfl,_,rfl,A,M,p,rfl,Kd,h0,h1,⟨_,rfl,qR T f ⟨_,_,rfl,rfl,_,rfl,yg (fun h2=>?_) fun h2=>⟨_,rfl,Xh T (Kd.of h1) ⟨_,rfl,Kr T f ⟨_,_,rfl,rfl,_,rfl,yg (fun h3=>?_) fun h3=>?_⟩⟩⟩⟩⟩⟩⟩
   ·have:=k H1 J8 sb;rw [if_pos h2] at this;exact this
   ·have:=k H1 J8 sb;rw [if_neg h2,if_pos h3] at this;exact this
   ·have:=k H1 J8 sb;rw [if_neg h2,if_neg h3] at this;exact this
end Mo
namespace Mo
open PySem PySem.Spec PyProof.Rows L2
variable{P:Program}{w:World}{K:PySem.W.Frag}{mg:Str→Option Value}{base:Heap}{t:Yd}
abbrev ZU:Addr→Prop:=fun _=>False
section
variable{c:Cs}{H H1 H' H2:Hp}{A A' A2:Ad}{M M' M2:Mw}{ex:Addr→Prop}{p:Addr}{Q:VK}
theorem vc.ref{R a:Int}{X:Mw×List Int}(k:vc c ex H A M (if R=0 then X else (M, [R])) Q)(hd:Holds c H1 A M)(e:Kp c ex H A M H1 A M)(hp:H1 p=none)(hR:R=a)(ha:a≠0):Q (.ref p) (upd H1 p (.lst [.int a])):=by
 subst hR;rw [if_neg ha] at k;exact k.lst (ns:= [R]) hd e hp rfl
theorem vc.pos{R:Int}{X Y:Mw×List Int}(k:vc c ex H A M (if R=0 then X else Y) Q)(hR:R=0):vc c ex H A M X Q:=by
 rw [if_pos hR] at k;exact k
theorem one_le:1≤sizeLine:=by rw [sizeLine_eq];decide
theorem yi{o:Int}(h:uj M o=0):0≤o∧o.toNat<M.k∧M.up o.toNat=true:=by
 unfold uj Wb at h;split at h
 ·rename_i h1;refine ⟨(JS h1).1,(JS h1).2,?_⟩;unfold WS at h;split at h
  ·assumption
  ·cases h
 ·exact absurd h (by assumption)
theorem Holds.Kbm(h:Holds c H A M)(z:Int):Holds c (upd H (A.ad .wo) (.ins c.Qg (A.dd .wo) (uc "time" (.int z) (XE A M)))) A {M with time:=z}∧Ext c ex H A M (upd H (A.ad .wo) (.ins c.Qg (A.dd .wo) (uc "time" (.int z) (XE A M)))) A {M with time:=z}:=by
 refine h.write (p:= .wo) (o:= .ins c.Qg (A.dd .wo) (XE A M)) rfl rfl (fun q hq=>?_) wbb rfl rfl h.wd;cases q with
 | wo=>exact absurd rfl hq
 | _=>rfl
end
section
variable{c:Cs}{H H1 H' H2:Hp}{A A' A2:Ad}{M M' M2:Mw}{ex:Addr→Prop}{p:Addr}{Q:VK}
theorem Sz.mono{d d':Nat}(z:Sz M d)(h:d'≤d):Sz M d':=
 ⟨z.k,fun i hi=>by have:=z.jr i hi;omega,by have:=z.ms;omega,fun i hi=>by have:=z.ub i hi;omega,fun i hi=>by have:=z.Kc i hi;omega,fun i n o hi ho=>by have:=z.gs i n o hi ho;omega⟩
theorem eof(e:Ext c ex H A M H' A' M'){i:Nat}(hi:i<M.k):A'.ad (.of i)=A.ad (.of i):=(e.ad _ (vaI hi)).1
theorem Holds.zbo(h:Holds c H A M){j:Nat}{m:Je}(hj:M.ms[j]? =some m):Holds c (upd H (A.ad (.ms j)) (.ins c.message (A.dd (.ms j)) (uc "gone" (.bl true) (Uk m)))) A {M with ms:=M.ms.modify j fun x=>{x with gone:=true}}∧Ext c ex H A M (upd H (A.ad (.ms j)) (.ins c.message (A.dd (.ms j)) (uc "gone" (.bl true) (Uk m)))) A {M with ms:=M.ms.modify j fun x=>{x with gone:=true}}:=by
 refine h.write (p:= .ms j) (o:= .ins c.message (A.dd (.ms j)) (Uk m)) (by show (M.ms[j]?).map _=_;rw [hj];rfl) ?_ (fun q hq=>?_) Qbc rfl rfl h.wd
 ·show ((M.ms.modify j fun x=>{x with gone:=true})[j]?).map _=_;rw [List.getElem?_modify_eq,hj];rfl
 ·cases q with
  | ms i=>
   show ((M.ms.modify j fun x=>{x with gone:=true})[i]?).map _=(M.ms[i]?).map _;rw [List.getElem?_modify];have:j≠i:=fun z=>hq (by rw [z])
   simp [this]
  | kT=>
   show some (HO.lst ((List.range (M.ms.modify j fun x=>{x with gone:=true}).length).map _))=some (HO.lst ((List.range M.ms.length).map _));rw [List.length_modify]
  | _=>rfl
theorem WaS(M:Mw)(i:Nat):((yd M i).1.jr i).length≤(M.jr i).length+1:=by
 unfold yd;split
 ·split
  ·show ((ye M.jr i (M.jr i++ [_]) i)).length≤_;rw [Ub,List.length_append];simp
  ·unfold Qm;split
   ·show ((ye M.jr i (M.jr i++ [_]) i)).length≤_;rw [Ub,List.length_append];simp
   ·split
    ·show ((ye M.jr i (M.jr i++ [_]) i)).length≤_;rw [Ub,List.length_append];simp
    ·show ((ye M.jr i (M.jr i++ [_]) i)).length≤_;rw [Ub,List.length_append];simp
 ·exact Nat.le_succ _
theorem Ya5(M:Mw)(i:Nat):(yd M i).1.k=M.k:=by
 unfold yd;split
 ·split
  ·rfl
  ·exact (yae _ _ _).k
 ·rfl
end
def WaR(t:Yd):Sp:=fun vs H Q _=>∃(A:Ad) (M:Mw) (n:Int),vs= [.ref (A.ad .wo), .int n]∧Holds t.c H A M∧vc t.c ZU H A M (K9 M n) Q
theorem yaT(T:Txt K mg t):wb P w K mg base ke 2 t.Q8 t.W5 ["world","n"] (WaR t):=by
  refine T.yak.kf kas fun vs H Q E h=>?_;obtain ⟨A,M,n,rfl,hd,k⟩:=h;refine ⟨rfl,fun _ _ _ _ hr=>⟨_,(Za (qb (i:=2) kas.nd rfl (Or.inl rfl) (Ud (ja (Vh T) hr.m rfl T.Zj T.Yh.kp T.zj .nil Ka (za (pv 1) (za ua (za (xa (v:= .int (1000000)) rfl T.Y5 ⟨_,rfl⟩) Qa)))) (qp (ja (Vh T) hr.m rfl T.Zj T.Yh.kp T.zj .nil Ka (za (Vs qx (ya (pv 0) rfl) (pv 1)) (za ua (za (xa (v:= .int (1000000000)) rfl T.YaM ⟨_,rfl⟩) Qa))))))) (Za (Jb (Vl (pv 2) (fun _=>rfl)) (va (Ja (Qc (za (pv 2) Qa)))) zb) (Za (k7 (pv 0) (pv 1) jaA) (va (Ja (Qc (za (ya (pv 0) rfl) Qa))))))),?_⟩⟩;refine ⟨_,rfl,_,_,_,rfl,_,rfl,VC (fun h1=>⟨_,rfl,ZR T hd.wo ⟨_,rfl,_,_,rfl,rfl,_,_,_,rfl,?_⟩⟩) fun h1=>⟨_,rfl,_,rfl,qm (fun _=>⟨_,rfl,one_le,fun p hp=>k.ref hd (Kp.same (Ua.refl _)) hp (by simp [Wb,h1]) h1⟩) fun z=>absurd z h1⟩⟩;refine ⟨_,rfl,_,rfl,qm (fun h2=>⟨_,rfl,one_le,fun p hp=>k.ref hd (Kp.same (Ua.refl _)) hp (by simp [Wb,h1]) h2⟩) fun h2=>?_⟩;have k:=k.pos (by simp [Wb,h1,h2]);obtain ⟨hd2,e2⟩:=hd.Kbm (ex:=fun _=>False) (M.time+n);exact ⟨_,rfl,_,_,_,_,_,rfl,hd.wo,T.Wc,T.ZS,zab,_,rfl,_,_,rfl,rfl,_,_,hd.wo,nb rfl,⟨_,rfl,ZR T hd2.wo ⟨one_le,fun p hp=>k.lst (ns:= [M.time+n]) hd2 (Kp.ext hd2 e2) hp rfl⟩⟩⟩
def za4(t:Yd):Sp:=fun vs H Q _=>∃(A:Ad) (M:Mw) (o z:Int),vs= [.ref (A.ad .wo), .int o, .int z]∧Holds t.c H A M∧vc t.c ZU H A M (jT M o z) Q
theorem qa4(T:Txt K mg t):wb P w K mg base ke 3 t.yao t.Wan ["world","o","z"] (za4 t):=by
  refine T.yaE.kf uar fun vs H Q E h=>?_;obtain ⟨A,M,o,z,rfl,hd,k⟩:=h;refine ⟨rfl,fun _ _ _ _ hr=>⟨_,(Za (qb (i:=3) uar.nd rfl (Or.inl rfl) (Ud (ja (ql T) hr.m rfl T.vn T.Yj.kp T.Vn .nil Ka (za (pv 0) (za (pv 1) Qa))) (qp (ja (Vh T) hr.m rfl T.Zj T.Yh.kp T.zj .nil Ka (za (pv 2) (za (WX xH (xa (v:= .int (100000)) rfl T.kaa ⟨_,rfl⟩)) (za (xa (v:= .int (100000)) rfl T.kaa ⟨_,rfl⟩) Qa))))))) (Za (Jb (Vl (pv 3) (fun _=>rfl)) (va (Ja (Qc (za (pv 3) Qa)))) zb) (Za (qb (i:=4) uar.nd rfl (Or.inl rfl) (Vb Xa (ya (pv 0) rfl) (pv 1) (fun _ _=>rfl))) (Za (zc (pv 4) (pv 2) rfl) (va (Ja (Qc (za ua (za (Yc (pv 0) T.Wc T.Vi (vi T) hr.m T.Wj .nil Ka (za (pv 1) Qa)) Qa))))))))),?_⟩⟩;refine ⟨_,rfl,_,rfl,A,M,o,rfl,hd,_,rfl,VC (fun h1=>⟨_,rfl,_,rfl,_,_,_,rfl,?_⟩) fun h1=>⟨_,rfl,_,rfl,qm (fun _=>⟨_,rfl,one_le,fun p hp=>k.ref hd (Kp.same (Ua.refl _)) hp (by simp [Wb,h1]) h1⟩) fun z=>absurd z h1⟩⟩;refine ⟨_,rfl,_,rfl,qm (fun h2=>⟨_,rfl,one_le,fun p hp=>k.ref hd (Kp.same (Ua.refl _)) hp (by simp [Wb,h1]) h2⟩) fun h2=>?_⟩;have k:=k.pos (by simp [Wb,h1,h2]);obtain ⟨h0,hi⟩:=JS h1;obtain ⟨hd2,e2⟩:=hd.Kbn (ex:=fun _=>False) hi z;refine ⟨_,rfl,wa T hd.wo ⟨_,rfl,hd.ix h0 hi ⟨_,rfl,_,rfl,uf (hd.of hi) T.Zb T.jE (nb rfl) ⟨_,rfl,_,_,_,rfl,hd2.wo,rfl,_,rfl,A,_,o,rfl,hd2,h0,hi,⟨ZI,fun p hp=>k.lst (ns:= [0,zd {M with off:=ye M.off o.toNat z} o.toNat]) hd2 (Kp.ext hd2 e2) hp ?_⟩⟩⟩⟩⟩;show [0,M.time+z]= [0,M.time+ye M.off o.toNat z o.toNat];rw [Ub]
def xaH(t:Yd):Sp:=fun vs H Q _=>∃(A:Ad) (M:Mw) (o:Int),vs= [.ref (A.ad .wo), .int o]∧Holds t.c H A M∧vc t.c ZU H A M (Xav M o) Q
theorem kaG(T:Txt K mg t):wb P w K mg base ke 4 t.vP t.wO ["world","o"] (xaH t):=by
  refine T.Z4.kf UY fun vs H Q E h=>?_;obtain ⟨A,M,o,rfl,hd,k⟩:=h;refine ⟨rfl,fun _ _ _ _ hr=>⟨_,(Za (qb (i:=2) UY.nd rfl (Or.inl rfl) (ja (ur T) hr.m rfl T.yy T.vp.kp T.Xx .nil Ka (za (pv 0) (za (pv 1) Qa)))) (Za (Jb (Vl (pv 2) (fun _=>rfl)) (va (Ja (Qc (za (pv 2) Qa)))) zb) (Za (qb (i:=3) UY.nd rfl (Or.inl rfl) (Vb Xa (ya (pv 0) rfl) (pv 1) (fun _ _=>rfl))) (Za (zc (pv 3) Zv rfl) (va (Ja (Qc (za ua Qa)))))))),?_⟩⟩;refine ⟨_,rfl,_,rfl,A,M,o,rfl,hd,?_⟩;refine ⟨_,rfl,_,rfl,qm (fun h1=>⟨_,rfl,one_le,fun p hp=>k.ref hd (Kp.same (Ua.refl _)) hp (by simp [Wb,]) h1⟩) fun h1=>?_⟩;have k:=k.pos h1;obtain ⟨h0,hi,_⟩:=yi h1;obtain ⟨hd2,e2⟩:=hd.up' (ex:=fun _=>False) hi false;exact ⟨_,rfl,wa T hd.wo ⟨_,rfl,hd.ix h0 hi ⟨_,rfl,uf (hd.of hi) T.Zb T.Ys (nb rfl) ⟨one_le,fun p hp=>k.lst (ns:= [0]) hd2 (Kp.ext hd2 e2) hp rfl⟩⟩⟩⟩
def Jba(t:Yd):Sp:=fun vs H Q _=>∃(A:Ad) (M:Mw) (m:Int),vs= [.ref (A.ad .wo), .int m]∧Holds t.c H A M∧vc t.c ZU H A M (Y3 M m) Q
theorem za9(T:Txt K mg t):wb P w K mg base ke 3 t.YaD t.zaB ["world","m"] (Jba t):=by
  refine T.QaO.kf jaE fun vs H Q E h=>?_;obtain ⟨A,M,m,rfl,hd,k⟩:=h;refine ⟨rfl,fun _ _ _ _ hr=>⟨_,(Za (qb (i:=2) jaE.nd rfl (Or.inl rfl) (ja (jR T) hr.m rfl T.vY T.Yz.kp T.jY .nil Ka (za (pv 0) (za (pv 1) Qa)))) (Za (Jb (Vl (pv 2) (fun _=>rfl)) (va (Ja (Qc (za (pv 2) Qa)))) zb) (Za (qb (i:=3) jaE.nd rfl (Or.inl rfl) (Vb Xa (ya (pv 0) rfl) (pv 1) (fun _ _=>rfl))) (Za (zc (pv 3) Zv rfl) (va (Ja (Qc (za ua Qa)))))))),?_⟩⟩;refine ⟨_,rfl,_,rfl,A,M,m,rfl,hd,?_⟩;unfold Y3 at k;by_cases hm:0≤m∧m<(M.ms.length:Int)
  ·rw [if_pos hm] at k;have e0:vZ M m=0:=if_pos hm;rw [e0];have hj:M.ms[m.toNat]? =some M.ms[m.toNat]:=List.getElem?_eq_getElem (by omega);obtain ⟨hd2,e2⟩:=hd.zbo (ex:=fun _=>False) hj;exact ⟨_,rfl,_,rfl,qm (fun z=>absurd rfl z) fun _=>⟨_,rfl,Ue T hd.wo ⟨_,rfl,hd.ixm hm.1 (by omega) ⟨_,rfl,uf (hd.ms hj) T.zf T.KH (nb rfl) ⟨one_le,fun p hp=>k.lst (ns:= [0]) hd2 (Kp.ext hd2 e2) hp rfl⟩⟩⟩⟩⟩
  ·rw [if_neg hm] at k;have e0:vZ M m= -5:=if_neg hm;rw [e0];exact ⟨_,rfl,_,rfl,qm (fun _=>⟨_,rfl,one_le,fun p hp=>k.lst (ns:= [-5]) hd (Kp.same (Ua.refl _)) hp rfl⟩) fun z=>by cases z⟩
def Kba(t:Yd):Sp:=fun vs H Q _=>∃(A:Ad) (M:Mw) (o n:Int),vs= [.ref (A.ad .wo), .int o, .int n]∧Holds t.c H A M∧Sz M 3∧vc t.c ZU H A M (X9 M o n) Q
theorem Wa8(T:Txt K mg t):wb P w K mg base ke 4 t.XaA t.vaA ["world","o","n"] (Kba t):=by
  refine T.jaO.kf zaE fun vs H Q E h=>?_;obtain ⟨A,M,o,n,rfl,hd,hz,k⟩:=h;refine ⟨rfl,fun _ _ _ _ hr=>⟨_,(Za (qb (i:=3) zaE.nd rfl (Or.inl rfl) (Ud (ja (ur T) hr.m rfl T.yy T.vp.kp T.Xx .nil Ka (za (pv 0) (za (pv 1) Qa))) (Ud (ja (Vh T) hr.m rfl T.Zj T.Yh.kp T.zj .nil Ka (za (pv 2) (za ua (za (xa (v:= .int (1000000000)) rfl T.kam ⟨_,rfl⟩) Qa)))) (qp (ja (uV T) hr.m rfl T.JZ T.Ww.kp T.u0 .nil Ka (za (pv 0) (za (pv 2) Qa))))))) (Za (Jb (Vl (pv 3) (fun _=>rfl)) (va (Ja (Qc (za (pv 3) Qa)))) zb) (Za (qb (i:=4) zaE.nd rfl (Or.inl rfl) (Vb Xa (ya (pv 0) rfl) (pv 1) (fun _ _=>rfl))) (Za (Zd (Yc (pv 4) T.Zb T.kaq (zaq T) hr.m T.Kaw .nil Ka (za (pv 2) Qa))) (va (Ja (Qc (za (ya (pv 4) rfl) Qa)))))))),?_⟩⟩;refine ⟨_,rfl,_,rfl,A,M,o,rfl,hd,_,rfl,VC (fun h1=>⟨_,rfl,_,_,_,rfl,_,rfl,VC (fun h2=>⟨_,rfl,_,rfl,A,M,n,rfl,hd,hz.k',fun H1 s1=>?_⟩) fun h2=>⟨_,rfl,_,rfl,qm (fun _=>⟨_,rfl,one_le,fun p hp=>k.ref hd (Kp.same (Ua.refl _)) hp (by simp [Wb,h1,h2]) h2⟩) fun z=>absurd z h2⟩⟩) fun h1=>⟨_,rfl,_,rfl,qm (fun _=>⟨_,rfl,one_le,fun p hp=>k.ref hd (Kp.same (Ua.refl _)) hp (by simp [Wb,h1]) h1⟩) fun z=>absurd z h1⟩⟩;have Kd:=hd.same s1;refine ⟨_,rfl,_,rfl,qm (fun h3=>⟨_,rfl,one_le,fun p hp=>k.ref Kd (Kp.same s1) hp (by simp [Wb,h1,h2]) h3⟩) fun h3=>?_⟩;have k:=k.pos (by simp [Wb,h1,h2,h3]);obtain ⟨h0,hi,_⟩:=yi h1;refine ⟨_,rfl,wa T Kd.wo ⟨_,rfl,Kd.ix h0 hi ⟨_,rfl,_,_,_,rfl,Kd.of hi,rfl,_,rfl,A,M,o.toNat,n,rfl,Kd,hi,by have:=hz.jr _ hi;omega,fun H2 A2 hd2 e2=>?_⟩⟩⟩;have f2:=hd2.of (i:=o.toNat) hi;rw [eof e2 hi] at f2;exact ⟨_,rfl,Xh T f2 ⟨one_le,fun p hp=>k.lst (ns:= [(kaA M o.toNat n).drawer o.toNat]) hd2 (Kp.ext hd2 ((Ext.of_same s1).trans e2)) hp (congrArg (fun z=> [z]) (Ub _ _ _).symm)⟩⟩
def Kap(t:Yd):Sp:=fun vs H Q _=>∃(A:Ad) (M:Mw) (o:Int),vs= [.ref (A.ad .wo), .int o]∧Holds t.c H A M∧Sz M 3∧vc t.c ZU H A M (countM M o) Q
theorem Wap(T:Txt K mg t):wb P w K mg base ke 5 t.vz t.jz ["world","o"] (Kap t):=by
  refine T.vL.kf Zx fun vs H Q E h=>?_;obtain ⟨A,M,o,rfl,hd,hz,k⟩:=h;refine ⟨rfl,fun _ _ _ _ hr=>⟨_,(Za (qb (i:=2) Zx.nd rfl (Or.inl rfl) (Ud (ja (ql T) hr.m rfl T.vn T.Yj.kp T.Vn .nil Ka (za (pv 0) (za (pv 1) Qa))) (qp (ja (zaN T) hr.m rfl T.VaR T.Wab.kp T.vaS .nil Ka (za (pv 0) (za (pv 1) Qa)))))) (Za (Jb (Vl (pv 2) (fun _=>rfl)) (va (Ja (Qc (za (pv 2) Qa)))) zb) (Za (qb (i:=3) Zx.nd rfl (Or.inl rfl) (Vb Xa (ya (pv 0) rfl) (pv 1) (fun _ _=>rfl))) (Za (qb (i:=4) Zx.nd rfl (Or.inl rfl) (ja (QaR T) hr.m rfl T.jaW T.vaj.kp T.WaX .nil Ka (za (qf (pv 3) T.Zb T.Yah (yag T) hr.m T.jal .nil Ka) Qa))) (va (Ja (Qc (za (pv 4) (za (ya (pv 3) rfl) (za (qf (pv 3) T.Zb T.VL (YL T) hr.m T.KR .nil Ka) Qa)))))))))),?_⟩⟩;refine ⟨_,rfl,_,rfl,A,M,o,rfl,hd,_,rfl,VC (fun h1=>⟨_,rfl,_,rfl,A,M,o,rfl,hd,(JS h1).1,(JS h1).2,?_⟩) fun h1=>⟨_,rfl,_,rfl,qm (fun _=>⟨_,rfl,one_le,fun p hp=>k.ref hd (Kp.same (Ua.refl _)) hp (by simp [Wb,h1]) h1⟩) fun z=>absurd z h1⟩⟩;obtain ⟨h0,hi⟩:=JS h1;refine ⟨_,rfl,_,rfl,qm (fun h2=>⟨_,rfl,one_le,fun p hp=>k.ref hd (Kp.same (Ua.refl _)) hp (by simp only [Wb,h1,if_true]) h2⟩) fun h2=>?_⟩;have k:=k.pos (by simp only [Wb,h1,if_true];exact h2);have z1:=hz.jr _ hi;have z2:=hz.ub _ hi;refine ⟨_,rfl,wa T hd.wo ⟨_,rfl,hd.ix h0 hi ⟨_,rfl,_,_,_,rfl,hd.of hi,rfl,A,M,o.toNat,rfl,hd,hi,by omega,by omega,fun v H2 A2 hd2 e2 hv=>⟨v,_,rfl,hv,?_⟩⟩⟩⟩;have hi2:o.toNat<(yd M o.toNat).1.k:=by rw [Ya5];exact hi
  have f2:=hd2.of hi2;have q2:=eof e2 hi;rw [q2] at f2;have lj:=WaS M o.toNat;refine ⟨_,rfl,_,rfl,Xh T f2 ⟨_,rfl,_,_,_,rfl,f2,rfl,A2,_,o.toNat,by rw [q2];rfl,hd2,hi2,by omega,fun H3 s3=>⟨QD,fun p hp=>k.lst (ns:= [(yd M o.toNat).2,(yd M o.toNat).1.drawer o.toNat,Yp ((yd M o.toNat).1.jr o.toNat)]) (hd2.same s3) ((Kp.ext hd2 e2).trans (Kp.same s3)) hp rfl⟩⟩⟩
end Mo
namespace Mo
open PySem PySem.Spec PyProof.Rows L2
variable{P:Program}{w:World}{K:PySem.W.Frag}{mg:Str→Option Value}{base:Heap}{t:Yd}
section
variable{c:Cs}{H H1 H' H2:Hp}{A A' A2:Ad}{M M' M2:Mw}{ex:Addr→Prop}{p:Addr}{Q:VK}
theorem Ua2{i j:Nat}{m:Int}{a:Xj}{x:Qe}(h:M.ord j m=some x):∃x',(Qm M i a).ord j m=some x'∧x'.vb=x.vb:=by
 unfold Qm;split
 ·exact ⟨x,h,rfl⟩
 ·split
  ·exact ⟨x,h,rfl⟩
  ·show∃x',(if j=i∧m=a.no then (M.ord i a.no).map _ else M.ord j m)=some x'∧_;split
   ·rename_i e;obtain ⟨rfl,rfl⟩:=e;rw [h];exact ⟨_,rfl,rfl⟩
   ·exact ⟨x,h,rfl⟩
theorem xaM{i j:Nat}{m:Int}{a:Xj}{cut:Int}{x:Qe}(h:M.ord j m=some x):∃x',(vd M i a cut).ord j m=some x'∧x'.vb=x.vb:=by
 unfold vd;split
 ·exact ⟨x,h,rfl⟩
 ·split
  ·exact ⟨x,h,rfl⟩
  ·split
   ·exact ⟨x,h,rfl⟩
   ·exact Ua2 (M:=qj (Xf (qg M i false) i a) i a.Qy) h
theorem wa9{i j:Nat}{m g:Int}{a:Xj}{x:Jn}(h:M.cl j m g=some x):∃x',(Qm M i a).cl j m g=some x'∧x'.vb=x.vb:=by
 unfold Qm;split
 ·exact ⟨x,h,rfl⟩
 ·split
  ·show∃x',(if j=i∧m=a.no∧g=a.g then (M.cl i a.no a.g).map _ else M.cl j m g)=some x'∧_;split
   ·rename_i e;obtain ⟨rfl,rfl,rfl⟩:=e;rw [h];exact ⟨_,rfl,rfl⟩
   ·exact ⟨x,h,rfl⟩
  ·exact ⟨x,h,rfl⟩
theorem yaR{i j:Nat}{m g:Int}{a:Xj}{cut:Int}{x:Jn}(h:M.cl j m g=some x):∃x',(vd M i a cut).cl j m g=some x'∧x'.vb=x.vb:=by
 unfold vd;split
 ·exact ⟨x,h,rfl⟩
 ·split
  ·exact ⟨x,h,rfl⟩
  ·split
   ·exact ⟨x,h,rfl⟩
   ·exact wa9 (M:=qj (Xf (qg M i false) i a) i a.Qy) h
end
def zaS(t:Yd):Sp:=fun vs H Q _=>∃(A:Ad) (M:Mw) (p n key:Int),vs= [.ref (A.ad .wo), .int p, .int n, .int key]∧Holds t.c H A M∧Sz M 3∧vc t.c ZU H A M (qy M p n key) Q
theorem zaT(T:Txt K mg t):wb P w K mg base ke 4 t.J5 t.X5 ["world","p","n","key"] (zaS t):=by
  refine T.Yak.kf Wat fun vs H Q E h=>?_;obtain ⟨A,M,p,n,key,rfl,hd,hz,k⟩:=h;refine ⟨rfl,fun _ _ _ _ hr=>⟨_,(Za (qb (i:=4) Wat.nd rfl (Or.inl rfl) (Ud (ja (ur T) hr.m rfl T.yy T.vp.kp T.Xx .nil Ka (za (pv 0) (za (pv 1) Qa))) (Ud (ja (Jj T) hr.m rfl T.Zl T.Zi.kp T.Yl .nil Ka (za (pv 2) Qa)) (Ud (ja (zat T) hr.m rfl T.QaA T.y6.kp T.VaB .nil Ka (za (pv 3) Qa)) (Ud (ja (ql T) hr.m rfl T.vn T.Yj.kp T.Vn .nil Ka (za (pv 0) (za (ja (Vr T) hr.m rfl T.Kw T.Uo.kp T.Yx .nil Ka (za (pv 2) Qa)) Qa))) (qp (ja (Jac T) hr.m rfl T.Jaq T.y9.kp T.Kaq .nil Ka (za (pv 0) Qa)))))))) (Za (Jb (Vl (pv 4) (fun _=>rfl)) (va (Ja (Qc (za (pv 4) Qa)))) zb) (va (Ja (Qc (za (Yc (pv 0) T.Wc T.Kv (Vv T) hr.m T.Xy .nil Ka (za (qr T.uC (Zh T) hr.m rfl T.qI T.zi .nil Ka (za (xa (v:= .int (1)) rfl T.waT ⟨_,rfl⟩) (za (pv 2) (za ua (za (pv 1) (za (ja (Vr T) hr.m rfl T.Kw T.Uo.kp T.Yx .nil Ka (za (pv 2) Qa)) (za (pv 3) (za ua Qa)))))))) Qa)) Qa)))))),?_⟩⟩;refine ⟨_,rfl,_,rfl,A,M,p,rfl,hd,_,rfl,VC (fun h1=>⟨_,rfl,n,rfl,_,rfl,VC (fun h2=>⟨_,rfl,key,rfl,_,rfl,VC (fun h3=>⟨_,rfl,_,rfl,n,rfl,A,M,_,rfl,hd,_,rfl,VC (fun h4=>⟨_,rfl,A,M,rfl,hd,?_⟩) fun h4=>⟨_,rfl,_,rfl,qm (fun _=>⟨_,rfl,one_le,fun p hp=>k.ref hd (Kp.same (Ua.refl _)) hp (by simp [Wb,h1,h2,h3,h4]) h4⟩) fun z=>absurd z h4⟩⟩) fun h3=>⟨_,rfl,_,rfl,qm (fun _=>⟨_,rfl,one_le,fun p hp=>k.ref hd (Kp.same (Ua.refl _)) hp (by simp [Wb,h1,h2,h3]) h3⟩) fun z=>absurd z h3⟩⟩) fun h2=>⟨_,rfl,_,rfl,qm (fun _=>⟨_,rfl,one_le,fun p hp=>k.ref hd (Kp.same (Ua.refl _)) hp (by simp [Wb,h1,h2]) h2⟩) fun z=>absurd z h2⟩⟩) fun h1=>⟨_,rfl,_,rfl,qm (fun _=>⟨_,rfl,one_le,fun p hp=>k.ref hd (Kp.same (Ua.refl _)) hp (by simp [Wb,h1]) h1⟩) fun z=>absurd z h1⟩⟩;refine ⟨_,rfl,_,rfl,qm (fun h5=>⟨_,rfl,one_le,fun p hp=>k.ref hd (Kp.same (Ua.refl _)) hp (by simp [Wb,h1,h2,h3,h4]) h5⟩) fun h5=>?_⟩;have k:=k.pos (by simp [Wb,h1,h2,h3,h4,h5]);refine ⟨_,rfl,_,_,_,rfl,hd.wo,rfl,_,rfl,_,rfl,_,rfl,n,rfl,_,rfl,fun y dy ny nd nyd=>⟨y,dy,_,_,_,_,_,_,_,rfl,Ya,fun H1 hy hk=>⟨rfl,?_⟩⟩⟩;have s1:Ua H H1:=made (C:=t.c.message) (fs:= []) ny nd hk;have Kd:=hd.same s1;exact ⟨A,M,y,dy,_,rfl,Kd,hy,hd.own ny,(by have:=hz.ms;omega),fun H2 A2 hd2 e2=>⟨one_le,fun p hp=>k.lst (ns:= [(M.ms.length:Int)]) hd2 (Kp.ext hd2 (Ext.drop s1 ny e2)) hp rfl⟩⟩
def Ya3(t:Yd):Sp:=fun vs H Q _=>∃(A:Ad) (M:Mw) (o n:Int),vs= [.ref (A.ad .wo), .int o, .int n]∧Holds t.c H A M∧Sz M 3∧vc t.c ZU H A M (jU M o n) Q
theorem Ka4(T:Txt K mg t):wb P w K mg base ke 4 t.van t.Yao ["world","o","n"] (Ya3 t):=by
  refine T.KaE.kf qaK fun vs H Q E h=>?_;obtain ⟨A,M,o,n,rfl,hd,hz,k⟩:=h;refine ⟨rfl,fun _ _ _ _ hr=>⟨_,(Za (qb (i:=3) qaK.nd rfl (Or.inl rfl) (Ud (ja (ur T) hr.m rfl T.yy T.vp.kp T.Xx .nil Ka (za (pv 0) (za (pv 1) Qa))) (Ud (ja (Jj T) hr.m rfl T.Zl T.Zi.kp T.Yl .nil Ka (za (pv 2) Qa)) (Ud (ja (Jac T) hr.m rfl T.Jaq T.y9.kp T.Kaq .nil Ka (za (pv 0) Qa)) (qp (ja (zN T) hr.m rfl T.UP T.Uq.kp T.KP .nil Ka (za (pv 0) (za (pv 1) (za (pv 2) Qa))))))))) (Za (Jb (Vl (pv 3) (fun _=>rfl)) (va (Ja (Qc (za (pv 3) Qa)))) zb) (va (Ja (Qc (za (Yc (pv 0) T.Wc T.Kv (Vv T) hr.m T.Xy .nil Ka (za (ja (Wal T) hr.m rfl T.vas T.yX.kp T.Was .nil Ka (za (pv 0) (za (pv 1) (za (pv 2) Qa)))) Qa)) Qa)))))),?_⟩⟩;refine ⟨_,rfl,_,rfl,A,M,o,rfl,hd,_,rfl,VC (fun h1=>⟨_,rfl,n,rfl,_,rfl,VC (fun h2=>⟨_,rfl,A,M,rfl,hd,_,rfl,VC (fun h3=>⟨_,rfl,_,rfl,_,rfl,A,M,o,n,rfl,hd,(yi h1).1,(yi h1).2.1,?_⟩) fun h3=>⟨_,rfl,_,rfl,qm (fun _=>⟨_,rfl,one_le,fun p hp=>k.ref hd (Kp.same (Ua.refl _)) hp (by simp [Wb,h1,h2,h3]) h3⟩) fun z=>absurd z h3⟩⟩) fun h2=>⟨_,rfl,_,rfl,qm (fun _=>⟨_,rfl,one_le,fun p hp=>k.ref hd (Kp.same (Ua.refl _)) hp (by simp [Wb,h1,h2]) h2⟩) fun z=>absurd z h2⟩⟩) fun h1=>⟨_,rfl,_,rfl,qm (fun _=>⟨_,rfl,one_le,fun p hp=>k.ref hd (Kp.same (Ua.refl _)) hp (by simp [Wb,h1]) h1⟩) fun z=>absurd z h1⟩⟩;refine ⟨_,rfl,_,rfl,qm (fun h4=>⟨_,rfl,one_le,fun p hp=>k.ref hd (Kp.same (Ua.refl _)) hp (by simp [Wb,h1,h2,h3]) h4⟩) fun h4=>?_⟩;have k:=k.pos (by simp [Wb,h1,h2,h3,h4]);obtain ⟨h0,hi,_⟩:=yi h1;obtain ⟨g,hg⟩:∃g,yo M o.toNat n=some g:=by
   unfold YK at h4;split at h4
   ·rename_i z;exact Option.isSome_iff_exists.mp z
   ·cases h4
  rw [hg] at k;refine ⟨_,rfl,_,_,_,rfl,hd.wo,rfl,_,rfl,_,rfl,_,rfl,A,M,o,n,g,rfl,hd,h0,hi,hg,fun H1 y dy s1 ny hy=>?_⟩;exact ⟨A,M,y,dy,_,rfl,hd.same s1,hy,hd.own ny,(by have:=hz.ms;omega),fun H2 A2 hd2 e2=>⟨one_le,fun p hp=>k.lst (ns:= [(M.ms.length:Int)]) hd2 (Kp.ext hd2 (Ext.drop s1 ny e2)) hp rfl⟩⟩
def Za8(t:Yd):Sp:=fun vs H Q _=>∃(A:Ad) (M:Mw) (p n g:Int),vs= [.ref (A.ad .wo), .int p, .int n, .int g]∧Holds t.c H A M∧Sz M 3∧vc t.c ZU H A M (J9 M p n g) Q
theorem vba(T:Txt K mg t):wb P w K mg base ke 5 t.ZaB t.UaB ["world","p","n","g"] (Za8 t):=by
  refine T.xaO.kf XaD fun vs H Q E h=>?_;obtain ⟨A,M,p,n,g,rfl,hd,hz,k⟩:=h;refine ⟨rfl,fun _ _ _ _ hr=>⟨_,(Za (qb (i:=4) XaD.nd rfl (Or.inl rfl) (Ud (ja (ur T) hr.m rfl T.yy T.vp.kp T.Xx .nil Ka (za (pv 0) (za (pv 1) Qa))) (Ud (ja (Jj T) hr.m rfl T.Zl T.Zi.kp T.Yl .nil Ka (za (pv 2) Qa)) (Ud (ja (jaG T) hr.m rfl T.kaL T.U3.kp T.vaN .nil Ka (za (pv 3) Qa)) (Ud (ja (ql T) hr.m rfl T.vn T.Yj.kp T.Vn .nil Ka (za (pv 0) (za (ja (Vr T) hr.m rfl T.Kw T.Uo.kp T.Yx .nil Ka (za (pv 2) Qa)) Qa))) (Ud (ja (Jac T) hr.m rfl T.Jaq T.y9.kp T.Kaq .nil Ka (za (pv 0) Qa)) (qp (ja (kad T) hr.m rfl T.Kag T.JB.kp T.Uah .nil Ka (za (pv 0) (za (pv 1) (za (pv 2) (za (pv 3) Qa)))))))))))) (Za (Jb (Vl (pv 4) (fun _=>rfl)) (va (Ja (Qc (za (pv 4) Qa)))) zb) (Za (qb (i:=5) XaD.nd rfl (Or.inl rfl) (jk (Qh (ya (Yc (Vb Xa (ya (pv 0) rfl) (pv 1) (fun _ _=>rfl)) T.Zb T.Wo (Yo T) hr.m T.Qq .nil Ka (za (pv 2) (za (pv 3) Qa))) rfl)) (xa (v:= .int (4)) rfl T.Kar ⟨_,rfl⟩) (xa (v:= .int (5)) rfl T.Xac ⟨_,rfl⟩))) (va (Ja (Qc (za (Yc (pv 0) T.Wc T.Kv (Vv T) hr.m T.Xy .nil Ka (za (qr T.uC (Zh T) hr.m rfl T.qI T.zi .nil Ka (za (pv 5) (za (pv 2) (za (pv 3) (za (pv 1) (za (ja (Vr T) hr.m rfl T.Kw T.Uo.kp T.Yx .nil Ka (za (pv 2) Qa)) (za ua (za ua Qa)))))))) Qa)) (za (pv 5) Qa)))))))),?_⟩⟩;refine ⟨_,rfl,_,rfl,A,M,p,rfl,hd,_,rfl,VC (fun h1=>⟨_,rfl,n,rfl,_,rfl,VC (fun h2=>⟨_,rfl,g,rfl,_,rfl,VC (fun h3=>⟨_,rfl,_,rfl,n,rfl,A,M,_,rfl,hd,_,rfl,VC (fun h4=>⟨_,rfl,A,M,rfl,hd,_,rfl,VC (fun h5=>⟨_,rfl,_,rfl,_,rfl,_,rfl,A,M,p,n,g,rfl,hd,(yi h1).1,(yi h1).2.1,fun H1 s1=>?_⟩) fun h5=>⟨_,rfl,_,rfl,qm (fun _=>⟨_,rfl,one_le,fun p hp=>k.ref hd (Kp.same (Ua.refl _)) hp (by simp [Wb,h1,h2,h3,h4,h5]) h5⟩) fun z=>absurd z h5⟩⟩) fun h4=>⟨_,rfl,_,rfl,qm (fun _=>⟨_,rfl,one_le,fun p hp=>k.ref hd (Kp.same (Ua.refl _)) hp (by simp [Wb,h1,h2,h3,h4]) h4⟩) fun z=>absurd z h4⟩⟩) fun h3=>⟨_,rfl,_,rfl,qm (fun _=>⟨_,rfl,one_le,fun p hp=>k.ref hd (Kp.same (Ua.refl _)) hp (by simp [Wb,h1,h2,h3]) h3⟩) fun z=>absurd z h3⟩⟩) fun h2=>⟨_,rfl,_,rfl,qm (fun _=>⟨_,rfl,one_le,fun p hp=>k.ref hd (Kp.same (Ua.refl _)) hp (by simp [Wb,h1,h2]) h2⟩) fun z=>absurd z h2⟩⟩) fun h1=>⟨_,rfl,_,rfl,qm (fun _=>⟨_,rfl,one_le,fun p hp=>k.ref hd (Kp.same (Ua.refl _)) hp (by simp [Wb,h1]) h1⟩) fun z=>absurd z h1⟩⟩;have Kd:=hd.same s1;refine ⟨_,rfl,_,rfl,qm (fun h6=>⟨_,rfl,one_le,fun p hp=>k.ref Kd (Kp.same s1) hp (by simp [Wb,h1,h2,h3,h4,h5]) h6⟩) fun h6=>?_⟩;have k:vc t.c ZU H A M (zG M ⟨if (Yf M p.toNat n g).paid=true then 4 else 5,n,g,p,Jr n,0,0,false⟩, [(M.ms.length:Int),if (Yf M p.toNat n g).paid=true then 4 else 5]) Q:=k.pos (by simp [Wb,h1,h2,h3,h4,h5,h6]);obtain ⟨h0,hi,_⟩:=yi h1;refine ⟨_,rfl,wa T Kd.wo ⟨_,rfl,Kd.ix h0 hi ⟨_,_,_,rfl,Kd.of hi,rfl,_,rfl,_,rfl,A,M,p.toNat,n,g,rfl,Kd,hi,fun H2 y dy s2 hy=>yp T hy ⟨_,rfl,ifb (fun e=>?_) fun e=>?_⟩⟩⟩⟩
  ·rw [if_pos e] at k;have hd2:=Kd.same s2;refine ⟨_,rfl,_,_,_,rfl,hd2.wo,rfl,_,rfl,_,rfl,_,rfl,_,rfl,_,rfl,n,rfl,fun y dy ny nd nyd=>⟨y,dy,_,_,_,_,_,_,_,rfl,Ya,fun H3 hy hk=>⟨rfl,?_⟩⟩⟩;have s3:Ua H2 H3:=made (C:=t.c.message) (fs:= []) ny nd hk;exact ⟨A,M,y,dy,_,rfl,hd2.same s3,hy,hd2.own ny,(by have:=hz.ms;omega),fun H4 A4 W2 e4=>⟨_,rfl,ZI,fun p hp=>k.lst (ns:= [(M.ms.length:Int),4]) W2 ((Kp.same (s1.trans s2)).trans (Kp.ext W2 (Ext.drop s3 ny e4))) hp rfl⟩⟩
  ·rw [if_neg (by rw [e];decide)] at k;have hd2:=Kd.same s2;refine ⟨_,rfl,_,_,_,rfl,hd2.wo,rfl,_,rfl,_,rfl,_,rfl,_,rfl,_,rfl,n,rfl,fun y dy ny nd nyd=>⟨y,dy,_,_,_,_,_,_,_,rfl,Ya,fun H3 hy hk=>⟨rfl,?_⟩⟩⟩;have s3:Ua H2 H3:=made (C:=t.c.message) (fs:= []) ny nd hk;exact ⟨A,M,y,dy,_,rfl,hd2.same s3,hy,hd2.own ny,(by have:=hz.ms;omega),fun H4 A4 W2 e4=>⟨_,rfl,ZI,fun p hp=>k.lst (ns:= [(M.ms.length:Int),5]) W2 ((Kp.same (s1.trans s2)).trans (Kp.ext W2 (Ext.drop s3 ny e4))) hp rfl⟩⟩
def vaZ(t:Yd):Sp:=fun vs H Q _=>∃(A:Ad) (M:Mw) (o n cut:Int),vs= [.ref (A.ad .wo), .int o, .int n, .int cut]∧Holds t.c H A M∧Sz M 3∧vc t.c ZU H A M (QH M o n cut) Q
theorem xaY(T:Txt K mg t):wb P w K mg base ke 4 t.zae t.kae ["world","o","n","cut"] (vaZ t):=by
  refine T.Jar.kf V8 fun vs H Q E h=>?_;obtain ⟨A,M,o,n,cut,rfl,hd,hz,k⟩:=h;refine ⟨rfl,fun _ _ _ _ hr=>⟨_,(Za (qb (i:=4) V8.nd rfl (Or.inl rfl) (Ud (ja (ur T) hr.m rfl T.yy T.vp.kp T.Xx .nil Ka (za (pv 0) (za (pv 1) Qa))) (Ud (ja (Jj T) hr.m rfl T.Zl T.Zi.kp T.Yl .nil Ka (za (pv 2) Qa)) (Ud (ja (uab T) hr.m rfl T.xai T.uT.kp T.Yaj .nil Ka (za (pv 3) Qa)) (qp (ja (u9 T) hr.m rfl T.vad T.xx.kp T.jad .nil Ka (za (pv 0) (za (pv 1) (za (pv 2) Qa))))))))) (Za (Jb (Vl (pv 4) (fun _=>rfl)) (va (Ja (Qc (za (pv 4) Qa)))) zb) (Za (qb (i:=5) V8.nd rfl (Or.inl rfl) (Vb Xa (ya (pv 0) rfl) (pv 1) (fun _ _=>rfl))) (Za (qb (i:=6) V8.nd rfl (Or.inl rfl) (uan (YS hr) (ya (pv 5) rfl) (pv 2) (fun _ _=>rfl))) (Za (Zd (Yc (pv 5) T.Zb T.WA (xA T) hr.m T.UD .nil Ka (za (qr T.JaN (VH T) hr.m rfl T.ka0 T.YM .nil Ka (za (xa (v:= .str "refunding") rfl T.Kam ⟨_,rfl⟩) (za (pv 2) (za (WX xH (ya (pv 6) rfl)) (za (pv 6) Qa))))) (za (pv 3) Qa)))) (va (Ja (Qc (za (ya (pv 6) rfl) Qa))))))))),?_⟩⟩;refine ⟨_,rfl,_,rfl,A,M,o,rfl,hd,_,rfl,VC (fun h1=>⟨_,rfl,n,rfl,_,rfl,VC (fun h2=>⟨_,rfl,cut,rfl,_,rfl,VC (fun h3=>⟨_,rfl,_,rfl,_,rfl,A,M,o,n,rfl,hd,(yi h1).1,(yi h1).2.1,?_⟩) fun h3=>⟨_,rfl,_,rfl,qm (fun _=>⟨_,rfl,one_le,fun p hp=>k.ref hd (Kp.same (Ua.refl _)) hp (by simp [Wb,h1,h2,h3]) h3⟩) fun z=>absurd z h3⟩⟩) fun h2=>⟨_,rfl,_,rfl,qm (fun _=>⟨_,rfl,one_le,fun p hp=>k.ref hd (Kp.same (Ua.refl _)) hp (by simp [Wb,h1,h2]) h2⟩) fun z=>absurd z h2⟩⟩) fun h1=>⟨_,rfl,_,rfl,qm (fun _=>⟨_,rfl,one_le,fun p hp=>k.ref hd (Kp.same (Ua.refl _)) hp (by simp [Wb,h1]) h1⟩) fun z=>absurd z h1⟩⟩;refine ⟨_,rfl,_,rfl,qm (fun h4=>⟨_,rfl,one_le,fun p hp=>k.ref hd (Kp.same (Ua.refl _)) hp (by simp [Wb,h1,h2,h3]) h4⟩) fun h4=>?_⟩;have k:=k.pos (by simp [Wb,h1,h2,h3,h4]);obtain ⟨h0,hi,_⟩:=yi h1;have hn:n∈M.ub o.toNat:=by
   by_cases hn:n∈M.ub o.toNat
   ·exact hn
   ·unfold Jad at h4;rw [WU hn] at h4;cases h4
  obtain ⟨x,ho,hgo⟩:=Ur hd hi hn;rw [hgo] at k;have k:vc t.c ZU H A M (vd M o.toNat ⟨3,n,-x.vb,0⟩ cut, [x.vb]) Q:=k;have f1:=hd.ord hi ho;have z1:=hz.jr _ hi;have z2:=hz.ub _ hi;refine ⟨_,rfl,wa T hd.wo ⟨_,rfl,hd.ix h0 hi ⟨_,rfl,wc T (hd.of hi) ⟨_,rfl,_,_,rfl,yaC hd hi hn,⟨_,rfl,_,_,_,rfl,hd.of hi,rfl,_,rfl,_,rfl,xj T f1 ⟨_,rfl,_,rfl,fun y dy ny nd nyd=>⟨y,dy,A.ad (.ord o.toNat n),⟨3,n,-x.vb,0⟩,rfl,Ya,fun H1 hy hk=>⟨rfl,_,rfl,?_⟩⟩⟩⟩⟩⟩⟩⟩;have s1:Ua H H1:=made (C:=t.c.act) (fs:= []) ny nd hk;refine ⟨A,M,o.toNat,y,dy,⟨3,n,-x.vb,0⟩,cut,rfl,hd.same s1,hi,by omega,by omega,hy,JaA (n:=n) hi ho,fun H2 A2 hd2 e2=>?_⟩;have uv:(vd M o.toNat ⟨3,n,-x.vb,0⟩ cut).k=M.k:=(xO _ _ _ _).k;obtain ⟨x',hx',ec⟩:=xaM (i:=o.toNat) (a:=⟨3,n,-x.vb,0⟩) (cut:=cut) ho;have f2:=hd2.ord (by rw [uv];exact hi) hx';rw [(e2.ad (.ord o.toNat n) (JaA hi ho)).1] at f2;exact ⟨_,rfl,xj T f2 ⟨one_le,fun p hp=>k.lst (ns:= [x'.vb]) hd2 (Kp.ext hd2 ((Ext.of_same s1).trans e2)) hp (by show [x.vb]=_;rw [ec])⟩⟩
end Mo
namespace Mo
open PySem PySem.Spec PyProof.Rows L2
variable{P:Program}{w:World}{K:PySem.W.Frag}{mg:Str→Option Value}{base:Heap}{t:Yd}
section
variable{c:Cs}{H H1 H' H2:Hp}{A A' A2:Ad}{M M' M2:Mw}{ex:Addr→Prop}{p:Addr}{Q:VK}
theorem ja0{a b:Int}(h:a≠0):Wb a b=a:=if_neg h
theorem k9{a b:Int}(h:a=0):Wb a b=b:=if_pos h
theorem qa2{i:Nat}(h:Lv c A M (.of i)):i<M.k:=by
 unfold Lv at h;by_cases z:i<M.k
 ·exact z
 ·have h:(if i<M.k then some _ else none:Option HO).isSome=true:=h;rw [if_neg z] at h;cases h
theorem Kp.drop{y:Addr}(a:Kp c ex H A M H' A' M')(h2:Holds c H2 A2 M2)(hy:H y=none)(e:Ext c (fun b=>b=y) H' A' M' H2 A2 M2):Kp c ex H A M H2 A2 M2:=by
 refine ⟨(e.ad _ jaf).1.trans a.wo,fun b o hb q n=>?_,fun b eb=>?_⟩
 ·obtain ⟨q1,n1⟩:=a.keep b o hb q n;exact e.keep b o (fun z=>by rw [z,hy] at q;cases q) q1 n1
 ·by_cases z:b=y
  ·rw [z];exact hy
  ·refine a.there b ?_;cases q:H' b with
   | none=>rfl
   | some o=>
    exfalso;by_cases hw:Own c A' M' b
    ·obtain ⟨pl,l,w⟩:=hw;obtain ⟨a1,_,a2⟩:=e.ad pl l;exact h2.own eb ⟨pl,a2,by rw [a1];exact w⟩
    ·have:=(e.keep b o z q hw).1;rw [eb] at this;cases this
def Plain:HO→Prop
 | .lst _=>True
 | .ins _ _ _=>True
 | .dK _=>True
 | .dT _=>True
 | _=>False
theorem UaQ{p:Pl}{o:HO}(h:cont c A M p=some o):Plain o:=by
 cases p with
 | wo=>cases h;trivial
 | VJ=>cases h;trivial
 | kT=>cases h;trivial
 | ms j=>
  obtain ⟨m,_,e⟩:=Option.map_eq_some_iff.mp (show (M.ms[j]?).map _=some _ from h);cases e;trivial
 | of i=>
  have h:(if i<M.k then some _ else none)=some _:=h;split at h<;>cases h
  trivial
 | jl i=>
  have h:(if i<M.k then some _ else none)=some _:=h;split at h<;>cases h
  trivial
 | od i=>
  have h:(if i<M.k then some _ else none)=some _:=h;split at h<;>cases h
  trivial
 | cd i=>
  have h:(if i<M.k then some _ else none)=some _:=h;split at h<;>cases h
  trivial
 | ord i n=>
  have h:(if i<M.k then (M.ord i n).map _ else none)=some _:=h;split at h
  ·obtain ⟨m,_,e⟩:=Option.map_eq_some_iff.mp h;cases e;trivial
  ·cases h
 | gl i n=>
  have h:(if i<M.k then (M.ord i n).map _ else none)=some _:=h;split at h
  ·obtain ⟨m,_,e⟩:=Option.map_eq_some_iff.mp h;cases e;trivial
  ·cases h
 | gr i n k=>
  have h:(if i<M.k then (M.ord i n).bind _ else none)=some _:=h;split at h
  ·obtain ⟨m,_,h⟩:=Option.bind_eq_some_iff.mp h;obtain ⟨g,_,e⟩:=Option.map_eq_some_iff.mp h;cases e;trivial
  ·cases h
 | cl i n g=>
  have h:(if i<M.k then (M.cl i n g).map _ else none)=some _:=h;split at h
  ·obtain ⟨m,_,e⟩:=Option.map_eq_some_iff.mp h;cases e;trivial
  ·cases h
theorem Holds.QX(h:Holds c H A M){b:Addr}{o:HO}(hb:H b=some o)(np:¬Plain o):¬Own c A M b:=by
 rintro ⟨p,l,e⟩
 unfold Lv at l;cases q:cont c A M p with
 | none=>rw [q] at l;cases l
 | some u=>
  have:=h.at_ p u q
  rw [e,hb] at this;cases this;exact np (UaQ q)
theorem Tb.kp{P:Addr}(h:Z9 P H)(hd:Holds c H A M)(e:Kp c ZU H A M H' A' M'):Z9 P H':=by
 rcases h with h | ⟨c',h1,h2⟩
 ·exact .inl (e.keep _ _ id h (hd.QX h id)).1
 ·exact .inr ⟨c',(e.keep _ _ id h1 (hd.QX h1 id)).1,(e.keep _ _ id h2 (hd.QX h2 id)).1⟩
theorem Kp.weak(e:Kp c ZU H A M H' A' M'):Kp c ex H A M H' A' M':=⟨e.wo,fun b o _=>e.keep b o id,e.there⟩
abbrev Kq(P:Addr)(Q:VK):VK:=fun v H'=>Z9 P H'→Q v H'
end
def qaQ(t:Yd):Sp:=fun vs H Q _=>∃(A:Ad) (M:Mw) (m:Int),vs= [.ref (A.ad .wo), .int m]∧Holds t.c H A M∧Sz M 3∧(∀x∈M.ms,0≤x.receiver∧x.receiver.toNat<M.k)∧vc t.c ZU H A M (Ju M m) Q
theorem KaQ(T:Txt K mg t):wb P w K mg base ke 7 t.u5 t.K6 ["world","m"] (qaQ t):=by
  refine T.uaj.kf Wv fun vs H Q E h=>?_;obtain ⟨A,M,m,rfl,hd,hz,hrc,k⟩:=h;refine ⟨rfl,fun _ _ _ _ hr=>⟨_,(Za (qb (i:=2) Wv.nd rfl (Or.inl rfl) (Ud (ja (jR T) hr.m rfl T.vY T.Yz.kp T.jY .nil Ka (za (pv 0) (za (pv 1) Qa))) (Ud (ja (Jal T) hr.m rfl T.Qap T.wH.kp T.Qaq .nil Ka (za (pv 0) (za (Vb Xa (ya (pv 0) rfl) (pv 1) (fun _ _=>rfl)) Qa))) (qp (ja (Jac T) hr.m rfl T.Jaq T.y9.kp T.Kaq .nil Ka (za (pv 0) Qa)))))) (Za (Jb (Vl (pv 2) (fun _=>rfl)) (va (Ja (Qc (za (pv 2) Qa)))) zb) (Za (qb (i:=3) Wv.nd rfl (Or.inl rfl) (Vb Xa (ya (pv 0) rfl) (pv 1) (fun _ _=>rfl))) (Za (qb (i:=4) Wv.nd rfl (Or.inl rfl) (Vb Xa (ya (pv 0) rfl) (ya (pv 3) rfl) (fun _ _=>rfl))) (Za (qb (i:=5) Wv.nd rfl (Or.inl rfl) (jd Jc (by rfl) T.Uu PySem.boot_len (za (ya (pv 4) rfl) Qa))) (Za (qb (i:=6) Wv.nd rfl (Or.inl rfl) (ja (xaE T) hr.m rfl T.JaO T.xap.kp T.YaO .nil Ka (za (pv 0) (za (pv 3) Qa)))) (Za (qb (i:=7) Wv.nd rfl (Or.inl rfl) (Vs jaN (jd Jc (by rfl) T.Uu PySem.boot_len (za (ya (pv 4) rfl) Qa)) (pv 5))) (Za (Jb (yn (Qz (pv 6))) (va (Ja (Qc (za ua (za (pv 7) (za (WX xH ua) Qa)))))) zb) (va (Ja (Qc (za ua (za (pv 7) (za (Yc (pv 0) T.Wc T.Kv (Vv T) hr.m T.Xy .nil Ka (za (pv 6) Qa)) Qa)))))))))))))),?_⟩⟩;unfold Ju at k;refine ⟨_,rfl,_,rfl,A,M,m,rfl,hd,_,rfl,VC (fun h1=>?_) fun h1=>?_⟩
  ·have hm:0≤m∧m<(M.ms.length:Int):=by
    unfold vZ at h1;split at h1
    ·assumption
    ·cases h1
   have XF:m.toNat<M.ms.length:=by omega
   have hj:M.ms[m.toNat]? =some M.ms[m.toNat]:=List.getElem?_eq_getElem XF;obtain ⟨r0,r1⟩:=hrc _ (List.getElem_mem XF);generalize M.ms[m.toNat]=x at hj r0 r1;rw [if_pos hm,hj] at k;have k:vc t.c ZU H A M (if Wb (if x.gone=true then-4 else WS M x.receiver) (uy M)=0 then (match (xc M x).2 with
     | none=>((xc M x).1, [0,(((xc M x).1.jr x.receiver.toNat).length:Int)- ((M.jr x.receiver.toNat).length:Int),-1])
     | some a=>(zG (xc M x).1 a, [1,(((xc M x).1.jr x.receiver.toNat).length:Int)- ((M.jr x.receiver.toNat).length:Int),((xc M x).1.ms.length:Int)])) else (M, [Wb (if x.gone=true then-4 else WS M x.receiver) (uy M)])) Q:=k
   have hx:=hd.ms hj;refine ⟨_,rfl,_,rfl,Ue T hd.wo ⟨_,rfl,hd.ixm hm.1 XF ⟨A,M,A.ad (.ms m.toNat),_,x,rfl,hd,hx,r0,r1,_,rfl,VC (fun h2=>⟨_,rfl,A,M,rfl,hd,?_⟩) fun h2=>⟨_,rfl,_,rfl,qm (fun _=>⟨_,rfl,one_le,fun p hp=>k.ref hd (Kp.same (Ua.refl _)) hp (ja0 h2) h2⟩) fun z=>absurd z h2⟩⟩⟩⟩;refine ⟨_,rfl,_,rfl,qm (fun h3=>⟨_,rfl,one_le,fun p hp=>k.ref hd (Kp.same (Ua.refl _)) hp (k9 h2) h3⟩) fun h3=>?_⟩;have k:=k.pos ((k9 h2).trans h3);refine ⟨_,rfl,Ue T hd.wo ⟨_,rfl,hd.ixm hm.1 XF ⟨_,rfl,wa T hd.wo ⟨_,rfl,Xb T hx (hd.ix r0 r1 ⟨_,rfl,kb T (hd.of r1) ⟨_,_,rfl, .inl (xb.of (hd.jl r1)),⟨_,rfl,_,rfl,A,M,A.ad (.ms m.toNat),x,rfl,hd,⟨_,hx, .inr ⟨_,rfl,hj⟩⟩,r0,r1,hz.mono (by decide),⟨fun H' A' uQ e' hn=>?_,fun H' A' y dy a uQ e' ha hy own ny=>?_⟩⟩⟩⟩)⟩⟩⟩⟩
   ·rw [hn] at k;have i':=qa2 (e'.ad _ (vaI r1)).2.2;have f':=uQ.of i';rw [eof e' r1] at f';refine ⟨_,rfl,kb T f' ⟨_,_,rfl, .inl (xb.of (uQ.jl i')),_,rfl,_,_,rfl,rfl,⟨_,rfl,_,rfl,yg (fun _=>⟨_,rfl,_,rfl,QD,fun p hp=>k.lst (ns:= [0,(((A'.jt x.receiver.toNat).map V.ref).length:Int)- (((A.jt x.receiver.toNat).map V.ref).length:Int),-1]) uQ (Kp.ext uQ e') hp ?_⟩) fun h=>absurd rfl h⟩⟩⟩;rw [Z0 hd r1,Z0 uQ i']
   ·rw [ha] at k;have i':=qa2 (e'.ad _ (vaI r1)).2.2;have f':=uQ.of i';rw [eof e' r1] at f';have w':=uQ.wo;have qw:=(e'.ad .wo jaf).1;rw [qw] at w';have lm:(xc M x).1.ms=M.ms:=(KS M x).ms;refine ⟨_,rfl,kb T f' ⟨_,_,rfl, .inl (xb.of (uQ.jl i')),_,rfl,_,_,rfl,rfl,⟨_,rfl,_,rfl,yg (fun h=>by cases h) fun _=>⟨_,rfl,_,rfl,_,_,_,rfl,w',rfl,_,rfl,A',(xc M x).1,y,dy,a,by rw [qw];rfl,uQ,hy,own,by rw [lm];have:=hz.ms;omega,fun H2 A2 hd2 e2=>⟨QD,fun p hp=>k.lst (ns:= [1,(((A'.jt x.receiver.toNat).map V.ref).length:Int)- (((A.jt x.receiver.toNat).map V.ref).length:Int),((xc M x).1.ms.length:Int)]) hd2 ((Kp.ext uQ e').drop hd2 ny e2) hp ?_⟩⟩⟩⟩⟩;rw [Z0 hd r1,Z0 uQ i']
  ·have hm:¬(0≤m∧m<(M.ms.length:Int)):=fun z=>h1 (if_pos z);rw [if_neg hm] at k;have e0:vZ M m= -5:=if_neg hm;rw [e0];exact ⟨_,rfl,_,rfl,qm (fun _=>⟨_,rfl,one_le,fun p hp=>k.lst (ns:= [-5]) hd (Kp.same (Ua.refl _)) hp rfl⟩) fun z=>by cases z⟩
def Ybg(t:Yd)(P:Addr):Sp:=fun vs H Q _=>∃(A:Ad) (M:Mw) (p n cut:Int),vs= [.ref (A.ad .wo), .int p, .int n, .int cut]∧Holds t.c H A M∧Sz M 3∧Z9 P H∧(p.toNat<M.k→((qd M p.toNat n).map (·.1)).Pairwise (· < ·))∧vc t.c (fun b=>b=P) H A M (Wav M p n cut) (Kq P Q)
theorem Ybe{kc kp:Addr}(T:Txt K mg t)(B:Lb mg base t kc kp):wb P w K mg base ke 5 t.JaP t.KaP ["world","p","n","cut"] (Ybg t kp):=by
  refine T.Ka0.kf UaC fun vs H Q E h=>?_;obtain ⟨A,M,p,n,cut,rfl,hd,hz,tb,hs,k⟩:=h;refine ⟨rfl,fun _ _ _ _ hr=>⟨_,(Za (qb (i:=4) UaC.nd rfl (Or.inl rfl) (Ud (ja (ur T) hr.m rfl T.yy T.vp.kp T.Xx .nil Ka (za (pv 0) (za (pv 1) Qa))) (Ud (ja (Jj T) hr.m rfl T.Zl T.Zi.kp T.Yl .nil Ka (za (pv 2) Qa)) (Ud (ja (uab T) hr.m rfl T.xai T.uT.kp T.Yaj .nil Ka (za (pv 3) Qa)) (qp (ja (Zaq T B) hr.m rfl T.Uau T.WK.kp T.Vaw .nil Ka (za (pv 0) (za (pv 1) (za (pv 2) Qa))))))))) (Za (Jb (Vl (pv 4) (fun _=>rfl)) (va (Ja (Qc (za (pv 4) Qa)))) zb) (Za (qb (i:=5) UaC.nd rfl (Or.inl rfl) (Vb Xa (ya (pv 0) rfl) (pv 1) (fun _ _=>rfl))) (Za (qb (i:=6) UaC.nd rfl (Or.inl rfl) (Yc (pv 5) T.Zb T.Zq (kq T B) hr.m T.Yt .nil Ka (za (pv 2) Qa))) (Za (Zd (Yc (pv 5) T.Zb T.WA (xA T) hr.m T.UD .nil Ka (za (qr T.JaN (VH T) hr.m rfl T.ka0 T.YM .nil Ka (za (xa (v:= .str "paying") rfl T.Yas ⟨_,rfl⟩) (za (pv 2) (za (WX xH (ya (pv 6) rfl)) (za (pv 6) Qa))))) (za (pv 3) Qa)))) (va (Ja (Qc (za (ya (pv 6) rfl) Qa))))))))),?_⟩⟩;obtain ⟨pt,hpt⟩:=id tb.at_
  refine ⟨_,rfl,_,rfl,A,M,p,rfl,hd,_,rfl,VC (fun h1=>⟨_,rfl,n,rfl,_,rfl,VC (fun h2=>⟨_,rfl,cut,rfl,_,rfl,VC (fun h3=>⟨_,rfl,_,rfl,_,rfl,A,M,p,n,rfl,hd,(yi h1).1,(yi h1).2.1,by have:=hz.Kc _ (yi h1).2.1;omega,tb,hs (yi h1).2.1,fun H1 J8 sb=>?_⟩) fun h3=>⟨_,rfl,_,rfl,qm (fun _=>⟨_,rfl,one_le,fun p hp=>k.ref hd (Kp.same (Ua.refl _)) hp (by simp [Wb,h1,h2,h3]) h3 (Tb.same tb (Ua.new hp))⟩) fun z=>absurd z h3⟩⟩) fun h2=>⟨_,rfl,_,rfl,qm (fun _=>⟨_,rfl,one_le,fun p hp=>k.ref hd (Kp.same (Ua.refl _)) hp (by simp [Wb,h1,h2]) h2 (Tb.same tb (Ua.new hp))⟩) fun z=>absurd z h2⟩⟩) fun h1=>⟨_,rfl,_,rfl,qm (fun _=>⟨_,rfl,one_le,fun p hp=>k.ref hd (Kp.same (Ua.refl _)) hp (by simp [Wb,h1]) h1 (Tb.same tb (Ua.new hp))⟩) fun z=>absurd z h1⟩⟩;have Kd:=hd.sb hpt sb;refine ⟨_,rfl,_,rfl,qm (fun h4=>⟨_,rfl,one_le,fun p hp=>k.ref Kd (Kp.sb J8 sb) hp (by simp [Wb,h1,h2,h3]) h4 (Tb.same J8 (Ua.new hp))⟩) fun h4=>?_⟩;have k:=k.pos (by simp [Wb,h1,h2,h3,h4]);obtain ⟨h0,hi,_⟩:=yi h1;obtain ⟨x,ex⟩:∃x,Kg M p.toNat n=some x:=by
   unfold Kad at h4;cases e:Kg M p.toNat n with
   | none=>rw [e] at h4;cases h4
   | some x=>exact ⟨x,rfl⟩
  rw [ex] at k;have k:vc t.c (fun b=>b=kp) H A M (vd M p.toNat ⟨2,n,-x.2.vb,x.1⟩ cut, [x.2.vb]) (Kq kp Q):=k;have z1:=hz.jr _ hi;have z2:=hz.ub _ hi;have z3:=hz.Kc _ hi;refine ⟨_,rfl,wa T Kd.wo ⟨_,rfl,Kd.ix h0 hi ⟨_,rfl,_,_,_,rfl,Kd.of hi,rfl,_,rfl,A,M,p.toNat,n,rfl,Kd,hi,by omega,J8,hs hi,fun H2 tb2 sb2=>?_⟩⟩⟩;rw [ex];obtain ⟨pt1,Wbd⟩:=id J8.at_
  have hd2:=Kd.sb Wbd sb2;have hx:=uaO hd hi ex;have f2:=hd2.cl hi hx;refine ⟨_,rfl,_,_,_,rfl,hd2.of hi,rfl,_,rfl,_,rfl,Kr T f2 ⟨_,rfl,_,rfl,fun y dy ny nd nyd=>⟨y,dy,A.ad (.cl p.toNat n x.1),⟨2,n,-x.2.vb,x.1⟩,rfl,Ya,fun H3 hy hk=>⟨rfl,_,rfl,?_⟩⟩⟩⟩;have s3:Ua H2 H3:=made (C:=t.c.act) (fs:= []) ny nd hk;refine ⟨A,M,p.toNat,y,dy,⟨2,n,-x.2.vb,x.1⟩,cut,rfl,hd2.same s3,hi,by omega,by omega,hy,vaP (n:=n) (g:=x.1) hi hx,fun H4 A4 W2 e4=>?_⟩;have hk4:(vd M p.toNat ⟨2,n,-x.2.vb,x.1⟩ cut).k=M.k:=(xO _ _ _ _).k;obtain ⟨x',hx',ec⟩:=yaR (i:=p.toNat) (a:=⟨2,n,-x.2.vb,x.1⟩) (cut:=cut) hx;have f4:=W2.cl (by rw [hk4];exact hi) hx';rw [(e4.ad (.cl p.toNat n x.1) (vaP hi hx)).1] at f4;have kp4:Kp t.c ZU H2 A M H4 A4 _:=(Kp.same s3).trans (Kp.ext W2 e4);exact ⟨_,rfl,Kr T f4 ⟨one_le,fun p hp=>k.lst (ns:= [x'.vb]) W2 (((Kp.sb J8 sb).trans (Kp.sb tb2 sb2)).trans kp4.weak) hp (by show [x.2.vb]=_;rw [ec]) (Tb.same (Tb.kp tb2 hd2 kp4) (Ua.new hp))⟩⟩
def kaW(t:Yd)(P:Addr):Sp:=fun vs H Q _=>∃(A:Ad) (M:Mw) (p n:Int),vs= [.ref (A.ad .wo), .int p, .int n]∧Holds t.c H A M∧Sz M 3∧Z9 P H∧(p.toNat<M.k→((qd M p.toNat n).map (·.1)).Pairwise (· < ·))∧vc t.c (fun b=>b=P) H A M (WG M p n) (Kq P Q)
theorem ZaZ{kc kp:Addr}(T:Txt K mg t)(B:Lb mg base t kc kp):wb P w K mg base ke 5 t.wae t.Yae ["world","p","n"] (kaW t kp):=by
  refine T.xar.kf U7 fun vs H Q E h=>?_;obtain ⟨A,M,p,n,rfl,hd,hz,tb,hs,k⟩:=h;refine ⟨rfl,fun _ _ _ _ hr=>⟨_,(Za (qb (i:=3) U7.nd rfl (Or.inl rfl) (Ud (ja (ur T) hr.m rfl T.yy T.vp.kp T.Xx .nil Ka (za (pv 0) (za (pv 1) Qa))) (Ud (ja (Jj T) hr.m rfl T.Zl T.Zi.kp T.Yl .nil Ka (za (pv 2) Qa)) (Ud (ja (Jac T) hr.m rfl T.Jaq T.y9.kp T.Kaq .nil Ka (za (pv 0) Qa)) (qp (ja (Yaw T B) hr.m rfl T.Jax T.wR.kp T.Vaz .nil Ka (za (pv 0) (za (pv 1) (za (pv 2) Qa))))))))) (Za (Jb (Vl (pv 3) (fun _=>rfl)) (va (Ja (Qc (za (pv 3) Qa)))) zb) (Za (qb (i:=4) U7.nd rfl (Or.inl rfl) (Vb Xa (ya (pv 0) rfl) (pv 1) (fun _ _=>rfl))) (Za (qb (i:=5) U7.nd rfl (Or.inl rfl) (Yc (pv 4) T.Zb T.Zq (kq T B) hr.m T.Yt .nil Ka (za (pv 2) Qa))) (Za (Zd (Yc (pv 4) T.Zb T.Qx (vw T) hr.m T.Ky .nil Ka (za (pv 2) (za (ya (pv 5) rfl) Qa)))) (va (Ja (Qc (za (Yc (pv 0) T.Wc T.Kv (Vv T) hr.m T.Xy .nil Ka (za (qr T.uC (Zh T) hr.m rfl T.qI T.zi .nil Ka (za (xa (v:= .int (5)) rfl T.Xac ⟨_,rfl⟩) (za (pv 2) (za (ya (pv 5) rfl) (za (pv 1) (za (ja (Vr T) hr.m rfl T.Kw T.Uo.kp T.Yx .nil Ka (za (pv 2) Qa)) (za ua (za ua Qa)))))))) Qa)) Qa))))))))),?_⟩⟩;obtain ⟨pt,hpt⟩:=id tb.at_
  refine ⟨_,rfl,_,rfl,A,M,p,rfl,hd,_,rfl,VC (fun h1=>⟨_,rfl,n,rfl,_,rfl,VC (fun h2=>⟨_,rfl,A,M,rfl,hd,_,rfl,VC (fun h3=>⟨_,rfl,_,rfl,_,rfl,A,M,p,n,rfl,hd,(yi h1).1,(yi h1).2.1,by have:=hz.Kc _ (yi h1).2.1;omega,tb,hs (yi h1).2.1,fun H1 J8 sb=>?_⟩) fun h3=>⟨_,rfl,_,rfl,qm (fun _=>⟨_,rfl,one_le,fun p hp=>k.ref hd (Kp.same (Ua.refl _)) hp (by simp [Wb,h1,h2,h3]) h3 (Tb.same tb (Ua.new hp))⟩) fun z=>absurd z h3⟩⟩) fun h2=>⟨_,rfl,_,rfl,qm (fun _=>⟨_,rfl,one_le,fun p hp=>k.ref hd (Kp.same (Ua.refl _)) hp (by simp [Wb,h1,h2]) h2 (Tb.same tb (Ua.new hp))⟩) fun z=>absurd z h2⟩⟩) fun h1=>⟨_,rfl,_,rfl,qm (fun _=>⟨_,rfl,one_le,fun p hp=>k.ref hd (Kp.same (Ua.refl _)) hp (by simp [Wb,h1]) h1 (Tb.same tb (Ua.new hp))⟩) fun z=>absurd z h1⟩⟩;have Kd:=hd.sb hpt sb;have er:Wb (uj M p) (Wb (outI n 0 100000) (Wb (uy M) (if (Kg M p.toNat n).isSome=true then 0 else-3)))=if (Kg M p.toNat n).isSome=true then 0 else-3:=by
   rw [k9 h1,k9 h2,k9 h3]
  refine ⟨_,rfl,_,rfl,qm (fun h4=>⟨_,rfl,one_le,fun p hp=>k.ref Kd (Kp.sb J8 sb) hp er h4 (Tb.same J8 (Ua.new hp))⟩) fun h4=>?_⟩;have k:=k.pos (er.trans h4);obtain ⟨h0,hi,_⟩:=yi h1;obtain ⟨x,ex⟩:∃x,Kg M p.toNat n=some x:=by
   cases e:Kg M p.toNat n with
   | none=>rw [e] at h4;cases h4
   | some x=>exact ⟨x,rfl⟩
  rw [ex] at k;have k:vc t.c (fun b=>b=kp) H A M (zG (xn M p.toNat n x.1) ⟨5,n,x.1,p,Jr n,0,0,false⟩, [(M.ms.length:Int)]) (Kq kp Q):=k;have z1:=hz.jr _ hi;have z3:=hz.Kc _ hi;refine ⟨_,rfl,wa T Kd.wo ⟨_,rfl,Kd.ix h0 hi ⟨_,rfl,_,_,_,rfl,Kd.of hi,rfl,_,rfl,A,M,p.toNat,n,rfl,Kd,hi,by omega,J8,hs hi,fun H2 tb2 sb2=>?_⟩⟩⟩;rw [ex];obtain ⟨pt1,Wbd⟩:=id J8.at_
  have hd2:=Kd.sb Wbd sb2;have hx:=uaO hd hi ex;have f2:=hd2.cl hi hx;refine ⟨_,rfl,_,_,_,rfl,hd2.of hi,rfl,_,rfl,_,rfl,vM T f2 ⟨A,M,p.toNat,n,x.1,rfl,hd2,hi,by omega,by omega,fun H3 A3 Jk e3=>?_⟩⟩;have bw:Zp M (xn M p.toNat n x.1) p.toNat:=((Xg _ _ _).trans (vm _ _ _ _)).trans (zo _ _ _ _ _);have w3:=Jk.wo;have qw:=(e3.ad .wo jaf).1;rw [qw] at w3;obtain ⟨x',hx'⟩:∃x',(xn M p.toNat n x.1).cl p.toNat n x.1=some x':=by
   have l:=(e3.ad (.cl p.toNat n x.1) (vaP hi hx)).2.2;unfold Lv at l;have l:(if p.toNat<(xn M p.toNat n x.1).k then ((xn M p.toNat n x.1).cl p.toNat n x.1).map _ else none).isSome=true:=l;rw [if_pos (by rw [bw.k];exact hi),Option.isSome_map] at l;exact Option.isSome_iff_exists.mp l
  have f3:=Jk.cl (by rw [bw.k];exact hi) hx';rw [(e3.ad (.cl p.toNat n x.1) (vaP hi hx)).1] at f3;refine ⟨_,rfl,_,_,_,rfl,w3,rfl,_,rfl,_,rfl,vM T f3 ⟨_,rfl,_,rfl,n,rfl,fun y dy ny nd nyd=>⟨y,dy,_,_,_,_,_,_,_,rfl,Ya,fun H4 hy hk=>⟨rfl,?_⟩⟩⟩⟩;have s4:Ua H3 H4:=made (C:=t.c.message) (fs:= []) ny nd hk;refine ⟨A3,xn M p.toNat n x.1,y,dy,_,by rw [qw];rfl,Jk.same s4,hy,Jk.own ny,by rw [bw.ms];have:=hz.ms;omega,fun H5 A5 j8 e5=>?_⟩;have kp5:Kp t.c ZU H2 A M H5 A5 _:=(Kp.ext Jk e3).trans (Kp.ext j8 (Ext.drop s4 ny e5));rw [bw.ms];exact ⟨one_le,fun p hp=>k.lst (ns:= [(M.ms.length:Int)]) j8 (((Kp.sb J8 sb).trans (Kp.sb tb2 sb2)).trans kp5.weak) hp rfl (Tb.same (Tb.kp tb2 hd2 kp5) (Ua.new hp))⟩
end Mo
namespace Mo
open PySem PySem.Spec PyProof.Rows L2
variable{P:Program}{w:World}{K:PySem.W.Frag}{mg:Str→Option Value}{base:Heap}{t:Yd}
section
variable{c:Cs}{H H1 H' H2:Hp}{A A' A2:Ad}{M M' M2:Mw}{ex:Addr→Prop}{p:Addr}{Q:VK}
def Wr(A:Ad)(i:Nat)(n:Int)(x dx y:Addr):Ad:={A with ad:=Zy (Zy A.ad (.ord i n) x) (.gl i n) y,dd:=Zy A.dd (.ord i n) dx}
theorem vN{i:Nat}{n:Int}{x dx y:Addr}{q:Pl}(h1:q≠ .ord i n)(h2:q≠ .gl i n):(Wr A i n x dx y).ad q=A.ad q:=by
 show Zy (Zy A.ad (.ord i n) x) (.gl i n) y q=_;rw [km h2,km h1]
theorem Kae{i:Nat}{n:Int}{x dx y:Addr}:(Wr A i n x dx y).ad (.ord i n)=x:=by
 show Zy (Zy A.ad (.ord i n) x) (.gl i n) y (.ord i n)=_;rw [km (by intro z;cases z),Vm]
theorem kan{i:Nat}{n:Int}{x dx y:Addr}:(Wr A i n x dx y).ad (.gl i n)=y:=Vm _ _ _
theorem Qaj{i:Nat}{n:Int}{x dx y:Addr}{o:Qe}(hn:n∉M.ub i){q:Pl}(h1:q≠ .ord i n)(h2:q≠ .gl i n)(h3:∀k,q≠ .gr i n k):cont c (Wr A i n x dx y) (ug M i n o) q=cont c A M q:=by
 cases q with
 | wo=>rfl
 | VJ=>
  show some (HO.lst ((List.range M.k).map fun j=>V.ref ((Wr A i n x dx y).ad (.of j))))=some (HO.lst ((List.range M.k).map fun j=>V.ref (A.ad (.of j))))
  congr 2
 | kT=>rfl
 | ms j=>rfl
 | of j=>rfl
 | jl j=>rfl
 | cd j=>rfl
 | cl j m g=>rfl
 | od j=>
  show (if j<M.k then some (HO.dK ((M.ub j).map fun m=>(Sum.inl m,V.ref ((Wr A i n x dx y).ad (.ord j m))))) else none)=if j<M.k then some (HO.dK ((M.ub j).map fun m=>(Sum.inl m,V.ref (A.ad (.ord j m))))) else none
  congr 3
  refine List.map_congr_left fun m hm=>?_;rw [vN (fun z=>?_) (fun z=>by cases z)];injection z with z1 z2;subst z1 z2;exact hn hm
 | ord j m=>
  show (if j<M.k then ((ug M i n o).ord j m).map (fun o'=>HO.ins c.order ((Wr A i n x dx y).dd (.ord j m)) (vC ((Wr A i n x dx y).ad (.gl j m)) o')) else none)=if j<M.k then (M.ord j m).map _ else none
  have e:¬(j=i∧m=n):=fun z=>h1 (by rw [z.1,z.2])
  rw [show (ug M i n o).ord j m=M.ord j m from if_neg e,show (Wr A i n x dx y).dd (.ord j m)=A.dd (.ord j m) from km h1,vN (fun z=>by cases z) (fun z=>by
   injection z with z1 z2;exact e ⟨z1,z2⟩)]
 | gl j m=>
  show (if j<M.k then ((ug M i n o).ord j m).map (fun o'=>HO.lst ((List.range o'.gs.length).map fun k=>V.ref ((Wr A i n x dx y).ad (.gr j m k)))) else none)=if j<M.k then (M.ord j m).map _ else none
  have e:¬(j=i∧m=n):=fun z=>h2 (by rw [z.1,z.2])
  rw [show (ug M i n o).ord j m=M.ord j m from if_neg e];rfl
 | gr j m k=>
  show (if j<M.k then ((ug M i n o).ord j m).bind (fun o'=>(o'.gs[k]?).map fun g=>HO.ins c.yc ((Wr A i n x dx y).dd (.gr j m k)) (QK g)) else none)=if j<M.k then (M.ord j m).bind _ else none
  have e:¬(j=i∧m=n):=fun z=>h3 k (by rw [z.1,z.2])
  rw [show (ug M i n o).ord j m=M.ord j m from if_neg e];rfl
theorem Holds.Wbg(h:Holds c H A M){i:Nat}{n:Int}{o:Qe}{x dx y:Addr}(hi:i<M.k)(hn:n∉M.ub i)(hg:o.gs= [])(hx:H x=some (.ins c.order dx (vC y o)))(hy:H y=some (.lst []))(nx:¬Own c A M x)(ny:¬Own c A M y)(hp:∀a,(M.jr i).getLast? ≠some (.begun a)):
  Holds c H (Wr A i n x dx y) (ug M i n o)∧∀b,b≠x→b≠y→¬Own c A M b→¬Own c (Wr A i n x dx y) (ug M i n o) b:=by
 have eo:(ug M i n o).ord i n=some o:=if_pos ⟨rfl,rfl⟩;have co:cont c (Wr A i n x dx y) (ug M i n o) (.ord i n)=some (.ins c.order dx (vC y o)):=by
  show (if i<M.k then ((ug M i n o).ord i n).map (fun o'=>HO.ins c.order ((Wr A i n x dx y).dd (.ord i n)) (vC ((Wr A i n x dx y).ad (.gl i n)) o')) else none)=_;rw [if_pos hi,eo,kan,show (Wr A i n x dx y).dd (.ord i n)=dx from Vm _ _ _];rfl
 have cg:cont c (Wr A i n x dx y) (ug M i n o) (.gl i n)=some (.lst []):=by
  show (if i<M.k then ((ug M i n o).ord i n).map (fun o'=>HO.lst ((List.range o'.gs.length).map fun k=>V.ref ((Wr A i n x dx y).ad (.gr i n k)))) else none)=_;rw [if_pos hi,eo];show some (HO.lst ((List.range o.gs.length).map _))=_;rw [hg];rfl
 have cr:∀k,cont c (Wr A i n x dx y) (ug M i n o) (.gr i n k)=none:=fun k=>by
  show (if i<M.k then ((ug M i n o).ord i n).bind (fun o'=>(o'.gs[k]?).map fun g=>HO.ins c.yc ((Wr A i n x dx y).dd (.gr i n k)) (QK g)) else none)=_;rw [if_pos hi,eo];show (o.gs[k]?).map _=none;rw [hg];rfl
 have lv:∀{q},q≠ .ord i n→q≠ .gl i n→Lv c (Wr A i n x dx y) (ug M i n o) q→Lv c A M q:=fun {q} h1 h2 l=>by
  unfold Lv at l⊢;by_cases h3:∃k,q= .gr i n k
  ·obtain ⟨k,rfl⟩:=h3;rw [cr k] at l;cases l
  ·rw [Qaj hn h1 h2 fun k z=>h3 ⟨k,z⟩] at l;exact l
 have xy:x≠y:=fun z=>by rw [z,hy] at hx;cases hx
 refine ⟨⟨fun q u e=>?_,fun q r l1 l2 e=>?_,h.jr,fun j a hj e=>?_,fun j hj=>?_⟩,fun b b1 b2 nb=>?_⟩
 ·by_cases z1:q= .ord i n
  ·subst z1;rw [co] at e;cases e;rw [Kae];exact hx
  ·by_cases z2:q= .gl i n
   ·subst z2;rw [cg] at e;cases e;rw [kan];exact hy
   ·rw [vN z1 z2];by_cases z3:∃k,q= .gr i n k
    ·obtain ⟨k,rfl⟩:=z3;rw [cr k] at e;cases e
    ·rw [Qaj hn z1 z2 fun k z=>z3 ⟨k,z⟩] at e;exact h.at_ q u e
 ·have tri:∀{q},Lv c (Wr A i n x dx y) (ug M i n o) q→(q= .ord i n∧(Wr A i n x dx y).ad q=x)∨(q= .gl i n∧(Wr A i n x dx y).ad q=y)∨(Lv c A M q∧(Wr A i n x dx y).ad q=A.ad q):=fun {q} l=>by
   by_cases z1:q= .ord i n
   ·subst z1;exact .inl ⟨rfl,Kae⟩
   ·by_cases z2:q= .gl i n
    ·subst z2;exact .inr (.inl ⟨rfl,kan⟩)
    ·exact .inr (.inr ⟨lv z1 z2 l,vN z1 z2⟩)
  rcases tri l1 with ⟨q1,e1⟩ | ⟨q1,e1⟩ | ⟨q1,e1⟩<;>rcases tri l2 with ⟨q2,e2⟩ | ⟨q2,e2⟩ | ⟨q2,e2⟩<;>rw [e1,e2] at e
  ·rw [q1,q2]
  ·exact absurd e xy
  ·exact absurd ⟨r,q2,e.symm⟩ nx
  ·exact absurd e.symm xy
  ·rw [q1,q2]
  ·exact absurd ⟨r,q2,e.symm⟩ ny
  ·exact absurd ⟨q,q1,e⟩ nx
  ·exact absurd ⟨q,q1,e⟩ ny
  ·exact h.inj q r q1 q2 e
 ·obtain ⟨t,u,du,h1,h2,h3,h4⟩:=h.pend j a hj e;have ji:j≠i:=fun z=>hp a (by rw [←z];exact e)
  have s1:yC j a≠ .ord i n:=by
   unfold yC;split
   ·intro z;cases z
   ·intro z;injection z with z1 _;exact ji z1
  have s2:yC j a≠ .gl i n:=by
   unfold yC;split<;>intro z<;>cases z
  have s3:∀k,yC j a≠ .gr i n k:=fun k=>by
   unfold yC;split<;>intro z<;>cases z
  refine ⟨t,u,du,h1,h2,by rw [vN s1 s2];exact h3,?_⟩;unfold Lv at h4⊢;rw [Qaj hn s1 s2 s3];exact h4
 ·obtain ⟨w1,w2,w3⟩:=h.wd j hj;refine ⟨fun m hm=>?_,w2,w3⟩;show (if j=i∧m=n then some o else M.ord j m).isSome=true;split
  ·rfl
  ·exact w1 m hm
 ·rintro ⟨q,l,e⟩
  by_cases z1:q= .ord i n
  ·subst z1;rw [Kae] at e;exact b1 e.symm
  ·by_cases z2:q= .gl i n
   ·subst z2;rw [kan] at e;exact b2 e.symm
   ·rw [vN z1 z2] at e;exact nb ⟨q,lv z1 z2 l,e⟩
theorem ubm{x dx y C:Addr}(nx:H x=none)(nd:H dx=none)(yx:y≠x)(ny:(upd (upd H dx (.own x)) x (.ins C dx [])) y=none)(k:∀b,b≠x→b≠y→H' b=(upd (upd H dx (.own x)) x (.ins C dx [])) b):Ua H H'∧H y=none:=by
 have nyd:y≠dx:=fun z=>by rw [Va yx,z,Ya] at ny;cases ny
 have hy:H y=none:=by rw [Va yx,Va nyd] at ny;exact ny
 refine ⟨fun b o e=>?_,hy⟩;rw [k b (Qb e nx) (Qb e hy),Va (Qb e nx),Va (Qb e nd)];exact e
end
def Ua4(t:Yd):Sp:=fun vs H Q _=>∃(A:Ad) (M:Mw) (o vb key cut:Int),vs= [.ref (A.ad .wo), .int o, .int vb, .int key, .int cut]∧Holds t.c H A M∧Sz M 3∧(o.toNat<M.k→M.up o.toNat=true→(∀a,(M.jr o.toNat).getLast? ≠some (.begun a))∧(0≤o→(M.begun o.toNat+1)*10+o∉M.ub o.toNat))∧vc t.c ZU H A M (QU M o vb key cut) Q
theorem Ka5(T:Txt K mg t):wb P w K mg base ke 4 t.Jao t.jao ["world","o","coins","key","cut"] (Ua4 t):=by
  refine T.XaE.kf Y1 fun vs H Q E h=>?_;obtain ⟨A,M,o,vb,key,cut,rfl,hd,hz,Xd,k⟩:=h;refine ⟨rfl,fun _ _ _ _ hr=>⟨_,(Za (qb (i:=5) Y1.nd rfl (Or.inl rfl) (Ud (ja (ur T) hr.m rfl T.yy T.vp.kp T.Xx .nil Ka (za (pv 0) (za (pv 1) Qa))) (Ud (ja (Vh T) hr.m rfl T.Zj T.Yh.kp T.zj .nil Ka (za (pv 2) (za ua (za (xa (v:= .int (1000000)) rfl T.jaH ⟨_,rfl⟩) Qa)))) (Ud (ja (zat T) hr.m rfl T.QaA T.y6.kp T.VaB .nil Ka (za (pv 3) Qa)) (Ud (ja (uab T) hr.m rfl T.xai T.uT.kp T.Yaj .nil Ka (za (pv 4) Qa)) (Ud (ja (uV T) hr.m rfl T.JZ T.Ww.kp T.u0 .nil Ka (za (pv 0) (za (Vs qx (pv 2) (ya (pv 0) rfl)) Qa))) (qp (ja (uad T) hr.m rfl T.Qai T.YB.kp T.Uag .nil Ka (za (pv 0) (za (pv 1) Qa)))))))))) (Za (Jb (Vl (pv 5) (fun _=>rfl)) (va (Ja (Qc (za (pv 5) Qa)))) zb) (Za (qb (i:=6) Y1.nd rfl (Or.inl rfl) (Vb Xa (ya (pv 0) rfl) (pv 1) (fun _ _=>rfl))) (Za (qb (i:=7) Y1.nd rfl (Or.inl rfl) (Vs qx (Vs qbg (Vs qx (ya (pv 6) rfl) ua) ua) (pv 1))) (Za (qb (i:=8) Y1.nd rfl (Or.inl rfl) (qr T.ka3 (Jag T) hr.m rfl T.Ka9 T.Yal .nil Ka (za (pv 2) (za (pv 3) (za (Vs qx (Yc (pv 0) T.Wc T.Vi (vi T) hr.m T.Wj .nil Ka (za (pv 1) Qa)) (ya (pv 0) rfl)) Qa))))) (Za (Zd (Yc (pv 6) T.Zb T.WA (xA T) hr.m T.UD .nil Ka (za (qr T.JaN (VH T) hr.m rfl T.ka0 T.YM .nil Ka (za (xa (v:= .str "issuing") rfl T.x5 ⟨_,rfl⟩) (za (pv 7) (za (Vs qx (pv 2) (ya (pv 0) rfl)) (za (pv 8) Qa))))) (za (pv 4) Qa)))) (va (Ja (Qc (za (pv 7) Qa)))))))))),?_⟩⟩;refine ⟨_,rfl,_,rfl,A,M,o,rfl,hd,_,rfl,VC (fun h1=>⟨_,rfl,_,_,_,rfl,_,rfl,VC (fun h2=>⟨_,rfl,key,rfl,_,rfl,VC (fun h3=>⟨_,rfl,cut,rfl,_,rfl,VC (fun h4=>⟨_,rfl,_,rfl,_,rfl,xaf T hd.wo ⟨_,_,rfl,rfl,A,M,_,rfl,hd,hz.k',fun H1 s1=>⟨_,rfl,VC (fun h5=>⟨_,rfl,_,rfl,A,M,o,rfl,hd.same s1,(yi h1).1,(yi h1).2.1,?_⟩) fun h5=>⟨_,rfl,_,rfl,qm (fun _=>⟨_,rfl,one_le,fun p hp=>k.ref (hd.same s1) (Kp.same s1) hp (by simp [Wb,h1,h2,h3,h4,h5]) h5⟩) fun z=>absurd z h5⟩⟩⟩⟩) fun h4=>⟨_,rfl,_,rfl,qm (fun _=>⟨_,rfl,one_le,fun p hp=>k.ref hd (Kp.same (Ua.refl _)) hp (by simp [Wb,h1,h2,h3,h4]) h4⟩) fun z=>absurd z h4⟩⟩) fun h3=>⟨_,rfl,_,rfl,qm (fun _=>⟨_,rfl,one_le,fun p hp=>k.ref hd (Kp.same (Ua.refl _)) hp (by simp [Wb,h1,h2,h3]) h3⟩) fun z=>absurd z h3⟩⟩) fun h2=>⟨_,rfl,_,rfl,qm (fun _=>⟨_,rfl,one_le,fun p hp=>k.ref hd (Kp.same (Ua.refl _)) hp (by simp [Wb,h1,h2]) h2⟩) fun z=>absurd z h2⟩⟩) fun h1=>⟨_,rfl,_,rfl,qm (fun _=>⟨_,rfl,one_le,fun p hp=>k.ref hd (Kp.same (Ua.refl _)) hp (by simp [Wb,h1]) h1⟩) fun z=>absurd z h1⟩⟩;have Kd:=hd.same s1;refine ⟨_,rfl,_,rfl,qm (fun h6=>⟨_,rfl,one_le,fun p hp=>k.ref Kd (Kp.same s1) hp (by simp [Wb,h1,h2,h3,h4,h5]) h6⟩) fun h6=>?_⟩;have k:=k.pos (by simp [Wb,h1,h2,h3,h4,h5,h6]);obtain ⟨h0,hi,hup⟩:=yi h1;obtain ⟨ZaQ,Ua6⟩:=Xd hi hup;have Ua6:=Ua6 h0;have z1:=hz.jr _ hi;have z2:=hz.ub _ hi;refine ⟨_,rfl,wa T Kd.wo ⟨_,rfl,Kd.ix h0 hi ⟨_,rfl,XB T (Kd.of hi) ⟨_,_,rfl,rfl,_,_,rfl,rfl, .inr ⟨by decide,by decide⟩,_,rfl,_,_,rfl,rfl,⟨_,rfl,_,rfl,_,rfl,_,_,_,rfl,Kd.wo,rfl,_,rfl,A,M,o,rfl,Kd,h0,hi,_,rfl,zaz T Kd.wo ⟨_,_,rfl,rfl,fun x dx nx nd nxd=>⟨x,dx,_,_,_,rfl,Ya,fun H2 y nyx ny hx hy hk=>⟨rfl,?_⟩⟩⟩⟩⟩⟩⟩⟩;obtain ⟨s2,ny1⟩:=ubm nx nd nyx ny hk;have hd2:=Kd.same s2;have nox:¬Own t.c A M x:=Kd.own nx;have noy:¬Own t.c A M y:=Kd.own ny1;generalize en:(M.begun o.toNat+1)*10+o=num at Ua6 k;obtain ⟨kbt,nown⟩:=hd2.Wbg (i:=o.toNat) (n:=num) (o:=⟨vb,key,zd M o.toNat+M.life, [],false,false⟩) (x:=x) (dx:=dx) (y:=y) hi Ua6 rfl hx hy nox noy ZaQ;have kp2:Kp t.c ZU H A M H2 (Wr A o.toNat num x dx y) (ug M o.toNat num ⟨vb,key,zd M o.toNat+M.life, [],false,false⟩):=
   ⟨vN (by intro z;cases z) (by intro z;cases z),fun b ob _ e n=>⟨s2 _ _ (s1 _ _ e),nown b (Qb (s1 _ _ e) nx) (Qb (s1 _ _ e) ny1) n⟩,fun b e=>s1.free (s2.free e)⟩
  refine ⟨_,rfl,_,_,_,rfl,hd2.of hi,rfl,_,rfl,_,rfl,_,rfl,xaf T hd2.wo ⟨_,_,rfl,rfl,_,rfl,fun z dz nz nd3 nzd=>⟨z,dz,x,⟨1,num,vb+M.fee,0⟩,by rw [←en];rfl,Ya,fun H3 hz3 hk3=>⟨rfl,_,rfl,?_⟩⟩⟩⟩;have s3:Ua H2 H3:=made (C:=t.c.act) (fs:= []) nz nd3 hk3;refine ⟨Wr A o.toNat num x dx y,ug M o.toNat num ⟨vb,key,zd M o.toNat+M.life, [],false,false⟩,o.toNat,z,dz,⟨1,num,vb+M.fee,0⟩,cut,by rw [vN (by intro z;cases z) (by intro z;cases z)];rfl,kbt.same s3,hi,(show (M.jr o.toNat).length+1<sizeLine by omega),(show (M.ub o.toNat).length<sizeLine by omega),?_,JaA (n:=num) (M:=ug M o.toNat num ⟨vb,key,zd M o.toNat+M.life, [],false,false⟩) (o:=⟨vb,key,zd M o.toNat+M.life, [],false,false⟩) hi (if_pos ⟨rfl,rfl⟩),fun H4 A4 W2 e4=>?_⟩
  ·show H3 z=some (.ins t.c.act dz (zt ⟨1,num,vb+M.fee,0⟩ ((Wr A o.toNat num x dx y).ad (.ord o.toNat num))));rw [Kae];exact hz3
  ·have kk:=kp2.trans ((Kp.same s3).trans (Kp.ext W2 e4));refine ⟨_,rfl,one_le,fun p hp=>?_⟩;have:=k.lst (ns:= [num]) W2 kk hp rfl;show Q (.ref p) (upd H4 p (.lst [.int ((M.begun o.toNat+1)*10+o)]));rw [en];exact this
end Mo
namespace Mo
open PySem PySem.Spec PyProof.Rows L2
variable{P:Program}{w:World}{K:PySem.W.Frag}{mg:Str→Option Value}{base:Heap}{t:Yd}
section
variable{c:Cs}{H H1 H' H2:Hp}{A A' A2:Ad}{M M' M2:Mw}{ex:Addr→Prop}{p:Addr}{Q:VK}
structure Gr(M M':Mw):Prop where
 k:M'.k=M.k
 ms:M'.ms=M.ms
 ub:M'.ub=M.ub
 jr:∀i,(M'.jr i).length≤(M.jr i).length+1
 Kc:∀i,(M'.Kc i).length≤(M.Kc i).length+1
 gs:∀i n o',M'.ord i n=some o'→∃o,M.ord i n=some o∧o'.gs.length≤o.gs.length+1
theorem Gr.refl(M:Mw):Gr M M:=⟨rfl,rfl,rfl,fun _=>Nat.le_succ _,fun _=>Nat.le_succ _,fun _ _ o e=>⟨o,e,Nat.le_succ _⟩⟩
theorem Sz.gr{d:Nat}(z:Sz M (d+1))(g:Gr M M'):Sz M' d:=by
 refine ⟨by rw [g.k];exact z.k,fun i hi=>?_,by rw [g.ms];have:=z.ms;omega,fun i hi=>by rw [g.ub];have:=z.ub i (by rw [g.k] at hi;exact hi);omega,fun i hi=>?_,fun i n o hi ho=>?_⟩
 ·have h1:=z.jr i (by rw [g.k] at hi;exact hi);have h2:=g.jr i;omega
 ·have h1:=z.Kc i (by rw [g.k] at hi;exact hi);have h2:=g.Kc i;omega
 ·obtain ⟨o1,e1,l⟩:=g.gs i n o ho;have h1:=z.gs i n o1 (by rw [g.k] at hi;exact hi) e1;omega
theorem Qae(M:Mw)(i:Nat)(r:JR)(j:Nat):((jc M i r).jr j).length≤(M.jr j).length+1:=by
 show (ye M.jr i (M.jr i++ [r]) j).length≤_;by_cases z:j=i
 ·subst z;rw [Ub,List.length_append];simp
 ·rw [Xe z];omega
theorem UaO{i:Nat}{n:Int}{f:Qe→Qe}(r:JR)(hf:∀o,(f o).gs.length≤o.gs.length+1):Gr M (Ze (jc M i r) i n f):=by
 refine ⟨rfl,rfl,rfl,fun j=>Qae M i r j,fun j=>Nat.le_succ _,fun j m o' e=>?_⟩;have e:(if j=i∧m=n then (M.ord i n).map f else M.ord j m)=some o':=e;split at e
 ·rename_i z;obtain ⟨rfl,rfl⟩:=z;obtain ⟨o,ho,rfl⟩:=Option.map_eq_some_iff.mp e;exact ⟨o,ho,hf o⟩
 ·exact ⟨o',e,Nat.le_succ _⟩
theorem vaK(M:Mw)(i:Nat)(n g:Int):(yb M i n g).jr=M.jr∧(yb M i n g).ub=M.ub∧(yb M i n g).ord=M.ord∧(yb M i n g).ms=M.ms∧(yb M i n g).k=M.k∧∀j,((yb M i n g).Kc j).length≤(M.Kc j).length+1:=by
 unfold yb;split
 ·exact ⟨rfl,rfl,rfl,rfl,rfl,fun j=>Nat.le_succ _⟩
 ·refine ⟨rfl,rfl,rfl,rfl,rfl,fun j=>?_⟩;show (ye M.Kc i (M.Kc i++ [(n,g)]) j).length≤_;by_cases z:j=i
  ·subst z;rw [Ub,List.length_append];simp
  ·rw [Xe z];omega
theorem zbc{i:Nat}{n g:Int}{f:Jn→Jn}(r:JR):Gr M (ZG (yb (jc M i r) i n g) i n g f):=by
 obtain ⟨t1,t2,t3,t4,t5,t6⟩:=vaK (jc M i r) i n g;refine ⟨t5,t4,t2,fun j=>?_,fun j=>t6 j,fun j m o' e=>?_⟩
 ·show ((yb (jc M i r) i n g).jr j).length≤_;rw [t1];exact Qae M i r j
 ·have e:(yb (jc M i r) i n g).ord j m=some o':=e;rw [t3] at e;exact ⟨o',e,Nat.le_succ _⟩
theorem xaF(gs:List MG):(Vj gs).length≤gs.length+1:=by
 unfold Vj;split
 ·exact Nat.le_succ _
 ·rw [List.length_append,List.length_dropLast];simp
theorem vac(M:Mw)(m:Je):Gr M (xc M m).1:=by
 unfold xc;split
 ·unfold jC;dsimp only;split
  ·exact Gr.refl M
  ·split
   ·exact Gr.refl M
   ·split
    ·split
     ·exact Gr.refl M
     ·exact UaO _ fun o=>by simp
    ·split
     ·exact Gr.refl M
     ·exact Gr.refl M
 ·split
  ·unfold XG;dsimp only;split
   ·exact zbc _
   ·exact Gr.refl M
  ·split
   ·unfold WC;dsimp only;split
    ·exact UaO _ fun o=>Nat.le_succ _
    ·exact Gr.refl M
   ·split
    ·unfold XC;dsimp only;split
     ·exact UaO _ fun o=>xaF _
     ·exact Gr.refl M
    ·split
     ·unfold Ul;dsimp only;split
      ·exact Gr.refl M
      ·split
       ·exact Gr.refl M
       ·split
        ·exact Gr.refl M
        ·exact zbc _
     ·exact Gr.refl M
theorem wa2{o n:Int}{g:MG}{a:Je}(h:(xc M (ud o n g)).2=some a):a.receiver=o:=by
 have e:xc M (ud o n g)=Ul M (ud o n g):=rfl;rw [e] at h;unfold Ul at h;dsimp only at h;split at h
 ·cases h;rfl
 ·split at h
  ·cases h;rfl
  ·split at h
   ·cases h
   ·cases h;rfl
end
def qay(t:Yd):Sp:=fun vs H Q _=>∃(A:Ad) (M:Mw) (o n:Int),vs= [.ref (A.ad .wo), .int o, .int n]∧Holds t.c H A M∧0≤o∧o.toNat<M.k∧Sz M 3∧(∀g,yo M o.toNat n=some g→0≤g.jf∧g.jf.toNat<M.k)∧∀H' A',Holds t.c H' A' (wG M o n)→uz t.c H A M H' A' (wG M o n)→Q .non H'
theorem Wax(T:Txt K mg t):wb P w K mg base ke 7 t.KI t.kJ ["world","o","n"] (qay t):=by
  refine T.kY.kf qS fun vs H Q E h=>?_;obtain ⟨A,M,o,n,rfl,hd,h0,hi,hz,hh,k⟩:=h;refine ⟨rfl,fun _ _ _ _ hr=>⟨_,(Za (Jb (Vl (ja (zN T) hr.m rfl T.UP T.Uq.kp T.KP .nil Ka (za (pv 0) (za (pv 1) (za (pv 2) Qa)))) (fun _=>rfl)) (va Zad) zb) (Za (qb (i:=3) qS.nd rfl (Or.inl rfl) (ja (Wal T) hr.m rfl T.vas T.yX.kp T.Was .nil Ka (za (pv 0) (za (pv 1) (za (pv 2) Qa))))) (Za (Jb (PW.pt (jJ (Waf (Qh (ya (Vb Xa (ya (pv 0) rfl) (pv 1) (fun _ _=>rfl)) rfl))) (qU (Waf (Qh (ya (Vb Xa (ya (pv 0) rfl) (ya (pv 3) rfl) (fun _ _=>rfl)) rfl)))))) (va Zad) zb) (Za (qb (i:=4) qS.nd rfl (Or.inl rfl) (ja (xaE T) hr.m rfl T.JaO T.xap.kp T.YaO .nil Ka (za (pv 0) (za (pv 3) Qa)))) (va (Jb (yn (wac (pv 4))) (va (Zd (ja (xaE T) hr.m rfl T.JaO T.xap.kp T.YaO .nil Ka (za (pv 0) (za (pv 4) Qa))))) zb)))))),?_⟩⟩;unfold wG at k;refine ⟨_,rfl,_,rfl,_,rfl,A,M,o,n,rfl,hd,h0,hi,_,rfl,qm (fun h1=>?_) fun h1=>?_⟩
  ·have e:yo M o.toNat n=none:=by
    cases e:yo M o.toNat n with
    | none=>rfl
    | some g=>exact absurd (by unfold YK;rw [e];rfl) h1
   rw [e] at k;exact k H A hd Ext.refl
  ·obtain ⟨g,hg⟩:∃g,yo M o.toNat n=some g:=by
    unfold YK at h1;split at h1
    ·rename_i z;exact Option.isSome_iff_exists.mp z
    ·cases h1
   obtain ⟨g0,g1⟩:=hh g hg;rw [hg] at k;have k:∀H' A',Holds t.c H' A' (if M.up o.toNat=false∨M.up g.jf.toNat=false then M else match (xc M (ud o n g)).2 with
    | none=>(xc M (ud o n g)).1
    | some a=>(xc (xc M (ud o n g)).1 a).1)→uz t.c H A M H' A' (if M.up o.toNat=false∨M.up g.jf.toNat=false then M else match (xc M (ud o n g)).2 with
    | none=>(xc M (ud o n g)).1
    | some a=>(xc (xc M (ud o n g)).1 a).1)→Q .non H':=k
   refine ⟨_,rfl,_,rfl,_,rfl,A,M,o,n,g,rfl,hd,h0,hi,hg,fun H1 y dy s1 ny hy=>?_⟩;have Kd:=hd.same s1;refine ⟨_,rfl,wa T Kd.wo ⟨_,rfl,Kd.ix h0 hi (qz T (Kd.of hi) ⟨_,rfl,WaZ (fun e1=>?_) fun e1=>⟨_,rfl,wa T Kd.wo ⟨_,rfl,Xb T hy (Kd.ix g0 g1 (qz T (Kd.of g1) ⟨_,rfl,WaZ (fun e2=>?_) fun e2=>?_⟩))⟩⟩⟩)⟩⟩
   ·rw [if_pos (.inl e1)] at k;exact k H1 A Kd (Ext.of_same s1)
   ·rw [if_pos (.inr e2)] at k;exact k H1 A Kd (Ext.of_same s1)
   ·rw [if_neg (by rw [e1,e2];simp)] at k;refine ⟨_,rfl,_,rfl,A,M,y,ud o n g,rfl,Kd,⟨dy,hy, .inl (hd.own ny)⟩,g0,g1,hz.mono (by decide),⟨fun H2 A2 hd2 e3 hn=>?_,fun H2 A2 y2 dy2 a hd2 e3 ha hy2 wbd ny2=>?_⟩⟩
    ·rw [hn] at k;exact ⟨_,rfl,_,rfl,ifn (fun h=>absurd rfl h) fun _=>k H2 A2 hd2 ((Ext.of_same s1).trans e3)⟩
    ·rw [ha] at k;have k:∀H' A',Holds t.c H' A' (xc (xc M (ud o n g)).1 a).1→uz t.c H A M H' A' (xc (xc M (ud o n g)).1 a).1→Q .non H':=k;have er:=wa2 ha;have qw:=(e3.ad .wo jaf).1;refine ⟨_,rfl,_,rfl,ifn (fun _=>⟨_,rfl,_,rfl,A2,_,y2,a,by rw [qw];rfl,hd2,⟨dy2,hy2, .inl wbd⟩,by rw [er];exact h0,by rw [er,(vac M _).k];exact hi,Sz.gr (hz.mono (by decide)) (vac M _),⟨fun H3 A3 Jk e4 _=>k H3 A3 Jk (((Ext.of_same s1).trans e3).trans e4),fun H3 A3 y3 dy3 a3 Jk e4 _ _ _ _=>k H3 A3 Jk (((Ext.of_same s1).trans e3).trans e4)⟩⟩) fun h=>by cases h⟩
end Mo
namespace Mo
open PySem PySem.Spec PyProof.Rows L2
variable{P:Program}{w:World}{K:PySem.W.Frag}{mg:Str→Option Value}{base:Heap}{t:Yd}
section
variable{c:Cs}{H H1 H' H2:Hp}{A A' A2:Ad}{M M' M2:Mw}{ex:Addr→Prop}{p:Addr}{Q:VK}
theorem ka5{K:PySem.W.Frag}{a:Addr}{xs:List V}{g:TG}{tb:TS}{D:Ends}{σ:L2.St}{H:Hp}(Pv:Nat→L2.St→Hp→Prop)(h0:Pv 0 σ H)(hl:∀i σ H,i≤xs.length→Pv i σ H→xb K H a xs)
  (hs:∀i x σ H T,xs[i]? =some x→Pv i σ H→H T=none→g (.ref T) σ (upd H T (.tup [.int (i:Nat),x])) fun σ2 H2=>tb {D with nx:=Pv (i+1),ct:=Pv (i+1),bk:=D.nx} σ2 H2) (hd:∀σ H,Pv xs.length σ H→D.nx σ H):
  ∃W:Nat→Nat→L2.St→Hp→Prop,(∃m,W 0 m σ H)∧∀i m σ H,W i m σ H→
   ((Ite K a).stop i H∧D.nx σ H)∨((Ite K a).go i H∧∃N:L2.St→Hp→Prop,(∀σ' H',N σ' H'→∃m',m'<m∧W (i+1) m' σ' H')∧∀x H',(Ite K a).yld i H x H'→g x σ H' fun σ2 H2=>tb {D with nx:=N,ct:=N,bk:=D.nx} σ2 H2):=by
 refine ⟨fun i m σ H=>m=xs.length-i∧i≤xs.length∧Pv i σ H,⟨xs.length,by simp,Nat.zero_le _,h0⟩,?_⟩
 rintro i m σ H ⟨rfl,hi,p⟩
 have q:=hl i σ H hi p;by_cases XF:i<xs.length
 ·refine .inr ⟨⟨xs,xs[i],q,by simp [XF]⟩,Pv (i+1),fun σ' H' p'=>⟨xs.length- (i+1),by omega,rfl,XF,p'⟩,fun x H' y=>?_⟩;obtain ⟨T,x0,rfl,hT,rfl,e⟩:=y;exact hs i x0 σ H T (e xs q) p hT
 ·have ei:i=xs.length:=by omega
  subst ei;exact .inl ⟨⟨xs,q,Nat.le_refl _⟩,hd σ H p⟩
theorem Ybb(M:Mw)(o n:Int):(wG M o n).k=M.k∧(wG M o n).ub=M.ub∧∀d,Sz M (d+2)→Sz (wG M o n) d:=by
 unfold wG;split
 ·exact ⟨rfl,rfl,fun d z=>z.mono (by omega)⟩
 ·dsimp only;split
  ·exact ⟨rfl,rfl,fun d z=>z.mono (by omega)⟩
  ·split
   ·have g:=vac M (ud o n (by assumption));exact ⟨g.k,g.ub,fun d z=>(Sz.gr (z.mono (show d+1≤d+2 by omega)) g)⟩
   ·rename_i a _;have g:=vac M (ud o n (by assumption));have g2:=vac (xc M (ud o n (by assumption))).1 a;exact ⟨g2.k.trans g.k,g2.ub.trans g.ub,fun d z=>Sz.gr (Sz.gr z g) g2⟩
theorem KaS{s:Vbpoak.State}(R:Rel M s)(g:Good s){o:Nat}(ho:o<s.offices.length)(n:Nat){x:MG}(h:yo M o (n:Int)=some x):0≤x.jf∧x.jf.toNat<M.k:=by
 rw [kaO R g ho] at h;split at h
 ·cases h
 ·obtain ⟨q,hq,rfl⟩:=Option.map_eq_some_iff.mp h;obtain ⟨q1,q2,q3⟩:=Xk hq;have:=(g.vD o q q1 q2).2;refine ⟨Int.natCast_nonneg _,?_⟩;show ((q.b:Nat):Int).toNat<M.k;rw [Int.toNat_natCast,R.k];exact this
def ve(M:Mw)(i:Nat):Mw:=(List.range i).foldl z0 M
def JJ(M:Mw)(i:Nat)(l:List Int):Mw:=l.foldl (fun u n=>wG u (i:Int) n) M
theorem VaE(i:Nat):∀(l:List Int) (M:Mw),(JJ M i l).k=M.k∧(JJ M i l).ub=M.ub
 | [],M=>⟨rfl,rfl⟩
 | n::r,M=>by
  obtain ⟨h1,h2⟩:=VaE i r (wG M i n);obtain ⟨g1,g2,_⟩:=Ybb M i n;exact ⟨h1.trans g1,h2.trans g2⟩
theorem UaR(M:Mw)(i:Nat)(l:List Int)(n:Int):JJ M i (l++ [n])=wG (JJ M i l) i n:=by
 unfold JJ;rw [List.foldl_append];rfl
theorem Qac(M:Mw)(i:Nat):ve M (i+1)=JJ (ve M i) i ((ve M i).ub i):=by
 unfold ve;rw [List.range_succ,List.foldl_append];rfl
theorem qao(M:Mw):∀i,(ve M i).k=M.k∧(ve M i).ub=M.ub
 | 0=>⟨rfl,rfl⟩
 | i+1=>by
  rw [Qac];obtain ⟨h1,h2⟩:=qao M i;obtain ⟨g1,g2⟩:=VaE i ((ve M i).ub i) (ve M i);exact ⟨g1.trans h1,g2.trans h2⟩
theorem waR{b i j:Nat}(hi:i<5)(hj:j<b):∃d,3+2*b*(4-i)+2*(b-j)=d+2∧3+2*b*(4-i)+2*(b- (j+1))=d∧3≤d:=⟨3+2*b*(4-i)+2*(b- (j+1)),by omega,rfl,by omega⟩
end
def yaM(t:Yd):Sp:=fun vs H Q _=>∃(A:Ad) (M:Mw) (s:Vbpoak.State) (b:Nat),vs= [.ref (A.ad .wo)]∧Holds t.c H A M∧Rel M s∧Good s∧(∀i,i<M.k→(M.ub i).length≤b)∧Sz M (3+10*b)∧vc t.c ZU H A M (jZ M) Q
theorem jaM(T:Txt K mg t):wb P w K mg base ke 8 t.wW t.VX ["world"] (yaM t):=by
  refine T.Qab.kf xF fun vs H Q E h=>?_;obtain ⟨A,M,s',b,rfl,hd,hR,hG,hb,hz,k⟩:=h;refine ⟨rfl,fun _ _ _ _ hr=>⟨_,(Za (qb (i:=1) xF.nd rfl (Or.inl rfl) (qf (pv 0) T.Wc T.kG (YG T) hr.m T.yJ .nil Ka)) (Za (ZaA PassesOwn.never rfl (Xa8 rfl T.zaM (za (ya (pv 0) rfl) Qa)) (ybe rfl (jaJ (jg (i:=2) xF.nd rfl (Or.inl rfl)) (jaJ (jg (i:=3) xF.nd rfl (Or.inl rfl)) xa7))) (va (ZaA PassesOwn.never rfl (Xn (XJ (zau rfl) (by rfl) T.Wa0 PyProof.Rows.boot_list (za (ya (pv 3) rfl) Qa))) (jg (i:=4) xF.nd rfl (Or.inl rfl)) (va (Zd (ja (Wax T) hr.m rfl T.kaI T.kY.kp T.qaG .nil Ka (za (pv 0) (za (pv 2) (za (pv 4) Qa))))))))) (va (Ja (Qc (za (Vs jaN (qf (pv 0) T.Wc T.kG (YG T) hr.m T.yJ .nil Ka) (pv 1)) Qa)))))),?_⟩⟩;have k5:=hz.k;refine ⟨_,rfl,_,_,_,rfl,hd.wo,rfl,A,M,rfl,hd,hz.k',fun H1 s1=>?_⟩;have Kd:=hd.same s1;refine ⟨_,rfl,wa T Kd.wo ⟨_,_,rfl,xb.of Kd.VJ,ka5 (xs:=(List.range M.k).map fun i=>V.ref (A.ad (.of i))) (fun i σ H'=>∃(A':Ad) (s2:Vbpoak.State) (x y z:Option V),σ= [some (.ref (A.ad .wo)),some (.int (zJ M)),x,y,z]∧Holds t.c H' A' (ve M i)∧uz t.c H1 A M H' A' (ve M i)∧Rel (ve M i) s2∧Good s2∧Sz (ve M i) (3+2*b*(5-i))) ⟨A,s',none,none,none,rfl,Kd,Ext.refl,hR,hG,hz.mono (by omega)⟩ ?_ ?_ ?_⟩⟩
  ·rintro i σ H2 _ ⟨A2,s2,x,y,z,rfl,hd2,e2,_⟩
   have q:=hd2.VJ;have ea:=(e2.ad .VJ rfl).1;rw [ea,(qao M i).1] at q;refine xb.of (q.trans ?_)
   congr 2
   refine List.map_congr_left fun j hj=>?_;rw [eof e2 (List.mem_range.mp hj)]
  ·rintro i v σ H2 TT hv ⟨A2,s2,x,y,z,rfl,hd2,e2,hR2,hG2,hz2⟩ nT
   obtain ⟨hik,ev⟩:i<M.k∧v=V.ref (A.ad (.of i)):=by
    rw [List.getElem?_map] at hv;cases q:(List.range M.k)[i]? with
    | none=>rw [q] at hv;cases hv
    | some j=>
     obtain ⟨rfl,hj⟩:=xaA q;rw [q] at hv;exact ⟨hj,(Option.some.inj hv).symm⟩
   subst ev;have kk:=qao M i;have wa6:i<(ve M i).k:=by rw [kk.1];exact hik
   have s3:Ua H2 (upd H2 TT (.tup [.int (i:Nat), .ref (A.ad (.of i))])):=Ua.new nT;have Jk:=hd2.same s3;have f3:=Jk.of wa6;have qo:=eof e2 hik;rw [qo] at f3;refine ⟨TT,_,rfl,vQ.of Ya,rfl,_,_,rfl,_,_,rfl,rfl,?_⟩;refine ⟨_,rfl,wc T f3 ⟨_,_,rfl,Jk.od wa6,fun l nl=>⟨_,rfl,⟨_,xb.of Ya⟩,?_⟩⟩⟩;have el:(((ve M i).ub i).map fun n=>((Sum.inl n:Key),V.ref (A2.ad (.ord i n)))).map (fun kv=>kV kv.1)=((ve M i).ub i).map V.int:=by
    rw [List.map_map];rfl
   rw [el];have s4:Ua (upd H2 TT (.tup [.int (i:Nat), .ref (A.ad (.of i))])) (upd (upd H2 TT (.tup [.int (i:Nat), .ref (A.ad (.of i))])) l (.lst (((ve M i).ub i).map V.int))):=Ua.new nl;have W2:=Jk.same s4;have nol:¬Own t.c A2 (ve M i) l:=Jk.own nl;have lb:((ve M i).ub i).length≤b:=by rw [kk.2];exact hb i hik
   have h4l:(upd (upd H2 TT (.tup [.int (i:Nat), .ref (A.ad (.of i))])) l (.lst (((ve M i).ub i).map V.int))) l=some (.lst (((ve M i).ub i).map V.int)):=Ya;generalize upd (upd H2 TT (.tup [.int (i:Nat), .ref (A.ad (.of i))])) l (.lst (((ve M i).ub i).map V.int))=H4 at s4 W2 h4l⊢;have hsL:i<s2.offices.length:=by rw [←hR2.k];exact wa6
   have eL:∀n∈(ve M i).ub i,∃m:Nat,n=(m:Int):=fun n hn=>by
    rw [(hR2.at_ i hsL).ub] at hn;obtain ⟨r,_,rfl⟩:=List.mem_map.mp hn;exact ⟨r.no,rfl⟩
   have e4:uz t.c H1 A M H4 A2 (ve M i):=e2.trans (Ext.of_same (s3.trans s4));refine WaK (xs:=((ve M i).ub i).map V.int) (fun j σ H5=>∃(A5:Ad) (s5:Vbpoak.State) (z':Option V),σ= [some (.ref (A.ad .wo)),some (.int (zJ M)),some (.int (i:Nat)),some (.ref (A.ad (.of i))),z']∧Holds t.c H5 A5 (JJ (ve M i) i (((ve M i).ub i).take j))∧uz t.c H4 A2 (ve M i) H5 A5 (JJ (ve M i) i (((ve M i).ub i).take j))∧Rel (JJ (ve M i) i (((ve M i).ub i).take j)) s5∧Good s5∧Sz (JJ (ve M i) i (((ve M i).ub i).take j)) (3+2*b*(4-i)+2*(b-j)))
    ⟨A2,s2,z,rfl,W2,Ext.refl,hR2,hG2,hz2.mono (by
     have e:5-i=(4-i)+1:=by omega
     rw [e,Nat.mul_add];omega)⟩ ?_ ?_ ?_
   ·rintro j σ H5 _ ⟨A5,s5,z',rfl,j8,e5,_⟩
    exact xb.of (e5.keep l _ id h4l nol).1
   ·rintro j v σ H5 hv ⟨A5,s5,z',rfl,j8,e5,hR5,hG5,hz5⟩
    rw [List.getElem?_map] at hv;cases q:((ve M i).ub i)[j]? with
    | none=>rw [q] at hv;cases hv
    | some n=>
     rw [q] at hv;have hv:V.int n=v:=Option.some.inj hv;subst hv;obtain ⟨m,rfl⟩:=eL n (List.mem_of_getElem? q);have kk5:=VaE i (((ve M i).ub i).take j) (ve M i);have Ybm:i<(JJ (ve M i) i (((ve M i).ub i).take j)).k:=by rw [kk5.1];exact wa6
     have hs5:i<s5.offices.length:=by rw [←hR5.k];exact Ybm
     have jb:j<b:=Nat.lt_of_lt_of_le (List.getElem?_eq_some_iff.mp q).1 lb;obtain ⟨d,d1,d2,d3⟩:=waR (b:=b) (i:=i) (j:=j) (by omega) jb;rw [d1] at hz5;have qw:=((e4.trans e5).ad .wo jaf).1;refine ⟨_,rfl,_,rfl,_,rfl,A5,_,(i:Int),(m:Int),by rw [qw];rfl,j8,Int.natCast_nonneg _,by rw [Int.toNat_natCast];exact Ybm,hz5.mono (by omega),fun g hg=>KaS hR5 hG5 hs5 m (by rw [Int.toNat_natCast] at hg;exact hg),fun H6 A6 hd6 e6=>?_⟩;have et:JJ (ve M i) i (((ve M i).ub i).take (j+1))=wG (JJ (ve M i) i (((ve M i).ub i).take j)) i m:=by
      rw [zw q,UaR]
     refine ⟨A6,Vbpoak.askOne s5 i m,some (.int m),rfl,?_,?_,?_,(hG5.askOne i m).1,?_⟩
     ·rw [et];exact hd6
     ·rw [et];exact e5.trans e6
     ·rw [et];exact Xbk hR5 hG5 hs5 m
     ·rw [et,d2];exact (Ybb _ _ _).2.2 d hz5
   ·rintro σ H5 ⟨A5,s5,z',rfl,j8,e5,hR5,hG5,hz5⟩
    rw [List.length_map,List.take_length] at j8 e5 hR5 hz5;rw [←Qac] at j8 e5 hR5 hz5;exact ⟨A5,s5,_,_,_,rfl,j8,e4.trans e5,hR5,hG5,hz5.mono (by
     have e:5- (i+1)=4-i:=by omega
     rw [e];omega)⟩
  ·rintro σ H2 ⟨A2,s2,x,y,z,rfl,hd2,e2,hR2,hG2,hz2⟩
   have el:((List.range M.k).map fun i=>V.ref (A.ad (.of i))).length=M.k:=by simp
   rw [el] at hd2 e2 hR2 hz2;have w2:=hd2.wo;have qw:=(e2.ad .wo jaf).1;rw [qw] at w2;refine ⟨_,rfl,_,_,_,rfl,w2,rfl,A2,ve M M.k,by rw [qw];rfl,hd2,hz2.k',fun H3 s3=>⟨_,rfl,_,_,rfl,rfl,one_le,fun p hp=>?_⟩⟩;exact k.lst (ns:= [zJ (ve M M.k)-zJ M]) (hd2.same s3) ((Kp.ext hd2 ((Ext.of_same s1).trans e2)).trans (Kp.same s3)) hp rfl
end Mo
namespace Mo
open PySem PySem.Spec PyProof.Rows L2
variable{P:Program}{w:World}{K:PySem.W.Frag}{mg:Str→Option Value}{base:Heap}{t:Yd}
structure O5 where
 x:Addr
 dx:Addr
 j:Addr
 o:Addr
 k:Addr
structure xaP(c:Cs)(H:Hp)(u:O5):Prop where
 x:H u.x=some (.ins c.office u.dx (ofL true 0 0 u.j 0 u.o u.k))
 j:H u.j=some (.lst [])
 o:H u.o=some (.dK [])
 k:H u.k=some (.dT [])
def xan:Option HO→Nat
 | some (.lst _)=>1
 | some (.dK _)=>2
 | some (.dT _)=>3
 | some (.ins _ _ fs)=>if fs.length=6 then 4 else 5
 | _=>0
def wL(tm f l k:Int)(D m:Addr):List (Str×V):= [("time", .int tm),("fee", .int f),("life", .int l),("lease", .int k),("offices", .ref D),("messages", .ref m)]
def gO(os:List O5)(g:O5→Addr)(i:Nat):Addr:=((os[i]?).map g).getD 0
def uE(p dx D m:Addr)(os:List O5):Ad where
 ad:=fun
  | .wo=>p
  | .VJ=>D
  | .kT=>m
  | .of i=>gO os (·.x) i
  | .jl i=>gO os (·.j) i
  | .od i=>gO os (·.o) i
  | .cd i=>gO os (·.k) i
  | _=>0
 dd:=fun
  | .wo=>dx
  | .of i=>gO os (·.dx) i
  | _=>0
 jt:=fun _=> []
theorem Uy{os:List O5}{g:O5→Addr}{i:Nat}{u:O5}(h:os[i]? =some u):gO os g i=g u:=by
 unfold gO;rw [h];rfl
theorem Uae{os:List O5}{g:O5→Addr}(nd:(os.map g).Nodup){i j:Nat}{u v:O5}(hi:os[i]? =some u)(hj:os[j]? =some v)(e:g u=g v):i=j:=by
 have h1:(os.map g)[i]? =some (g u):=by rw [List.getElem?_map,hi];rfl
 have h2:(os.map g)[j]? =some (g u):=by rw [List.getElem?_map,hj,e];rfl
 obtain ⟨l1,q1⟩:=List.getElem?_eq_some_iff.mp h1;obtain ⟨l2,q2⟩:=List.getElem?_eq_some_iff.mp h2;exact (List.getElem_inj nd).mp (q1.trans q2.symm)
section
variable{c:Cs}{H H':Hp}{p dx D m:Addr}{os:List O5}{n f l k:Int}
theorem waN{q:Pl}(h:Lv c (uE p dx D m os) (Zz n f l k) q):q= .wo∨q= .VJ∨q= .kT∨∃i,i<n.toNat∧(q= .of i∨q= .jl i∨q= .od i∨q= .cd i):=by
 unfold Lv at h;cases q with
 | wo=>exact .inl rfl
 | VJ=>exact .inr (.inl rfl)
 | kT=>exact .inr (.inr (.inl rfl))
 | ms j=>cases h
 | of i=>
  by_cases z:i<n.toNat
  ·exact .inr (.inr (.inr ⟨i,z, .inl rfl⟩))
  ·have h:(if i<n.toNat then some _ else none:Option HO).isSome=true:=h;rw [if_neg z] at h;cases h
 | jl i=>
  by_cases z:i<n.toNat
  ·exact .inr (.inr (.inr ⟨i,z, .inr (.inl rfl)⟩))
  ·have h:(if i<n.toNat then some _ else none:Option HO).isSome=true:=h;rw [if_neg z] at h;cases h
 | od i=>
  by_cases z:i<n.toNat
  ·exact .inr (.inr (.inr ⟨i,z, .inr (.inr (.inl rfl))⟩))
  ·have h:(if i<n.toNat then some _ else none:Option HO).isSome=true:=h;rw [if_neg z] at h;cases h
 | cd i=>
  by_cases z:i<n.toNat
  ·exact .inr (.inr (.inr ⟨i,z, .inr (.inr (.inr rfl))⟩))
  ·have h:(if i<n.toNat then some _ else none:Option HO).isSome=true:=h;rw [if_neg z] at h;cases h
 | ord i m=>
  have h:(if i<n.toNat then (none:Option Qe).map _ else none:Option HO).isSome=true:=h;split at h<;>cases h
 | gl i m=>
  have h:(if i<n.toNat then (none:Option Qe).map _ else none:Option HO).isSome=true:=h;split at h<;>cases h
 | gr i m j=>
  have h:(if i<n.toNat then (none:Option Qe).bind _ else none:Option HO).isSome=true:=h;split at h<;>cases h
 | cl i m g=>
  have h:(if i<n.toNat then (none:Option Jn).map _ else none:Option HO).isSome=true:=h;split at h<;>cases h
theorem waY(hp:H p=some (.ins c.Qg dx (wL 0 f l k D m)))(hD:H D=some (.lst (os.map fun u=>V.ref u.x)))(hm:H m=some (.lst []))(ho:∀u∈os,xaP c H u)(hDm:D≠m)(hj:∀u∈os,u.j≠D∧u.j≠m)
  (nd1:(os.map (·.x)).Nodup) (nd2:(os.map (·.j)).Nodup) (nd3:(os.map (·.o)).Nodup) (nd4:(os.map (·.k)).Nodup) (hn:os.length=n.toNat):
  Holds c H (uE p dx D m os) (Zz n f l k)∧∀b,Own c (uE p dx D m os) (Zz n f l k) b→b=p∨b=D∨b=m∨∃u∈os,b=u.x∨b=u.j∨b=u.o∨b=u.k:=by
 have at_:∀{i},i<n.toNat→∃u,os[i]? =some u∧xaP c H u∧u.j≠D∧u.j≠m:=fun {i} hi=>by
  have e:os[i]? =some os[i]:=List.getElem?_eq_getElem (by rw [hn];exact hi);have hm:=List.mem_of_getElem? e;exact ⟨_,e,ho _ hm,hj _ hm⟩
 have xw:∀{u:O5},xaP c H u→u.x≠p:=fun {u} a z=>by
  have e:=a.x;rw [z,hp] at e;injection e with e;injection e with _ _ e;injection e with e _;injection e with e _;exact absurd e (by decide+kernel)
 have nl:∀{b:Addr} {xs:List V} {o:HO},H b=some (.lst xs)→H b=some o→(∀ys,o≠ .lst ys)→False:=fun h1 h2 h3=>by
  rw [h1] at h2;exact h3 _ (Option.some.inj h2).symm
 refine ⟨⟨fun q u e=>?_,fun q r h1 h2 e=>?_,fun i hi=> .nil,fun i a hi e=>(by cases e),fun i hi=>⟨fun n hn=>(by cases hn),fun n hn=>(by cases hn),fun _ _ _=>rfl⟩⟩,fun b hb=>?_⟩
 ·have lq:Lv c (uE p dx D m os) (Zz n f l k) q:=Lv.of e;rcases waN lq with rfl | rfl | rfl | ⟨i,hi,rfl | rfl | rfl | rfl⟩
  ·cases e;exact hp
  ·have e:some (HO.lst ((List.range n.toNat).map fun i=>V.ref (gO os (·.x) i)))=some u:=e;rw [←e];show H D=_;rw [hD,←hn]
   congr 2
   apply List.ext_getElem?;intro i;rw [List.getElem?_map,List.getElem?_map];by_cases z:i<os.length
   ·rw [List.getElem?_range z,List.getElem?_eq_getElem z];show _=some (V.ref (gO os (·.x) i));rw [Uy (List.getElem?_eq_getElem z)];rfl
   ·rw [List.getElem?_eq_none (by simpa using z),List.getElem?_eq_none (by simpa using z)];rfl
  ·cases e;exact hm
  ·obtain ⟨v,hv,a,_⟩:=at_ hi
   have e:(if i<n.toNat then some (HO.ins c.office (gO os (·.dx) i) (ofL true 0 0 (gO os (·.j) i) 0 (gO os (·.o) i) (gO os (·.k) i))) else none)=some u:=e;rw [if_pos hi,Uy hv,Uy hv,Uy hv,Uy hv] at e;show H (gO os (·.x) i)=_;rw [Uy hv,←e];exact a.x
  ·obtain ⟨v,hv,a,_⟩:=at_ hi
   have e:(if i<n.toNat then some (HO.lst []) else none)=some u:=e;rw [if_pos hi] at e;show H (gO os (·.j) i)=_;rw [Uy hv,←e];exact a.j
  ·obtain ⟨v,hv,a,_⟩:=at_ hi
   have e:(if i<n.toNat then some (HO.dK []) else none)=some u:=e;rw [if_pos hi] at e;show H (gO os (·.o) i)=_;rw [Uy hv,←e];exact a.o
  ·obtain ⟨v,hv,a,_⟩:=at_ hi
   have e:(if i<n.toNat then some (HO.dT []) else none)=some u:=e;rw [if_pos hi] at e;show H (gO os (·.k) i)=_;rw [Uy hv,←e];exact a.k
 ·have case:∀{q},Lv c (uE p dx D m os) (Zz n f l k) q→(q= .wo∧xan (H ((uE p dx D m os).ad q))=4)∨
    (xan (H ((uE p dx D m os).ad q))=1∧((q= .VJ∧(uE p dx D m os).ad q=D)∨(q= .kT∧(uE p dx D m os).ad q=m)∨∃i u,os[i]? =some u∧q= .jl i∧(uE p dx D m os).ad q=u.j∧u.j≠D∧u.j≠m))∨
    (xan (H ((uE p dx D m os).ad q))=5∧∃i u,os[i]? =some u∧q= .of i∧(uE p dx D m os).ad q=u.x)∨
    (xan (H ((uE p dx D m os).ad q))=2∧∃i u,os[i]? =some u∧q= .od i∧(uE p dx D m os).ad q=u.o)∨
    (xan (H ((uE p dx D m os).ad q))=3∧∃i u,os[i]? =some u∧q= .cd i∧(uE p dx D m os).ad q=u.k):=fun {q} lq=>by
   rcases waN lq with rfl | rfl | rfl | ⟨i,hi,rfl | rfl | rfl | rfl⟩
   ·exact .inl ⟨rfl,by show xan (H p)=4;rw [hp];rfl⟩
   ·exact .inr (.inl ⟨by show xan (H D)=1;rw [hD];rfl, .inl ⟨rfl,rfl⟩⟩)
   ·exact .inr (.inl ⟨by show xan (H m)=1;rw [hm];rfl, .inr (.inl ⟨rfl,rfl⟩)⟩)
   ·obtain ⟨v,hv,a,d1,d2⟩:=at_ hi
    have ea:(uE p dx D m os).ad (.of i)=v.x:=Uy hv;exact .inr (.inr (.inl ⟨by rw [ea,a.x];rfl,i,v,hv,rfl,ea⟩))
   ·obtain ⟨v,hv,a,d1,d2⟩:=at_ hi
    have ea:(uE p dx D m os).ad (.jl i)=v.j:=Uy hv;exact .inr (.inl ⟨by rw [ea,a.j];rfl, .inr (.inr ⟨i,v,hv,rfl,ea,d1,d2⟩)⟩)
   ·obtain ⟨v,hv,a,d1,d2⟩:=at_ hi
    have ea:(uE p dx D m os).ad (.od i)=v.o:=Uy hv;exact .inr (.inr (.inr (.inl ⟨by rw [ea,a.o];rfl,i,v,hv,rfl,ea⟩)))
   ·obtain ⟨v,hv,a,d1,d2⟩:=at_ hi
    have ea:(uE p dx D m os).ad (.cd i)=v.k:=Uy hv;exact .inr (.inr (.inr (.inr ⟨by rw [ea,a.k];rfl,i,v,hv,rfl,ea⟩)))
  have et:xan (H ((uE p dx D m os).ad q))=xan (H ((uE p dx D m os).ad r)):=by rw [e]
  rcases case h1 with ⟨q1,t1⟩ | ⟨t1,q1⟩ | ⟨t1,i,u,hu,q1,e1⟩ | ⟨t1,i,u,hu,q1,e1⟩ | ⟨t1,i,u,hu,q1,e1⟩<;>rcases case h2 with ⟨q2,t2⟩ | ⟨t2,q2⟩ | ⟨t2,i',v,hv,q2,e2⟩ | ⟨t2,i',v,hv,q2,e2⟩ | ⟨t2,i',v,hv,q2,e2⟩
  case inl.inl=>rw [q1,q2]
  case inr.inl.inr.inl=>
   rcases q1 with ⟨q1,e1⟩ | ⟨q1,e1⟩ | ⟨i,u,hu,q1,e1,d1,d2⟩<;>rcases q2 with ⟨q2,e2⟩ | ⟨q2,e2⟩ | ⟨i',v,hv,q2,e2,d3,d4⟩
   ·rw [q1,q2]
   ·exact absurd (e1.symm.trans (e.trans e2)) hDm
   ·exact absurd (e2.symm.trans (e.symm.trans e1)) d3
   ·exact absurd (e2.symm.trans (e.symm.trans e1)) hDm
   ·rw [q1,q2]
   ·exact absurd (e2.symm.trans (e.symm.trans e1)) d4
   ·exact absurd (e1.symm.trans (e.trans e2)) d1
   ·exact absurd (e1.symm.trans (e.trans e2)) d2
   ·rw [q1,q2,Uae nd2 hu hv (e1.symm.trans (e.trans e2))]
  case inr.inr.inl.inr.inr.inl=>rw [q1,q2,Uae nd1 hu hv (e1.symm.trans (e.trans e2))]
  case inr.inr.inr.inl.inr.inr.inr.inl=>rw [q1,q2,Uae nd3 hu hv (e1.symm.trans (e.trans e2))]
  case inr.inr.inr.inr.inr.inr.inr.inr=>rw [q1,q2,Uae nd4 hu hv (e1.symm.trans (e.trans e2))]
  all_goals (rw [t1,t2] at et;cases et)
 ·obtain ⟨q,lq,rfl⟩:=hb;rcases waN lq with rfl | rfl | rfl | ⟨i,hi,rfl | rfl | rfl | rfl⟩
  ·exact .inl rfl
  ·exact .inr (.inl rfl)
  ·exact .inr (.inr (.inl rfl))
  ·obtain ⟨v,hv,_⟩:=at_ hi
   exact .inr (.inr (.inr ⟨v,List.mem_of_getElem? hv, .inl (Uy hv)⟩))
  ·obtain ⟨v,hv,_⟩:=at_ hi
   exact .inr (.inr (.inr ⟨v,List.mem_of_getElem? hv, .inr (.inl (Uy hv))⟩))
  ·obtain ⟨v,hv,_⟩:=at_ hi
   exact .inr (.inr (.inr ⟨v,List.mem_of_getElem? hv, .inr (.inr (.inl (Uy hv)))⟩))
  ·obtain ⟨v,hv,_⟩:=at_ hi
   exact .inr (.inr (.inr ⟨v,List.mem_of_getElem? hv, .inr (.inr (.inr (Uy hv)))⟩))
end
def YN(t:Yd):Sp:=fun vs H Q _=>∃(p dx:Addr),vs= [.ref p]∧H p=some (.ins t.c.office dx [])∧∀(H':Hp) (j o k:Addr),H j=none→H o=none→H k=none→xaP t.c H' ⟨p,dx,j,o,k⟩→(∀b,b≠p→b≠j→b≠o→b≠k→H' b=H b)→Q .non H'
theorem Wac(T:Txt K mg t):wb P w K mg base ke 1 t.Yq t.yq ["self"] (YN t):=by
  refine T.zQ.kf kac fun vs H Q E h=>?_;obtain ⟨p,dx,rfl,hp,k⟩:=h;refine ⟨rfl,fun _ _ _ _ hr=>⟨_,(Za (zc (pv 0) Zv rfl) (Za (zc (pv 0) ua rfl) (Za (zc (pv 0) ua rfl) (Za (zc (pv 0) (Qc Qa) rfl) (Za (zc (pv 0) ua rfl) (Za (zc (pv 0) xa4 rfl) (va (zc (pv 0) ya3 rfl)))))))),?_⟩⟩;refine ⟨_,rfl,uf hp T.Zb T.Ys (nb rfl) ⟨_,rfl,uf Ya T.Zb T.jE (nb rfl) ⟨_,rfl,uf Ya T.Zb T.Us (nb rfl) ⟨Nat.zero_le _,fun j hj=>?_⟩⟩⟩⟩;have jp:j≠p:=fun z=>by rw [z,Ya] at hj;cases hj
  refine ⟨_,rfl,uf (by rw [Va (Ne.symm jp)];exact Ya) T.Zb T.xP (nb rfl) ⟨_,rfl,uf Ya T.Zb T.xo (nb rfl) fun o ho=>?_⟩⟩;have op:o≠p:=fun z=>by rw [z,Ya] at ho;cases ho
  have oj:o≠j:=fun z=>by rw [Va op,Va op,z,Ya] at ho;cases ho
  refine ⟨_,rfl,uf (by rw [Va (Ne.symm op)];exact Ya) T.Zb T.zV (nb rfl) fun k2 hk=>?_⟩;have kp:k2≠p:=fun z=>by rw [z,Ya] at hk;cases hk
  have ko:k2≠o:=fun z=>by rw [Va kp,z,Ya] at hk;cases hk
  have kj:k2≠j:=fun z=>by rw [Va kp,Va ko,Va kp,Va kp,z,Ya] at hk;cases hk
  refine ⟨_,rfl,uf (by rw [Va (Ne.symm kp)];exact Ya) T.Zb T.vV (nb rfl) ?_⟩;refine k _ j o k2 (by rw [Va jp,Va jp,Va jp] at hj;exact hj) (by rw [Va op,Va op,Va oj,Va op,Va op,Va op] at ho;exact ho) (by rw [Va kp,Va ko,Va kp,Va kp,Va kj,Va kp,Va kp,Va kp] at hk;exact hk) ⟨Ya,?_,?_,?_⟩ fun b b1 b2 b3 b4=>by rw [Va b1,Va b4,Va b1,Va b3,Va b1,Va b1,Va b2,Va b1,Va b1,Va b1]
  ·rw [Va jp,Va (Ne.symm kj),Va jp,Va (Ne.symm oj),Va jp,Va jp,Ya]
  ·rw [Va op,Va (Ne.symm ko),Va op,Ya]
  ·rw [Va kp,Ya]
end Mo
namespace Mo
open PySem PySem.Spec PyProof.Rows L2
variable{P:Program}{w:World}{K:PySem.W.Frag}{mg:Str→Option Value}{base:Heap}{t:Yd}
def Jbk(fs:List (Str×V)):Prop:=fs= []∨∃A M,fs=XE A M
theorem UaN{fs:List (Str×V)}(h:Jbk fs)(f l k:Int)(D m:Addr):fs.length<1000∧(uc "time" (.int 0) fs).length<1000∧(uc "fee" (.int f) (uc "time" (.int 0) fs)).length<1000∧(uc "life" (.int l) (uc "fee" (.int f) (uc "time" (.int 0) fs))).length<1000∧
  (uc "lease" (.int k) (uc "life" (.int l) (uc "fee" (.int f) (uc "time" (.int 0) fs)))).length<1000∧(uc "offices" (.ref D) (uc "lease" (.int k) (uc "life" (.int l) (uc "fee" (.int f) (uc "time" (.int 0) fs))))).length<1000∧
  uc "messages" (.ref m) (uc "offices" (.ref D) (uc "lease" (.int k) (uc "life" (.int l) (uc "fee" (.int f) (uc "time" (.int 0) fs)))))=wL 0 f l k D m:=by
 rcases h with rfl | ⟨A,M,rfl⟩
 ·exact ⟨nb rfl,nb rfl,nb rfl,nb rfl,nb rfl,nb rfl,rfl⟩
 ·exact ⟨nb rfl,nb rfl,nb rfl,nb rfl,nb rfl,nb rfl,rfl⟩
structure Fr5(H:Hp)(u:O5):Prop where
 x:H u.x=none
 j:H u.j=none
 o:H u.o=none
 k:H u.k=none
structure Mk5(c:Cs)(Hs H:Hp)(D:Addr)(os:List O5):Prop where
 d:H D=some (.lst (os.map fun u=>V.ref u.x))
 s:Ua Hs H
 at_:∀u∈os,xaP c H u∧Fr5 Hs u∧u.j≠D
 nx:(os.map (·.x)).Nodup
 nj:(os.map (·.j)).Nodup
 no:(os.map (·.o)).Nodup
 nk:(os.map (·.k)).Nodup
theorem JX{g:O5→Addr}{os:List O5}{u:O5}(h:(os.map g).Nodup)(n:∀v∈os,g v≠g u):((os++ [u]).map g).Nodup:=by
 rw [List.map_append,List.nodup_append];refine ⟨h,by simp,fun a ha b hb=>?_⟩;obtain ⟨v,hv,rfl⟩:=List.mem_map.mp ha;have:b=g u:=by simpa using hb
 rw [this];exact n v hv
theorem Mk5.next{c:Cs}{Hs H H':Hp}{D:Addr}{os:List O5}{x dx j o k C:Addr}(h:Mk5 c Hs H D os)(hD:Hs D=none)(nx:H x=none)(nd:H dx=none)(jn:(upd (upd H dx (.own x)) x (.ins C dx [])) j=none)(on:(upd (upd H dx (.own x)) x (.ins C dx [])) o=none)(kn:(upd (upd H dx (.own x)) x (.ins C dx [])) k=none)
  (a:xaP c H' ⟨x,dx,j,o,k⟩) (kp:∀b,b≠x→b≠j→b≠o→b≠k→H' b=(upd (upd H dx (.own x)) x (.ins C dx [])) b):
  H' D=some (.lst (os.map fun u=>V.ref u.x))∧Mk5 c Hs (upd H' D (.lst (os.map (fun u=>V.ref u.x)++ [V.ref x]))) D (os++ [⟨x,dx,j,o,k⟩]):=by
 have ne:∀{b:Addr},(upd (upd H dx (.own x)) x (.ins C dx [])) b=none→H b=none:=fun {b} e=>by
  have b1:b≠x:=fun z=>by rw [z,Ya] at e;cases e
  have b2:b≠dx:=fun z=>by rw [Va b1,z,Ya] at e;cases e
  rw [Va b1,Va b2] at e;exact e
 have hj:=ne jn;have ho:=ne on;have hk:=ne kn;have sm:Ua H H':=fun b u e=>by
  rw [kp b (Qb e nx) (Qb e hj) (Qb e ho) (Qb e hk),Va (Qb e nx),Va (Qb e nd)];exact e
 have hd:=sm _ _ h.d;have xD:x≠D:=fun z=>by rw [z,h.d] at nx;cases nx
 have jD:j≠D:=fun z=>by rw [z,h.d] at hj;cases hj
 have oD:o≠D:=fun z=>by rw [z,h.d] at ho;cases ho
 have kD:k≠D:=fun z=>by rw [z,h.d] at hk;cases hk
 refine ⟨hd,⟨?_,fun b u e=>?_,fun u hu=>?_,JX h.nx fun v hv z=>?_,JX h.nj fun v hv z=>?_,JX h.no fun v hv z=>?_,JX h.nk fun v hv z=>?_⟩⟩
 ·rw [Ya,List.map_append];rfl
 ·rw [Va (Qb e hD)];exact sm _ _ (h.s _ _ e)
 ·rcases List.mem_append.mp hu with hu | hu
  ·obtain ⟨a1,f1,d1⟩:=h.at_ u hu
   refine ⟨⟨?_,?_,?_,?_⟩,f1,d1⟩
   ·rw [Va (fun z=>by have:=a1.x;rw [z,h.d] at this;cases this)];exact sm _ _ a1.x
   ·rw [Va d1];exact sm _ _ a1.j
   ·rw [Va (fun z=>by have:=a1.o;rw [z,h.d] at this;cases this)];exact sm _ _ a1.o
   ·rw [Va (fun z=>by have:=a1.k;rw [z,h.d] at this;cases this)];exact sm _ _ a1.k
  ·have eu:u=⟨x,dx,j,o,k⟩:=by simpa using hu
   subst eu;refine ⟨⟨?_,?_,?_,?_⟩,⟨h.s.free nx,h.s.free hj,h.s.free ho,h.s.free hk⟩,jD⟩
   ·rw [Va xD];exact a.x
   ·rw [Va jD];exact a.j
   ·rw [Va oD];exact a.o
   ·rw [Va kD];exact a.k
 ·have:=(h.at_ v hv).1.x;rw [z,nx] at this;cases this
 ·have:=(h.at_ v hv).1.j;rw [z,hj] at this;cases this
 ·have:=(h.at_ v hv).1.o;rw [z,ho] at this;cases this
 ·have:=(h.at_ v hv).1.k;rw [z,hk] at this;cases this
def uav(t:Yd):Sp:=fun vs H Q _=>∃(p dx:Addr) (fs:List (Str×V)) (n f l k':Int),vs= [.ref p, .int n, .int f, .int l, .int k']∧H p=some (.ins t.c.Qg dx fs)∧Jbk fs∧0≤n∧n≤5∧∀H' A',Holds t.c H' A' (Zz n f l k')→A'.ad .wo=p→(∀b o,b≠p→H b=some o→H' b=some o∧¬Own t.c A' (Zz n f l k') b)→(∀b,H' b=none→H b=none)→Q .non H'
theorem K7(T:Txt K mg t):wb P w K mg base ke 3 t.YF t.xE ["self","offices","fee","life","lease"] (uav t):=by
  refine T.xaa.kf kL fun vs H Q E h=>?_;obtain ⟨p,dx,fs,n,f,l,k',rfl,hp,hfs,hn0,hn5,k⟩:=h;refine ⟨rfl,fun _ _ _ _ hr=>⟨_,(Za (zc (pv 0) ua rfl) (Za (zc (pv 0) (pv 2) rfl) (Za (zc (pv 0) (pv 3) rfl) (Za (zc (pv 0) (pv 4) rfl) (Za (zc (pv 0) (zY (tt:=jaj) (te:=(Va0 t.c.office (YN t) [] E0 vae)) rfl kL.nd (Vai rfl T.UaE (za (pv 1) Qa)) (Wh (own:= [("o",5)]) rfl) (fun _ _ _ _ _=>jg (i:=5) kL.nd rfl (Or.inl rfl)) (fun _ _ _ _ _=>ZN) (fun _ _ _ _ _=>(YaK T.YaY (Wac T) hr.m rfl T.Xa4 T.yah .nil Ka))) rfl) (va (zc (pv 0) (Qc Qa) rfl))))))),?_⟩⟩;obtain ⟨l0,l1,l2,l3,l4,l5,_⟩:=UaN hfs f l k' 0 0;refine ⟨_,rfl,uf hp T.Wc T.ZS l0 ⟨_,rfl,_,rfl,uf Ya T.Wc T.Jaf l1 ⟨_,rfl,_,rfl,uf Ya T.Wc T.vaa l2 ⟨_,rfl,_,rfl,uf Ya T.Wc T.U5 l3 ⟨_,rfl,n,rfl,by omega,by omega,fun D hD=>?_⟩⟩⟩⟩⟩;rw [kao,kao,kao] at hD⊢;have Dp:D≠p:=fun z=>by rw [z,Ya] at hD;cases hD
  have hDH:H D=none:=by rw [Va Dp] at hD;exact hD
  refine Ja2 (fun i H5=>∃os:List O5,os.length=i∧Mk5 t.c (upd H p (.ins t.c.Qg dx (uc "lease" (.int k') (uc "life" (.int l) (uc "fee" (.int f) (uc "time" (.int 0) fs)))))) H5 D os) ⟨[],rfl,⟨Ya,Ua.new hD,fun u hu=>(by cases hu),List.nodup_nil,List.nodup_nil,List.nodup_nil,List.nodup_nil⟩⟩ ?_ ?_
  ·rintro i H5 hi ⟨os,hl,h5⟩
   refine ⟨waP _ 5 _,yes fun x dx5 nx nd nxd=>⟨x,dx5,rfl,Ya,fun H6 j o k2 jn on kn a kp=>⟨rfl,?_⟩⟩⟩;obtain ⟨g1,g2⟩:=h5.next (C:=t.c.office) hD nx nd jn on kn a kp;refine ⟨_,g1,?_,os++ [⟨x,dx5,j,o,k2⟩],by rw [List.length_append,hl];rfl,g2⟩;rw [List.length_map,hl,sizeLine_eq];omega
  ·rintro H5 ⟨os,hl,h5⟩
   have p5:=h5.s _ _ (Ya (H:=H) (a:=p) (o:= .ins t.c.Qg dx (uc "lease" (.int k') (uc "life" (.int l) (uc "fee" (.int f) (uc "time" (.int 0) fs))))));refine ⟨_,rfl,uf p5 T.Wc T.VW l4 ⟨Nat.zero_le _,fun m hm=>⟨_,rfl,uf (dx:=dx) ?_ T.Wc T.QQ (UaN hfs f l k' D m).2.2.2.2.2.1 ?_⟩⟩⟩
   ·exact (by rw [Va (fun z=>by rw [←z,Ya] at hm;cases hm)];exact Ya)
   ·have mp:m≠p:=fun z=>by rw [z,Ya] at hm;cases hm
    have hm5:H5 m=none:=by rw [Va mp] at hm;exact hm
    have mD:m≠D:=fun z=>by rw [z,h5.d] at hm5;cases hm5
    rw [(UaN hfs f l k' D m).2.2.2.2.2.2];have old:∀{b:Addr} {u:HO},b≠p→H5 b=some u→upd (upd (upd H5 p (.ins t.c.Qg dx (uc "offices" (.ref D) (uc "lease" (.int k') (uc "life" (.int l) (uc "fee" (.int f) (uc "time" (.int 0) fs))))))) m (.lst [])) p (.ins t.c.Qg dx (wL 0 f l k' D m)) b=some u:=fun {b u} bp e=>by
     rw [Va bp,Va (Qb e hm5),Va bp];exact e
    have np:∀{b:Addr},(upd H p (.ins t.c.Qg dx (uc "lease" (.int k') (uc "life" (.int l) (uc "fee" (.int f) (uc "time" (.int 0) fs)))))) b=none→b≠p:=fun {b} e z=>by rw [z,Ya] at e;cases e
    obtain ⟨hh,own⟩:=waY (c:=t.c) (H:=upd (upd (upd H5 p (.ins t.c.Qg dx (uc "offices" (.ref D) (uc "lease" (.int k') (uc "life" (.int l) (uc "fee" (.int f) (uc "time" (.int 0) fs))))))) m (.lst [])) p (.ins t.c.Qg dx (wL 0 f l k' D m))) (p:=p) (dx:=dx) (D:=D) (m:=m) (os:=os) (n:=n) (f:=f) (l:=l) (k:=k')
     Ya (old Dp h5.d) (by rw [Va mp,Ya]) (fun u hu=>by
      obtain ⟨a,fr,_⟩:=h5.at_ u hu
      exact ⟨old (np fr.x) a.x,old (np fr.j) a.j,old (np fr.o) a.o,old (np fr.k) a.k⟩) (Ne.symm mD) (fun u hu=>by
      obtain ⟨a,fr,d⟩:=h5.at_ u hu
      exact ⟨d,fun z=>by have:=a.j;rw [z,hm5] at this;cases this⟩) h5.nx h5.nj h5.no h5.nk hl
    refine k _ _ hh rfl (fun b o bp e=>?_) fun b e=>?_
    ·have e1:(upd H p (.ins t.c.Qg dx (uc "lease" (.int k') (uc "life" (.int l) (uc "fee" (.int f) (uc "time" (.int 0) fs)))))) b=some o:=by rw [Va bp];exact e
     refine ⟨old bp (h5.s _ _ e1),fun hb=>?_⟩;rcases own b hb with z | z | z | ⟨u,hu,z⟩
     ·exact bp z
     ·rw [z,hDH] at e;cases e
     ·have:=h5.s _ _ e1;rw [z,hm5] at this;cases this
     ·obtain ⟨a,fr,_⟩:=h5.at_ u hu
      rcases z with z | z | z | z
      ·rw [z,fr.x] at e1;cases e1
      ·rw [z,fr.j] at e1;cases e1
      ·rw [z,fr.o] at e1;cases e1
      ·rw [z,fr.k] at e1;cases e1
    ·have bp:b≠p:=fun z=>by rw [z,Ya] at e;cases e
     have bm:b≠m:=fun z=>by rw [Va bp,z,Ya] at e;cases e
     rw [Va bp,Va bm,Va bp] at e;have:=h5.s.free e;rw [Va bp] at this;exact this
def uah(t:Yd):Sp:=fun vs H Q _=>∃(p dx:Addr),vs= [.ref p]∧H p=some (.ins t.c.Qg dx [])∧∀H' A',Holds t.c H' A' (Zz 0 0 0 0)→A'.ad .wo=p→(∀b o,b≠p→H b=some o→H' b=some o∧¬Own t.c A' (Zz 0 0 0 0) b)→(∀b,H' b=none→H b=none)→Q .non H'
theorem Yag(T:Txt K mg t):wb P w K mg base ke 4 t.yt t.Vt ["self"] (uah t):=by
  refine T.wV.kf qai fun vs H Q E h=>?_;obtain ⟨p,dx,rfl,hp,k⟩:=h;refine ⟨rfl,fun _ _ _ _ hr=>⟨_,(va (Zd (Yc (pv 0) T.Wc T.y8 (K7 T) hr.m T.uaa .nil Ka (za ua (za ua (za ua (za ua Qa))))))),?_⟩⟩;exact ⟨_,rfl,_,_,_,rfl,hp,rfl,p,dx, [],0,0,0,0,rfl,hp, .inl rfl,Int.le_refl _,by decide,k⟩
def Va3(t:Yd):Sp:=fun vs H Q _=>∃(A:Ad) (M:Mw) (n f l k':Int),vs= [.ref (A.ad .wo), .int n, .int f, .int l, .int k']∧Holds t.c H A M∧vc t.c ZU H A M (kU M n f l k') Q
theorem qa3(T:Txt K mg t):wb P w K mg base ke 4 t.Kao t.vao ["world","offices","fee","life","lease"] (Va3 t):=by
  refine T.qaE.kf waJ fun vs H Q E h=>?_;obtain ⟨A,M,n,f,l,k',rfl,hd,k⟩:=h;refine ⟨rfl,fun _ _ _ _ hr=>⟨_,(Za (qb (i:=5) waJ.nd rfl (Or.inl rfl) (Ud (ja (Vh T) hr.m rfl T.Zj T.Yh.kp T.zj .nil Ka (za (pv 1) (za ua (za (xa (v:= .int (5)) rfl T.qaw ⟨_,rfl⟩) Qa)))) (Ud (ja (Vh T) hr.m rfl T.Zj T.Yh.kp T.zj .nil Ka (za (pv 2) (za ua (za (xa (v:= .int (1000)) rfl T.waS ⟨_,rfl⟩) Qa)))) (Ud (ja (Vh T) hr.m rfl T.Zj T.Yh.kp T.zj .nil Ka (za (pv 3) (za ua (za (xa (v:= .int (1000000)) rfl T.Y5 ⟨_,rfl⟩) Qa)))) (qp (ja (Vh T) hr.m rfl T.Zj T.Yh.kp T.zj .nil Ka (za (pv 4) (za ua (za (xa (v:= .int (1000000)) rfl T.Y5 ⟨_,rfl⟩) Qa))))))))) (Za (Jb (Vl (pv 5) (fun _=>rfl)) (va (Ja (Qc (za (pv 5) Qa)))) zb) (Za (Zd (Yc (pv 0) T.Wc T.y8 (K7 T) hr.m T.uaa .nil Ka (za (pv 1) (za (pv 2) (za (pv 3) (za (pv 4) Qa)))))) (va (Ja (Qc (za ua Qa))))))),?_⟩⟩;refine ⟨_,rfl,_,_,_,rfl,_,rfl,VC (fun h1=>⟨_,rfl,_,_,_,rfl,_,rfl,VC (fun h2=>⟨_,rfl,_,_,_,rfl,_,rfl,VC (fun h3=>⟨_,rfl,_,_,_,rfl,?_⟩) fun h3=>⟨_,rfl,_,rfl,qm (fun _=>⟨_,rfl,one_le,fun p hp=>k.ref hd (Kp.same (Ua.refl _)) hp (by simp [Wb,h1,h2,h3]) h3⟩) fun z=>absurd z h3⟩⟩) fun h2=>⟨_,rfl,_,rfl,qm (fun _=>⟨_,rfl,one_le,fun p hp=>k.ref hd (Kp.same (Ua.refl _)) hp (by simp [Wb,h1,h2]) h2⟩) fun z=>absurd z h2⟩⟩) fun h1=>⟨_,rfl,_,rfl,qm (fun _=>⟨_,rfl,one_le,fun p hp=>k.ref hd (Kp.same (Ua.refl _)) hp (by simp [Wb,h1]) h1⟩) fun z=>absurd z h1⟩⟩;refine ⟨_,rfl,_,rfl,qm (fun h4=>⟨_,rfl,one_le,fun p hp=>k.ref hd (Kp.same (Ua.refl _)) hp (by simp [Wb,h1,h2,h3]) h4⟩) fun h4=>?_⟩;have k:=k.pos (by simp [Wb,h1,h2,h3,h4]);have hn:1≤n∧n≤5:=by
   unfold outI at h1;split at h1
   ·assumption
   ·cases h1
  refine ⟨_,rfl,_,_,_,rfl,hd.wo,rfl,_,rfl,_,rfl,_,rfl,_,rfl,A.ad .wo,_,_,n,f,l,k',rfl,hd.wo, .inr ⟨A,M,rfl⟩,by omega,hn.2,fun H2 A2 hd2 qw kp th=>⟨one_le,fun p hp=>k.lst (ns:= [0]) hd2 ⟨qw,fun b o _ e n=>kp b o (fun z=>n ⟨.wo,jaf,z.symm⟩) e,th⟩ hp rfl⟩⟩
end Mo
namespace Mo
open PySem PySem.Spec PyProof.Rows L2
variable{P:Program}{w:World}{K:PySem.W.Frag}{mg:Str→Option Value}{base:Heap}{t:Yd}
abbrev Row:=Addr×List Int
def kaD(H:Hp)(rs:List Row):Prop:=∀r∈rs,H r.1=some (.lst (r.2.map V.int))
theorem Wa1{β:Type}{J:It}{xs:List V}{v:Nat}{te:TE}{σ:L2.St}{H1:Hp}{D:Addr}{Qd:Hp→Prop}(ys:List β)(f:β→List Int)(hD:H1 D=none)
  (hgo:∀i H,Ua H1 H→i<xs.length→J.go i H) (hyl:∀i H x H',i<xs.length→Ua H1 H→J.yld i H x H'→H'=H∧xs[i]? =some x) (hst:∀H,Ua H1 H→J.stop xs.length H) (hxy:xs.length=ys.length) (hsz:ys.length<sizeLine)
  (hs:∀(i:Nat) (x:V) (y:β) (H:Hp) (Y:V→Hp→Prop),xs[i]? =some x→ys[i]? =some y→Ua H1 H→(∀H4 p,Ua H H4→H p=none→H4 p=some (.lst ((f y).map V.int))→Y (.ref p) H4)→te ((wipe σ [v]).set v (some x)) H Y)
  (hd:∀H rs,Ua H1 H→H D=some (.lst (rs.map fun r=>V.ref r.1))→rs.map (·.2)=ys.map f→kaD H rs→Qd H):
  ∃W:Nat→Nat→Hp→Prop,(∃m,W 0 m (upd H1 D (.lst [])))∧∀i m H,W i m H→
   (J.stop i H∧Qd H)∨(J.go i H∧∃Nx:Hp→Prop,(∀H',Nx H'→∃m',m'<m∧W (i+1) m' H')∧∀x H',J.yld i H x H'→xam v x (wipe σ [v]) H' fun σ2 H2=>wipe σ2 [v]=wipe σ [v]∧jaj σ2 H2 fun b H3=>
    if b=true then te σ2 H3 fun y H4=>∃acc,H4 D=some (.lst acc)∧acc.length<sizeLine∧Nx (upd H4 D (.lst (acc++ [y]))) else Nx H3):=by
 have up:∀{H:Hp} {o:HO},Ua H1 H→Ua H1 (upd H D o):=fun {H o} s b u e=>by rw [Va (Qb e hD)];exact s b u e
 refine ⟨fun i m H=>m=xs.length-i∧i≤xs.length∧Ua H1 H∧∃rs:List Row,H D=some (.lst (rs.map fun r=>V.ref r.1))∧rs.map (·.2)=(ys.take i).map f∧kaD H rs∧∀r∈rs,r.1≠D,⟨xs.length,by simp,Nat.zero_le _,up (Ua.refl _), [],Ya,rfl,fun r hr=>(by cases hr),fun r hr=>(by cases hr)⟩,?_⟩
 rintro i m H ⟨rfl,hi,s,rs,e,er,ra,rn⟩
 by_cases XF:i<xs.length
 ·refine .inr ⟨hgo i H s XF,fun H'=>Ua H1 H'∧∃rs:List Row,H' D=some (.lst (rs.map fun r=>V.ref r.1))∧rs.map (·.2)=(ys.take (i+1)).map f∧kaD H' rs∧∀r∈rs,r.1≠D,fun H' p'=>⟨xs.length- (i+1),by omega,rfl,XF,p'.1,p'.2⟩,fun x H' y=>?_⟩;obtain ⟨rfl,hx⟩:=hyl i H x H' XF s y;have hi2:i<ys.length:=by rw [←hxy];exact XF
  have hy:ys[i]? =some ys[i]:=List.getElem?_eq_getElem hi2;refine ⟨waP σ v x,yes (hs i x ys[i] H' _ hx hy s fun H4 p s4 np hp=>⟨_,s4 _ _ e,?_,up (s.trans s4),rs++ [(p,f ys[i])],?_,?_,fun r hr=>?_,fun r hr=>?_⟩)⟩
  ·have h1:rs.length=(ys.take i).length:=by
    have:=congrArg List.length er;rw [List.length_map,List.length_map] at this;exact this
   rw [List.length_map,h1,List.length_take];omega
  ·rw [Ya,List.map_append];rfl
  ·rw [List.map_append,er,zw hy,List.map_append];rfl
  ·have pD:p≠D:=fun z=>by rw [z,e] at np;cases np
   rcases List.mem_append.mp hr with hr | hr
   ·rw [Va (rn r hr)];exact s4 _ _ (ra r hr)
   ·have:r=(p,f ys[i]):=by simpa using hr
    subst this;rw [Va pD];exact hp
  ·rcases List.mem_append.mp hr with hr | hr
   ·exact rn r hr
   ·have:r=(p,f ys[i]):=by simpa using hr
    subst this;exact fun z=>by
     have z:p=D:=z;rw [z,e] at np;cases np
 ·have ei:i=xs.length:=by omega
  subst ei;exact .inl ⟨hst H s,hd H rs s e (by rw [er,hxy,List.take_length]) ra⟩
def qaH(t:Yd):Sp:=fun vs H Q _=>∃(n:Int) (a:Addr) (rs:List Row),vs= [.int n, .ref a]∧H a=some (.lst (rs.map fun r=>V.ref r.1))∧kaD H rs∧(Ye n (rs.map (·.2))).length+1<sizeLine∧∀H' p,Ua H H'→H p=none→H' p=some (.lst ((Ye n (rs.map (·.2))).map V.int))→Q (.ref p) H'
theorem xI(T:Txt K mg t):wb P w K mg base ke 2 t.KO t.kO ["number","rows"] (qaH t):=by
  refine T.ux.kf xX fun vs H Q E h=>?_;obtain ⟨n,a,rs,rfl,ha,hr',hz,k⟩:=h;refine ⟨rfl,fun _ _ _ _ hr=>⟨_,(Za (Jb (Kb Vf (jd Jc (by rfl) T.Uu PySem.boot_len (za (pv 1) Qa)) ua (Zc _)) (va (Ja (Vs ubf (Qc (za (pv 0) Qa)) (Vb Xa (pv 1) ua (fun _ _=>rfl))))) zb) (Za (qb (i:=2) xX.nd rfl (Or.inl rfl) (Qc (za (pv 0) Qa))) (Za (ZaA PassesOwn.never rfl (Xn (pv 1)) (jg (i:=3) xX.nd rfl (Or.inl rfl)) (Za (Zd (wy PySem.F.plainAttrs_list PySem.F.slot_list_append PySem.F.type_list_append vh (pv 2) (za (jd Jc (by rfl) T.Uu PySem.boot_len (za (pv 3) Qa)) Qa))) (va (Zd (wy PySem.F.plainAttrs_list PySem.F.slot_list_extend PySem.F.type_list_extend qaD (pv 2) (za (pv 3) Qa)))))) (va (Ja (pv 2)))))),?_⟩⟩;unfold Ye at k hz;refine ⟨_,rfl,_,_,rfl, .inl (xb.of ha),rfl,_,rfl,yg (fun h=>?_) fun h=>?_⟩
  ·have h1:rs.length=1:=by
    have:=V.int.inj h;rw [List.length_map] at this;omega
   obtain ⟨r,rfl⟩:=List.length_eq_one_iff.mp h1;have ea:H r.1=some (.lst (r.2.map V.int)):=hr' r List.mem_cons_self;have hz:(r.2++ []).length+1+1<sizeLine:=hz;rw [List.append_nil] at hz;refine ⟨_,rfl,one_le,fun q hq=>⟨_,rfl,_,_,_,_,rfl,rfl,xb.of (Ua.new hq _ _ ha),rfl,_,_,_,_,rfl,rfl,Ya,Ua.new hq _ _ ea,?_,fun p hp=>?_⟩⟩
   ·rw [List.length_map];show 1+r.2.length≤_;omega
   ·have s2:=(Ua.new (H:=H) (o:= .lst [.int n]) hq).trans (Ua.new (o:= .lst ([.int n]++r.2.map V.int)) hp);refine k _ p s2 ((Ua.new hq).free hp) ?_;rw [Ya];show some (HO.lst (V.int n::r.2.map V.int))=some (HO.lst (V.int n::(r.2++ []).map V.int));rw [List.append_nil]
  ·have h1:rs.length≠1:=fun z=>h (by rw [List.length_map,z];rfl)
   rw [if_neg (by rw [List.length_map];exact h1)] at k hz;refine ⟨_,rfl,one_le,fun L hL=>⟨_,rfl,_,rfl,⟨_,xb.of (Ua.new hL _ _ ha)⟩,WaK (xs:=rs.map fun r=>V.ref r.1) (fun i σ H5=>∃z,σ= [some (.int n),some (.ref a),some (.ref L),z]∧Ua H H5∧H5 L=some (.lst ((n::((rs.take i).map (·.2)).flatMap fun r=>(r.length:Int)::r).map V.int))) ⟨none,rfl,Ua.new hL,Ya⟩ ?_ ?_ ?_⟩⟩
   ·rintro i σ H5 _ ⟨z,rfl,s5,_⟩
    exact xb.of (s5 _ _ ha)
   ·rintro i x σ H5 hx ⟨z,rfl,s5,hL5⟩
    rw [List.getElem?_map] at hx;cases q:rs[i]? with
    | none=>rw [q] at hx;cases hx
    | some r=>
     rw [q] at hx;have hx:V.ref r.1=x:=Option.some.inj hx;subst hx;have e5:=s5 _ _ (hr' r (List.mem_of_getElem? q));have rL:r.1≠L:=Qb (hr' r (List.mem_of_getElem? q)) hL;have lz:(n::((rs.take (i+1)).map (·.2)).flatMap fun r=>(r.length:Int)::r).length≤(n::(rs.map (·.2)).flatMap fun r=>(r.length:Int)::r).length:=by
      have e:rs=rs.take (i+1)++rs.drop (i+1):=(List.take_append_drop _ _).symm;conv=>rhs;rw [e]
      rw [List.map_append,List.flatMap_append,List.length_cons,List.length_cons,List.length_append];omega
     have et:((rs.take (i+1)).map (·.2)).flatMap (fun r=>(r.length:Int)::r)=((rs.take i).map (·.2)).flatMap (fun r=>(r.length:Int)::r)++((r.2.length:Int)::r.2):=by
      rw [zw q,List.map_append,List.flatMap_append];simp
     rw [et,List.length_cons,List.length_append,List.length_cons] at lz;refine ⟨_,rfl, .inl ⟨rfl,_,xb.of hL5⟩,_,rfl,_,_,rfl, .inl (xb.of e5),_,_,_,rfl,rfl,hL5,?_,⟨_,rfl, .inl ⟨rfl,_,xb.of Ya⟩,_,rfl,L,r.1,_,_,rfl,rfl,Ya,by rw [Va rL];exact e5,?_,?_⟩⟩
     ·rw [List.length_map,List.length_cons];omega
     ·rw [List.length_append,List.length_map,List.length_map,List.length_cons];simp only [List.length_cons,List.length_nil];omega
     ·refine ⟨_,rfl,fun b o e=>?_,?_⟩
      ·rw [Va (Qb e hL),Va (Qb e hL)];exact s5 _ _ e
      ·rw [Ya,et];simp
   ·rintro σ H5 ⟨z,rfl,s5,hL5⟩
    rw [List.length_map,List.take_length] at hL5;exact ⟨_,rfl,k H5 L s5 hL hL5⟩
end Mo
namespace Mo
open PySem PySem.Spec PyProof.Rows L2
variable{P:Program}{w:World}{K:PySem.W.Frag}{mg:Str→Option Value}{base:Heap}{t:Yd}
section
variable{c:Cs}{H H1 H' H2:Hp}{A A' A2:Ad}{M M' M2:Mw}{ex:Addr→Prop}{p:Addr}{Q:VK}
theorem vc.read{ns:List Int}(k:vc c ex H A M (M,ns) Q)(hd:Holds c H A M)(s:Ua H H')(np:H p=none)(hp:H' p=some (.lst (ns.map V.int))):Q (.ref p) H':=
 k H' A p (hd.same s) (Kp.same s) np hp (hd.own np)
theorem zba:4≤sizeLine:=by rw [sizeLine_eq];decide
theorem qbh:6≤sizeLine:=by rw [sizeLine_eq];decide
theorem ua3:8≤sizeLine:=by rw [sizeLine_eq];decide
end
def uau(t:Yd):Sp:=fun vs H Q _=>∃(A:Ad) (M:Mw) (i:Nat) (n:Int) (o:Qe),vs= [.ref (A.ad (.ord i n))]∧Holds t.c H A M∧i<M.k∧M.ord i n=some o∧Q (.int (K0 o)) H
theorem Wau(T:Txt K mg t):wb P w K mg base ke 2 t.kF t.QF ["order"] (uau t):=by
  refine T.wQ.kf yav fun vs H Q E h=>?_;obtain ⟨A,M,i,n,o,rfl,hd,hi,ho,k⟩:=h;refine ⟨rfl,fun _ _ _ _ hr=>⟨_,(Za (Jb (Qh (ya (pv 0) rfl)) (va (Ja (xa (v:= .int (4)) rfl T.Uak ⟨_,rfl⟩))) zb) (Za (Jb (Qh (ya (pv 0) rfl)) (va (Ja (xa (v:= .int (3)) rfl T.vav ⟨_,rfl⟩))) zb) (Za (Jb (yn (wac (qf (pv 0) T.ue T.We (we T) hr.m T.Kf .nil Ka))) (va (Ja (xa (v:= .int (2)) rfl T.uaq ⟨_,rfl⟩))) zb) (va (Ja (xa (v:= .int (1)) rfl T.YaH ⟨_,rfl⟩)))))),?_⟩⟩;have f:=hd.ord hi ho;unfold K0 at k;refine ⟨_,rfl,vB T f ⟨_,rfl,ifb (fun e1=>?_) fun e1=>⟨_,rfl,Ql T f ⟨_,rfl,ifb (fun e2=>?_) fun e2=>⟨_,rfl,_,_,_,rfl,f,rfl,A,M,i,n,o,rfl,hd,hi,ho,?_⟩⟩⟩⟩⟩
  ·rw [if_pos e1] at k;exact k
  ·rw [if_neg (by rw [e1];decide),if_pos e2] at k;exact k
  ·rw [if_neg (by rw [e1];decide),if_neg (by rw [e2];decide)] at k;cases hs:Xc o with
   | none=>
    rw [hs] at k;rw [jx hs];exact ⟨_,rfl,ifn (fun h=>absurd rfl h) fun _=>k⟩
   | some g=>
    rw [hs] at k;obtain ⟨ys,hg,hb⟩:=Yr hs;rw [yj hs hg];exact ⟨_,rfl,ifn (fun _=>k) fun h=>by cases h⟩
def Vap(t:Yd):Sp:=fun vs H Q _=>∃(A:Ad) (M:Mw) (i:Nat) (n:Int) (o:Qe),vs= [.ref (A.ad (.ord i n))]∧Holds t.c H A M∧i<M.k∧M.ord i n=some o∧∀H' p,Ua H H'→H p=none→H' p=some (.lst ((Kj o).map V.int))→Q (.ref p) H'
theorem Waq(T:Txt K mg t):wb P w K mg base ke 2 t.YA t.ZA ["order"] (Vap t):=by
  refine T.ZM.kf V0 fun vs H Q E h=>?_;obtain ⟨A,M,i,n,o,rfl,hd,hi,ho,k⟩:=h;refine ⟨rfl,fun _ _ _ _ hr=>⟨_,(Za (qb (i:=1) V0.nd rfl (Or.inl rfl) (qf (pv 0) T.ue T.We (we T) hr.m T.Kf .nil Ka)) (Za (Jb (yn (Qz (pv 1))) (va (Ja (Qc Qa))) zb) (va (Ja (Qc (za (ya (pv 1) rfl) (za (ya (pv 1) rfl) (za (ya (pv 1) rfl) Qa)))))))),?_⟩⟩;have f:=hd.ord hi ho;unfold Kj at k;refine ⟨_,rfl,_,_,_,rfl,f,rfl,A,M,i,n,o,rfl,hd,hi,ho,?_⟩;cases hs:Xc o with
  | none=>
   rw [hs] at k;rw [jx hs];exact ⟨_,rfl,_,rfl,yg (fun _=>⟨Nat.zero_le _,fun p hp=>k _ p (Ua.new hp) hp Ya⟩) fun h=>absurd rfl h⟩
  | some g=>
   rw [hs] at k;obtain ⟨ys,hg,hb⟩:=Yr hs;have f2:=hd.gr (k:=ys.length) (g:=g) hi ho (by rw [hg];simp);rw [yj hs hg];exact ⟨_,rfl,_,rfl,yg (fun h=>by cases h) fun _=>⟨_,rfl,wk T f2 ⟨_,rfl,qh T f2 ⟨_,rfl,UQ T f2 ⟨QD,fun p hp=>k _ p (Ua.new hp) hp Ya⟩⟩⟩⟩⟩
def Zaf(t:Yd):Sp:=fun vs H Q _=>∃(x dx:Addr) (n g:Int) (y:Jn),vs= [.ref x]∧H x=some (.ins t.c.claim dx (zv n g y))∧∀H' p,Ua H H'→H p=none→H' p=some (.lst ((kK (g,y)).map V.int))→Q (.ref p) H'
theorem KaG(T:Txt K mg t):wb P w K mg base ke 2 t.WO t.XN ["claim"] (Zaf t):=by
  refine T.K4.kf waG fun vs H Q E h=>?_;obtain ⟨x,dx,n,g,y,rfl,hx,k⟩:=h;refine ⟨rfl,fun _ _ _ _ hr=>⟨_,(va (Ja (Qc (za (ya (pv 0) rfl) (za (ya (pv 0) rfl) (za (ya (pv 0) rfl) (za (XJ V5 (by rfl) T.XaP PyProof.Rows.boot_int (za (ya (pv 0) rfl) Qa)) (za (XJ V5 (by rfl) T.XaP PyProof.Rows.boot_int (za (ya (pv 0) rfl) Qa)) Qa)))))))),?_⟩⟩;exact ⟨_,rfl,vM T hx ⟨_,rfl,Kr T hx ⟨_,rfl,qR T hx ⟨_,rfl,yp T hx (.inr ⟨_,rfl,_,rfl,Wl T hx (.inr ⟨_,rfl,ZaE,fun p hp=>k _ p (Ua.new hp) hp Ya⟩)⟩)⟩⟩⟩⟩
def wav(t:Yd):Sp:=fun vs H Q _=>∃(A:Ad) (M:Mw) (m:Int),vs= [.ref (A.ad .wo), .int m]∧Holds t.c H A M∧vc t.c ZU H A M (M,Vau M m) Q
theorem Zaw(T:Txt K mg t):wb P w K mg base ke 3 t.jF t.ZF ["world","m"] (wav t):=by
  refine T.XR.kf zM fun vs H Q E h=>?_;obtain ⟨A,M,m,rfl,hd,k⟩:=h;refine ⟨rfl,fun _ _ _ _ hr=>⟨_,(Za (qb (i:=2) zM.nd rfl (Or.inl rfl) (ja (jR T) hr.m rfl T.vY T.Yz.kp T.jY .nil Ka (za (pv 0) (za (pv 1) Qa)))) (Za (Jb (Vl (pv 2) (fun _=>rfl)) (va (Ja (Qc (za (pv 2) Qa)))) zb) (Za (qb (i:=3) zM.nd rfl (Or.inl rfl) (Vb Xa (ya (pv 0) rfl) (pv 1) (fun _ _=>rfl))) (va (Ja (Qc (za (ya (pv 3) rfl) (za (ya (pv 3) rfl) (za (ya (pv 3) rfl) (za (ya (pv 3) rfl) (za (ya (pv 3) rfl) (za (ya (pv 3) rfl) (za (ya (pv 3) rfl) (za (XJ V5 (by rfl) T.XaP PyProof.Rows.boot_int (za (ya (pv 3) rfl) Qa)) Qa)))))))))))))),?_⟩⟩;refine ⟨_,rfl,_,rfl,A,M,m,rfl,hd,?_⟩;unfold Vau at k;by_cases hm:0≤m∧m<(M.ms.length:Int)
  ·rw [if_pos hm] at k;have e0:vZ M m=0:=if_pos hm;rw [e0];have hj:M.ms[m.toNat]? =some M.ms[m.toNat]:=List.getElem?_eq_getElem (by omega);generalize M.ms[m.toNat]=x at hj;rw [hj] at k;have hx:=hd.ms hj;refine ⟨_,rfl,_,rfl,qm (fun z=>absurd rfl z) fun _=>⟨_,rfl,Ue T hd.wo ⟨_,rfl,hd.ixm hm.1 (by omega) ⟨_,rfl,xk T hx ⟨_,rfl,Vc T hx ⟨_,rfl,kg T hx ⟨_,rfl,Zg T hx ⟨_,rfl,Xb T hx ⟨_,rfl,uB T hx ⟨_,rfl,kZ T hx ⟨_,rfl,XZ T hx (.inr ⟨_,rfl,ua3,fun p hp=>?_⟩)⟩⟩⟩⟩⟩⟩⟩⟩⟩⟩⟩;exact k.lst (ns:= [x.kind,x.order,x.yc,x.Yg,x.receiver,x.VD,x.uk,b2 x.gone]) hd (Kp.same (Ua.refl _)) hp rfl
  ·rw [if_neg hm] at k;have e0:vZ M m= -5:=if_neg hm;rw [e0];exact ⟨_,rfl,_,rfl,qm (fun _=>⟨_,rfl,one_le,fun p hp=>k.lst (ns:= [-5]) hd (Kp.same (Ua.refl _)) hp rfl⟩) fun z=>by cases z⟩
def Jaz(t:Yd):Sp:=fun vs H Q _=>∃(A:Ad) (M:Mw) (o:Int),vs= [.ref (A.ad .wo), .int o]∧Holds t.c H A M∧Sz M 20∧vc t.c ZU H A M (M,zH M o) Q
theorem Kaz(T:Txt K mg t):wb P w K mg base ke 4 t.JI t.uI ["world","o"] (Jaz t):=by
  refine T.uX.kf VF fun vs H Q E h=>?_;obtain ⟨A,M,o,rfl,hd,hz,k⟩:=h;refine ⟨rfl,fun _ _ _ _ hr=>⟨_,(Za (qb (i:=2) VF.nd rfl (Or.inl rfl) (ja (ql T) hr.m rfl T.vn T.Yj.kp T.Vn .nil Ka (za (pv 0) (za (pv 1) Qa)))) (Za (Jb (Vl (pv 2) (fun _=>rfl)) (va (Ja (Qc (za (pv 2) Qa)))) zb) (Za (qb (i:=3) VF.nd rfl (Or.inl rfl) (Vb Xa (ya (pv 0) rfl) (pv 1) (fun _ _=>rfl))) (Za (qb (i:=4) VF.nd rfl (Or.inl rfl) (Qc (za (ya (pv 3) rfl) (za (qf (pv 3) T.Zb T.VL (YL T) hr.m T.KR .nil Ka) (za (Yc (pv 0) T.Wc T.Vi (vi T) hr.m T.Wj .nil Ka (za (pv 1) Qa)) (za (jd Jc (by rfl) T.Uu PySem.boot_len (za (ya (pv 3) rfl) Qa)) Qa)))))) (va (Ja (ja (xI T) hr.m rfl T.ZP T.ux.kp T.ZO .nil Ka (za (XJ V5 (by rfl) T.XaP PyProof.Rows.boot_int (za (ya (pv 3) rfl) Qa)) (za (Qc (za (pv 4) (za (XJ (zau rfl) (by rfl) T.Wa0 PyProof.Rows.boot_list (za (ya (pv 3) rfl) Qa)) Qa))) Qa))))))))),?_⟩⟩;unfold zH at k;refine ⟨_,rfl,_,rfl,A,M,o,rfl,hd,?_⟩;refine ⟨_,rfl,_,rfl,qm (fun h1=>⟨_,rfl,one_le,fun p hp=>?_⟩) fun h1=>?_⟩
  ·rw [if_neg h1] at k;exact k.lst (ns:= [jh M o]) hd (Kp.same (Ua.refl _)) hp rfl
  ·rw [if_pos h1] at k;obtain ⟨h0,hi⟩:=JS h1;have z1:=hz.jr _ hi;have z2:=hz.ub _ hi;refine ⟨_,rfl,wa T hd.wo ⟨_,rfl,hd.ix h0 hi ⟨_,rfl,Xh T (hd.of hi) ⟨_,rfl,_,_,_,rfl,hd.of hi,rfl,A,M,o.toNat,rfl,hd,hi,by omega,fun H1 s1=>?_⟩⟩⟩⟩;have Kd:=hd.same s1;refine ⟨_,rfl,_,_,_,rfl,Kd.wo,rfl,_,rfl,A,M,o,rfl,Kd,h0,hi,_,rfl,kb T (Kd.of hi) ⟨_,_,rfl, .inl (xb.of (Kd.jl hi)),zba,fun q hq=>?_⟩⟩;have s2:=Ua.new (o:= .lst [.int (M.drawer o.toNat), .int (Yp (M.jr o.toNat)), .int (zd M o.toNat), .int (((A.jt o.toNat).map V.ref).length:Int)]) hq;have hd2:=Kd.same s2;have q2:(upd H1 q (.lst [.int (M.drawer o.toNat), .int (Yp (M.jr o.toNat)), .int (zd M o.toNat), .int (((A.jt o.toNat).map V.ref).length:Int)])) q=some (.lst ([M.drawer o.toNat,Yp (M.jr o.toNat),zd M o.toNat,((M.jr o.toNat).length:Int)].map V.int)):=by
    rw [Ya,Z0 hd hi];rfl
   refine ⟨_,rfl,qz T (hd2.of hi) (.inr ⟨_,rfl,_,rfl,_,rfl,wc T (hd2.of hi) ⟨_,_,rfl,hd2.od hi,fun l nl=>⟨ZI,fun w nw=>?_⟩⟩⟩)⟩;have el:((M.ub o.toNat).map fun n=>((Sum.inl n:Key),V.ref (A.ad (.ord o.toNat n)))).map (fun kv=>kV kv.1)=(M.ub o.toNat).map V.int:=by
    rw [List.map_map];rfl
   rw [el] at nw⊢;generalize (upd H1 q (.lst [.int (M.drawer o.toNat), .int (Yp (M.jr o.toNat)), .int (zd M o.toNat), .int (((A.jt o.toNat).map V.ref).length:Int)]))=H2 at s2 hd2 q2 nl nw⊢;have s3:=Ua.new (o:= .lst ((M.ub o.toNat).map V.int)) nl;have s4:=Ua.new (o:= .lst [V.ref q,V.ref l]) nw;have wl:(Ye (b2 (M.up o.toNat)) [[M.drawer o.toNat,Yp (M.jr o.toNat),zd M o.toNat,((M.jr o.toNat).length:Int)],M.ub o.toNat]).length=(M.ub o.toNat).length+7:=by
    unfold Ye;simp
   refine ⟨b2 (M.up o.toNat),w, [(q, [M.drawer o.toNat,Yp (M.jr o.toNat),zd M o.toNat,((M.jr o.toNat).length:Int)]),(l,M.ub o.toNat)],rfl,Ya,fun r hr=>?_,?_,fun H5 p s5 np hp=>?_⟩
   ·rcases List.mem_cons.mp hr with rfl | hr
    ·exact s4 _ _ (s3 _ _ q2)
    ·have:r=(l,M.ub o.toNat):=by simpa using hr
     subst this;exact s4 _ _ Ya
   ·show (Ye (b2 (M.up o.toNat)) [[M.drawer o.toNat,Yp (M.jr o.toNat),zd M o.toNat,((M.jr o.toNat).length:Int)],M.ub o.toNat]).length+1<sizeLine;rw [wl];omega
   ·have sa:Ua H _:=(((s1.trans s2).trans s3).trans s4);exact k.read hd (sa.trans s5) (sa.free np) hp
def kaH(t:Yd):Sp:=fun vs H Q _=>∃(A:Ad) (M:Mw) (n:Int),vs= [.ref (A.ad .wo), .int n]∧Holds t.c H A M∧vc t.c ZU H A M (M,ZT M n) Q
theorem QaI(T:Txt K mg t):wb P w K mg base ke 3 t.uO t.UO ["world","n"] (kaH t):=by
  refine T.Q4.kf kI fun vs H Q E h=>?_;obtain ⟨A,M,n,rfl,hd,k⟩:=h;refine ⟨rfl,fun _ _ _ _ hr=>⟨_,(Za (qb (i:=2) kI.nd rfl (Or.inl rfl) (Ud (ja (Jj T) hr.m rfl T.Zl T.Zi.kp T.Yl .nil Ka (za (pv 1) Qa)) (qp (ja (ql T) hr.m rfl T.vn T.Yj.kp T.Vn .nil Ka (za (pv 0) (za (ja (Vr T) hr.m rfl T.Kw T.Uo.kp T.Yx .nil Ka (za (pv 1) Qa)) Qa)))))) (Za (Jb (Vl (pv 2) (fun _=>rfl)) (va (Ja (Qc (za (pv 2) Qa)))) zb) (Za (qb (i:=3) kI.nd rfl (Or.inl rfl) (U2 (YS hr) (ya (Vb Xa (ya (pv 0) rfl) (ja (Vr T) hr.m rfl T.Kw T.Uo.kp T.Yx .nil Ka (za (pv 1) Qa)) (fun _ _=>rfl)) rfl) (pv 1) ⟨rfl,rfl,rfl,rfl⟩)) (Za (Jb (yn (Qz (pv 3))) (va (Ja (Qc (za (xa (v:= .int (0)) rfl T.Uaw ⟨_,rfl⟩) Qa)))) zb) (Za (qb (i:=4) kI.nd rfl (Or.inl rfl) (Qc (za (ya (pv 3) rfl) (za (ya (pv 3) rfl) (za (jd Jc (by rfl) T.Uu PySem.boot_len (za (ya (pv 3) rfl) Qa)) Qa))))) (va (Ja (ja (xI T) hr.m rfl T.ZP T.ux.kp T.ZO .nil Ka (za (ja (Wau T) hr.m rfl T.uay T.wQ.kp T.xax .nil Ka (za (pv 3) Qa)) (za (Qc (za (pv 4) (za (ja (Waq T) hr.m rfl T.qav T.ZM.kp T.Uav .nil Ka (za (pv 3) Qa)) Qa))) Qa)))))))))),?_⟩⟩;unfold ZT at k;dsimp only at k;refine ⟨_,rfl,n,rfl,_,rfl,VC (fun h1=>⟨_,rfl,_,rfl,n,rfl,A,M,_,rfl,hd,?_⟩) fun h1=>⟨_,rfl,_,rfl,qm (fun _=>⟨_,rfl,one_le,fun p hp=>?_⟩) fun z=>absurd z h1⟩⟩
  ·refine ⟨_,rfl,_,rfl,qm (fun h2=>⟨_,rfl,one_le,fun p hp=>?_⟩) fun h2=>?_⟩
   ·rw [k9 h1,if_neg h2] at k;exact k.lst (ns:= [jh M (Jr n)]) hd (Kp.same (Ua.refl _)) hp rfl
   ·rw [k9 h1,if_pos h2] at k;obtain ⟨h0,hi⟩:=JS h2;refine ⟨_,rfl,wa T hd.wo ⟨_,rfl,n,rfl,hd.ix h0 hi (wc T (hd.of hi) ⟨_,rfl,yap hd hi,_,rfl,_,Uad hd hi,?_⟩)⟩⟩;by_cases hn:n∈M.ub (Jr n).toNat
    ·obtain ⟨x,ho,hgo⟩:=Ur hd hi hn;rw [hgo] at k;have k:vc t.c ZU H A M (M,Ye (K0 x) [[x.vb,x.ood,(x.gs.length:Int)],Kj x]) Q:=k;rw [if_pos hn];have f:=hd.ord hi ho;have lg:((List.range x.gs.length).map fun k=>V.ref (A.ad (.gr (Jr n).toNat n k))).length=x.gs.length:=by simp
     refine ⟨_,rfl,_,rfl,yg (fun h=>by cases h) fun _=>⟨_,rfl,xj T f ⟨_,rfl,vG T f ⟨_,rfl,ki T f ⟨_,_,rfl, .inl (xb.of (hd.gl hi ho)),QD,fun q hq=>?_⟩⟩⟩⟩⟩;rw [lg] at*;have s1:=Ua.new (o:= .lst [.int x.vb, .int x.ood, .int (x.gs.length:Int)]) hq;have Kd:=hd.same s1;refine ⟨_,rfl,A,M,(Jr n).toNat,n,x,rfl,Kd,hi,ho,_,rfl,_,rfl,A,M,(Jr n).toNat,n,x,rfl,Kd,hi,ho,fun H2 l s2 nl hl=>⟨ZI,fun w nw=>?_⟩⟩;have s3:=Ua.new (o:= .lst [V.ref q,V.ref l]) nw;have sl:(Kj x).length≤3:=by
      unfold Kj;split<;>simp
     have wl:(Ye (K0 x) [[x.vb,x.ood,(x.gs.length:Int)],Kj x]).length=(Kj x).length+6:=by
      unfold Ye;simp
     refine ⟨_,w, [(q, [x.vb,x.ood,(x.gs.length:Int)]),(l,Kj x)],rfl,Ya,fun r hr=>?_,?_,fun H5 p s5 np hp=>?_⟩
     ·rcases List.mem_cons.mp hr with rfl | hr
      ·exact s3 _ _ (s2 _ _ Ya)
      ·have:r=(l,Kj x):=by simpa using hr
       subst this;exact s3 _ _ hl
     ·show (Ye (K0 x) [[x.vb,x.ood,(x.gs.length:Int)],Kj x]).length+1<sizeLine;rw [wl,sizeLine_eq];omega
     ·have sa:Ua H _:=(s1.trans s2).trans s3;exact k.read hd (sa.trans s5) (sa.free np) hp
    ·rw [WU hn] at k;rw [if_neg hn];exact ⟨_,rfl,_,rfl,yg (fun _=>⟨one_le,fun p hp=>k.lst (ns:= [0]) hd (Kp.same (Ua.refl _)) hp rfl⟩) fun h=>absurd rfl h⟩
  ·rw [ja0 h1,if_neg h1] at k;exact k.lst (ns:= [outI n 0 100000]) hd (Kp.same (Ua.refl _)) hp rfl
end Mo
namespace Mo
open PySem PySem.Spec PyProof.Rows L2
variable{P:Program}{w:World}{K:PySem.W.Frag}{mg:Str→Option Value}{base:Heap}{t:Yd}
section
variable{c:Cs}{H H1 H' H2:Hp}{A A' A2:Ad}{M M' M2:Mw}{K:PySem.W.Frag}
theorem VaK{i y:Nat}{x:V}(hx:((List.range M.k).map fun i=>V.ref (A.ad (.of i)))[i]? =some x)(hy:(List.range M.k)[i]? =some y):x=V.ref (A.ad (.of y))∧y<M.k:=Vao hx hy
theorem Vbe{a:Addr}{xs:List V}(h:xb K H1 a xs):∀i H,Ua H1 H→i<xs.length→(Itl K a).go i H:=fun i H s hi=>⟨xs,xs[i],s.seq h,List.getElem?_eq_getElem hi⟩
theorem kbe{a:Addr}{xs:List V}(h:xb K H1 a xs):∀i H x H',i<xs.length→Ua H1 H→(Itl K a).yld i H x H'→H'=H∧xs[i]? =some x:=fun i H x H' _ s y=>⟨y.1,y.2 xs (s.seq h)⟩
theorem Qbh{a:Addr}{xs:List V}(h:xb K H1 a xs):∀H,Ua H1 H→(Itl K a).stop xs.length H:=fun H s=>⟨xs,s.seq h,Nat.le_refl _⟩
theorem zbg{n:Nat}:∀i H x H',i<n→(Itr 0 n).yld i H x H'→H'=H∧((List.range n).map fun i:Nat=>V.int (0+i))[i]? =some x:=fun i H x H' hi y=>⟨y.1,by rw [List.getElem?_map,List.getElem?_range hi,y.2];rfl⟩
def Qr(M:Mw)(o:Nat)(n:Int):Bool:=(M.ord o n).any (·.closed)
def zax(M:Mw)(o p:Nat)(n:Int):Option Int:=(M.ord o n).bind fun x=>if (Xc x).map (·.jf)=some (p:Int) then some x.vb else none
theorem XaH(M:Mw)(o p:Nat):(((M.ub o).filter (Qr M o)).filterMap (zax M o p)).sum=yk M o p:=by
 unfold yk;induction M.ub o with
 | nil=>rfl
 | cons n r ih=>
  rw [List.filter_cons,List.filterMap_cons (f:=M.ord o)];cases e:M.ord o n with
  | none=>
   have:Qr M o n=false:=by unfold Qr;rw [e];rfl
   rw [this];exact ih
  | some x=>
   have hc:Qr M o n=x.closed:=by unfold Qr;rw [e];rfl
   have hh:zax M o p n=if (Xc x).map (·.jf)=some (p:Int) then some x.vb else none:=by unfold zax;rw [e];rfl
   rw [hc];show _=((((x::r.filterMap (M.ord o)).filter _).map _).sum);rw [List.filter_cons];cases h1:x.closed with
   | false=>simpa using ih
   | true=>
    by_cases h2:(Xc x).map (·.jf)=some (p:Int)
    ·rw [if_pos rfl,List.filterMap_cons,hh,if_pos h2,if_pos (by simp [h2])];exact congrArg (fun z=>x.vb+z) ih
    ·rw [if_pos rfl,List.filterMap_cons,hh,if_neg h2,if_neg (by simp [h2])];exact ih
def Xae(M:Mw)(p:Nat)(k:Int×Int):Bool:=(Yf M p k.1 k.2).paid
def JaH(M:Mw)(o p:Nat)(k:Int×Int):Option Int:=if Jr k.1=(o:Int) then some (Yf M p k.1 k.2).vb else none
theorem Uax(M:Mw)(o p:Nat):(((M.Kc p).filter (Xae M p)).filterMap (JaH M o p)).sum=Jl M o p:=by
 unfold Jl;induction M.Kc p with
 | nil=>rfl
 | cons k r ih=>
  rw [List.filter_cons,List.filter_cons];unfold Xae JaH at ih⊢;cases h1:(Yf M p k.1 k.2).paid with
  | false=>simpa using ih
  | true=>
   by_cases h2:Jr k.1=(o:Int)
   ·rw [if_pos rfl,List.filterMap_cons,if_pos h2,if_pos (by simp [h2])];exact congrArg (fun z=>(Yf M p k.1 k.2).vb+z) ih
   ·rw [if_pos rfl,List.filterMap_cons,if_neg h2,if_neg (by simp [h2])];exact ih
theorem Qas{α:Type}(f:α→Option Int):∀l:List α,l.filterMap (fun x=>(f x).map V.int)=(l.filterMap f).map V.int
 | []=>rfl
 | a::r=>by
  rw [List.filterMap_cons,List.filterMap_cons,Qas f r];cases f a<;>rfl
end
def vaw(t:Yd):Sp:=fun vs H Q _=>∃(A:Ad) (M:Mw) (b:Nat),vs= [.ref (A.ad .wo), .str (kindS b)]∧Holds t.c H A M∧Sz M 3∧(b=1∨b=2∨b=3)∧(∀i,i<M.k→∀a∈Yv (M.jr i),a.kind=1∨a.kind=2∨a.kind=3)∧∀H',Ua H H'→Q (.int (VS M b)) H'
theorem UK(T:Txt K mg t):wb P w K mg base ke 3 t.WE t.uF ["world","kind"] (vaw t):=by
  refine T.jv.kf JL fun vs H Q E h=>?_;obtain ⟨A,M,b,rfl,hd,hz,hb,ha,k⟩:=h;refine ⟨rfl,fun _ _ _ _ hr=>⟨_,(va (Ja (jd (vT rfl) (by rfl) T.zaa PyProof.Rows.boot_sum (za (zY (tt:=jaj) (te:=(Qax t.c.office "cash_of" (JP t) [] E0 (Km 2) (Xam (Km 1) vae))) rfl JL.nd (Xn (ya (pv 0) rfl)) (Wh (own:= [("office",2)]) rfl) (fun _ _ _ _ _=>jg (i:=2) JL.nd rfl (Or.inl rfl)) (fun _ _ _ _ _=>ZN) (fun _ _ _ _ _=>(Yc (pv 2) T.Zb T.wah (jah T) hr.m T.zal .nil Ka (za (pv 1) Qa)))) Qa)))),?_⟩⟩;refine ⟨_,rfl,wa T hd.wo ⟨_,rfl,⟨_,xb.of hd.VJ⟩,fun D hD=>Vp (xs:=(List.range M.k).map fun i=>V.ref (A.ad (.of i))) (List.range M.k) (fun i=>some (.int (v3 (M.jr i) b))) hD (xb.of hd.VJ) (by simp) (by simpa using hz.k') ?_ ?_⟩⟩
  ·intro i x y H2 N Y hx hy s2 _ hY;obtain ⟨rfl,hi⟩:=VaK hx hy;have hd2:=hd.same s2;exact yes ⟨_,rfl,_,_,_,rfl,hd2.of hi,rfl,_,rfl,A,M,y,b,rfl,hd2,hi,by have:=hz.jr _ hi;omega,hb,ha y hi,fun H3 s3=>hY _ rfl _ s3⟩
  ·intro H2 s2 Uv;rw [filterMap_some] at Uv;exact ⟨D,(List.range M.k).map fun i=>v3 (M.jr i) b,rfl,xb.of (by rw [Uv,List.map_map];rfl),k _ s2⟩
def WaM(t:Yd):Sp:=fun vs H Q _=>∃(A:Ad) (M:Mw),vs= [.ref (A.ad .wo)]∧Holds t.c H A M∧Sz M 3∧(∀i,i<M.k→∀a∈Yv (M.jr i),a.kind=1∨a.kind=2∨a.kind=3)∧vc t.c ZU H A M (M,zan M) Q
theorem XaM(T:Txt K mg t):wb P w K mg base ke 4 t.vX t.kX ["world"] (WaM t):=by
  refine T.Jab.kf Z5 fun vs H Q E h=>?_;obtain ⟨A,M,rfl,hd,hz,ha,k⟩:=h;refine ⟨rfl,fun _ _ _ _ hr=>⟨_,(va (Ja (Qc (za (qf (pv 0) T.Wc T.yQ (YQ T) hr.m T.kW .nil Ka) (za (jd (vT rfl) (by rfl) T.zaa PyProof.Rows.boot_sum (za (zY (tt:=jaj) (te:=(Qax t.c.office "brought" (jP t) [] E0 (Km 1) vae)) rfl Z5.nd (Xn (ya (pv 0) rfl)) (Wh (own:= [("office",1)]) rfl) (fun _ _ _ _ _=>jg (i:=1) Z5.nd rfl (Or.inl rfl)) (fun _ _ _ _ _=>ZN) (fun _ _ _ _ _=>(qf (pv 1) T.Zb T.VQ (ZQ T) hr.m T.XU .nil Ka))) Qa)) (za (ja (UK T) hr.m rfl T.zR T.jv.kp T.zS .nil Ka (za (pv 0) (za (xa (v:= .str "issuing") rfl T.x5 ⟨_,rfl⟩) Qa))) (za (WX xH (ja (UK T) hr.m rfl T.zR T.jv.kp T.zS .nil Ka (za (pv 0) (za (xa (v:= .str "paying") rfl T.Yas ⟨_,rfl⟩) Qa)))) (za (WX xH (ja (UK T) hr.m rfl T.zR T.jv.kp T.zS .nil Ka (za (pv 0) (za (xa (v:= .str "refunding") rfl T.Kam ⟨_,rfl⟩) Qa)))) (za (jd Jc (by rfl) T.Uu PySem.boot_len (za (ya (pv 0) rfl) Qa)) Qa))))))))),?_⟩⟩;refine ⟨_,rfl,_,_,_,rfl,hd.wo,rfl,A,M,rfl,hd,hz.k',fun H1 s1=>?_⟩;have Kd:=hd.same s1;refine ⟨_,rfl,wa T Kd.wo ⟨_,rfl,⟨_,xb.of Kd.VJ⟩,fun D hD=>Vp (xs:=(List.range M.k).map fun i=>V.ref (A.ad (.of i))) (List.range M.k) (fun i=>some (.int (YD (M.jr i)))) hD (xb.of Kd.VJ) (by simp) (by simpa using hz.k') ?_ ?_⟩⟩
  ·intro i x y H2 N Y hx hy s2 _ hY;obtain ⟨rfl,hi⟩:=VaK hx hy;have hd2:=Kd.same s2;exact yes ⟨_,rfl,_,_,_,rfl,hd2.of hi,rfl,A,M,y,rfl,hd2,hi,by have:=hz.jr _ hi;omega,fun H3 s3=>hY _ rfl _ s3⟩
  ·intro H2 s2 Uv;rw [filterMap_some] at Uv;refine ⟨D,(List.range M.k).map fun i=>YD (M.jr i),rfl,xb.of (by rw [Uv,List.map_map];rfl),?_⟩;have hd2:=Kd.same s2;refine ⟨_,rfl,A,M,1,rfl,hd2,hz, .inl rfl,ha,fun H3 s3=>?_⟩;have Jk:=hd2.same s3;refine ⟨_,rfl,A,M,2,rfl,Jk,hz, .inr (.inl rfl),ha,fun H4 s4=>⟨_,rfl,?_⟩⟩;have W2:=Jk.same s4;refine ⟨_,rfl,A,M,3,rfl,W2,hz, .inr (.inr rfl),ha,fun H5 s5=>⟨_,rfl,?_⟩⟩;have j8:=W2.same s5;refine ⟨_,rfl,Ue T j8.wo ⟨_,_,rfl, .inl (xb.of j8.kT),qbh,fun p hp=>?_⟩⟩;have em:(((List.range M.ms.length).map fun j=>V.ref (A.ad (.ms j))).length:Int)=(M.ms.length:Int):=by rw [List.length_map,List.length_range]
   rw [em];exact k.lst (ns:=zan M) j8 (Kp.same ((((s1.trans s2).trans s3).trans s4).trans s5)) hp rfl
def Xay(t:Yd):Sp:=fun vs H Q _=>∃(A:Ad) (M:Mw) (o p:Nat),vs= [.ref (A.ad .wo), .int (o:Int), .int (p:Int)]∧Holds t.c H A M∧o<M.k∧Sz M 3∧(∀n∈M.ub o,∀x,M.ord o n=some x→x.closed=true→(Xc x).isSome=true)∧∀H',Ua H H'→Q (.int (yk M o p)) H'
theorem uax(T:Txt K mg t):wb P w K mg base ke 2 t.qK t.YI ["world","o","p"] (Xay t):=by
  refine T.yY.kf Jv fun vs H Q E h=>?_;obtain ⟨A,M,o,p,rfl,hd,hi,hz,K8,k⟩:=h;refine ⟨rfl,fun _ _ _ _ hr=>⟨_,(Za (JaE (kS (i:=3) (tt:=(tB (Z8 K (Km 4) "closed"))) (te:=(Km 4)) rfl Jv.nd rfl rfl (V3 rfl rfl rfl rfl) (jaX (ya (Vb Xa (ya (pv 0) rfl) (pv 1) (fun _ _=>rfl)) rfl)) (Wh (own:= [("order",4)]) rfl) (fun _ _ _ _ _=>jg (i:=4) Jv.nd rfl (Or.inl rfl)) (fun _ _ _ _ _=>(yH (Qh (ya (pv 4) rfl)))) (fun _ _ _ _ _=>(pv 4)))) (va (Ja (jd (vT rfl) (by rfl) T.zaa PyProof.Rows.boot_sum (za (zY (tt:=(Yaf (tOp rEq (Z8 K (Qax t.c.order "standing" (KQ t) [] E0 (Km 4) vae) "holder") (Km 2)))) (te:=(Z8 K (Km 4) "coins")) rfl Jv.nd (Xn (pv 3)) (Wh (own:= [("order",4)]) rfl) (fun _ _ _ _ _=>jg (i:=4) Jv.nd rfl (Or.inl rfl)) (fun _ _ _ _ _=>(yH (Kb Vf (ya (qf (pv 4) T.ue T.We (we T) hr.m T.Kf .nil Ka) rfl) (pv 2) (Zc _)))) (fun _ _ _ _ _=>(ya (pv 4) rfl))) Qa))))),?_⟩⟩;have xN:=hd.od hi;have z2:=hz.ub _ hi;have KD:∀{b:Addr} {C dx:Addr} {fs:List (Str×V)} {od:Obj},H b=some (.ins C dx fs)→upd H (A.ad (.od o)) (.frz od (.dK ((M.ub o).map fun n=>(Sum.inl n,V.ref (A.ad (.ord o n)))))) b=some (.ins C dx fs):=fun {b C dx fs od} e=>by
   rw [Va (fun z=>by rw [z,xN] at e;cases e)];exact e
  have hnl:∀{b:Addr} {xs:List V} {od:Obj},H b=some (.lst xs)→upd H (A.ad (.od o)) (.frz od (.dK ((M.ub o).map fun n=>(Sum.inl n,V.ref (A.ad (.ord o n)))))) b=some (.lst xs):=fun {b xs od} e=>by
   rw [Va (fun z=>by rw [z,xN] at e;cases e)];exact e
  refine ⟨A.ad (.od o),_,xN,trivial,fun od=>⟨_,rfl,wa T (KD hd.wo) ⟨_,rfl,_,_,_,_,rfl,rfl,xb.of (hnl hd.VJ),at_of (j:=o) rfl (by rw [List.getElem?_map,List.getElem?_range hi];rfl),wc T (KD (hd.of hi)) ⟨_,_,_,rfl,Ya,fun D hD=>WaN (xs:=(M.ub o).map fun n=>V.ref (A.ad (.ord o n))) (M.ub o) (fun n=>if Qr M o n=true then some (V.ref (A.ad (.ord o n))) else none) hD (fun j H2 s2 hj=>⟨s2 _ _ Ya,by rw [List.length_map] at hj⊢;exact hj⟩) (Qbr (M.ub o) _ _) (fun H2 s2=>⟨s2 _ _ Ya,by rw [List.length_map,List.length_map];exact Nat.le_refl _⟩) (by rw [List.length_map]) (by omega) ?_ ?_⟩⟩⟩⟩
  ·intro j x y H2 N Y hx hy s2 hN hY;have hx:x=V.ref (A.ad (.ord o y)):=by
    rw [List.getElem?_map,hy] at hx;exact (Option.some.inj hx).symm
   subst hx;obtain ⟨x,ho,_⟩:=Ur hd hi (List.mem_of_getElem? hy);have f:=s2 _ _ (KD (od:=od) (hd.ord hi ho));have ec:Qr M o y=x.closed:=by unfold Qr;rw [ho];rfl
   exact ⟨_,rfl,Ql T f ⟨_,rfl,ifb (fun e=>⟨_,rfl,hY _ (if_pos (by rw [ec];exact e)) _ (Ua.refl _)⟩) fun e=>hN (if_neg (by rw [ec,e];decide)) _ (Ua.refl _)⟩⟩
  ·intro H2 s2 Uv;obtain ⟨u1,u2⟩:=unlock xN s2;rw [vO] at Uv;have dne:D≠A.ad (.od o):=fun z=>by rw [z,Ya] at hD;cases hD
   have Jk:=hd.same u2;have hD4:(upd H2 (A.ad (.od o)) (.dK ((M.ub o).map fun n=>(Sum.inl n,V.ref (A.ad (.ord o n)))))) D=some (.lst (((M.ub o).filter (Qr M o)).map fun n=>V.ref (A.ad (.ord o n)))):=by rw [Va dne];exact Uv
   refine ⟨u1,_,rfl,_,rfl,⟨_,xb.of hD4⟩,fun D5 hD5=>Vp (xs:=((M.ub o).filter (Qr M o)).map fun n=>V.ref (A.ad (.ord o n))) ((M.ub o).filter (Qr M o)) (fun n=>(zax M o p n).map V.int) hD5 (xb.of hD4) (by rw [List.length_map]) (Nat.lt_of_le_of_lt (List.length_filter_le _ _) (by omega)) ?_ ?_⟩
   ·intro j x y H5 N Y hx hy s5 hN hY;have hx:x=V.ref (A.ad (.ord o y)):=by
     rw [List.getElem?_map,hy] at hx;exact (Option.some.inj hx).symm
    subst hx;obtain ⟨hy1,hy2⟩:=List.mem_filter.mp (List.mem_of_getElem? hy);obtain ⟨x,ho,_⟩:=Ur hd hi hy1;have j8:=Jk.same s5;have f:=j8.ord hi ho;have ec:x.closed=true:=by
     have:Qr M o y=x.closed:=by unfold Qr;rw [ho];rfl
     rw [←this];exact hy2
    obtain ⟨g,hs⟩:=Option.isSome_iff_exists.mp (K8 y hy1 x ho ec);obtain ⟨ys,hg,hb⟩:=Yr hs;have f2:=j8.gr (k:=ys.length) (g:=g) hi ho (by rw [hg];simp);have eh:(zax M o p y).map V.int=if g.jf=(p:Int) then some (V.int x.vb) else none:=by
     unfold zax;rw [ho];show (if (Xc x).map (·.jf)=some (p:Int) then some x.vb else none).map V.int=_;rw [hs];show (if some g.jf=some (p:Int) then some x.vb else none).map V.int=_;by_cases z:g.jf=(p:Int)
     ·rw [if_pos z,if_pos (by rw [z])];rfl
     ·rw [if_neg z,if_neg (fun w=>z (Option.some.inj w))];rfl
    refine ⟨_,rfl,_,_,_,rfl,f,rfl,A,M,o,y,x,rfl,j8,hi,ho,?_⟩;rw [yj hs hg];exact wk T f2 ⟨_,rfl,rfl,_,rfl,yg (fun h=>⟨_,rfl,xj T f (hY _ (by rw [eh,if_pos (V.int.inj h)]) _ (Ua.refl _))⟩) fun h=>hN (by rw [eh,if_neg (fun z=>h (by rw [z]))]) _ (Ua.refl _)⟩
   ·intro H5 s5 hD6;rw [Qas] at hD6;refine ⟨D5,_,rfl,xb.of hD6,?_⟩;rw [XaH];exact k _ (u2.trans s5)
def jav(t:Yd):Sp:=fun vs H Q _=>∃(A:Ad) (M:Mw) (o p:Nat),vs= [.ref (A.ad .wo), .int (o:Int), .int (p:Int)]∧Holds t.c H A M∧p<M.k∧Sz M 3∧∀H',Ua H H'→Q (.int (Jl M o p)) H'
theorem Kau(T:Txt K mg t):wb P w K mg base ke 2 t.JE t.wF ["world","o","p"] (jav t):=by
  refine T.yR.kf xr fun vs H Q E h=>?_;obtain ⟨A,M,o,p,rfl,hd,hi,hz,k⟩:=h;refine ⟨rfl,fun _ _ _ _ hr=>⟨_,(Za (JaE (kS (i:=3) (tt:=(tB (Z8 K (Km 4) "paid"))) (te:=(Km 4)) rfl xr.nd rfl rfl (V3 rfl rfl rfl rfl) (vat (ya (Vb Xa (ya (pv 0) rfl) (pv 2) (fun _ _=>rfl)) rfl)) (Wh (own:= [("claim",4)]) rfl) (fun _ _ _ _ _=>jg (i:=4) xr.nd rfl (Or.inl rfl)) (fun _ _ _ _ _=>(yH (Qh (ya (pv 4) rfl)))) (fun _ _ _ _ _=>(pv 4)))) (va (Ja (jd (vT rfl) (by rfl) T.zaa PyProof.Rows.boot_sum (za (zY (tt:=(Yaf (tOp rEq (uaP (Jas t) [] E0 (Xam (Z8 K (Km 4) "order") vae)) (Km 1)))) (te:=(Z8 K (Km 4) "coins")) rfl xr.nd (Xn (pv 3)) (Wh (own:= [("claim",4)]) rfl) (fun _ _ _ _ _=>jg (i:=4) xr.nd rfl (Or.inl rfl)) (fun _ _ _ _ _=>(yH (Kb Vf (ja (Vr T) hr.m rfl T.Kw T.Uo.kp T.Yx .nil Ka (za (ya (pv 4) rfl) Qa)) (pv 1) (Zc _)))) (fun _ _ _ _ _=>(ya (pv 4) rfl))) Qa))))),?_⟩⟩;have xN:=hd.cd hi;have z2:=hz.Kc _ hi;have KD:∀{b:Addr} {C dx:Addr} {fs:List (Str×V)} {od:Obj},H b=some (.ins C dx fs)→upd H (A.ad (.cd p)) (.frz od (.dT ((M.Kc p).map fun k=>([Sum.inl k.1,Sum.inl k.2],V.ref (A.ad (.cl p k.1 k.2)))))) b=some (.ins C dx fs):=fun {b C dx fs od} e=>by
   rw [Va (fun z=>by rw [z,xN] at e;cases e)];exact e
  have hnl:∀{b:Addr} {xs:List V} {od:Obj},H b=some (.lst xs)→upd H (A.ad (.cd p)) (.frz od (.dT ((M.Kc p).map fun k=>([Sum.inl k.1,Sum.inl k.2],V.ref (A.ad (.cl p k.1 k.2)))))) b=some (.lst xs):=fun {b xs od} e=>by
   rw [Va (fun z=>by rw [z,xN] at e;cases e)];exact e
  refine ⟨A.ad (.cd p),_,xN,trivial,fun od=>⟨_,rfl,wa T (KD hd.wo) ⟨_,rfl,_,_,_,_,rfl,rfl,xb.of (hnl hd.VJ),at_of (j:=p) rfl (by rw [List.getElem?_map,List.getElem?_range hi];rfl),Kt T (KD (hd.of hi)) ⟨_,_,_,rfl,Ya,fun D hD=>WaN (xs:=(M.Kc p).map fun k=>V.ref (A.ad (.cl p k.1 k.2))) (M.Kc p) (fun k=>if Xae M p k=true then some (V.ref (A.ad (.cl p k.1 k.2))) else none) hD (fun j H2 s2 hj=>⟨s2 _ _ Ya,by rw [List.length_map] at hj⊢;exact hj⟩) (qbl (M.Kc p) _ _) (fun H2 s2=>⟨s2 _ _ Ya,by rw [List.length_map,List.length_map];exact Nat.le_refl _⟩) (by rw [List.length_map]) (by omega) ?_ ?_⟩⟩⟩⟩
  ·intro j x y H2 N Y hx hy s2 hN hY;have hx:x=V.ref (A.ad (.cl p y.1 y.2)):=by
    rw [List.getElem?_map,hy] at hx;exact (Option.some.inj hx).symm
   subst hx;obtain ⟨c0,hc0,ec⟩:=yK hd hi (n:=y.1) (g:=y.2) (List.mem_of_getElem? hy);have f:=s2 _ _ (KD (od:=od) (hd.cl hi hc0));have ep:Xae M p y=c0.paid:=by unfold Xae;rw [ec]
   exact ⟨_,rfl,yp T f ⟨_,rfl,ifb (fun e=>⟨_,rfl,hY _ (if_pos (by rw [ep];exact e)) _ (Ua.refl _)⟩) fun e=>hN (if_neg (by rw [ep,e];decide)) _ (Ua.refl _)⟩⟩
  ·intro H2 s2 Uv;obtain ⟨u1,u2⟩:=unlock xN s2;rw [vO] at Uv;have dne:D≠A.ad (.cd p):=fun z=>by rw [z,Ya] at hD;cases hD
   have Jk:=hd.same u2;have hD4:(upd H2 (A.ad (.cd p)) (.dT ((M.Kc p).map fun k=>([Sum.inl k.1,Sum.inl k.2],V.ref (A.ad (.cl p k.1 k.2)))))) D=some (.lst (((M.Kc p).filter (Xae M p)).map fun k=>V.ref (A.ad (.cl p k.1 k.2)))):=by rw [Va dne];exact Uv
   refine ⟨u1,_,rfl,_,rfl,⟨_,xb.of hD4⟩,fun D5 hD5=>Vp (xs:=((M.Kc p).filter (Xae M p)).map fun k=>V.ref (A.ad (.cl p k.1 k.2))) ((M.Kc p).filter (Xae M p)) (fun k=>(JaH M o p k).map V.int) hD5 (xb.of hD4) (by rw [List.length_map]) (Nat.lt_of_le_of_lt (List.length_filter_le _ _) (by omega)) ?_ ?_⟩
   ·intro j x y H5 N Y hx hy s5 hN hY;have hx:x=V.ref (A.ad (.cl p y.1 y.2)):=by
     rw [List.getElem?_map,hy] at hx;exact (Option.some.inj hx).symm
    subst hx;obtain ⟨hy1,hy2⟩:=List.mem_filter.mp (List.mem_of_getElem? hy);obtain ⟨c0,hc0,ec⟩:=yK hd hi (n:=y.1) (g:=y.2) hy1;have j8:=Jk.same s5;have f:=j8.cl hi hc0;have eh:(JaH M o p y).map V.int=if Jr y.1=(o:Int) then some (V.int c0.vb) else none:=by
     unfold JaH;rw [ec];split<;>rfl
    exact ⟨_,rfl,Y8 T f ⟨y.1,rfl,_,rfl,rfl,_,rfl,yg (fun h=>⟨_,rfl,Kr T f (hY _ (by rw [eh,if_pos (V.int.inj h)]) _ (Ua.refl _))⟩) fun h=>hN (by rw [eh,if_neg (fun z=>h (by rw [z]))]) _ (Ua.refl _)⟩⟩
   ·intro H5 s5 hD6;rw [Qas] at hD6;refine ⟨D5,_,rfl,xb.of hD6,?_⟩;rw [Uax];exact k _ (u2.trans s5)
end Mo
namespace Mo
open PySem PySem.Spec PyProof.Rows L2
variable{P:Program}{w:World}{K:PySem.W.Frag}{mg:Str→Option Value}{base:Heap}{t:Yd}
theorem yaU{M:Mw}{A:Ad}:(((List.range M.k).map fun i=>V.ref (A.ad (.of i))).length:Int)=(M.k:Int):=by rw [List.length_map,List.length_range]
theorem Xas(M:Mw)(o:Nat):(JU M o).length=2*M.k:=by
 unfold JU;have:∀l:List Nat,(l.flatMap fun p=> [yk M o p,Jl M o p]).length=2*l.length:=by
  intro l;induction l with
  | nil=>rfl
  | cons a r ih=>rw [List.flatMap_cons,List.length_append,ih];simp;omega
 rw [this,List.length_range]
def xM(M:Mw)(o i:Nat):List Int:=(List.range i).flatMap fun p=> [yk M o p,Jl M o p]
theorem uaf(M:Mw)(o i:Nat):xM M o (i+1)=xM M o i++ [yk M o i,Jl M o i]:=by
 unfold xM;rw [List.range_succ,List.flatMap_append];rfl
theorem Jam(M:Mw)(o:Nat):∀i,(xM M o i).length=2*i
 | 0=>rfl
 | i+1=>by rw [uaf,List.length_append,Jam M o i];simp;omega
def uas(t:Yd):Sp:=fun vs H Q _=>∃(A:Ad) (M:Mw) (o:Nat),vs= [.ref (A.ad .wo), .int (o:Int)]∧Holds t.c H A M∧o<M.k∧Sz M 3∧(∀n∈M.ub o,∀x,M.ord o n=some x→x.closed=true→(Xc x).isSome=true)∧∀H' p,Ua H H'→H p=none→H' p=some (.lst ((JU M o).map V.int))→Q (.ref p) H'
theorem qaR(T:Txt K mg t):wb P w K mg base ke 3 t.W7 t.j7 ["world","o"] (uas t):=by
  refine T.vai.kf yab fun vs H Q E h=>?_;obtain ⟨A,M,o,rfl,hd,hi,hz,K8,k⟩:=h;refine ⟨rfl,fun _ _ _ _ hr=>⟨_,(Za (qb (i:=2) yab.nd rfl (Or.inl rfl) (Qc Qa)) (Za (ZaA PassesOwn.never rfl (Vai rfl T.UaE (za (jd Jc (by rfl) T.Uu PySem.boot_len (za (ya (pv 0) rfl) Qa)) Qa)) (jg (i:=3) yab.nd rfl (Or.inl rfl)) (Za (Zd (wy PySem.F.plainAttrs_list PySem.F.slot_list_append PySem.F.type_list_append vh (pv 2) (za (ja (uax T) hr.m rfl T.XaF T.yY.kp T.ZaI .nil Ka (za (pv 0) (za (pv 1) (za (pv 3) Qa)))) Qa))) (va (Zd (wy PySem.F.plainAttrs_list PySem.F.slot_list_append PySem.F.type_list_append vh (pv 2) (za (ja (Kau T) hr.m rfl T.Xax T.yR.kp T.xay .nil Ka (za (pv 0) (za (pv 1) (za (pv 3) Qa)))) Qa)))))) (va (Ja (pv 2))))),?_⟩⟩;have k5:=hz.k;refine ⟨Nat.zero_le _,fun L hL=>?_⟩;have s1:=Ua.new (o:= .lst []) hL;have Kd:=hd.same s1;refine ⟨_,rfl,wa T Kd.wo ⟨_,_,rfl, .inl (xb.of Kd.VJ),_,rfl,?_⟩⟩;rw [yaU];refine ⟨by omega,by omega,?_⟩;rw [Int.toNat_natCast];refine UaY (fun i σ H5=>∃z,σ= [some (.ref (A.ad .wo)),some (.int (o:Int)),some (.ref L),z]∧Ua H H5∧H5 L=some (.lst ((xM M o i).map V.int))) ⟨none,rfl,s1,Ya⟩ ?_ ?_
  ·rintro i σ H5 hik ⟨z,rfl,s5,hL5⟩
   have j8:=hd.same s5;have ei:((0:Int)+(i:Int))=(i:Int):=by omega
   rw [ei];have z1:(xM M o i).length=2*i:=Jam M o i;refine ⟨_,rfl, .inl ⟨rfl,_,xb.of hL5⟩,_,rfl,_,rfl,_,rfl,A,M,o,i,rfl,j8,hi,hz,K8,fun H6 s6=>?_⟩;have hL6:=s6 _ _ hL5;have sA:Ua H (upd H6 L (.lst ((xM M o i).map V.int++ [.int (yk M o i)]))):=fun b u e=>by rw [Va (Qb e hL)];exact s6 _ _ (s5 _ _ e)
   have hd7:=hd.same sA;refine ⟨_,_,_,rfl,rfl,hL6,by rw [List.length_map,z1,sizeLine_eq];omega,⟨_,rfl, .inl ⟨rfl,_,xb.of Ya⟩,_,rfl,_,rfl,_,rfl,A,M,o,i,rfl,hd7,hik,hz,fun H8 s8=>?_⟩⟩;have hL8:=s8 _ _ (Ya (H:=H6) (a:=L) (o:= .lst ((xM M o i).map V.int++ [.int (yk M o i)])));refine ⟨_,_,_,rfl,rfl,hL8,by rw [List.length_append,List.length_map,z1,sizeLine_eq];simp;omega,⟨_,rfl,fun b u e=>?_,?_⟩⟩
   ·rw [Va (Qb e hL)];exact s8 _ _ (sA _ _ e)
   ·rw [Ya,uaf];simp
  ·rintro σ H5 ⟨z,rfl,s5,hL5⟩
   exact ⟨_,rfl,k H5 L s5 hL hL5⟩
theorem yS{n:Int}{rows:List (List Int)}{b:Nat}(h:∀r∈rows,r.length≤b):(Ye n rows).length≤1+(b+1)*rows.length:=by
 unfold Ye;rw [List.length_cons];have h1:rows.flatten.length≤b*rows.length:=by
  induction rows with
  | nil=>exact Nat.zero_le _
  | cons a r ih=>
   rw [List.flatten_cons,List.length_append,List.length_cons,Nat.mul_add];have:=ih fun r hr=>h r (List.mem_cons_of_mem _ hr);have:=h a List.mem_cons_self;omega
 have h2:(rows.flatMap fun r=>(r.length:Int)::r).length≤(b+1)*rows.length:=by
  clear h1;induction rows with
  | nil=>exact Nat.zero_le _
  | cons a r ih=>
   rw [List.flatMap_cons,List.length_append,List.length_cons,List.length_cons,Nat.mul_add];have:=ih fun r hr=>h r (List.mem_cons_of_mem _ hr);have:=h a List.mem_cons_self;omega
 split
 ·have:(b+1)*rows.length=b*rows.length+rows.length:=by rw [Nat.add_mul,Nat.one_mul]
  omega
 ·omega
def vaT(t:Yd):Sp:=fun vs H Q _=>∃(A:Ad) (M:Mw),vs= [.ref (A.ad .wo)]∧Holds t.c H A M∧Sz M 3∧(∀o,o<M.k→∀n∈M.ub o,∀x,M.ord o n=some x→x.closed=true→(Xc x).isSome=true)∧vc t.c ZU H A M (M,waD M) Q
theorem QaS(T:Txt K mg t):wb P w K mg base ke 4 t.v7 t.w6 ["world"] (vaT t):=by
  refine T.Jai.kf Kab fun vs H Q E h=>?_;obtain ⟨A,M,rfl,hd,hz,K8,k⟩:=h;refine ⟨rfl,fun _ _ _ _ hr=>⟨_,(Za (kS (i:=1) (tt:=jaj) (te:=(uaP (uas t) [] E0 (Xam (Km 0) (Xam (Km 2) vae)))) rfl Kab.nd rfl rfl (V3 rfl rfl rfl rfl) (Vai rfl T.UaE (za (jd Jc (by rfl) T.Uu PySem.boot_len (za (ya (pv 0) rfl) Qa)) Qa)) (Wh (own:= [("o",2)]) rfl) (fun _ _ _ _ _=>jg (i:=2) Kab.nd rfl (Or.inl rfl)) (fun _ _ _ _ _=>ZN) (fun _ _ _ _ _=>(ja (qaR T) hr.m rfl T.YaZ T.vai.kp T.kaX .nil Ka (za (pv 0) (za (pv 2) Qa))))) (va (Ja (ja (xI T) hr.m rfl T.ZP T.ux.kp T.ZO .nil Ka (za (jd Jc (by rfl) T.Uu PySem.boot_len (za (pv 1) Qa)) (za (pv 1) Qa)))))),?_⟩⟩;have k5:=hz.k;refine ⟨_,rfl,wa T hd.wo ⟨_,_,rfl, .inl (xb.of hd.VJ),_,rfl,?_⟩⟩;rw [yaU];refine ⟨by omega,by omega,?_⟩;rw [Int.toNat_natCast];refine fun D hD=>Wa1 (xs:=(List.range M.k).map fun i:Nat=>V.int (0+i)) (List.range M.k) (JU M) hD (fun i H2 _ hi=>by rw [List.length_map,List.length_range] at hi;exact hi) (fun i H2 x H3 XF _ y=>zbg i H2 x H3 (by rw [List.length_map,List.length_range] at XF;exact XF) y) (fun H2 _=>by rw [List.length_map,List.length_range];exact Nat.le_refl _) (by simp) (by rw [List.length_range];exact hz.k') ?_ ?_
  ·intro i x y H2 Y hx hy s2 hY;obtain ⟨rfl,hi⟩:=Vao hx hy;have ei:((0:Int)+(y:Int))=(y:Int):=by omega
   rw [ei];exact ⟨_,rfl,_,rfl,A,M,y,rfl,hd.same s2,hi,hz,K8 y hi,fun H4 p s4 np hp=>hY H4 p s4 np hp⟩
  ·intro H2 rs s2 Uv er ra;have lr:rs.length=M.k:=by
    have:=congrArg List.length er;rw [List.length_map,List.length_map,List.length_range] at this;exact this
   refine ⟨_,rfl,_,_,rfl, .inl (xb.of Uv),_,rfl,_,D,rs,rfl,Uv,ra,?_,fun H5 p s5 np hp=>?_⟩
   ·rw [er];have:=yS (n:=(((rs.map fun r=>V.ref r.1).length:Nat):Int)) (rows:=(List.range M.k).map (JU M)) (b:=10) fun r hr=>by
     obtain ⟨i,_,rfl⟩:=List.mem_map.mp hr;rw [Xas];omega
    have lm:((List.range M.k).map (JU M)).length=M.k:=by simp
    rw [lm] at this;rw [sizeLine_eq];omega
   ·rw [List.length_map,lr,er] at hp;exact k.read hd (s2.trans s5) (s2.free np) hp
def QaG(t:Yd)(P:Addr):Sp:=fun vs H Q _=>∃(A:Ad) (M:Mw) (p n:Int),vs= [.ref (A.ad .wo), .int p, .int n]∧Holds t.c H A M∧(p.toNat<M.k→(M.Kc p.toNat).length<sizeLine∧(qd M p.toNat n).length*7+7<sizeLine)∧Z9 P H∧(p.toNat<M.k→((qd M p.toNat n).map (·.1)).Pairwise (· < ·))∧vc t.c (fun b=>b=P) H A M (M,yT M p n) (Kq P Q)
theorem KaH{kc kp:Addr}(T:Txt K mg t)(B:Lb mg base t kc kp):wb P w K mg base ke 3 t.zO t.qO ["world","p","n"] (QaG t kp):=by
  refine T.v5.kf zK fun vs H Q E h=>?_;obtain ⟨A,M,p,n,rfl,hd,hz,tb,hs,k⟩:=h;refine ⟨rfl,fun _ _ _ _ hr=>⟨_,(Za (qb (i:=3) zK.nd rfl (Or.inl rfl) (Ud (ja (ql T) hr.m rfl T.vn T.Yj.kp T.Vn .nil Ka (za (pv 0) (za (pv 1) Qa))) (qp (ja (Jj T) hr.m rfl T.Zl T.Zi.kp T.Yl .nil Ka (za (pv 2) Qa))))) (Za (Jb (Vl (pv 3) (fun _=>rfl)) (va (Ja (Qc (za (pv 3) Qa)))) zb) (Za (kS (i:=4) (tt:=jaj) (te:=(uaP (Zaf t) [] E0 (Xam (Km 5) vae))) rfl zK.nd rfl rfl (V3 rfl rfl rfl rfl) (Xn (Yc (Vb Xa (ya (pv 0) rfl) (pv 1) (fun _ _=>rfl)) T.Zb T.xB (qC T B) hr.m T.qD .nil Ka (za (pv 2) Qa))) (Wh (own:= [("claim",5)]) rfl) (fun _ _ _ _ _=>jg (i:=5) zK.nd rfl (Or.inl rfl)) (fun _ _ _ _ _=>ZN) (fun _ _ _ _ _=>(ja (KaG T) hr.m rfl T.kaN T.K4.kp T.KaL .nil Ka (za (pv 5) Qa)))) (va (Ja (ja (xI T) hr.m rfl T.ZP T.ux.kp T.ZO .nil Ka (za (jd Jc (by rfl) T.Uu PySem.boot_len (za (pv 4) Qa)) (za (pv 4) Qa)))))))),?_⟩⟩;obtain ⟨pt,hpt⟩:=id tb.at_
  unfold yT at k;dsimp only at k;refine ⟨_,rfl,_,rfl,A,M,p,rfl,hd,_,rfl,VC (fun h1=>⟨_,rfl,n,rfl,?_⟩) fun h1=>⟨_,rfl,_,rfl,qm (fun _=>⟨_,rfl,one_le,fun q hp=>?_⟩) fun z=>absurd z h1⟩⟩
  ·refine ⟨_,rfl,_,rfl,qm (fun h2=>⟨_,rfl,one_le,fun p hp=>?_⟩) fun h2=>?_⟩
   ·rw [k9 h1,if_neg h2] at k;exact k.lst (ns:= [outI n 0 100000]) hd (Kp.same (Ua.refl _)) hp rfl (Tb.same tb (Ua.new hp))
   ·rw [k9 h1,if_pos h2] at k;obtain ⟨h0,hi⟩:=JS h1;obtain ⟨z1,z2⟩:=hz hi;refine ⟨_,rfl,wa T hd.wo ⟨_,rfl,hd.ix h0 hi ⟨_,_,_,rfl,hd.of hi,rfl,_,rfl,A,M,p.toNat,n,rfl,hd,hi,z1,tb,hs hi,fun H1 D1 J8 sb nD1 hD1=>?_⟩⟩⟩;have Kd:=hd.sb hpt sb;refine ⟨_,rfl,⟨_,xb.of hD1⟩,fun D hD=>Wa1 (xs:=(qd M p.toNat n).map fun q=>V.ref (A.ad (.cl p.toNat n q.1))) (qd M p.toNat n) kK hD (Vbe (xb.of hD1)) (kbe (xb.of hD1)) (Qbh (xb.of hD1)) (by rw [List.length_map]) (Nat.lt_of_le_of_lt zaj z1) ?_ ?_⟩
    ·intro i x y H2 Y hx hy s2 hY;have hx:x=V.ref (A.ad (.cl p.toNat n y.1)):=by
      rw [List.getElem?_map,hy] at hx;exact (Option.some.inj hx).symm
     subst hx;exact ⟨_,rfl,_,_,n,y.1,y.2,rfl,(Kd.same s2).cl hi (Jae hd hi (List.mem_of_getElem? hy)),fun H4 q s4 nq hq=>hY H4 q s4 nq hq⟩
    ·intro H2 rs s2 Uv er ra;have lr:rs.length=(qd M p.toNat n).length:=by
      have:=congrArg List.length er;rw [List.length_map,List.length_map] at this;exact this
     refine ⟨_,rfl,_,_,rfl, .inl (xb.of Uv),_,rfl,_,D,rs,rfl,Uv,ra,?_,fun H5 q s5 nq hq=>?_⟩
     ·rw [er];have:=yS (n:=(((rs.map fun r=>V.ref r.1).length:Nat):Int)) (rows:=(qd M p.toNat n).map kK) (b:=5) fun r hr=>by
       obtain ⟨i,_,rfl⟩:=List.mem_map.mp hr;exact Nat.le_refl _
      have lm:((qd M p.toNat n).map kK).length=(qd M p.toNat n).length:=by simp
      rw [lm] at this;omega
     ·rw [List.length_map,lr,er] at hq;have sb2:JC kp H H5:=fun b o nb e=>s5 _ _ (s2 _ _ (sb b o nb e));have tb5:=Tb.same (Tb.same J8 s2) s5;have nH:H q=none:=(Kp.sb (c:=t.c) (A:=A) (M:=M) J8 sb).there q (s2.free nq);exact k H5 A q (hd.sb hpt sb2) (Kp.sb tb5 sb2) nH hq (hd.own nH) tb5
  ·rw [ja0 h1,if_neg h1] at k;exact k.lst (ns:= [jh M p]) hd (Kp.same (Ua.refl _)) hp rfl (Tb.same tb (Ua.new hp))
end Mo
namespace Mo
open PySem PySem.Spec PyProof.Rows L2
section
variable{M M' M2:Mw}{a b a' b':Nat}
structure Gw(M M':Mw)(a b:Nat):Prop where
 k:M'.k=M.k
 ms:M'.ms.length≤M.ms.length+a
 ub:∀i,(M'.ub i).length≤(M.ub i).length+a
 jr:∀i,(M'.jr i).length≤(M.jr i).length+b
 Kc:∀i,(M'.Kc i).length≤(M.Kc i).length+b
 gs:∀i n o',M'.ord i n=some o'→o'.gs.length≤a∨∃o,M.ord i n=some o∧o'.gs.length≤o.gs.length+a
theorem Gw.refl(M:Mw):Gw M M 0 0:=⟨rfl,Nat.le_refl _,fun _=>Nat.le_refl _,fun _=>Nat.le_refl _,fun _=>Nat.le_refl _,fun _ _ o e=> .inr ⟨o,e,Nat.le_refl _⟩⟩
theorem Gw.trans(x:Gw M M' a b)(y:Gw M' M2 a' b'):Gw M M2 (a+a') (b+b'):=by
 refine ⟨y.k.trans x.k,by have:=x.ms;have:=y.ms;omega,fun i=>by have:=x.ub i;have:=y.ub i;omega,fun i=>by have:=x.jr i;have:=y.jr i;omega,fun i=>by have:=x.Kc i;have:=y.Kc i;omega,fun i n o e=>?_⟩;rcases y.gs i n o e with h | ⟨o1,e1,l1⟩
 ·exact .inl (by omega)
 ·rcases x.gs i n o1 e1 with h | ⟨o2,e2,l2⟩
  ·exact .inl (by omega)
  ·exact .inr ⟨o2,e2,by omega⟩
theorem Gw.mono(x:Gw M M' a b)(h1:a≤a')(h2:b≤b'):Gw M M' a' b':=
 ⟨x.k,by have:=x.ms;omega,fun i=>by have:=x.ub i;omega,fun i=>by have:=x.jr i;omega,fun i=>by have:=x.Kc i;omega,fun i n o e=>by
  rcases x.gs i n o e with h | ⟨o1,e1,l1⟩
  ·exact .inl (by omega)
  ·exact .inr ⟨o1,e1,by omega⟩⟩
theorem Wam(hk:M'.k=M.k)(hm:M'.ms.length=M.ms.length)(ho:M'.ub=M.ub)(hj:M'.jr=M.jr)(hc:M'.Kc=M.Kc)(hg:M'.ord=M.ord):Gw M M' 0 0:=
 ⟨hk,Nat.le_of_eq hm,fun i=>by rw [ho];exact Nat.le_refl _,fun i=>by rw [hj];exact Nat.le_refl _,fun i=>by rw [hc];exact Nat.le_refl _,fun i n o e=> .inr ⟨o,by rw [←hg];exact e,Nat.le_refl _⟩⟩
theorem xU(i:Nat)(r:JR):Gw M (jc M i r) 0 1:=⟨rfl,Nat.le_refl _,fun _=>Nat.le_refl _,fun j=>Qae M i r j,fun _=>Nat.le_succ _,fun _ _ o e=> .inr ⟨o,e,Nat.le_refl _⟩⟩
theorem Qa2{i:Nat}{n:Int}{f:Qe→Qe}{a:Nat}(hf:∀o,(f o).gs.length≤o.gs.length+a):Gw M (Ze M i n f) a 0:=by
 refine ⟨rfl,Nat.le_add_right _ _,fun j=>Nat.le_add_right _ _,fun j=>Nat.le_refl _,fun j=>Nat.le_refl _,fun j m o' e=> .inr ?_⟩;have e:(if j=i∧m=n then (M.ord i n).map f else M.ord j m)=some o':=e;split at e
 ·rename_i z;obtain ⟨rfl,rfl⟩:=z;obtain ⟨o,ho,rfl⟩:=Option.map_eq_some_iff.mp e;exact ⟨o,ho,hf o⟩
 ·exact ⟨o',e,Nat.le_add_right _ _⟩
theorem ua0{i:Nat}{n:Int}{f:Qe→Qe}(r:JR)(hf:∀o,(f o).gs.length≤o.gs.length+0):Gw M (Ze (jc M i r) i n f) 0 1:=(xU i r).trans (Qa2 hf)
theorem vbf{i:Nat}{n:Int}{f:Qe→Qe}(r:JR)(hf:∀o,(f o).gs.length≤o.gs.length+1):Gw M (Ze (jc M i r) i n f) 1 1:=((xU i r).trans (Qa2 hf)).mono (by decide) (by decide)
theorem Qbb{i:Nat}{n g:Int}{f:Jn→Jn}:Gw M (ZG M i n g f) 0 0:=Wam rfl rfl rfl rfl rfl rfl
theorem Wa3{i:Nat}{n g:Int}:Gw M (yb M i n g) 0 1:=by
 obtain ⟨t1,t2,t3,t4,t5,t6⟩:=vaK M i n g;exact ⟨t5,by rw [t4];exact Nat.le_refl _,fun j=>by rw [t2];exact Nat.le_refl _,fun j=>by rw [t1];exact Nat.le_succ _,t6,fun j m o e=> .inr ⟨o,by rw [←t3];exact e,Nat.le_refl _⟩⟩
theorem Yar{i:Nat}{n g:Int}{f:Jn→Jn}(r:JR):Gw M (ZG (yb (jc M i r) i n g) i n g f) 0 2:=((xU i r).trans Wa3).trans Qbb
theorem war(i:Nat)(x:Xj):Gw M (Xf M i x) 0 1:=(xU (M:=M) i (.begun x)).trans (Wam (M:=jc M i (.begun x)) (M':=Xf M i x) rfl rfl rfl rfl rfl rfl)
theorem ja2{α:Type} [DecidableEq α] (ks:List α)(k:α):(j5 ks k).length≤ks.length+1:=by
 unfold j5;split
 ·exact Nat.le_succ _
 ·rw [List.length_append];exact Nat.le_refl _
theorem KaV(i:Nat)(x:Xj):Gw M (Qm M i x) 1 1:=by
 unfold Qm;split
 ·refine ⟨rfl,Nat.le_succ _,fun j=>?_,fun j=>Qae M i _ j,fun j=>Nat.le_succ _,fun j m o e=> .inr ⟨o,e,Nat.le_succ _⟩⟩;show (ye M.ub i (j5 (M.ub i) x.no) j).length≤_;by_cases z:j=i
  ·subst z;rw [Ub];exact ja2 _ _
  ·rw [Xe z];exact Nat.le_succ _
 ·split
  ·exact ((xU i _).trans Qbb).mono (by omega) (by omega)
  ·refine Gw.mono (a:=0) (b:=1) (ua0 _ fun o=>?_) (by omega) (by omega);exact Nat.le_refl _
theorem W9(i:Nat)(u:Bool):Gw M (qg M i u) 0 0:=Wam rfl rfl rfl rfl rfl rfl
theorem ZaF(i:Nat)(z:Int):Gw M (qj M i z) 0 0:=Wam rfl rfl rfl rfl rfl rfl
theorem wab(i:Nat)(x:Xj)(c:Int):Gw M (vd M i x c) 1 2:=by
 unfold vd;split
 ·exact (W9 i false).mono (by omega) (by omega)
 ·split
  ·exact ((W9 i false).trans (war i x)).mono (by omega) (by omega)
  ·split
   ·exact (((W9 i false).trans (war i x)).trans (ZaF i _)).mono (by omega) (by omega)
   ·exact (((((W9 i false).trans (war i x)).trans (ZaF i _)).trans (KaV i x)).trans (W9 i true)).mono (by omega) (by omega)
theorem QaX(i:Nat):Gw M (yd M i).1 1 1:=by
 unfold yd;split
 ·split
  ·exact ((W9 i true).trans (xU i _)).mono (by omega) (by omega)
  ·exact ((W9 i true).trans (KaV i _)).mono (by omega) (by omega)
 ·exact (W9 i true).mono (by omega) (by omega)
theorem Yac(m:Je):Gw M (zG M m) 1 0:=⟨rfl,by show (M.ms++ [m]).length≤_;rw [List.length_append];exact Nat.le_refl _,fun _=>Nat.le_succ _,fun _=>Nat.le_refl _,fun _=>Nat.le_refl _,fun _ _ o e=> .inr ⟨o,e,Nat.le_succ _⟩⟩
theorem Zbh{i:Nat}{n:Int}{o:Qe}(h:o.gs= []):Gw M (ug M i n o) 0 0:=by
 refine ⟨rfl,Nat.le_refl _,fun _=>Nat.le_refl _,fun _=>Nat.le_refl _,fun _=>Nat.le_refl _,fun j m o' e=>?_⟩;have e:(if j=i∧m=n then some o else M.ord j m)=some o':=e;split at e
 ·cases e;exact .inl (by rw [h];exact Nat.le_refl _)
 ·exact .inr ⟨o',e,Nat.le_refl _⟩
theorem Uaz(gs:List MG):(Vj gs).length≤gs.length+0:=by
 unfold Vj;split
 ·exact Nat.le_refl _
 ·rename_i g e;obtain ⟨ys,hy⟩:=List.getLast?_eq_some_iff.mp e;rw [hy,List.length_append,List.dropLast_concat,List.length_append];exact Nat.le_refl _
theorem xac(m:Je):Gw M (xc M m).1 1 2∧(m.kind≠1→Gw M (xc M m).1 0 2):=by
 unfold xc;split
 ·rename_i h1;refine ⟨?_,fun z=>absurd h1 z⟩;unfold jC;dsimp only;split
  ·exact (Gw.refl M).mono (by omega) (by omega)
  ·split
   ·exact (Gw.refl M).mono (by omega) (by omega)
   ·split
    ·split
     ·exact (Gw.refl M).mono (by omega) (by omega)
     ·refine Gw.mono (a:=1) (b:=1) (vbf _ fun o=>?_) (by omega) (by omega);simp
    ·split
     ·exact (Gw.refl M).mono (by omega) (by omega)
     ·exact (Gw.refl M).mono (by omega) (by omega)
 ·have fin:∀{M':Mw},Gw M M' 0 2→Gw M M' 1 2∧(m.kind≠1→Gw M M' 0 2):=fun g=>⟨g.mono (by omega) (by omega),fun _=>g⟩
  split
  ·refine fin ?_;unfold XG;dsimp only;split
   ·exact Yar _
   ·exact (Gw.refl M).mono (by omega) (by omega)
  ·split
   ·refine fin ?_;unfold WC;dsimp only;split
    ·refine Gw.mono (a:=0) (b:=1) (ua0 _ fun o=>?_) (by omega) (by omega);exact Nat.le_refl _
    ·exact (Gw.refl M).mono (by omega) (by omega)
   ·split
    ·refine fin ?_;unfold XC;dsimp only;split
     ·refine Gw.mono (a:=0) (b:=1) (ua0 _ fun o=>?_) (by omega) (by omega);exact Uaz _
     ·exact (Gw.refl M).mono (by omega) (by omega)
    ·split
     ·refine fin ?_;unfold Ul;dsimp only;split
      ·exact (Gw.refl M).mono (by omega) (by omega)
      ·split
       ·exact (Gw.refl M).mono (by omega) (by omega)
       ·split
        ·exact (Gw.refl M).mono (by omega) (by omega)
        ·exact Yar _
     ·exact fin ((Gw.refl M).mono (by omega) (by omega))
theorem wa4{o n:Int}{g:MG}{x:Je}(h:(xc M (ud o n g)).2=some x):x.kind≠1:=by
 have e:xc M (ud o n g)=Ul M (ud o n g):=rfl;rw [e] at h;unfold Ul at h;dsimp only at h;split at h
 ·cases h;show (4:Int)≠1;decide
 ·split at h
  ·cases h;show (5:Int)≠1;decide
  ·split at h
   ·cases h
   ·cases h;show (5:Int)≠1;decide
theorem Jbg(o n:Int):Gw M (wG M o n) 0 4:=by
 unfold wG;split
 ·exact (Gw.refl M).mono (by omega) (by omega)
 ·dsimp only;split
  ·exact (Gw.refl M).mono (by omega) (by omega)
  ·split
   ·exact ((xac _).2 (by show (6:Int)≠1;decide)).mono (by omega) (by omega)
   ·rename_i h;exact ((xac _).2 (by show (6:Int)≠1;decide)).trans ((xac _).2 (wa4 h))
theorem waK(i:Nat):∀(l:List Int) (M:Mw),Gw M (JJ M i l) 0 (4*l.length)
 | [],M=>Gw.refl M
 | n::r,M=>((Jbg (i:Int) n).trans (waK i r (wG M i n))).mono (by omega) (by rw [List.length_cons];omega)
theorem uaJ{j:Nat}(h:∀i,(M.ub i).length≤j):∀i,Gw M (ve M i) 0 (4*j*i)
 | 0=>Gw.refl M
 | i+1=>by
  rw [Qac];refine ((uaJ h i).trans (waK i _ _)).mono (by omega) ?_;rw [(qao M i).2];have:=h i;rw [Nat.mul_add];omega
structure Bd(M:Mw)(j n:Nat):Prop where
 k:M.k≤5
 ms:M.ms.length≤j
 ub:∀i,(M.ub i).length≤j
 jr:∀i,(M.jr i).length≤n
 Kc:∀i,(M.Kc i).length≤n
 gs:∀i m o,M.ord i m=some o→o.gs.length≤j
theorem Bd.gw{j n:Nat}(B:Bd M j n)(g:Gw M M' a b):Bd M' (j+a) (n+b):=
 ⟨by rw [g.k];exact B.k,by have:=g.ms;have:=B.ms;omega,fun i=>by have:=g.ub i;have:=B.ub i;omega,fun i=>by have:=g.jr i;have:=B.jr i;omega,fun i=>by have:=g.Kc i;have:=B.Kc i;omega,fun i m o e=>by
  rcases g.gs i m o e with h | ⟨o1,e1,l⟩
  ·omega
  ·have:=B.gs i m o1 e1;omega⟩
theorem Bd.mono{j n j' n':Nat}(B:Bd M j n)(h1:j≤j')(h2:n≤n'):Bd M j' n':=
 ⟨B.k,by have:=B.ms;omega,fun i=>by have:=B.ub i;omega,fun i=>by have:=B.jr i;omega,fun i=>by have:=B.Kc i;omega,fun i m o e=>by have:=B.gs i m o e;omega⟩
theorem Bd.sz{j n:Nat}(B:Bd M j n)(h1:j≤800)(h2:n≤6500000):Sz M 9000:=by
 have e:=sizeLine_eq;exact ⟨B.k,fun i _=>by have:=B.jr i;omega,by have:=B.ms;omega,fun i _=>by have:=B.ub i;omega,fun i _=>by have:=B.Kc i;omega,fun i m o _ ho=>by have:=B.gs i m o ho;omega⟩
theorem Xa2{n f l k:Int}(h:outI n 1 5=0):Bd (Zz n f l k) 0 0:=by
 have hn:1≤n∧n≤5:=by
  unfold outI at h;split at h
  ·assumption
  ·cases h
 exact ⟨by show n.toNat≤5;omega,Nat.le_refl _,fun _=>Nat.le_refl _,fun _=>Nat.le_refl _,fun _=>Nat.le_refl _,fun _ _ _ e=>by cases e⟩
theorem Kbk{x y:Int}(h:Wb x y=0):x=0∧y=0:=by
 unfold Wb at h;split at h
 ·exact ⟨by assumption,h⟩
 ·exact absurd h (by assumption)
theorem Bd.step{j n:Nat}(B:Bd M j n)(hj:j≤800){p:Int}{a:List Int}(hs:PyVbpoak.shape p=some (a.length,0)):Bd (qk M (p::a)).1 (j+2) (n+16001):=by
 have one:∀{M':Mw} {a b:Nat},Gw M M' a b→a≤2→b≤16001→Bd M' (j+2) (n+16001):=fun g h1 h2=>B.gw (g.mono h1 h2);have no:Bd M (j+2) (n+16001):=one (Gw.refl M) (by omega) (by omega);refine zaF (Q:=fun r=>Bd r.1 (j+2) (n+16001)) hs (fun _ _ _ _=>?_) (fun _=>?_) (fun _ _=>?_) (fun _ _=>?_) (fun _ _ _ _=>?_) (fun _ _ _=>?_) (fun _=>?_) (fun _=>?_) (fun _ _ _=>?_) (fun _ _=>?_) (fun _ _=>?_) (fun _ _ _=>?_) (fun _ _ _=>?_) (fun _=>?_) (fun _=>?_) ?_ (fun _=>?_) (fun _=>?_) (fun _ _=>?_) (fun _=>?_) ?_ ?_
 ·unfold kU;dsimp only;split
  ·rename_i h;exact (Xa2 (Kbk h).1).mono (by omega) (by omega)
  ·exact no
 ·unfold K9;dsimp only;split
  ·exact one (Wam rfl rfl rfl rfl rfl rfl) (by omega) (by omega)
  ·exact no
 ·unfold jT;dsimp only;split
  ·exact one (Wam rfl rfl rfl rfl rfl rfl) (by omega) (by omega)
  ·exact no
 ·unfold X9;dsimp only;split
  ·exact one ((xU _ _).trans (ZaF _ _)) (by omega) (by omega)
  ·exact no
 ·unfold QU;dsimp only;split
  ·exact one ((Zbh rfl).trans (wab _ _ _)) (by omega) (by omega)
  ·exact no
 ·unfold qy;dsimp only;split
  ·exact one (Yac _) (by omega) (by omega)
  ·exact no
 ·unfold Ju;split
  ·split
   ·exact no
   ·dsimp only;generalize Wb _ (uy M)=r;split
    ·split
     ·exact one (a:=1) (b:=2) (xac _).1 (by decide) (by decide)
     ·exact one (a:=2) (b:=2) ((xac _).1.trans (Yac _)) (by decide) (by decide)
    ·exact no
  ·exact no
 ·unfold Y3;split
  ·exact one (Wam rfl (List.length_modify ..) rfl rfl rfl rfl) (by omega) (by omega)
  ·exact no
 ·unfold Wav;dsimp only;split
  ·split
   ·exact no
   ·exact one (wab _ _ _) (by omega) (by omega)
  ·exact no
 ·unfold WG;dsimp only;generalize Wb (uj M _) _=r;split
  ·split
   ·exact no
   ·exact one ((Yar _).trans (Yac _)) (by omega) (by omega)
  ·exact no
 ·unfold jU;dsimp only;split
  ·split
   ·exact no
   ·exact one (Yac _) (by omega) (by omega)
  ·exact no
 ·unfold J9;dsimp only;split
  ·exact one (Yac _) (by omega) (by omega)
  ·exact no
 ·unfold QH;dsimp only;split
  ·split
   ·exact no
   ·exact one (wab _ _ _) (by omega) (by omega)
  ·exact no
 ·unfold Xav;split
  ·exact one (W9 _ _) (by omega) (by omega)
  ·exact no
 ·unfold countM;dsimp only;generalize Wb (jh M _) _=r;split
  ·exact one (QaX _) (by omega) (by omega)
  ·exact no
 ·have g:=uaJ (M:=M) B.ub M.k;have k5:=B.k;refine one (M':=(jZ M).1) (g.mono (a':=0) (b':=16000) (by omega) ?_) (by omega) (by omega);have h1:4*j*M.k≤4*800*5:=Nat.mul_le_mul (by omega) k5;omega
 all_goals exact no
end
end Mo
namespace Mo
open PySem PySem.Spec PyProof.Rows L2
section
variable{M:Mw}{s:Vbpoak.State}
theorem Qw.rcv(F:Qw M s):∀x∈M.ms,0≤x.receiver∧x.receiver.toNat<M.k:=fun x hx=>by
 rw [F.rel.ms] at hx;obtain ⟨m,hm,rfl⟩:=List.mem_map.mp hx;refine ⟨Int.natCast_nonneg _,?_⟩;show ((m.to:Nat):Int).toNat<M.k;rw [Int.toNat_natCast,F.rel.k];exact (F.good.msgs m hm).to
theorem qaC(F:Qw M s){i:Nat}(hi:i<M.k){n:Int}(hn:n<0):qd M i n= []:=by
 unfold qd;have:((M.Kc i).filter fun k=>k.1==n && (Yf M i k.1 k.2).known)= []:=by
  rw [List.filter_eq_nil_iff];intro k hk h;rw [(F.rel.at_ i (by rw [←F.rel.k];exact hi)).Kc] at hk;obtain ⟨q,_,rfl⟩:=List.mem_map.mp hk;have e:((q.1:Nat):Int)=n:=by simp at h;exact h.1
  omega
 rw [this];rfl
theorem Qw.srt(F:Qw M s){i:Nat}(hi:i<M.k)(n:Int):((qd M i n).map (·.1)).Pairwise (· < ·):=by
 by_cases hn:n<0
 ·rw [qaC F hi hn];exact List.Pairwise.nil
 ·obtain ⟨m,rfl⟩:=Int.eq_ofNat_of_zero_le (by omega:0≤n);rw [Vae F.rel F.good (by rw [←F.rel.k];exact hi),List.map_map,List.pairwise_map];have:=F.good.srt i m;rw [List.pairwise_map] at this;exact this.imp fun h=>by
   show ((_:Nat):Int)<((_:Nat):Int);omega
theorem Ya1:∀(l:List Nat) (a N:Nat),l.Pairwise (· < ·)→(∀x∈l,a≤x∧x<a+N)→l.length≤N
 | [],_,_,_,_=>Nat.zero_le _
 | x::r,a,N,h,hb=>by
  obtain ⟨h1,h2⟩:=List.pairwise_cons.mp h;obtain ⟨b1,b2⟩:=hb x List.mem_cons_self;cases N with
  | zero=>omega
  | succ N=>
   have:=Ya1 r (a+1) N h2 fun y hy=>by
    have:=h1 y hy;have:=hb y (List.mem_cons_of_mem _ hy);omega
   rw [List.length_cons];omega
theorem ua2(j:List Vbpoak.Rec)(n:Nat):(Qk j n).length=(Vbpoak.grants j n).length:=by
 unfold Qk;rw [List.length_map]
theorem Qw.kn(F:Qw M s){i j N:Nat}(B:Bd M j N)(hi:i<M.k)(n:Int):(qd M i n).length≤j:=by
 by_cases hn:n<0
 ·rw [qaC F hi hn];exact Nat.zero_le _
 ·obtain ⟨m,rfl⟩:=Int.eq_ofNat_of_zero_le (by omega:0≤n);have his:i<s.offices.length:=by rw [←F.rel.k];exact hi
  rw [Vae F.rel F.good his,List.length_map];by_cases h0:((jn s i).filter fun r=>r.kind==8 && r.no==m)= []
  ·rw [h0];exact Nat.zero_le _
  ·have gr:∀r∈(jn s i).filter (fun r=>r.kind==8 && r.no==m),uU s m r.g i:=fun r hr=>by
    obtain ⟨h1,h2⟩:=List.mem_filter.mp hr;have h2:r.kind=8∧r.no=m:=by simpa using h2
    have:=F.good.may i r h1 h2.1;rw [h2.2] at this;exact this
   obtain ⟨r0,hr0⟩:=List.exists_mem_of_ne_nil _ h0;obtain ⟨q0,q1,q2,q3,_,_⟩:=gr r0 hr0;have ho:Vbpoak.issuerOf m<s.offices.length:=by
    by_cases z:Vbpoak.issuerOf m<s.offices.length
    ·exact z
    ·have e:jn s (Vbpoak.issuerOf m)= []:=by
      show ((s.offices[Vbpoak.issuerOf m]?).getD Vbpoak.noOffice).journal= [];rw [List.getElem?_eq_none (by omega)];rfl
     rw [e] at q1;cases q1
   obtain ⟨⟨y,hy,ey⟩,_⟩:=F.good.vD _ q0 q1 q2;have eo:=(F.rel.at_ _ ho).ord y (.inl hy);have lg:=B.gs _ _ _ eo;have lN:(Vbpoak.grants (jn s (Vbpoak.issuerOf m)) m).length≤j:=by
    have e:(Ym (xg s.fee (jn s (Vbpoak.issuerOf m)) y)).gs.length=(Vbpoak.grants (jn s (Vbpoak.issuerOf m)) m).length:=by
     show ((Qk (jn s (Vbpoak.issuerOf m)) y.no).map gI).length=_;rw [List.length_map,ua2,ey,q3]
    rw [←e];exact lg
   refine Nat.le_trans ?_ lN;have:=Ya1 (((jn s i).filter fun r=>r.kind==8 && r.no==m).map (·.g)) 1 (Vbpoak.grants (jn s (Vbpoak.issuerOf m)) m).length (F.good.srt i m) fun x hx=>by
    obtain ⟨r,hr,rfl⟩:=List.mem_map.mp hx;obtain ⟨q,a1,a2,a3,a4,_⟩:=gr r hr;have hm:q.g∈(Vbpoak.grants (jn s (Vbpoak.issuerOf m)) m).map (·.g):=List.mem_map.mpr ⟨q,yr.mpr ⟨a1,a2,a3⟩,rfl⟩;rw [F.good.nums,List.mem_range'_1] at hm;rw [←a4];exact hm
   rw [List.length_map] at this;exact this
theorem Qw.last(F:Qw M s){i:Nat}(hi:i<M.k)(hu:M.up i=true):∀a,(M.jr i).getLast? ≠some (.begun a):=fun a h=>by
 have his:i<s.offices.length:=by rw [←F.rel.k];exact hi
 have R:=F.rel.at_ i his
 have hp:=F.good.up i (by rw [←R.up];exact hu);have e:=last_eq (jn s i);rw [R.jr] at h;rw [h,hp] at e;cases e
theorem Qw.fresh(F:Qw M s){o:Int}(h0:0≤o)(hi:o.toNat<M.k):(M.begun o.toNat+1)*10+o∉M.ub o.toNat:=fun h=>by
 have his:o.toNat<s.offices.length:=by rw [←F.rel.k];exact hi
 have R:=F.rel.at_ _ his
 rw [R.ub,R.begun] at h;obtain ⟨r,hr,e⟩:=List.mem_map.mp h;have nn:=(WaJ F.good (o:=o.toNat) (n:=(ze (jn s o.toNat)+1)*10+o.toNat) rfl).1;have e:(r.no:Int)=((ze (jn s o.toNat):Nat)+1)*10+o:=e;exact nn ⟨r,hr,by omega⟩
theorem Qw.kinds(F:Qw M s):∀i,i<M.k→∀a∈Yv (M.jr i),a.kind=1∨a.kind=2∨a.kind=3:=fun i hi a ha=>by
 have his:i<s.offices.length:=by rw [←F.rel.k];exact hi
 rw [(F.rel.at_ i his).jr,QaE] at ha;obtain ⟨r,hr,rfl⟩:=List.mem_map.mp ha;have hm:=(J2 (jn s i)).subset hr;obtain ⟨h1,h2⟩:=List.mem_filter.mp hm;exact F.good.vaB i r h1 (by simpa using h2)
theorem Qw.clo(F:Qw M s):∀o,o<M.k→∀n∈M.ub o,∀x,M.ord o n=some x→x.closed=true→(Xc x).isSome=true:=fun o ho n hn x hx hc=>by
 have hos:o<s.offices.length:=by rw [←F.rel.k];exact ho
 have R:=F.rel.at_ o hos
 rw [R.ub] at hn;obtain ⟨r,hr,rfl⟩:=List.mem_map.mp hn;rw [R.ord r (.inl hr)] at hx;cases hx;rw [ZaC];show ((Uaf (Qk (jn s o) r.no)).map gI).isSome=true;rw [qaL,Option.isSome_map,Option.isSome_map];exact F.good.clo o r.no hc
theorem Zbb(F:Qw M s){j N:Nat}(B:Bd M j N)(hj:j≤800){p:Int}{a:List Int}(hs:PyVbpoak.shape p=some (a.length,0)):(qk M (p::a)).2.length≤5000:=by
 have k5:=B.k;refine zaF (Q:=fun r=>r.2.length≤5000) hs (fun _ _ _ _=>?_) (fun _=>?_) (fun _ _=>?_) (fun _ _=>?_) (fun _ _ _ _=>?_) (fun _ _ _=>?_) (fun _=>?_) (fun _=>?_) (fun _ _ _=>?_) (fun _ _=>?_) (fun _ _=>?_) (fun _ _ _=>?_) (fun _ _ _=>?_) (fun _=>?_) (fun _=>?_) ?_ (fun _=>?_) (fun _=>?_) (fun _ _=>?_) (fun _=>?_) ?_ ?_
 ·unfold kU;dsimp only;split<;>exact nb rfl
 ·unfold K9;dsimp only;split<;>exact nb rfl
 ·unfold jT;dsimp only;split<;>exact nb rfl
 ·unfold X9;dsimp only;split<;>exact nb rfl
 ·unfold QU;dsimp only;split<;>exact nb rfl
 ·unfold qy;dsimp only;split<;>exact nb rfl
 ·unfold Ju;split
  ·split
   ·exact nb rfl
   ·dsimp only;generalize Wb _ (uy M)=r;split
    ·split<;>exact nb rfl
    ·exact nb rfl
  ·exact nb rfl
 ·unfold Y3;split<;>exact nb rfl
 ·unfold Wav;dsimp only;split
  ·split<;>exact nb rfl
  ·exact nb rfl
 ·unfold WG;dsimp only
  generalize Wb (uj M _) _=r;split
  ·split<;>exact nb rfl
  ·exact nb rfl
 ·unfold jU;dsimp only;split
  ·split<;>exact nb rfl
  ·exact nb rfl
 ·unfold J9;dsimp only;split<;>exact nb rfl
 ·unfold QH;dsimp only;split
  ·split<;>exact nb rfl
  ·exact nb rfl
 ·unfold Xav;split<;>exact nb rfl
 ·unfold countM;dsimp only
  generalize Wb (jh M _) _=r;split<;>exact nb rfl
 ·exact nb rfl
 ·rename_i o;show (zH M o).length≤5000;unfold zH;split
  ·have h1:=B.ub o.toNat;have:=yS (n:=b2 (M.up o.toNat)) (rows:= [[M.drawer o.toNat,Yp (M.jr o.toNat),zd M o.toNat,((M.jr o.toNat).length:Int)],M.ub o.toNat]) (b:=804) fun r hr=>by
    rcases List.mem_cons.mp hr with rfl | hr
    ·exact nb rfl
    ·have:r=M.ub o.toNat:=by simpa using hr
     subst this;omega
   exact Nat.le_trans this (nb rfl)
  ·exact nb rfl
 ·rename_i n;show (ZT M n).length≤5000;unfold ZT;dsimp only;split
  ·split
   ·exact nb rfl
   ·rename_i o _;have:=yS (n:=K0 o) (rows:= [[o.vb,o.ood,(o.gs.length:Int)],Kj o]) (b:=3) fun r hr=>by
     rcases List.mem_cons.mp hr with rfl | hr
     ·exact nb rfl
     ·have:r=Kj o:=by simpa using hr
      subst this;unfold Kj;split<;>exact nb rfl
    exact Nat.le_trans this (nb rfl)
  ·exact nb rfl
 ·rename_i p n;show (yT M p n).length≤5000;unfold yT;dsimp only;split
  ·rename_i h;have hk:=F.kn B (JS (Kbk h).1).2 n;have:=yS (n:=((qd M p.toNat n).length:Int)) (rows:=(qd M p.toNat n).map kK) (b:=5) fun r hr=>by
    obtain ⟨i,_,rfl⟩:=List.mem_map.mp hr;exact Nat.le_refl _
   rw [List.length_map] at this;omega
  ·exact nb rfl
 ·rename_i m;show (Vau M m).length≤5000;unfold Vau;split
  ·split<;>exact nb rfl
  ·exact nb rfl
 ·show (waD M).length≤5000;have:=yS (n:=(M.k:Int)) (rows:=(List.range M.k).map (JU M)) (b:=10) fun r hr=>by
   obtain ⟨i,_,rfl⟩:=List.mem_map.mp hr;rw [Xas];omega
  rw [List.length_map,List.length_range] at this;unfold waD;omega
 ·exact nb rfl
end
end Mo
namespace Mo
open PySem PySem.Spec PyProof.Rows L2
variable{P:Program}{w:World}{K:PySem.W.Frag}{mg:Str→Option Value}{base:Heap}{t:Yd}
theorem Jg{c:Int}{a:List Int}{n:Nat}(h:PyVbpoak.shape c=some (a.length,0))(e:PyVbpoak.shape c=some (n,0)):a.length=n:=by
 rw [h] at e;injection e with e;injection e with e _
theorem len0{a:List Int}(h:a.length=0):a= []:=List.length_eq_zero_iff.mp h
theorem QaB{a:List Int}(h:a.length=1):∃x0,a= [x0]:=List.length_eq_one_iff.mp h
theorem VaW{a:List Int}(h:a.length=2):∃x0 x1,a= [x0,x1]:=match a,h with | [x0,x1],_=>⟨x0,x1,rfl⟩
theorem Va6{a:List Int}(h:a.length=3):∃x0 x1 x2,a= [x0,x1,x2]:=match a,h with | [x0,x1,x2],_=>⟨x0,x1,x2,rfl⟩
theorem Xbj{a:List Int}(h:a.length=4):∃x0 x1 x2 x3,a= [x0,x1,x2,x3]:=match a,h with | [x0,x1,x2,x3],_=>⟨x0,x1,x2,x3,rfl⟩
theorem kM{c:Cs}{H:Hp}{A:Ad}{M:Mw}{P:Addr}{r:Mw×List Int}{Q:VK}(k:vc c (fun b=>b=P) H A M r (Kq P Q))(tb:Z9 P H)(hd:Holds c H A M):vc c ZU H A M r Q:=
 fun H' A' p uQ kp np hp own=>k H' A' p uQ kp.weak np hp own (Tb.kp tb hd kp)
def Vad(t:Yd)(P:Addr):Sp:=fun vs H Q _=>∃(A:Ad) (M:Mw) (st:Vbpoak.State) (c:Int) (g:Addr) (a:List Int) (j N:Nat),vs= [.ref (A.ad .wo), .int c, .ref g]∧Holds t.c H A M∧Qw M st∧Bd M j N∧j≤800∧N≤6500000∧Z9 P H∧H g=some (.lst (a.map V.int))∧PyVbpoak.shape c=some (a.length,0)∧(∀i:Nat,i<11→c≠(i:Int))∧vc t.c (fun b=>b=P) H A M (qk M (c::a)) (Kq P Q)
theorem zad{kc kp:Addr}(T:Txt K mg t)(B:Lb mg base t kc kp):wb P w K mg base ke 9 t.Xq t.vq ["world","call","given"] (Vad t kp):=by
  refine T.QB.kf yad fun vs H Q E h=>?_;obtain ⟨A,M,st,c,g,a,j,N,rfl,hd,F,Z,hj,hN,tb,hg,UG,KD,k⟩:=h;refine ⟨rfl,fun _ _ _ _ hr=>⟨_,(Za (Jb (Kb Vf (pv 1) ua (Zc _)) (va (Ja (ja (vba T) hr.m rfl T.Qbg T.xaO.kp T.Qbe .nil Ka (za (pv 0) (za (Vb Xa (pv 2) ua (fun _ _=>rfl)) (za (Vb Xa (pv 2) ua (fun _ _=>rfl)) (za (Vb Xa (pv 2) ua (fun _ _=>rfl)) Qa))))))) zb) (Za (Jb (Kb Vf (pv 1) ua (Zc _)) (va (Ja (ja (xaY T) hr.m rfl T.va4 T.Jar.kp T.Qa5 .nil Ka (za (pv 0) (za (Vb Xa (pv 2) ua (fun _ _=>rfl)) (za (Vb Xa (pv 2) ua (fun _ _=>rfl)) (za (Vb Xa (pv 2) ua (fun _ _=>rfl)) Qa))))))) zb) (Za (Jb (Kb Vf (pv 1) ua (Zc _)) (va (Ja (ja (kaG T) hr.m rfl T.uaM T.Z4.kp T.JaM .nil Ka (za (pv 0) (za (Vb Xa (pv 2) ua (fun _ _=>rfl)) Qa))))) zb) (Za (Jb (Kb Vf (pv 1) ua (Zc _)) (va (Ja (ja (Wap T) hr.m rfl T.wau T.vL.kp T.uaw .nil Ka (za (pv 0) (za (Vb Xa (pv 2) ua (fun _ _=>rfl)) Qa))))) zb) (Za (Jb (Kb Vf (pv 1) ua (Zc _)) (va (Ja (ja (jaM T) hr.m rfl T.UaS T.Qab.kp T.jaR .nil Ka (za (pv 0) Qa)))) zb) (Za (Jb (Kb Vf (pv 1) ua (Zc _)) (va (Ja (ja (Kaz T) hr.m rfl T.WaF T.uX.kp T.WaH .nil Ka (za (pv 0) (za (Vb Xa (pv 2) ua (fun _ _=>rfl)) Qa))))) zb) (Za (Jb (Kb Vf (pv 1) ua (Zc _)) (va (Ja (ja (QaI T) hr.m rfl T.XaL T.Q4.kp T.vaL .nil Ka (za (pv 0) (za (Vb Xa (pv 2) ua (fun _ _=>rfl)) Qa))))) zb) (Za (Jb (Kb Vf (pv 1) ua (Zc _)) (va (Ja (ja (KaH T B) hr.m rfl T.YaN T.v5.kp T.WaL .nil Ka (za (pv 0) (za (Vb Xa (pv 2) ua (fun _ _=>rfl)) (za (Vb Xa (pv 2) ua (fun _ _=>rfl)) Qa)))))) zb) (Za (Jb (Kb Vf (pv 1) ua (Zc _)) (va (Ja (ja (Zaw T) hr.m rfl T.Yaz T.XR.kp T.Jay .nil Ka (za (pv 0) (za (Vb Xa (pv 2) ua (fun _ _=>rfl)) Qa))))) zb) (Za (Jb (Kb Vf (pv 1) ua (Zc _)) (va (Ja (ja (QaS T) hr.m rfl T.ZaX T.Jai.kp T.UaW .nil Ka (za (pv 0) Qa)))) zb) (va (Ja (ja (XaM T) hr.m rfl T.QaT T.Jab.kp T.xaR .nil Ka (za (pv 0) Qa)))))))))))))),?_⟩⟩;have zz:=Z.sz hj hN;have z3:Sz M 3:=zz.mono (by decide);refine ⟨_,rfl,rfl,_,rfl,yg (fun h=>?_) fun n11=>?_⟩
  ·have e:c=11:=V.int.inj h;subst e;obtain ⟨x0,x1,x2,rfl⟩:=Va6 (Jg UG (show PyVbpoak.shape 11=some (3,0) from rfl));have k:vc t.c (fun b=>b=kp) H A M (J9 M x0 x1 x2) (Kq kp Q):=k;exact ⟨_,rfl,_,rfl,_,_,_,_,rfl,rfl,xb.of hg,rfl,_,rfl,_,_,_,_,rfl,rfl,xb.of hg,rfl,_,rfl,_,_,_,_,rfl,rfl,xb.of hg,rfl,A,M,x0,x1,x2,rfl,hd,z3,kM k tb hd⟩
  refine ⟨_,rfl,rfl,_,rfl,yg (fun h=>?_) fun n12=>?_⟩
  ·have e:c=12:=V.int.inj h;subst e;obtain ⟨x0,x1,x2,rfl⟩:=Va6 (Jg UG (show PyVbpoak.shape 12=some (3,0) from rfl));have k:vc t.c (fun b=>b=kp) H A M (QH M x0 x1 x2) (Kq kp Q):=k;exact ⟨_,rfl,_,rfl,_,_,_,_,rfl,rfl,xb.of hg,rfl,_,rfl,_,_,_,_,rfl,rfl,xb.of hg,rfl,_,rfl,_,_,_,_,rfl,rfl,xb.of hg,rfl,A,M,x0,x1,x2,rfl,hd,z3,kM k tb hd⟩
  refine ⟨_,rfl,rfl,_,rfl,yg (fun h=>?_) fun n13=>?_⟩
  ·have e:c=13:=V.int.inj h;subst e;obtain ⟨x0,rfl⟩:=QaB (Jg UG (show PyVbpoak.shape 13=some (1,0) from rfl));have k:vc t.c (fun b=>b=kp) H A M (Xav M x0) (Kq kp Q):=k;exact ⟨_,rfl,_,rfl,_,_,_,_,rfl,rfl,xb.of hg,rfl,A,M,x0,rfl,hd,kM k tb hd⟩
  refine ⟨_,rfl,rfl,_,rfl,yg (fun h=>?_) fun n14=>?_⟩
  ·have e:c=14:=V.int.inj h;subst e;obtain ⟨x0,rfl⟩:=QaB (Jg UG (show PyVbpoak.shape 14=some (1,0) from rfl));have k:vc t.c (fun b=>b=kp) H A M (countM M x0) (Kq kp Q):=k;exact ⟨_,rfl,_,rfl,_,_,_,_,rfl,rfl,xb.of hg,rfl,A,M,x0,rfl,hd,z3,kM k tb hd⟩
  refine ⟨_,rfl,rfl,_,rfl,yg (fun h=>?_) fun n15=>?_⟩
  ·have e:c=15:=V.int.inj h;subst e;obtain rfl:=len0 (Jg UG (show PyVbpoak.shape 15=some (0,0) from rfl));have k:vc t.c (fun b=>b=kp) H A M (jZ M) (Kq kp Q):=k;exact ⟨_,rfl,A,M,st,800,rfl,hd,F.rel,F.good,fun i _=>(by have:=Z.ub i;omega),zz.mono (by decide),kM k tb hd⟩
  refine ⟨_,rfl,rfl,_,rfl,yg (fun h=>?_) fun n16=>?_⟩
  ·have e:c=16:=V.int.inj h;subst e;obtain ⟨x0,rfl⟩:=QaB (Jg UG (show PyVbpoak.shape 16=some (1,0) from rfl));have k:vc t.c (fun b=>b=kp) H A M ((M,zH M x0)) (Kq kp Q):=k;exact ⟨_,rfl,_,rfl,_,_,_,_,rfl,rfl,xb.of hg,rfl,A,M,x0,rfl,hd,zz.mono (by decide),kM k tb hd⟩
  refine ⟨_,rfl,rfl,_,rfl,yg (fun h=>?_) fun n17=>?_⟩
  ·have e:c=17:=V.int.inj h;subst e;obtain ⟨x0,rfl⟩:=QaB (Jg UG (show PyVbpoak.shape 17=some (1,0) from rfl));have k:vc t.c (fun b=>b=kp) H A M ((M,ZT M x0)) (Kq kp Q):=k;exact ⟨_,rfl,_,rfl,_,_,_,_,rfl,rfl,xb.of hg,rfl,A,M,x0,rfl,hd,kM k tb hd⟩
  refine ⟨_,rfl,rfl,_,rfl,yg (fun h=>?_) fun n18=>?_⟩
  ·have e:c=18:=V.int.inj h;subst e;obtain ⟨x0,x1,rfl⟩:=VaW (Jg UG (show PyVbpoak.shape 18=some (2,0) from rfl));have k:vc t.c (fun b=>b=kp) H A M ((M,yT M x0 x1)) (Kq kp Q):=k;exact ⟨_,rfl,_,rfl,_,_,_,_,rfl,rfl,xb.of hg,rfl,_,rfl,_,_,_,_,rfl,rfl,xb.of hg,rfl,A,M,x0,x1,rfl,hd,fun hi=>⟨(by have:=zz.Kc _ hi;omega),(by have:=F.kn Z hi x1;rw [sizeLine_eq];omega)⟩,tb,fun hi=>F.srt hi x1,k⟩
  refine ⟨_,rfl,rfl,_,rfl,yg (fun h=>?_) fun n19=>?_⟩
  ·have e:c=19:=V.int.inj h;subst e;obtain ⟨x0,rfl⟩:=QaB (Jg UG (show PyVbpoak.shape 19=some (1,0) from rfl));have k:vc t.c (fun b=>b=kp) H A M ((M,Vau M x0)) (Kq kp Q):=k;exact ⟨_,rfl,_,rfl,_,_,_,_,rfl,rfl,xb.of hg,rfl,A,M,x0,rfl,hd,kM k tb hd⟩
  refine ⟨_,rfl,rfl,_,rfl,yg (fun h=>?_) fun n20=>?_⟩
  ·have e:c=20:=V.int.inj h;subst e;obtain rfl:=len0 (Jg UG (show PyVbpoak.shape 20=some (0,0) from rfl));have k:vc t.c (fun b=>b=kp) H A M ((M,waD M)) (Kq kp Q):=k;exact ⟨_,rfl,A,M,rfl,hd,z3,F.clo,kM k tb hd⟩
  have e:c=21:=by
   by_cases z:c=21
   ·exact z
   ·exfalso;unfold PyVbpoak.shape at UG;rw [if_neg (show c≠0 from KD 0 (by decide)),if_neg (show c≠1 from KD 1 (by decide)),if_neg (show c≠2 from KD 2 (by decide)),if_neg (show c≠3 from KD 3 (by decide)),if_neg (show c≠4 from KD 4 (by decide)),if_neg (show c≠5 from KD 5 (by decide)),if_neg (show c≠6 from KD 6 (by decide)),if_neg (show c≠7 from KD 7 (by decide)),if_neg (show c≠8 from KD 8 (by decide)),if_neg (show c≠9 from KD 9 (by decide)),if_neg (show c≠10 from KD 10 (by decide)),if_neg (fun w=>n11 (by rw [w])),if_neg (fun w=>n12 (by rw [w])),if_neg (fun w=>n13 (by rw [w])),if_neg (fun w=>n14 (by rw [w])),if_neg (fun w=>n15 (by rw [w])),if_neg (fun w=>n16 (by rw [w])),if_neg (fun w=>n17 (by rw [w])),if_neg (fun w=>n18 (by rw [w])),if_neg (fun w=>n19 (by rw [w])),if_neg (fun w=>n20 (by rw [w])),if_neg z] at UG;cases UG
  subst e;obtain rfl:=len0 (Jg UG (show PyVbpoak.shape 21=some (0,0) from rfl));have k:vc t.c (fun b=>b=kp) H A M ((M,zan M)) (Kq kp Q):=k;exact ⟨_,rfl,A,M,rfl,hd,z3,F.kinds,kM k tb hd⟩
def uaH(t:Yd)(P:Addr):Sp:=fun vs H Q _=>∃(A:Ad) (M:Mw) (st:Vbpoak.State) (c:Int) (g:Addr) (a:List Int) (j N:Nat),vs= [.ref (A.ad .wo), .int c, .ref g]∧Holds t.c H A M∧Qw M st∧Bd M j N∧j≤800∧N≤6500000∧Z9 P H∧H g=some (.lst (a.map V.int))∧PyVbpoak.shape c=some (a.length,0)∧vc t.c (fun b=>b=P) H A M (qk M (c::a)) (Kq P Q)
theorem zaI{kc kp:Addr}(T:Txt K mg t)(B:Lb mg base t kc kp):wb P w K mg base ke 10 t.QO t.JO ["world","call","given"] (uaH t kp):=by
  refine T.y4.kf UaH fun vs H Q E h=>?_;obtain ⟨A,M,st,c,g,a,j,N,rfl,hd,F,Z,hj,hN,tb,hg,UG,k⟩:=h;refine ⟨rfl,fun _ _ _ _ hr=>⟨_,(Za (Jb (Kb Vf (pv 1) ua (Zc _)) (va (Ja (ja (qa3 T) hr.m rfl T.qba T.qaE.kp T.ka9 .nil Ka (za (pv 0) (za (Vb Xa (pv 2) ua (fun _ _=>rfl)) (za (Vb Xa (pv 2) ua (fun _ _=>rfl)) (za (Vb Xa (pv 2) ua (fun _ _=>rfl)) (za (Vb Xa (pv 2) ua (fun _ _=>rfl)) Qa)))))))) zb) (Za (Jb (Kb Vf (pv 1) ua (Zc _)) (va (Ja (ja (yaT T) hr.m rfl T.qaW T.yak.kp T.JaZ .nil Ka (za (pv 0) (za (Vb Xa (pv 2) ua (fun _ _=>rfl)) Qa))))) zb) (Za (Jb (Kb Vf (pv 1) ua (Zc _)) (va (Ja (ja (qa4 T) hr.m rfl T.va9 T.yaE.kp T.ua9 .nil Ka (za (pv 0) (za (Vb Xa (pv 2) ua (fun _ _=>rfl)) (za (Vb Xa (pv 2) ua (fun _ _=>rfl)) Qa)))))) zb) (Za (Jb (Kb Vf (pv 1) ua (Zc _)) (va (Ja (ja (Wa8 T) hr.m rfl T.Qbf T.jaO.kp T.Ube .nil Ka (za (pv 0) (za (Vb Xa (pv 2) ua (fun _ _=>rfl)) (za (Vb Xa (pv 2) ua (fun _ _=>rfl)) Qa)))))) zb) (Za (Jb (Kb Vf (pv 1) ua (Zc _)) (va (Ja (ja (Ka5 T) hr.m rfl T.xba T.XaE.kp T.Ua9 .nil Ka (za (pv 0) (za (Vb Xa (pv 2) ua (fun _ _=>rfl)) (za (Vb Xa (pv 2) ua (fun _ _=>rfl)) (za (Vb Xa (pv 2) ua (fun _ _=>rfl)) (za (Vb Xa (pv 2) ua (fun _ _=>rfl)) Qa)))))))) zb) (Za (Jb (Kb Vf (pv 1) ua (Zc _)) (va (Ja (ja (zaT T) hr.m rfl T.uaX T.Yak.kp T.JaY .nil Ka (za (pv 0) (za (Vb Xa (pv 2) ua (fun _ _=>rfl)) (za (Vb Xa (pv 2) ua (fun _ _=>rfl)) (za (Vb Xa (pv 2) ua (fun _ _=>rfl)) Qa))))))) zb) (Za (Jb (Kb Vf (pv 1) ua (Zc _)) (va (Ja (ja (KaQ T) hr.m rfl T.yaW T.uaj.kp T.WaW .nil Ka (za (pv 0) (za (Vb Xa (pv 2) ua (fun _ _=>rfl)) Qa))))) zb) (Za (Jb (Kb Vf (pv 1) ua (Zc _)) (va (Ja (ja (za9 T) hr.m rfl T.jbe T.QaO.kp T.Zbe .nil Ka (za (pv 0) (za (Vb Xa (pv 2) ua (fun _ _=>rfl)) Qa))))) zb) (Za (Jb (Kb Vf (pv 1) ua (Zc _)) (va (Ja (ja (Ybe T B) hr.m rfl T.kbn T.Ka0.kp T.Ubm .nil Ka (za (pv 0) (za (Vb Xa (pv 2) ua (fun _ _=>rfl)) (za (Vb Xa (pv 2) ua (fun _ _=>rfl)) (za (Vb Xa (pv 2) ua (fun _ _=>rfl)) Qa))))))) zb) (Za (Jb (Kb Vf (pv 1) ua (Zc _)) (va (Ja (ja (ZaZ T B) hr.m rfl T.wa5 T.xar.kp T.Va4 .nil Ka (za (pv 0) (za (Vb Xa (pv 2) ua (fun _ _=>rfl)) (za (Vb Xa (pv 2) ua (fun _ _=>rfl)) Qa)))))) zb) (Za (Jb (Kb Vf (pv 1) ua (Zc _)) (va (Ja (ja (Ka4 T) hr.m rfl T.Ka8 T.KaE.kp T.Xa9 .nil Ka (za (pv 0) (za (Vb Xa (pv 2) ua (fun _ _=>rfl)) (za (Vb Xa (pv 2) ua (fun _ _=>rfl)) Qa)))))) zb) (va (Ja (ja (zad T B) hr.m rfl T.uag T.QB.kp T.Wah .nil Ka (za (pv 0) (za (pv 1) (za (pv 2) Qa))))))))))))))))),?_⟩⟩;have zz:=Z.sz hj hN;have z3:Sz M 3:=zz.mono (by decide);refine ⟨_,rfl,rfl,_,rfl,yg (fun h=>?_) fun n0=>?_⟩
  ·have e:c=0:=V.int.inj h;subst e;obtain ⟨x0,x1,x2,x3,rfl⟩:=Xbj (Jg UG (show PyVbpoak.shape 0=some (4,0) from rfl));have k:vc t.c (fun b=>b=kp) H A M (kU M x0 x1 x2 x3) (Kq kp Q):=k;exact ⟨_,rfl,_,rfl,_,_,_,_,rfl,rfl,xb.of hg,rfl,_,rfl,_,_,_,_,rfl,rfl,xb.of hg,rfl,_,rfl,_,_,_,_,rfl,rfl,xb.of hg,rfl,_,rfl,_,_,_,_,rfl,rfl,xb.of hg,rfl,A,M,x0,x1,x2,x3,rfl,hd,kM k tb hd⟩
  refine ⟨_,rfl,rfl,_,rfl,yg (fun h=>?_) fun n1=>?_⟩
  ·have e:c=1:=V.int.inj h;subst e;obtain ⟨x0,rfl⟩:=QaB (Jg UG (show PyVbpoak.shape 1=some (1,0) from rfl));have k:vc t.c (fun b=>b=kp) H A M (K9 M x0) (Kq kp Q):=k;exact ⟨_,rfl,_,rfl,_,_,_,_,rfl,rfl,xb.of hg,rfl,A,M,x0,rfl,hd,kM k tb hd⟩
  refine ⟨_,rfl,rfl,_,rfl,yg (fun h=>?_) fun n2=>?_⟩
  ·have e:c=2:=V.int.inj h;subst e;obtain ⟨x0,x1,rfl⟩:=VaW (Jg UG (show PyVbpoak.shape 2=some (2,0) from rfl));have k:vc t.c (fun b=>b=kp) H A M (jT M x0 x1) (Kq kp Q):=k;exact ⟨_,rfl,_,rfl,_,_,_,_,rfl,rfl,xb.of hg,rfl,_,rfl,_,_,_,_,rfl,rfl,xb.of hg,rfl,A,M,x0,x1,rfl,hd,kM k tb hd⟩
  refine ⟨_,rfl,rfl,_,rfl,yg (fun h=>?_) fun n3=>?_⟩
  ·have e:c=3:=V.int.inj h;subst e;obtain ⟨x0,x1,rfl⟩:=VaW (Jg UG (show PyVbpoak.shape 3=some (2,0) from rfl));have k:vc t.c (fun b=>b=kp) H A M (X9 M x0 x1) (Kq kp Q):=k;exact ⟨_,rfl,_,rfl,_,_,_,_,rfl,rfl,xb.of hg,rfl,_,rfl,_,_,_,_,rfl,rfl,xb.of hg,rfl,A,M,x0,x1,rfl,hd,z3,kM k tb hd⟩
  refine ⟨_,rfl,rfl,_,rfl,yg (fun h=>?_) fun n4=>?_⟩
  ·have e:c=4:=V.int.inj h;subst e;obtain ⟨x0,x1,x2,x3,rfl⟩:=Xbj (Jg UG (show PyVbpoak.shape 4=some (4,0) from rfl));have k:vc t.c (fun b=>b=kp) H A M (QU M x0 x1 x2 x3) (Kq kp Q):=k;exact ⟨_,rfl,_,rfl,_,_,_,_,rfl,rfl,xb.of hg,rfl,_,rfl,_,_,_,_,rfl,rfl,xb.of hg,rfl,_,rfl,_,_,_,_,rfl,rfl,xb.of hg,rfl,_,rfl,_,_,_,_,rfl,rfl,xb.of hg,rfl,A,M,x0,x1,x2,x3,rfl,hd,z3,fun hi hu=>⟨F.last hi hu,fun h0=>F.fresh h0 hi⟩,kM k tb hd⟩
  refine ⟨_,rfl,rfl,_,rfl,yg (fun h=>?_) fun n5=>?_⟩
  ·have e:c=5:=V.int.inj h;subst e;obtain ⟨x0,x1,x2,rfl⟩:=Va6 (Jg UG (show PyVbpoak.shape 5=some (3,0) from rfl));have k:vc t.c (fun b=>b=kp) H A M (qy M x0 x1 x2) (Kq kp Q):=k;exact ⟨_,rfl,_,rfl,_,_,_,_,rfl,rfl,xb.of hg,rfl,_,rfl,_,_,_,_,rfl,rfl,xb.of hg,rfl,_,rfl,_,_,_,_,rfl,rfl,xb.of hg,rfl,A,M,x0,x1,x2,rfl,hd,z3,kM k tb hd⟩
  refine ⟨_,rfl,rfl,_,rfl,yg (fun h=>?_) fun n6=>?_⟩
  ·have e:c=6:=V.int.inj h;subst e;obtain ⟨x0,rfl⟩:=QaB (Jg UG (show PyVbpoak.shape 6=some (1,0) from rfl));have k:vc t.c (fun b=>b=kp) H A M (Ju M x0) (Kq kp Q):=k;exact ⟨_,rfl,_,rfl,_,_,_,_,rfl,rfl,xb.of hg,rfl,A,M,x0,rfl,hd,z3,F.rcv,kM k tb hd⟩
  refine ⟨_,rfl,rfl,_,rfl,yg (fun h=>?_) fun n7=>?_⟩
  ·have e:c=7:=V.int.inj h;subst e;obtain ⟨x0,rfl⟩:=QaB (Jg UG (show PyVbpoak.shape 7=some (1,0) from rfl));have k:vc t.c (fun b=>b=kp) H A M (Y3 M x0) (Kq kp Q):=k;exact ⟨_,rfl,_,rfl,_,_,_,_,rfl,rfl,xb.of hg,rfl,A,M,x0,rfl,hd,kM k tb hd⟩
  refine ⟨_,rfl,rfl,_,rfl,yg (fun h=>?_) fun n8=>?_⟩
  ·have e:c=8:=V.int.inj h;subst e;obtain ⟨x0,x1,x2,rfl⟩:=Va6 (Jg UG (show PyVbpoak.shape 8=some (3,0) from rfl));have k:vc t.c (fun b=>b=kp) H A M (Wav M x0 x1 x2) (Kq kp Q):=k;exact ⟨_,rfl,_,rfl,_,_,_,_,rfl,rfl,xb.of hg,rfl,_,rfl,_,_,_,_,rfl,rfl,xb.of hg,rfl,_,rfl,_,_,_,_,rfl,rfl,xb.of hg,rfl,A,M,x0,x1,x2,rfl,hd,z3,tb,fun hi=>F.srt hi x1,k⟩
  refine ⟨_,rfl,rfl,_,rfl,yg (fun h=>?_) fun n9=>?_⟩
  ·have e:c=9:=V.int.inj h;subst e;obtain ⟨x0,x1,rfl⟩:=VaW (Jg UG (show PyVbpoak.shape 9=some (2,0) from rfl));have k:vc t.c (fun b=>b=kp) H A M (WG M x0 x1) (Kq kp Q):=k;exact ⟨_,rfl,_,rfl,_,_,_,_,rfl,rfl,xb.of hg,rfl,_,rfl,_,_,_,_,rfl,rfl,xb.of hg,rfl,A,M,x0,x1,rfl,hd,z3,tb,fun hi=>F.srt hi x1,k⟩
  refine ⟨_,rfl,rfl,_,rfl,yg (fun h=>?_) fun n10=>?_⟩
  ·have e:c=10:=V.int.inj h;subst e;obtain ⟨x0,x1,rfl⟩:=VaW (Jg UG (show PyVbpoak.shape 10=some (2,0) from rfl));have k:vc t.c (fun b=>b=kp) H A M (jU M x0 x1) (Kq kp Q):=k;exact ⟨_,rfl,_,rfl,_,_,_,_,rfl,rfl,xb.of hg,rfl,_,rfl,_,_,_,_,rfl,rfl,xb.of hg,rfl,A,M,x0,x1,rfl,hd,z3,kM k tb hd⟩
  exact ⟨_,rfl,_,rfl,_,rfl,A,M,st,c,g,a,j,N,rfl,hd,F,Z,hj,hN,tb,hg,UG,fun i hi=>by
   intro z;subst z;have:i=0∨i=1∨i=2∨i=3∨i=4∨i=5∨i=6∨i=7∨i=8∨i=9∨i=10:=by omega
   rcases this with rfl | rfl | rfl | rfl | rfl | rfl | rfl | rfl | rfl | rfl | rfl
   ·exact n0 rfl
   ·exact n1 rfl
   ·exact n2 rfl
   ·exact n3 rfl
   ·exact n4 rfl
   ·exact n5 rfl
   ·exact n6 rfl
   ·exact n7 rfl
   ·exact n8 rfl
   ·exact n9 rfl
   ·exact n10 rfl,k⟩
end Mo
namespace Mo
open PySem PySem.Spec PyProof.Rows L2
variable{P:Program}{w:World}{K:PySem.W.Frag}{mg:Str→Option Value}{base:Heap}{t:Yd}
section
variable{c:Cs}{H H1 H' H2:Hp}{A A' A2:Ad}{M M' M2:Mw}{P L:Addr}{K:PySem.W.Frag}
theorem Holds.Wbm(h:Holds c H A M){xs:List V}{o':HO}(hL:H L=some (.lst xs))(n:¬Own c A M L):Holds c (upd H L o') A M:=by
 refine ⟨fun p o e=>?_,h.inj,fun i hi=>Paired.Uao (h.jr i hi) fun _ _ q=>q.put hL trivial,fun i a hi e=>?_,h.wd⟩
 ·rw [Va (fun z=>n ⟨p,Lv.of e,z⟩)];exact h.at_ p o e
 ·obtain ⟨t,x,dx,h1,h2,h3,h4⟩:=h.pend i a hi e;obtain ⟨t,x,dx,h1,h2,h3⟩:=Q2 (i:=i) (o':=o') hL trivial ⟨t,x,dx,h1,h2,h3⟩;exact ⟨t,x,dx,h1,h2,h3,h4⟩
theorem Tb.put{xs:List V}{o':HO}(h:Z9 P H)(hL:H L=some (.lst xs)):Z9 P (upd H L o'):=by
 rcases h with h | ⟨c',h1,h2⟩
 ·exact .inl (by rw [Va (fun z=>by rw [z,hL] at h;cases h)];exact h)
 ·exact .inr ⟨c',by rw [Va (fun z=>by rw [z,hL] at h1;cases h1)];exact h1,by rw [Va (fun z=>by rw [z,hL] at h2;cases h2)];exact h2⟩
def xad(K:PySem.W.Frag)(H:Hp)(ca:Addr)(xs:List V):Prop:=(∃o,H ca=some (.frz o (.lst xs)))∨∃(o:Obj) (Jd:Array Value) (n:Nat),K.lookup ca=some o∧o.cls= .type "list"∧o.dict=none∧o.data= .seq Jd n∧Jd.size≤sizeLine∧Vals xs Jd.toList
theorem xad.sq{ca:Addr}{xs:List V}(h:xad K H ca xs):xb K H ca xs:=by
 rcases h with ⟨o,h⟩ | h
 ·exact .inl (.inr ⟨o,h⟩)
 ·exact .inr h
theorem xad.of{ca:Addr}{xs:List V}(o:zaH P H)(h:xb K H ca xs):xad K H ca xs:=by
 rcases h with (h | ⟨ob,h⟩) | h
 ·by_cases z:ca=P
  ·rw [z,o.1] at h;cases h
  ·rcases o.2 ca z with w | ⟨o1,u1,w⟩
   ·rw [h] at w;cases w
   ·rw [h] at w;cases w
 ·exact .inl ⟨ob,h⟩
 ·exact .inr h
theorem xad.imp{ca:Addr}{xs:List V}(h:xad K H ca xs)(k:∀o,H ca=some (.frz o (.lst xs))→H' ca=some (.frz o (.lst xs))):xad K H' ca xs:=by
 rcases h with ⟨o,h⟩ | h
 ·exact .inl ⟨o,k o h⟩
 ·exact .inr h
theorem xad.kp{ca:Addr}{xs:List V}(h:xad K H ca xs)(hd:Holds c H A M)(tb:Z9 P H)(e:Kp c (fun b=>b=P) H A M H' A' M'):xad K H' ca xs:=
 h.imp fun o q=>(e.keep ca _ (fun z=>by
  obtain ⟨ps,w⟩:=tb.at_
  rw [z,w] at q;cases q) q (hd.QX q id)).1
theorem Wbf{x:Int}{n:Nat}(h:PyVbpoak.shape x=some (n,0)):atI [V.int 4, .int 1, .int 2, .int 2, .int 4, .int 3, .int 1, .int 1, .int 3, .int 2, .int 2, .int 3, .int 3, .int 1, .int 1, .int 0, .int 1, .int 1, .int 2, .int 1, .int 0, .int 0] x=some (V.int (n:Int)):=by
 by_cases e0:x=0
 ·subst e0;have h:some (4,0)=some (n,0):=h;cases h;rfl
 by_cases e1:x=1
 ·subst e1;have h:some (1,0)=some (n,0):=h;cases h;rfl
 by_cases e2:x=2
 ·subst e2;have h:some (2,0)=some (n,0):=h;cases h;rfl
 by_cases e3:x=3
 ·subst e3;have h:some (2,0)=some (n,0):=h;cases h;rfl
 by_cases e4:x=4
 ·subst e4;have h:some (4,0)=some (n,0):=h;cases h;rfl
 by_cases e5:x=5
 ·subst e5;have h:some (3,0)=some (n,0):=h;cases h;rfl
 by_cases e6:x=6
 ·subst e6;have h:some (1,0)=some (n,0):=h;cases h;rfl
 by_cases e7:x=7
 ·subst e7;have h:some (1,0)=some (n,0):=h;cases h;rfl
 by_cases e8:x=8
 ·subst e8;have h:some (3,0)=some (n,0):=h;cases h;rfl
 by_cases e9:x=9
 ·subst e9;have h:some (2,0)=some (n,0):=h;cases h;rfl
 by_cases e10:x=10
 ·subst e10;have h:some (2,0)=some (n,0):=h;cases h;rfl
 by_cases e11:x=11
 ·subst e11;have h:some (3,0)=some (n,0):=h;cases h;rfl
 by_cases e12:x=12
 ·subst e12;have h:some (3,0)=some (n,0):=h;cases h;rfl
 by_cases e13:x=13
 ·subst e13;have h:some (1,0)=some (n,0):=h;cases h;rfl
 by_cases e14:x=14
 ·subst e14;have h:some (1,0)=some (n,0):=h;cases h;rfl
 by_cases e15:x=15
 ·subst e15;have h:some (0,0)=some (n,0):=h;cases h;rfl
 by_cases e16:x=16
 ·subst e16;have h:some (1,0)=some (n,0):=h;cases h;rfl
 by_cases e17:x=17
 ·subst e17;have h:some (1,0)=some (n,0):=h;cases h;rfl
 by_cases e18:x=18
 ·subst e18;have h:some (2,0)=some (n,0):=h;cases h;rfl
 by_cases e19:x=19
 ·subst e19;have h:some (1,0)=some (n,0):=h;cases h;rfl
 by_cases e20:x=20
 ·subst e20;have h:some (0,0)=some (n,0):=h;cases h;rfl
 by_cases e21:x=21
 ·subst e21;have h:some (0,0)=some (n,0):=h;cases h;rfl
 exfalso;unfold PyVbpoak.shape at h;rw [if_neg e0,if_neg e1,if_neg e2,if_neg e3,if_neg e4,if_neg e5,if_neg e6,if_neg e7,if_neg e8,if_neg e9,if_neg e10,if_neg e11,if_neg e12,if_neg e13,if_neg e14,if_neg e15,if_neg e16,if_neg e17,if_neg e18,if_neg e19,if_neg e20,if_neg e21] at h;cases h
theorem Vbh{l pre a post:List Int}(e:l=pre++(a++post)):qaJ (l.map V.int) (some ((pre.length:Nat):Int)) (some ((pre.length+a.length:Nat):Int))=a.map V.int:=by
 subst e;unfold qaJ;rw [HT.VaU,HT.VaU,List.length_map,List.length_append,List.length_append];have h1:min pre.length (pre.length+(a.length+post.length))=pre.length:=by omega
 have h2:min (pre.length+a.length) (pre.length+(a.length+post.length))=pre.length+a.length:=by omega
 rw [h1,h2,List.map_append,List.map_append];have h3:pre.length=(pre.map V.int).length:=by rw [List.length_map]
 rw [h3,List.drop_left,List.length_map];have h4:pre.length+a.length-pre.length=(a.map V.int).length:=by rw [List.length_map];omega
 rw [h4,List.take_left]
theorem uaW(o:List Int)(r:List (List Int)):PyFlat.told (o::r)=((o.length:Int)::o)++PyFlat.told r:=rfl
structure Go(K:PySem.W.Frag)(t:Yd)(P:Addr)(cs:List (List Int))(ca wo L:Addr)(ds rs:List (List Int))(σ:L2.St)(H:Hp):Prop where
 cs_:cs=ds++rs
 ex:∃(A:Ad) (M:Mw) (st:Vbpoak.State) (x y:Option V) (os:List Int),σ= [some (.ref ca),some (.ref wo),some (.ref L),some (.int (ds.flatten.length:Int)),x,y]∧Holds t.c H A M∧A.ad .wo=wo∧Qw M st∧Bd M (2*ds.length) (16001*ds.length)∧Z9 P H∧
  xad K H ca (cs.flatten.map V.int)∧H L=some (.lst (os.map V.int))∧¬Own t.c A M L∧os.length≤5001*ds.length∧PyFlat.told (Qan mw0 cs)=os++PyFlat.told (Qan M rs)
end
def xab(K:PySem.W.Frag)(t:Yd)(P:Addr):Sp:=fun vs H Q _=>∃(ca:Addr) (l:List Int),vs= [.ref ca]∧zaH P H∧xb K H ca (l.map V.int)∧PyVbpoak.answers_asked l=true∧∀H' L,H' L=some (.lst ((PyVbpoak.answers l).map V.int))→Q (.ref L) H'
theorem JaR{kc kp:Addr}(T:Txt K mg t)(B:Lb mg base t kc kp):wb P w K mg base ke 11 t.v8 t.Z6 ["calls"] (xab K t kp):=by
  refine T.YaW.kf Xv fun vs H Q E h=>?_;obtain ⟨ca,l,rfl,only,hsq,xbd,k⟩:=h;refine ⟨rfl,fun _ _ _ _ hr=>⟨_,(Za (qb (i:=1) Xv.nd rfl (Or.inl rfl) (YaK T.za6 (Yag T) hr.m rfl T.Xa7 T.Wak .nil Ka)) (Za (qb (i:=2) Xv.nd rfl (Or.inl rfl) (Qc Qa)) (Za (qb (i:=3) Xv.nd rfl (Or.inl rfl) ua) (Za (Wa4 PassesOwn.never (Kb qax (pv 3) (jd Jc (by rfl) T.Uu PySem.boot_len (za (pv 0) Qa)) (Zc _)) (Za (qb (i:=4) Xv.nd rfl (Or.inl rfl) (Vs qx (Vs qx (pv 3) ua) (Vb Q9 (xa (v:= .ref t.nums) rfl T.VaY rfl) (Vb Xa (pv 0) (pv 3) (fun _ _=>rfl)) (fun _ _=>rfl)))) (Za (qb (i:=5) Xv.nd rfl (Or.inl rfl) (ja (zaI T B) hr.m rfl T.QaN T.y4.kp T.qaM .nil Ka (za (pv 1) (za (Vb Xa (pv 0) (pv 3) (fun _ _=>rfl)) (za (qa6 zbb (pv 0) (JaV (Vs qx (pv 3) ua)) (JaV (pv 4))) Qa))))) (Za (Zd (wy PySem.F.plainAttrs_list PySem.F.slot_list_append PySem.F.type_list_append vh (pv 2) (za (jd Jc (by rfl) T.Uu PySem.boot_len (za (pv 5) Qa)) Qa))) (Za (Zd (wy PySem.F.plainAttrs_list PySem.F.slot_list_extend PySem.F.type_list_extend qaD (pv 2) (za (pv 5) Qa))) (va (qb (i:=3) Xv.nd rfl (Or.inl rfl) (pv 4)))))))) (va (Ja (pv 2))))))),?_⟩⟩;obtain ⟨cs,rfl,Xd,hlen,Kbt⟩:=due xbd;rw [Kbt] at k;have hca:=xad.of only hsq;intro x dx nx nd nxd;refine ⟨x,dx,rfl,Ya,fun H1 A1 Kd qw kw th=>⟨rfl,Nat.zero_le _,fun L hL=>?_⟩⟩;have s1:Ua H H1:=fun b o e=>(kw b o (Qb e nx) (by rw [Va (Qb e nx),Va (Qb e nd)];exact e)).1
  have s2:=s1.trans (Ua.new (o:= .lst []) hL);have zaQ:∀(ds rs:List (List Int)),cs=ds++rs→∀c∈rs,Ok1 c:=fun ds rs e c hc=>Xd c (by rw [e];exact List.mem_append_right _ hc)
  refine ⟨fun m σ H5=>∃ds rs,rs.length=m∧Go K t kp cs ca x L ds rs σ H5,⟨cs.length, [],cs,rfl,rfl,A1,mw0,Vbpoak.start,none,none, [],rfl,Kd.same (Ua.new hL),qw,uat,⟨Nat.zero_le _,Nat.le_refl _,fun _=>Nat.le_refl _,fun _=>Nat.le_refl _,fun _=>Nat.le_refl _,fun _ _ _ e=>by cases e⟩, .inl (s2 _ _ only.1),hca.imp fun o e=>s2 _ _ e,Ya,Kd.own hL,Nat.le_refl _,rfl⟩,?_⟩
  rintro m σ H5 ⟨ds,rs,rfl,hcs,A,M,st,y1,y2,os,rfl,hd,qwo,F,Z,tb,hc5,hL5,nL,hos,hpl⟩
  have ecs:cs.flatten=ds.flatten++rs.flatten:=by rw [hcs,List.flatten_append]
  refine ⟨_,rfl,_,rfl,_,_,rfl, .inl hc5.sq,_,_,rfl,rfl,_,rfl,yg (fun h=>?_) fun h=>?_⟩
  ·cases rs with
   | nil=>
    exfalso;have h:((ds.flatten.length:Nat):Int)<(((cs.flatten.map V.int).length:Nat):Int):=h;rw [List.length_map,ecs] at h;simp at h
   | cons c0 rs=>
    obtain ⟨c,a,rfl,UG,Jbo⟩:=zaQ ds _ hcs c0 List.mem_cons_self;have el:cs.flatten=ds.flatten++(c::a++rs.flatten):=by rw [ecs,List.flatten_cons]
    have hat:atI (cs.flatten.map V.int) ((ds.flatten.length:Nat):Int)=some (V.int c):=at_of (j:=ds.flatten.length) rfl (by rw [el,List.getElem?_map,List.getElem?_append_right (Nat.le_refl _),Nat.sub_self];rfl);have dl:ds.length<400:=by
     have:=congrArg List.length hcs;rw [List.length_append,List.length_cons] at this;omega
    refine ⟨fun σ' H'=>Go K t kp cs ca x L (ds++ [c::a]) rs σ' H',fun σ' H' q=>⟨rs.length,by rw [List.length_cons];omega,ds++ [c::a],rs,rfl,q⟩,?_⟩;refine ⟨_,rfl,_,_,rfl,rfl,_,rfl,_,rfl,_,_,_,_,rfl,rfl,hc5.sq,hat,_,_,_,_,rfl,rfl,T.Uba _,Wbf UG,_,_,rfl,rfl,?_⟩;refine ⟨_,rfl,_,rfl,_,rfl,_,_,_,_,rfl,rfl,hc5.sq,hat,_,rfl,_,rfl,_,_,rfl,rfl,_,rfl,_,rfl,_,rfl,_,_,rfl,hc5.sq,fun g hg=>?_⟩;have ecut:qaJ (cs.flatten.map V.int) (some (((ds.flatten.length:Nat):Int)+1)) (some (((ds.flatten.length:Nat):Int)+1+(a.length:Int)))=a.map V.int:=by
     have:=Vbh (l:=cs.flatten) (pre:=ds.flatten++ [c]) (a:=a) (post:=rs.flatten) (by rw [el];simp);rw [List.length_append] at this;have e1:(((ds.flatten.length+ [c].length:Nat)):Int)=((ds.flatten.length:Nat):Int)+1:=by simp
     have e2:(((ds.flatten.length+ [c].length+a.length:Nat)):Int)=((ds.flatten.length:Nat):Int)+1+(a.length:Int):=by simp
     rw [e1,e2] at this;exact this
    rw [ecut];have s6:=Ua.new (o:= .lst (a.map V.int)) hg;have hd6:=hd.same s6;have tb6:=Tb.same tb s6;refine ⟨A,M,st,c,g,a,2*ds.length,16001*ds.length,by rw [qwo];rfl,hd6,F,Z,by omega,by omega,tb6,Ya,UG,fun H' A' q uQ e' nq hq nown tb'=>?_⟩;obtain ⟨pt6,jbt⟩:=tb6.at_
    have Lp:L≠kp:=fun z=>by rw [z] at hL5;have:=s6 _ _ hL5;rw [jbt] at this;cases this
    obtain ⟨hL7,nL7⟩:=e'.keep L _ Lp (s6 _ _ hL5) nL;have qL:q≠L:=fun z=>by rw [z,s6 _ _ hL5] at nq;cases nq
    have ol:=Zbb F Z (by omega) UG;have hd8:=uQ.Wbm (o':= .lst (os.map V.int++ [.int ((qk M (c::a)).2.length:Int)]++(qk M (c::a)).2.map V.int)) hL7 nL7;have zl:=sizeLine_eq;have fin:((qk M (c::a)).2.map V.int).length=(qk M (c::a)).2.length:=List.length_map ..;refine ⟨_,rfl, .inl ⟨rfl,_,xb.of hL7⟩,_,rfl,_,_,rfl, .inl (xb.of hq),_,_,_,rfl,rfl,hL7,by rw [List.length_map];omega,⟨_,rfl, .inl ⟨rfl,_,xb.of Ya⟩,_,rfl,L,q,_,_,rfl,rfl,Ya,by rw [Va qL];exact hq,by rw [List.length_append,List.length_map,List.length_map];simp only [List.length_cons,List.length_nil];omega,⟨_,rfl,?_⟩⟩⟩;rw [fin,kao];have F8:=(F.step (c:=c::a) ⟨c,a,rfl,UG,Jbo⟩).1;refine ⟨by rw [hcs];simp,A',(qk M (c::a)).1,_,some (.int (((ds.flatten.length:Nat):Int)+1+(a.length:Int))),some (.ref q),os++(((qk M (c::a)).2.length:Int)::(qk M (c::a)).2),?_,hd8,e'.wo.trans qwo,F8,?_,Tb.put tb' hL7,(hc5.imp fun o e=>s6 _ _ e).kp hd6 tb6 e' |>.imp fun o e=>?_,?_,nL7,?_,?_⟩
    ·have e3:(((ds++ [c::a]).flatten.length:Nat):Int)=((ds.flatten.length:Nat):Int)+1+(a.length:Int):=by
      rw [List.flatten_append,List.length_append];simp;omega
     rw [e3];rfl
    ·rw [List.length_append];exact (Z.step (by omega) UG).mono (by simp only [List.length_cons,List.length_nil];omega) (by simp only [List.length_cons,List.length_nil];omega)
    ·rw [Va (fun z=>by rw [z,hL7] at e;cases e)];exact e
    ·rw [Ya];simp
    ·rw [List.length_append,List.length_append,List.length_cons];simp only [List.length_cons,List.length_nil];omega
    ·rw [hpl];show os++PyFlat.told ((qk M (c::a)).2::Qan (qk M (c::a)).1 rs)=_;rw [uaW,List.append_assoc]
  ·cases rs with
   | nil=>
    have hpl:PyFlat.told (Qan mw0 cs)=os:=by rw [hpl];exact List.append_nil _
    refine ⟨_,rfl,k H5 L ?_⟩;rw [hpl];exact hL5
   | cons c0 rs=>
    exfalso;obtain ⟨c,a,rfl,_⟩:=zaQ ds _ hcs c0 List.mem_cons_self;refine h ?_;show ((ds.flatten.length:Nat):Int)<(((cs.flatten.map V.int).length:Nat):Int);rw [List.length_map,ecs,List.length_append,List.flatten_cons,List.length_append,List.length_cons];omega
end Mo
namespace Mo
open PySem PySem.Spec PyProof.Rows L2
abbrev vf(x qual:Str)(st:Stmt)(pm:Str)(tk:Tok)(cd:Addr):FuncData:=PySem.W.fnOf x qual (Q3 st) (xG st) (ka st) .none .none .none (.str pm tk) none (.ref cd) .none
def t0:Yd where
 c:=⟨31,59,87,108,250,271,321⟩
 uaU:=189
 jaK:=191
 UaU:=193
 uam:=195
 wat:=197
 YaB:=199
 Uaa:=201
 yaK:=203
 jam:=205
 kat:=207
 zaD:=209
 qaf:=211
 YJ:=213
 jN:=215
 vaf:=217
 kaJ:=566
 jas:=568
 ybb:=570
 KaB:=572
 JaJ:=574
 Uat:=576
 uaA:=777
 zaU:=780
 KaC:=783
 QaV:=786
 ZaK:=789
 Zam:=792
 qaU:=795
 xas:=798
 Kaf:=800
 Uam:=802
 u7:=804
 Vaa:=806
 zam:=808
 yV:=810
 V7:=812
 KZ:=908
 Vam:=910
 waf:=912
 Qaf:=914
 z7:=916
 Jaa:=918
 wZ:=920
 qZ:=922
 ZK:=924
 xZ:=1209
 Kaa:=1211
 VV:=1213
 yZ:=1215
 uP:=1217
 nums:=741
 Js:=28
 Wt:=49
 Zu:=56
 yu:=77
 uw:=84
 QA:=105
 Yq:=126
 Yu:=131
 uo:=136
 Ws:=141
 JF:=146
 zA:=153
 Qt:=160
 Zt:=167
 Zm:=174
 um:=181
 Ui:=188
 wj:=195
 Yk:=202
 uh:=209
 Xl:=216
 xi:=223
 jq:=230
 Ki:=237
 vk:=242
 Ut:=247
 Qo:=268
 yt:=289
 YF:=294
 Ks:=301
 Xt:=306
 Jm:=311
 WJ:=318
 J7:=332
 UaD:=339
 Kz:=346
 uJ:=353
 Wz:=360
 qF:=367
 wI:=374
 zx:=381
 Vz:=388
 z6:=395
 ZJ:=402
 U6:=409
 YO:=416
 Y6:=423
 QP:=430
 Zae:=437
 ZaD:=444
 vI:=451
 jaD:=458
 Yw:=465
 Wq:=472
 Kao:=479
 Q8:=486
 yao:=493
 XaA:=500
 Jao:=507
 J5:=514
 u5:=521
 kx:=528
 YaD:=535
 JaP:=542
 Uz:=549
 wae:=556
 zF:=563
 van:=570
 XW:=577
 wq:=584
 ZaB:=591
 xq:=598
 zae:=605
 vo:=612
 vP:=619
 vz:=626
 ZX:=633
 Q7:=640
 wW:=647
 KI:=654
 KO:=661
 JI:=668
 uO:=675
 kF:=682
 YA:=689
 zO:=694
 WO:=701
 jF:=708
 v7:=713
 W7:=720
 qK:=725
 JE:=730
 vX:=735
 WE:=740
 v8:=748
 QO:=755
 Xq:=762
 wt:=vf "__init__" "Grant.__init__" ZE "moneyorders.journals" 187 27
 zu:=vf "__init__" "Order.__init__" yE "moneyorders.journals" 187 48
 Vu:=vf "standing" "Order.standing" wD "moneyorders.journals" 187 55
 Xs:=vf "__init__" "Claim.__init__" JD "moneyorders.journals" 187 76
 Vw:=vf "may_pay" "Claim.may_pay" UH "moneyorders.journals" 187 83
 VA:=vf "__init__" "Act.__init__" uL "moneyorders.journals" 187 104
 yq:=vf "__init__" "Office.__init__" uA "moneyorders.journals" 187 125
 Qu:=vf "brought" "Office.brought" WD "moneyorders.journals" 187 130
 Vo:=vf "acts_done" "Office.acts_done" Wx "moneyorders.journals" 187 135
 xt:=vf "cash_of" "Office.cash_of" zE "moneyorders.journals" 187 140
 vF:=vf "book" "Office.book" WQ "moneyorders.journals" 187 145
 Jz:=vf "bring" "Office.bring" uM "moneyorders.journals" 187 152
 ku:=vf "perform" "Office.perform" VE "moneyorders.journals" 187 159
 qu:=vf "come_up" "Office.come_up" kE "moneyorders.journals" 187 166
 zm:=vf "write_begun" "Office.write_begun" Qs "moneyorders.journals" 187 173
 Wm:=vf "write_done" "Office.write_done" wu "moneyorders.journals" 187 180
 Ji:=vf "write_not_done" "Office.write_not_done" Xm "moneyorders.journals" 187 187
 Uj:=vf "write_granted" "Office.write_granted" zp "moneyorders.journals" 187 194
 Vk:=vf "write_closed" "Office.write_closed" Jp "moneyorders.journals" 187 201
 Uh:=vf "write_given_back" "Office.write_given_back" kl "moneyorders.journals" 187 208
 xl:=vf "write_known" "Office.write_known" Zs "moneyorders.journals" 187 215
 Xi:=vf "write_given_up" "Office.write_given_up" xm "moneyorders.journals" 187 222
 Vq:=vf "claim_of" "Office.claim_of" UA "moneyorders.journals" 187 229
 ui:=vf "claim_to_write" "Office.claim_to_write" Zn "moneyorders.journals" 187 236
 xh:=vf "known_claims" "Office.known_claims" Up "moneyorders.journals" 187 241
 Jt:=vf "payable" "Office.payable" qE "moneyorders.journals" 187 246
 Ko:=vf "__init__" "Message.__init__" Ux "moneyorders.world" 564 267
 Vt:=vf "__init__" "World.__init__" XD "moneyorders.world" 564 288
 xE:=vf "renew" "World.renew" uR "moneyorders.world" 564 293
 qt:=vf "clock_of" "World.clock_of" vE "moneyorders.world" 564 300
 vt:=vf "all_cash" "World.all_cash" QE "moneyorders.world" 564 305
 wm:=vf "all_records" "World.all_records" Wu "moneyorders.world" 564 310
 wJ:=vf "send" "World.send" uY "moneyorders.world" 564 317
 u6:=vf "home_of" "home_of" Zak "moneyorders.world" 564 331
 kaB:=vf "take" "take" ZaO "moneyorders.delivery" 694 338
 qA:=vf "plain_answer" "plain_answer" UL "moneyorders.delivery" 694 345
 UJ:=vf "take_may_i" "take_may_i" ZY "moneyorders.delivery" 694 352
 vA:=vf "take_you_may" "take_you_may" jL "moneyorders.delivery" 694 359
 UE:=vf "take_i_paid" "take_i_paid" WR "moneyorders.delivery" 694 366
 vJ:=vf "take_never" "take_never" qY "moneyorders.delivery" 694 373
 Vx:=vf "grant_told_of" "grant_told_of" kH "moneyorders.delivery" 694 380
 Xz:=vf "take_did_you" "take_did_you" QM "moneyorders.delivery" 694 387
 Z7:=vf "outside" "outside" Uai "moneyorders.refusals" 774 394
 yI:=vf "bad_number" "bad_number" VY "moneyorders.refusals" 774 401
 V6:=vf "bad_key" "bad_key" Kai "moneyorders.refusals" 774 408
 jO:=vf "bad_grant" "bad_grant" J3 "moneyorders.refusals" 774 415
 X6:=vf "bad_cut" "bad_cut" qaj "moneyorders.refusals" 774 422
 VO:=vf "no_office" "no_office" W4 "moneyorders.refusals" 774 429
 xae:=vf "not_up" "not_up" jar "moneyorders.refusals" 774 436
 KaA:=vf "down" "down" VaO "moneyorders.refusals" 774 443
 WI:=vf "no_message" "no_message" UX "moneyorders.refusals" 774 450
 UaA:=vf "full" "full" vaO "moneyorders.refusals" 774 457
 jw:=vf "too_much_cash" "too_much_cash" vH "moneyorders.refusals" 774 464
 zr:=vf "too_many_issues" "too_many_issues" yB "moneyorders.refusals" 774 471
 vao:=vf "begin" "begin" xaD "moneyorders.calls" 906 478
 W5:=vf "pass_on" "pass_on" Yai "moneyorders.calls" 906 485
 Wan:=vf "clock" "clock" YaE "moneyorders.calls" 906 492
 vaA:=vf "fill" "fill" waO "moneyorders.calls" 906 499
 jao:=vf "issue" "issue" kaE "moneyorders.calls" 906 506
 X5:=vf "present" "present" Kaj "moneyorders.calls" 906 513
 K6:=vf "deliver" "deliver" Zaj "moneyorders.calls" 906 520
 Zw:=vf "undeliverable" "undeliverable" JH "moneyorders.calls" 906 527
 zaB:=vf "lose" "lose" WaO "moneyorders.calls" 906 534
 KaP:=vf "pay" "pay" va0 "moneyorders.calls" 906 541
 wz:=vf "why_not_paid" "why_not_paid" KL "moneyorders.calls" 906 548
 Yae:=vf "giveup" "giveup" Uar "moneyorders.calls" 906 555
 yF:=vf "not_payable" "not_payable" vR "moneyorders.calls" 906 562
 Yao:=vf "query" "query" qaF "moneyorders.calls" 906 569
 zX:=vf "question" "question" Yab "moneyorders.calls" 906 576
 uq:=vf "nothing_granted" "nothing_granted" jB "moneyorders.calls" 906 583
 UaB:=vf "tell" "tell" zaO "moneyorders.calls" 906 590
 Jq:=vf "nothing_to_tell" "nothing_to_tell" VB "moneyorders.calls" 906 597
 kae:=vf "refund" "refund" qas "moneyorders.calls" 906 604
 Jo:=vf "why_not_refunded" "why_not_refunded" wx "moneyorders.calls" 906 611
 wO:=vf "cut_power" "cut_power" V4 "moneyorders.calls" 906 618
 jz:=vf "count_drawer" "count_drawer" xK "moneyorders.calls" 906 625
 jX:=vf "still_up" "still_up" jab "moneyorders.calls" 906 632
 z8:=vf "counted" "counted" qak "moneyorders.calls" 906 639
 VX:=vf "go_round" "go_round" Xab "moneyorders.calls" 906 646
 kJ:=vf "ask_unsent" "ask_unsent" XX "moneyorders.calls" 906 653
 kO:=vf "with_rows" "with_rows" X3 "moneyorders.reports" 1207 660
 uI:=vf "see_office" "see_office" YY "moneyorders.reports" 1207 667
 UO:=vf "see_order" "see_order" j4 "moneyorders.reports" 1207 674
 QF:=vf "order_state" "order_state" UR "moneyorders.reports" 1207 681
 ZA:=vf "standing_row" "standing_row" VM "moneyorders.reports" 1207 688
 qO:=vf "see_claim" "see_claim" U4 "moneyorders.reports" 1207 693
 XN:=vf "claim_row" "claim_row" x4 "moneyorders.reports" 1207 700
 ZF:=vf "see_message" "see_message" XQ "moneyorders.reports" 1207 707
 w6:=vf "see_net" "see_net" Xai "moneyorders.reports" 1207 712
 j7:=vf "net_row" "net_row" Jaj "moneyorders.reports" 1207 719
 YI:=vf "known_paid" "known_paid" KY "moneyorders.reports" 1207 724
 wF:=vf "really_paid" "really_paid" QR "moneyorders.reports" 1207 729
 kX:=vf "see_sums" "see_sums" qac "moneyorders.reports" 1207 734
 uF:=vf "done_at_all" "done_at_all" YR "moneyorders.reports" 1207 739
 Z6:=vf "answers" "answers" Uaj "moneyorders.offices" 1329 747
 JO:=vf "answer_of" "answer_of" j3 "moneyorders.offices" 1329 754
 vq:=vf "later_answer_of" "later_answer_of" wB "moneyorders.offices" 1329 761
theorem naM{K:PySem.W.Frag}{C:Addr}{f:Str}(h:PySem.W.findIn K (.ref C) f=some none):qc K C f:=h
theorem Ybr{K:PySem.W.Frag}{a:Addr}{xs:List V}{od:Option Addr}{Jd:Array Value}{nn:Nat}{osl:Array (Option Value)}(hn:K.lookup a=some ⟨.type "tuple",od, .seq Jd nn,osl⟩)(hz:Jd.size≤sizeLine)(hv:Vals xs Jd.toList):∀H:Hp,vQ K H a xs:=fun H=> .inr ⟨_,Jd,nn,hn,rfl,rfl,hz,hv⟩
theorem qbs{w:World}{P:Program}{K:PySem.W.Frag}{mg:Str→Option Value}{fa:Addr}(hmg:mg "answers"=some (.ref fa))(T:Txt K mg t0):∃fd:FuncData,(∀(s:Shared) (us:List Value),us.length=(["calls"]:List Str).length→BindsTo s fd ⟨us, []⟩ ((["calls"]:List Str).zip us))∧
  ∀base:Heap,K.In base→base.Ns mainGlobals mg→Bm mg base 241 239→wb P w K mg base ke 11 fa fd ["calls"] (xab K t0 239):=by
 have e:=hmg.symm.trans T.vaW;cases e;exact ⟨t0.Z6,fun s us hu=>match us,hu with | [_],_=> .of_eq rfl,fun base _ _ hB=>JaR T ⟨hB,rfl⟩⟩
end Mo
open PySem PySem.W PyProof.Rows
theorem PySem.W.Fast.te13052408679150730464:True:=trivial
theorem PySem.W.Fast.te4110290226886642065:True:=trivial
theorem PySem.W.Fast.te5369427470323729400:True:=trivial
theorem PySem.W.Fast.te12305933238918452080:True:=trivial
theorem PySem.W.Fast.te4868988410673395695:True:=trivial
theorem PySem.W.Fast.te16555476440528808052:True:=trivial
theorem PySem.W.Fast.te5452508617037859911:True:=trivial
local macro_rules | `(tactic| o_headS ($_ $K $as $e))=> `(tactic| o_headS (PySem.W.kmHook $K $as $e [239]))
set_option maxHeartbeats 0 in
theorem PySem.Challenge.cw_moneyorders_s01_answers_holds : PySem.Challenge.rw_moneyorders_s01_answers.Holds := by
 w_on;k_headS;(case hw=>exact ⟨[.list [.int 21]],by decide+kernel,by decide+kernel⟩)
 k_fillS
 refine L2.kaQ (r:=PySem.Challenge.rw_moneyorders_s01_answers) (k:=11) (CX:=L2.ke) (ps:= ["calls"]) (c0:=241) (P0:=239) (sp:=fun K=>Mo.xab K Mo.t0 239) (by decide+kernel) rfl ⟨rfl,by decide,by decide⟩ (fun w h Y=>⟨PySem.W.km_in_of Y,PySem.W.km_tabs_of Y 239 (.head _)⟩) (fun p=>by kernel_rfl) (fun p=>by kernel_rfl) ?F ?S (fun _ _ _ _ z=>z)
 case F=>
  intro w mg fa h KX G hmg;have T:Mo.Txt (PySem.Challenge.cw_moneyorders_s01_answers_holds.heap_1 w.params) mg Mo.t0:=by
   constructor
   ·constructor;all_goals first | exact Mo.naM (by k_is) | exact L2.va1 (by k_is) (by k_is) (by k_is) | exact mg_of KX G (by k_is) | exact mg_none_of KX G (by k_is) | exact Mo.Ybr (by k_is) (by decide) (by repeat (first | exact .nil | refine .cons ⟨_,rfl⟩ ?_)) | exact ⟨by k_is,by k_is,by k_is,by k_is⟩
   all_goals first | exact L2.va1 (by k_is) (by k_is) (by k_is) | exact mg_of KX G (by k_is) | exact ⟨by k_is,by k_is,by k_is⟩ | exact ⟨by k_is,by k_is,by k_is,by k_is⟩
  exact Mo.qbs hmg T
 case S=>
  intro K H xs a hO hwi xbd hx;cases hx with
  | cons h1 h2=>
   cases h2;cases h1 with
   | lst hs ha=>
    have e:=L2.kaU a.1 _ ha;subst e;exact ⟨_,a.1,rfl,hO,hs,xbd,fun H' p hp=> .lst (L2.xb.of hp) (L2.jaU _)⟩
