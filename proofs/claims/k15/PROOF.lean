import PyProof.Rows.All
import Wide.All
import OpenK.AllK
import Wide.FinOn
import Lean
import PyProof.EqAt
import PyProof.EqKinds
import PyProof.TupleCall
import PySem.SetOps
import KE.KSortTup
import PyProof.Rows.SortShellK
import KE.KDictSum
import PyProof.Rows.StrJoin2
import PyProof.Rows.SumAny
import KE.KxText
import PyProof.ZipIter
import PyProof.Rows.FactsT2
import PyProof.Rows.ZipGen
import PyProof.StrOps2
import PyProof.ListRange
import PyProof.ListStr
import PyProof.FString5
import PyProof.AutoSeq1
import PyProof.MinMaxWalk
import PyProof.WalksMore
import PyProof.Rows.CallKwBuiltin
import KE.KMinKey
import PyProof.Rows.BitMore
import KE.KLam
import PySem.Challenge.RW_corepetals_k15_greatest_flowers
set_option Elab.async false
set_option linter.all false
set_option maxRecDepth 100000
namespace L2
open PySem PySem.Spec PyProof.Rows
abbrev Key:=Sum Int Str
def cJv:Key->Value->Bool
 | .inl k,v=>Value.isInt k v
 | .inr x,v=>Value.isStrOf x v
def keyH (w:World):Key->Int
 | .inl k=>hashInt k
 | .inr x=>hashStr w x
theorem aQj:∀ {k:Key} {v:Value},cJv k v=true->(∃ i t,k=Sum.inl i/\v=Value.int i t)\/(∃ x t,k=Sum.inr x/\v=Value.str x t)
 | .inl i,v,h=>by
  obtain⟨t,e⟩:=Value.isInt_shape (k:=i) (v:=v) h;exact .inl ⟨i,t,rfl,e⟩
 | .inr x,v,h=>by
  obtain⟨t,e⟩:=Value.isStrOf_shape (x:=x) (v:=v) h;exact .inr ⟨x,t,rfl,e⟩
theorem eZ9 (a b:Int):decide ((Sum.inl a:Key)=Sum.inl b)=(a == b):=by
 by_cases e:a=b
 ·subst e;simp
 ·have h:¬ (Sum.inl a:Key)=Sum.inl b:=fun q=>e (Sum.inl.inj q);rw[decide_eq_false h];exact(beq_eq_false_iff_ne.mpr e).symm
theorem eZa (a b:Str):decide ((Sum.inr a:Key)=Sum.inr b)=decide (a=b):=by
 by_cases e:a=b
 ·subst e;simp
 ·have h:¬ (Sum.inr a:Key)=Sum.inr b:=fun q=>e (Sum.inr.inj q);rw[decide_eq_false h,decide_eq_false e]
theorem eZb (a:Int) (b:Str):decide ((Sum.inl a:Key)=Sum.inr b)=false:=decide_eq_false (fun q=>nomatch q)
theorem eZc (a:Str) (b:Int):decide ((Sum.inr a:Key)=Sum.inl b)=false:=decide_eq_false (fun q=>nomatch q)
def aJa (prog:Program) (w:World):PySem.KeyKind prog w Key where
 is:=cJv
 hash:=keyH w
 inj:=fun v a b ha hb=>by
  rcases aQj ha with⟨i,t,rfl,rfl⟩ | ⟨x,t,rfl,rfl⟩
  ·rcases aQj hb with⟨j,u,rfl,e⟩ | ⟨y,u,rfl,e⟩
   ·injection e with e1 _;rw[e1]
   ·exact nomatch e
  ·rcases aQj hb with⟨j,u,rfl,e⟩ | ⟨y,u,rfl,e⟩
   ·exact nomatch e
   ·injection e with e1 _;rw[e1]
 byValue:=fun k v h=>by
  rcases aQj h with⟨i,t,rfl,rfl⟩ | ⟨x,t,rfl,rfl⟩ <;> rfl
 pyHash:=fun hv h=>by
  rcases aQj hv with⟨i,t,rfl,rfl⟩ | ⟨x,t,rfl,rfl⟩
  ·exact wpAny_pyHash_int h
  ·exact wpAny_pyHash_str h
 eqBool:=fun hu hv h=>by
  rcases aQj hu with⟨i,t,rfl,rfl⟩ | ⟨x,t,rfl,rfl⟩
  ·rcases aQj hv with⟨j,u,rfl,rfl⟩ | ⟨y,u,rfl,rfl⟩
   ·rw[eZ9] at h;exact wpAny_eqBool_int h
   ·rw[eZb] at h;exact SeqAt.EqAt.int_str i t y u _ _ _ _ h
  ·rcases aQj hv with⟨j,u,rfl,rfl⟩ | ⟨y,u,rfl,rfl⟩
   ·rw[eZc] at h;exact SeqAt.EqAt.str_int x t j u _ _ _ _ h
   ·rw[eZa] at h;exact wpAny_eqBool_str h
 «strs»:=fun k x t v h=>by
  rcases aQj h with⟨i,u,rfl,e⟩ | ⟨y,u,rfl,e⟩
  ·exact nomatch e
  ·injection e with e1 _
   subst e1;cases v <;> rfl
inductive V where
 | non | bl (b:Bool) | int (i:Int) | str (x:Str) | byt (b:Array UInt8) | flt (b:UInt64) | ref (a:Addr) | ty (n:String)
 deriving DecidableEq
def RelV:V->Value->Prop
 | .non,u=>u=Value.none
 | .bl b,u=>u=Value.bool b
 | .int i,u=>∃ t,u=Value.int i t
 | .str x,u=>∃ t,u=Value.str x t
 | .byt b,u=>∃ t,u=Value.bytes b t
 | .flt b,u=>∃ t,u=Value.float b t
 | .ref a,u=>u=Value.ref a
 | .ty n,u=>u=Value.type n
abbrev Vals:List V->List Value->Prop:=Paired RelV
theorem Vals.length {xs:List V} {us:List Value} (r:Vals xs us):xs.length=us.length:=Paired.length r
theorem Vals.get:∀ {xs:List V} {us:List Value} {i:Nat} {x:V},Vals xs us->xs[i]?=some x->∃ u,us[i]?=some u/\RelV x u
 | _,_,_,_,.nil,e=>by simp at e
 | _,_,0,_,.cons r _,e=>by simp at e;subst e;exact⟨_,rfl,r⟩
 | _,_,i + 1,x,.cons _ t,e=>by
  obtain⟨u,h1,h2⟩:=Vals.get (i:=i) (x:=x) t (by simpa using e)
  exact⟨u,by simpa using h1,h2⟩
theorem Vals.append:∀ {xs ys:List V} {us ws:List Value},Vals xs us->Vals ys ws->Vals (xs++ys) (us++ws)
 | _,_,_,_,.nil,s=>s
 | _,_,_,_,.cons r t,s=>.cons r (Vals.append t s)
theorem Vals.take:∀ {xs:List V} {us:List Value} (n:Nat),Vals xs us->Vals (xs.take n) (us.take n)
 | _,_,0,_=>.nil
 | _,_,_ + 1,.nil=>.nil
 | _,_,n + 1,.cons r t=>.cons r (Vals.take n t)
theorem Vals.drop:∀ {xs:List V} {us:List Value} (n:Nat),Vals xs us->Vals (xs.drop n) (us.drop n)
 | _,_,0,r=>r
 | _,_,_ + 1,.nil=>.nil
 | _,_,n + 1,.cons _ t=>Vals.drop n t
def RelO:Option V->Option Value->Prop
 | some v,some u=>RelV v u
 | none,none=>True
 | _,_=>False
def KV {κ:Type}:List (κ × V)->List (κ × Value)->Prop:=Paired fun(p:κ × V) (q:κ × Value)=>p.1=q.1/\RelV p.2 q.2
def kV:Key->V
 | .inl i=>.int i
 | .inr x=>.str x
inductive HO where
 | lst (xs:List V)
 | tup (xs:List V)
 | dK (kvs:List (Key × V)) | dT (kvs:List (List Key × V))
 | set (S:Int->Bool) (n:Nat)
 | ins (C dx:Addr) (fs:List (Str × V))
 | own (x:Addr)
 | xd (fs:List (Str × V))
 | met (f x:Addr)
 | rng (lo hi:Int)
 | frz (o:Obj) (u:HO)
 | tbl (ps:Array Value)
 | ext (φ:Heap->Prop)
abbrev Hp:=Addr->Option HO
def upd (H:Hp) (a:Addr) (o:HO):Hp:=fun b=>if b=a then some o else H b
theorem aQ6 {H:Hp} {a:Addr} {o:HO}:upd H a o a=some o:=by unfold upd;rw[if_pos rfl]
theorem upd_ne {H:Hp} {a b:Addr} {o:HO} (h:b≠a):upd H a o b=H b:=by unfold upd;rw[if_neg h]
theorem aQc {H:Hp} {a b:Addr} {o:HO} (h:H a=some o) (h':H b=none):a≠b:=by
 intro e;subst e;rw[h] at h';cases h'
section
variable (P:Program) (w:World)
def ObjOk (H:Hp) (h:Heap) (a:Addr):HO->Prop
 | .lst xs=>xs.length<=sizeLine/\∃ (its:List Value) (n:Nat),Vals xs its/\h.get? a=some { cls:=.type "list",data:=.seq its.toArray n }
 | .tup xs=>xs.length<=sizeLine/\∃ its:List Value,Vals xs its/\IsTup h a its.toArray
 | .dK kvs=>kvs.length<=sizeLine/\(a == sysModules)=false/\∃ vs,KV kvs vs/\h.DictOf (aJa P w) a vs
 | .dT kvs=>kvs.length<=sizeLine/\(a == sysModules)=false/\∃ xs:List (List Key × Addr × Value),
   Paired (fun(p:List Key × V) (q:List Key × Addr × Value)=>p.1=q.1/\H q.2.1=some (.tup (p.1.map kV))/\RelV p.2 q.2.2) kvs xs /\
   ∃ o es ep,h.get? a=some o/\o.ExactDict/\o.data=.dict es ep/\es.toList=xs.map (entryOfKey (tupleKind (aJa P w)))/\(xs.map (·.1)).Nodup
 | .set S n=>h.SetOf (intKind P w) a S n
 | .ins C dx fs=>H dx=some (.own a)/\fs.length<=1000/\dx≠a/\h.get? a=some (PySem.W.instObj C dx) /\
   ∃ mA,h.Ns1 dx mA/\(∀ f,RelO (fs.lookup f) (mA f))/\PySem.Within mA (fs.map (·.1))
 | .own _=>∃ o,h.get? a=some o
 | .xd fs=>∃ mA,h.Ns1 a mA/\∀ f,RelO (fs.lookup f) (mA f)
 | .rng lo hi=>∃ t u v,h.get? a=some { cls:=.type "range",data:=.fields #[.int lo t,.int hi u,.int 1 v] }
 | .frz o u=>h.get? a=some o/\ObjOk H h a u
 | .tbl ps=>h.get? a=some { cls:=.none,data:=.fields ps }
 | .met f x=>h.get? a=some (PySem.W.methodObj (.ref f) (.ref x))
 | .ext φ=>φ h/\(∃ o,h.get? a=some o)/\∀ h1 h2:Heap,φ h1->(∀ o,h1.get? a=some o->h2.get? a=some o)->φ h2
def HOk (H:Hp) (h:Heap):Prop:=∀ a o,H a=some o->ObjOk P w H h a o
end
section
variable {P:Program} {w:World} {H H':Hp} {h h':Heap} {a:Addr} {o:HO}
theorem ObjOk.lt (x:ObjOk P w H h a o):a < h.objs.size:=by
 cases o with
 | lst xs=>obtain⟨_,_,_,_,e⟩:=x;exact Heap.lt_size e
 | tup xs=>obtain⟨_,_,_,p⟩:=x;exact p.lt
 | dK kvs=>obtain⟨_,_,_,_,o,_,_,e,_⟩:=x;exact Heap.lt_size e
 | dT kvs=>obtain⟨_,_,_,_,o,_,_,e,_⟩:=x;exact Heap.lt_size e
 | set S n=>obtain⟨o,_,_,_,e,_⟩:=x;exact Heap.lt_size e
 | ins C dx fs=>obtain⟨_,_,_,e,_⟩:=x;exact Heap.lt_size e
 | own y=>obtain⟨_,e⟩:=x;exact Heap.lt_size e
 | xd fs=>obtain⟨_,⟨_,_,_,e,_⟩,_⟩:=x;exact Heap.lt_size e
 | rng lo hi=>obtain⟨_,_,_,e⟩:=x;exact Heap.lt_size e
 | frz ob u=>obtain⟨e,_⟩:=x;exact Heap.lt_size e
 | tbl ps=>exact Heap.lt_size (show h.get? a=some _ from x)
 | met f y=>exact Heap.lt_size (show h.get? a=some _ from x)
 | ext φ=>obtain⟨_,⟨_,e⟩,_⟩:=x;exact Heap.lt_size e
theorem Paired.mapP {α β:Type} {F G:α->β->Prop}:∀ {l₁:List α} {l₂:List β},Paired F l₁ l₂->(∀ a b,F a b->G a b)->Paired G l₁ l₂
 | _,_,.nil,_=>.nil
 | _,_,.cons r t,f=>.cons (f _ _ r) (Paired.mapP t f)
theorem ObjOk.stay (x:ObjOk P w H h a o) (k:∀ b u,(b=a\/H b=some (.own a))->h.get? b=some u->h'.get? b=some u)
  (ho:∀ b,H b=some (.own a)->H' b=some (.own a)) (ht:∀ b xs,H b=some (.tup xs)->H' b=some (.tup xs)):ObjOk P w H' h' a o:=by
 induction o with
 | lst xs=>obtain⟨z,its,n,r,e⟩:=x;exact⟨z,its,n,r,k _ _ (.inl rfl) e⟩
 | tup xs=>obtain⟨z,its,r,ob,e,c⟩:=x;exact⟨z,its,r,ob,k _ _ (.inl rfl) e,c⟩
 | dK kvs=>obtain⟨z,y,vs,r,ob,es,ep,e,c⟩:=x;exact⟨z,y,vs,r,ob,es,ep,k _ _ (.inl rfl) e,c⟩
 | dT kvs =>
  obtain⟨z,y,xs,r,ob,es,ep,e,c⟩:=x;exact⟨z,y,xs,Paired.mapP r fun p q z=>⟨z.1,ht _ _ z.2.1,z.2.2⟩,ob,es,ep,k _ _ (.inl rfl) e,c⟩
 | set S n=>obtain⟨ob,es,ep,t,e,c⟩:=x;exact⟨ob,es,ep,t,k _ _ (.inl rfl) e,c⟩
 | ins C dx fs =>
  obtain⟨d,z,ne,e,mA,⟨od,es,ep,e2,c⟩,r⟩:=x;exact⟨ho _ d,z,ne,k _ _ (.inl rfl) e,mA,⟨od,es,ep,k _ _ (.inr d) e2,c⟩,r⟩
 | own y=>obtain⟨ob,e⟩:=x;exact⟨ob,k _ _ (.inl rfl) e⟩
 | xd fs=>obtain⟨mA,⟨od,es,ep,e,c⟩,r⟩:=x;exact⟨mA,⟨od,es,ep,k _ _ (.inl rfl) e,c⟩,r⟩
 | rng lo hi=>obtain⟨t,u,v,e⟩:=x;exact⟨t,u,v,k _ _ (.inl rfl) e⟩
 | frz ob u ih=>obtain⟨e,q⟩:=x;exact⟨k _ _ (.inl rfl) e,ih q⟩
 | tbl ps =>
  have e:h.get? a=some { cls:=.none,data:=.fields ps }:=x;show h'.get? a=some { cls:=.none,data:=.fields ps };exact k a _ (.inl rfl) e
 | met f y =>
  have e:h.get? a=some (PySem.W.methodObj (.ref f) (.ref y)):=x;show h'.get? a=some (PySem.W.methodObj (.ref f) (.ref y));exact k a _ (.inl rfl) e
 | ext φ=>obtain⟨p,⟨o,e⟩,st⟩:=x;exact⟨st _ _ p fun o q=>k _ _ (.inl rfl) q,⟨o,k _ _ (.inl rfl) e⟩,st⟩
theorem HOk.lt (x:HOk P w H h) (e:H a=some o):a < h.objs.size:=(x a o e).lt
theorem HOk.fresh (x:HOk P w H h) (e:h.objs.size<=a):H a=none:=by
 cases q:H a with
 | none=>rfl
 | some u=>exact absurd (Nat.lt_of_lt_of_le (x.lt q) e) (Nat.lt_irrefl _)
theorem HOk.kept (x:HOk P w H h) (k:∀ b u,h.get? b=some u->h'.get? b=some u):HOk P w H h':=fun a o e =>
 (x a o e).stay (fun b u _ q=>k b u q) (fun _ q=>q) fun _ _ q=>q
theorem HOk.laid (x:HOk P w H h) (k:∀ b u,h.get? b=some u->h'.get? b=some u) (hp:h.objs.size<=a) (new:ObjOk P w (upd H a o) h' a o):HOk P w (upd H a o) h':=fun b u e=>by
 have hn:=x.fresh hp
 by_cases hb:b=a
 ·subst hb;rw[aQ6] at e;cases e;exact new
 ·rw[upd_ne hb] at e;exact(x b u e).stay (fun c v _ q=>k c v q) (fun c q=>by rw[upd_ne (aQc q hn)];exact q) fun c xs q=>by rw[upd_ne (aQc q hn)];exact q
end
def Rd (H:Hp) (a:Addr) (u:HO):Prop:=H a=some u\/∃ o,H a=some (.frz o u)
theorem Rd.ok {P:Program} {w:World} {H:Hp} {h:Heap} {a:Addr} {u:HO} (r:Rd H a u) (x:HOk P w H h):ObjOk P w H h a u:=by
 rcases r with r | ⟨o,r⟩
 ·exact x a u r
 ·obtain⟨_,q⟩:=x a _ r;exact q
def Mut:Option HO->Prop
 | some (.lst _)=>True
 | some (.dK _)=>True
 | some (.dT _)=>True
 | some (.set _ _)=>True
 | some (.ins _ _ _)=>True
 | some (.ext _)=>True
 | _=>False
section
variable {P:Program} {w:World} {H:Hp} {h h':Heap} {x e:Addr} {o':HO}
theorem HOk.write (ok:HOk P w H h) (mu:Mut (H x)) (he:e=x\/H e=some (.own x)) (k:∀ b u,b≠e->h.get? b=some u->h'.get? b=some u) (heo:∃ u,h'.get? e=some u)
  (new:ObjOk P w (upd H x o') h' x o'):HOk P w (upd H x o') h':=fun b u q=>by
 have nown:∀ c y,H c=some (.own y)->c≠x:=fun c y r z=>by subst z;rw[r] at mu;exact mu
 have ntup:∀ c xs,H c=some (.tup xs)->c≠x:=fun c xs r z=>by subst z;rw[r] at mu;exact mu
 by_cases hb:b=x
 ·subst hb;rw[aQ6] at q;cases q;exact new
 ·rw[upd_ne hb] at q
  by_cases hbe:b=e
  ·have q':H b=some (.own x):=by
    rcases he with z | z
    ·exact absurd (hbe.trans z) hb
    ·rw[hbe];exact z
   rw[q] at q';cases q';obtain⟨v,hv⟩:=heo;exact⟨v,by rw[hbe];exact hv⟩
  ·refine(ok b u q).stay (fun c v hc r=>k c v ?_ r) (fun c r=>by rw[upd_ne (nown c b r)];exact r) fun c xs r=>by rw[upd_ne (ntup c xs r)];exact r
   rcases hc with rfl | hc
   ·exact hbe
   ·rintro rfl;rcases he with z | z
    ·exact nown c b hc z
    ·rw[hc] at z;cases z;exact hb rfl
end
structure Un (fs ex:List Addr) (H H':Hp) (h h':Heap):Prop where
 keep:∀ b o,h.get? b=some o->H b=none->b∉fs->b∉ex->h'.get? b=some o
 slot:∀ b o,h.get? b=some o->H b=none->b∈fs->b∉ex->∃ sl,h'.get? b=some { o with slots:=sl }
 free:∀ b o,h.get? b=some o->H b=none->b∉ex->H' b=none
 there:∀ b o,h.get? b=some o->b∉ex->∃ o',h'.get? b=some o'
 tups:∀ b xs,H b=some (.tup xs)->H' b=some (.tup xs)
 frzs:∀ b o u,H b=some (.frz o u)->H' b=some (.frz o u)
 tbls:∀ b ps,H b=some (.tbl ps)->∃ more,H' b=some (.tbl (ps++more))
section
variable {fs fs' ex ex':List Addr} {H H1 H2:Hp} {h h1 h2 h':Heap} {a x e:Addr} {o:HO}
theorem Un.any (u:Un fs ex H H1 h h1) {b:Addr} {ob:Obj} (q:h.get? b=some ob) (n:H b=none) (hx:b∉ex):∃ sl,h1.get? b=some { ob with slots:=sl }:=by
 by_cases hb:b∈fs
 ·exact u.slot b ob q n hb hx
 ·exact⟨ob.slots,u.keep b ob q n hb hx⟩
theorem Un.kept (k:∀ b u,h.get? b=some u->h'.get? b=some u):Un fs ex H H h h' :=
 ⟨fun b ob q _ _ _=>k b ob q,fun b ob q _ _ _=>⟨ob.slots,k b ob q⟩,fun _ _ _ n _=>n,fun b ob q _=>⟨ob,k b ob q⟩,fun _ _ q=>q,fun _ _ _ q=>q,fun _ ps q=>⟨#[],by rw[q];simp⟩⟩
theorem Un.refl:Un fs ex H H h h:=Un.kept fun _ _ q=>q
theorem Un.laid (k:∀ b u,h.get? b=some u->h'.get? b=some u) (hp:h.objs.size<=a) (hn:H a=none):Un fs ex H (upd H a o) h h' where
 keep:=fun b u q _ _ _=>k b u q
 slot:=fun b u q _ _ _=>⟨u.slots,k b u q⟩
 free:=fun b u q n _=>by rw[upd_ne (Nat.ne_of_lt (Nat.lt_of_lt_of_le (Heap.lt_size q) hp))];exact n
 there:=fun b u q _=>⟨u,k b u q⟩
 tups:=fun b xs q=>by rw[upd_ne (aQc q hn)];exact q
 frzs:=fun b u xs q=>by rw[upd_ne (aQc q hn)];exact q
 tbls:=fun b ps q=>⟨#[],by rw[upd_ne (aQc q hn),q];simp⟩
theorem Un.write (mu:Mut (H x)) (he:e=x\/H e=some (.own x)) (k:∀ b u,b≠e->h.get? b=some u->h'.get? b=some u) (heo:∃ u,h'.get? e=some u):Un fs ex H (upd H x o) h h':=by
 have hx:∀ b,H b=none->b≠x:=fun b n z=>by subst z;rw[n] at mu;exact mu
 have hb:∀ b,H b=none->b≠e:=fun b n z=>by
  subst z;rcases he with r | r
  ·exact hx b n r
  ·rw[n] at r;cases r
 have hm:∀ b u,H b=some u->¬ Mut (some u)->b≠x:=fun b u q nm z=>by subst z;rw[q] at mu;exact nm mu
 refine⟨fun b u q n _ _=>k b u (hb b n) q,fun b u q n _ _=>⟨u.slots,k b u (hb b n) q⟩,fun b u q n _=>by rw[upd_ne (hx b n)];exact n,fun b u q _=>?_,
  fun b xs q=>by rw[upd_ne (hm b _ q fun z=>z)];exact q,fun b u xs q=>by rw[upd_ne (hm b _ q fun z=>z)];exact q,fun b ps q=>⟨#[],by rw[upd_ne (hm b _ q fun z=>z),q];simp⟩⟩
 by_cases hbe:b=e
 ·subst hbe;exact heo
 ·exact⟨u,k b u hbe q⟩
end
def trk (h:Heap) (H:Hp):List Addr:=(List.range h.objs.size).filter fun a=>(H a).isSome
def hidT (h:Heap) (H:Hp):Heap:=PySem.W.hideAll h (trk h H)
theorem cZ7 (h:Heap) (H:Hp):(hidT h H).objs.size=h.objs.size:=PySem.W.hideAll_size _ _
theorem cJw {h:Heap} {H:Hp} {b:Addr} {o:Obj} (e:h.get? b=some o) (n:H b=none):(hidT h H).get? b=some o :=
 PySem.W.hideAll_get _ e fun hm=>by
  have q:(H b).isSome=true:=(List.mem_filter.mp hm).2;rw[n] at q;simp at q
theorem dXd {h:Heap} {H:Hp} {b:Addr} {o:Obj} (e:(hidT h H).get? b=some o):h.get? b=some o/\H b=none:=by
 have e':h.get? b=some o:=PySem.W.of_hideAll (trk h H) e;refine⟨e',?_⟩;cases q:H b with
 | none=>rfl
 | some x =>
  have hm:b∈trk h H:=List.mem_filter.mpr ⟨List.mem_range.mpr (Heap.lt_size e'),by simp[q]⟩
  have z:(hidT h H).get? b=none:=PySem.W.hideAll_none (trk h H) hm;rw[z] at e;cases e
structure Mod (K:PySem.W.Frag) (mg:Str->Option Value) (base:Heap):Prop where
 kin:K.In base
 glob:base.Ns mainGlobals mg
 blt:∃ mb,base.Ns builtinsNs mb/\∀ x:Str,x ≠ "__name__"->mb x=bootBuiltins x
 nolimit:base.NoLimit
structure Cx where
 prog:Program
 w:World
 K:PySem.W.Frag
 mg:Str->Option Value
 base:Heap
 A:Around
 N:List Str
 s₀:Shared
 H₀:Hp
 env:Env
 outer:List Env
 stack:List Env
 ex:List Addr
 fn:Str->Bool
 calm:Bool
 pn:List (Addr × Obj)
 xe:Value->Shared->Prop
def frs (l:List Env):List Addr:=l.filterMap (·.frame)
abbrev Cx.fs (X:Cx):List Addr:=frs X.outer
def Vis (sc:Scope) (x:Str):Prop:=sc.names.lookup x=some .local\/sc.names.lookup x=some .cell\/sc.names.lookup x=some .free
def Loc (sc:Scope) (x:Str):Prop:=sc.names.lookup x=some .local\/sc.names.lookup x=some .cell
def Look (env:Env) (h:Heap) (m:Str->Option Value) (x:Str) (u:Value):Prop :=
 (env.kindOf x=some .local/\m x=some u)\/((env.kindOf x=some .cell\/env.kindOf x=some .free)/\∃ c,env.cells.lookup x=some c/\h.IsCell c (some u))
structure Cx.Ok (X:Cx):Prop where
 mod:Mod X.K X.mg X.base
 kind:X.env.scope.kind=.function
 glob:X.env.globals=mainGlobals
 blt:X.env.builtins=builtinsNs
 above:X.s₀.heap.objs.size<=X.env.locals
 inj:∀ x y c,X.env.cells.lookup x=some c->X.env.cells.lookup y=some c->x=y
 has:∀ x,(X.env.kindOf x=some .cell\/X.env.kindOf x=some .free)->∃ c,X.env.cells.lookup x=some c
 cab:∀ x c,X.fn x=true->X.env.cells.lookup x=some c->X.s₀.heap.objs.size<=c
 hd:X.calm=true->X.A.handled=none
 frames:X.A.frames=some X.stack
 stk:X.stack=X.outer\/(X.stack=X.env::X.outer/\X.env.frame=some X.env.locals)
 exf:∀ b∈X.ex,b≠X.env.locals/\∀ x c,X.env.cells.lookup x=some c->c≠b
 bs:∀ b o,X.base.get? b=some o->X.s₀.heap.get? b=some o/\X.H₀ b=none
 bsz:X.base.objs.size<=X.s₀.heap.objs.size
 noex:∀ b o,X.base.get? b=some o->b∉X.ex
 exfs:∀ b∈X.ex,b∉X.fs
 funs:X.s₀.heap.FunFrames X.base X.outer
 frf:∀ b∈X.fs,X.H₀ b=none
structure Inv (X:Cx) (pins:List (Addr × Obj)) (σ:List (Option V)) (H:Hp) (s:Shared):Prop where
 ok:X.Ok
 os:s.os=X.s₀.os
 bare:AllBare s.gens
 base:Un X.fs X.ex X.H₀ H X.s₀.heap s.heap
 loc:∃ m,s.heap.Ns X.env.locals m/\∀ (i:Nat) (x:Str) (v:V),X.N[i]?=some x->σ[i]?=some (some v)->Vis X.env.scope x->∃ u,RelV v u/\Look X.env s.heap m x u
 cell:∀ x c,X.env.cells.lookup x=some c->∃ v,s.heap.IsCell c v
 free:H X.env.locals=none
 freeC:∀ x c,X.env.cells.lookup x=some c->H c=none
 pin:∀ p∈X.pn++pins,s.heap.get? p.1=some p.2/\H p.1=none/\p.1≠X.env.locals/\p.1∉X.fs/\∀ v,p.2.data≠.cell v
 hok:HOk X.prog X.w H s.heap
 len:σ.length=X.N.length
section
variable {X:Cx} {pins:List (Addr × Obj)} {σ:List (Option V)} {H H':Hp} {s:Shared} {h':Heap}
theorem Cx.Ok.nofr (ok:X.Ok) {b:Addr} {o:Obj} (e:X.base.get? b=some o):b∉X.fs:=fun hb=>by
 have:=(ok.funs.mem hb).1
 rw[e] at this;cases this
theorem Inv.bs (I:Inv X pins σ H s):∀ b o,X.base.get? b=some o->s.heap.get? b=some o/\H b=none:=fun b o e =>
 ⟨I.base.keep b o (I.ok.bs b o e).1 (I.ok.bs b o e).2 (I.ok.nofr e) (I.ok.noex b o e),I.base.free b o (I.ok.bs b o e).1 (I.ok.bs b o e).2 (I.ok.noex b o e)⟩
theorem Inv.bk (I:Inv X pins σ H s):∀ b o,X.base.get? b=some o->s.heap.get? b=some o:=fun b o e=>(I.bs b o e).1
theorem Inv.mod (I:Inv X pins σ H s):Mod X.K X.mg X.base:=I.ok.mod
theorem Inv.kIn (I:Inv X pins σ H s):X.K.In s.heap:=I.ok.mod.kin.keeps I.bk
theorem Inv.nolimit (I:Inv X pins σ H s):s.heap.NoLimit:=I.ok.mod.nolimit.keeps I.bk
theorem Inv.lt (I:Inv X pins σ H s):X.env.locals < s.heap.objs.size:=let ⟨_,hn,_⟩:=I.loc;hn.lt
theorem Inv.sz (I:Inv X pins σ H s):X.s₀.heap.objs.size<=s.heap.objs.size:=Nat.le_trans I.ok.above (Nat.le_of_lt I.lt)
theorem Inv.nofs (I:Inv X pins σ H s) {a:Addr} (h:s.heap.objs.size<=a):a∉X.fs:=fun hb=>by
 obtain⟨_,o,ho,_⟩:=I.ok.funs.mem hb;exact absurd (Nat.lt_of_lt_of_le (Heap.lt_size ho) (Nat.le_trans I.sz h)) (Nat.lt_irrefl _)
theorem Inv.cne (I:Inv X pins σ H s):∀ x c,X.env.cells.lookup x=some c->c≠X.env.locals:=fun x c e z=>by
 obtain⟨v,o,ho,hd⟩:=I.cell x c e;obtain⟨m,⟨o',es,ep,ho',hd',_⟩,_⟩:=I.loc;rw[z,ho'] at ho;cases ho;rw[hd'] at hd;cases hd
theorem Inv.funs (I:Inv X pins σ H s):s.heap.FunFrames X.base X.outer:=by
 have all:∀ (l:List Env),(∀ b∈frs l,b∈X.fs)->X.s₀.heap.FunFrames X.base l->s.heap.FunFrames X.base l:=by
  intro l
  induction l with
  | nil=>intro _ _;trivial
  | cons env r ih =>
   intro hs hl;obtain⟨hk,⟨L,o,hf,hn,ho,hd⟩,hr⟩:=hl;have hL:L∈X.fs:=hs L (by unfold frs;rw[List.filterMap_cons,hf];exact List.mem_cons_self)
   obtain⟨sl,e⟩:=I.base.slot L o ho (I.ok.frf L hL) hL fun z=>I.ok.exfs L z hL;exact⟨hk,⟨L,_,hf,hn,e,hd⟩,ih (fun b hb=>hs b (by unfold frs;rw[List.filterMap_cons,hf];exact List.mem_cons_of_mem _ hb)) hr⟩
 exact all X.outer (fun _ hb=>hb) I.ok.funs
theorem Inv.stack (I:Inv X pins σ H s):s.heap.FunFrames X.base X.stack:=by
 rcases I.ok.stk with e | ⟨e,hf⟩
 ·rw[e];exact I.funs
 ·rw[e];obtain⟨m,hn,_⟩:=I.loc;refine .cons (by rw[I.ok.kind];decide) hf hn ?_ I.funs
  exact Heap.get?_none_of_le (Nat.le_trans I.ok.bsz I.ok.above)
theorem Inv.stkSub (I:Inv X pins σ H s):∀ b∈frs X.stack,b∈X.env.locals::X.fs:=fun b hb=>by
 rcases I.ok.stk with e | ⟨e,hf⟩
 ·rw[e] at hb;exact List.mem_cons_of_mem _ hb
 ·rw[e] at hb;unfold frs at hb;rw[List.filterMap_cons,hf] at hb;exact hb
theorem Inv.stkFree (I:Inv X pins σ H s):∀ b∈frs X.stack,H b=none:=fun b hb=>by
 rcases List.mem_cons.mp (I.stkSub b hb) with e | hb
 ·rw[e];exact I.free
 ·obtain⟨_,o,ho,_⟩:=I.ok.funs.mem hb;exact I.base.free b o ho (I.ok.frf b hb) fun z=>I.ok.exfs b z hb
theorem Inv.step {g':Array GenState} {t':Nat} {d':Drawn} {ch:List Addr} (I:Inv X pins σ H s)
  (hch:∀ b∈ch,(b∈X.ex\/X.s₀.heap.objs.size<=b)/\b≠X.env.locals/\(∀ x c,X.env.cells.lookup x=some c->c≠b)/\∀ p∈X.pn++pins,p.1≠b)
  (keep:∀ b o,b≠X.env.locals->b∉X.fs->b∉ch->s.heap.get? b=some o->H b=none->h'.get? b=some o)
  (slot:∀ b o,b≠X.env.locals->b∈X.fs->b∉ch->s.heap.get? b=some o->H b=none->∃ sl,h'.get? b=some { o with slots:=sl }) (free:∀ b o,b∉ch->s.heap.get? b=some o->H b=none->H' b=none)
  (there:∀ b o,b∉ch->s.heap.get? b=some o->∃ o',h'.get? b=some o')
  (tups:∀ b xs,H b=some (.tup xs)->H' b=some (.tup xs)) (frzs:∀ b o u,H b=some (.frz o u)->H' b=some (.frz o u)) (tbls:∀ b ps,H b=some (.tbl ps)->∃ more,H' b=some (.tbl (ps++more)))
  (ns:∀ m,s.heap.Ns X.env.locals m->h'.Ns X.env.locals m) (hok:HOk X.prog X.w H' h') (hg:AllBare g') :
  Inv X pins σ H' { s with heap:=h',gens:=g',drawn:=d',toks:=t' }:=by
 have neL:∀ b o,X.s₀.heap.get? b=some o->b≠X.env.locals:=fun b o e=>Nat.ne_of_lt (Nat.lt_of_lt_of_le (Heap.lt_size e) I.ok.above);have neC:∀ b o,X.s₀.heap.get? b=some o->b∉X.ex->b∉ch:=fun b o e hx hb=>by
  rcases(hch b hb).1 with z | z
  ·exact hx z
  ·exact absurd (Nat.lt_of_lt_of_le (Heap.lt_size e) z) (Nat.lt_irrefl _)
 have cellK:∀ x c,X.env.cells.lookup x=some c->∀ v,s.heap.IsCell c v->h'.IsCell c v:=fun x c e v ⟨o,ho,hd⟩=>by
  have nch:c∉ch:=fun z=>(hch c z).2.2.1 x c e rfl
  by_cases hc:c∈X.fs
  ·obtain⟨sl,q⟩:=slot c o (I.cne x c e) hc nch ho (I.freeC x c e);exact⟨_,q,hd⟩
  ·exact⟨o,keep c o (I.cne x c e) hc nch ho (I.freeC x c e),hd⟩
 refine⟨I.ok,I.os,hg,⟨fun b o e n hb hx=>?_,fun b o e n hb hx=>?_,fun b o e n hx=>?_,fun b o e hx=>?_,fun b xs e=>tups b xs (I.base.tups b xs e),fun b o xs e=>frzs b o xs (I.base.frzs b o xs e),fun b ps e=>?_⟩,?_,fun x c e=>?_,?_,fun x c e=>?_,fun p hp=>?_,hok,I.len⟩
 ·exact keep b o (neL b o e) hb (neC b o e hx) (I.base.keep b o e n hb hx) (I.base.free b o e n hx)
 ·obtain⟨sl,e1⟩:=I.base.slot b o e n hb hx;obtain⟨sl',e2⟩:=slot b _ (neL b o e) hb (neC b o e hx) e1 (I.base.free b o e n hx);exact⟨sl',e2⟩
 ·obtain⟨o',e1⟩:=I.base.there b o e hx;exact free b o' (neC b o e hx) e1 (I.base.free b o e n hx)
 ·obtain⟨o',e1⟩:=I.base.there b o e hx;exact there b o' (neC b o e hx) e1
 ·obtain⟨m1,e1⟩:=I.base.tbls b ps e;obtain⟨m2,e2⟩:=tbls b _ e1;exact⟨m1++m2,by rw[e2,Array.append_assoc]⟩
 ·obtain⟨m,hn,hl⟩:=I.loc;refine⟨m,ns m hn,fun i x v e1 e2 e3=>?_⟩;obtain⟨u,r,l⟩:=hl i x v e1 e2 e3;refine⟨u,r,?_⟩;rcases l with l | ⟨k,c,e,z⟩
  ·exact .inl l
  ·exact .inr ⟨k,c,e,cellK x c e _ z⟩
 ·obtain⟨v,z⟩:=I.cell x c e;exact⟨v,cellK x c e v z⟩
 ·obtain⟨m,⟨o,_,_,ho,_⟩,_⟩:=I.loc;exact free _ o (fun z=>(hch _ z).2.1 rfl) ho I.free
 ·obtain⟨v,o,ho,hd⟩:=I.cell x c e;exact free c o (fun z=>(hch c z).2.2.1 x c e rfl) ho (I.freeC x c e)
 ·obtain⟨e,n,ne,nf,d⟩:=I.pin p hp;have nch:p.1∉ch:=fun z=>(hch p.1 z).2.2.2 p hp rfl;exact⟨keep p.1 p.2 ne nf nch e n,free p.1 p.2 nch e n,ne,nf,d⟩
theorem Inv.un {t':Nat} (I:Inv X pins σ H s) (u:Un X.fs [] H H' s.heap h') (hok:HOk X.prog X.w H' h'):Inv X pins σ H' { s with heap:=h',toks:=t' }:=by
 obtain⟨m,⟨o,es,ep,ho,r⟩,_⟩:=id I.loc;obtain⟨sl,hL⟩:=u.any ho I.free (by simp)
 exact I.step (g':=s.gens) (d':=s.drawn) (ch:=[]) (fun _ z=>nomatch z) (fun b o _ hb _ e n=>u.keep b o e n hb (by simp)) (fun b o _ hb _ e n=>u.slot b o e n hb (by simp)) (fun b o _ e n=>u.free b o e n (by simp)) (fun b o _ e=>u.there b o e (by simp)) u.tups u.frzs u.tbls (fun m' hm=>by
  obtain⟨o',es',ep',ho',r'⟩:=hm;rw[ho] at ho';cases ho';exact⟨_,es',ep',hL,r'⟩) hok I.bare
theorem Inv.call {g':Array GenState} {t':Nat} {d':Drawn} {ch:List Addr} (I:Inv X pins σ H s) (u:Un (frs X.stack) ch H H' s.heap h') (hok:HOk X.prog X.w H' h') (hg:AllBare g')
  (hch:∀ b∈ch,(b∈X.ex\/X.s₀.heap.objs.size<=b)/\b≠X.env.locals/\(∀ x c,X.env.cells.lookup x=some c->c≠b)/\∀ p∈X.pn++pins,p.1≠b) :
  Inv X pins σ H' { s with heap:=h',gens:=g',drawn:=d',toks:=t' }:=by
 obtain⟨m,⟨o,es,ep,ho,r⟩,_⟩:=id I.loc;obtain⟨sl,hL⟩:=u.any ho I.free fun z=>(hch _ z).2.1 rfl;exact I.step (ch:=ch) hch (fun b o hL hb hc e n=>u.keep b o e n (fun z=>(List.mem_cons.mp (I.stkSub b z)).elim hL hb) hc) (fun b o _ _ hc e n=>u.any e n hc) (fun b o hc e n=>u.free b o e n hc) (fun b o hc e=>u.there b o e hc) u.tups u.frzs u.tbls (fun m' hm=>by
  obtain⟨o',es',ep',ho',r'⟩:=hm;rw[ho] at ho';cases ho';exact⟨_,es',ep',hL,r'⟩) hok hg
theorem Inv.turned {t':Nat} {it:Addr} (I:Inv X pins σ H s) (k:∀ b o,b≠it->s.heap.get? b=some o->h'.get? b=some o) (hn:H it=none) (hL:it≠X.env.locals)
  (h1:it∈X.ex\/X.s₀.heap.objs.size<=it) (h2:∀ x c,X.env.cells.lookup x=some c->c≠it) (h3:∀ p∈X.pn++pins,p.1≠it):Inv X pins σ H { s with heap:=h',toks:=t' }:=by
 have nit:∀ b u,H b=some u->b≠it:=fun b u e z=>by rw[z,hn] at e;cases e
 refine I.step (g':=s.gens) (d':=s.drawn) (ch:=[it]) (fun b hb=>?_) (fun b o _ _ hc e _=>k b o (fun z=>hc (by simp[z])) e) (fun b o _ _ hc e _=>⟨o.slots,k b o (fun z=>hc (by simp[z])) e⟩) (fun _ _ _ _ n=>n)
  (fun b o hc e=>⟨o,k b o (fun z=>hc (by simp[z])) e⟩) (fun _ _ e=>e) (fun _ _ _ e=>e) (fun b ps e=>⟨#[],by rw[e];simp⟩) (fun m hm=>?_) (fun b u e=>?_) I.bare
 ·have e:b=it:=by simpa using hb
  subst e;exact⟨h1,hL,h2,h3⟩
 ·obtain⟨o,es,ep,ho,r⟩:=hm;exact⟨o,es,ep,k _ o (Ne.symm hL) ho,r⟩
 ·refine(I.hok b u e).stay (fun c v hc q=>k c v ?_ q) (fun _ q=>q) fun _ _ q=>q;rcases hc with z | z
  ·rw[z];exact nit b u e
  ·exact nit c _ z
theorem Inv.tok (I:Inv X pins σ H s) (t:Nat):Inv X pins σ H { s with toks:=t }:=I.un (h':=s.heap) (t':=t) Un.refl I.hok
theorem Inv.kept {t':Nat} (I:Inv X pins σ H s) (k:∀ b u,s.heap.get? b=some u->h'.get? b=some u):Inv X pins σ H { s with heap:=h',toks:=t' }:=I.un (Un.kept k) (I.hok.kept k)
theorem Inv.laid {a:Addr} {o:HO} {t':Nat} (I:Inv X pins σ H s) (k:∀ b u,s.heap.get? b=some u->h'.get? b=some u) (hp:s.heap.objs.size<=a) (new:ObjOk X.prog X.w (upd H a o) h' a o) :
  Inv X pins σ (upd H a o) { s with heap:=h',toks:=t' }:=I.un (Un.laid k hp (I.hok.fresh hp)) (I.hok.laid k hp new)
theorem Inv.write {x e:Addr} {o:HO} {t':Nat} (I:Inv X pins σ H s) (mu:Mut (H x)) (he:e=x\/H e=some (.own x)) (k:∀ b u,b≠e->s.heap.get? b=some u->h'.get? b=some u) (heo:∃ u,h'.get? e=some u)
  (new:ObjOk X.prog X.w (upd H x o) h' x o):Inv X pins σ (upd H x o) { s with heap:=h',toks:=t' }:=I.un (Un.write mu he k heo) (I.hok.write mu he k heo new)
theorem Inv.weak {σ':List (Option V)} (I:Inv X pins σ H s) (hl:σ'.length=σ.length) (w:∀ (i:Nat) v,σ'[i]?=some (some v)->σ[i]?=some (some v)):Inv X pins σ' H s :=
 ⟨I.ok,I.os,I.bare,I.base,let ⟨m,hn,hl'⟩:=I.loc;⟨m,hn,fun i x v e1 e2 e3=>hl' i x v e1 (w i v e2) e3⟩,I.cell,I.free,I.freeC,I.pin,I.hok,hl.trans I.len⟩
theorem Inv.pins_of {pins':List (Addr × Obj)} (I:Inv X pins σ H s) (h:∀ p∈pins',s.heap.get? p.1=some p.2/\H p.1=none/\p.1≠X.env.locals/\p.1∉X.fs/\∀ v,p.2.data≠.cell v):Inv X pins' σ H s :=
 ⟨I.ok,I.os,I.bare,I.base,I.loc,I.cell,I.free,I.freeC,fun p hp=>(List.mem_append.mp hp).elim (fun z=>I.pin p (List.mem_append_left _ z)) (h p),I.hok,I.len⟩
theorem nodup_ix {N:List Str} (hN:N.Nodup) {i j:Nat} {x:Str} (a:N[i]?=some x) (b:N[j]?=some x):i=j:=by
 obtain⟨h1,e1⟩:=List.getElem?_eq_some_iff.mp a;obtain⟨h2,e2⟩:=List.getElem?_eq_some_iff.mp b;exact(List.getElem_inj hN).mp (e1.trans e2.symm)
theorem bZm {M:Model} {A:Around} {E:Value->Shared->Prop} {i:Nat} {x:Str} {v:V} {u:Value} {Q:Unit->Shared->Prop} (I:Inv X pins σ H s) (hN:X.N.Nodup) (hi:X.N[i]?=some x) (hx:Loc X.env.scope x) (r:RelV v u)
  (h:∀ s',Inv X pins (σ.set i (some v)) H s'->(∃ a,Heap.SameBut a s.heap s'.heap/\(a=X.env.locals\/X.env.cells.lookup x=some a))->Q () s') (hf:X.fn x=true\/X.env.scope.names.lookup x=some .local:=by first | exact .inl rfl | exact .inr rfl | assumption):wpAny M A (storeName X.env x u) Q E s:=by
 obtain⟨m,hn,hl⟩:=id I.loc;have hcls:(X.env.scope.kind == .class || (X.env.scope.kind == .module && X.env.locals != X.env.globals))=false:=by rw[I.ok.kind];rfl
 have hiσ:i < σ.length:=by rw[I.len];exact(List.getElem?_eq_some_iff.mp hi).1
 have cne:=I.cne;have tracked:∀ {a:Addr} {h':Heap},(∃ o,s.heap.get? a=some o/\H a=none)->Heap.SameBut a s.heap h'->HOk X.prog X.w H h':=fun {a h'} ha hs b ob e=>by
  obtain⟨_,_,hfree⟩:=ha;refine(I.hok b ob e).stay (fun c w' hc q=>(hs.2 c ?_).trans q) (fun _ q=>q) fun _ _ q=>q;rintro rfl;rcases hc with rfl | hc
  ·rw[hfree] at e;cases e
  ·rw[hfree] at hc;cases hc
 rcases hx with hk | hk
 ·refine wpAny_storeName_local hk hn (fun h' hn' hs=>?_) hcls;obtain⟨oL,_,_,hoL,_⟩:=id hn;refine h _ ⟨I.ok,I.os,I.bare,⟨fun b o e n hb hx=>?_,fun b o e n hb hx=>?_,I.base.free,fun b o e hx=>?_,I.base.tups,I.base.frzs,I.base.tbls⟩,⟨_,hn',fun j y v' e1 e2 e3=>?_⟩,fun y c e=>?_,I.free,I.freeC,fun p hp=>?_,tracked ⟨oL,hoL,I.free⟩ hs,by simpa using I.len⟩ ⟨_,hs,.inl rfl⟩
  ·exact(hs.2 b (Nat.ne_of_lt (Nat.lt_of_lt_of_le (Heap.lt_size e) I.ok.above))).trans (I.base.keep b o e n hb hx)
  ·obtain⟨sl,e1⟩:=I.base.slot b o e n hb hx;exact⟨sl,(hs.2 b (Nat.ne_of_lt (Nat.lt_of_lt_of_le (Heap.lt_size e) I.ok.above))).trans e1⟩
  ·obtain⟨o',e1⟩:=I.base.there b o e hx;exact⟨o',(hs.2 b (Nat.ne_of_lt (Nat.lt_of_lt_of_le (Heap.lt_size e) I.ok.above))).trans e1⟩
  ·by_cases hj:j=i
   ·subst hj;rw[hi] at e1;cases e1;rw[List.getElem?_set_self hiσ] at e2;cases e2;exact⟨u,r,.inl ⟨hk,by simp⟩⟩
   ·rw[List.getElem?_set_ne (Ne.symm hj)] at e2;obtain⟨u',r',q⟩:=hl j y v' e1 e2 e3;refine⟨u',r',?_⟩;rcases q with⟨k,e⟩ | ⟨k,c,e,z⟩
    ·refine .inl ⟨k,?_⟩
     have:y≠x:=fun e=>hj (nodup_ix hN e1 (e ▸ hi))
     simp[this,e]
    ·exact .inr ⟨k,c,e,z.sameBut hs (cne y c e)⟩
  ·obtain⟨w',z⟩:=I.cell y c e;exact⟨w',z.sameBut hs (cne y c e)⟩
  ·obtain⟨e,n,ne,nf,d⟩:=I.pin p hp;exact⟨(hs.2 p.1 ne).trans e,n,ne,nf,d⟩
 ·have hfn:X.fn x=true:=by
   rcases hf with z | z
   ·exact z
   ·rw[z] at hk;cases hk
  obtain⟨c,hc⟩:=I.ok.has x (.inl hk);obtain⟨w',z⟩:=I.cell x c hc;refine wpAny_storeName_cell I.ok.kind hk hc z (fun h' hc' hs=>?_);obtain⟨oc,hoc,hocd⟩:=id z;refine h { s with heap:=h' } ⟨I.ok,I.os,I.bare,⟨fun b o e n hb hx=>?_,fun b o e n hb hx=>?_,I.base.free,fun b o e hx=>?_,I.base.tups,I.base.frzs,I.base.tbls⟩,⟨m,hn.sameBut hs (Ne.symm (cne x c hc)),fun j y v' e1 e2 e3=>?_⟩,fun y c' e=>?_,I.free,I.freeC,fun p hp=>?_,tracked ⟨oc,hoc,I.freeC x c hc⟩ hs,by simpa using I.len⟩ ⟨c,hs,.inr hc⟩
  ·exact(hs.2 b (Nat.ne_of_lt (Nat.lt_of_lt_of_le (Heap.lt_size e) (I.ok.cab x c hfn hc)))).trans (I.base.keep b o e n hb hx)
  ·obtain⟨sl,e1⟩:=I.base.slot b o e n hb hx;exact⟨sl,(hs.2 b (Nat.ne_of_lt (Nat.lt_of_lt_of_le (Heap.lt_size e) (I.ok.cab x c hfn hc)))).trans e1⟩
  ·obtain⟨o',e1⟩:=I.base.there b o e hx;exact⟨o',(hs.2 b (Nat.ne_of_lt (Nat.lt_of_lt_of_le (Heap.lt_size e) (I.ok.cab x c hfn hc)))).trans e1⟩
  ·by_cases hj:j=i
   ·subst hj;rw[hi] at e1;cases e1;rw[List.getElem?_set_self hiσ] at e2;cases e2;exact⟨u,r,.inr ⟨.inl hk,c,hc,hc'⟩⟩
   ·rw[List.getElem?_set_ne (Ne.symm hj)] at e2;obtain⟨u',r',q⟩:=hl j y v' e1 e2 e3;refine⟨u',r',?_⟩;rcases q with q | ⟨k,c',e,z'⟩
    ·exact .inl q
    ·refine .inr ⟨k,c',e,z'.sameBut hs ?_⟩;rintro rfl;exact hj (nodup_ix hN e1 (I.ok.inj _ _ _ e hc ▸ hi))
  ·by_cases hcc:c'=c
   ·subst hcc;exact⟨_,hc'⟩
   ·obtain⟨w2,z2⟩:=I.cell y c' e;exact⟨w2,z2.sameBut hs hcc⟩
  ·obtain⟨e,n,ne,nf,d⟩:=I.pin p hp;refine⟨(hs.2 p.1 ?_).trans e,n,ne,nf,d⟩;intro q;rw[q,hoc] at e;have q':oc=p.2:=Option.some.inj e;exact d w' (by rw[<- q'];exact hocd)
theorem store_ok {M:Model} {A:Around} {E:Value->Shared->Prop} {i:Nat} {x:Str} {v:V} {u:Value} {Q:Unit->Shared->Prop} (I:Inv X pins σ H s) (hN:X.N.Nodup) (hi:X.N[i]?=some x) (hx:Loc X.env.scope x) (r:RelV v u)
  (h:∀ s',Inv X pins (σ.set i (some v)) H s'->Q () s') (hf:X.fn x=true\/X.env.scope.names.lookup x=some .local:=by first | exact .inl rfl | exact .inr rfl | assumption):wpAny M A (storeName X.env x u) Q E s :=
 bZm I hN hi hx r (fun s' I' _=>h s' I') hf
theorem Inv.call' {s':Shared} {ch:List Addr} (I:Inv X pins σ H s) (ho:s'.os=s.os) (u:Un (frs X.stack) ch H H' s.heap s'.heap) (hok:HOk X.prog X.w H' s'.heap) (hg:AllBare s'.gens)
  (hch:∀ b∈ch,(b∈X.ex\/X.s₀.heap.objs.size<=b)/\b≠X.env.locals/\(∀ x c,X.env.cells.lookup x=some c->c≠b)/\∀ p∈X.pn++pins,p.1≠b):Inv X pins σ H' s':=by
 obtain⟨h',g',d',t',o'⟩:=s';have e:o'=s.os:=ho;subst e;exact I.call (g':=g') (t':=t') (d':=d') u hok hg hch
end
abbrev XK:=Value->Option Addr->Hp->Prop
abbrev St:=List (Option V)
abbrev VK:=V->Hp->Prop
abbrev TE:=St->Hp->VK->Prop
abbrev TT:=St->Hp->(Bool->Hp->Prop)->Prop
abbrev TA:=St->Hp->(List V->Hp->Prop)->Prop
structure Ends where
 nx:St->Hp->Prop
 rt:VK
 bk:St->Hp->Prop:=fun _ _=>False
 ct:St->Hp->Prop:=fun _ _=>False
abbrev TS:=Ends->St->Hp->Prop
def EP (X:Cx) (pins:List (Addr × Obj)) (σ:St) (Q:VK) (u:Value) (s':Shared):Prop:=∃ v H',Inv X pins σ H' s'/\RelV v u/\Q v H'
def TP (X:Cx) (pins:List (Addr × Obj)) (σ:St) (Q:Bool->Hp->Prop) (b:Bool) (s':Shared):Prop:=∃ H',Inv X pins σ H' s'/\Q b H'
def AP (X:Cx) (pins:List (Addr × Obj)) (σ:St) (Q:List V->Hp->Prop) (us:List Value) (s':Shared):Prop:=∃ vs H',Inv X pins σ H' s'/\Vals vs us/\Q vs H'
def SP (X:Cx) (pins:List (Addr × Obj)) (D:Ends) (f:Flow) (s':Shared):Prop :=
 match f with
 | .next=>∃ σ' H',Inv X pins σ' H' s'/\D.nx σ' H'
 | .brk=>∃ σ' H',Inv X pins σ' H' s'/\D.bk σ' H'
 | .cont=>∃ σ' H',Inv X pins σ' H' s'/\D.ct σ' H'
 | .ret u=>∃ v σ' H',Inv X pins σ' H' s'/\RelV v u/\D.rt v H'
def PE (X:Cx) (e:Expr) (t:TE):Prop :=
 ∀ (pins:List (Addr × Obj)) (s:Shared) (σ:St) (H:Hp) (Q:VK),Inv X pins σ H s->t σ H Q->wpAny (model X.prog X.w) X.A (eval e X.env) (EP X pins σ Q) X.xe s
def PT (X:Cx) (e:Expr) (t:TT):Prop :=
 ∀ (pins:List (Addr × Obj)) (s:Shared) (σ:St) (H:Hp) (Q:Bool->Hp->Prop),Inv X pins σ H s->t σ H Q->wpAny (model X.prog X.w) X.A (isTrue e X.env (eval e X.env)) (TP X pins σ Q) X.xe s
def PW (X:Cx) (e:Expr) (t:TT):Prop :=
 ∀ (whole:Sem Value) (pins:List (Addr × Obj)) (s:Shared) (σ:St) (H:Hp) (Q:Bool->Hp->Prop),Inv X pins σ H s->t σ H Q->wpAny (model X.prog X.w) X.A (isTrue e X.env whole) (TP X pins σ Q) X.xe s
theorem PW.pt {X:Cx} {e:Expr} {t:TT} (h:PW X e t):PT X e t:=h _
def PA (X:Cx) (es:List Expr) (t:TA):Prop :=
 ∀ (pos:Pos) (pins:List (Addr × Obj)) (s:Shared) (σ:St) (H:Hp) (Q:List V->Hp->Prop),Inv X pins σ H s->t σ H Q->wpAny (model X.prog X.w) X.A (spliced (backTo pos (starEach es X.env))) (AP X pins σ Q) X.xe s
def PS (X:Cx) (st:Stmt) (t:TS):Prop :=
 ∀ (pins:List (Addr × Obj)) (s:Shared) (σ:St) (H:Hp) (D:Ends),Inv X pins σ H s->t D σ H->wpAny (model X.prog X.w) X.A (exec st X.env) (SP X pins D) X.xe s
def PSs (X:Cx) (st:List Stmt) (t:TS):Prop :=
 ∀ (pins:List (Addr × Obj)) (s:Shared) (σ:St) (H:Hp) (D:Ends),Inv X pins σ H s->t D σ H->wpAny (model X.prog X.w) X.A (execs st X.env) (SP X pins D) X.xe s
theorem thn {α:Type} {t:Sem α} {Q Q':α->Shared->Prop} {M:Model} {A:Around} {E:Value->Shared->Prop} {s:Shared} (h:wpAny M A t Q E s) (hQ:∀ a s,Q a s->Q' a s):wpAny M A t Q' E s:=wpAny_mono h hQ fun _ _ x=>x
section
variable {X:Cx}
def tVar (i:Nat):TE:=fun σ H Q=>∃ v,σ[i]?=some (some v)/\Q v H
def tC (v:V):TE:=fun _ H Q=>Q v H
theorem eZd {i:Nat} {x:Str} {pos:Pos} (hN:X.N[i]?=some x) (hv:Vis X.env.scope x) (hd:(x == ("__debug__" : Str))=false:=by decide) (hcd:(x == ("__classdict__" : Str))=false:=by decide):PE X (.Name x pos) (tVar i):=by
 intro pins s σ H Q I h;obtain⟨v,e,h⟩:=h;obtain⟨m,hn,hl⟩:=I.loc;obtain⟨u,r,l⟩:=hl i x v hN e hv;have fin:EP X pins σ Q u s:=⟨v,H,I,r,h⟩;rcases l with⟨hk,hm⟩ | ⟨hk,c,hc,hcell⟩
 ·exact wpAny_Name (wpAny_loadName_local I.ok.kind hk hn hm fin) hd
 ·rcases hk with hk | hk
  ·exact wpAny_Name (wpAny_loadName_cell I.ok.kind hk hc hcell fin) hd
  ·exact wpAny_Name (wpAny_loadName_free I.ok.kind hk hc hcell fin hcd) hd
theorem eZe {i j pos}:PE X (.Constant (.int i) j pos) (tC (.int i)):=fun _ _ _ H _ I h=>wpAny_Constant_int ⟨.int i,H,I.tok _,⟨_,rfl⟩,h⟩
theorem fZ0 {b j pos}:PE X (.Constant (.bool b) j pos) (tC (.bl b)):=fun _ _ _ H _ I h=>Constant_bool ⟨.bl b,H,I,rfl,h⟩
theorem eZf {j pos}:PE X (.Constant .none j pos) (tC .non):=fun _ _ _ H _ I h=>Constant_none ⟨.non,H,I,rfl,h⟩
theorem eZg {x j pos}:PE X (.Constant (.str x) j pos) (tC (.str x)):=fun _ _ _ H _ I h=>Calls.Constant_str ⟨.str x,H,I.tok _,⟨_,rfl⟩,h⟩
def Gl (X:Cx) (x:Str):Prop:=X.env.kindOf x=some .globalImplicit
theorem ld_glob {E:Value->Shared->Prop} {pins:List (Addr × Obj)} {s:Shared} {σ:St} {H:Hp} {x:Str} {u:Value} {pos:Pos} {Q:Value->Shared->Prop} (I:Inv X pins σ H s) (hg:Gl X x) (hm:X.mg x=some u) (h:Q u s)
  (hd:(x == ("__debug__" : Str))=false:=by decide):wpAny (model X.prog X.w) X.A (eval (.Name x pos) X.env) Q E s :=
 Calls.Name_function_global I.ok.kind hg (Calls.loadGlobal_global (by rw[I.ok.glob];exact I.mod.glob.keeps I.bk) hm h) hd
theorem ld_blt {E:Value->Shared->Prop} {pins:List (Addr × Obj)} {s:Shared} {σ:St} {H:Hp} {x:Str} {u:Value} {pos:Pos} {Q:Value->Shared->Prop} (I:Inv X pins σ H s) (hg:Gl X x) (hm:X.mg x=none) (hv:bootBuiltins x=some u) (h:Q u s)
  (hn:x ≠ "__name__":=by decide) (hd:(x == ("__debug__" : Str))=false:=by decide):wpAny (model X.prog X.w) X.A (eval (.Name x pos) X.env) Q E s:=by
 obtain⟨mb,h1,h2⟩:=I.mod.blt;exact Calls.Name_function_global I.ok.kind hg (Calls.loadGlobal_builtin (by rw[I.ok.glob];exact I.mod.glob.keeps I.bk) hm (by rw[I.ok.blt];exact h1.keeps I.bk) ((h2 x hn).trans hv) h) hd
theorem dXe {x:Str} {v:V} {u:Value} {pos:Pos} (hg:Gl X x) (hm:X.mg x=none) (hv:bootBuiltins x=some u) (r:RelV v u) (hn:x ≠ "__name__":=by decide) (hd:(x == ("__debug__" : Str))=false:=by decide):PE X (.Name x pos) (tC v) :=
 fun _ _ _ H _ I h=>ld_blt I hg hm hv ⟨v,H,I,r,h⟩ hn hd
variable {a b:Expr} {ta tb:TE} {pos:Pos}
variable {tA tB':TT} {rest:List Expr}
def tAnd (t u:TT):TT:=fun σ H Q=>t σ H fun c H1=>if c=true then u σ H1 Q else Q false H1
def tOr (t u:TT):TT:=fun σ H Q=>t σ H fun c H1=>if c=true then Q true H1 else u σ H1 Q
def tNot (t:TT):TT:=fun σ H Q=>t σ H fun c H1=>Q (!c) H1
theorem dXf (ha:PT X a tA):PW X (.BoolOp .And [a] pos) tA:=by
 intro wh pins s σ H Q I h;refine isTrue_and (thn (ha pins s σ H Q I h) fun c s1 e=>?_);cases c with
 | true=>exact isTrue_and_nil e
 | false=>exact e
theorem eZh (ha:PT X a tA):PW X (.BoolOp .Or [a] pos) tA:=by
 intro wh pins s σ H Q I h;refine isTrue_or (thn (ha pins s σ H Q I h) fun c s1 e=>?_);cases c with
 | false=>exact isTrue_or_nil e
 | true=>exact e
theorem eZi (ha:PT X a tA) (hb:PW X (.BoolOp .And (b::rest) pos) tB'):PW X (.BoolOp .And (a::b::rest) pos) (tAnd tA tB'):=by
 intro wh pins s σ H Q I h;refine isTrue_and (thn (ha pins s σ H _ I h) fun c s1 ⟨H1,I1,q1⟩=>?_);cases c with
 | true=>exact hb wh pins s1 σ H1 Q I1 q1
 | false=>exact⟨H1,I1,q1⟩
theorem fZ1 (ha:PT X a tA) (hb:PW X (.BoolOp .Or (b::rest) pos) tB'):PW X (.BoolOp .Or (a::b::rest) pos) (tOr tA tB'):=by
 intro wh pins s σ H Q I h;refine isTrue_or (thn (ha pins s σ H _ I h) fun c s1 ⟨H1,I1,q1⟩=>?_);cases c with
 | true=>exact⟨H1,I1,q1⟩
 | false=>exact hb wh pins s1 σ H1 Q I1 q1
theorem eZj (ha:PT X a tA):PT X (.UnaryOp .Not a pos) (tNot tA):=by
 intro pins s σ H Q I h;exact isTrue_not (ha pins s σ H (fun c H1=>Q (!c) H1) I h)
def fZ2 (ta tb:TE):TE:=fun σ H Q=>ta σ H fun x H1=>∃ c,x=.bl c/\if c=true then tb σ H1 Q else Q (.bl false) H1
def tOrV (ta tb:TE):TE:=fun σ H Q=>ta σ H fun x H1=>∃ c,x=.bl c/\if c=true then Q (.bl true) H1 else tb σ H1 Q
theorem eZk {op} {t:TE} (h:PE X a t):PE X (.BoolOp op [a] pos) t:=fun pins s σ H Q I hw=>BoolOp_one (h pins s σ H Q I hw)
theorem eZl (ha:PE X a ta) (hb:PE X (.BoolOp .And (b::rest) pos) tb):PE X (.BoolOp .And (a::b::rest) pos) (fZ2 ta tb):=by
 intro pins s σ H Q I h;refine BoolOp_and (thn (ha pins s σ H _ I h) fun v s1 ⟨x,H1,I1,r1,q1⟩=>?_);obtain⟨c,rfl,q1⟩:=q1;cases r1;refine wpAny_truthy_bool ?_;cases c with
 | true=>exact hb pins s1 σ H1 Q I1 q1
 | false=>exact⟨.bl false,H1,I1,rfl,q1⟩
theorem fZ3 (ha:PE X a ta) (hb:PE X (.BoolOp .Or (b::rest) pos) tb):PE X (.BoolOp .Or (a::b::rest) pos) (tOrV ta tb):=by
 intro pins s σ H Q I h;refine BoolOp_or (thn (ha pins s σ H _ I h) fun v s1 ⟨x,H1,I1,r1,q1⟩=>?_);obtain⟨c,rfl,q1⟩:=q1;cases r1;refine wpAny_truthy_bool ?_;cases c with
 | false=>exact hb pins s1 σ H1 Q I1 q1
 | true=>exact⟨.bl true,H1,I1,rfl,q1⟩
def tIf (t:TT) (ta tb:TE):TE:=fun σ H Q=>t σ H fun c H1=>if c=true then ta σ H1 Q else tb σ H1 Q
theorem cJx {c:Expr} (hc:PT X c tA) (ha:PE X a ta) (hb:PE X b tb):PE X (.IfExp c a b pos) (tIf tA ta tb):=by
 intro pins s σ H Q I h;refine wpAny_IfExp (thn (hc pins s σ H _ I h) fun d s1 ⟨H1,I1,q1⟩=>?_);cases d with
 | true=>exact ha pins s1 σ H1 Q I1 q1
 | false=>exact hb pins s1 σ H1 Q I1 q1
end
def SqL (K:PySem.W.Frag) (H:Hp) (a:Addr) (xs:List V):Prop :=
 Rd H a (.lst xs) \/
  ∃ (o:Obj) (its:Array Value) (n:Nat),K.lookup a=some o/\o.cls=.type "list"/\o.dict=none/\o.data=.seq its n/\its.size<=sizeLine/\Vals xs its.toList
def SqT (K:PySem.W.Frag) (H:Hp) (a:Addr) (xs:List V):Prop :=
 Rd H a (.tup xs) \/
  ∃ (o:Obj) (its:Array Value) (n:Nat),K.lookup a=some o/\o.cls=.type "tuple"/\o.data=.seq its n/\its.size<=sizeLine/\Vals xs its.toList
def absV:Value->Option V
 | .none=>some .non
 | .bool b=>some (.bl b)
 | .int i _=>some (.int i)
 | .str x _=>some (.str x)
 | .bytes b _=>some (.byt b)
 | .float b _=>some (.flt b)
 | .ref a=>some (.ref a)
 | .type n=>some (.ty n)
 | _=>none
theorem RelV.abs {x:V} {u:Value} (r:RelV x u):absV u=some x:=by
 cases x with
 | non=>cases r;rfl
 | bl _=>cases r;rfl
 | int _=>obtain⟨t,rfl⟩:=r;rfl
 | str _=>obtain⟨t,rfl⟩:=r;rfl
 | byt _=>obtain⟨t,rfl⟩:=r;rfl
 | flt _=>obtain⟨t,rfl⟩:=r;rfl
 | ref _=>cases r;rfl
 | ty _=>cases r;rfl
theorem RelV.inj {x y:V} {u:Value} (r:RelV x u) (q:RelV y u):x=y:=Option.some.inj (r.abs.symm.trans q.abs)
theorem Vals.inj:∀ {xs ys:List V} {us:List Value},Vals xs us->Vals ys us->xs=ys
 | _,_,_,.nil,.nil=>rfl
 | _,_,_,.cons r t,.cons r' t'=>by rw[r.inj r',Vals.inj t t']
section
variable {X:Cx} {pins:List (Addr × Obj)} {σ:St} {H:Hp} {s:Shared} {a:Addr} {xs ys:List V}
theorem SqL.of {K:PySem.W.Frag} (h:H a=some (.lst xs)):SqL K H a xs:=.inl (.inl h)
theorem Inv.list (I:Inv X pins σ H s) (h:SqL X.K H a xs):∃ its:List Value,Vals xs its/\PlainL s.heap a its.toArray/\xs.length<=sizeLine:=by
 rcases h with h | ⟨o,its,n,hk,hc,hd,hs,hz,r⟩
 ·obtain⟨z,its,n,r,e⟩:=h.ok I.hok;exact⟨its,r,⟨_,n,e,rfl,rfl,rfl⟩,z⟩
 ·refine⟨its.toList,r,⟨o,n,I.kIn a o hk,hc,hd,by simpa using hs⟩,?_⟩
  have e:=r.length;simp only[Array.length_toList] at e;lia
theorem Inv.tuple (I:Inv X pins σ H s) (h:SqT X.K H a xs):∃ its:List Value,Vals xs its/\IsTup s.heap a its.toArray/\xs.length<=sizeLine:=by
 rcases h with h | ⟨o,its,n,hk,hc,hs,hz,r⟩
 ·obtain⟨z,its,r,p⟩:=h.ok I.hok;exact⟨its,r,p,z⟩
 ·refine⟨its.toList,r,⟨o,I.kIn a o hk,hc,n,by simpa using hs⟩,?_⟩
  have e:=r.length;simp only[Array.length_toList] at e;lia
theorem Inv.list_inj (I:Inv X pins σ H s) (h:SqL X.K H a xs) (h':SqL X.K H a ys):xs=ys:=by
 obtain⟨its,r,⟨o,n,e,_,_,d⟩,_⟩:=I.list h;obtain⟨its',r',⟨o',n',e',_,_,d'⟩,_⟩:=I.list h';rw[e] at e';cases e';rw[d] at d';injection d' with d1 _
 have:its=its':=by simpa using congrArg Array.toList d1
 subst this;exact r.inj r'
theorem Inv.tuple_inj (I:Inv X pins σ H s) (h:SqT X.K H a xs) (h':SqT X.K H a ys):xs=ys:=by
 obtain⟨its,r,⟨o,e,_,n,d⟩,_⟩:=I.tuple h;obtain⟨its',r',⟨o',e',_,n',d'⟩,_⟩:=I.tuple h';rw[e] at e';cases e';rw[d] at d';injection d' with d1 _
 have:its=its':=by simpa using congrArg Array.toList d1
 subst this;exact r.inj r'
end
abbrev Cx.wish (X:Cx) (E:Value->Shared->Prop):Cx:={ X with xe:=E }
abbrev Cx.nox (X:Cx):Cx:=X.wish fun _ _=>False
theorem Cx.Ok.wish {X:Cx} (ok:X.Ok) (E:Value->Shared->Prop):(X.wish E).Ok :=
 ⟨ok.mod,ok.kind,ok.glob,ok.blt,ok.above,ok.inj,ok.has,ok.cab,ok.hd,ok.frames,ok.stk,ok.exf,ok.bs,ok.bsz,ok.noex,ok.exfs,ok.funs,ok.frf⟩
theorem Cx.Ok.unwish {X:Cx} {E:Value->Shared->Prop} (ok:(X.wish E).Ok):X.Ok :=
 ⟨ok.mod,ok.kind,ok.glob,ok.blt,ok.above,ok.inj,ok.has,ok.cab,ok.hd,ok.frames,ok.stk,ok.exf,ok.bs,ok.bsz,ok.noex,ok.exfs,ok.funs,ok.frf⟩
section
variable {X:Cx} {pins:List (Addr × Obj)} {σ:St} {H:Hp} {s:Shared} {E:Value->Shared->Prop}
theorem Inv.wish (I:Inv X pins σ H s) (E:Value->Shared->Prop):Inv (X.wish E) pins σ H s:=⟨I.ok.wish E,I.os,I.bare,I.base,I.loc,I.cell,I.free,I.freeC,I.pin,I.hok,I.len⟩
theorem Inv.unwish (I:Inv (X.wish E) pins σ H s):Inv X pins σ H s:=⟨I.ok.unwish,I.os,I.bare,I.base,I.loc,I.cell,I.free,I.freeC,I.pin,I.hok,I.len⟩
theorem SP.unwish {D:Ends} {f:Flow} {s':Shared} (h:SP (X.wish E) pins D f s'):SP X pins D f s':=by
 cases f with
 | next=>obtain⟨σ',H',I,q⟩:=h;exact⟨σ',H',I.unwish,q⟩
 | brk=>obtain⟨σ',H',I,q⟩:=h;exact⟨σ',H',I.unwish,q⟩
 | cont=>obtain⟨σ',H',I,q⟩:=h;exact⟨σ',H',I.unwish,q⟩
 | ret u=>obtain⟨v,σ',H',I,r,q⟩:=h;exact⟨v,σ',H',I.unwish,r,q⟩
theorem PSs.nox {st:List Stmt} {t:TS} (h:PSs X.nox st t):PSs X st t:=fun pins s σ H D I hw =>
 wpAny_mono (h pins s σ H D (I.wish _) hw) (fun _ _ q=>q.unwish) fun _ _ z=>False.elim z
end
section
variable {X:Cx} {st:Stmt} {rest:List Stmt} {t u:TS} {e:Expr} {te:TE} {pos:Pos}
def fZ4:TS:=fun D σ H=>D.nx σ H
def tSeq (t u:TS):TS:=fun D σ H=>t { D with nx:=u D } σ H
theorem dXg:PSs X [] fZ4:=fun _ _ σ H _ I h=>wpAny_execs_nil ⟨σ,H,I,h⟩
theorem bJc (h1:PS X st t) (h2:PSs X rest u):PSs X (st::rest) (tSeq t u):=by
 intro pins s σ H D I h;refine wpAny_execs_cons (thn (h1 pins s σ H { D with nx:=u D } I h) fun f s1 q=>?_)
 cases f with
 | next =>
  obtain⟨σ',H',I',q⟩:=q;exact h2 pins s1 σ' H' D I' q
 | ret v=>exact q
 | brk=>exact q
 | cont=>exact q
theorem dXh (h1:PS X st t):PSs X [st] t:=by
 intro pins s σ H D I h;refine wpAny_execs_cons (thn (h1 pins s σ H D I h) fun f s1 q=>?_);cases f with
 | next=>exact wpAny_execs_nil q
 | ret v=>exact q
 | brk=>exact q
 | cont=>exact q
theorem Inv.quiet {pins:List (Addr × Obj)} {σ:St} {H:Hp} {s:Shared} (I:Inv X pins σ H s):interactive X.env=false:=by simp[interactive,I.ok.kind]
def fZ5 (te:TE):TS:=fun D σ H=>te σ H fun _ H1=>D.nx σ H1
theorem dXi (he:PE X e te) (hs:swapsWith e none pos.line X.env=pure false:=by rfl):PS X (.Expr e pos) (fZ5 te):=by
 intro pins s σ H D I h;exact wpAny_Expr_any (thn (he pins s σ H _ I h) fun v s1 ⟨x,H1,I1,r1,q1⟩=>⟨σ,H1,I1,q1⟩) I.quiet hs
def tRet (te:TE):TS:=fun D σ H=>te σ H D.rt
theorem eZm (he:PE X e te):PS X (.Return (some e) pos) (tRet te):=by
 intro pins s σ H D I h;exact wpAny_Return_some (thn (he pins s σ H _ I h) fun v s1 ⟨x,H1,I1,r1,q1⟩=>⟨x,σ,H1,I1,r1,q1⟩)
def tIfS (c:TT) (t u:TS):TS:=fun D σ H=>c σ H fun b H1=>if b=true then t D σ H1 else u D σ H1
theorem fZ6 {c:Expr} {a b:List Stmt} {tc:TT} (hc:PT X c tc) (ha:PSs X a t) (hb:PSs X b u):PS X (.If c a b pos) (tIfS tc t u):=by
 intro pins s σ H D I h;refine wpAny_If (thn (hc pins s σ H _ I h) fun d s1 ⟨H1,I1,q1⟩=>?_);cases d with
 | true=>exact ha pins s1 σ H1 D I1 q1
 | false=>exact hb pins s1 σ H1 D I1 q1
end
abbrev TG:=V->St->Hp->(St->Hp->Prop)->Prop
abbrev TGs:=List V->St->Hp->(St->Hp->Prop)->Prop
def PG (X:Cx) (target:Expr) (t:TG):Prop :=
 ∀ (pins:List (Addr × Obj)) (s:Shared) (σ:St) (H:Hp) (v:V) (u:Value) (Q:St->Hp->Prop),Inv X pins σ H s->RelV v u->t v σ H Q ->
  wpAny (model X.prog X.w) X.A (assign target X.env u) (fun _ s'=>∃ σ' H',Inv X pins σ' H' s'/\Q σ' H') X.xe s
def PGs (X:Cx) (ts:List Expr) (t:TGs):Prop :=
 ∀ (pins:List (Addr × Obj)) (s:Shared) (σ:St) (H:Hp) (vs:List V) (us:List Value) (Q:St->Hp->Prop),Inv X pins σ H s->Vals vs us->t vs σ H Q ->
  wpAny (model X.prog X.w) X.A (assignInOrder ((assignEach ts X.env).map (·.2)) us) (fun _ s'=>∃ σ' H',Inv X pins σ' H' s'/\Q σ' H') X.xe s
section
variable {X:Cx} {pos:Pos}
def bXk (i:Nat):TG:=fun v σ H Q=>Q (σ.set i (some v)) H
theorem aQe {i:Nat} {x:Str} (hN:X.N.Nodup) (hi:X.N[i]?=some x) (hx:Loc X.env.scope x) (hf:X.fn x=true\/X.env.scope.names.lookup x=some .local:=by first | exact .inl rfl | exact .inr rfl | assumption):PG X (.Name x pos) (bXk i):=by
 intro pins s σ H v u Q I r h;exact wpAny_assign_Name (store_ok I hN hi hx r (fun s' I'=>⟨_,H,I',h⟩) hf)
def gNil:TGs:=fun vs σ H Q=>vs=[]/\Q σ H
def dXj (t:TG) (u:TGs):TGs:=fun vs σ H Q=>∃ v r,vs=v::r/\t v σ H fun σ' H'=>u r σ' H' Q
theorem bXl:PGs X [] gNil:=by
 intro pins s σ H vs us Q I r h;obtain⟨e,h⟩:=h;subst e;cases r;exact assignInOrder_nil ⟨σ,H,I,h⟩
theorem aXg {e:Expr} {es:List Expr} {t:TG} {u:TGs} (h1:PG X e t) (h2:PGs X es u)
  (hs:(assignEach (e::es) X.env).map (·.2)=assign e X.env::(assignEach es X.env).map (·.2):=by rfl):PGs X (e::es) (dXj t u):=by
 intro pins s σ H vs us Q I r h;obtain⟨v,vr,e1,h⟩:=h;subst e1;cases r with
 | cons r rr =>
  rw[hs];refine assignInOrder_cons (thn (h1 pins s σ H _ _ _ I r h) fun _ s1 ⟨σ1,H1,I1,q1⟩=>?_);exact h2 pins s1 σ1 H1 _ _ Q I1 rr q1
def gTup (K:PySem.W.Frag) (n:Nat) (t:TGs):TG:=fun v σ H Q=>∃ a xs,v=.ref a/\SqT K H a xs/\xs.length=n/\t xs σ H Q
theorem cZ8 {es:List Expr} {k:Nat} {t:TGs} {n:Nat} (hc:X.calm=true) (h:PGs X es t)
  (hn:(assignEach es X.env).length=n:=by rfl) (hst:(assignEach es X.env).findIdx? (·.1)=none:=by rfl):PG X (.Tuple es k pos) (gTup X.K n t):=by
 intro pins s σ H v u Q I r hw;obtain⟨a,xs,e1,hq,hl,hw⟩:=hw;subst e1;cases r;obtain⟨its,rv,ht,hz⟩:=I.tuple hq;refine assign_Tuple_tuple (I.ok.hd hc) ht (by simp[hn,<- hl,rv.length]) hst fun h' hx=>?_
 have I1:Inv X pins σ H { s with heap:=h' }:=I.kept (t':=s.toks) fun b o e=>hx b o (Nat.ne_of_lt (Heap.lt_size e)) e
 exact h pins _ σ H xs _ Q I1 (by simpa using rv) hw
def tAsg (te:TE) (g:TG):TS:=fun D σ H=>te σ H fun x H1=>g x σ H1 D.nx
theorem eZn {i:Nat} {x:Str} {e:Expr} {te:TE} {pos':Pos} (hN:X.N.Nodup) (hi:X.N[i]?=some x) (hx:Loc X.env.scope x) (he:PE X e te) (hs:swapsWith e (some (.Name x pos')) pos.line X.env=pure false:=by rfl) (hf:X.fn x=true\/X.env.scope.names.lookup x=some .local:=by first | exact .inl rfl | exact .inr rfl | assumption) :
  PS X (.Assign [.Name x pos'] e pos) (tAsg te (bXk i)):=by
 intro pins s σ H D I h;refine wpAny_Assign_Name (thn (he pins s σ H _ I h) fun v s1 ⟨y,H1,I1,r1,q1⟩=>?_) hs;exact store_ok I1 hN hi hx r1 (fun s2 I2=>⟨_,H1,I2,q1⟩) hf
end
section
variable {X:Cx} {pos:Pos}
end
structure It where
 go:Nat->Hp->Prop
 yld:Nat->Hp->V->Hp->Prop
 stop:Nat->Hp->Prop
def FpOk (X:Cx) (pins:List (Addr × Obj)) (H:Hp) (b:Addr):Prop :=
 H b=none/\b≠X.env.locals/\b∉X.fs/\(b∈X.ex\/X.s₀.heap.objs.size<=b)/\(∀ x c,X.env.cells.lookup x=some c->c≠b)/\∀ p∈X.pn++pins,p.1≠b
theorem Inv.fpOk {X:Cx} {pins:List (Addr × Obj)} {σ:St} {H H':Hp} {s:Shared} {b:Addr} (I:Inv X pins σ H s) (hb:s.heap.objs.size<=b) (hn:H' b=none):FpOk X pins H' b:=by
 refine⟨hn,Nat.ne_of_gt (Nat.lt_of_lt_of_le I.lt hb),I.nofs hb,.inr (Nat.le_trans I.sz hb),fun x c e z=>?_,fun p hp z=>?_⟩
 ·obtain⟨v,q⟩:=I.cell x c e;exact absurd (Nat.lt_of_lt_of_le q.lt (by rw[z];exact hb)) (Nat.lt_irrefl _)
 ·exact absurd (Nat.lt_of_lt_of_le (Heap.lt_size (I.pin p hp).1) (by rw[z];exact hb)) (Nat.lt_irrefl _)
structure Turn (P:Program) (w:World) (K:PySem.W.Frag) (tg:Expr) (J:It) (fp:List Addr) (it:Addr) (tn:Nat->Heap->Prop):Prop where
 mem:it∈fp
 obj:∀ i h,tn i h->∀ b∈fp,∃ o,h.get? b=some o/\∀ v,o.data≠.cell v
 keep:∀ i h h',tn i h->(∀ b∈fp,∀ o,h.get? b=some o->h'.get? b=some o)->tn i h'
 item:∀ (X:Cx),X.prog=P->X.w=w->X.K=K->X.calm=true->∀ (i:Nat) (pins:List (Addr × Obj)) (s:Shared) (σ:St) (H:Hp) (E:Value->Shared->Prop),Inv X pins σ H s->(∀ b∈fp,FpOk X pins H b)->tn i s.heap->J.go i H ->
  wpAny (model P w) X.A (pyNext (.ref it)) (fun r s1=>∃ u,r=some u /\
   wpAny (model P w) X.A (letOwnedTupleGo tg (.ref it) u) (fun _ s2=>∃ x H',Inv X pins σ H' s2/\RelV x u/\J.yld i H x H'/\tn (i + 1) s2.heap/\∀ b∈fp,H' b=none) E s1) E s
 done:∀ (X:Cx),X.prog=P->X.w=w->X.K=K->X.calm=true->∀ (i:Nat) (pins:List (Addr × Obj)) (s:Shared) (σ:St) (H:Hp) (E:Value->Shared->Prop),Inv X pins σ H s->(∀ b∈fp,FpOk X pins H b)->tn i s.heap->J.stop i H ->
  wpAny (model P w) X.A (pyNext (.ref it)) (fun r s1=>r=none/\Inv X pins σ H s1) E s
 self:∀ (A:Around) (i:Nat) (s:Shared) (Q:Value->Shared->Prop) (E:Value->Shared->Prop),tn i s.heap->Q (.ref it) s->wpAny (model P w) A (pyIter (.ref it)) Q E s
abbrev TI:=St->Hp->(It->Hp->Prop)->Prop
def PIE (X:Cx) (pins:List (Addr × Obj)) (σ:St) (tg:Expr) (R:It->Hp->Prop) (itv:Value) (s2:Shared):Prop :=
 ∃ (it:Addr) (fp:List Addr) (tn:Nat->Heap->Prop) (J:It) (H':Hp),itv=.ref it/\Inv X pins σ H' s2/\Turn X.prog X.w X.K tg J fp it tn/\tn 0 s2.heap/\(∀ b∈fp,FpOk X pins H' b)/\R J H'
def PI (X:Cx) (tg iter:Expr) (wi:TI):Prop :=
 ∀ (pins:List (Addr × Obj)) (s:Shared) (σ:St) (H:Hp) (R:It->Hp->Prop),Inv X pins σ H s->wi σ H R ->
  wpAny (model X.prog X.w) X.A (eval iter X.env) (fun v s1=>wpAny (model X.prog X.w) X.A (pyIter v) (PIE X pins σ tg R) X.xe s1) X.xe s
theorem dXk {M : Model} {A : Around} {E : Value -> Shared -> Prop} {s : Shared} {tg : Expr} {it : Addr} {u : Value} {o : Obj} {n : String} {vs : Array Value} {Q : Unit -> Shared -> Prop} (ho : s.heap.get? it = some o) (hc : o.cls = .type n) (hd : o.data = .fields vs)
    (hn : ["enumerate", "zip", "dict_itemiterator", "dict_reverseitemiterator", "odict_iterator", "itertools.zip_longest", "itertools.pairwise"].contains n = false) (hQ : Q () s) : wpAny M A (letOwnedTupleGo tg (.ref it) u) Q E s := by
  unfold letOwnedTupleGo;cases tg <;> first
    | exact wpAny_pure hQ
    | (cases u <;> first
        | exact wpAny_pure hQ
        | (refine wpAny_bind (wpAny_load ho ?_)
           rw [hc, hd];show wpAny M A (if (["enumerate", "zip", "dict_itemiterator", "dict_reverseitemiterator", "odict_iterator", "itertools.zip_longest", "itertools.pairwise"].contains n && vs[0]? == some (rawInt _)) = true then _ else _) Q E s
           rw [if_neg (by intro h; rw [hn, Bool.false_and] at h; cases h)]
           exact wpAny_pure hQ))
def Itl (K:PySem.W.Frag) (a:Addr):It :=
 ⟨fun i H=>∃ xs x,SqL K H a xs/\xs[i]?=some x,fun i H x H'=>H'=H/\∀ xs,SqL K H a xs->xs[i]?=some x,fun i H=>∃ xs,SqL K H a xs/\xs.length<=i⟩
def Itt (K:PySem.W.Frag) (a:Addr):It :=
 ⟨fun i H=>∃ xs x,SqT K H a xs/\xs[i]?=some x,fun i H x H'=>H'=H/\∀ xs,SqT K H a xs->xs[i]?=some x,fun i H=>∃ xs,SqT K H a xs/\xs.length<=i⟩
def Itr (lo:Int) (n:Nat):It:=⟨fun i _=>i < n,fun i H x H'=>H'=H/\x=.int (lo + i),fun i _=>n<=i⟩
theorem cZ9 {P:Program} {w:World} {K:PySem.W.Frag} {tg:Expr} (a it:Addr):Turn P w K tg (Itl K a) [it] it (fun i h=>h.IsListIter it a i) where
 mem:=by simp
 obj:=fun i h st b hb=>by
  have e:b=it:=by simpa using hb
  subst e;obtain⟨o,e,c,d⟩:=st;exact⟨o,e,fun v z=>by rw[d] at z;cases z⟩
 keep:=fun i h h' st k=>st.at fun o e=>k it (by simp) o e
 item:=by
  intro X hP hw hK hc i pins s σ H E I hf st hg;subst hP hw hK;obtain⟨xs,x,hq,hx⟩:=hg;obtain⟨its,rv,p,hz⟩:=I.list hq;obtain⟨u,hu,ru⟩:=rv.get hx;obtain⟨f0,f1,f2,f3,f4,f5⟩:=hf it (by simp)
  refine wpAny_pyNext_list_item st p.isList (x:=u) (by simpa using hu) fun h' st' sb=>?_
  have I1:Inv X pins σ H { s with heap:=h' }:=I.turned (t':=s.toks) (fun b o hb e=>(sb.2 b hb).trans e) f0 f1 f3 f4 f5
  obtain⟨o,e,c,d⟩:=id st';exact⟨u,rfl,dXk (s:={ s with heap:=h' }) e c d (by decide) ⟨x,H,I1,ru,⟨rfl,fun ys hy=>by rw[I.list_inj hy hq];exact hx⟩,st',fun b hb=>(hf b hb).1⟩⟩
 done:=by
  intro X hP hw hK hc i pins s σ H E I hf st hg;subst hP hw hK;obtain⟨xs,hq,hx⟩:=hg;obtain⟨its,rv,p,hz⟩:=I.list hq;obtain⟨f0,f1,f2,f3,f4,f5⟩:=hf it (by simp)
  have hl:=rv.length;exact wpAny_pyNext_list_end (I.ok.hd hc) st p.isList (by simp;lia) fun h' eb=>⟨rfl,I.turned (t':=s.toks) (fun b o hb e=>eb b o hb e) f0 f1 f3 f4 f5⟩
 self:=fun _ _ _ _ _ st h=>wpAny_pyIter_listiter st h
theorem cQk {P:Program} {w:World} {K:PySem.W.Frag} {tg:Expr} (a it:Addr):Turn P w K tg (Itt K a) [it] it (fun i h=>h.IsTupleIter it a i) where
 mem:=by simp
 obj:=fun i h st b hb=>by
  have e:b=it:=by simpa using hb
  subst e;obtain⟨o,e,c,d⟩:=st;exact⟨o,e,fun v z=>by rw[d] at z;cases z⟩
 keep:=fun i h h' st k=>st.at fun o e=>k it (by simp) o e
 item:=by
  intro X hP hw hK hc i pins s σ H E I hf st hg;subst hP hw hK;obtain⟨xs,x,hq,hx⟩:=hg;obtain⟨its,rv,p,hz⟩:=I.tuple hq;obtain⟨u,hu,ru⟩:=rv.get hx;obtain⟨f0,f1,f2,f3,f4,f5⟩:=hf it (by simp)
  refine wpAny_pyNext_tuple_item st (show s.heap.IsTuple a its.toArray from p) (x:=u) (by simpa using hu) fun h' st' sb=>?_
  have I1:Inv X pins σ H { s with heap:=h' }:=I.turned (t':=s.toks) (fun b o hb e=>(sb.2 b hb).trans e) f0 f1 f3 f4 f5
  obtain⟨o,e,c,d⟩:=id st';exact⟨u,rfl,dXk (s:={ s with heap:=h' }) e c d (by decide) ⟨x,H,I1,ru,⟨rfl,fun ys hy=>by rw[I.tuple_inj hy hq];exact hx⟩,st',fun b hb=>(hf b hb).1⟩⟩
 done:=by
  intro X hP hw hK hc i pins s σ H E I hf st hg;subst hP hw hK;obtain⟨xs,hq,hx⟩:=hg;obtain⟨its,rv,p,hz⟩:=I.tuple hq;obtain⟨f0,f1,f2,f3,f4,f5⟩:=hf it (by simp)
  have hl:=rv.length;exact wpAny_pyNext_tuple_end (I.ok.hd hc) st (show s.heap.IsTuple a its.toArray from p) (by simp;lia) fun h' eb=>⟨rfl,I.turned (t':=s.toks) (fun b o hb e=>eb b o hb e) f0 f1 f3 f4 f5⟩
 self:=fun _ _ _ _ _ st h=>wpAny_pyIter_tupleiter st h
theorem cQl {P:Program} {w:World} {K:PySem.W.Frag} {tg:Expr} (it:Addr) (lo:Int) (n:Nat):Turn P w K tg (Itr lo n) [it] it (fun i h=>IsRangeIter h it (lo + (i:Nat) * 1) ((n:Int) - (i:Nat)) 1) where
 mem:=by simp
 obj:=fun i h st b hb=>by
  have e:b=it:=by simpa using hb
  subst e;exact⟨_,st,fun v z=>by
   have z':Data.fields _=Data.cell v:=z;cases z'⟩
 keep:=fun i h h' st k=>k it (by simp) _ st
 item:=by
  intro X hP hw hK hc i pins s σ H E I hf st hg;subst hP hw hK;obtain⟨f0,f1,f2,f3,f4,f5⟩:=hf it (by simp)
  have W:=Walks.range (prog:=X.prog) (w:=X.w) (I.ok.hd hc) it lo 1 n;refine W.item i s _ _ hg st fun v h' tk hv st' kk=>?_;obtain⟨t,rfl⟩:=hv;have I1:Inv X pins σ H { s with heap:=h',toks:=tk }:=I.turned (fun b o hb e=>kk b o (by simpa using hb) e) f0 f1 f3 f4 f5
  refine⟨_,rfl,dXk (s:={ s with heap:=h',toks:=tk }) (n := "range_iterator") st' rfl rfl (by decide) ⟨.int (lo + i),H,I1,⟨t,?_⟩,⟨rfl,rfl⟩,st',fun b hb=>(hf b hb).1⟩⟩
  rw[Int.mul_one]
 done:=by
  intro X hP hw hK hc i pins s σ H E I hf st hg;subst hP hw hK;obtain⟨f0,f1,f2,f3,f4,f5⟩:=hf it (by simp)
  exact wpAny_pyNext_range_end (I.ok.hd hc) st (by have:n<=i:=hg;lia) fun h' eb=>⟨rfl,I.turned (t':=s.toks) (fun b o hb e=>eb b o hb e) f0 f1 f3 f4 f5⟩
 self:=fun _ _ _ _ _ st h=>wpAny_pyIter_rangeiter st h
section
variable {X:Cx} {tg:Expr}
theorem cJy {pins:List (Addr × Obj)} {σ:St} {H:Hp} {s:Shared} {R:It->Hp->Prop} {E:Value->Shared->Prop} {lo hi:Int} {t u v:Tok} {tk:Nat} (I:Inv X pins σ H s) (h1:-(2 ^ 62)<=lo) (h2:lo < 2 ^ 62) (h3:-(2 ^ 62)<=hi) (h4:hi < 2 ^ 62)
  (q:R (Itr lo (hi - lo).toNat) H):wpAny (model X.prog X.w) X.A (pyIter (.ref s.heap.objs.size)) (PIE X pins σ tg R) E { s with heap:=s.heap.push { cls:=.type "range",data:=.fields #[.int lo t,.int hi u,.int 1 v] },toks:=tk }:=by
 refine wpAny_pyIter_range (IsRange.new ..) (small_one h1 h2 h3 h4) ?_;have I1:Inv X pins σ H { s with heap:=s.heap.push { cls:=.type "range",data:=.fields #[.int lo t,.int hi u,.int 1 v] },toks:=tk }:=I.kept fun b o e=>Heap.get?_push_of_some _ e
 refine⟨(s.heap.push { cls:=.type "range",data:=.fields #[.int lo t,.int hi u,.int 1 v] }).objs.size,[(s.heap.push { cls:=.type "range",data:=.fields #[.int lo t,.int hi u,.int 1 v] }).objs.size],_,_,H,rfl,
  I1.kept (t':=tk) fun b o e=>Heap.get?_push_of_some _ e,cQl _ lo (hi - lo).toNat,?_,fun b hb=>?_,q⟩
 ·have e1:lo + ((0:Nat):Int) * 1=lo:=by simp
  have e2:(((hi - lo).toNat:Nat):Int) - ((0:Nat):Int)=Builtin.Range.rangeSize lo hi 1:=by rw[rangeSize_one];split <;> lia
  show IsRangeIter _ _ (lo + ((0:Nat):Int) * 1) ((((hi - lo).toNat:Nat):Int) - ((0:Nat):Int)) 1;rw[e1,e2];exact Heap.get?_push_size _ rfl
 ·have e:b=(s.heap.push { cls:=.type "range",data:=.fields #[.int lo t,.int hi u,.int 1 v] }).objs.size:=by simpa using hb
  subst e;exact I1.fpOk (Nat.le_refl _) (I1.hok.fresh (Nat.le_refl _))
def fZ7 (ta:TA):TI:=fun σ H R=>ta σ H fun vs H1=>∃ j:Int,vs=[.int j]/\-(2 ^ 62)<=j/\j < 2 ^ 62/\R (Itr 0 j.toNat) H1
theorem cZa {a:Expr} {ta:TA} {p pos:Pos} (hg:Gl X "range") (hm:X.mg "range" = none) (ha:PA X [a] ta) (hs:starEach [a] X.env=[(false,eval a X.env)]:=by rfl):PI X tg (.Call (.Name "range" p) [a] [] pos) (fZ7 ta):=by
 intro pins s σ H R I h;refine Call_ (ld_blt I hg hm boot_range (PyProof.Rows.callWith_type1 (thn (ha pos pins s σ H _ I h) fun us s1 ⟨vs,H1,I1,r1,q1⟩=>?_) hs rfl));obtain⟨j,e,q1,q2,q⟩:=q1;subst e;cases r1 with
 | cons r rr =>
  cases rr;obtain⟨t,rfl⟩:=r;exact call_range_1 (cJy I1 (by lia) (by lia) q1 q2 (by simpa using q))
def tFor (wi:TI) (g:TG) (tb:TS):TS:=fun D σ H=>wi σ H fun J H1=>∃ W:Nat->Nat->St->Hp->Prop,(∃ m,W 0 m σ H1)/\∀ i m σ H,W i m σ H ->
 (J.stop i H/\D.nx σ H)\/(J.go i H/\∃ N:St->Hp->Prop,(∀ σ' H',N σ' H'->∃ m',m' < m/\W (i + 1) m' σ' H')/\∀ x H',J.yld i H x H'->g x σ H' fun σ2 H2=>tb { D with nx:=N,ct:=N,bk:=D.nx } σ2 H2)
def bZn (fp:List Addr) (h:Heap):List (Addr × Obj):=fp.filterMap fun b=>(h.get? b).map fun o=>(b,o)
theorem aZz {fp:List Addr} {h:Heap} {b:Addr} {o:Obj} (hb:b∈fp) (e:h.get? b=some o):(b,o)∈bZn fp h:=List.mem_filterMap.mpr ⟨b,hb,by rw[e];rfl⟩
theorem cZb {fp:List Addr} {h:Heap} {p:Addr × Obj} (hp:p∈bZn fp h):p.1∈fp/\h.get? p.1=some p.2:=by
 obtain⟨b,hb,e⟩:=List.mem_filterMap.mp hp;cases q:h.get? b with
 | none=>rw[q] at e;cases e
 | some o =>
  rw[q] at e;have e':(b,o)=p:=Option.some.inj e;subst e';exact⟨hb,q⟩
theorem Inv.pinned {pins:List (Addr × Obj)} {σ:St} {H:Hp} {s:Shared} {fp:List Addr} (I:Inv X pins σ H s) (hf:∀ b∈fp,FpOk X pins H b) (ho:∀ b∈fp,∃ o,s.heap.get? b=some o/\∀ v,o.data≠.cell v):Inv X (pins++bZn fp s.heap) σ H s :=
 I.pins_of fun p hp=>(List.mem_append.mp hp).elim (fun z=>I.pin p (List.mem_append_right _ z)) fun z=>by
  obtain⟨hb,e⟩:=cZb z;obtain⟨f0,f1,f2,_⟩:=hf p.1 hb;obtain⟨o,e',d⟩:=ho p.1 hb;rw[e] at e';cases e';exact⟨e,f0,f1,f2,d⟩
theorem Inv.unpinned {pins pl:List (Addr × Obj)} {σ:St} {H:Hp} {s:Shared} (I:Inv X (pins++pl) σ H s):Inv X pins σ H s:=I.pins_of fun p hp=>I.pin p (List.mem_append_right _ (List.mem_append_left _ hp))
theorem eZo {iter:Expr} {body:List Stmt} {wi:TI} {g:TG} {tb:TS} {pos:Pos} (hp:PassesOwn (model X.prog X.w) X.A X.env X.xe) (hc:X.calm=true) (hi:PI X tg iter wi) (hg:PG X tg g) (hb:PSs X body tb)
  (hs:∀ x,foldedSetIterable iter X.env x=pure x:=by intro _;rfl):PS X (.For tg iter body [] pos) (tFor wi g tb):=by
 intro pins s σ H D I h;refine wpAny_For (thn (hi pins s σ H _ I h) fun v s1 h1=>thn h1 fun itv s2 h2=>?_) hs;obtain⟨it,fp,tn,J,H2,e,I2,T,st2,f2,W,⟨m0,w0⟩,turn⟩:=h2;subst e;have stat:∀ {H':Hp},(∀ b∈fp,H' b=none)->∀ b∈fp,FpOk X pins H' b:=fun hn b hb=>⟨hn b hb,(f2 b hb).2⟩;refine codeAny_forLoop_any (fun n s'=>∃ i σ' H',Inv X pins σ' H' s'/\tn i s'.heap/\(∀ b∈fp,H' b=none)/\W i n σ' H') ?_ m0 ⟨0,σ,H2,I2,st2,fun b hb=>(f2 b hb).1,w0⟩;rintro n s3 ⟨i,σ3,H3,I3,st3,fr3,w3⟩;rcases turn i n σ3 H3 w3 with⟨stop,qn⟩ | ⟨go,N,hN,step⟩
 ·refine wpAny_passesOwn hp (thn (T.done X rfl rfl rfl hc i pins s3 σ3 H3 X.xe I3 (stat fr3) st3 stop) fun r s4 ⟨hr,I4⟩=>?_);subst hr;exact wpAny_execs_nil ⟨σ3,H3,I4,qn⟩
 ·refine wpAny_passesOwn hp (thn (T.item X rfl rfl rfl hc i pins s3 σ3 H3 X.xe I3 (stat fr3) st3 go) fun r s4 ⟨u,hr,h4⟩=>?_);subst hr;refine wpAny_passesOwn hp (thn h4 fun _ s5 ⟨x,H5,I5,r5,y5,st5,fr5⟩=>?_);have I5':=I5.pinned (stat fr5) (T.obj _ _ st5);refine wpAny_passesOwn hp (thn (hg _ s5 σ3 H5 x u _ I5' r5 (step x H5 y5)) fun _ s6 ⟨σ6,H6,I6,q6⟩=>?_);refine wpAny_passesOwn hp (thn (hb _ s6 σ6 H6 _ I6 q6) fun f s7 q7=>?_);have again:∀ {σ7:St} {H7:Hp},Inv X (pins++bZn fp s5.heap) σ7 H7 s7->N σ7 H7->∃ m,m < n/\∃ i σ' H',Inv X pins σ' H' s7/\tn i s7.heap/\(∀ b∈fp,H' b=none)/\W i m σ' H':=fun {σ7 H7} I7 n7=>by
   obtain⟨m',hm,w7⟩:=hN σ7 H7 n7;refine⟨m',hm,i + 1,σ7,H7,I7.unpinned,T.keep _ _ _ st5 fun b hb o e=>(I7.pin (b,o) (List.mem_append_right _ (List.mem_append_right _ (aZz hb e)))).1,fun b hb=>?_,w7⟩;obtain⟨o,e,d⟩:=T.obj _ _ st5 b hb;exact(I7.pin (b,o) (List.mem_append_right _ (List.mem_append_right _ (aZz hb e)))).2.1
  cases f with
  | next=>obtain⟨σ7,H7,I7,n7⟩:=q7;exact again I7 n7
  | cont=>obtain⟨σ7,H7,I7,n7⟩:=q7;exact again I7 n7
  | brk=>obtain⟨σ7,H7,I7,q7⟩:=q7;exact⟨σ7,H7,I7.unpinned,q7⟩
  | ret v=>obtain⟨x7,σ7,H7,I7,r7,q7⟩:=q7;exact⟨x7,σ7,H7,I7.unpinned,r7,q7⟩
end
abbrev R2:=V->V->Hp->VK->Prop
def OpR (X:Cx) (f:Value->Value->Sem Value) (r:R2):Prop :=
 ∀ (pins:List (Addr × Obj)) (s:Shared) (σ:St) (H:Hp) (x y:V) (v u:Value) (Q:VK),Inv X pins σ H s->RelV x v->RelV y u->r x y H Q ->
  wpAny (model X.prog X.w) X.A (f v u) (EP X pins σ Q) X.xe s
def UnR (X:Cx) (f:Value->Sem Value) (r:V->Hp->VK->Prop):Prop :=
 ∀ (pins:List (Addr × Obj)) (s:Shared) (σ:St) (H:Hp) (x:V) (v:Value) (Q:VK),Inv X pins σ H s->RelV x v->r x H Q ->
  wpAny (model X.prog X.w) X.A (f v) (EP X pins σ Q) X.xe s
def CallR (X:Cx) (f:Value) (r:List V->Hp->VK->Prop):Prop :=
 ∀ (pins:List (Addr × Obj)) (s:Shared) (σ:St) (H:Hp) (xs:List V) (us:List Value) (Q:VK),Inv X pins σ H s->Vals xs us->r xs H Q ->
  wpAny (model X.prog X.w) X.A (call f us) (EP X pins σ Q) X.xe s
def TruR (X:Cx) (r:V->Hp->(Bool->Hp->Prop)->Prop):Prop :=
 ∀ (pins:List (Addr × Obj)) (s:Shared) (σ:St) (H:Hp) (x:V) (v:Value) (Q:Bool->Hp->Prop),Inv X pins σ H s->RelV x v->r x H Q ->
  wpAny (model X.prog X.w) X.A (truthy v) (TP X pins σ Q) X.xe s
def tOp (r:R2) (ta tb:TE):TE:=fun σ H Q=>ta σ H fun x H1=>tb σ H1 fun y H2=>r x y H2 Q
def tUn (r:V->Hp->VK->Prop) (ta:TE):TE:=fun σ H Q=>ta σ H fun x H1=>r x H1 Q
def rI (C:Int->Int->Prop) (g:Int->Int->V):R2:=fun x y H Q=>∃ i j,x=.int i/\y=.int j/\C i j/\Q (g i j) H
def rI0 (g:Int->Int->V):R2:=fun x y H Q=>∃ i j,x=.int i/\y=.int j/\Q (g i j) H
def rU (g:Int->V):V->Hp->VK->Prop:=fun x H Q=>∃ i,x=.int i/\Q (g i) H
section
variable {X:Cx} {a b c:Expr} {ta tb tc:TE} {pos:Pos}
theorem binT (ha:PE X a ta) (hb:PE X b tb) {pins:List (Addr × Obj)} {s:Shared} {σ:St} {H:Hp} {R:V->V->Hp->Prop} (I:Inv X pins σ H s)
  (h:ta σ H fun x H1=>tb σ H1 fun y H2=>R x y H2) {Q:Value->Shared->Prop} {f:Value->Value->Sem Value}
  (hf:∀ v u s2 x y H2,Inv X pins σ H2 s2->RelV x v->RelV y u->R x y H2->wpAny (model X.prog X.w) X.A (f v u) Q X.xe s2) :
  wpAny (model X.prog X.w) X.A (eval a X.env) (fun v s₁=>wpAny (model X.prog X.w) X.A (eval b X.env) (fun u s₂=>wpAny (model X.prog X.w) X.A (f v u) Q X.xe s₂) X.xe s₁) X.xe s:=by
 refine thn (ha pins s σ H _ I h) fun v s1 ⟨x,H1,I1,r1,q1⟩=>?_;refine thn (hb pins s1 σ H1 _ I1 q1) fun u s2 ⟨y,H2,I2,r2,q2⟩=>?_;exact hf v u s2 x y H2 I2 r1 r2 q2
theorem fZ8 {op:Operator} {r:R2} (ho:OpR X (binaryOp op) r) (ha:PE X a ta) (hb:PE X b tb):PE X (.BinOp a op b pos) (tOp r ta tb):=by
 intro pins s σ H Q I h;exact wpAny_BinOp (binT ha hb I h fun v u s2 x y H2 I2 rx ry q=>ho pins s2 σ H2 x y v u Q I2 rx ry q)
theorem fZ9 {op:UnaryOp} {r:V->Hp->VK->Prop} (ho:UnR X (unaryOp op) r) (ha:PE X a ta):PE X (.UnaryOp op a pos) (tUn r ta):=by
 intro pins s σ H Q I h;exact UnaryOp_ (thn (ha pins s σ H _ I h) fun v s1 ⟨x,H1,I1,r1,q1⟩=>ho pins s1 σ H1 x v Q I1 r1 q1)
theorem opI {f:Value->Value->Sem Value} {C:Int->Int->Prop} {g:Int->Int->Int}
  (rule:∀ (i j:Int) (t u:Tok) (s:Shared) (Q:Value->Shared->Prop) (E:Value->Shared->Prop),C i j->Q (.int (g i j) s.toks) { s with toks:=s.toks + 1 }->wpAny (model X.prog X.w) X.A (f (.int i t) (.int j u)) Q E s) :
  OpR X f (rI C fun i j=>.int (g i j)):=by
 intro pins s σ H x y v u Q I rx ry h;obtain⟨i,j,rfl,rfl,hc,q⟩:=h;obtain⟨t,rfl⟩:=rx;obtain⟨t',rfl⟩:=ry;exact rule i j t t' s _ _ hc ⟨.int (g i j),H,I.tok _,⟨_,rfl⟩,q⟩
theorem opI0 {f:Value->Value->Sem Value} {g:Int->Int->Int}
  (rule:∀ (i j:Int) (t u:Tok) (s:Shared) (Q:Value->Shared->Prop) (E:Value->Shared->Prop),Q (.int (g i j) s.toks) { s with toks:=s.toks + 1 }->wpAny (model X.prog X.w) X.A (f (.int i t) (.int j u)) Q E s) :
  OpR X f (rI0 fun i j=>.int (g i j)):=by
 intro pins s σ H x y v u Q I rx ry h;obtain⟨i,j,rfl,rfl,q⟩:=h;obtain⟨t,rfl⟩:=rx;obtain⟨t',rfl⟩:=ry;exact rule i j t t' s _ _ ⟨.int (g i j),H,I.tok _,⟨_,rfl⟩,q⟩
theorem opB0 {f:Value->Value->Sem Value} {g:Int->Int->Bool}
  (rule:∀ (i j:Int) (t u:Tok) (s:Shared) (Q:Value->Shared->Prop) (E:Value->Shared->Prop),Q (.bool (g i j)) s->wpAny (model X.prog X.w) X.A (f (.int i t) (.int j u)) Q E s) :
  OpR X f (rI0 fun i j=>.bl (g i j)):=by
 intro pins s σ H x y v u Q I rx ry h;obtain⟨i,j,rfl,rfl,q⟩:=h;obtain⟨t,rfl⟩:=rx;obtain⟨t',rfl⟩:=ry;exact rule i j t t' s _ _ ⟨.bl (g i j),H,I,rfl,q⟩
def CDiv (i j:Int):Prop:=0 < j/\j < 1073741824
def CPow (i j:Int):Prop:=0<=j/\j<=1000000/\i.natAbs < 2 ^ 64
def CMul (i j:Int):Prop:=(-(2 ^ 64) < i/\i < 2 ^ 64)\/(-(2 ^ 64) < j/\j < 2 ^ 64)
theorem CMul.ok {i j:Int} (h:CMul i j):IntMulOk i j:=by
 rcases h with⟨h1,h2⟩ | ⟨h1,h2⟩
 ·exact .of_left (intBits_le_64 h1 h2)
 ·exact .of_right (intBits_le_64 h1 h2)
theorem cQm (k:Nat):(0:Int)<=2 ^ k:=by
 rw[two_pow_cast];exact Int.natCast_nonneg _
theorem op_add:OpR X (binaryOp .Add) (rI0 fun i j=>.int (i + j)):=opI0 fun _ _ _ _ _ _ _ q=>add_int q
theorem eZp:OpR X (binaryOp .Sub) (rI0 fun i j=>.int (i - j)):=opI0 fun _ _ _ _ _ _ _ q=>sub_int q
theorem eZq:OpR X (binaryOp .Mult) (rI CMul fun i j=>.int (i * j)):=opI fun _ _ _ _ _ _ _ hc q=>mul_int q hc.ok
theorem dXl:OpR X (binaryOp .FloorDiv) (rI CDiv fun i j=>.int (i / j)):=opI fun i j _ _ _ _ _ hc q=>by
 have h1:(0:Int) < j:=hc.1;have h2:j < 1073741824:=hc.2;exact floordiv_int (by lia) (by rw[Int.fdiv_eq_ediv_of_nonneg i (by lia)];exact q) (.inl (PyProof.noPylong_small (by lia)))
theorem eZr:OpR X (binaryOp .Mod) (rI (fun _ j=>0 < j) fun i j=>.int (i % j)):=opI fun i j _ _ _ _ _ hc q=>by
 have h1:(0:Int) < j:=hc;exact mod_int' (by lia) (by rw[Int.fmod_eq_emod_of_nonneg i (by lia)];exact q)
theorem eZs:OpR X (binaryOp .Pow) (rI CPow fun i j=>.int (i ^ j.toNat)):=opI fun _ _ _ _ _ _ _ hc q=>pow_int_small hc.1 hc.2.1 hc.2.2 q
theorem eZt:OpR X (binaryOp .RShift) (rI (fun _ j=>0<=j) fun i j=>.int (i / 2 ^ j.toNat)):=opI fun i j _ _ _ _ _ hc q =>
 rshift_int hc (by rw[Int.fdiv_eq_ediv_of_nonneg i (cQm _)];exact q)
theorem eZu:OpR X (binaryOp .BitAnd) (rI0 fun i j=>.int (Builtin.bitAnd i j)):=opI0 fun _ _ _ _ _ _ _ q=>and_int q
theorem unI {f:Value->Sem Value} {g:Int->Int}
  (rule:∀ (i:Int) (t:Tok) (s:Shared) (Q:Value->Shared->Prop) (E:Value->Shared->Prop),Q (.int (g i) s.toks) { s with toks:=s.toks + 1 }->wpAny (model X.prog X.w) X.A (f (.int i t)) Q E s) :
  UnR X f (rU fun i=>.int (g i)):=by
 intro pins s σ H x v Q I rx h;obtain⟨i,rfl,q⟩:=h;obtain⟨t,rfl⟩:=rx;exact rule i t s _ _ ⟨.int (g i),H,I.tok _,⟨_,rfl⟩,q⟩
theorem eZv:UnR X (unaryOp .USub) (rU fun i=>.int (-i)):=unI fun _ _ _ _ _ q=>neg_int q
end
section
variable {X:Cx} {a b c:Expr} {ta tb tc:TE} {pos:Pos}
theorem cZc {pins:List (Addr × Obj)} {σ:St} {H:Hp} {s:Shared} {Q:VK} {k k':Bool} (I:Inv X pins σ H s) (q:Q (.bl k) H) (e:k=k'):EP X pins σ Q (.bool k') s:=by
 subst e;exact⟨.bl k,H,I,rfl,q⟩
theorem op_lt:OpR X (compareOp .Lt) (rI0 fun i j=>.bl (decide (i < j))):=opB0 fun _ _ _ _ _ _ _ q=>lt_int q
theorem dXm:OpR X (compareOp .LtE) (rI0 fun i j=>.bl (decide (i<=j))):=opB0 fun _ _ _ _ _ _ _ q=>le_int q
theorem fZa:OpR X (compareOp .Gt) (rI0 fun i j=>.bl (decide (j < i))):=opB0 fun _ _ _ _ _ _ _ q=>gt_int q
theorem fZb:OpR X (compareOp .GtE) (rI0 fun i j=>.bl (decide (j<=i))):=opB0 fun _ _ _ _ _ _ _ q=>ge_int q
theorem op_lt_str:OpR X (compareOp .Lt) (fun x y H Q=>∃ i j,x=.str i/\y=.str j/\Q (.bl (decide (i.cps.toList < j.cps.toList))) H):=by
 intro pins s σ H x y v u Q I rx ry h;obtain⟨i,j,rfl,rfl,q⟩:=h;obtain⟨t,rfl⟩:=rx;obtain⟨t',rfl⟩:=ry;exact lt_str (cZc I q rfl)
theorem eZw:OpR X (compareOp .Is) (fun x y H Q=>y=.non/\Q (.bl (decide (x=.non))) H):=by
 intro pins s σ H x y v u Q I rx ry h;obtain⟨rfl,q⟩:=h;cases ry;refine is_none_gen (cZc I q ?_);cases x <;> first
  | (cases rx;rfl)
  | (obtain⟨t,rfl⟩:=rx;rfl)
theorem dXn:OpR X (compareOp .IsNot) (fun x y H Q=>y=.non/\Q (.bl (!decide (x=.non))) H):=by
 intro pins s σ H x y v u Q I rx ry h;obtain⟨rfl,q⟩:=h;cases ry;refine isnot_none_gen (cZc I q ?_);cases x <;> first
  | (cases rx;rfl)
  | (obtain⟨t,rfl⟩:=rx;rfl)
theorem OpR.or {f:Value->Value->Sem Value} {r r':R2} (h:OpR X f r) (h':OpR X f r'):OpR X f (fun x y H Q=>r x y H Q\/r' x y H Q):=by
 intro pins s σ H x y v u Q I rx ry q;rcases q with q | q
 ·exact h pins s σ H x y v u Q I rx ry q
 ·exact h' pins s σ H x y v u Q I rx ry q
theorem nomark (b:Expr) {op:CmpOp} (h:op≠.In:=by decide) (h2:op≠.NotIn:=by decide):behindInMarks op b=false:=by
 have e1:(op == CmpOp.In)=false:=by cases op <;> first | rfl | exact absurd rfl h
 have e2:(op == CmpOp.NotIn)=false:=by cases op <;> first | rfl | exact absurd rfl h2
 cases b <;> simp[behindInMarks,e1,e2]
theorem dXo {op:CmpOp} {r:R2} (ho:OpR X (compareOp op) r) (ha:PE X a ta) (hb:PE X b tb) (hm:behindInMarks op b=false):PE X (.Compare a [op] [b] pos) (tOp r ta tb):=by
 intro pins s σ H Q I h;exact wpAny_Compare1 (binT ha hb I h fun v u s2 x y H2 I2 rx ry q=>ho pins s2 σ H2 x y v u Q I2 rx ry q) hm
def dXp (t:TE):TT:=fun σ H Q=>t σ H fun x H'=>∃ k,x=.bl k/\Q k H'
theorem dXq {op:CmpOp} {r:R2} (ho:OpR X (compareOp op) r) (ha:PE X a ta) (hb:PE X b tb) (hm:behindInMarks op b=false):PT X (.Compare a [op] [b] pos) (dXp (tOp r ta tb)):=by
 intro pins s σ H Q I h;refine wpAny_isTrue_Compare1 (thn (ha pins s σ H _ I h) fun v s1 ⟨x,H1,I1,r1,q1⟩=>thn (hb pins s1 σ H1 _ I1 q1) fun u s2 ⟨y,H2,I2,r2,q2⟩ =>
  thn (ho pins s2 σ H2 x y v u _ I2 r1 r2 q2) fun c s3 ⟨z,H3,I3,r3,k,e,q3⟩=>?_) hm
 subst e;cases r3;exact wpAny_truthy_bool ⟨H3,I3,q3⟩
def dZi (r r':R2) (ta tb tc:TE):TE:=fun σ H Q=>ta σ H fun x H1=>tb σ H1 fun y H2=>r x y H2 fun z H3=>∃ k,z=.bl k /\
 (if k=true then tc σ H3 fun w' H4=>r' y w' H4 Q else Q (.bl false) H3)
theorem cJz {op op':CmpOp} {r r':R2} (ho:OpR X (compareOp op) r) (ho':OpR X (compareOp op') r') (ha:PE X a ta) (hb:PE X b tb) (hc:PE X c tc)
  (hm:lastMarks [op,op'] [b,c]=false:=by with_unfolding_all rfl):PT X (.Compare a [op,op'] [b,c] pos) (dXp (dZi r r' ta tb tc)):=by
 intro pins s σ H Q I h;refine isTrue_chain (thn (ha pins s σ H _ I h) fun v s1 ⟨x,H1,I1,r1,q1⟩=>test_link (thn (hb pins s1 σ H1 _ I1 q1) fun u s2 ⟨y,H2,I2,r2,q2⟩ =>
  thn (ho pins s2 σ H2 x y v u _ I2 r1 r2 q2) fun d s3 ⟨z,H3,I3,r3,k,e,q3⟩=>?_)) hm
 subst e;cases r3;refine wpAny_truthy_bool ?_;cases k with
 | false =>
  obtain⟨k',e',q'⟩:=q3;cases e';exact ite_ff ⟨H3,I3,q'⟩
 | true =>
  refine ite_tt (test_last (thn (hc pins s3 σ H3 _ I3 q3) fun w' s4 ⟨z',H4,I4,r4,q4⟩=>thn (ho' pins s4 σ H4 y z' u w' _ I4 r2 r4 q4) fun d' s5 ⟨z2,H5,I5,r5,k2,e2,q5⟩=>?_));subst e2;cases r5;exact wpAny_truthy_bool ⟨H5,I5,q5⟩
def TruV (K:PySem.W.Frag) (x:V) (H:Hp) (k:Bool):Prop :=
 match x with
 | .non=>k=false
 | .bl b=>k=b
 | .int i=>k=(i != 0)
 | .str y=>y.length<=sizeLine/\k=((y.length:Int) != 0)
 | .byt y=>y.size<=sizeLine/\k=((y.size:Int) != 0)
 | .ref p=>(∃ xs,SqL K H p xs/\k=!xs.isEmpty)\/(∃ xs,SqT K H p xs/\k=!xs.isEmpty)\/∃ kvs,H p=some (.dK kvs)/\k=!kvs.isEmpty
 | _=>False
theorem cQn {κ:Type} {kvs:List (κ × V)} {vs:List (κ × Value)} (r:KV kvs vs):(!vs.isEmpty)=!kvs.isEmpty:=by
 cases r <;> rfl
theorem bQa {xs:List V} {its:List Value} (r:Vals xs its):(!its.toArray.isEmpty)=!xs.isEmpty:=by
 cases r <;> simp
theorem bZo:(sizeLine:Nat) < 2 ^ 63:=by rw[sizeLine_eq];decide
theorem eZx:TruR X (fun x H Q=>∃ k,TruV X.K x H k/\Q k H):=by
 intro pins s σ H x v Q I rx h;obtain⟨k,e,q⟩:=h;have hl:=bZo;have hs:sizeLine=16777216:=sizeLine_eq;cases x with
 | non =>
  cases rx;have e':k=false:=e;subst e';exact truthy_none ⟨H,I,q⟩
 | bl b =>
  cases rx;have e':k=b:=e;subst e';exact wpAny_truthy_bool ⟨H,I,q⟩
 | int i =>
  obtain⟨t,rfl⟩:=rx;have e':k=(i != 0):=e;subst e';exact PySem.P.truthy_int ⟨H,I,q⟩
 | str y =>
  obtain⟨t,rfl⟩:=rx;obtain⟨hy,e'⟩:y.length<=sizeLine/\k=((y.length:Int) != 0):=e;subst e';exact PySem.P.truthy_str (by lia) ⟨H,I.tok _,q⟩
 | byt y =>
  obtain⟨t,rfl⟩:=rx;obtain⟨hy,e'⟩:y.size<=sizeLine/\k=((y.size:Int) != 0):=e;subst e';exact PySem.W.truthy_bytes (by lia) ⟨H,I.tok _,q⟩
 | ref p =>
  cases rx;have e':(∃ xs,SqL X.K H p xs/\k=!xs.isEmpty)\/(∃ xs,SqT X.K H p xs/\k=!xs.isEmpty)\/∃ kvs,H p=some (.dK kvs)/\k=!kvs.isEmpty:=e;rcases e' with⟨xs,hx,e'⟩ | ⟨xs,hx,e'⟩ | ⟨kvs,hx,e'⟩
  ·subst e';obtain⟨its,r,pl,hz⟩:=I.list hx;have hlen:=r.length;exact wpAny_truthy_list pl.isList (by simp only[List.size_toArray];lia) ⟨H,I.tok _,by rw[bQa r];exact q⟩
  ·subst e';obtain⟨its,r,pl,hz⟩:=I.tuple hx;have hlen:=r.length;exact truthy_tuple pl (by simp only[List.size_toArray];lia) ⟨H,I.tok _,by rw[bQa r];exact q⟩
  ·subst e';obtain⟨hz,hS,vs,r,m⟩:kvs.length<=sizeLine/\(p == sysModules)=false/\∃ vs,KV kvs vs/\s.heap.DictOf (aJa X.prog X.w) p vs:=I.hok p _ hx;have hlen:kvs.length=vs.length:=Paired.length r;exact wpAny_truthy_dict hS m (by lia) ⟨H,I.tok _,by rw[cQn r];exact q⟩
 | _=>exact(show False from e).elim
theorem dQ0 (ha:PE X a ta) (he:∀ whole,isTrue a X.env whole=(do let v <- whole;standAt a.pos;holding [v] (truthy v))) :
  PT X a (fun σ H Q=>ta σ H fun x H'=>∃ k,TruV X.K x H' k/\Q k H'):=by
 intro pins s σ H Q I h;exact isTrue_plain (thn (ha pins s σ H _ I h) fun v s1 ⟨x,H1,I1,r1,q1⟩=>eZx pins s1 σ H1 x v Q I1 r1 q1) (he _)
theorem op_add_str:OpR X (binaryOp .Add) (fun x y H Q=>∃ i j,x=.str i/\y=.str j/\i.length + j.length<=sizeLine/\Q (.str (i++j)) H):=by
 intro pins s σ H x y v u Q I rx ry h;obtain⟨i,j,rfl,rfl,hz,q⟩:=h;obtain⟨t,rfl⟩:=rx;obtain⟨t',rfl⟩:=ry;exact add_str (fun t' tk=>⟨.str (i++j),H,I.tok _,⟨_,rfl⟩,q⟩) hz
theorem aXh {x:V} {us:List Value} (r:Vals [x] us):∃ u,us=[u]/\RelV x u:=by
 cases r with
 | cons r1 r2=>cases r2;exact⟨_,rfl,r1⟩
theorem eZy {x y:V} {us:List Value} (r:Vals [x,y] us):∃ u w',us=[u,w']/\RelV x u/\RelV y w':=by
 cases r with
 | cons r1 r2 =>
  cases r2 with
  | cons r3 r4=>cases r4;exact⟨_,_,rfl,r1,r3⟩
theorem cZd (hc:X.calm=true):CallR X (.builtin "max") (fun xs H Q=>∃ i j,xs=[.int i,.int j]/\Q (.int (if j > i then j else i)) H):=by
 intro pins s σ H xs us Q I r h;obtain⟨i,j,rfl,q⟩:=h;obtain⟨u,w',rfl,⟨t,rfl⟩,⟨t',rfl⟩⟩:=eZy r;refine max_two_ints (I.ok.hd hc) fun h' tk k=>⟨_,H,I.kept k,?_,q⟩
 by_cases hj:j > i
 ·rw[if_pos hj,if_pos hj];exact⟨_,rfl⟩
 ·rw[if_neg hj,if_neg hj];exact⟨_,rfl⟩
theorem cZe (hc:X.calm=true):CallR X (.builtin "min") (fun xs H Q=>∃ i j,xs=[.int i,.int j]/\Q (.int (if j < i then j else i)) H):=by
 intro pins s σ H xs us Q I r h;obtain⟨i,j,rfl,q⟩:=h;obtain⟨u,w',rfl,⟨t,rfl⟩,⟨t',rfl⟩⟩:=eZy r;refine min_two_ints (I.ok.hd hc) fun h' tk k=>⟨_,H,I.kept k,?_,q⟩
 by_cases hj:j < i
 ·rw[if_pos hj,if_pos hj];exact⟨_,rfl⟩
 ·rw[if_neg hj,if_neg hj];exact⟨_,rfl⟩
theorem cZf:CallR X (.type "int") (fun xs H Q=>(∃ i,xs=[.int i]/\Q (.int i) H)\/∃ k,xs=[.bl k]/\Q (.int (if k then 1 else 0)) H):=by
 intro pins s σ H xs us Q I r h;rcases h with⟨i,rfl,q⟩ | ⟨k,rfl,q⟩
 ·obtain⟨u,rfl,t,rfl⟩:=aXh r;exact call_int_int ⟨.int i,H,I,⟨_,rfl⟩,q⟩
 ·obtain⟨u,rfl,r1⟩:=aXh r;cases r1;exact call_int_bool ⟨.int (if k then 1 else 0),H,I.tok _,⟨_,rfl⟩,q⟩
def LenV (K:PySem.W.Frag) (x:V) (H:Hp) (n:Nat):Prop :=
 match x with
 | .str y=>y.length<=sizeLine/\n=y.length
 | .byt y=>y.size<=sizeLine/\n=y.size
 | .ref p=>(∃ xs,SqL K H p xs/\n=xs.length)\/∃ xs,SqT K H p xs/\n=xs.length
 | _=>False
theorem dQ1:CallR X (.builtin "len") (fun xs H Q=>∃ x n,xs=[x]/\LenV X.K x H n/\Q (.int n) H):=by
 intro pins s σ H xs us Q I r h;obtain⟨x,n,rfl,e,q⟩:=h;obtain⟨u,rfl,rx⟩:=aXh r;have hl:=bZo;have hs:sizeLine=16777216:=sizeLine_eq;cases x with
 | str y =>
  obtain⟨t,rfl⟩:=rx;obtain⟨hy,e'⟩:y.length<=sizeLine/\n=y.length:=e;subst e';exact len_str (by lia) ⟨.int _,H,I.tok _,⟨_,rfl⟩,q⟩
 | byt y =>
  obtain⟨t,rfl⟩:=rx;obtain⟨hy,e'⟩:y.size<=sizeLine/\n=y.size:=e;subst e';exact PySem.W.len_bytes (by lia) ⟨.int _,H,I.tok _,⟨_,rfl⟩,q⟩
 | ref p =>
  cases rx;have e':(∃ xs,SqL X.K H p xs/\n=xs.length)\/∃ xs,SqT X.K H p xs/\n=xs.length:=e;rcases e' with⟨xs,hx,e'⟩ | ⟨xs,hx,e'⟩
  ·subst e';obtain⟨its,r',pl,hz⟩:=I.list hx;have hlen:=r'.length;exact Calls.call_len_list pl.isList (by simp only[List.size_toArray];lia) ⟨.int xs.length,H,I.tok _,⟨_,by simp only[List.size_toArray];rw[hlen]⟩,q⟩
  ·subst e';obtain⟨its,r',pl,hz⟩:=I.tuple hx;have hlen:=r'.length;exact len_tuple pl (by simp only[List.size_toArray];lia) ⟨.int xs.length,H,I.tok _,⟨_,by simp only[List.size_toArray];rw[hlen]⟩,q⟩
 | _=>exact(show False from e).elim
end
structure ObjM (h:Heap) (x dx C:Addr) (mA:Str->Option Value):Prop where
 obj:h.get? x=some (PySem.W.instObj C dx)
 ns:h.Ns1 dx mA
 ne:dx≠x
theorem cZg {h:Heap} {dx:Addr} {mA:Str->Option Value} (n:h.Ns1 dx mA):∃ od,h.get? dx=some od/\∀ name,PySem.W.lookIn name od=some (mA name):=by
 obtain⟨o,es,ep,ho,hd,hk,_,hm⟩:=n;refine⟨o,ho,fun name=>?_⟩;have e:=hm name;unfold nsFind findBy at e;rw[<- Array.find?_toList] at e;unfold PySem.W.lookIn;rw[hd];dsimp only
 split
 ·rename_i y q;rw[q] at e;exact congrArg some e
 ·rename_i q;rw[q] at e;have a:es.toList.any (·.refKey)=false:=by
   rw[List.any_eq_false];intro y hy;obtain⟨z,t,hkey⟩:=hk y (Array.mem_toList_iff.mp hy);simp[DictEntry.refKey,hkey]
  have a':¬ es.toList.any (·.refKey)=true:=by rw[a];exact Bool.false_ne_true
  rw[if_neg a'];exact congrArg some e
theorem ObjM.look {h:Heap} {x dx C:Addr} {mA:Str->Option Value} (I:ObjM h x dx C mA):∃ od,PySem.W.InstAt h x (PySem.W.instObj C dx) C (some od)/\∀ name,PySem.W.lookIn name od=some (mA name) :=
 let ⟨od,ho,hl⟩:=cZg I.ns
 ⟨od,⟨I.obj,rfl,rfl,ho⟩,hl⟩
section
variable {prog:Program} {w:World} {A:Around} {E:Value->Shared->Prop} {s:Shared} {K:PySem.W.Frag} {x dx C f:Addr} {mA:Str->Option Value} {name:Str} {v:Value}
end
section
variable {P:Program} {w:World} {H H':Hp} {h h':Heap} {a C dx:Addr} {fs fs':List (Str × V)}
theorem dXr (hok:HOk P w H h) (e:H a=some (.ins C dx fs)):∃ mA,ObjM h a dx C mA/\(∀ f,RelO (fs.lookup f) (mA f))/\PySem.Within mA (fs.map (·.1))/\fs.length<=1000/\H dx=some (.own a):=by
 obtain⟨d,z,ne,ob,mA,n,r,q⟩:=(show ObjOk P w H h a (.ins C dx fs) from hok a _ e)
 exact⟨mA,⟨ob,n,ne⟩,r,q,z,d⟩
end
structure Cls (K:PySem.W.Frag) (C:Addr):Prop where
 pg:PySem.W.plainGet K C Str.empty=true
 hd:PySem.W.hasDictIn K C=true
 po:PySem.W.plainOver K C=true
 sa:PySem.W.findIn K (.ref C) "__setattr__" = some (some (.builtin "object.__setattr__"))
theorem Cls.get {K:PySem.W.Frag} {C:Addr} (c:Cls K C) (f:Str):PySem.W.plainGet K C f=true:=c.pg
section
variable {X:Cx} {pins:List (Addr × Obj)} {σ:St} {H:Hp} {s:Shared} {a C dx:Addr} {fs:List (Str × V)} {f:Str} {v:V} {A:Around} {E:Value->Shared->Prop}
end
section
variable {X:Cx} {o e value:Expr} {f:Str} {pos pos' tpos:Pos} {ta tv:TE}
end
section
variable {X:Cx} {pins:List (Addr × Obj)} {σ:St} {H:Hp} {s:Shared} {A:Around} {E:Value->Shared->Prop} {Q:Value->Shared->Prop} {c:Value} {b:Bool}
inductive TyOf (K:PySem.W.Frag) (H:Hp):V->Value->Prop where
 | non:TyOf K H .non (.type "NoneType")
 | bl (x:Bool):TyOf K H (.bl x) (.type "bool")
 | int (i:Int):TyOf K H (.int i) (.type "int")
 | str (x:Str):TyOf K H (.str x) (.type "str")
 | flt (x:UInt64):TyOf K H (.flt x) (.type "float")
 | lst {a:Addr} {xs:List V} (e:H a=some (.lst xs)):TyOf K H (.ref a) (.type "list")
 | frz {a:Addr} {o:Obj} {xs:List V} (e:H a=some (.frz o (.lst xs))):TyOf K H (.ref a) (.type "list")
 | tup {a:Addr} {xs:List V} (e:H a=some (.tup xs)):TyOf K H (.ref a) (.type "tuple")
 | dK {a:Addr} {kvs:List (Key × V)} (e:H a=some (.dK kvs)):TyOf K H (.ref a) (.type "dict")
 | dT {a:Addr} {kvs:List (List Key × V)} (e:H a=some (.dT kvs)):TyOf K H (.ref a) (.type "dict")
 | ins {a C dx:Addr} {fs:List (Str × V)} (e:H a=some (.ins C dx fs)) (cl:Cls K C) (ha:PySem.W.findIn K (.ref C) "__class__" = some (some (.builtin "object.__class__")))
   (hn:PySem.W.specialIn K (.builtin "object.__class__") "__get__" = some (some (.builtin "getset_descriptor.__get__"))) (htk:PySem.W.takesIn K (.builtin "object.__class__")=some true)
   (hm:PySem.W.mroIn K C (.type "object")=some true):TyOf K H (.ref a) (.ref C)
theorem cZh {x:V} {u t:Value} (I:Inv X pins σ H s) (rx:RelV x u) (ty:TyOf X.K H x t) (e:PySem.W.kitOne X.K t c=some b) (h:∀ tk,Q (.bool b) { s with toks:=tk }) :
  wpAny (model X.prog X.w) A (call (.builtin "isinstance") [u,c]) Q E s:=by
 cases ty with
 | non=>cases (show u=Value.none from rx);exact PySem.W.kia_one PySem.W.kitx_none I.kIn True.intro e (fun z=>nomatch z) h
 | bl y=>cases (show u=Value.bool y from rx);exact PySem.W.kia_one PySem.W.kitx_bool I.kIn True.intro e (fun z=>nomatch z) h
 | int i=>obtain⟨t,q⟩:=(show ∃ t,u=Value.int i t from rx);cases q;exact PySem.W.kia_one PySem.W.kitx_int I.kIn True.intro e (fun z=>nomatch z) h
 | str y=>obtain⟨t,q⟩:=(show ∃ t,u=Value.str y t from rx);cases q;exact PySem.W.kia_one PySem.W.kitx_str I.kIn True.intro e (fun z=>nomatch z) h
 | flt y=>obtain⟨t,q⟩:=(show ∃ t,u=Value.float y t from rx);cases q;exact PySem.W.kia_one PySem.W.kitx_float I.kIn True.intro e (fun z=>nomatch z) h
 | @lst a xs ea =>
  cases (show u=Value.ref a from rx)
  obtain⟨_,_,n,_,h1⟩:=(show ObjOk X.prog X.w H s.heap a (.lst xs) from I.hok a _ ea)
  exact PySem.W.kia_one PySem.W.kitx_list I.kIn ⟨_,h1,rfl⟩ e (fun z=>nomatch z) h
 | @frz a ob xs ea =>
  cases (show u=Value.ref a from rx)
  obtain⟨_,_,_,n,_,h1⟩:=(show ObjOk X.prog X.w H s.heap a (.frz ob (.lst xs)) from I.hok a _ ea)
  exact PySem.W.kia_one PySem.W.kitx_list I.kIn ⟨_,h1,rfl⟩ e (fun z=>nomatch z) h
 | @tup a xs ea =>
  cases (show u=Value.ref a from rx)
  obtain⟨_,_,_,p⟩:=(show ObjOk X.prog X.w H s.heap a (.tup xs) from I.hok a _ ea)
  obtain⟨o,h1,h2,_⟩:=p;exact PySem.W.kia_one PySem.W.kitx_tuple I.kIn ⟨o,h1,h2⟩ e (fun z=>nomatch z) h
 | @dK a kvs ea =>
  cases (show u=Value.ref a from rx)
  obtain⟨_,_,vs,_,p⟩:=(show ObjOk X.prog X.w H s.heap a (.dK kvs) from I.hok a _ ea)
  obtain⟨o,es,ep,h1,h2,_⟩:=p;exact PySem.W.kia_one PySem.W.kitx_dict I.kIn ⟨o,h1,h2.1⟩ e (fun z=>nomatch z) h
 | @dT a kvs ea =>
  cases (show u=Value.ref a from rx)
  obtain⟨_,_,xs,_,o,es,ep,h1,h2,_⟩:=(show ObjOk X.prog X.w H s.heap a (.dT kvs) from I.hok a _ ea)
  exact PySem.W.kia_one PySem.W.kitx_dict I.kIn ⟨o,h1,h2.1⟩ e (fun z=>nomatch z) h
 | @ins a C dx fs ea cl ha hn htk hm =>
  cases (show u=Value.ref a from rx)
  obtain⟨mA,O,_⟩:=dXr I.hok ea;obtain⟨od,J,_⟩:=O.look;exact PySem.W.kia_one (PySem.W.kitx_own (cl.get _) cl.hd ha hn htk hm) I.kIn J e (fun z=>nomatch z) h
end
structure Room (k:Nat) (A:Around):Prop where
 hd:A.handled=none
 dp:A.depth + 3 * k + 5 < recursionLimit
 un:A.units + 16 * k + 200 < cLine
theorem Room.mono {j k:Nat} {A:Around} (r:Room k A) (h:j<=k):Room j A:=⟨r.hd,by have:=r.dp;lia,by have:=r.un;lia⟩
theorem Room.deeper {k:Nat} {A:Around} (r:Room (k + 1) A) (env:Env):Room k (A.deeper env) :=
 ⟨r.hd,by have:=r.dp;show A.depth + 1 + 3 * k + 5 < _;lia,by have:=r.un;show A.units + 3 + 16 * k + 200 < _;lia⟩
theorem Room.depth {k:Nat} {A:Around} (r:Room k A):A.depth < recursionLimit:=by have:=r.dp;lia
theorem Room.units {k:Nat} {A:Around} (r:Room k A):A.units + 64 < cLine:=by have:=r.un;lia
theorem Room.units0 {k:Nat} {A:Around} (r:Room k A):A.units < cLine:=by have:=r.un;lia
def tNil:TA:=fun _ H Q=>Q [] H
def fZc (ta:TE) (tr:TA):TA:=fun σ H Q=>ta σ H fun x H1=>tr σ H1 fun xs H2=>Q (x::xs) H2
section
variable {X:Cx} {e:Expr} {es:List Expr} {te:TE} {t:TA} {pos:Pos}
theorem bJd:PA X [] tNil:=fun _ _ _ _ H Q I h=>Calls.spliced_nil ⟨[],H,I,.nil,h⟩
theorem bQn (ha:PE X e te) (hr:PA X es t) (hs:starEach (e::es) X.env=(false,eval e X.env)::starEach es X.env:=by rfl):PA X (e::es) (fZc te t):=by
 intro pos pins s σ H Q I h;rw[hs];show wpAny _ _ (spliced ((false,eval e X.env)::backTo pos (starEach es X.env))) _ _ s;refine Calls.spliced_cons (thn (ha pins s σ H _ I h) fun u s1 ⟨x,H1,I1,r1,q1⟩=>?_);exact thn (hr pos pins s1 σ H1 _ I1 q1) fun us s2 ⟨xs,H2,I2,r2,q2⟩=>⟨x::xs,H2,I2,.cons r1 r2,q2⟩
def tTup (t:TA):TE:=fun σ H Q=>t σ H fun xs H1=>xs.length<=sizeLine/\∀ p,H1 p=none->Q (.ref p) (upd H1 p (.tup xs))
def tLst (t:TA):TE:=fun σ H Q=>t σ H fun xs H1=>xs.length<=sizeLine/\∀ p,H1 p=none->Q (.ref p) (upd H1 p (.lst xs))
theorem eZz {x1} (h:PA X es t):PE X (.Tuple es x1 pos) (tTup t):=by
 intro pins s σ H Q I hq;refine wpAny_Tuple_spliced (thn (h pos pins s σ H _ I hq) fun us s1 ⟨xs,H1,I1,r,z,q⟩=>⟨by rw[<- r.length];exact z,?_⟩)
 have hf:H1 s1.heap.objs.size=none:=I1.hok.fresh (Nat.le_refl _);refine⟨.ref s1.heap.objs.size,upd H1 s1.heap.objs.size (.tup xs),I1.laid (t':=s1.toks) (fun b u e=>Heap.get?_push_of_some _ e) (Nat.le_refl _) ?_,rfl,q _ hf⟩;exact⟨z,us,r,⟨_,Heap.get?_push_size _ rfl,rfl,_,rfl⟩⟩
theorem eX0 (h:PA X es t):PE X (.List es pos) (tLst t):=by
 intro pins s σ H Q I hq;refine wpAny_List_spliced (thn (h pos pins s σ H _ I hq) fun us s1 ⟨xs,H1,I1,r,z,q⟩=>⟨by rw[<- r.length];exact z,?_⟩)
 have hf:H1 s1.heap.objs.size=none:=I1.hok.fresh (Nat.le_refl _);refine⟨.ref s1.heap.objs.size,upd H1 s1.heap.objs.size (.lst xs),I1.laid (t':=s1.toks) (fun b u e=>Heap.get?_push_of_some _ e) (Nat.le_refl _) ?_,rfl,q _ hf⟩;exact⟨z,us,0,r,Heap.get?_push_size _ rfl⟩
end
abbrev Sp:=List V->Hp->VK->XK->Prop
abbrev CXT:=List Env->Hp->Shared->XK->Value->Shared->Prop
structure Env0 (P:Program) (w:World) (K:PySem.W.Frag) (mg:Str->Option Value) (base:Heap) (A:Around) (outer:List Env) (s:Shared) (H:Hp):Prop where
 frames:A.frames=some outer
 mod:Mod K mg base
 bs:∀ b o,base.get? b=some o->s.heap.get? b=some o/\H b=none
 bsz:base.objs.size<=s.heap.objs.size
 funs:s.heap.FunFrames base outer
 frf:∀ b∈frs outer,H b=none
 hok:HOk P w H s.heap
 bare:AllBare s.gens
def CE (outer:List Env) (P:Program) (w:World) (H:Hp) (s:Shared) (Q:VK) (u:Value) (s':Shared):Prop :=
 ∃ v H',s'.os=s.os/\AllBare s'.gens/\Un (frs outer) [] H H' s.heap s'.heap/\HOk P w H' s'.heap/\RelV v u/\Q v H'
def CR (CX:CXT) (outer:List Env) (P:Program) (w:World) (H:Hp) (s:Shared) (Q:VK) (E:XK) (r:Result) (s':Shared):Prop :=
 match r with
 | .ok (.ret u)=>CE outer P w H s Q u s'
 | .ok _=>False
 | .error e=>CX outer H s E e s'
structure FnOk (P:Program) (w:World) (K:PySem.W.Frag) (mg:Str->Option Value) (base:Heap) (CX:CXT) (k:Nat) (f:Addr) (fd:FuncData) (ps:List Str) (sp:Sp):Prop where
 len:∀ vs H Q E,sp vs H Q E->vs.length=ps.length
 run:∀ (A:Around) (outer:List Env) (s:Shared) (H:Hp) (args:Args) (us:List Value) (vs:List V) (Q:VK) (E:XK),Room k A->Env0 P w K mg base A outer s H->BindsTo s fd args (ps.zip us)->Vals vs us->sp vs H Q E ->
  codeAny (model P w) A (.call (.ref f) args) (CR CX outer P w H s Q E) s
theorem FnOk.mono {P:Program} {w:World} {K:PySem.W.Frag} {mg:Str->Option Value} {base:Heap} {CX:CXT} {j k:Nat} {f:Addr} {fd:FuncData} {ps:List Str} {sp:Sp} (F:FnOk P w K mg base CX j f fd ps sp) (h:j<=k) :
  FnOk P w K mg base CX k f fd ps sp:=⟨F.len,fun A outer s H args us vs Q E hr=>F.run A outer s H args us vs Q E (hr.mono h)⟩
section
variable {X:Cx} {pins:List (Addr × Obj)} {σ:St} {H:Hp} {s s':Shared}
theorem Inv.env0 (I:Inv X pins σ H s):Env0 X.prog X.w X.K X.mg X.base X.A X.stack s H :=
 ⟨I.ok.frames,I.ok.mod,I.bs,Nat.le_trans I.ok.bsz I.sz,I.stack,I.stkFree,I.hok,I.bare⟩
theorem Inv.after {Q:VK} {u:Value} (I:Inv X pins σ H s) (h:CE X.stack X.prog X.w H s Q u s'):EP X pins σ Q u s':=by
 obtain⟨v,H',os,bare,un,hok,r,q⟩:=h;obtain⟨hh,g,d,t,os'⟩:=s';obtain rfl:os'=s.os:=os;exact⟨v,H',I.call (h':=hh) (g':=g) (d':=d) (t':=t) (ch:=[]) un hok bare (fun b z=>absurd z (by simp)),r,q⟩
end
def eX1 (sp:Sp) (dvs:List V) (E:XK) (t:TA):TE:=fun σ H Q=>t σ H fun vs H1=>sp (vs++dvs) H1 Q E
def Binds (K:PySem.W.Frag) (fd:FuncData) (ps:List Str) (ds:List Value):Prop :=
 ∀ (s:Shared) (us:List Value),K.In s.heap->(us++ds).length=ps.length->BindsTo s fd ⟨us,[]⟩ (ps.zip (us++ds))
theorem Binds.all {K:PySem.W.Frag} {fd:FuncData} {ps:List Str} (h:∀ us:List Value,us.length=ps.length->bindArgs fd ⟨us,[]⟩=pure (ps.zip us)):Binds K fd ps []:=fun s us _ hl=>by
 rw[List.append_nil] at hl ⊢;exact .of_eq (h us hl)
def cZi (CX:CXT) (X:Cx) (E:XK):Prop:=∀ (pins:List (Addr × Obj)) (σ:St) (H:Hp) (s:Shared) (e:Value) (s':Shared),Inv X pins σ H s->CX X.stack H s E e s'->X.xe e s'
section
variable {X:Cx} {CX:CXT} {k:Nat} {f C:Addr} {fd:FuncData} {ps:List Str} {sp:Sp} {dvs:List V} {ds:List Value} {E:XK} {x m:Str} {p pos apos:Pos} {e o:Expr} {es:List Expr} {ta:TE} {t:TA}
theorem eX2 {pins:List (Addr × Obj)} {σ:St} {H:Hp} {s:Shared} {Q:VK} {us:List Value} {vs:List V} (F:FnOk X.prog X.w X.K X.mg X.base CX k f fd ps sp) (hr:Room k X.A) (hb:Binds X.K fd ps ds) (hd:Vals dvs ds) (hx:cZi CX X E)
  (I:Inv X pins σ H s) (r:Vals vs us) (h:sp (vs++dvs) H Q E):wpAny (model X.prog X.w) X.A (call (.ref f) us) (EP X pins σ Q) X.xe s:=by
 have r2:Vals (vs++dvs) (us++ds):=r.append hd;have hl:(us++ds).length=ps.length:=by rw[<- r2.length];exact F.len _ _ _ _ h
 refine wpAny_call (codeAny_mono (F.run X.A X.stack s H ⟨us,[]⟩ (us++ds) (vs++dvs) Q E hr I.env0 (hb s us I.kIn hl) r2 h) fun r s' hq=>?_);cases r with
 | error e=>exact hx pins σ H s e s' I hq
 | ok fl =>
  cases fl with
  | ret u=>exact I.after hq
  | next=>exact False.elim hq
  | brk=>exact False.elim hq
  | cont=>exact False.elim hq
theorem dXs (F:FnOk X.prog X.w X.K X.mg X.base CX k f fd ps sp) (hr:Room k X.A) (hg:Gl X x) (hm:X.mg x=some (.ref f)) (hk:PySem.W.keepIn X.K (.ref f)=true) (hb:Binds X.K fd ps ds) (hd:Vals dvs ds) (hx:cZi CX X E)
  (ha:PA X (e::es) t) (hdb:(x == ("__debug__" : Str))=false:=by decide) (he:starEach (e::es) X.env=(false,eval e X.env)::starEach es X.env:=by rfl) (hpl:(backTo pos (starEach es X.env)).any (·.1)=false:=by rfl) :
  PE X (.Call (.Name x p) (e::es) [] pos) (eX1 sp dvs E t):=by
 intro pins s σ H Q I h;refine wpAny_Call_Name_kw (ld_glob I hg hm ?_ hdb);refine PySem.W.callWith_K (h₀:=X.base) I.ok.mod.kin hk (thn (ha pos pins s σ H _ I h) fun us s1 ⟨vs,H1,I1,r,q⟩=>⟨I1.kIn,?_⟩) he hpl;exact eX2 F hr hb hd hx I1 r q
end
section
variable {X:Cx} {CX:CXT} {k:Nat} {f C:Addr} {fd:FuncData} {ps ks:List Str} {sp:Sp} {E:XK} {x m:Str} {p pos apos kpos:Pos} {e o:Expr} {es:List Expr} {kws:List Keyword} {te ta:TE} {t tk:TA} {nm:Option Str}
variable {g:List Value->List Value->List Value} {gV:List V->List V->List V}
end
structure FnScope (N P:List Str) (sc:Scope):Prop where
 kind:sc.kind=.function
 co:sc.isCoroutine=false
 gen:sc.isGenerator=false
 nd:N.Nodup
 pre:N.take P.length=P
 par:∀ x∈P,sc.names.lookup x=some .local\/sc.names.lookup x=some .cell
 nofree:∀ y∈sc.names,y.2≠.free
theorem bZp {kindOf:Str->Option NameKind} {x:Str}:∀ {binds:List (Str × Value)} {m:Str->Option Value},(∀ v,(x,v)∉binds)->bindL kindOf binds m x=m x
 | [],_,_=>rfl
 | (n,v)::r,m,h=>by
  unfold bindL;rw[bZp fun w hw=>h w (List.mem_cons_of_mem _ hw)]
  split
  ·have:x≠n:=by rintro rfl;exact h v List.mem_cons_self
   simp[this]
  ·rfl
theorem bindC_out {kindOf:Str->Option NameKind} {x:Str}:∀ {binds:List (Str × Value)} {m:Str->Option Value},(∀ v,(x,v)∉binds)->bindC kindOf binds m x=m x
 | [],_,_=>rfl
 | (n,v)::r,m,h=>by
  unfold bindC;rw[bindC_out fun w hw=>h w (List.mem_cons_of_mem _ hw)]
  split
  ·rfl
  ·have:x≠n:=by rintro rfl;exact h v List.mem_cons_self
   simp[this]
theorem bindL_get {kindOf:Str->Option NameKind} {x:Str} {v:Value}:∀ {P:List Str} {vs:List Value} {i:Nat} {m:Str->Option Value},P.Nodup->P[i]?=some x->vs[i]?=some v->kindOf x=some .local ->
  bindL kindOf (P.zip vs) m x=some v
 | [],_,_,_,_,h,_,_=>by simp at h
 | _::_,[],_,_,_,_,h,_=>by simp at h
 | p::P,w::vs,0,m,nd,h1,h2,hk=>by
  simp at h1 h2;subst h1;subst h2;show bindL kindOf ((p,w)::P.zip vs) m p=_;unfold bindL;rw[bZp fun v hv=>(List.nodup_cons.mp nd).1 (List.of_mem_zip hv).1,if_pos hk];simp
 | p::P,w::vs,i + 1,m,nd,h1,h2,hk=>by
  show bindL kindOf ((p,w)::P.zip vs) m x=_;unfold bindL;exact bindL_get (i:=i) (List.nodup_cons.mp nd).2 (by simpa using h1) (by simpa using h2) hk
theorem bZq {kindOf:Str->Option NameKind} {x:Str} {v:Value}:∀ {P:List Str} {vs:List Value} {i:Nat} {m:Str->Option Value},P.Nodup->P[i]?=some x->vs[i]?=some v->kindOf x≠some .local ->
  bindC kindOf (P.zip vs) m x=some v
 | [],_,_,_,_,h,_,_=>by simp at h
 | _::_,[],_,_,_,_,h,_=>by simp at h
 | p::P,w::vs,0,m,nd,h1,h2,hk=>by
  simp at h1 h2;subst h1;subst h2;show bindC kindOf ((p,w)::P.zip vs) m p=_;unfold bindC;rw[bindC_out fun v hv=>(List.nodup_cons.mp nd).1 (List.of_mem_zip hv).1,if_neg hk];simp
 | p::P,w::vs,i + 1,m,nd,h1,h2,hk=>by
  show bindC kindOf ((p,w)::P.zip vs) m x=_;unfold bindC;exact bZq (i:=i) (List.nodup_cons.mp nd).2 (by simpa using h1) (by simpa using h2) hk
def start (N:List Str) (vs:List V):St:=vs.map some++List.replicate (N.length - vs.length) none
def cxOf (CX:CXT) (P:Program) (w:World) (K:PySem.W.Frag) (mg:Str->Option Value) (base:Heap) (N:List Str) (qual:Str) (scope:Scope) (f:Addr) (cd:Value) (A:Around) (outer:List Env) (s:Shared) (H:Hp) (E:XK):Cx where
 prog:=P
 w:=w
 K:=K
 mg:=mg
 base:=base
 A:=A.deeper (envOfC qual scope s.heap.objs.size f cd)
 N:=N
 s₀:=s
 H₀:=H
 env:=envOfC qual scope s.heap.objs.size f cd
 outer:=outer
 stack:=envOfC qual scope s.heap.objs.size f cd::outer
 ex:=[]
 calm:=true
 fn:=fun _=>true
 pn:=[]
 xe:=fun e s'=>wpAny (model P w) (A.deeper (envOfC qual scope s.heap.objs.size f cd)) (leaving (envOfC qual scope s.heap.objs.size f cd) e) (fun _ s''=>CX outer H s E e s'') (fun e' s''=>CX outer H s E e' s'') s'
theorem bJe {sc:Scope} {n:Nat} {x:Str} (h:sc.names.lookup x=some .cell):∃ c,(cellsFrom n sc.names []).lookup x=some c:=by
 have q:=PySem.W.cellsFrom_some sc.names n [] (.inl h);exact Option.isSome_iff_exists.mp q
theorem cZj {CX:CXT} {P:Program} {w:World} {K:PySem.W.Frag} {mg:Str->Option Value} {base:Heap} {N ps:List Str} {qual:Str} {scope:Scope} {f:Addr} {cd:Value} {A:Around} {outer:List Env} {s s1:Shared} {H:Hp} {E:XK} {us:List Value} {vs:List V}
  (S:FnScope N ps scope) (hd:A.handled=none) (e0:Env0 P w K mg base A outer s H) (hl:vs.length=ps.length) (r:Vals vs us)
  (x:InCallC s s.heap.objs.size (bindL (envOfC qual scope s.heap.objs.size f cd).kindOf (ps.zip us) fun _=>none) (cellsFrom (s.heap.objs.size + 1) scope.names []) (bindC (envOfC qual scope s.heap.objs.size f cd).kindOf (ps.zip us) fun _=>none) s1) :
  Inv (cxOf CX P w K mg base N qual scope f cd A outer s H E) [] (start N vs) H s1:=by
 have hpl:ps.length<=N.length:=by have:=congrArg List.length S.pre;rw[List.length_take] at this;lia
 obtain⟨h1,tk,rfl,hk⟩:=x.done;have noA:∀ b:Addr,b∉(cxOf CX P w K mg base N qual scope f cd A outer s H E).ex:=fun b z=>absurd (show b∈([]:List Addr) from z) (by simp)
 refine⟨⟨e0.mod,S.kind,rfl,rfl,Nat.le_refl _,fun y z c h1 h2=>?_,fun y hy=>?_,fun y c _ h=>?_,fun _=>hd,Around.frames_deeper e0.frames,.inr ⟨rfl,rfl⟩,fun b z=>absurd z (noA b),e0.bs,e0.bsz,fun b _ _=>noA b,fun b z=>absurd z (noA b),e0.funs,e0.frf⟩,
  rfl,e0.bare,Un.kept hk,⟨_,x.toInCall.ns,fun i y v h1 h2 h3=>?_⟩,fun y c h=>⟨_,x.cell y c h⟩,e0.hok.fresh (Nat.le_refl _),fun y c h=>?_,fun p hp=>absurd (show p∈([]:List (Addr × Obj)) from hp) (by simp),e0.hok.kept hk,?_⟩
 ·exact name_of_addr x.apart (PySem.mem_of_lookup h1) (PySem.mem_of_lookup h2)
 ·have hy:scope.names.lookup y=some .cell\/scope.names.lookup y=some .free:=hy;rcases hy with hy | hy
  ·exact bJe hy
  ·exact absurd rfl (S.nofree _ (PySem.mem_of_lookup hy))
 ·exact Nat.le_of_lt (x.above y c (PySem.mem_of_lookup h))
 ·have hi:i < vs.length:=by
   unfold start at h2
   by_cases hi:i < vs.length
   ·exact hi
   ·rw[List.getElem?_append_right (by simpa using hi)] at h2
    rw[List.getElem?_replicate] at h2
    split at h2 <;> cases h2
  have ha:vs[i]?=some v:=by
   unfold start at h2;rw[List.getElem?_append_left (by simpa using hi),List.getElem?_map] at h2
   cases e:vs[i]? with
   | none=>rw[e] at h2;cases h2
   | some a=>rw[e] at h2;cases h2;rfl
  obtain⟨u,hu,rv⟩:=r.get ha;have hp:ps[i]?=some y:=by
   rw[<- S.pre,List.getElem?_take_of_lt (by lia)];exact h1
  have ndP:ps.Nodup:=by rw[<- S.pre];exact S.nd.sublist (List.take_sublist _ _)
  refine⟨u,rv,?_⟩;rcases S.par y (List.mem_of_getElem? hp) with k | k
  ·exact .inl ⟨k,bindL_get ndP hp hu k⟩
  ·obtain⟨c,e⟩:=bJe (n:=s.heap.objs.size + 1) k;refine .inr ⟨.inl k,c,e,?_⟩;have q:=x.cell y c e;rw[bZq ndP hp hu (by show scope.names.lookup y≠_;rw[k];decide)] at q
   exact q
 ·exact e0.hok.fresh (Nat.le_of_lt (x.above y c (PySem.mem_of_lookup h)))
 ·unfold start;show _=N.length;rw[List.length_append,List.length_map,List.length_replicate];lia
theorem eX3 {CX:CXT} {P:Program} {w:World} {K:PySem.W.Frag} {mg:Str->Option Value} {base:Heap} {k:Nat} {f:Addr} {name qual:Str} {params:Arguments} {body:List Stmt} {scope:Scope} {dV kV doc pm cdv ct oc:Value} {an od:Option Addr}
  {osl:Array (Option Value)} {N ps:List Str} {sp:Sp} (lk:K.lookup f=some ⟨oc,od,.func (PySem.W.fnOf name qual params body scope dV kV doc pm an cdv ct),osl⟩) (hcd:PySem.W.codeIn K cdv qual=true) (S:FnScope N ps scope)
  (len:∀ vs H Q E,sp vs H Q E->vs.length=ps.length)
  (hbody:∀ (A:Around) (outer:List Env) (s:Shared) (H:Hp) (vs:List V) (Q:VK) (E:XK),Room k (A.deeper (envOfC qual scope s.heap.objs.size f cdv))->sp vs H Q E ->
   ∃ t,PSs (cxOf CX P w K mg base N qual scope f cdv A outer s H E) body t/\t { nx:=fun _ H'=>Q .non H',rt:=Q } (start N vs) H) :
  FnOk P w K mg base CX (k + 1) f (PySem.W.fnOf name qual params body scope dV kV doc pm an cdv ct) ps sp:=by
 refine⟨len,fun A outer s H args us vs Q E hr e0 hb r hsp=>?_⟩;have hl:=len _ _ _ _ hsp;have KX:K.In s.heap:=e0.mod.kin.keeps fun b o e=>(e0.bs b o e).1;have lim:s.heap.NoLimit:=e0.mod.nolimit.keeps fun b o e=>(e0.bs b o e).1;have hkind:∀ y∈ps.zip us,scope.names.lookup y.1=some .local\/(scope.names.lookup y.1=some .cell/\((cellsFrom (s.heap.objs.size + 1) scope.names []).lookup y.1).isSome=true):=fun⟨n,v⟩ hy=>by
  rcases S.par n (List.of_mem_zip hy).1 with q | q
  ·exact .inl q
  ·exact .inr ⟨q,PySem.W.cellsFrom_some _ _ _ (.inl q)⟩
 refine codeAny_call_function hr.depth (KX _ _ lk) rfl S.co S.gen rfl (PySem.W.codeRec_of KX hcd) (hb _ _ _ _ ?_);refine wpAny_newFunctionEnv_cells S.kind hkind fun env he s1 x=>?_;subst he;refine⟨lim.keeps x.toInCall.keep,codeAny_func ?_⟩;obtain⟨t,ht,hq⟩:=hbody A outer s H vs Q E (hr.deeper _) hsp;have I:Inv (cxOf CX P w K mg base N qual scope f cdv A outer s H E) [] (start N vs) H s1:=cZj S hr.hd e0 hl r x;refine wpAny_mono (ht [] s1 (start N vs) H _ I hq) (fun fl s' hs=>?_) fun e s' hs=>hs;have fin:∀ {σ':St} {H':Hp} {v:V} {u:Value},Inv (cxOf CX P w K mg base N qual scope f cdv A outer s H E) [] σ' H' s'->RelV v u->Q v H'->CE outer P w H s Q u s' :=
  fun {σ' H' v u} J rv q=>⟨v,H',J.os,J.bare,J.base,J.hok,rv,q⟩
 cases fl with
 | ret u =>
  obtain⟨v,σ',H',J,rv,q⟩:=hs;exact fin J rv q
 | next =>
  obtain⟨σ',H',J,q⟩:=hs;exact fin (v:=V.non) (u:=Value.none) J rfl q
 | brk =>
  obtain⟨_,_,_,q⟩:=hs;exact False.elim q
 | cont =>
  obtain⟨_,_,_,q⟩:=hs;exact False.elim q
section
variable {X:Cx} {x:Str} {p pos:Pos} {e:Expr} {es:List Expr} {t:TA} {id T:String} {r:List V->Hp->VK->Prop}
def tCB (r:List V->Hp->VK->Prop) (t:TA):TE:=fun σ H Q=>t σ H fun vs H1=>r vs H1 Q
theorem bQo (hc:CallR X (.builtin id) r) (hg:Gl X x) (hm:X.mg x=none) (hv:bootBuiltins x=some (.builtin id)) (ha:PA X (e::es) t) (hn:x ≠ "__name__":=by decide) (hdb:(x == ("__debug__" : Str))=false:=by decide)
  (he:starEach (e::es) X.env=(false,eval e X.env)::starEach es X.env:=by rfl) (hpl:(backTo pos (starEach es X.env)).any (·.1)=false:=by rfl):PE X (.Call (.Name x p) (e::es) [] pos) (tCB r t):=by
 intro pins s σ H Q I h;refine wpAny_Call_Name_kw (ld_blt I hg hm hv ?_ hn hdb);exact PyProof.Rows.callWith_builtin1 (thn (ha pos pins s σ H _ I h) fun us s1 ⟨vs,H1,I1,r1,q1⟩=>hc pins s1 σ H1 vs us Q I1 r1 q1) he hpl
theorem bZr (hc:CallR X (.type T) r) (hg:Gl X x) (hm:X.mg x=none) (hv:bootBuiltins x=some (.type T)) (ha:PA X (e::es) t) (hn:x ≠ "__name__":=by decide) (hdb:(x == ("__debug__" : Str))=false:=by decide)
  (he:starEach (e::es) X.env=(false,eval e X.env)::starEach es X.env:=by rfl) (hpl:(backTo pos (starEach es X.env)).any (·.1)=false:=by rfl):PE X (.Call (.Name x p) (e::es) [] pos) (tCB r t):=by
 intro pins s σ H Q I h;refine wpAny_Call_Name_kw (ld_blt I hg hm hv ?_ hn hdb);exact PyProof.Rows.callWith_type1 (thn (ha pos pins s σ H _ I h) fun us s1 ⟨vs,H1,I1,r1,q1⟩=>hc pins s1 σ H1 vs us Q I1 r1 q1) he hpl
end
end L2
namespace HT
open PySem PyProof.Rows
section
open PySem.SeqAt
open PySem.AutoSeq1 (wpAny_loadPart')
open PySem.MeetsSeq PySem.MeetsSeq2 PySem.MeetsSeq3
end
section
variable {prog:Program} {w:World} {A:Around} {E:Value->Shared->Prop} {s:Shared}
theorem cat_tup {t b:Addr} {vs ws:List Value} {Q:Value->Shared->Prop} (ht:IsTup s.heap t vs.toArray) (hb:IsTup s.heap b ws.toArray) (hv:vs≠[])
  (h1:ws=[]->Q (.ref t) s) (h2:ws≠[]->Q (.ref s.heap.objs.size) { s with heap:=s.heap.push { cls:=.type "tuple",data:=.seq (vs++ws).toArray } })
  (hsz:vs.length + ws.length<=sizeLine):wpAny (model prog w) A (binaryOp .Add (.ref t) (.ref b)) Q E s:=by
 obtain⟨⟨cls,dd,data,sl⟩,ho,hc,n,hd⟩:=id ht;obtain⟨⟨cls2,dd2,data2,sl2⟩,ho2,hc2,n2,hd2⟩:=id hb;simp only at hc hd hc2 hd2;subst hc hd hc2 hd2;have e:vs.toArray++ws.toArray=(vs++ws).toArray:=by simp
 by_cases hw:ws=[]
 ·exact concat_meets ⟨_,ho,rfl⟩ ⟨_,ho2,rfl⟩ noFill_tuple_add seq_tuple_add PySem.F.slot_tuple_add PySem.F.entry_tuple_add (PySem.F.args_tuple_add_2 _ _)
   (tuple_addW1 t b vs.toArray ws.toArray n n2 dd dd2 sl sl2 (by simpa using hv) (by simp[hw])) ⟨ho,ho2,h1 hw⟩
 ·refine concat_meets ⟨_,ho,rfl⟩ ⟨_,ho2,rfl⟩ noFill_tuple_add seq_tuple_add PySem.F.slot_tuple_add PySem.F.entry_tuple_add (PySem.F.args_tuple_add_2 _ _)
   (tuple_addW2 t b vs.toArray ws.toArray n n2 dd dd2 sl sl2 (by simpa using hv) (by simpa using hw) (by rw[List.size_toArray,List.size_toArray];exact hsz)) ⟨ho,ho2,?_⟩
  rw[e];exact h2 hw
def sIx (n d:Nat):Option Int->Nat
 | none=>d
 | some v=>if v < 0 then (v + (n:Int)).toNat else min v.toNat n
theorem sIx_none (n d:Nat):sIx n d none=d:=rfl
theorem sIx_nat (n d k:Nat):sIx n d (some (k:Int))=min k n:=by
 show(if (k:Int) < 0 then ((k:Int) + (n:Int)).toNat else min (k:Int).toNat n)=min k n
 rw[if_neg (by lia),Int.toNat_natCast]
theorem eX4 (n d:Nat) (hd:d<=n) (o:Option Int):sIx n d o<=n:=by
 cases o with
 | none=>exact hd
 | some v =>
  show(if v < 0 then (v + (n:Int)).toNat else min v.toNat n)<=n
  by_cases hv:v < 0
  ·rw[if_pos hv];lia
  ·rw[if_neg hv];exact Nat.min_le_right _ _
theorem cZk (v:Int) (n d:Nat):(if v < 0 then max (v + (n:Int)) 0 else min v (n:Int))=((sIx n d (some v):Nat):Int):=by
 show(if v < 0 then max (v + (n:Int)) 0 else min v (n:Int))=(((if v < 0 then (v + (n:Int)).toNat else min v.toNat n):Nat):Int)
 by_cases hv:v < 0
 ·simp only[if_pos hv];lia
 ·simp only[if_neg hv];lia
theorem cQo (lo hi:Option Int) (n:Nat):Builtin.Slice.sliceAdjust lo hi 1 (n:Int)=(((sIx n 0 lo:Nat):Int),((sIx n n hi:Nat):Int)):=by
 have h1:¬ ((1:Int) < 0):=by lia
 unfold Builtin.Slice.sliceAdjust;simp only[h1,if_false];refine Prod.ext ?_ ?_
 ·cases lo with
  | none=>rfl
  | some v=>exact cZk v n 0
 ·cases hi with
  | none=>rfl
  | some v=>exact cZk v n n
theorem cQp (i j:Nat):Builtin.Slice.slicePlaces (i:Int) (j:Int) 1=j - i:=by
 unfold Builtin.Slice.slicePlaces;have h1:(1:Int) > 0:=by lia
 simp only[h1,if_true,Int.ediv_one]
 split <;> lia
theorem bQb {v:Value} {o:Option Int} {Q:Option Int->Shared->Prop} (p:IsPart v o) (h:Q o s):wpAny (model prog w) A (Builtin.Slice.slicePartIndex v) Q E s:=by
 cases p with
 | none=>exact slicePart_none h
 | int i t=>exact slicePart_int h
theorem sliceApplied_gen {sl:Addr} {vl vu:Value} {lo hi:Option Int} {n:Nat} {Q:Int × Int × Nat->Shared->Prop} (hs:s.heap.IsSliceOf sl vl vu .none) (pl:IsPart vl lo) (pu:IsPart vu hi)
  (h:Q (((sIx n 0 lo:Nat):Int),1,sIx n n hi - sIx n 0 lo) s):wpAny (model prog w) A (Builtin.Slice.sliceApplied (.ref sl) (pure (n:Int))) Q E s:=by
 obtain⟨os,hos,hcs,hds⟩:=id hs;unfold Builtin.Slice.sliceApplied Builtin.Slice.sliceFields;refine wpAny_bind (wpAny_bind (wpAny_field hos hds (x:=vl) rfl (wpAny_bind (wpAny_field hos hds (x:=vu) rfl (wpAny_bind (wpAny_field hos hds (x:=.none) rfl (wpAny_pure ?_)))))));refine wpAny_bind (slicePart_none ?_);show wpAny _ _ (if ((1:Int) == 0)=true then _ else _) _ _ s
 rw[if_neg (by decide)]
 refine wpAny_bind (bQb pl (wpAny_bind (bQb pu (wpAny_bind (wpAny_pure ?_)))));show wpAny _ _ (match Builtin.Slice.sliceAdjust lo hi 1 (n:Int) with | (lo,hi)=>pure (lo,(1:Int),Builtin.Slice.slicePlaces lo hi 1)) _ _ s
 rw[cQo lo hi n];show wpAny _ _ (pure (((sIx n 0 lo:Nat):Int),(1:Int),Builtin.Slice.slicePlaces ((sIx n 0 lo:Nat):Int) ((sIx n n hi:Nat):Int) 1)) _ _ s;rw[cQp];exact wpAny_pure h
theorem dQ2 (xs:Array Value) (i k:Nat):((List.range k).filterMap fun(m:Nat)=>xs[((i:Int) + (m:Int) * 1).toNat]?).toArray=((xs.toList.drop i).take k).toArray:=by
 have e:(fun(m:Nat)=>xs[((i:Int) + (m:Int) * 1).toNat]?)=fun m=>xs[i + m]?:=by
  funext m
  have:((i:Int) + (m:Int) * 1).toNat=i + m:=by lia
  rw[this]
 rw[e]
 have:=pick_run xs i k
 rw[List.filterMap_map] at this;have e2:((fun x=>xs[x]?) ∘ fun x=>i + x)=fun m=>xs[i + m]?:=rfl;rw[e2] at this;rw[this]
theorem getItem_tuple_cut {t sl:Addr} {items:Array Value} {vl vu:Value} {lo hi:Option Int} {Q:Value->Shared->Prop} (ht:IsTup s.heap t items) (hs:s.heap.IsSliceOf sl vl vu .none) (pl:IsPart vl lo) (pu:IsPart vu hi)
  (hw:¬ (sIx items.size 0 lo=0/\sIx items.size items.size hi=items.size))
  (h:Q (.ref s.heap.objs.size) { s with heap:=s.heap.push { cls:=.type "tuple",data:=.seq ((items.toList.drop (sIx items.size 0 lo)).take (sIx items.size items.size hi - sIx items.size 0 lo)).toArray } })
  (hsz:items.size<=sizeLine):wpAny (model prog w) A (getItem (.ref t) (.ref sl)) Q E s:=by
 have htake:sizeOk (.seq ((items.toList.drop (sIx items.size 0 lo)).take (sIx items.size items.size hi - sIx items.size 0 lo)).toArray):=by
  show((items.toList.drop (sIx items.size 0 lo)).take (sIx items.size items.size hi - sIx items.size 0 lo)).toArray.size<=sizeLine;rw[List.size_toArray,List.length_take,List.length_drop,Array.length_toList];lia
 have hj:sIx items.size items.size hi<=items.size:=eX4 _ _ (Nat.le_refl _) hi;obtain⟨os,hos,hcs,hds⟩:=id hs;have hTs:s.TypeIs (.ref sl) "slice":=⟨os,hos,hcs⟩;unfold getItem
 try with_reducible refine wpAny_holding ?_
 first | refine wpAny_bind (wpAny_pure ?_) | skip
 refine wpAny_bind (wpAny_sequenceKey ht.typeIs (by decide) ?_)
 refine wpAny_bind (wpAny_callSpecial?_slot (name:=Str.ofString "__getitem__") ht.typeIs PyProof.Rows.slot_tuple_getitem
  (wpAny_call_entry PyProof.Rows.slot_tuple_getitem ht.typeIs entry_tuple_getitem ?_ (args_tuple_getitem _ _)))
 show wpAny _ _ (Builtin.Tuple.tupleItemsOf (.ref t) >>= _) _ _ s;refine wpAny_bind (tupleItemsOf_ ht ?_);refine wpAny_bind (wpAny_typeOf hTs ?_);rw[if_pos (by decide)]
 refine wpAny_bind (sliceApplied_gen hs pl pu ?_);have hno:¬ ((((sIx items.size 0 lo:Nat):Int) == 0 && (1:Int) == 1 && (sIx items.size items.size hi - sIx items.size 0 lo) == items.size)=true):=by
  intro q;rw[Bool.and_eq_true,Bool.and_eq_true] at q;have q1:((sIx items.size 0 lo:Nat):Int)=0:=eq_of_beq q.1.1;have q2:sIx items.size items.size hi - sIx items.size 0 lo=items.size:=eq_of_beq q.2;exact hw ⟨by lia,by lia⟩
 show wpAny _ _ (if (((sIx items.size 0 lo:Nat):Int) == 0 && (1:Int) == 1 && (sIx items.size items.size hi - sIx items.size 0 lo) == items.size)=true then _ else _) _ _ s
 rw[if_neg hno,dQ2]
 first
  | exact wpAny_bind (m:=Builtin.Tuple.tupleExact _) (wpAny_newObj_type (wpAny_pure ⟨_,rfl,wpAny_pure h⟩) htake)
  | exact wpAny_bind (m:=Builtin.Tuple.tupleExact _) (wpAny_newObj_type (wpAny_bind (wpAny_pure (wpAny_pure ⟨_,rfl,wpAny_pure h⟩))) htake)
  | exact wpAny_bind (wpAny_bind (m:=Builtin.Tuple.tupleExact _) (wpAny_newObj_type (wpAny_pure (wpAny_pure ⟨_,rfl,wpAny_pure h⟩)) htake))
  | exact wpAny_bind (wpAny_bind (m:=Builtin.Tuple.tupleExact _) (wpAny_newObj_type (wpAny_pure ⟨_,rfl,wpAny_pure h⟩) htake))
end
end HT
namespace L2
open PySem PySem.Spec PyProof.Rows
abbrev TO:=St->Hp->(Option Int->Hp->Prop)->Prop
def PO (X:Cx) (e:Option Expr) (t:TO):Prop :=
 ∀ (pins:List (Addr × Obj)) (s:Shared) (σ:St) (H:Hp) (Q:Option Int->Hp->Prop),Inv X pins σ H s->t σ H Q ->
  wpAny (model X.prog X.w) X.A (evalPart e X.env) (fun u s'=>∃ o H',Inv X pins σ H' s'/\IsPart u o/\Q o H') X.xe s
def dXt:TO:=fun _ H Q=>Q none H
def fZd (t:TE):TO:=fun σ H Q=>t σ H fun x H1=>∃ i,x=.int i/\Q (some i) H1
theorem cQq {ns:List Int}:∀ {us:List Value},Vals (ns.map V.int) us->IntsAre us ns:=by
 induction ns with
 | nil=>intro us r;rw[List.map_nil] at r;cases r;exact .nil
 | cons n ns ih =>
  intro us r;rw[List.map_cons] at r;cases r with
  | cons r1 r2 =>
   obtain⟨t,e⟩:=r1;subst e;exact .cons n t (ih r2)
section
variable {X:Cx} {e:Expr} {te:TE} {lo hi:Option Expr} {tl th:TO} {pos p2:Pos}
theorem dXu:PO X none dXt:=by
 intro pins s σ H Q I h;rw[evalPart_none];exact wpAny_pure ⟨none,H,I,.none,h⟩
theorem dXv (h:PE X e te):PO X (some e) (fZd te):=by
 intro pins s σ H Q I hw;rw[evalPart_some];refine thn (h pins s σ H _ I hw) fun u s1 ⟨x,H1,I1,r1,q1⟩=>?_;obtain⟨i,rfl,q⟩:=q1;obtain⟨t,rfl⟩:=r1;exact⟨some i,H1,I1,.int i t,q⟩
def SlR (X:Cx) (r:V->Option Int->Option Int->Hp->VK->Prop):Prop :=
 ∀ (pins:List (Addr × Obj)) (s:Shared) (σ:St) (H:Hp) (x:V) (v vl vu:Value) (lo hi:Option Int) (sl:Addr) (Q:VK),Inv X pins σ H s->RelV x v->s.heap.IsSliceOf sl vl vu .none->IsPart vl lo->IsPart vu hi->r x lo hi H Q ->
  ∃ T id,typeLookup (.type T) "__getitem__" = pure (some (.builtin id))/\s.TypeIs v T/\wpAny (model X.prog X.w) X.A (getItem v (.ref sl)) (EP X pins σ Q) X.xe s
theorem SlR.or {r r':V->Option Int->Option Int->Hp->VK->Prop} (h:SlR X r) (h':SlR X r'):SlR X (fun x lo hi H Q=>r x lo hi H Q\/r' x lo hi H Q):=by
 intro pins s σ H x v vl vu lo hi sl Q I rx hs pl pu q;rcases q with q | q
 ·exact h pins s σ H x v vl vu lo hi sl Q I rx hs pl pu q
 ·exact h' pins s σ H x v vl vu lo hi sl Q I rx hs pl pu q
def tSl (r:V->Option Int->Option Int->Hp->VK->Prop) (te:TE) (tl th:TO):TE:=fun σ H Q=>te σ H fun x H1=>tl σ H1 fun l H2=>th σ H2 fun u H3=>r x l u H3 Q
theorem dQ3 {r:V->Option Int->Option Int->Hp->VK->Prop} (hr:SlR X r) (he:PE X e te) (hl:PO X lo tl) (hu:PO X hi th):PE X (.Subscript e (.Slice lo hi none p2) pos) (tSl r te tl th):=by
 intro pins s σ H Q I h;refine Subscript_ (thn (he pins s σ H _ I h) fun v s1 ⟨x,H1,I1,r1,q1⟩=>?_);refine wpAny_Slice (thn (hl pins s1 σ H1 _ I1 q1) fun vl s2 ⟨l,H2,I2,pl,q2⟩=>thn (hu pins s2 σ H2 _ I2 q2) fun vu s3 ⟨u,H3,I3,pu,q3⟩=>?_);rw[evalPart_none];refine wpAny_pure ?_;have I4:Inv X pins σ H3 { s3 with heap:=s3.heap.push { cls:=.type "slice",data:=.fields #[vl,vu,.none] } }:=I3.kept (t':=s3.toks) fun b ob q=>Heap.get?_push_of_some _ q
 obtain⟨T,id,hT,ht,hg⟩:=hr pins { s3 with heap:=s3.heap.push { cls:=.type "slice",data:=.fields #[vl,vu,.none] } } σ H3 x v vl vu l u s3.heap.objs.size Q I4 r1 (Heap.IsSliceOf.new ..) pl pu q3;show wpAny (model X.prog X.w) X.A (subscriptTail e (.Slice lo hi none p2) v (.ref s3.heap.objs.size)) (EP X pins σ Q) X.xe { s3 with heap:=s3.heap.push { cls:=.type "slice",data:=.fields #[vl,vu,.none] } }
 exact tail_any (ops:=[.ref s3.heap.objs.size,v]) ht hT hg (by with_unfolding_all rfl)
def cutV (xs:List V) (lo hi:Option Int):List V:=(xs.drop (HT.sIx xs.length 0 lo)).take (HT.sIx xs.length xs.length hi - HT.sIx xs.length 0 lo)
theorem aJb (xs:List V) (lo hi:Option Int):(cutV xs lo hi).length<=xs.length:=by
 unfold cutV;rw[List.length_take,List.length_drop];lia
def rSlT (K:PySem.W.Frag):V->Option Int->Option Int->Hp->VK->Prop:=fun x lo hi H Q=>∃ a xs,x=.ref a/\SqT K H a xs /\
 ¬ (HT.sIx xs.length 0 lo=0/\HT.sIx xs.length xs.length hi=xs.length)/\∀ p,H p=none->Q (.ref p) (upd H p (.tup (cutV xs lo hi)))
theorem eX5:SlR X (rSlT X.K):=by
 intro pins s σ H x v vl vu lo hi sl Q I rx hs pl pu h;obtain⟨a,xs,rfl,hx,hw,q⟩:=h;cases rx;obtain⟨its,r,ht,hz⟩:=I.tuple hx;have hlen:its.toArray.size=xs.length:=by rw[List.size_toArray];exact r.length.symm
 refine⟨"tuple",_,PyProof.Rows.slot_tuple_getitem.lookup,ht.typeIs,?_⟩;refine HT.getItem_tuple_cut ht hs pl pu (by rw[hlen];exact hw) ?_ (by rw[hlen];exact hz)
 rw[hlen];refine⟨.ref s.heap.objs.size,_,I.laid (t':=s.toks) (o:=.tup (cutV xs lo hi)) (fun b ob q=>Heap.get?_push_of_some _ q) (Nat.le_refl _) ?_,rfl,q _ (I.hok.fresh (Nat.le_refl _))⟩;exact⟨Nat.le_trans (aJb xs lo hi) hz,_,(r.drop (HT.sIx xs.length 0 lo)).take (HT.sIx xs.length xs.length hi - HT.sIx xs.length 0 lo),IsTup.new _ _⟩
def dXw (K:PySem.W.Frag):R2:=fun x y H Q=>∃ a b xs ys,x=.ref a/\y=.ref b/\SqT K H a xs/\SqT K H b ys/\xs≠[]/\xs.length + ys.length<=sizeLine /\
 (ys=[]->Q (.ref a) H)/\(ys≠[]->∀ p,H p=none->Q (.ref p) (upd H p (.tup (xs++ys))))
theorem Vals.nil_iff {xs:List V} {us:List Value} (r:Vals xs us):us=[]↔xs=[]:=by
 cases r with
 | nil=>simp
 | cons _ _=>simp
theorem dXx:OpR X (binaryOp .Add) (dXw X.K):=by
 intro pins s σ H x y v u Q I rx ry h;obtain⟨a,b,xs,ys,rfl,rfl,ha,hb,hx,hz,q1,q2⟩:=h;cases rx;cases ry;obtain⟨its,r1,p1,_⟩:=I.tuple ha;obtain⟨its2,r2,p2,_⟩:=I.tuple hb;refine HT.cat_tup p1 p2 (fun z=>hx (r1.nil_iff.mp z)) (fun z=>⟨.ref a,H,I,rfl,q1 (r2.nil_iff.mp z)⟩) (fun z=>?_) (by rw[<- r1.length,<- r2.length];exact hz)
 refine⟨.ref s.heap.objs.size,_,I.laid (t':=s.toks) (o:=.tup (xs++ys)) (fun b ob q=>Heap.get?_push_of_some _ q) (Nat.le_refl _) ?_,rfl,q2 (fun w=>z (r2.nil_iff.mpr w)) _ (I.hok.fresh (Nat.le_refl _))⟩;exact⟨by rw[List.length_append];exact hz,_,r1.append r2,IsTup.new _ _⟩
end
def ixN (n:Nat) (i:Int):Option Nat:=if 0<=i then (if i < n then some i.toNat else none) else if -(n:Int)<=i then some (i + n).toNat else none
def atI {α:Type} (xs:List α) (i:Int):Option α:=(ixN xs.length i).bind fun j=>xs[j]?
theorem cZl {n:Nat} {i:Int} {j:Nat} (h:ixN n i=some j):seqIndex? i n=some j/\j < n/\-(n:Int)<=i/\i < n:=by
 unfold ixN at h
 by_cases h0:0<=i
 ·rw[if_pos h0] at h
  by_cases h1:i < n
  ·rw[if_pos h1] at h;have e:i.toNat=j:=Option.some.inj h;exact⟨by rw[seqIndex_of h0 h1,e],by lia,by lia,h1⟩
  ·rw[if_neg h1] at h;cases h
 ·rw[if_neg h0] at h
  by_cases h1:-(n:Int)<=i
  ·rw[if_pos h1] at h;have e:(i + n).toNat=j:=Option.some.inj h;exact⟨by rw[seqIndex_neg (by lia) h1,e],by lia,h1,by lia⟩
  ·rw[if_neg h1] at h;cases h
theorem bXm {α:Type} {xs:List α} {i:Int} {v:α} (h:atI xs i=some v):∃ j,seqIndex? i xs.length=some j/\xs[j]?=some v/\j < xs.length/\-(xs.length:Int)<=i/\i < xs.length:=by
 unfold atI at h;cases e:ixN xs.length i with
 | none=>rw[e] at h;cases h
 | some j =>
  rw[e] at h;obtain⟨h1,h2,h3,h4⟩:=cZl e;exact⟨j,h1,h,h2,h3,h4⟩
theorem aX7 {α:Type} {xs:List α} {j:Nat} {v:α} (h:xs[j]?=some v):atI xs (j:Int)=some v:=by
 have hj:j < xs.length:=(List.getElem?_eq_some_iff.mp h).1;have e:ixN xs.length (j:Int)=some j:=by
  unfold ixN;rw[if_pos (by lia),if_pos (by lia)];simp
 unfold atI;rw[e];exact h
def PlainIx (b:Expr):Prop:=∀ o i,subscripted b false o i=operate [o,i] (getItem o i)
def IxR (X:Cx) (r:R2):Prop :=
 ∀ (value slice:Expr) (pins:List (Addr × Obj)) (s:Shared) (σ:St) (H:Hp) (x y:V) (v u:Value) (Q:VK),Inv X pins σ H s->RelV x v->RelV y u->r x y H Q ->
  subscripted slice false v u=operate [v,u] (getItem v u)->wpAny (model X.prog X.w) X.A (subscriptTail value slice v u) (EP X pins σ Q) X.xe s
def MtR (X:Cx) (id:String) (r:V->List V->Hp->VK->Prop):Prop :=
 ∀ (pins:List (Addr × Obj)) (s:Shared) (σ:St) (H:Hp) (x:V) (xs:List V) (v:Value) (us:List Value) (Q:VK),Inv X pins σ H s->RelV x v->Vals xs us->r x xs H Q ->
  wpAny (model X.prog X.w) X.A (call (.builtin id) (v::us)) (EP X pins σ Q) X.xe s
section
variable {X:Cx} {a b:Expr} {ta tb:TE} {pos:Pos}
theorem IxR.or {r r':R2} (h:IxR X r) (h':IxR X r'):IxR X (fun x y H Q=>r x y H Q\/r' x y H Q):=by
 intro value slice pins s σ H x y v u Q I rx ry q hs;rcases q with q | q
 ·exact h value slice pins s σ H x y v u Q I rx ry q hs
 ·exact h' value slice pins s σ H x y v u Q I rx ry q hs
theorem pe_ix {r:R2} (hr:IxR X r) (ha:PE X a ta) (hb:PE X b tb) (hs:PlainIx b):PE X (.Subscript a b pos) (tOp r ta tb):=by
 intro pins s σ H Q I h;exact Subscript_ (binT ha hb I h fun v u s2 x y H2 I2 rx ry q=>hr a b pins s2 σ H2 x y v u Q I2 rx ry q (hs _ _))
def rIxL (K:PySem.W.Frag):R2:=fun x y H Q=>∃ p xs i v,x=.ref p/\y=.int i/\SqL K H p xs/\atI xs i=some v/\Q v H
def rIxT (K:PySem.W.Frag):R2:=fun x y H Q=>∃ p xs i v,x=.ref p/\y=.int i/\SqT K H p xs/\atI xs i=some v/\Q v H
def rIxS:R2:=fun x y H Q=>∃ z i c,x=.str z/\y=.int i/\z.length<=sizeLine/\atI z.cps.toList i=some c/\Q (.str ⟨#[c]⟩) H
theorem ix_list:IxR X (rIxL X.K):=by
 intro value slice pins s σ H x y v u Q I rx ry h hs;obtain⟨p,xs,i,z,rfl,rfl,hq,he,q⟩:=h;cases rx;obtain⟨t,rfl⟩:=ry;obtain⟨its,r,pl,hz⟩:=I.list hq;obtain⟨j,h1,h2,h3,h4,h5⟩:=bXm he;obtain⟨w,ew,rw'⟩:=r.get h2;have hl:=r.length;have hn:=bZo;have fin:EP X pins σ Q w s:=⟨z,H,I,rw',q⟩
 by_cases h0:0<=i
 ·have hj:i.toNat=j:=by
   rw[seqIndex_of h0 h5] at h1;exact Option.some.inj h1
  exact item_listR pl.isList h0 (by lia) (by rw[hj];simpa using ew) fin hs
 ·have hj:(i + (its.toArray.size:Int)).toNat=j:=by
   rw[seqIndex_neg (by lia) h4] at h1
   rw[List.size_toArray,<- hl];exact Option.some.inj h1
  exact subscriptTail_builtinR (x:=w) pl.isList.typeIs slot_list_getitem.lookup
   (wpAny_getItem_list_neg (Q:=fun r s'=>r=w/\EP X pins σ Q r s') pl.isList (by lia) (by rw[List.size_toArray] <;> lia) (by lia) (by rw[hj];simpa using ew) ⟨rfl,fin⟩) hs
theorem ix_tup:IxR X (rIxT X.K):=by
 intro value slice pins s σ H x y v u Q I rx ry h hs;obtain⟨p,xs,i,z,rfl,rfl,hq,he,q⟩:=h;cases rx;obtain⟨t,rfl⟩:=ry;obtain⟨its,r,pl,hz⟩:=I.tuple hq;obtain⟨j,h1,h2,h3,h4,h5⟩:=bXm he;obtain⟨w,ew,rw'⟩:=r.get h2;have hl:=r.length;have hn:=bZo;have fin:EP X pins σ Q w s:=⟨z,H,I,rw',q⟩;exact subscriptTail_builtinR (x:=w) pl.typeIs slot_tuple_getitem.lookup
  (getItem_tuple (j:=j) (Q:=fun r s'=>r=w/\EP X pins σ Q r s') pl (by lia) (by lia) (by rw[List.size_toArray,<- hl];exact h1) (by simpa using ew) ⟨rfl,fin⟩) hs
theorem eX6:IxR X rIxS:=by
 intro value slice pins s σ H x y v u Q I rx ry h hs;obtain⟨z,i,c,rfl,rfl,hz,he,q⟩:=h;obtain⟨t,rfl⟩:=rx;obtain⟨t',rfl⟩:=ry;obtain⟨j,h1,h2,h3,h4,h5⟩:=bXm he;have hl:z.cps.toList.length=z.length:=by simp[Str.length]
 rw[hl] at h1 h4 h5;have hn:=bZo;exact tail_any (typeIs_str s z t) slot_str_getitem.lookup (getItem_str (c:=c) (by
  have e1:decide (i < -(2 ^ 63:Int))=false:=decide_eq_false (by lia)
  have e2:decide (i >= 2 ^ 63)=false:=decide_eq_false (by lia)
  rw[e1,e2,Bool.or_false]) (by rw[h1];simpa using h2) ⟨.str ⟨#[c]⟩,H,I.tok _,⟨_,rfl⟩,q⟩) hs
def rIx (K:PySem.W.Frag):R2:=fun x y H Q=>rIxL K x y H Q\/rIxT K x y H Q\/rIxS x y H Q
theorem eX7:IxR X (rIx X.K):=ix_list.or (ix_tup.or eX6)
theorem bZs (lo hi:Option Int) (n:Nat):(sliceBounds lo hi none n).1=((HT.sIx n 0 lo:Nat):Int)/\(sliceBounds lo hi none n).2.1=((HT.sIx n n hi:Nat):Int)/\(sliceBounds lo hi none n).2.2=1:=by
 refine⟨?_,?_,rfl⟩
 ·cases lo with
  | none=>simp[sliceBounds,HT.sIx]
  | some i =>
   simp only[sliceBounds,HT.sIx,Option.getD_none,show(1:Int) > 0 by decide,if_true]
   by_cases h:i < 0
   ·simp only[h,if_true] <;> lia
   ·simp only[h,if_false] <;> lia
 ·cases hi with
  | none=>simp[sliceBounds,HT.sIx]
  | some i =>
   simp only[sliceBounds,HT.sIx,Option.getD_none,show(1:Int) > 0 by decide,if_true]
   by_cases h:i < 0
   ·simp only[h,if_true] <;> lia
   ·simp only[h,if_false] <;> lia
theorem bQp (its:List Value) (lo hi:Option Int):slicePick its.toArray lo hi none=((its.drop (HT.sIx its.length 0 lo)).take (HT.sIx its.length its.length hi - HT.sIx its.length 0 lo)).toArray:=by
 obtain⟨h1,h2,h3⟩:=bZs lo hi its.toArray.size;unfold slicePick;rw[h1,h2,h3];simp only[sliceRange_one,pick_run,List.size_toArray] <;> rfl
def rSlL (K:PySem.W.Frag):V->Option Int->Option Int->Hp->VK->Prop:=fun x lo hi H Q=>∃ a xs,x=.ref a/\SqL K H a xs/\∀ p,H p=none->Q (.ref p) (upd H p (.lst (cutV xs lo hi)))
theorem dXy:SlR X (rSlL X.K):=by
 intro pins s σ H x v vl vu lo hi sl Q I rx hs pl pu h;obtain⟨a,xs,rfl,hx,q⟩:=h;cases rx;obtain⟨its,r,ht,hz⟩:=I.list hx;have hlen:=r.length;refine⟨"list",_,slot_list_getitem.lookup,ht.isList.typeIs,?_⟩;refine wpAny_getItem_list_slice ht.isList hs pl pu .none (by simp) ?_ (by rw[List.size_toArray] <;> lia)
 rw[bQp,<- hlen];refine⟨.ref s.heap.objs.size,_,I.laid (t':=s.toks) (o:=.lst (cutV xs lo hi)) (fun b ob q=>Heap.get?_push_of_some _ q) (Nat.le_refl _) ?_,rfl,q _ (I.hok.fresh (Nat.le_refl _))⟩;exact⟨Nat.le_trans (aJb xs lo hi) hz,_,0,(r.drop (HT.sIx xs.length 0 lo)).take (HT.sIx xs.length xs.length hi - HT.sIx xs.length 0 lo),Heap.get?_push_size _ rfl⟩
theorem CallR.or {f:Value} {r r':List V->Hp->VK->Prop} (h:CallR X f r) (h':CallR X f r'):CallR X f (fun xs H Q=>r xs H Q\/r' xs H Q):=by
 intro pins s σ H xs us Q I rs q;rcases q with q | q
 ·exact h pins s σ H xs us Q I rs q
 ·exact h' pins s σ H xs us Q I rs q
theorem call_list_of:CallR X (.type "list") (fun xs H Q=>∃ p ys,xs=[.ref p]/\(SqL X.K H p ys\/SqT X.K H p ys)/\∀ l,H l=none->Q (.ref l) (upd H l (.lst ys))):=by
 intro pins s σ H xs us Q I r h;obtain⟨p,ys,rfl,hq,q⟩:=h;obtain⟨u,rfl,rx⟩:=aXh r;cases rx;have fin:∀ (its:List Value),Vals ys its->ys.length<=sizeLine->∀ (h':Heap) (c':Nat),(∀ b o',s.heap.get? b=some o'->h'.get? b=some o') ->
   h'.get? s.heap.objs.size=some { cls:=.type "list",dict:=none,data:=.seq its.toArray c',slots:=#[] }->EP X pins σ Q (.ref s.heap.objs.size) { s with heap:=h' }:=fun its r' hz h' c' kp e =>
  ⟨.ref s.heap.objs.size,_,I.laid (t':=s.toks) kp (Nat.le_refl _) (show ObjOk X.prog X.w _ h' _ (.lst ys) from⟨hz,its,c',r',e⟩),rfl,q _ (I.hok.fresh (Nat.le_refl _))⟩
 rcases hq with hq | hq
 ·obtain⟨its,r',pl,hz⟩:=I.list hq;have hlen:=r'.length;obtain⟨o,ho,hc,n,hd⟩:=pl.isList;exact call_list_seq p (.inl rfl) ho hc hd (fun h' c' kp e=>fin its r' hz h' c' kp e) (by simp only[List.size_toArray] <;> lia)
 ·obtain⟨its,r',pl,hz⟩:=I.tuple hq;have hlen:=r'.length;obtain⟨o,ho,hc,n,hd⟩:=pl;exact call_list_seq p (.inr rfl) ho hc hd (fun h' c' kp e=>fin its r' hz h' c' kp e) (by simp only[List.size_toArray] <;> lia)
theorem bQq:CallR X (.type "tuple") (fun xs H Q=>∃ p ys,xs=[.ref p]/\((SqL X.K H p ys/\∀ l,H l=none->Q (.ref l) (upd H l (.tup ys)))\/(SqT X.K H p ys/\Q (.ref p) H))):=by
 intro pins s σ H xs us Q I r h;obtain⟨p,ys,rfl,h⟩:=h;obtain⟨u,rfl,rx⟩:=aXh r;cases rx;rcases h with⟨hq,q⟩ | ⟨hq,q⟩
 ·obtain⟨its,r',pl,hz⟩:=I.list hq;have hlen:=r'.length;refine call_tuple_list pl.isList (fun h' kp=>?_) (by simp only[List.size_toArray] <;> lia)
  have I1:Inv X pins σ H { s with heap:=h' }:=I.kept (t':=s.toks) kp
  have I2:Inv X pins σ (upd H h'.objs.size (.tup ys)) { s with heap:=h'.push { cls:=.type "tuple",data:=.seq its.toArray } } :=
   I1.laid (t':=s.toks) (fun b o e=>Heap.get?_push_of_some _ e) (Nat.le_refl _) (show ObjOk X.prog X.w _ _ _ (.tup ys) from⟨hz,its,r',IsTup.new _ _⟩)
  exact⟨.ref h'.objs.size,_,I2,rfl,q _ (I1.hok.fresh (Nat.le_refl _))⟩
 ·obtain⟨its,r',pl,hz⟩:=I.tuple hq;exact call_tuple_same pl ⟨.ref p,H,I,rfl,q⟩
def tyV (K:PySem.W.Frag) (T:String) (x:V) (H:Hp):Prop:=match x with
 | .str _=>T = "str"
 | .int _=>T = "int"
 | .ref p=>(T = "list"/\∃ xs,SqL K H p xs)\/(T = "tuple"/\∃ o,K.lookup p=some o/\o.cls=.type "tuple"/\o.dict=none) \/
   (T = "dict"/\((∃ kvs,H p=some (.dK kvs))\/∃ kvs,H p=some (.dT kvs)))\/(T = "set"/\∃ S n,H p=some (.set S n))
 | _=>False
theorem eX8 {pins:List (Addr × Obj)} {σ:St} {H:Hp} {s:Shared} {T:String} {x:V} {v:Value} (I:Inv X pins σ H s) (r:RelV x v) (ty:tyV X.K T x H) :
  s.TypeIs v T/\∀ a,v=.ref a->∃ ob,s.heap.get? a=some ob/\ob.dict=none:=by
 cases x with
 | str z =>
  obtain⟨t,rfl⟩:=r;cases (show T = "str" from ty)
  exact⟨typeIs_str s z t,fun _ e=>nomatch e⟩
 | int i =>
  obtain⟨t,rfl⟩:=r;cases (show T = "int" from ty)
  exact⟨typeIs_int s i t,fun _ e=>nomatch e⟩
 | ref p =>
  cases r;rcases ty with⟨rfl,xs,hq⟩ | ⟨rfl,o,hk,hc,hd⟩ | ⟨rfl,hk⟩ | ⟨rfl,S,n,hk⟩
  ·obtain⟨its,_,pl,_⟩:=I.list hq;refine⟨pl.isList.typeIs,fun a e=>?_⟩;cases e;obtain⟨o,n,e,c,hd,_⟩:=pl;exact⟨o,e,hd⟩
  ·refine⟨⟨o,I.kIn p o hk,hc⟩,fun a e=>?_⟩;cases e;exact⟨o,I.kIn _ o hk,hd⟩
  ·have z:∃ o,s.heap.get? p=some o/\o.ExactDict:=by
    rcases hk with⟨kvs,hk⟩ | ⟨kvs,hk⟩
    ·obtain⟨_,_,_,_,o,_,_,e,ex,_⟩:=I.hok p _ hk;exact⟨o,e,ex⟩
    ·obtain⟨_,_,_,_,o,_,_,e,ex,_⟩:=I.hok p _ hk;exact⟨o,e,ex⟩
   obtain⟨o,e,ex⟩:=z;refine⟨⟨o,e,ex.1⟩,fun a e2=>?_⟩;cases e2;exact⟨o,e,ex.2.1⟩
  ·obtain⟨o,_,_,_,e,ex,_⟩:=I.hok p _ hk;refine⟨⟨o,e,ex.1⟩,fun a e2=>?_⟩;cases e2;exact⟨o,e,ex.2.1⟩
 | _=>exact False.elim ty
def tBM (K:PySem.W.Frag) (T:String) (r:V->List V->Hp->VK->Prop) (to:TE) (t:TA):TE:=fun σ H Q=>to σ H fun x H1=>tyV K T x H1/\t σ H1 fun xs H2=>r x xs H2 Q
variable {o e:Expr} {es:List Expr} {to:TE} {t:TA} {name:Str} {apos cpos:Pos} {T id:String} {r:V->List V->Hp->VK->Prop}
theorem fZe (pa:PlainAttrs T) (slot:Slot T name id) (hty:typeOf (.builtin id)=pure (.type "method_descriptor")) (hm:MtR X id r) (ho:PE X o to) (ha:PA X (e::es) t)
  (hbase:attributeBase o name X.env (eval o X.env)=eval o X.env:=by rfl)
  (hfew:((backTo cpos (starEach (e::es) X.env)).all (fun x=>!x.1) && (backToKw cpos (keywordEach [] X.env)).all (fun x=>x.1.isSome)
   && decide ((e::es).length + ([]:List Keyword).length + (if ([]:List Keyword).isEmpty then 0 else 1) < 30))=true:=by rfl)
  (hline:(apos.endLine == cpos.line)=true:=by rfl) (hs:starEach (e::es) X.env=(false,eval e X.env)::starEach es X.env:=by rfl) (hplain:(backTo cpos (starEach es X.env)).any (·.1)=false:=by rfl) :
  PE X (.Call (.Attribute o name apos) (e::es) [] cpos) (tBM X.K T r to t):=by
 intro pins s σ H Q I h;refine wpAny_Call_method_late hbase hfew hline rfl (thn (ho pins s σ H _ I h) fun v s1 ⟨x,H1,I1,r1,ty,q1⟩=>?_);obtain⟨h1,h2⟩:=eX8 I1 r1 ty;refine⟨T,id,pa,slot,hty,h1,h2,?_⟩;have hA:=ha cpos pins s1 σ H1 _ I1 q1;rw[hs] at hA ⊢;refine Calls.callWith_builtin (by show(false || (backTo cpos (starEach es X.env)).any (·.1))=false;rw[hplain] <;> rfl) (Calls.evalArgs_plain ?_)
 exact thn hA fun us s2 ⟨vs,H2,I2,r2,q2⟩=>hm pins s2 σ H2 x vs v us Q I2 r1 r2 q2
end
def MtM (X:Cx) (id:String) (r:V->List V->Hp->VK->Prop):Prop :=
 ∀ (pins:List (Addr × Obj)) (s:Shared) (σ:St) (H:Hp) (x:V) (xs:List V) (v:Value) (us:List Value) (Q:VK),Inv X pins σ H s->RelV x v->Vals xs us->r x xs H Q ->
  wpAny (model X.prog X.w) X.A (call (.builtin id) (v::us)) (EP X pins σ Q) X.xe s
theorem Vals.one:∀ {x:V} {us:List Value},Vals [x] us->∃ u,us=[u]/\RelV x u
 | _,_,.cons r .nil=>⟨_,rfl,r⟩
theorem Vals.two:∀ {x y:V} {us:List Value},Vals [x,y] us->∃ u v,us=[u,v]/\RelV x u/\RelV y v
 | _,_,_,.cons r (.cons q .nil)=>⟨_,_,rfl,r,q⟩
theorem Vals.eraseIdx:∀ {xs:List V} {us:List Value} (i:Nat),Vals xs us->Vals (xs.eraseIdx i) (us.eraseIdx i)
 | _,_,_,.nil=>.nil
 | _,_,0,.cons _ t=>t
 | _,_,i + 1,.cons r t=>.cons r (Vals.eraseIdx i t)
theorem bZt {α:Type}:∀ (l:List α) (i:Nat),(l.eraseIdx i).length<=l.length
 | [],_=>Nat.le_refl _
 | _::_,0=>Nat.le_succ _
 | _::r,i + 1=>Nat.succ_le_succ (bZt r i)
section
variable {X:Cx} {pins:List (Addr × Obj)} {σ:St} {H:Hp} {s:Shared} {l b:Addr} {xs ys zs:List V}
theorem Inv.lset {its its':List Value} {n:Nat} {f:Array Value->Array Value} {t':Nat} (I:Inv X pins σ H s) (hH:H l=some (.lst xs))
  (e:s.heap.get? l=some { cls:=.type "list",data:=.seq its.toArray n }) (hf:f its.toArray=its'.toArray) (hv:Vals ys its') (hz:ys.length<=sizeLine) :
  Inv X pins σ (upd H l (.lst ys)) { s with heap:=s.heap.update l (Obj.mapSeq f),toks:=t' }:=by
 have q:=PySem.IsL.update e f;rw[hf] at q;refine I.write (x:=l) (e:=l) (by rw[hH];exact trivial) (.inl rfl) (fun b' u hb hu=>(Heap.get?_update_other s.heap (Obj.mapSeq f) (Ne.symm hb)).trans hu) ⟨_,q⟩ ?_
 exact⟨hz,its',_,hv,q⟩
theorem Inv.lnew {its:List Value} {t':Nat} (I:Inv X pins σ H s) (hv:Vals ys its) (hz:ys.length<=sizeLine) :
  Inv X pins σ (upd H s.heap.objs.size (.lst ys)) { s with heap:=s.heap.push { cls:=.type "list",data:=.seq its.toArray },toks:=t' } :=
 I.laid (fun _ _ q=>Heap.get?_push_of_some _ q) (Nat.le_refl _) ⟨hz,its,0,hv,Heap.get?_push_size _ rfl⟩
theorem Inv.fresh (I:Inv X pins σ H s):H s.heap.objs.size=none:=I.hok.fresh (Nat.le_refl _)
theorem Inv.lstM (I:Inv X pins σ H s) (hH:H l=some (.lst xs)):xs.length<=sizeLine/\∃ (its:List Value) (n:Nat),Vals xs its/\xs.length=its.length/\s.heap.get? l=some { cls:=.type "list",data:=.seq its.toArray n }:=by
 obtain⟨z,its,n,r,e⟩:=I.hok l _ hH;exact⟨z,its,n,r,r.length,e⟩
theorem dQ4 {n:Nat} (h:n<=sizeLine):Builtin.List.listTooLong n=false:=by
 unfold Builtin.List.listTooLong;exact decide_eq_false (by lia)
end
section
variable {X:Cx}
def cZm:V->List V->Hp->VK->Prop:=fun x vs H Q=>∃ l xs y,x=.ref l/\vs=[y]/\H l=some (.lst xs)/\xs.length < sizeLine/\Q .non (upd H l (.lst (xs++[y])))
theorem bZu:MtM X "list.append" cZm:=by
 intro pins s σ H x vs v us Q I rx rv h;obtain⟨l,xs,y,rfl,rfl,hH,hz,q⟩:=h;cases rx;obtain⟨u,rfl,ru⟩:=rv.one;obtain⟨z,its,n,r,hl,e⟩:=I.lstM hH;refine call_meets F.slot_list_append ⟨_,e,rfl⟩ F.entry_list_append (F.args_list_append_2 _ _) (PySem.list_append l its.toArray n u (by rw[List.size_toArray];lia)) ⟨e,?_⟩
 refine⟨.non,_,I.lset (its':=its++[u]) hH e (by simp) (r.append (.cons ru .nil)) ?_,rfl,q⟩
 rw[List.length_append,List.length_singleton];lia
def cZn:V->List V->Hp->VK->Prop:=fun x vs H Q=>∃ l b xs zs,x=.ref l/\vs=[.ref b]/\H l=some (.lst xs)/\H b=some (.lst zs)/\xs.length + zs.length<=sizeLine/\Q .non (upd H l (.lst (xs++zs)))
theorem cZo:MtM X "list.extend" cZn:=by
 intro pins s σ H x vs v us Q I rx rv h;obtain⟨l,b,xs,zs,rfl,rfl,hH,hB,hz,q⟩:=h;cases rx;obtain⟨u,rfl,ru⟩:=rv.one;cases ru;obtain⟨z,its,n,r,hl,e⟩:=I.lstM hH;obtain⟨z2,its2,n2,r2,hl2,e2⟩:=I.lstM hB;have hsz:its.toArray.size + its2.toArray.size<=sizeLine:=by rw[List.size_toArray,List.size_toArray];lia
 have hlong:¬ (!its.toArray.isEmpty && Builtin.List.listTooLong (its.toArray.size + its2.toArray.size))=true:=by
  rw[dQ4 hsz,Bool.and_false];exact Bool.false_ne_true
 refine call_meets F.slot_list_extend ⟨_,e,rfl⟩ F.entry_list_extend (F.args_list_extend_2 _ _)
  (AutoSeq1.list_extend_list_list_0 l its.toArray n b its2.toArray n2 hlong (by rw[List.size_toArray];lia) (by lia)) ⟨e,e2,?_⟩
 refine⟨.non,_,I.lset (its':=its++its2) hH e (by simp) (r.append r2) ?_,rfl,q⟩
 rw[List.length_append];lia
def dZj:V->List V->Hp->VK->Prop:=fun x vs H Q=>∃ l xs i k y,x=.ref l/\vs=[.int i]/\H l=some (.lst xs)/\-(2 ^ 63)<=i/\i < 2 ^ 63/\seqIndex? i xs.length=some k/\xs[k]?=some y/\Q y (upd H l (.lst (xs.eraseIdx k)))
theorem dQ5:MtM X "list.pop" dZj:=by
 intro pins s σ H x vs v us Q I rx rv h;obtain⟨l,xs,i,k,y,rfl,rfl,hH,h1,h2,hk,hy,q⟩:=h;cases rx;obtain⟨u,rfl,ru⟩:=rv.one;obtain⟨t,rfl⟩:=ru;obtain⟨z,its,n,r,hl,e⟩:=I.lstM hH;obtain⟨w,hw,rw'⟩:=r.get hy;refine call_meets F.slot_list_pop ⟨_,e,rfl⟩ F.entry_list_pop (F.args_list_pop_2 _ _)
  (MeetsSeq.list_pop_at l its.toArray n i t k w (fitsIndex_both h1 h2) (by rw[List.size_toArray,<- hl];exact hk) (by rw[<- Array.getElem?_toList];exact hw) (by rw[List.size_toArray];lia)) ⟨e,?_⟩
 refine⟨y,_,I.lset (its':=its.eraseIdx k) hH e ?_ (r.eraseIdx k) ?_,rw',q⟩
 ·show its.toArray.eraseIdxIfInBounds k=(its.eraseIdx k).toArray;rw[List.eraseIdxIfInBounds_toArray]
 ·have:=bZt xs k
  lia
end
section
variable {prog:Program} {w:World} {A:Around} {E:Value->Shared->Prop} {s:Shared}
set_option maxRecDepth 100000 in
end
section
variable {X:Cx}
end
end L2
namespace Att
open PySem PySem.W PySem.Calls PyProof.Rows
theorem aJc {P:Params} {h:Heap}:∀ (ns:List Int) (vs:List Value),WellAll P h vs (ns.map WData.int)->IntsAre vs ns:=by
 intro ns
 induction ns with
 | nil =>
  intro vs w;rw[List.map_nil] at w;cases w;exact .nil
 | cons n ns ih =>
  intro vs w;rw[List.map_cons] at w;cases w with
  | cons a b =>
   cases a;exact .cons _ _ (ih _ b)
theorem cZp {l:OpenLaw} {n:Nat} (hn:l.most=some n) {P:Params} {h:Heap} {args:List WData} {vals:List Value}
  (hpre:l.row.toRowW.claim.pre args=true) (hwl:WellAll P h vals args) :
  ∃ a vs ns,vals=[Value.ref a]/\args=[WData.list (ns.map WData.int)]/\h.get? a=some { cls:=.type "list",data:=.seq vs.toArray }/\IntsAre vs ns/\ns.length<=n:=by
 have hsh:WShape.hasAll [] args [.list .int]=true:=(pre_splitW hpre).1;have hc:l.pre.holds [] { args:=args }=true:=(pre_splitW hpre).2;obtain⟨d,r,rfl,h1,h2⟩:=hasAllW_cons hsh;obtain rfl:=hasAllW_nil h2;obtain⟨xs,rfl,h3⟩:=hasW_list h1;obtain⟨ns,rfl⟩:=items_int h3;have hlen:ns.length<=n:=by
  unfold OpenLaw.pre at hc;have h4:(WTm.not (.lt (.lit (.int (n:Int))) (.len (.arg 0)))).holds [] { args:=[.list (ns.map .int)] }=true:=by
   have h4:=(holds_andW hc).1;rw[hn] at h4;exact h4
  have h5:=condW_of h4 (w_not (w_lt w_lit (w_len_list (w_arg rfl))));rw[List.length_map] at h5;refine Nat.le_of_not_lt fun q=>?_;have q':(n:Int) < ((ns.length:Nat):Int):=by lia
  first
   | (rw[decide_eq_true q'] at h5;exact absurd h5 (by decide))
   | (simp at h5;lia)
 cases hwl with
 | cons w1 w2 =>
  cases w2;cases w1 with
  | list ho hall=>exact⟨_,_,ns,rfl,rfl,ho,aJc ns _ hall,hlen⟩
theorem cZq (l:OpenLaw) (args:List WData):l.row.toRowW.claim.post args (.bool true) args=true :=
 postW_of (r:=l.row.toRowW) (X:=(true == true))
  (show WShape.has [] (.bool true) .bool=true by first | rfl | decide | simp[WShape.has,WShape.arms,WShape.armsAll])
  (show(WTm.eq .res (.lit (.bool true))).value [] { args:=args,res:=some (.bool true),after:=args }=some (.bool (true == true)) from w_eq_bool (w_res rfl) w_lit) rfl
theorem attach_call {l:OpenLaw} {n:Nat} {q:Program} {loose:List Str} {XP:(Str->Option Value)->Heap->Prop} {YP:World->Heap->Prop} {d:DefRec}
  (hn:l.most=some n) (hdf:d.params.defaults=[])
  (call:∀ (w:World) (s₀ s₁:Shared) (mg mb:Str->Option Value) (fa:Addr) (o:Obj) (pm cd doc:Value) (a:Addr) (vs:List Value) (ns:List Int),
   Ground q loose [] XP w s₀ mg mb s₁.heap->YP w s₁.heap ->
   s₁.heap.get? fa=some o->o.data=.func (docDef d.name d.params d.body d.scope pm cd doc)->s₁.heap.CodeRec cd d.name->mg d.name=some (.ref fa) ->
   s₁.heap.get? a=some { cls:=.type "list",data:=.seq vs.toArray }->IntsAre vs ns->ns.length<=n->s₁.gens=#[] ->
   codeAny (model l.prog w) callerA (.call (.ref fa) ⟨[.ref a],[]⟩) (fun r s'=>r=.ok (.ret (.bool true))/\OldK s₁.heap s'.heap/\s'.os=s₁.os/\AllBare s'.gens) s₁) :
  WalkO q loose XP YP l.row.toRowW d [] (fun f vs=>PySem.call f vs):=by
 intro w s₀ s₁ mg mb G Y fa o pm cd doc dV kV ho hd hcd hD hmg hg args vals as hpre hlay hrd hwl hlo;obtain rfl:dV=.none:=Dflts.none hD hdf;obtain rfl:kV=.none:=Dflts.noKw hD;obtain⟨a,vs,ns,rfl,rfl,hobj,hints,hlen⟩:=cZp hn hpre hwl;refine enter_call (codeAny_mono (call w s₀ s₁ mg mb fa o pm cd doc a vs ns G Y ho (fd_plain hd) hcd hmg hobj hints hlen hg) fun r s' hq=>?_);obtain⟨rfl,h2,h3,h4⟩:=hq;exact⟨.inl ⟨.bool true,.bool true,[],rfl,fun _=>rfl,.bool true,cZq l _,fun _=>⟨List.Pairwise.nil,fun _ hm=>(nomatch hm)⟩⟩,h2,h3,h4⟩
section
variable {prog:Program} {w:World} {A:Around} {E:Value->Shared->Prop} {s:Shared} {K:Frag}
end
end Att
namespace L2
open PySem PySem.Spec PyProof.Rows
theorem aJd:∀ {vs:List Value} {ns:List Int},IntsAre vs ns->Vals (ns.map V.int) vs
 | _,_,.nil=>.nil
 | _,_,.cons n t h=>.cons ⟨t,rfl⟩ (aJd h)
abbrev KOf {K:PySem.W.Frag} {h:Heap} (_:K.In h):PySem.W.Frag:=K
def aX8 (s:Stmt):Arguments:=match s with
 | .FunctionDef _ a _ _ _ _ _ _ _ _=>a
 | _=>{ posonlyargs:=[],args:=[],vararg:=none,kwonlyargs:=[],kw_defaults:=[],kwarg:=none,defaults:=[] }
def aZ1 (s:Stmt):List Stmt:=match s with
 | .FunctionDef _ _ b _ _ _ _ _ _ _=>b
 | _=>[]
def aQ3 (s:Stmt):Scope:=match s with
 | .FunctionDef _ _ _ _ _ _ sc _ _ _=>sc
 | _=>{ kind:=.function,names:=[],isGenerator:=false,isCoroutine:=false }
abbrev CX0:CXT:=fun _ _ _ _ _ _=>False
abbrev E0:XK:=fun _ _ _=>False
theorem fZf {X:Cx}:cZi CX0 X E0:=fun _ _ _ _ _ _ _ h=>h.elim
structure Fun (K:PySem.W.Frag) (x qual:Str) (st:Stmt) (f:Addr) (fd:FuncData):Prop where
 ex:∃ (oc:Value) (od:Option Addr) (kV doc pm:Value) (an:Option Addr) (cdv ct:Value) (osl:Array (Option Value)),
  fd=PySem.W.fnOf x qual (aX8 st) (aZ1 st) (aQ3 st) .none kV doc pm an cdv ct/\K.lookup f=some ⟨oc,od,.func fd,osl⟩/\PySem.W.codeIn K cdv qual=true
 kp:PySem.W.keepIn K (.ref f)=true
section
variable {P:Program} {w:World} {K:PySem.W.Frag} {mg:Str->Option Value} {base:Heap}
theorem Fun.ok {x qual:Str} {st:Stmt} {f:Addr} {fd:FuncData} {N ps:List Str} {k:Nat} {sp:Sp} (F:Fun K x qual st f fd) (S:FnScope N ps (aQ3 st)) (len:∀ vs H Q E,sp vs H Q E->vs.length=ps.length)
  (hbody:∀ (cdv:Value) (A:Around) (outer:List Env) (s:Shared) (H:Hp) (vs:List V) (Q:VK) (E:XK),Room k (A.deeper (envOfC qual (aQ3 st) s.heap.objs.size f cdv))->sp vs H Q E ->
   ∃ t,PSs (cxOf CX0 P w K mg base N qual (aQ3 st) f cdv A outer s H E).nox (aZ1 st) t/\t { nx:=fun _ H'=>Q .non H',rt:=Q } (start N vs) H):FnOk P w K mg base CX0 (k + 1) f fd ps sp:=by
 obtain⟨oc,od,kV,doc,pm,an,cdv,ct,osl,rfl,lk,hcd⟩:=F.ex;refine eX3 lk hcd S len fun A outer s H vs Q E hr hsp=>?_;obtain⟨t,h,q⟩:=hbody cdv A outer s H vs Q E hr hsp;exact⟨t,h.nox,q⟩
theorem Fun.binds {x qual:Str} {st:Stmt} {f:Addr} {fd:FuncData} {ps:List Str} (F:Fun K x qual st f fd)
  (h:∀ (kV doc pm:Value) (an:Option Addr) (cdv ct:Value) (us:List Value),us.length=ps.length->bindArgs (PySem.W.fnOf x qual (aX8 st) (aZ1 st) (aQ3 st) .none kV doc pm an cdv ct) ⟨us,[]⟩=pure (ps.zip us)):Binds K fd ps []:=by
 obtain⟨oc,od,kV,doc,pm,an,cdv,ct,osl,rfl,lk,hcd⟩:=F.ex;exact .all (h kV doc pm an cdv ct)
theorem dZk {x qual:Str} {st:Stmt} {f:Addr} {oc:Value} {od an:Option Addr} {osl:Array (Option Value)} {kV doc pm cdv ct:Value} (l:K.lookup f=some ⟨oc,od,.func (PySem.W.fnOf x qual (aX8 st) (aZ1 st) (aQ3 st) .none kV doc pm an cdv ct),osl⟩)
  (c:PySem.W.codeIn K cdv qual=true) (k:PySem.W.keepIn K (.ref f)=true):Fun K x qual st f (PySem.W.fnOf x qual (aX8 st) (aZ1 st) (aQ3 st) .none kV doc pm an cdv ct):=⟨⟨oc,od,kV,doc,pm,an,cdv,ct,osl,rfl,l,c⟩,k⟩
end
section
variable {X:Cx}
end
theorem iteF {A B:Prop} (h:B):if false=true then A else B:=by
 rw[if_neg Bool.false_ne_true];exact h
theorem iteT {A B:Prop} (h:A):if true=true then A else B:=by
 rw[if_pos rfl];exact h
theorem ite2 {c A B:Prop} [Decidable c] (h1:c->A) (h2:¬ c->B):if c then A else B:=by
 by_cases h:c
 ·rw[if_pos h];exact h1 h
 ·rw[if_neg h];exact h2 h
def Same (H H':Hp):Prop:=∀ b o,H b=some o->H' b=some o
end L2
set_option maxHeartbeats 4000000
namespace L2
open PySem PySem.Spec PyProof.Rows
section
variable {prog:Program} {w:World} {A:Around} {R:Result->Shared->Prop} {s:Shared}
end
theorem aXr (env:Env):∀ (names:List (Str × NameKind)) (acc:List (Str × Addr)),(∀ x,(x,NameKind.free)∈names->∃ c,env.cells.lookup x=some c)->(∀ x c,acc.lookup x=some c->env.cells.lookup x=some c) ->
  ∃ cl,(forIn names acc fun(y:Str × NameKind) (cs:List (Str × Addr))=>(if (y.2 == NameKind.free)=true then do let a <- cellOf env y.1;pure (ForInStep.yield ((y.1,a)::cs)) else pure (ForInStep.yield cs):Sem (ForInStep (List (Str × Addr)))))=pure cl /\
   (∀ x c,cl.lookup x=some c->env.cells.lookup x=some c)/\(∀ x,((x,NameKind.free)∈names\/(acc.lookup x).isSome=true)->(cl.lookup x).isSome=true)
 | [],acc,_,ha=>⟨acc,by rfl,ha,fun x h=>by
   rcases h with h | h
   ·cases h
   ·exact h⟩
 | (n,k)::rest,acc,hn,ha=>by
  by_cases hk:(k == NameKind.free)=true
  ·have hk':k=NameKind.free:=by cases k <;> first | rfl | cases hk
   subst hk';obtain⟨c,hc⟩:=hn n List.mem_cons_self;obtain⟨cl,e,h1,h2⟩:=aXr env rest ((n,c)::acc) (fun x hx=>hn x (List.mem_cons_of_mem _ hx)) (fun x d hx=>by
    simp only[List.lookup_cons] at hx
    by_cases hxn:(x == n)=true
    ·rw[hxn] at hx;cases hx;rw[eq_of_beq hxn];exact hc
    ·rw[Bool.eq_false_iff.mpr hxn] at hx;exact ha x d hx)
   refine⟨cl,?_,h1,fun x hx=>h2 x ?_⟩
   ·rw[List.forIn_cons];have ec:cellOf env n=pure c:=by unfold cellOf;rw[hc]
    simp only[hk,if_true,ec,pure_bind];exact e
   ·rcases hx with hx | hx
    ·rcases List.mem_cons.mp hx with hx | hx
     ·cases hx;right;simp
     ·exact .inl hx
    ·right
     simp only[List.lookup_cons];cases x == n <;> simp[hx]
  ·obtain⟨cl,e,h1,h2⟩:=aXr env rest acc (fun x hx=>hn x (List.mem_cons_of_mem _ hx)) ha;refine⟨cl,?_,h1,fun x hx=>h2 x ?_⟩
   ·rw[List.forIn_cons];simp only[hk,if_false,pure_bind,Bool.false_eq_true];exact e
   ·rcases hx with hx | hx
    ·rcases List.mem_cons.mp hx with hx | hx
     ·cases hx;exact absurd rfl hk
     ·exact .inl hx
    ·exact .inr hx
inductive Cap (N:List Str) (sc:Scope):List Str->List (Option Nat)->Prop
 | nil:Cap N sc [] []
 | own {x xs is}:Cap N sc xs is->Cap N sc (x::xs) (none::is)
 | cap {x xs is i}:N[i]?=some x->(x,NameKind.free)∈sc.names->Cap N sc xs is->Cap N sc (x::xs) (some i::is)
theorem Cap.length {N:List Str} {sc:Scope} {xs:List Str} {is:List (Option Nat)} (c:Cap N sc xs is):xs.length=is.length:=by
 induction c with
 | nil=>rfl
 | own _ ih=>simp[ih]
 | cap _ _ _ ih=>simp[ih]
theorem Cap.get {N:List Str} {sc:Scope} {xs:List Str} {is:List (Option Nat)} (c:Cap N sc xs is):∀ {j i:Nat} {x:Str},xs[j]?=some x->is[j]?=some (some i)->N[i]?=some x/\(x,NameKind.free)∈sc.names:=by
 induction c with
 | nil=>intro j i x h;simp at h
 | own _ ih =>
  intro j i x h1 h2;cases j with
  | zero=>simp at h2
  | succ j=>exact ih (by simpa using h1) (by simpa using h2)
 | cap hN hf _ ih =>
  intro j i x h1 h2;cases j with
  | zero=>simp at h1 h2;subst h1;subst h2;exact⟨hN,hf⟩
  | succ j=>exact ih (by simpa using h1) (by simpa using h2)
def capt (is:List (Option Nat)) (σ:St):St:=is.map fun o=>o.bind fun i=>(σ[i]?).join
theorem aZr {sc:Scope} {env:Env}:∀ {names:List (Str × NameKind)} {x:Str},(names.lookup x=some .cell\/names.lookup x=some .free)->((names.map fun(n,k)=>if (k == NameKind.free && env.scope.kind == .function && env.kindOf n == some .cell) then (n,NameKind.cell) else (n,k)).lookup x=some .cell\/(names.map fun(n,k)=>if (k == NameKind.free && env.scope.kind == .function && env.kindOf n == some .cell) then (n,NameKind.cell) else (n,k)).lookup x=some .free)
 | [],x,h=>by simp at h
 | (n,k)::r,x,h=>by
  simp only[List.map_cons]
  by_cases hc:(k == NameKind.free && env.scope.kind == .function && env.kindOf n == some .cell)=true
  ·rw[if_pos hc];simp only[List.lookup_cons] at h ⊢;cases hx:x == n with
   | true=>exact .inl rfl
   | false=>rw[hx] at h;exact aZr (sc:=sc) h
  ·rw[if_neg hc];simp only[List.lookup_cons] at h ⊢;cases hx:x == n with
   | true=>rw[hx] at h;exact h
   | false=>rw[hx] at h;exact aZr (sc:=sc) h
theorem aXs {sc:Scope} {env:Env}:∀ {names:List (Str × NameKind)} {x:Str},((names.map fun(n,k)=>if (k == NameKind.free && env.scope.kind == .function && env.kindOf n == some .cell) then (n,NameKind.cell) else (n,k)).lookup x=some .cell\/(names.map fun(n,k)=>if (k == NameKind.free && env.scope.kind == .function && env.kindOf n == some .cell) then (n,NameKind.cell) else (n,k)).lookup x=some .free)->names.lookup x=some .cell\/names.lookup x=some .free
 | [],x,h=>by simp at h
 | (n,k)::r,x,h=>by
  simp only[List.map_cons] at h
  by_cases hc:(k == NameKind.free && env.scope.kind == .function && env.kindOf n == some .cell)=true
  ·rw[if_pos hc] at h;simp only[List.lookup_cons] at h ⊢;cases hx:x == n with
   | true =>
    right
    have:k == NameKind.free:=by
     simp only[Bool.and_eq_true] at hc;exact hc.1.1
    cases k <;> first | rfl | cases this
   | false=>rw[hx] at h;exact aXs (sc:=sc) h
  ·rw[if_neg hc] at h;simp only[List.lookup_cons] at h ⊢;cases hx:x == n with
   | true=>rw[hx] at h;exact h
   | false=>rw[hx] at h;exact aXs (sc:=sc) h
theorem aJe {α β:Type} [BEq α] [LawfulBEq α]:∀ {l:List (α × β)} {x:α} {k:β},l.lookup x=some k->(x,k)∈l
 | (n,k')::r,x,k,h=>by
  simp only[List.lookup_cons] at h;cases hx:x == n with
  | true=>rw[hx] at h;cases h;rw[eq_of_beq hx];exact List.mem_cons_self
  | false=>rw[hx] at h;exact List.mem_cons_of_mem _ (aJe h)
def PTs (X:Cx) (ifs:List Expr) (t:TT):Prop :=
 ∀ (pins:List (Addr × Obj)) (s:Shared) (σ:St) (H:Hp) (Q:Bool->Hp->Prop),Inv X pins σ H s->t σ H Q ->
  wpAny (model X.prog X.w) X.A (forIn ifs true fun c r=>if r=true then do let ok <- isTrue c X.env (eval c X.env);pure (ForInStep.yield ok) else pure (ForInStep.yield r)) (TP X pins σ Q) X.xe s
def tYes:TT:=fun _ H Q=>Q true H
theorem dXz {X:Cx}:PTs X [] tYes:=fun pins s σ H Q I h=>wpAny_tests_nil ⟨H,I,h⟩
theorem dJ0 {X:Cx} {c:Expr} {t:TT} (h:PT X c t):PTs X [c] t:=fun pins s σ H Q I q=>wpAny_tests_one (h pins s σ H Q I q)
def Wk (σ0 σ2:St):Prop:=σ2.length=σ0.length/\∀ (j:Nat) v,σ0[j]?=some (some v)->σ2[j]?=some (some v)
def okV (names outer:List (Str × NameKind)):Bool:=names.all fun y=>match y.2 with
 | .free=>match outer.lookup y.1 with
  | some .cell=>true
  | some .free=>true
  | _=>false
 | _=>true
theorem dZl {names:List (Str × NameKind)} {sc:Scope} (h:okV names sc.names=true):∀ y∈names,y.2=.free->Vis sc y.1/\sc.names.lookup y.1≠some .local:=fun y hy hf=>by
 have:=List.all_eq_true.mp h y hy
 rw[hf] at this;unfold Vis;cases q:sc.names.lookup y.1 with
 | none=>rw[q] at this;cases this
 | some k=>rw[q] at this;cases k <;> first | (simp;done) | cases this
section
variable {X:Cx} {pins:List (Addr × Obj)} {σ:St} {H H':Hp} {s s2:Shared}
end
structure Bs (mg:Str->Option Value):Prop where
 len:mg "len" = none
 range:mg "range" = none
 sorted:mg "sorted" = none
 tuple:mg "tuple" = none
 list:mg "list" = none
 set:mg "set" = none
 sum:mg "sum" = none
 min:mg "min" = none
 max:mg "max" = none
 all:mg "all" = none
 any:mg "any" = none
 isinstance:mg "isinstance" = none
 int:mg "int" = none
 str:mg "str" = none
 bool:mg "bool" = none
 zip:mg "zip" = none
 enumerate:mg "enumerate" = none
theorem dZm:bootBuiltins "len" = some (.builtin "len"):=by decide +kernel
theorem aJf:bootBuiltins "sorted" = some (.builtin "sorted"):=by decide +kernel
theorem eX9:bootBuiltins "min" = some (.builtin "min"):=by decide +kernel
theorem eXa:bootBuiltins "max" = some (.builtin "max"):=by decide +kernel
theorem eXb:bootBuiltins "all" = some (.builtin "all"):=by decide +kernel
theorem eXc:bootBuiltins "any" = some (.builtin "any"):=by decide +kernel
theorem bQr:bootBuiltins "isinstance" = some (.builtin "isinstance"):=by decide +kernel
theorem bQs:bootBuiltins "tuple" = some (.type "tuple"):=by decide +kernel
theorem dJ1:bootBuiltins "list" = some (.type "list"):=by decide +kernel
theorem eXd:bootBuiltins "set" = some (.type "set"):=by decide +kernel
theorem eXe:bootBuiltins "int" = some (.type "int"):=by decide +kernel
structure Df (P:Program) (w:World) (K:PySem.W.Frag) (mg:Str->Option Value) (base:Heap) (k:Nat) (x:Str) (ps:List Str) (sp:Sp):Prop where
 ex:∃ (f:Addr) (fd:FuncData),FnOk P w K mg base CX0 k f fd ps sp/\Binds K fd ps []/\PySem.W.keepIn K (.ref f)=true/\mg x=some (.ref f)
theorem Df.mono {P:Program} {w:World} {K:PySem.W.Frag} {mg:Str->Option Value} {base:Heap} {j k:Nat} {x:Str} {ps:List Str} {sp:Sp} (D:Df P w K mg base j x ps sp) (h:j<=k):Df P w K mg base k x ps sp:=by
 obtain⟨f,fd,a,b,c,d⟩:=D.ex;exact⟨f,fd,a.mono h,b,c,d⟩
theorem dQ6 {X:Cx} {k:Nat} {x:Str} {ps:List Str} {sp:Sp} {p pos:Pos} {e:Expr} {es:List Expr} {t:TA} (D:Df X.prog X.w X.K X.mg X.base k x ps sp) (hr:Room k X.A) (hg:Gl X x) (ha:PA X (e::es) t)
  (hdb:(x == ("__debug__" : Str))=false:=by decide) (he:starEach (e::es) X.env=(false,eval e X.env)::starEach es X.env:=by rfl) (hpl:(backTo pos (starEach es X.env)).any (·.1)=false:=by rfl) :
  PE X (.Call (.Name x p) (e::es) [] pos) (eX1 sp [] E0 t):=by
 obtain⟨f,fd,F,hb,hk,hm⟩:=D.ex;exact dXs F hr hg hm hk hb .nil fZf ha hdb he hpl
structure Tx (K:PySem.W.Frag) (mg:Str->Option Value) (x:Str) (st:Stmt):Prop where
 ex:∃ (f:Addr) (fd:FuncData),Fun K x x st f fd/\mg x=some (.ref f)
theorem Tx.df {P:Program} {w:World} {K:PySem.W.Frag} {mg:Str->Option Value} {base:Heap} {k:Nat} {x:Str} {st:Stmt} {ps:List Str} {sp:Sp} (T:Tx K mg x st)
  (b:∀ {f:Addr} {fd:FuncData},Fun K x x st f fd->Binds K fd ps []) (h:∀ {f:Addr} {fd:FuncData},Fun K x x st f fd->FnOk P w K mg base CX0 k f fd ps sp):Df P w K mg base k x ps sp:=by
 obtain⟨f,fd,F,m⟩:=T.ex;exact⟨f,fd,h F,b F,F.kp,m⟩
theorem tx_mk {K:PySem.W.Frag} {h:Heap} {mg:Str->Option Value} {x:Str} {st:Stmt} {f:Addr} {od an:Option Addr} {sl:Array (Option Value)} {oc kV dc pm cd ct:Value} (X:K.In h) (G:h.Ns mainGlobals mg)
  (a:PySem.W.nsIn K mainGlobals x=some (some (.ref f))) (l:K.lookup f=some ⟨oc,od,.func (PySem.W.fnOf x x (aX8 st) (aZ1 st) (aQ3 st) .none kV dc pm an cd ct),sl⟩) (c:PySem.W.codeIn K cd x=true) (k:PySem.W.keepIn K (.ref f)=true):Tx K mg x st :=
 ⟨f,_,dZk (st:=st) l c k,PySem.W.mg_of X G a⟩
theorem bs_mk {K:PySem.W.Frag} {h:Heap} {mg:Str->Option Value} (X:K.In h) (G:h.Ns mainGlobals mg) (a:∀ x∈(["len", "range", "sorted", "tuple", "list", "set", "sum", "min", "max", "all", "any", "isinstance", "int", "str", "bool", "zip", "enumerate"]:List Str),PySem.W.nsIn K mainGlobals x=some none):Bs mg:=by
 have q:∀ x∈(["len", "range", "sorted", "tuple", "list", "set", "sum", "min", "max", "all", "any", "isinstance", "int", "str", "bool", "zip", "enumerate"]:List Str),mg x=none:=fun x hx=>PySem.W.mg_none_of X G (a x hx);constructor <;> exact q _ (by decide +kernel)
theorem bs_all {K:PySem.W.Frag} (z1:PySem.W.nsIn K mainGlobals "len" = some none) (z2:PySem.W.nsIn K mainGlobals "range" = some none) (z3:PySem.W.nsIn K mainGlobals "sorted" = some none) (z4:PySem.W.nsIn K mainGlobals "tuple" = some none) (z5:PySem.W.nsIn K mainGlobals "list" = some none) (z6:PySem.W.nsIn K mainGlobals "set" = some none)
  (z7:PySem.W.nsIn K mainGlobals "sum" = some none) (z8:PySem.W.nsIn K mainGlobals "min" = some none) (z9:PySem.W.nsIn K mainGlobals "max" = some none) (z10:PySem.W.nsIn K mainGlobals "all" = some none) (z11:PySem.W.nsIn K mainGlobals "any" = some none) (z12:PySem.W.nsIn K mainGlobals "isinstance" = some none)
  (z13:PySem.W.nsIn K mainGlobals "int" = some none) (z14:PySem.W.nsIn K mainGlobals "str" = some none) (z15:PySem.W.nsIn K mainGlobals "bool" = some none) (z16:PySem.W.nsIn K mainGlobals "zip" = some none) (z17:PySem.W.nsIn K mainGlobals "enumerate" = some none) :
  ∀ x∈(["len", "range", "sorted", "tuple", "list", "set", "sum", "min", "max", "all", "any", "isinstance", "int", "str", "bool", "zip", "enumerate"]:List Str),PySem.W.nsIn K mainGlobals x=some none:=fun x hx=>by
 simp only[List.mem_cons,List.not_mem_nil,or_false] at hx;rcases hx with rfl | rfl | rfl | rfl | rfl | rfl | rfl | rfl | rfl | rfl | rfl | rfl | rfl | rfl | rfl | rfl | rfl <;> assumption
theorem fZg {X:Cx} {x:Str} {n:String} {pos:Pos} (hg:Gl X x) (hm:X.mg x=none) (hv:bootBuiltins x=some (.type n)) (hn:x ≠ "__name__":=by decide) (hd:(x == ("__debug__" : Str))=false:=by decide):PE X (.Name x pos) (tC (.ty n)) :=
 dXe hg hm hv (show RelV (.ty n) (.type n) from rfl) hn hd
def subT (t T : String) : Option Bool := if t = T then some true else
  (([("bool", "int", true), ("int", "bool", false), ("str", "int", false), ("str", "bool", false), ("str", "tuple", false), ("tuple", "str", false), ("tuple", "int", false), ("tuple", "bool", false), ("NoneType", "str", false), ("NoneType", "tuple", false), ("NoneType", "int", false), ("NoneType", "bool", false),
    ("int", "str", false), ("int", "tuple", false), ("bool", "str", false), ("bool", "tuple", false), ("list", "tuple", false), ("list", "str", false), ("tuple", "list", false), ("int", "list", false), ("str", "list", false), ("list", "int", false), ("list", "bool", false)] : List (String × String × Bool)).find? fun r => r.1 == t && r.2.1 == T).map (·.2.2)
theorem cZr {K:PySem.W.Frag} {t T:String} {b:Bool} (h:subT t T=some b):PySem.W.kitOne K (.type t) (.type T)=some b:=by
 unfold subT at h
 by_cases e:t=T
 ·rw[if_pos e] at h;cases h;subst e;unfold PySem.W.kitOne;rw[if_pos (by exact beq_self_eq_true _)]
 ·rw[if_neg e] at h;rw[Option.map_eq_some_iff] at h;obtain⟨r,hr,rfl⟩:=h;have h1:=List.find?_some hr;have h2:=List.mem_of_find?_eq_some hr;simp only[Bool.and_eq_true,beq_iff_eq] at h1;obtain⟨rfl,rfl⟩:=h1;simp only[List.mem_cons,List.not_mem_nil,or_false] at h2;rcases h2 with rfl | rfl | rfl | rfl | rfl | rfl | rfl | rfl | rfl | rfl | rfl | rfl | rfl | rfl | rfl | rfl | rfl | rfl | rfl | rfl | rfl | rfl | rfl <;> first | rfl | (unfold PySem.W.kitOne PySem.W.kitCls PySem.W.subIn;kernel_rfl) | kernel_rfl
def rIsi (K:PySem.W.Frag):List V->Hp->VK->Prop:=fun xs H Q=>∃ x T t b,xs=[x,.ty T]/\TyOf K H x (.type t)/\subT t T=some b/\Q (.bl b) H
theorem call_isi {X:Cx}:CallR X (.builtin "isinstance") (rIsi X.K):=by
 intro pins s σ H xs us Q I rv h;obtain⟨x,T,t,b,rfl,ty,e,q⟩:=h;obtain⟨u,c,rfl,ru,rc⟩:=rv.two;cases rc;exact cZh I ru ty (cZr e) fun tk=>⟨.bl b,H,I.tok tk,rfl,q⟩
end L2
set_option maxHeartbeats 1000000
namespace L2
open PySem PySem.Spec PyProof.Rows
def bXn (ifs:List Expr) (env:Env):Sem Bool:=forIn ifs true fun c r=>if r=true then do let ok <- isTrue c env (eval c env);pure (ForInStep.yield ok) else pure (ForInStep.yield r)
def aZa (target:Expr) (ifs:List Expr) (at0:Pos) (m:Sem Unit) (c:Code) (it:Value) (env:Env):Sem Fin :=
 standAt at0 >>= fun _=>pyNext it >>= fun r=>match r with
  | none=>pure (.done .next)
  | some v=>letOwnedTupleGo target it v >>= fun _=>assign target env v >>= fun _=>bXn ifs env >>= fun ok=>if ok=true then m >>= fun _=>again c else again c
def emitOf (elt:Expr) (acc:Value) (env:Env):Sem Unit:=eval elt env >>= fun x=>call (.builtin "list.append") [acc,x] >>= fun _=>pure ()
theorem aQd (elt target iter:Expr) (ifs:List Expr) (scope:Scope) (pos:Pos) (it acc:Value) (env:Env) :
  compTurn (.ListComp elt [⟨target,iter,ifs,0⟩] scope pos) 0 it acc env=aZa target ifs iter.pos (emitOf elt acc env) (.compLoop (.ListComp elt [⟨target,iter,ifs,0⟩] scope pos) 0 it acc env) it env:=by
 rw[compTurn_list];unfold aZa bXn emitOf;refine congrArg _ (funext fun _=>congrArg _ (funext fun r=>?_));cases r with
 | none=>rfl
 | some v =>
  refine congrArg _ (funext fun _=>congrArg _ (funext fun _=>congrArg _ (funext fun ok=>?_)));cases ok <;> rfl
abbrev TB:=St->Hp->(Hp->Prop)->Prop
def PB (X:Cx) (m:Sem Unit) (t:TB):Prop :=
 ∀ (pins:List (Addr × Obj)) (s:Shared) (σ:St) (H:Hp) (N:Hp->Prop),Inv X pins σ H s->t σ H N ->
  wpAny (model X.prog X.w) X.A m (fun _ s'=>∃ σ' H',Inv X pins σ' H' s'/\Wk σ σ'/\N H') (fun _ _=>False) s
def eXf (D:Addr) (te:TE):TB:=fun σ H N=>te σ H fun y H4=>∃ zs,H4 D=some (.lst zs)/\zs.length < sizeLine/\N (upd H4 D (.lst (zs++[y])))
def cQr (J:It) (σ0:St) (g:TG) (tt:TT) (tb:TB) (Q:Hp->Prop) (H:Hp):Prop :=
 ∃ W:Nat->Nat->Hp->Prop,(∃ m,W 0 m H)/\∀ i m H,W i m H ->
  (J.stop i H/\Q H)\/(J.go i H/\∃ N:Hp->Prop,(∀ H',N H'->∃ m',m' < m/\W (i + 1) m' H') /\
   ∀ x H',J.yld i H x H'->g x σ0 H' fun σ2 H2=>Wk σ0 σ2/\tt σ2 H2 fun b H3=>if b=true then tb σ2 H3 N else N H3)
def bJf (is:List (Option Nat)) (wi:TI) (g:TG) (tt:TT) (tb:Addr->TB):TE:=fun σ H Q=>wi σ H fun J H1=>∀ D,H1 D=none->cQr J (capt is σ) g tt (tb D) (Q (.ref D)) (upd H1 D (.lst []))
theorem Wk.refl (σ:St):Wk σ σ:=⟨rfl,fun _ _ h=>h⟩
theorem Wk.trans {a b c:St} (h:Wk a b) (k:Wk b c):Wk a c:=⟨k.1.trans h.1,fun j v e=>k.2 j v (h.2 j v e)⟩
theorem dJ2 {σ:St} {i:Nat} {v:V} (h:σ[i]?=some none):Wk σ (σ.set i (some v)):=by
 refine⟨List.length_set,fun j u e=>?_⟩
 by_cases hj:j=i
 ·subst hj;rw[h] at e;cases e
 ·rw[List.getElem?_set_ne (Ne.symm hj)];exact e
section
variable {X:Cx}
theorem aQk {elt:Expr} {te:TE} {D:Addr} (hxe:X.xe=fun _ _=>False) (he:PE X elt te):PB X (emitOf elt (.ref D) X.env) (eXf D te):=by
 intro pins s σ H N I h;unfold emitOf;have h1:=he pins s σ H _ I h;rw[hxe] at h1;refine wpAny_bind (thn h1 fun y s1 ⟨v,H1,I1,r1,zs,hz,hlt,n⟩=>wpAny_bind ?_);have h2:=bZu pins s1 σ H1 (.ref D) [v] (.ref D) [y] (fun u Hx=>u=.non/\N Hx) I1 rfl (.cons r1 .nil) ⟨D,zs,v,rfl,rfl,hz,hlt,rfl,n⟩;rw[hxe] at h2;exact thn h2 fun _ s2 ⟨u,H2,I2,_,_,n2⟩=>wpAny_pure ⟨σ,H2,I2,Wk.refl σ,n2⟩
theorem bJg {e target:Expr} {ifs:List Expr} {at0:Pos} {d:Nat} {acc:Value} {it:Addr} {m:Sem Unit} {g:TG} {tt:TT} {tb:TB} {J:It} {fp:List Addr} {tn:Nat->Heap->Prop} {Q:Hp->Prop} {R:Result->Shared->Prop} {pins:List (Addr × Obj)} {s:Shared} {σ:St} {H:Hp}
  (hcalm:X.calm=true) (hxe:X.xe=fun _ _=>False) (hturn:compTurn e d (.ref it) acc X.env=aZa target ifs at0 m (.compLoop e d (.ref it) acc X.env) (.ref it) X.env)
  (hfr:(Code.compLoop e d (.ref it) acc X.env).isFrame=false) (hA:X.A.under (Code.compLoop e d (.ref it) acc X.env)=X.A)
  (T:Turn X.prog X.w X.K target J fp it tn) (hg:PG X target g) (ht:PTs X ifs tt) (hb:PB X m tb)
  (I:Inv X pins σ H s) (st:tn 0 s.heap) (f:∀ b∈fp,FpOk X pins H b) (h:cQr J σ g tt tb Q H)
  (fin:∀ H' s',Inv X pins σ H' s'->(∀ b∈fp,FpOk X pins H' b)->Q H'->R (.ok .next) s') :
  codeAny (model X.prog X.w) X.A (.compLoop e d (.ref it) acc X.env) R s:=by
 obtain⟨W,⟨m0,w0⟩,turn⟩:=h;have stat:∀ {H':Hp},(∀ b∈fp,H' b=none)->∀ b∈fp,FpOk X pins H' b:=fun hn b hb=>⟨hn b hb,(f b hb).2⟩;refine codeAny_loop rfl (fun n s'=>∃ i H',Inv X pins σ H' s'/\tn i s'.heap/\(∀ b∈fp,H' b=none)/\W i n H') ?_ m0 ⟨0,H,I,st,fun b hb=>(f b hb).1,w0⟩;rintro n s3 ⟨i,H3,I3,st3,fr3,w3⟩;have eden:(model X.prog X.w).den (.compLoop e d (.ref it) acc X.env)=(compTurn e d (.ref it) acc X.env).onRaise (fun x=>do noteFrame x X.env;theTreesLotGoes x):=by
  show(if (Code.compLoop e d (.ref it) acc X.env).isFrame=true then _ else _)=_
  rw[hfr];rfl
 rw[eden,hturn,hA];refine wpAny_noted ?_;unfold aZa;refine wpAny_bind (wpAny_standAt ?_);rcases turn i n H3 w3 with⟨stop,qn⟩ | ⟨go,N,hN,step⟩
 ·refine wpAny_bind (thn (T.done X rfl rfl rfl hcalm i pins s3 σ H3 _ I3 (stat fr3) st3 stop) fun r s4 ⟨hr,I4⟩=>?_);subst hr;exact wpAny_pure (fin H3 s4 I4 (stat fr3) qn)
 ·refine wpAny_bind (thn (T.item X rfl rfl rfl hcalm i pins s3 σ H3 _ I3 (stat fr3) st3 go) fun r s4 ⟨u,hr,h4⟩=>?_);subst hr;refine wpAny_bind (thn h4 fun _ s5 ⟨x,H5,I5,r5,y5,st5,fr5⟩=>?_);have I5':=I5.pinned (stat fr5) (T.obj _ _ st5);have q5:=hg _ s5 σ H5 x u _ I5' r5 (step x H5 y5);rw[hxe] at q5;refine wpAny_bind (wpAny_mono q5 (fun _ s6 ⟨σ6,H6,I6,wk6,q6⟩=>?_) fun _ _ z=>z.elim);have q7:=ht _ s6 σ6 H6 _ I6 q6;rw[hxe] at q7;refine wpAny_bind (wpAny_mono q7 (fun ok s7 ⟨H7,I7,q7⟩=>?_) fun _ _ z=>z.elim);have again':∀ {σ8:St} {H8:Hp} {s8:Shared},Inv X (pins++bZn fp s5.heap) σ8 H8 s8->Wk σ σ8->N H8->∃ m,m < n/\∃ i H',Inv X pins σ H' s8/\tn i s8.heap/\(∀ b∈fp,H' b=none)/\W i m H':=fun {σ8 H8 s8} I8 wk n8=>by
   obtain⟨m',hm,w8⟩:=hN H8 n8;refine⟨m',hm,i + 1,H8,I8.unpinned.weak wk.1.symm wk.2,T.keep _ _ _ st5 fun b hb o e=>(I8.pin (b,o) (List.mem_append_right _ (List.mem_append_right _ (aZz hb e)))).1,fun b hb=>?_,w8⟩;obtain⟨o,e,_⟩:=T.obj _ _ st5 b hb;exact(I8.pin (b,o) (List.mem_append_right _ (List.mem_append_right _ (aZz hb e)))).2.1
  cases ok with
  | false=>exact wpAny_pure ⟨rfl,again' I7 wk6 q7⟩
  | true =>
   refine wpAny_bind (wpAny_mono (hb _ s7 σ6 H7 N I7 q7) (fun _ s8 ⟨σ8,H8,I8,wk8,n8⟩=>?_) fun _ _ z=>z.elim);exact wpAny_pure ⟨rfl,again' I8 (wk6.trans wk8) n8⟩
end
section
variable {X:Cx}
end
theorem aXt (env:Env):∀ (names:List (Str × NameKind)) (acc:List (Str × Addr)),(∀ x,(x,NameKind.free)∈names->∃ c,env.cells.lookup x=some c) ->
  ∃ cl,(forIn names acc fun(y:Str × NameKind) (cs:List (Str × Addr))=>(if (y.2 == NameKind.free)=true then do let a <- cellOf env y.1;pure (ForInStep.yield ((y.1,a)::cs)) else pure (ForInStep.yield cs):Sem (ForInStep (List (Str × Addr)))))=pure cl /\
   (∀ x c,cl.lookup x=some c->(x,NameKind.free)∈names\/acc.lookup x=some c)
 | [],acc,_=>⟨acc,by rfl,fun _ _ h=>.inr h⟩
 | (n,k)::rest,acc,hn=>by
  by_cases hk:(k == NameKind.free)=true
  ·have hk':k=NameKind.free:=by cases k <;> first | rfl | cases hk
   subst hk';obtain⟨c,hc⟩:=hn n List.mem_cons_self;obtain⟨cl,e,h1⟩:=aXt env rest ((n,c)::acc) (fun x hx=>hn x (List.mem_cons_of_mem _ hx));refine⟨cl,?_,fun x d hx=>?_⟩
   ·rw[List.forIn_cons];have ec:cellOf env n=pure c:=by unfold cellOf;rw[hc]
    simp only[hk,if_true,ec,pure_bind];exact e
   ·rcases h1 x d hx with z | z
    ·exact .inl (List.mem_cons_of_mem _ z)
    ·simp only[List.lookup_cons] at z;cases hxn:x == n with
     | true=>rw[eq_of_beq hxn];exact .inl List.mem_cons_self
     | false=>rw[hxn] at z;exact .inr z
  ·obtain⟨cl,e,h1⟩:=aXt env rest acc (fun x hx=>hn x (List.mem_cons_of_mem _ hx));refine⟨cl,?_,fun x d hx=>?_⟩
   ·rw[List.forIn_cons];simp only[hk,if_false,pure_bind,Bool.false_eq_true];exact e
   ·rcases h1 x d hx with z | z
    ·exact .inl (List.mem_cons_of_mem _ z)
    ·exact .inr z
theorem aX3 {env:Env} {scope:Scope} (hn:∀ x,(x,NameKind.free)∈scope.names->∃ c,env.cells.lookup x=some c) :
  ∃ cl,closureFor scope env=pure cl/\(∀ x c,cl.lookup x=some c->env.cells.lookup x=some c)/\(∀ x,(x,NameKind.free)∈scope.names->(cl.lookup x).isSome=true)/\∀ x c,cl.lookup x=some c->(x,NameKind.free)∈scope.names:=by
 obtain⟨cl,e,h1,h2⟩:=aXr env scope.names [] hn (fun x c h=>by cases h)
 obtain⟨cl',e',h3⟩:=aXt env scope.names [] hn;have ee:cl=cl':=by
  have:=e.symm.trans e'
  injection this
 subst ee;refine⟨cl,?_,h1,fun x hx=>h2 x (.inl hx),fun x c hx=>(h3 x c hx).elim id fun z=>by cases z⟩
 have q:closureFor scope env=(forIn scope.names ([]:List (Str × Addr)) fun(y:Str × NameKind) (cs:List (Str × Addr))=>(if (y.2 == NameKind.free)=true then do let a <- cellOf env y.1;pure (ForInStep.yield ((y.1,a)::cs)) else pure (ForInStep.yield cs):Sem (ForInStep (List (Str × Addr))))):=by
  unfold closureFor;exact bind_pure _
 rw[q,e]
def ocl (oc:Option Str) (c:Addr) (cl:List (Str × Addr)):List (Str × Addr):=match oc with
 | none=>cl
 | some x=>(x,c)::cl
def ohp (oc:Option Str) (h:Heap):Heap:=match oc with
 | none=>h
 | some _=>h.push { cls:=.type "cell",data:=.cell none }
theorem aJg {oc:Option Str} {c d:Addr} {cl:List (Str × Addr)} {x:Str} (h:(ocl oc c cl).lookup x=some d):(oc=some x/\d=c)\/cl.lookup x=some d:=by
 cases oc with
 | none=>exact .inr h
 | some z =>
  unfold ocl at h;simp only[List.lookup_cons] at h;cases hx:x == z with
  | true=>rw[hx] at h;cases h;rw[eq_of_beq hx];exact .inl ⟨rfl,rfl⟩
  | false=>rw[hx] at h;exact .inr h
theorem bJh {oc:Option Str} {c:Addr} {cl:List (Str × Addr)} {x:Str} (h:(cl.lookup x).isSome=true):∃ d,(ocl oc c cl).lookup x=some d:=by
 cases oc with
 | none=>exact Option.isSome_iff_exists.mp h
 | some z =>
  unfold ocl;simp only[List.lookup_cons];cases hx:x == z with
  | true=>exact⟨_,rfl⟩
  | false=>exact Option.isSome_iff_exists.mp h
theorem dJ3 {c:Addr} {cl:List (Str × Addr)} {x:Str}:(ocl (some x) c cl).lookup x=some c:=by unfold ocl;simp
theorem aJ6 {oc:Option Str} {h:Heap} {b:Addr} {o:Obj} (e:h.get? b=some o):(ohp oc h).get? b=some o:=by
 cases oc with
 | none=>exact e
 | some _=>exact Heap.get?_push_of_some _ e
def aQ8 (X:Cx) (N':List Str) (scope:Scope) (cl:List (Str × Addr)) (C:Addr) (fp:List Addr) (s:Shared) (H:Hp) (oc:Option Str):Cx :=
 { X with N:=N',s₀:=s,H₀:=H,env:=compEnvC scope cl C X.env,outer:=X.stack,ex:=fp,fn:=fun x=>decide (oc=some x),pn:=[],xe:=fun _ _=>False }
theorem cZs {scope:Scope} {env:Env} {cl:List (Str × Addr)} {M:Model} {A:Around} {E:Value->Shared->Prop} {s:Shared} {Q:Env->Shared->Prop}
  (h:Q { scope:=scope,locals:=s.heap.objs.size,globals:=env.globals,cells:=cellsFrom (s.heap.objs.size + 1) scope.names cl,qual:=env.qual,func:=none,code:=env.code,frame:=env.frame,builtins:=env.builtins } { s with heap:=pushCells (s.heap.push { cls:=.type "dict",data:=.dict #[] }) scope.names }) :
  wpAny M A (newFunctionEnv scope env.globals cl [] env.qual none .none (some env)) Q E s:=by
 unfold newFunctionEnv;simp only[Option.isSome_some,if_true];refine wpAny_bind (wpAny_alloc ?_);refine wpAny_bind (wpAny_layCells _ (fun name kind cells=>by cases hkc:kind == NameKind.cell <;> simp[hkc]) _ _ _ _ ?_)
 rw[show({ s with heap:=s.heap.push { cls:=.type "dict",data:=.dict #[] } }:Shared).heap.objs.size=s.heap.objs.size + 1 from Heap.size_push ..]
 exact wpAny_bind (wpAny_pure (wpAny_pure h))
section
variable {X:Cx} {pins:List (Addr × Obj)} {σ:St} {H H':Hp} {s s2:Shared}
theorem bQc {N':List Str} {scope:Scope} {cl:List (Str × Addr)} {fp:List Addr} {oc:Option Str} (I:Inv X pins σ H s) (hf:∀ b∈fp,FpOk X pins H b) (hfl:∀ b∈fp,b < s.heap.objs.size) (hkind:scope.kind=.function)
  (c1:∀ x c,cl.lookup x=some c->X.env.cells.lookup x=some c) (c2:∀ x,(x,NameKind.free)∈scope.names->(cl.lookup x).isSome=true) (hcell:∀ y∈scope.names,y.2=.cell->oc=some y.1) (hun:∀ x,oc=some x->cl.lookup x=none) :
  (aQ8 X N' scope (ocl oc (s.heap.objs.size + 1) cl) s.heap.objs.size fp s H oc).Ok where
 mod:=I.ok.mod
 kind:=hkind
 glob:=I.ok.glob
 blt:=I.ok.blt
 above:=Nat.le_refl _
 inj:=fun x y c h1 h2=>by
  have old:∀ z,cl.lookup z=some (s.heap.objs.size + 1)->False:=fun z e=>by
   obtain⟨v,q⟩:=I.cell z _ (c1 z _ e);exact absurd (show s.heap.objs.size + 1 < s.heap.objs.size from q.lt) (Nat.not_lt.mpr (Nat.le_succ _))
  rcases aJg h1 with⟨e1,rfl⟩ | e1 <;> rcases aJg h2 with⟨e2,e⟩ | e2
  ·rw[e1] at e2;exact Option.some.inj e2
  ·exact(old y e2).elim
  ·subst e;exact(old x e1).elim
  ·exact I.ok.inj x y c (c1 x c e1) (c1 y c e2)
 has:=fun x hx=>by
  have hx':scope.names.lookup x=some .cell\/scope.names.lookup x=some .free:=aXs (sc:=scope) hx;rcases hx' with hx' | hx'
  ·have e:=hcell _ (aJe hx') rfl;subst e;exact⟨_,dJ3⟩
  ·exact bJh (c2 x (aJe hx'))
 cab:=fun x c h hc=>by
  have h':oc=some x:=of_decide_eq_true h;rcases aJg hc with⟨_,rfl⟩ | e
  ·exact Nat.le_succ _
  ·rw[hun x h'] at e;cases e
 hd:=I.ok.hd
 frames:=I.ok.frames
 stk:=.inl rfl
 exf:=fun b hb=>⟨Nat.ne_of_lt (hfl b hb),fun x c e=>by
  rcases aJg e with⟨_,rfl⟩ | e
  ·intro z;exact absurd (show s.heap.objs.size + 1 < s.heap.objs.size from z ▸ hfl b hb) (Nat.not_lt.mpr (Nat.le_succ _))
  ·exact(hf b hb).2.2.2.2.1 x c (c1 x c e)⟩
 bs:=I.bs
 bsz:=Nat.le_trans I.ok.bsz I.sz
 noex:=fun b o e hb=>by
  rcases(hf b hb).2.2.2.1 with z | z
  ·exact I.ok.noex b o e z
  ·have q:=I.ok.bs b o e;exact absurd (Nat.lt_of_lt_of_le (Heap.lt_size q.1) z) (Nat.lt_irrefl _)
 exfs:=fun b hb z=>by
  rcases List.mem_cons.mp (I.stkSub b z) with e | e
  ·exact(hf b hb).2.1 e
  ·exact(hf b hb).2.2.1 e
 funs:=I.stack
 frf:=I.stkFree
theorem aJh {N':List Str} {is:List (Option Nat)} {scope:Scope} {cl:List (Str × Addr)} {fp:List Addr} {oc:Option Str} (I:Inv X pins σ H s) (ok:(aQ8 X N' scope (ocl oc (s.heap.objs.size + 1) cl) s.heap.objs.size fp s H oc).Ok) (hN:X.N.Nodup)
  (c1:∀ x c,cl.lookup x=some c->X.env.cells.lookup x=some c) (c2:∀ x,(x,NameKind.free)∈scope.names->(cl.lookup x).isSome=true) (hu:∀ x,(x,NameKind.free)∈scope.names->scope.names.lookup x=some .free) (cp:Cap X.N scope N' is)
  (hV:∀ x,(x,NameKind.free)∈scope.names->Vis X.env.scope x/\X.env.scope.names.lookup x≠some .local) (hun:∀ x,oc=some x->cl.lookup x=none) :
  Inv (aQ8 X N' scope (ocl oc (s.heap.objs.size + 1) cl) s.heap.objs.size fp s H oc) [] (capt is σ) H { s with heap:=ohp oc (s.heap.push { cls:=.type "dict",data:=.dict #[] }) }:=by
 have kp:∀ b o,s.heap.get? b=some o->(ohp oc (s.heap.push { cls:=.type "dict",data:=.dict #[] })).get? b=some o:=fun b o e=>aJ6 (Heap.get?_push_of_some _ e);exact {
 ok:=ok
 os:=rfl
 bare:=I.bare
 base:=Un.kept kp
 loc:=by
  refine⟨_,(Heap.Ns.new s.heap (.type "dict")).keeps fun b o e=>aJ6 e,fun j x v e1 e2 e3=>?_⟩;have e1':N'[j]?=some x:=e1;unfold capt at e2;rw[List.getElem?_map] at e2;cases hi:is[j]? with
  | none=>rw[hi] at e2;cases e2
  | some o =>
   rw[hi] at e2;cases o with
   | none=>cases e2
   | some i =>
    obtain⟨hx,hfree⟩:=cp.get e1' hi;have e2':(σ[i]?).join=some v:=Option.some.inj e2;have e4:σ[i]?=some (some v):=by
     cases q:σ[i]? with
     | none=>rw[q] at e2';cases e2'
     | some z=>rw[q] at e2';cases z with
      | none=>cases e2'
      | some z=>cases e2';rfl
    obtain⟨m,hn,hl⟩:=I.loc;obtain⟨hvis,hnl⟩:=hV x hfree;obtain⟨u,r,l⟩:=hl i x v hx e4 hvis;refine⟨u,r,.inr ⟨aZr (sc:=scope) (.inr (hu x hfree)),?_⟩⟩;rcases l with⟨k,_⟩ | ⟨k,c,e,z⟩
    ·exact absurd k hnl
    ·obtain⟨c',e'⟩:=bJh (oc:=oc) (c:=s.heap.objs.size + 1) (c2 x hfree);have ee:c'=c:=by
      rcases aJg e' with⟨z1,_⟩ | z1
      ·have:=c2 x hfree;rw[hun x z1] at this;cases this
      ·have:=c1 x c' z1;rw[e] at this;exact(Option.some.inj this).symm
     subst ee;obtain⟨oc',hoc,hd⟩:=z;exact⟨c',e',oc',kp c' oc' hoc,hd⟩
 cell:=fun x c e=>by
  rcases aJg (show(ocl oc (s.heap.objs.size + 1) cl).lookup x=some c from e) with⟨z,rfl⟩ | e
  ·subst z;refine⟨none,{ cls:=.type "cell",data:=.cell none },?_,rfl⟩;show((s.heap.push _).push _).get? _=_;rw[<- Heap.size_push s.heap { cls:=.type "dict",data:=.dict #[] }];exact Heap.get?_push_size _ rfl
  ·obtain⟨v,o,ho,hd⟩:=I.cell x c (c1 x c e);exact⟨v,o,kp c o ho,hd⟩
 free:=I.hok.fresh (Nat.le_refl _)
 freeC:=fun x c e=>by
  rcases aJg (show(ocl oc (s.heap.objs.size + 1) cl).lookup x=some c from e) with⟨z,rfl⟩ | e
  ·exact I.hok.fresh (Nat.le_succ _)
  ·exact I.freeC x c (c1 x c e)
 pin:=fun p hp=>absurd (show p∈([]:List (Addr × Obj)) from hp) (by simp)
 hok:=I.hok.kept kp
 len:=by
  show(capt is σ).length=N'.length;unfold capt;rw[List.length_map,cp.length] }
def FrC (X:Cx) (pins:List (Addr × Obj)) (C:Addr) (H:Hp):Prop:=H C=none/\C≠X.env.locals/\X.s₀.heap.objs.size<=C/\(∀ x c,X.env.cells.lookup x=some c->c≠C)/\∀ p∈X.pn++pins,p.1≠C
theorem FrC.gone {C:Addr} {h':Heap} (f:FrC X pins C H) (I:Inv X pins σ H s) (sb:Heap.SameBut C s.heap h'):Inv X pins σ H { s with heap:=h' } :=
 I.turned (t':=s.toks) (fun b o hb e=>(sb.2 b hb).trans e) f.1 f.2.1 (.inr f.2.2.1) f.2.2.2.1 f.2.2.2.2
theorem comp_gen {elt target iter:Expr} {ifs:List Expr} {gs:List Comprehension} {scope:Scope} {pos:Pos} {N':List Str} {is:List (Option Nat)} {wi:TI} {g:TG} {tt:TT} {tb:Addr->TB} {oc:Option Str} {m:Value->Env->Sem Unit} (hcalm:X.calm=true) (hN:X.N.Nodup)
  (hturn:∀ it acc env,compTurn (.ListComp elt (⟨target,iter,ifs,0⟩::gs) scope pos) 0 it acc env=aZa target ifs iter.pos (m acc env) (.compLoop (.ListComp elt (⟨target,iter,ifs,0⟩::gs) scope pos) 0 it acc env) it env)
  (cp:Cap X.N scope N' is) (hi:PI X target iter wi)
  (hg:∀ cl C fp s H,PG (aQ8 X N' scope cl C fp s H oc) target g) (ht:∀ cl C fp s H,PTs (aQ8 X N' scope cl C fp s H oc) ifs tt) (hb:∀ cl C fp s H D,PB (aQ8 X N' scope cl C fp s H oc) (m (.ref D) (compEnvC scope cl C X.env)) (tb D))
  (hcf:∀ n acc,cellsFrom n scope.names acc=ocl oc n acc) (hpc:∀ h,pushCells h scope.names=ohp oc h)
  (hkind:scope.kind=.function) (hcell:∀ y∈scope.names,y.2=.cell->oc=some y.1)
  (hu:∀ y∈scope.names,scope.names.lookup y.1=some y.2) (hoc:∀ x,oc=some x->scope.names.lookup x=some .cell)
  (hVb:okV scope.names X.env.scope.names=true)
  (hs:∀ x,foldedSetIterable iter X.env x=pure x)
  {use:Option (Value->Sem Unit)} {Q:VK} {Qv:Value->Shared->Prop} (I:Inv X pins σ H s) (h:bJf is wi g tt tb σ H Q)
  (fin:∀ D C H5 s6,Inv X pins σ H5 s6->(∃ m,s6.heap.Ns C m)->FrC X pins C H5->Q (.ref D) H5->compPost (model X.prog X.w) X.A X.xe use Qv (.ref D) C (.ok .next) s6) :
  wpAny (model X.prog X.w) X.A (comprehension (.ListComp elt (⟨target,iter,ifs,0⟩::gs) scope pos) scope X.env (firstIterPos (⟨target,iter,ifs,0⟩::gs) pos) (newList []) (firstAsync (⟨target,iter,ifs,0⟩::gs)) (firstIter (⟨target,iter,ifs,0⟩::gs) X.env) use) Qv X.xe s:=by
 have hV:=dZl hVb;have hV':∀ x,(x,NameKind.free)∈scope.names->Vis X.env.scope x/\X.env.scope.names.lookup x≠some .local:=fun x hx=>hV (x,.free) hx rfl;have hu':∀ x,(x,NameKind.free)∈scope.names->scope.names.lookup x=some .free:=fun x hx=>hu (x,.free) hx;have hnames:∀ x∈scope.names,x.2=.local->scope.names.lookup x.1=some .local:=fun x hx hl=>by rw[hu x hx,hl]
 obtain⟨cl,hclos,c1,c2,c3⟩:=aX3 (env:=X.env) (scope:=scope) fun x hx=>I.ok.has x (by
  obtain⟨v,n⟩:=hV' x hx;rcases v with v | v | v
  ·exact absurd v n
  ·exact .inl v
  ·exact .inr v)
 have hun:∀ x,oc=some x->cl.lookup x=none:=fun x hx=>by
  cases e:cl.lookup x with
  | none=>rfl
  | some c =>
   have:=hu' x (c3 x c e)
   rw[hoc x hx] at this;cases this
 refine wpAny_comprehension_free (use:=use) rfl hs hclos hkind hnames (thn (hi pins s σ H _ I h) fun v s1 h1=>thn h1 fun itv s2 h2=>?_);obtain⟨it,fp,tn,J,H2,rfl,I2,T,st2,f2,q2⟩:=h2;refine wpAny_newObj_type ?_;have hD:H2 s2.heap.objs.size=none:=I2.hok.fresh (Nat.le_refl _);have fpl:∀ b∈fp,b < s2.heap.objs.size:=fun b hb=>by obtain⟨o,e,_⟩:=T.obj _ _ st2 b hb;exact Heap.lt_size e
 have I3:Inv X pins σ (upd H2 s2.heap.objs.size (.lst [])) { s2 with heap:=s2.heap.push { cls:=.type "list",dict:=none,data:=.seq ([]:List Value).toArray } } :=
  I2.laid (t':=s2.toks) (fun b u e=>Heap.get?_push_of_some _ e) (Nat.le_refl _) ⟨Nat.zero_le _,[],0,.nil,Heap.get?_push_size _ rfl⟩
 have st3:tn 0 (s2.heap.push { cls:=.type "list",dict:=none,data:=.seq ([]:List Value).toArray }):=T.keep _ _ _ st2 fun b hb o e=>Heap.get?_push_of_some _ e;have f3:∀ b∈fp,FpOk X pins (upd H2 s2.heap.objs.size (.lst [])) b:=fun b hb=>⟨by rw[upd_ne (Nat.ne_of_lt (fpl b hb))];exact(f2 b hb).1,(f2 b hb).2⟩
 have fpl3:∀ b∈fp,b < (s2.heap.push { cls:=.type "list",dict:=none,data:=.seq ([]:List Value).toArray }).objs.size:=fun b hb=>by rw[Heap.size_push];exact Nat.lt_succ_of_lt (fpl b hb)
 have q3:=q2 _ hD;generalize hDe:s2.heap.objs.size=D at *
 generalize hs3:({ s2 with heap:=s2.heap.push { cls:=.type "list",dict:=none,data:=.seq ([]:List Value).toArray } }:Shared)=s3 at *
 have hsh:s3.heap=s2.heap.push { cls:=.type "list",dict:=none,data:=.seq ([]:List Value).toArray }:=by rw[<- hs3]
 rw[<- hsh] at st3 fpl3;have ok:=bQc (N':=N') (cl:=cl) (oc:=oc) I3 f3 fpl3 hkind c1 c2 hcell hun;have I4:=aJh I3 ok hN c1 c2 hu' cp hV' hun;refine cZs ?_;rw[hcf,hpc];have kp:∀ b o,s3.heap.get? b=some o->(ohp oc (s3.heap.push { cls:=.type "dict",data:=.dict #[] })).get? b=some o:=fun b o e=>aJ6 (Heap.get?_push_of_some _ e);have st4:tn 0 (ohp oc (s3.heap.push { cls:=.type "dict",data:=.dict #[] })):=T.keep _ _ _ st3 fun b _ o e=>kp b o e;have f4:∀ b∈fp,FpOk (aQ8 X N' scope (ocl oc (s3.heap.objs.size + 1) cl) s3.heap.objs.size fp s3 (upd H2 D (.lst [])) oc) [] (upd H2 D (.lst [])) b:=fun b hb =>
  ⟨(f3 b hb).1,(ok.exf b hb).1,ok.exfs b hb,.inl hb,(ok.exf b hb).2,fun p hp=>absurd (show p∈([]:List (Addr × Obj)) from hp) (by simp)⟩
 have loop:=bJg (X:=aQ8 X N' scope (ocl oc (s3.heap.objs.size + 1) cl) s3.heap.objs.size fp s3 (upd H2 D (.lst [])) oc) (e:=.ListComp elt (⟨target,iter,ifs,0⟩::gs) scope pos) (d:=0) (acc:=.ref D)
  (R:=compPost (model X.prog X.w) X.A X.xe use Qv (.ref D) s3.heap.objs.size) hcalm rfl (hturn _ _ _) rfl rfl T (hg _ _ _ _ _) (ht _ _ _ _ _) (hb _ _ _ _ _ D) I4 st4 f4 q3 (by
   intro H5 s6 I6 _ qn;obtain⟨m6,n6,_⟩:=id I6.loc;have un:Un (frs X.stack) fp (upd H2 D (.lst [])) H5 s3.heap s6.heap:=I6.base;have hok':HOk X.prog X.w H5 s6.heap:=I6.hok;refine fin D s3.heap.objs.size H5 s6 (I3.call' (s':=s6) (ch:=fp) I6.os un hok' I6.bare fun b hb=>⟨(f3 b hb).2.2.2.1,(f3 b hb).2.1,(f3 b hb).2.2.2.2.1,(f3 b hb).2.2.2.2.2⟩) ⟨m6,n6⟩ ⟨I6.free,Nat.ne_of_gt I3.lt,I3.sz,fun x c e z=>?_,fun p hp z=>?_⟩ qn
   ·obtain⟨v,q⟩:=I3.cell x c e;exact absurd q.lt (by rw[z];exact Nat.lt_irrefl _)
   ·exact absurd (Heap.lt_size (I3.pin p hp).1) (by rw[z];exact Nat.lt_irrefl _))
 exact codeAny_compStart_list loop (T.self _ 0 _ _ _ st4 loop)
theorem dQ7 {elt target iter:Expr} {ifs:List Expr} {gs:List Comprehension} {scope:Scope} {pos:Pos} {N':List Str} {is:List (Option Nat)} {wi:TI} {g:TG} {tt:TT} {tb:Addr->TB} {oc:Option Str} {m:Value->Env->Sem Unit} (hcalm:X.calm=true) (hN:X.N.Nodup)
  (hturn:∀ it acc env,compTurn (.ListComp elt (⟨target,iter,ifs,0⟩::gs) scope pos) 0 it acc env=aZa target ifs iter.pos (m acc env) (.compLoop (.ListComp elt (⟨target,iter,ifs,0⟩::gs) scope pos) 0 it acc env) it env)
  (cp:Cap X.N scope N' is) (hi:PI X target iter wi)
  (hg:∀ cl C fp s H,PG (aQ8 X N' scope cl C fp s H oc) target g) (ht:∀ cl C fp s H,PTs (aQ8 X N' scope cl C fp s H oc) ifs tt) (hb:∀ cl C fp s H D,PB (aQ8 X N' scope cl C fp s H oc) (m (.ref D) (compEnvC scope cl C X.env)) (tb D))
  (hcf:∀ n acc,cellsFrom n scope.names acc=ocl oc n acc:=by intro _ _;rfl) (hpc:∀ h,pushCells h scope.names=ohp oc h:=by intro _;rfl)
  (hkind:scope.kind=.function:=by rfl) (hcell:∀ y∈scope.names,y.2=.cell->oc=some y.1:=by decide +kernel)
  (hu:∀ y∈scope.names,scope.names.lookup y.1=some y.2:=by decide +kernel) (hoc:∀ x,oc=some x->scope.names.lookup x=some .cell:=by intro x h;cases h <;> rfl)
  (hVb:okV scope.names X.env.scope.names=true:=by first | rfl | kernel_rfl)
  (hs:∀ x,foldedSetIterable iter X.env x=pure x:=by intro _;rfl) :
  PE X (.ListComp elt (⟨target,iter,ifs,0⟩::gs) scope pos) (bJf is wi g tt tb):=by
 intro pins s σ H Q I h;rw[eval_ListComp];refine comp_gen hcalm hN hturn cp hi hg ht hb hcf hpc hkind hcell hu hoc hVb hs I h fun D C H5 s6 I6 ⟨m,n⟩ fc qn=>?_;exact⟨m,n,fun h' sb=>⟨.ref D,H5,fc.gone I6 sb,rfl,qn⟩⟩
theorem dJ4 {x:Str} {i:Nat} {pos' spos:Pos} (hix:X.N[i]?=some x) (hx:Loc X.env.scope x) {elt target iter:Expr} {ifs:List Expr} {gs:List Comprehension} {scope:Scope} {pos:Pos} {N':List Str} {is:List (Option Nat)} {wi:TI} {g:TG} {tt:TT} {tb:Addr->TB} {oc:Option Str} {m:Value->Env->Sem Unit} (hcalm:X.calm=true) (hN:X.N.Nodup)
  (hturn:∀ it acc env,compTurn (.ListComp elt (⟨target,iter,ifs,0⟩::gs) scope pos) 0 it acc env=aZa target ifs iter.pos (m acc env) (.compLoop (.ListComp elt (⟨target,iter,ifs,0⟩::gs) scope pos) 0 it acc env) it env)
  (cp:Cap X.N scope N' is) (hi:PI X target iter wi)
  (hg:∀ cl C fp s H,PG (aQ8 X N' scope cl C fp s H oc) target g) (ht:∀ cl C fp s H,PTs (aQ8 X N' scope cl C fp s H oc) ifs tt) (hb:∀ cl C fp s H D,PB (aQ8 X N' scope cl C fp s H oc) (m (.ref D) (compEnvC scope cl C X.env)) (tb D))
  (hcf:∀ n acc,cellsFrom n scope.names acc=ocl oc n acc:=by intro _ _;rfl) (hpc:∀ h,pushCells h scope.names=ohp oc h:=by intro _;rfl)
  (hkind:scope.kind=.function:=by rfl) (hcell:∀ y∈scope.names,y.2=.cell->oc=some y.1:=by decide +kernel)
  (hu:∀ y∈scope.names,scope.names.lookup y.1=some y.2:=by decide +kernel) (hoc:∀ x,oc=some x->scope.names.lookup x=some .cell:=by intro x h;cases h <;> rfl)
  (hVb:okV scope.names X.env.scope.names=true:=by first | rfl | kernel_rfl)
  (hs:∀ x,foldedSetIterable iter X.env x=pure x:=by intro _;rfl)
  (hsw:swapsWith (.ListComp elt (⟨target,iter,ifs,0⟩::gs) scope pos) (some (.Name x pos')) spos.line X.env=pure true:=by first | rfl | kernel_rfl) (hf:X.fn x=true\/X.env.scope.names.lookup x=some .local:=by first | exact .inl rfl | exact .inr rfl | assumption) :
  PS X (.Assign [.Name x pos'] (.ListComp elt (⟨target,iter,ifs,0⟩::gs) scope pos) spos) (tAsg (bJf is wi g tt tb) (bXk i)):=by
 intro pins s σ H D I h;rw[exec_Assign_Name_used _ _ _ _ hsw];refine wpAny_bind (wpAny_standAt (wpAny_bind ?_));show wpAny _ _ (comprehension _ _ _ _ _ _ _ (some _) >>= fun _=>pure ()) _ _ _;refine wpAny_bind (comp_gen (Qv:=fun _ s'=>wpAny (model X.prog X.w) X.A (pure ()) _ X.xe s') hcalm hN hturn cp hi hg ht hb hcf hpc hkind hcell hu hoc hVb hs I h fun E C H5 s6 I6 ⟨m,n⟩ fc qn=>?_);refine wpAny_assign_Name (bZm I6 hN hix hx (show RelV (.ref E) (.ref E) from rfl) (fun s7 I7 ⟨a,sb,ha⟩=>?_) hf)
 have hca:C≠a:=by
  rintro rfl;rcases ha with z | z
  ·exact fc.2.1 z
  ·exact fc.2.2.2.1 x C z rfl
 refine⟨m,n.sameBut sb hca,fun h' sb'=>wpAny_pure (wpAny_pure ?_)⟩;exact⟨_,H5,fc.gone I7 sb',qn⟩
end
end L2
set_option maxHeartbeats 4000000
namespace L2
open PySem PySem.Spec PyProof.Rows
abbrev Dn (α:Type):=Hp->V->α->Prop
abbrev Fg:=PySem.W.Frag
def dS:Dn Str:=fun _ v x=>v=.str x
def dB:Dn Bool:=fun _ v b=>v=.bl b
def dT {α:Type} (K:Fg) (R:Dn α):Dn (List α):=fun H v ds=>∃ a xs,v=.ref a/\SqT K H a xs/\Paired (R H) xs ds
def dL {α:Type} (K:Fg) (R:Dn α):Dn (List α):=fun H v ds=>∃ a xs,v=.ref a/\SqL K H a xs/\Paired (R H) xs ds
def SameT (H H':Hp):Prop:=∀ a xs,Rd H a (.tup xs)->Rd H' a (.tup xs)
theorem Same.t {H H':Hp} (h:Same H H'):SameT H H':=fun a xs r=>by
 rcases r with r | ⟨o,r⟩
 ·exact .inl (h _ _ r)
 ·exact .inr ⟨o,h _ _ r⟩
theorem aQx {H:Hp} {p:Addr} {o:HO} (h:H p=none):Same H (upd H p o):=fun b o' e=>by
 rw[upd_ne (by rintro rfl;rw[h] at e;cases e)];exact e
theorem SqT.stay {K:Fg} {H H':Hp} {a:Addr} {xs:List V} (h:SqT K H a xs) (s:SameT H H'):SqT K H' a xs:=h.elim (fun r=>.inl (s a xs r)) .inr
class Im {α:Type} (R:Dn α):Prop where
 im:∀ {H H' v d},SameT H H'->R H v d->R H' v d
class Mo {α:Type} (R:Dn α):Prop where
 mo:∀ {H H' v d},Same H H'->R H v d->R H' v d
instance (priority:=low) {α:Type} {R:Dn α} [Im R]:Mo R:=⟨fun s r=>Im.im s.t r⟩
theorem Paired.imp {α β:Type} {F G:α->β->Prop} (h:∀ a b,F a b->G a b):∀ {l:List α} {m:List β},Paired F l m->Paired G l m
 | _,_,.nil=>.nil
 | _,_,.cons p q=>.cons (h _ _ p) (Paired.imp h q)
instance:Im dS:=⟨fun _ h=>h⟩
instance {α:Type} {K:Fg} {R:Dn α} [Im R]:Im (dT K R):=⟨fun s ⟨a,xs,e,q,p⟩=>⟨a,xs,e,q.stay s,Paired.imp (fun _ _ r=>Im.im s r) p⟩⟩
theorem beq_dec {α:Type} [DecidableEq α] [BEq α] [LawfulBEq α] (a b:α):(a == b)=decide (a=b):=by
 by_cases h:a=b
 ·subst h;simp
 ·simp[h]
theorem Paired.get' {α β:Type} {F:α->β->Prop}:∀ {l:List α} {m:List β} {i:Nat} {a:α},Paired F l m->l[i]?=some a->∃ b,m[i]?=some b/\F a b
 | _,_,_,_,.nil,h=>by simp at h
 | _,_,0,_,.cons p _,h=>by simp at h;subst h;exact⟨_,rfl,p⟩
 | _,_,i + 1,a,.cons _ q,h=>by
  obtain⟨b,e,f⟩:=Paired.get' (i:=i) (a:=a) q (by simpa using h)
  exact⟨b,by simpa using e,f⟩
theorem eXg {α:Type} [DecidableEq α]:∀ (ds es:List α),((List.range (min ds.length es.length)).all fun j=>decide (ds[j]?=es[j]?))=true->ds.length=es.length->ds=es:=fun ds es h hl=>by
 apply List.ext_getElem?;intro i
 by_cases hi:i < ds.length
 ·have:=List.all_eq_true.mp h i (List.mem_range.mpr (by lia))
  exact of_decide_eq_true this
 ·rw[List.getElem?_eq_none (by lia),List.getElem?_eq_none (by lia)]
theorem cZt {α:Type} [DecidableEq α] (ds es:List α) (n m:Nat) (hn:n=ds.length) (hm:m=es.length):((List.range (min n m)).all (fun j=>decide (ds[j]?=es[j]?)) && (n == m))=decide (ds=es):=by
 subst hn;subst hm
 by_cases h:ds=es
 ·subst h;simp
 ·rw[decide_eq_false h,Bool.and_eq_false_iff]
  by_cases hl:ds.length=es.length
  ·left
   cases q:(List.range (min ds.length es.length)).all fun j=>decide (ds[j]?=es[j]?) with
   | false=>rfl
   | true=>exact absurd (eXg ds es q hl) h
  ·right;simpa using hl
section
variable {X:Cx} {α:Type} [DecidableEq α] {R:Dn α} {n:Nat}
end
variable {α β γ:Type}
section
variable {σ:St} {H:Hp} {ta tb te:TE} {R:Dn α} {R':Dn β} {R3:Dn γ}
end
section
variable {σ:St} {H:Hp} {tl:TE} {R:Dn α} {R':Dn β} {K:Fg}
end
section
variable {σ:St} {H:Hp} {R:Dn α} {R':Dn β}
end
section
variable {σ:St} {H:Hp} {R:Dn α} {R2:Dn γ} {R':Dn β}
end
end L2
namespace ST
open PySem PySem.SetTable
def step (mask:Nat) (p:Probe):Probe :=
 if p.more > 0 then { p with j:=p.j + 1,more:=p.more - 1 } else
 { p with j:=(leap mask p.i p.perturb).1,more:=runEnd mask (leap mask p.i p.perturb).1 - (leap mask p.i p.perturb).1,i:=(leap mask p.i p.perturb).1,perturb:=(leap mask p.i p.perturb).2 }
theorem bQd (t:SetTable) (p:Probe):t.advance p=step t.mask p:=by
 unfold SetTable.advance step
 split <;> rfl
def road (mask:Nat):Nat->Probe->Probe
 | 0,p=>p
 | m + 1,p=>road mask m (step mask p)
theorem aJi (mask:Nat):∀ (m:Nat) (p:Probe),road mask (m + 1) p=step mask (road mask m p)
 | 0,_=>rfl
 | m + 1,p=>by
  show road mask (m + 1) (step mask p)=step mask (road mask m (step mask p));exact aJi mask m (step mask p)
theorem aQr (mask:Nat):∀ (a b:Nat) (p:Probe),road mask (a + b) p=road mask b (road mask a p)
 | 0,b,p=>by rw[Nat.zero_add];rfl
 | a + 1,b,p=>by
  rw[Nat.add_right_comm];show road mask (a + b) (step mask p)=road mask b (road mask a (step mask p));exact aQr mask a b _
theorem bQe (mask:Nat) (p:Probe):(step mask p).dummy=p.dummy:=by unfold step;split <;> rfl
theorem aJj (mask i:Nat) (h:i<=mask):i<=runEnd mask i/\runEnd mask i<=mask/\runEnd mask i<=i + 9:=by
 unfold runEnd;split <;> lia
structure PV (mask:Nat) (p:Probe):Prop where
 more:p.more<=9
 i:p.i<=mask
 j:p.j + p.more<=mask
 pt:p.perturb < 2 ^ 64
theorem bXo (mask i pt:Nat):(leap mask i pt).1<=mask:=by
 unfold leap
 have:=Nat.mod_lt (i * 5 + 1 + pt / 32) (show 0 < mask + 1 by lia)
 show(i * 5 + 1 + pt / 32) % (mask + 1)<=mask;lia
theorem PV.step {mask:Nat} {p:Probe} (v:PV mask p):PV mask (ST.step mask p):=by
 unfold ST.step;have h1:=v.more;have h2:=v.i;have h3:=v.j;have h4:=v.pt
 split
 ·exact⟨by dsimp only;lia,h2,by dsimp only;lia,h4⟩
 ·have l:=bXo mask p.i p.perturb;have r:=aJj mask _ l;refine⟨by dsimp only;lia,l,by dsimp only;lia,?_⟩
  show p.perturb / 32 < 2 ^ 64;exact Nat.lt_of_le_of_lt (Nat.div_le_self _ _) h4
theorem PV.road {mask:Nat}:∀ (m:Nat) {p:Probe},PV mask p->PV mask (ST.road mask m p)
 | 0,_,v=>v
 | m + 1,_,v=>PV.road m v.step
theorem dJ5 (h:Int):bits h < 2 ^ 64:=by
 unfold bits;have h1:=Int.emod_nonneg h (show(2 ^ 64:Int)≠0 by decide)
 have h2:=Int.emod_lt_of_pos h (show(0:Int) < 2 ^ 64 by decide)
 have:(2:Int) ^ 64=18446744073709551616:=by decide
 have:(2:Nat) ^ 64=18446744073709551616:=by decide
 lia
def start (mask:Nat) (h:Int):Probe:={ j:=bits h % (mask + 1),more:=runEnd mask (bits h % (mask + 1)) - bits h % (mask + 1),i:=bits h % (mask + 1),perturb:=bits h,dummy:=none }
theorem aXi (mask:Nat) (h:Int):PV mask (start mask h):=by
 have l:bits h % (mask + 1)<=mask:=Nat.le_of_lt_succ (Nat.mod_lt _ (Nat.succ_pos mask));have r:=aJj mask _ l;exact⟨by show _ - _<=9;lia,l,by show bits h % (mask + 1) + (runEnd mask (bits h % (mask + 1)) - bits h % (mask + 1))<=mask;lia,dJ5 h⟩
theorem cZu (mask:Nat):∀ (k:Nat) (p:Probe),k<=p.more->road mask k p={ p with j:=p.j + k,more:=p.more - k }
 | 0,p,_=>rfl
 | k + 1,p,h=>by
  show road mask k (step mask p)=_;have e:step mask p={ p with j:=p.j + 1,more:=p.more - 1 }:=by unfold step;rw[if_pos (by lia)]
  rw[e,cZu mask k _ (by show k<=p.more - 1;lia)]
  show({ j:=p.j + 1 + k,more:=p.more - 1 - k,i:=p.i,perturb:=p.perturb,dummy:=p.dummy }:Probe)={ j:=p.j + (k + 1),more:=p.more - (k + 1),i:=p.i,perturb:=p.perturb,dummy:=p.dummy };rw[show p.j + 1 + k=p.j + (k + 1) by lia,show p.more - 1 - k=p.more - (k + 1) by lia]
theorem cZv (mask:Nat) (p:Probe):road mask (p.more + 1) p={ p with j:=(leap mask p.i p.perturb).1,more:=runEnd mask (leap mask p.i p.perturb).1 - (leap mask p.i p.perturb).1,i:=(leap mask p.i p.perturb).1,perturb:=(leap mask p.i p.perturb).2 }:=by
 rw[aJi,cZu mask p.more p (Nat.le_refl _)];unfold step;rw[if_neg (by show ¬ p.more - p.more > 0;lia)]
def aZd (mask:Nat):Nat->Nat × Nat->Nat × Nat
 | 0,s=>s
 | l + 1,s=>aZd mask l (leap mask s.1 s.2)
theorem aZg (mask:Nat):∀ (l:Nat) (s:Nat × Nat),aZd mask (l + 1) s=leap mask (aZd mask l s).1 (aZd mask l s).2
 | 0,_=>rfl
 | l + 1,s=>by
  show aZd mask (l + 1) (leap mask s.1 s.2)=_;exact aZg mask l _
theorem bQt (mask:Nat):∀ (l:Nat) (s:Nat × Nat),(aZd mask l s).2=s.2 / 32 ^ l
 | 0,s=>by simp[aZd]
 | l + 1,s=>by
  rw[aZg];show(aZd mask l s).2 / 32=_;rw[bQt mask l s,Nat.div_div_eq_div_mul,Nat.pow_succ]
theorem far (mask:Nat):∀ (l:Nat) (p:Probe),PV mask p->∃ m,m<=10 * l/\(road mask m p).i=(aZd mask l (p.i,p.perturb)).1/\(road mask m p).perturb=(aZd mask l (p.i,p.perturb)).2/\(0 < l->(road mask m p).j=(road mask m p).i)
 | 0,p,_=>⟨0,Nat.le_refl _,rfl,rfl,fun h=>absurd h (Nat.lt_irrefl _)⟩
 | l + 1,p,v=>by
  obtain⟨m,h1,h2,h3,h4⟩:=far mask l p v;have v':=PV.road m v;refine⟨m + ((road mask m p).more + 1),?_,?_⟩
  ·have:=v'.more;lia
  ·rw[aQr,cZv,aZg,<- h2,<- h3];exact⟨rfl,rfl,fun _=>rfl⟩
def f5 (N x:Nat):Nat:=(x * 5 + 1) % N
def f5s (N:Nat):Nat->Nat->Nat
 | 0,x=>x
 | a + 1,x=>f5s N a (f5 N x)
theorem bQu (N:Nat):∀ (a b x:Nat),f5s N (a + b) x=f5s N b (f5s N a x)
 | 0,b,x=>by rw[Nat.zero_add];rfl
 | a + 1,b,x=>by rw[Nat.add_right_comm];exact bQu N a b _
def dJ6 (N:Nat):Nat->Nat->List Nat->List Nat
 | 0,_,acc=>acc
 | a + 1,x,acc=>dJ6 N a (f5 N x) (x::acc)
theorem bZv (N:Nat):∀ (a x:Nat) (acc:List Nat) (y:Nat),y∈dJ6 N a x acc->y∈acc\/∃ b,b < a/\f5s N b x=y
 | 0,_,_,_,h=>.inl h
 | a + 1,x,acc,y,h=>by
  rcases bZv N a (f5 N x) (x::acc) y h with h | ⟨b,hb,e⟩
  ·rcases List.mem_cons.mp h with h | h
   ·exact .inr ⟨0,Nat.succ_pos _,h.symm⟩
   ·exact .inl h
  ·exact .inr ⟨b + 1,Nat.succ_lt_succ hb,e⟩
def Full (N:Nat):Prop:=f5s N N 0=0/\∀ y,y < N->∃ b,b < N/\f5s N b 0=y
theorem bQv {N:Nat} (h:(f5s N N 0 == 0 && (List.range N).all fun y=>(dJ6 N N 0 []).contains y)=true):Full N:=by
 simp only[Bool.and_eq_true,beq_iff_eq,List.all_eq_true,List.mem_range] at h;refine⟨h.1,fun y hy=>?_⟩;have q:=h.2 y hy;rcases bZv N N 0 [] y (by simpa using q) with z | z
 ·cases z
 ·exact z
theorem Full.from {N:Nat} (F:Full N) {x y:Nat} (hx:x < N) (hy:y < N):∃ a,a < N/\f5s N a x=y:=by
 obtain⟨b,hb,eb⟩:=F.2 x hx;obtain⟨c,hc,ec⟩:=F.2 y hy
 by_cases h:b<=c
 ·refine⟨c - b,by lia,?_⟩
  rw[<- eb,<- bQu,show b + (c - b)=c by lia,ec]
 ·refine⟨N - b + c,by lia,?_⟩
  rw[<- eb,<- bQu,show b + (N - b + c)=N + c by lia,bQu,F.1,ec]
theorem fZh:Full 8:=bQv (by decide +kernel)
theorem eXh:Full 32:=bQv (by decide +kernel)
theorem dJ7:Full 128:=bQv (by decide +kernel)
theorem dJ8:Full 512:=bQv (by decide +kernel)
def Mask (mask:Nat):Prop:=mask=7\/mask=31\/mask=127\/mask=511
theorem Mask.full {mask:Nat} (h:Mask mask):Full (mask + 1):=by
 rcases h with rfl | rfl | rfl | rfl
 ·exact fZh
 ·exact eXh
 ·exact dJ7
 ·exact dJ8
theorem bQw {mask:Nat}:∀ (a:Nat) (s:Nat × Nat),s.2 < 32->(aZd mask a s).1=f5s (mask + 1) a s.1
 | 0,_,_=>rfl
 | a + 1,s,h=>by
  show(aZd mask a (leap mask s.1 s.2)).1=f5s (mask + 1) a (f5 (mask + 1) s.1);have e:s.2 / 32=0:=Nat.div_eq_of_lt h;have e1:(leap mask s.1 s.2).1=f5 (mask + 1) s.1:=by
   show(s.1 * 5 + 1 + s.2 / 32) % (mask + 1)=_;rw[e];rfl
  rw[bQw a _ (by show s.2 / 32 < 32;lia),e1]
theorem aJk (mask:Nat):∀ (a b:Nat) (s:Nat × Nat),aZd mask (a + b) s=aZd mask b (aZd mask a s)
 | 0,b,s=>by rw[Nat.zero_add];rfl
 | a + 1,b,s=>by rw[Nat.add_right_comm];exact aJk mask a b _
theorem eXi {mask:Nat} (hm:Mask mask) {p:Probe} (v:PV mask p) {y:Nat} (hy:y<=mask):∃ m,m < 10 * (mask + 15)/\(road mask m p).j=y:=by
 have h12:(aZd mask 12 (p.i,p.perturb)).1 < mask + 1:=by
  rw[aZg mask 11];exact Nat.lt_succ_of_le (bXo _ _ _)
 have hp:(aZd mask 12 (p.i,p.perturb)).2 < 32:=by
  rw[bQt]
  have:=v.pt
  show p.perturb / 32 ^ 12 < 32;have e:(2:Nat) ^ 64=18446744073709551616:=by decide
  have e2:(32:Nat) ^ 12=1152921504606846976:=by decide
  rw[e2];lia
 obtain⟨a,ha,ea⟩:=hm.full.from h12 (Nat.lt_succ_of_le hy)
 obtain⟨m,h1,h2,_,h4⟩:=far mask (12 + a) p v;refine⟨m,by lia,?_⟩
 rw[h4 (by lia),h2,aJk,bQw a _ hp,ea]
def Ris (xs:List Nat):Prop:=xs.Pairwise (· < ·)
theorem bQx (xs:Array Nat) (j:Nat) (hr:Ris xs.toList):∀ (fuel lo hi:Nat),hi - lo<=fuel->lo<=hi->hi<=xs.size->(∀ i,i < lo->xs.getD i j < j)->(∀ i,hi<=i->i < xs.size->j<=xs.getD i j) ->
  below.go xs j fuel lo hi<=xs.size/\(∀ i,i < below.go xs j fuel lo hi->xs.getD i j < j)/\∀ i,below.go xs j fuel lo hi<=i->i < xs.size->j<=xs.getD i j
 | 0,lo,hi,hf,hl,hs,h1,h2=>by
  have e:lo=hi:=by lia
  subst e;exact⟨hs,h1,h2⟩
 | fuel + 1,lo,hi,hf,hl,hs,h1,h2=>by
  unfold below.go
  by_cases hlt:lo < hi
  ·rw[if_pos hlt];have mlt:(lo + hi) / 2 < xs.size:=by lia
   have mono:∀ a b,a<=b->b < xs.size->xs.getD a j<=xs.getD b j:=fun a b hab hb=>by
    rcases Nat.lt_or_eq_of_le hab with h | h
    ·have q:=(List.pairwise_iff_getElem.mp hr) a b (by simpa using Nat.lt_trans h hb) (by simpa using hb) h
     simp only[Array.getD,hb,Nat.lt_trans h hb,dif_pos];simpa using Nat.le_of_lt q
    ·subst h;exact Nat.le_refl _
   show(if xs.getD ((lo + hi) / 2) j < j then _ else _)<=_/\_
   by_cases hc:xs.getD ((lo + hi) / 2) j < j
   ·simp only[hc,if_true];exact bQx xs j hr fuel _ hi (by lia) (by lia) hs (fun i hi'=>Nat.lt_of_le_of_lt (mono i ((lo + hi) / 2) (by lia) mlt) hc) h2
   ·simp only[hc,if_false];exact bQx xs j hr fuel lo _ (by lia) (by lia) (by lia) h1 (fun i hi' hs'=>Nat.le_trans (Nat.le_of_not_lt hc) (mono _ i hi' hs'))
  ·rw[if_neg hlt];have e:lo=hi:=by lia
   subst e;exact⟨hs,h1,h2⟩
theorem bQf {xs:Array Nat} (hr:Ris xs.toList) (j:Nat):below xs j<=xs.size/\(∀ i,i < below xs j->xs.getD i j < j)/\∀ i,below xs j<=i->i < xs.size->j<=xs.getD i j :=
 bQx xs j hr xs.size 0 xs.size (by lia) (by lia) (Nat.le_refl _) (fun i h=>absurd h (Nat.not_lt_zero _)) (fun i h h'=>absurd h' (Nat.not_lt.mpr h))
theorem dQ8 {xs:Array Nat} (hr:Ris xs.toList) {i j:Nat} (h:xs[i]?=some j):below xs j=i:=by
 obtain⟨hi,e⟩:=Array.getElem?_eq_some_iff.mp h;obtain⟨b1,b2,b3⟩:=bQf hr j;have eg:∀ k,k < xs.size->xs.getD k j=xs.getD k 0:=fun k hk=>by simp[Array.getD,hk]
 have ei:xs.getD i j=j:=by simp[Array.getD,hi,e]
 have inc:∀ a b,a < b->b < xs.size->xs.getD a j < xs.getD b j:=fun a b hab hb=>by
  have q:=(List.pairwise_iff_getElem.mp hr) a b (by simpa using Nat.lt_trans hab hb) (by simpa using hb) hab
  simp only[Array.getD,hb,Nat.lt_trans hab hb,dif_pos];simpa using q
 rcases Nat.lt_trichotomy (below xs j) i with h | h | h
 ·have q1:=inc _ _ h hi;have q2:=b3 _ (Nat.le_refl _) (Nat.lt_trans h hi);lia
 ·exact h
 ·have q:=b2 i h;lia
structure Tab (t:SetTable):Prop where
 mask:Mask t.mask
 nodum:t.dummies=#[]
 ris:Ris t.place.toList
 top:∀ j∈t.place.toList,j<=t.mask
theorem bXp {t:SetTable} (T:Tab t) {j i:Nat} (h:t.place[i]?=some j):t.slot j=.live i:=by
 unfold SetTable.slot;dsimp only;rw[dQ8 T.ris h,h];simp
theorem cZw {t:SetTable} (T:Tab t) {j:Nat} (h:j∉t.place.toList):t.slot j=.empty:=by
 unfold SetTable.slot;dsimp only;have e:(t.place[below t.place j]? == some j)=false:=by
  cases q:t.place[below t.place j]? == some j with
  | false=>rfl
  | true =>
   have:=eq_of_beq q
   obtain⟨hi,e⟩:=Array.getElem?_eq_some_iff.mp this;exact absurd (by rw[<- e];simp) h
 rw[e];simp only[Bool.false_eq_true,if_false];have e2:has t.dummies j=false:=by rw[T.nodum];unfold has;simp
 rw[e2];simp
theorem cQs {t:SetTable} (T:Tab t) (j:Nat):(∃ i,t.slot j=.live i/\t.place[i]?=some j)\/(t.slot j=.empty/\j∉t.place.toList):=by
 by_cases h:j∈t.place.toList
 ·obtain⟨i,hi,e⟩:=List.getElem_of_mem h;have q:t.place[i]?=some j:=by
   rw[Array.getElem?_eq_some_iff];exact⟨by simpa using hi,by simpa using e⟩
  exact .inl ⟨i,bXp T q,q⟩
 ·exact .inr ⟨cZw T h,h⟩
theorem cZx {t : SetTable} (T : Tab t) (hashAt : Nat -> Int) (h : Int) : ∀ (fuel : Nat) (p : Probe), p.dummy = none -> (∃ m, m < fuel /\ (road t.mask m p).j ∉ t.place.toList) ->
    ∃ m, m < fuel /\ (∀ m', m' < m -> ∃ i, t.place[i]? = some (road t.mask m' p).j /\ hashAt i ≠ h) /\
      (((road t.mask m p).j ∉ t.place.toList /\ probe.go t hashAt h fuel p = some (.empty (road t.mask m p).j none)) \/
       ∃ i, t.place[i]? = some (road t.mask m p).j /\ t.slot (road t.mask m p).j = .live i /\ hashAt i = h /\ probe.go t hashAt h fuel p = some (.candidate (road t.mask m p).j i (road t.mask (m + 1) p)))
  | 0, p, _, ⟨m, hm, _⟩ => absurd hm (Nat.not_lt_zero _)
  | fuel + 1, p, hd, ⟨m, hm, hf⟩ => by
    unfold probe.go;rcases cQs T p.j with⟨i, e, q⟩ | ⟨e, q⟩
    · rw [e]
      dsimp only
      by_cases hh : hashAt i = h
      · refine⟨0, Nat.succ_pos _, fun _ h' => absurd h' (Nat.not_lt_zero _), .inr ⟨i, q, e, hh, ?_⟩⟩
        rw [if_pos (by simpa using hh), bQd]
        rfl
      · rw [if_neg (by simpa using hh), bQd]
        cases m with
        | zero => exact absurd (Array.mem_toList_iff.mpr (Array.mem_of_getElem? q)) hf
        | succ m =>
          obtain⟨m1, h1, h2, h3⟩ := cZx T hashAt h fuel (step t.mask p) (by rw [bQe]; exact hd) ⟨m, by lia, hf⟩
          refine⟨m1 + 1, by lia, fun m' hm' => ?_, h3⟩
          cases m' with
          | zero => exact⟨i, q, hh⟩
          | succ m' => exact h2 m' (by lia)
    · rw [e]
      exact⟨0, Nat.succ_pos _, fun _ h' => absurd h' (Nat.not_lt_zero _), .inl ⟨q, by rw [hd]; rfl⟩⟩
theorem bQg {t:SetTable} (T:Tab t) (hn:t.place.size<=t.mask):∃ y,y<=t.mask/\y∉t.place.toList:=by
 apply Classical.byContradiction;intro hno;have all:∀ y,y < t.mask + 1->y∈t.place.toList:=fun y hy=>Classical.byContradiction fun h=>hno ⟨y,Nat.le_of_lt_succ hy,h⟩;have hl:(List.range (t.mask + 1)).length<=t.place.toList.length:=by
  apply List.Nodup.length_le_of_subset List.nodup_range;intro y hy;exact all y (List.mem_range.mp hy)
 rw[List.length_range] at hl
 have:t.place.toList.length=t.place.size:=by simp
 lia
theorem cQt {t : SetTable} (T : Tab t) (hn : t.place.size <= t.mask) (hashAt : Nat -> Int) (h : Int) {p : Probe} (v : PV t.mask p) (hd : p.dummy = none) :
    ∃ m, (∀ m', m' < m -> ∃ i, t.place[i]? = some (road t.mask m' p).j /\ hashAt i ≠ h) /\
      (((road t.mask m p).j ∉ t.place.toList /\ t.probe hashAt h p = some (.empty (road t.mask m p).j none)) \/
       ∃ i, t.place[i]? = some (road t.mask m p).j /\ t.slot (road t.mask m p).j = .live i /\ hashAt i = h /\ t.probe hashAt h p = some (.candidate (road t.mask m p).j i (road t.mask (m + 1) p))) := by
  obtain⟨y, hy, hf⟩ := bQg T hn;obtain⟨m, hm, e⟩ := eXi T.mask v hy;obtain⟨m1, _, h2, h3⟩ := cZx T hashAt h (10 * turns t.mask) p hd ⟨m, hm, by rw [e]; exact hf⟩
  exact⟨m1, h2, h3⟩
end ST
set_option autoImplicit false
namespace ST
open PySem PySem.SetTable
theorem aXj {α:Type} (xs:Array α) (p:Nat) (x:α) (h:p<=xs.size):(insertAt xs p x).toList=xs.toList.take p++x::xs.toList.drop p:=by
 unfold insertAt;simp only[Array.toList_append,Array.toList_push,Array.toList_extract,List.append_assoc,List.singleton_append];simp only[List.extract,List.drop_zero,Nat.sub_zero];rw[List.take_of_length_le (l:=List.drop p xs.toList) (by simp)]
theorem aX0 {α:Type} {l:List α} {p i:Nat} {x y:α} (hp:p<=l.length) (h:(l.take p++x::l.drop p)[i]?=some y):(i < p/\l[i]?=some y)\/(i=p/\y=x)\/(p < i/\l[i - 1]?=some y):=by
 have hl:(l.take p).length=p:=by rw[List.length_take];lia
 rcases Nat.lt_trichotomy i p with c | c | c
 ·left
  rw[List.getElem?_append_left (by lia),List.getElem?_take_of_lt c] at h
  exact⟨c,h⟩
 ·right;left
  subst c;rw[List.getElem?_append_right (by lia),hl,Nat.sub_self] at h
  simp at h;exact⟨rfl,h.symm⟩
 ·right;right
  rw[List.getElem?_append_right (by lia),hl] at h
  rw[show i - p=(i - 1 - p) + 1 by lia,List.getElem?_cons_succ,List.getElem?_drop] at h
  rw[show p + (i - 1 - p)=i - 1 by lia] at h
  exact⟨c,h⟩
structure SetI (es:Array (Int × Value)) (t:SetTable):Prop where
 tab:Tab t
 size:t.place.size=es.size
 room:es.size * 5 < t.mask * 3
 reach:∀ (i j:Nat) (e:Int × Value),t.place[i]?=some j->es[i]?=some e->∃ r,(road t.mask r (start t.mask e.1)).j=j/\∀ r',r' < r->(road t.mask r' (start t.mask e.1)).j∈t.place.toList
theorem SetI.le {es:Array (Int × Value)} {t:SetTable} (I:SetI es t):t.place.size<=t.mask:=by have:=I.size;have:=I.room;lia
theorem SetI.fits {es:Array (Int × Value)} {t:SetTable} (I:SetI es t):t.fits es.size=true:=by
 unfold SetTable.fits SetTable.fill;rw[I.tab.nodum,I.size]
 have:=I.room
 simp only[Bool.and_eq_true,beq_iff_eq,decide_eq_true_eq];refine⟨trivial,?_⟩;simp;lia
theorem SetI.way {es:Array (Int × Value)} {t:SetTable} (I:SetI es t):t.gaveWay=false:=by
 unfold SetTable.gaveWay;rcases I.tab.mask with e | e | e | e <;> rw[e] <;> rfl
theorem fresh_ok (f m:Nat) (led:Bool):SetI #[] (SetTable.fresh f m led) where
 tab:=⟨.inl rfl,rfl,.nil,fun j h=>by simp[SetTable.fresh] at h⟩
 size:=rfl
 room:=by show 0 * 5 < 7 * 3;decide
 reach:=fun i j e h=>by simp[SetTable.fresh] at h
structure Put (t t':SetTable) (j p:Nat):Prop where
 tab:Tab t'
 mask:t'.mask=t.mask
 le:p<=t.place.size
 place:t'.place.toList=t.place.toList.take p++j::t.place.toList.drop p
theorem eXj {t : SetTable} (T : Tab t) {j : Nat} (hj : j <= t.mask) (hf : j ∉ t.place.toList) : Put t (t.put j).1 j (t.put j).2 := by
  obtain⟨b1, b2, b3⟩ := bQf T.ris j;have e : (t.put j).1.place.toList = t.place.toList.take (below t.place j) ++ j :: t.place.toList.drop (below t.place j) := aXj _ _ _ b1;have e2 : (t.put j).1.dummies = #[] := by
    show(if has t.dummies j = true then _ else t.dummies) = #[]
    have q : has t.dummies j = false := by rw [T.nodum]; unfold has; simp
    rw [q]; simp [T.nodum]
  refine⟨⟨T.mask, e2, ?_, ?_⟩, rfl, b1, e⟩
  · unfold Ris
    rw [e, List.pairwise_append, List.pairwise_cons];have hr := T.ris;unfold Ris at hr;have lt1 : ∀ a ∈ t.place.toList.take (below t.place j), a < j := fun a ha => by
      obtain⟨i, hi, ea⟩ := List.getElem_of_mem ha;rw [List.length_take] at hi
      have hi' : i < t.place.size := by have : t.place.toList.length = t.place.size := by simp
                                        lia
      have q := b2 i (by lia)
      simp only [Array.getD, hi', dif_pos] at q;rw [List.getElem_take] at ea;rw [<- ea];simpa using q
    have gt1 : ∀ a ∈ t.place.toList.drop (below t.place j), j < a := fun a ha => by
      obtain⟨i, hi, ea⟩ := List.getElem_of_mem ha;rw [List.length_drop] at hi;have hl : t.place.toList.length = t.place.size := by simp
      have hi' : below t.place j + i < t.place.size := by lia
      have q := b3 (below t.place j + i) (by lia) hi'
      simp only [Array.getD, hi', dif_pos] at q;rw [List.getElem_drop] at ea;have ne : a ≠ j := fun z => hf (by rw [<- z]; exact List.mem_of_mem_drop ha)
      have q' : j <= a := by rw [<- ea]; simpa using q
      lia
    refine⟨hr.sublist (List.take_sublist _ _), ⟨gt1, hr.sublist (List.drop_sublist _ _)⟩, fun a ha b hb => ?_⟩;rcases List.mem_cons.mp hb with rfl | hb
    · exact lt1 a ha
    · exact Nat.lt_trans (lt1 a ha) (gt1 b hb)
  · intro a ha
    rw [e] at ha;rcases List.mem_append.mp ha with ha | ha
    · exact T.top a (List.mem_of_mem_take ha)
    · rcases List.mem_cons.mp ha with rfl | ha
      · exact hj
      · exact T.top a (List.mem_of_mem_drop ha)
theorem put_set {es:Array (Int × Value)} {t:SetTable} (I:SetI es t) {j r:Nat} {h:Int} {x:Value} (hj:j<=t.mask) (hf:j∉t.place.toList) (e:(road t.mask r (start t.mask h)).j=j) (hr:∀ r',r' < r->(road t.mask r' (start t.mask h)).j∈t.place.toList) :
  ∀ b,(insertAt es (t.put j).2 (h,x)).toList=es.toList.take (t.put j).2++(h,x)::es.toList.drop (t.put j).2/\(insertAt es (t.put j).2 (h,x)).size=es.size + 1 /\
   Tab { (t.put j).1 with plain:=b }/\(t.put j).1.place.size=es.size + 1/\(t.put j).1.mask=t.mask /\
   ∀ (i j':Nat) (e':Int × Value),(t.put j).1.place[i]?=some j'->(insertAt es (t.put j).2 (h,x))[i]?=some e'->∃ r,(road t.mask r (start t.mask e'.1)).j=j'/\∀ r',r' < r->(road t.mask r' (start t.mask e'.1)).j∈(t.put j).1.place.toList:=by
 intro b;have P:=eXj I.tab hj hf;have hle:(t.put j).2<=es.size:=by rw[<- I.size];exact P.le
 have el:=aXj es (t.put j).2 (h,x) hle;have sz:(insertAt es (t.put j).2 (h,x)).size=es.size + 1:=by
  have q:=congrArg List.length el;rw[List.length_append,List.length_cons,List.length_take,List.length_drop] at q
  have:es.toList.length=es.size:=by simp
  rw[show(insertAt es (t.put j).2 (h,x)).toList.length=(insertAt es (t.put j).2 (h,x)).size by simp] at q
  lia
 have szp:(t.put j).1.place.size=es.size + 1:=by
  have q:=congrArg List.length P.place;rw[List.length_append,List.length_cons,List.length_take,List.length_drop] at q
  have:t.place.toList.length=t.place.size:=by simp
  have:=I.size
  have:=P.le
  rw[show(t.put j).1.place.toList.length=(t.put j).1.place.size by simp] at q
  lia
 refine⟨el,sz,⟨P.tab.mask,P.tab.nodum,P.tab.ris,P.tab.top⟩,szp,P.mask,fun i j' e' h1 h2=>?_⟩;have sub:∀ a∈t.place.toList,a∈(t.put j).1.place.toList:=fun a ha=>by
  rw[P.place];rw[<- List.take_append_drop (t.put j).2 t.place.toList] at ha;rcases List.mem_append.mp ha with ha | ha
  ·exact List.mem_append_left _ ha
  ·exact List.mem_append_right _ (List.mem_cons_of_mem _ ha)
 have old:∀ i0,t.place.toList[i0]?=some j'->es.toList[i0]?=some e'->∃ r,(road t.mask r (start t.mask e'.1)).j=j'/\∀ r',r' < r->(road t.mask r' (start t.mask e'.1)).j∈(t.put j).1.place.toList:=fun i0 a b=>by
  obtain⟨r,q1,q2⟩:=I.reach i0 j' e' (by rw[<- Array.getElem?_toList];exact a) (by rw[<- Array.getElem?_toList];exact b)
  exact⟨r,q1,fun r' hr'=>sub _ (q2 r' hr')⟩
 have h1':(t.place.toList.take (t.put j).2++j::t.place.toList.drop (t.put j).2)[i]?=some j':=by rw[<- P.place];simpa using h1
 have h2':(es.toList.take (t.put j).2++(h,x)::es.toList.drop (t.put j).2)[i]?=some e':=by rw[<- el];simpa using h2
 rcases aX0 (by simpa using P.le) h1' with⟨c1,q1⟩ | ⟨c1,q1⟩ | ⟨c1,q1⟩
 ·rcases aX0 (by simpa using hle) h2' with⟨c2,q2⟩ | ⟨c2,q2⟩ | ⟨c2,q2⟩
  ·exact old i q1 q2
  ·lia
  ·lia
 ·rcases aX0 (by simpa using hle) h2' with⟨c2,q2⟩ | ⟨c2,q2⟩ | ⟨c2,q2⟩
  ·lia
  ·subst q1 q2;exact⟨r,e,fun r' hr'=>sub _ (hr r' hr')⟩
  ·lia
 ·rcases aX0 (by simpa using hle) h2' with⟨c2,q2⟩ | ⟨c2,q2⟩ | ⟨c2,q2⟩
  ·lia
  ·lia
  ·exact old (i - 1) q1 q2
abbrev Own:=Array (Option Nat)
def liveOf (mask:Nat) (owner:Own):List (Nat × Nat):=(List.range (mask + 1)).filterMap fun j=>(owner.getD j none).map (j,·)
theorem aZ2 {α β:Type} {f g:α->Option β}:∀ {l:List α},(∀ a∈l,f a=g a)->l.filterMap f=l.filterMap g
 | [],_=>rfl
 | a::l,h=>by
  rw[List.filterMap_cons,List.filterMap_cons,h a List.mem_cons_self,aZ2 fun b hb=>h b (List.mem_cons_of_mem _ hb)]
theorem dQ9 {mask:Nat} {owner:Own} {j k:Nat} (hs:owner.size=mask + 1) (hj:j<=mask) (hn:owner.getD j none=none):(liveOf mask (owner.setIfInBounds j (some k))).Perm ((j,k)::liveOf mask owner):=by
 unfold liveOf;obtain⟨s,u,e⟩:=List.append_of_mem (List.mem_range.mpr (Nat.lt_succ_of_le hj));have nd:(List.range (mask + 1)).Nodup:=List.nodup_range;rw[e] at nd ⊢;have h1:j∉s:=fun h=>by
  have:=List.nodup_append.mp nd
  exact absurd rfl (this.2.2 j h j List.mem_cons_self)
 have h2:j∉u:=fun h=>by
  have:=List.nodup_append.mp nd
  exact(List.nodup_cons.mp this.2.1).1 h
 have g:∀ a,a≠j->(owner.setIfInBounds j (some k)).getD a none=owner.getD a none:=fun a ha=>by
  rw[Array.getD_eq_getD_getElem?,Array.getD_eq_getD_getElem?,Array.getElem?_setIfInBounds_ne (Ne.symm ha)]
 have gj:(owner.setIfInBounds j (some k)).getD j none=some k:=by
  rw[Array.getD_eq_getD_getElem?,Array.getElem?_setIfInBounds_self_of_lt (by lia)];rfl
 rw[List.filterMap_append,List.filterMap_append,List.filterMap_cons,List.filterMap_cons,gj,hn];simp only[Option.map_some,Option.map_none];rw[aZ2 (l:=s) (g:=fun j=>(owner.getD j none).map (j,·)) fun a ha=>by rw[g a fun z=>h1 (z ▸ ha)],aZ2 (l:=u) (g:=fun j=>(owner.getD j none).map (j,·)) fun a ha=>by rw[g a fun z=>h2 (z ▸ ha)]]
 exact List.perm_middle
theorem bJi {owner:Own} {j:Nat} (h:j < owner.size) (d:Option Nat):owner.getD j d=owner[j]:=by simp[Array.getD,h]
theorem bZw {mask:Nat} {owner:Own} (hs:owner.size=mask + 1):∀ (fuel:Nat) (p:Probe),PV mask p->p.j=p.i->p.more=runEnd mask p.i - p.i->(∃ l,l < fuel/\owner.getD (aZd mask l (p.i,p.perturb)).1 none=none) ->
  ∃ r j,layClean.free mask owner fuel p.i p.perturb=some j/\(road mask r p).j=j/\j<=mask/\owner.getD j none=none/\∀ r',r' < r->(owner.getD (road mask r' p).j none).isSome=true
 | 0,p,_,_,_,⟨l,h,_⟩=>absurd h (Nat.not_lt_zero _)
 | fuel + 1,p,v,hj,hm,⟨l,hl,hf⟩=>by
  have re:=aJj mask p.i v.i;have jm:=v.j;have inb:∀ k,k<=p.more->p.i + k<=mask:=fun k hk=>by lia
  have gd:∀ k,k<=p.more->owner.getD (p.i + k) (some 0)=owner.getD (p.i + k) none:=fun k hk=>by
   have:p.i + k < owner.size:=by have:=inb k hk;lia
   rw[bJi this,bJi this]
  have rd:∀ k,k<=p.more->(road mask k p).j=p.i + k:=fun k hk=>by rw[cZu mask k p hk,<- hj]
  unfold layClean.free;have en:runEnd mask p.i + 1 - p.i=p.more + 1:=by lia
  rw[en];cases hq:(List.range (p.more + 1)).find? fun k=>(owner.getD (p.i + k) (some 0)).isNone with
  | some k =>
   rw[List.find?_range_eq_some] at hq;obtain⟨h1,h2,h3⟩:=hq;have hk:k<=p.more:=Nat.le_of_lt_succ (List.mem_range.mp h2);refine⟨k,p.i + k,rfl,rd k hk,inb k hk,?_,fun r' hr'=>?_⟩
   ·rw[gd k hk] at h1;exact Option.isNone_iff_eq_none.mp h1
   ·have q:=h3 r' hr';rw[gd r' (by lia)] at q
    rw[rd r' (by lia)]
    cases e:owner.getD (p.i + r') none with
    | none=>rw[e] at q;cases q
    | some z=>rfl
  | none =>
   rw[List.find?_eq_none] at hq;have taken:∀ k,k<=p.more->(owner.getD (p.i + k) none).isSome=true:=fun k hk=>by
    have q:=hq k (List.mem_range.mpr (Nat.lt_succ_of_le hk));rw[gd k hk] at q;cases e:owner.getD (p.i + k) none with
    | none=>rw[e] at q;exact absurd rfl q
    | some z=>rfl
   cases l with
   | zero =>
    have q:=taken 0 (Nat.zero_le _);have hf':owner.getD p.i none=none:=hf;rw[Nat.add_zero,hf'] at q;cases q
   | succ l =>
    have e:=cZv mask p;have v':PV mask (road mask (p.more + 1) p):=PV.road _ v;obtain⟨r,j,f1,f2,f3,f4,f5⟩:=bZw hs fuel (road mask (p.more + 1) p) v' (by rw[e]) (by rw[e]) ⟨l,by lia,by rw[e];exact hf⟩
    refine⟨p.more + 1 + r,j,?_,by rw[aQr];exact f2,f3,f4,fun r' hr'=>?_⟩
    ·rw[e] at f1;exact f1
    ·by_cases c:r'<=p.more
     ·rw[rd r' c];exact taken r' c
     ·have q:=f5 (r' - (p.more + 1)) (by lia)
      rw[<- aQr,show p.more + 1 + (r' - (p.more + 1))=r' by lia] at q
      exact q
structure OwnI (mask:Nat) (owner:Own) (hs:List Int):Prop where
 size:owner.size=mask + 1
 perm:((liveOf mask owner).map (·.2)).Perm (List.range hs.length)
 reach:∀ (j k:Nat),owner.getD j none=some k->∃ h,hs[k]?=some h/\∃ r,(road mask r (start mask h)).j=j/\∀ r',r' < r->(owner.getD (road mask r' (start mask h)).j none).isSome=true
theorem OwnI.free {mask:Nat} (hm:Mask mask) {owner:Own} {hs:List Int} (I:OwnI mask owner hs) (hl:hs.length<=mask):∃ y,y<=mask/\owner.getD y none=none:=by
 apply Classical.byContradiction;intro hno;have all:∀ y,y < mask + 1->(owner.getD y none).isSome=true:=fun y hy=>by
  cases e:owner.getD y none with
  | none=>exact absurd ⟨y,Nat.le_of_lt_succ hy,e⟩ hno
  | some z=>rfl
 have len:((List.range (mask + 1)).filterMap fun j=>(owner.getD j none).map (j,·)).length=mask + 1:=by
  have gen:∀ l:List Nat,(∀ y∈l,(owner.getD y none).isSome=true)->(l.filterMap fun j=>(owner.getD j none).map (j,·)).length=l.length:=by
   intro l
   induction l with
   | nil=>intro _;rfl
   | cons a l ih =>
    intro h;obtain⟨z,e⟩:=Option.isSome_iff_exists.mp (h a List.mem_cons_self);rw[List.filterMap_cons,e];simp only[Option.map_some,List.length_cons];rw[ih fun y hy=>h y (List.mem_cons_of_mem _ hy)]
  rw[gen _ fun y hy=>all y (List.mem_range.mp hy),List.length_range]
 have q:=I.perm.length_eq;rw[List.length_map,List.length_range] at q;unfold liveOf at q;lia
theorem cZy {mask:Nat} (hm:Mask mask) {owner:Own} {y:Nat} (hy:y<=mask) (hf:owner.getD y none=none) (p:Probe) (v:PV mask p):∃ l,l < turns mask/\owner.getD (aZd mask l (p.i,p.perturb)).1 none=none:=by
 have h12:(aZd mask 12 (p.i,p.perturb)).1 < mask + 1:=by rw[aZg mask 11];exact Nat.lt_succ_of_le (bXo _ _ _)
 have hp:(aZd mask 12 (p.i,p.perturb)).2 < 32:=by
  rw[bQt]
  have:=v.pt
  show p.perturb / 32 ^ 12 < 32;have e:(2:Nat) ^ 64=18446744073709551616:=by decide
  have e2:(32:Nat) ^ 12=1152921504606846976:=by decide
  rw[e2];lia
 obtain⟨a,ha,ea⟩:=hm.full.from h12 (Nat.lt_succ_of_le hy)
 refine⟨12 + a,by unfold turns;lia,?_⟩
 rw[aJk,bQw a _ hp,ea];exact hf
def cZz (mask:Nat) (acc:Option (Own × Nat)) (h:Int):Option (Own × Nat):=do
 let (owner,k) <- acc
 let j <- layClean.free mask owner (turns mask) (bits h % (mask + 1)) (bits h)
 pure (owner.setIfInBounds j (some k),k + 1)
theorem bJj {mask:Nat} (hm:Mask mask):∀ (hs done:List Int) (owner:Own),OwnI mask owner done->done.length + hs.length<=mask ->
  ∃ owner',hs.foldl (cZz mask) (some (owner,done.length))=some (owner',(done++hs).length)/\OwnI mask owner' (done++hs)
 | [],done,owner,I,_=>⟨owner,by rw[List.append_nil];rfl,by rw[List.append_nil];exact I⟩
 | h::hs,done,owner,I,hl=>by
  rw[List.length_cons] at hl;obtain⟨y,hy,hf⟩:=I.free hm (by lia)
  have v:=aXi mask h;obtain⟨r,j,f1,f2,f3,f4,f5⟩:=bZw I.size (turns mask) (start mask h) v rfl rfl (cZy hm hy hf _ v);have hjs:j < owner.size:=by have:=I.size;lia
  have gne:∀ a,a≠j->(owner.setIfInBounds j (some done.length)).getD a none=owner.getD a none:=fun a ha=>by
   rw[Array.getD_eq_getD_getElem?,Array.getD_eq_getD_getElem?,Array.getElem?_setIfInBounds_ne (Ne.symm ha)]
  have gj:(owner.setIfInBounds j (some done.length)).getD j none=some done.length:=by
   rw[Array.getD_eq_getD_getElem?,Array.getElem?_setIfInBounds_self_of_lt hjs];rfl
  have more:∀ a,(owner.getD a none).isSome=true->((owner.setIfInBounds j (some done.length)).getD a none).isSome=true:=fun a ha=>by
   by_cases c:a=j
   ·rw[c,gj];rfl
   ·rw[gne a c];exact ha
  have I':OwnI mask (owner.setIfInBounds j (some done.length)) (done++[h]):=by
   refine⟨by rw[Array.size_setIfInBounds];exact I.size,?_,fun a k e=>?_⟩
   ·have q:=(dQ9 (k:=done.length) I.size f3 f4).map (·.2);rw[List.map_cons] at q;refine q.trans ?_;rw[List.length_append,List.length_singleton,List.range_succ];exact(I.perm.cons _).trans (List.perm_append_singleton _ _).symm
   ·by_cases c:a=j
    ·subst c;rw[gj] at e;cases e;refine⟨h,by simp,r,f2,fun r' hr'=>more _ (f5 r' hr')⟩
    ·rw[gne a c] at e;obtain⟨h',e1,r',e2,e3⟩:=I.reach a k e;exact⟨h',by rw[List.getElem?_append_left (List.getElem?_eq_some_iff.mp e1).1];exact e1,r',e2,fun x hx=>more _ (e3 x hx)⟩
  obtain⟨owner',e1,e2⟩:=bJj hm hs (done++[h]) _ I' (by rw[List.length_append,List.length_singleton];lia)
  refine⟨owner',?_,by rw[List.append_assoc] at e2;exact e2⟩
  rw[List.foldl_cons];have es:cZz mask (some (owner,done.length)) h=some (owner.setIfInBounds j (some done.length),done.length + 1):=by
   show(do let j <- layClean.free mask owner (turns mask) (bits h % (mask + 1)) (bits h);pure (owner.setIfInBounds j (some done.length),done.length + 1))=_
   have f1':layClean.free mask owner (turns mask) (bits h % (mask + 1)) (bits h)=some j:=f1;rw[f1']
   rfl
  rw[es];rw[List.length_append,List.length_singleton,List.append_assoc] at e1;exact e1
theorem cX0 (mask:Nat):OwnI mask (Array.replicate (mask + 1) none) [] where
 size:=by simp
 perm:=by
  have e:liveOf mask (Array.replicate (mask + 1) none)=[]:=by
   unfold liveOf;rw[List.filterMap_eq_nil_iff];intro a ha
   have:(Array.replicate (mask + 1) (none:Option Nat)).getD a none=none:=by
    rw[Array.getD_eq_getD_getElem?,Array.getElem?_replicate];split <;> rfl
   rw[this];rfl
  rw[e];exact List.Perm.refl _
 reach:=fun j k e=>by
  have:(Array.replicate (mask + 1) (none:Option Nat)).getD j none=none:=by
   rw[Array.getD_eq_getD_getElem?,Array.getElem?_replicate];split <;> rfl
  rw[this] at e;cases e
theorem bXq {mask:Nat} (hm:Mask mask) (hs:Array Int) (hl:hs.size<=mask):∃ owner,layClean mask hs=some owner/\OwnI mask owner hs.toList:=by
 obtain⟨owner,e1,e2⟩:=bJj hm hs.toList [] _ (cX0 mask) (by simpa using hl)
 refine⟨owner,?_,by simpa using e2⟩
 unfold layClean
 have:hs.foldl (init:=some (Array.replicate (mask + 1) (none:Option Nat),0)) (fun acc h=>do
  let (owner,k) <- acc
  let j <- layClean.free mask owner (turns mask) (bits h % (mask + 1)) (bits h)
  pure (owner.setIfInBounds j (some k),k + 1))=some (owner,hs.size):=by
  rw[<- Array.foldl_toList];have q:=e1;simp only[List.nil_append,List.length_nil] at q;rw[show hs.toList.length=hs.size by simp] at q
  exact q
 rw[this]
 rfl
theorem bJk {α β:Type} {f:α->Option β}:∀ {l:List α},(∀ a∈l,(f a).isSome=true)->(l.filterMap f).length=l.length/\∀ i:Nat,(l.filterMap f)[i]?=(l[i]?).bind f
 | [],_=>⟨rfl,fun i=>by simp⟩
 | a::l,h=>by
  obtain⟨z,e⟩:=Option.isSome_iff_exists.mp (h a List.mem_cons_self);obtain⟨h1,h2⟩:=bJk (l:=l) (f:=f) fun b hb=>h b (List.mem_cons_of_mem _ hb);rw[List.filterMap_cons,e];refine⟨by simp[h1],fun i=>?_⟩
  cases i with
  | zero=>simp[e]
  | succ i=>simpa using h2 i
theorem bJl {mask:Nat} {owner:Own} {j k:Nat} (h:(j,k)∈liveOf mask owner):j<=mask/\owner.getD j none=some k:=by
 unfold liveOf at h;obtain⟨a,ha,e⟩:=List.mem_filterMap.mp h;cases q:owner.getD a none with
 | none=>rw[q] at e;cases e
 | some z=>rw[q] at e;cases e;exact⟨Nat.le_of_lt_succ (List.mem_range.mp ha),q⟩
theorem dQa {mask:Nat} {owner:Own} {j k:Nat} (h1:j<=mask) (h2:owner.getD j none=some k):(j,k)∈liveOf mask owner :=
 List.mem_filterMap.mpr ⟨j,List.mem_range.mpr (Nat.lt_succ_of_le h1),by rw[h2];rfl⟩
theorem dQb (mask:Nat) (owner:Own):Ris ((liveOf mask owner).map (·.1)):=by
 unfold Ris liveOf;rw[List.pairwise_map];refine List.Pairwise.filterMap _ ?_ (List.pairwise_lt_range (n:=mask + 1));intro a a' haa b hb b' hb';cases q:owner.getD a none with
 | none=>rw[q] at hb;cases hb
 | some z =>
  rw[q] at hb;cases hb;cases q':owner.getD a' none with
  | none=>rw[q'] at hb';cases hb'
  | some z'=>rw[q'] at hb';cases hb';exact haa
theorem bJm {α:Type} (es:Array α):((List.range es.size).filterMap fun k=>es[k]?)=es.toList:=by
 apply List.ext_getElem?;intro i;have h:=bJk (l:=List.range es.size) (f:=fun k=>es[k]?) (fun a ha=>by
  have:=List.mem_range.mp ha
  simp[this])
 rw[h.2 i]
 by_cases c:i < es.size
 ·rw[List.getElem?_range c];simp
 ·rw[List.getElem?_eq_none (by simpa using c)];simp[c]
theorem cX1 {es:Array (Int × Value)} {mask' wanted:Nat} (t:SetTable) (hm:Mask mask') (hw:sizeAbove wanted - 1=mask') (hsz:es.size * 5 < mask' * 3) :
  ∃ t' order,t.relaid (es.map (·.1)) wanted=some (t',order)/\(order.filterMap (es[·]?)).size=es.size/\SetI (order.filterMap (es[·]?)) t'/\(order.filterMap (es[·]?)).toList.Perm es.toList:=by
 obtain⟨owner,e1,I⟩:=bXq hm (es.map (·.1)) (by rw[Array.size_map];lia)
 have el:(es.map (·.1)).toList.length=es.size:=by simp
 have hp:=I.perm;rw[el] at hp;have ks:∀ k∈(liveOf mask' owner).map (·.2),(es[k]?).isSome=true:=fun k hk=>by
  have:=List.mem_range.mp (hp.mem_iff.mp hk)
  simp[this]
 obtain⟨f1,f2⟩:=bJk (f:=fun k=>es[k]?) ks;have etl:(Array.filterMap (es[·]?) ((liveOf mask' owner).map (·.2)).toArray).toList=((liveOf mask' owner).map (·.2)).filterMap (fun k=>es[k]?):=by simp
 have perm:(Array.filterMap (es[·]?) ((liveOf mask' owner).map (·.2)).toArray).toList.Perm es.toList:=by
  rw[etl,<- bJm es];exact hp.filterMap _
 have size:(Array.filterMap (es[·]?) ((liveOf mask' owner).map (·.2)).toArray).size=es.size:=by
  have:=perm.length_eq
  simpa using this
 refine⟨{ mask:=mask',place:=((liveOf mask' owner).map (·.1)).toArray,dummies:=#[],finger:=t.finger,led:=t.led,moves:=t.movedTo mask',plain:=t.plain },((liveOf mask' owner).map (·.2)).toArray,?_,size,?_,perm⟩
 ·unfold relaid laid;rw[hw,e1]
  rfl
 ·refine⟨⟨hm,rfl,?_,fun j hj=>?_⟩,?_,?_,fun i j e h1 h2=>?_⟩
  ·show Ris ((liveOf mask' owner).map (·.1)).toArray.toList;exact dQb _ _
  ·have hj':j∈(liveOf mask' owner).map (·.1):=hj;obtain⟨⟨a,k⟩,h,rfl⟩:=List.mem_map.mp hj';exact(bJl h).1
  ·rw[size];show((liveOf mask' owner).map (·.1)).toArray.size=es.size
   have:=hp.length_eq
   simpa using this
  ·rw[size];exact hsz
  ·have h1':((liveOf mask' owner).map (·.1))[i]?=some j:=by simpa using h1
   have h2':(((liveOf mask' owner).map (·.2)).filterMap (fun k=>es[k]?))[i]?=some e:=by
    rw[<- etl,Array.getElem?_toList];exact h2
   rw[f2 i] at h2';rw[List.getElem?_map] at h1' h2';cases q:(liveOf mask' owner)[i]? with
   | none=>rw[q] at h1';cases h1'
   | some jk =>
    obtain⟨a,k⟩:=jk;rw[q] at h1' h2';have ea:a=j:=Option.some.inj h1';subst ea;have ek:es[k]?=some e:=h2';obtain⟨_,ow⟩:=bJl (List.mem_of_getElem? q);obtain⟨h,eh,r,r1,r2⟩:=I.reach a k ow;have eh':e.1=h:=by
     have:(es.map (·.1)).toList[k]?=some e.1:=by
      rw[Array.getElem?_toList,Array.getElem?_map,ek];rfl
     rw[this] at eh;exact Option.some.inj eh
    rw[eh'];refine⟨r,r1,fun r' hr'=>?_⟩;obtain⟨z,ez⟩:=Option.isSome_iff_exists.mp (r2 r' hr');have pv:=PV.road r' (aXi mask' h)
    have:=pv.j
    show _∈((liveOf mask' owner).map (·.1)).toArray.toList;exact List.mem_map.mpr ⟨_,dQa (by lia) ez,rfl⟩
theorem grow {mask n:Nat} (hm:Mask mask) (h1:n * 5 < mask * 3) (h2:(n + 1) * 5 >= mask * 3) (hn:n + 1<=300):∃ mask',Mask mask'/\sizeAbove (grown (n + 1)) - 1=mask'/\(n + 1) * 5 < mask' * 3/\¬ sizeAbove (grown (n + 1)) > sizeLine:=by
 rcases hm with rfl | rfl | rfl | rfl
 ·have e:n=4:=by lia
  subst e;exact⟨31,.inr (.inl rfl),by decide +kernel,by decide,by decide +kernel⟩
 ·have e:n=18:=by lia
  subst e;exact⟨127,.inr (.inr (.inl rfl)),by decide +kernel,by decide,by decide +kernel⟩
 ·have e:n=76:=by lia
  subst e;exact⟨511,.inr (.inr (.inr rfl)),by decide +kernel,by decide,by decide +kernel⟩
 ·lia
open PySem.Spec PyProof.Rows
section
variable {prog:Program} {w:World} {A:Around} {E:Value->Shared->Prop} {s:Shared}
def TK (prog:Program) (w:World) (h:Heap) (k:List Str) (v:Value):Prop:=∃ b,v=.ref b/\IsTupleKey (strKind prog w) h k b
theorem TK.inj {h:Heap} {k k':List Str} {v:Value} (a:TK prog w h k v) (b:TK prog w h k' v):k=k':=by
 obtain⟨b1,rfl,h1⟩:=a;obtain⟨b2,e,h2⟩:=b;cases e;exact h1.inj h2
abbrev hashT (prog:Program) (w:World) (k:List Str):Int:=tupleKeyHash (strKind prog w) k
theorem bQy {k:List Str} {vs:List Value} (h:ItemsAre (strKind prog w) k vs):∀ v∈vs,∃ x t,v=Value.str x t:=by
 induction h with
 | nil=>intro v hv;cases hv
 | cons h1 _ ih =>
  intro v hv;rcases List.mem_cons.mp hv with rfl | hv
  ·obtain⟨t,e⟩:=Value.isStrOf_shape h1;exact⟨_,t,e⟩
  ·exact ih v hv
theorem bJn {k:List Str} {v:Value} {Q:Bool->Shared->Prop} (hk:TK prog w s.heap k v) (h:Q false s):wpAny (model prog w) A (ofAClassStatement 8 v) Q E s:=by
 obtain⟨b,rfl,hk⟩:=hk;have hT:=hk.typeIs;obtain⟨o,items,n,ho,_,hd,hi⟩:=hk;unfold ofAClassStatement;refine wpAny_bind (wpAny_typeOf hT ?_);dsimp only;simp only[beq_self_eq_true,if_true];refine wpAny_bind (wpAny_pure ?_);simp only[Bool.not_true,Bool.false_eq_true,if_false];refine wpAny_bind (wpAny_seqItems ho hd ?_);dsimp only;refine wpAny_bind ?_;show wpAny _ _ (forIn items _ _) _ _ s;rw[<- Array.forIn_toList];refine wpAny_forIn_list _ (fun rest r s'=>r.1=none/\s'=s/\∀ v∈rest,∃ x t,v=Value.str x t) _ ?_ ?_ _ _ ⟨rfl,rfl,bQy hi⟩
 ·rintro x rest r s' ⟨hr,rfl,hall⟩;obtain⟨y,t,rfl⟩:=hall x List.mem_cons_self;unfold ofAClassStatement;refine wpAny_bind (wpAny_pure ?_);simp only[Bool.false_eq_true,if_false];exact wpAny_pure ⟨rfl,rfl,fun u hu=>hall u (List.mem_cons_of_mem _ hu)⟩
 ·rintro⟨r1,r2⟩ s' ⟨hr,rfl,_⟩;simp only at hr;subst hr;exact wpAny_pure h
theorem dZn {k:List Str} {v:Value} {Q:Bool->Shared->Prop} (hk:TK prog w s.heap k v) (h:Q true s):wpAny (model prog w) A (eqIsQuiet 8 v) Q E s:=by
 obtain⟨b,rfl,hk⟩:=hk;exact wpAny_eqIsQuiet_tuple hk h
theorem dJ9 {k:List Str} {x:Value} {stored:List Value} {Q:Bool->Shared->Prop} (hx:TK prog w s.heap k x) (hs:∀ y∈stored,∃ k',TK prog w s.heap k' y) (h:Q false s) :
  wpAny (model prog w) A (searchCouldBeSeen x stored) Q E s:=by
 unfold searchCouldBeSeen;refine wpAny_bind (wpAny_forIn_list _ (fun rest r s'=>r.1=none/\s'=s/\∀ y∈rest,∃ k',TK prog w s.heap k' y) _ ?_ ?_ _ _ ⟨rfl,rfl,hs⟩)
 ·rintro y rest r s' ⟨hr,rfl,hall⟩;obtain⟨k',hy⟩:=hall y List.mem_cons_self;have fin:∀ y∈rest,∃ k',TK prog w s'.heap k' y:=fun z hz=>hall z (List.mem_cons_of_mem _ hz);obtain⟨bx,ex,_⟩:=id hx;obtain⟨by',ey,_⟩:=id hy
  have main:∀ c:Bool,wpAny (model prog w) A (if c=true then pure (ForInStep.yield ((none,()):Option Bool × Unit)) else do
    if !(<- eqIsQuiet 8 x) then pure (ForInStep.done (some true,())) else
    if !(<- eqIsQuiet 8 y) then pure (ForInStep.done (some true,())) else
    if <- ofAClassStatement 8 x then pure (ForInStep.done (some true,())) else
    if <- ofAClassStatement 8 y then pure (ForInStep.done (some true,())) else pure (ForInStep.yield (none,())))
    (fun r s'_1=>match r with
     | ForInStep.yield b'=>b'.fst=none/\s'_1=s'/\∀ (y:Value),y∈rest->∃ k',TK prog w s'.heap k' y
     | ForInStep.done b'=>False) E s':=by
   intro c;cases c with
   | true=>exact wpAny_pure ⟨rfl,rfl,fin⟩
   | false =>
    simp only[Bool.false_eq_true,if_false];refine wpAny_bind (dZn hx ?_);simp only[Bool.not_true,Bool.false_eq_true,if_false];refine wpAny_bind (dZn hy ?_);simp only[Bool.not_true,Bool.false_eq_true,if_false];refine wpAny_bind (bJn hx ?_);simp only[Bool.false_eq_true,if_false];refine wpAny_bind (bJn hy ?_);simp only[Bool.false_eq_true,if_false];exact wpAny_pure ⟨rfl,rfl,fin⟩
  rw[ex,ey] at main ⊢;dsimp only;refine wpAny_mono (main ((bx == by') || (carriedByValue (.ref bx) && carriedByValue (.ref by')))) (fun r s1 h=>?_) (fun _ _ e=>e)
  cases r with
  | yield b'=>exact h
  | done b'=>exact h.elim
 ·rintro⟨r1,r2⟩ s' ⟨hr,rfl,_⟩;simp only at hr;subst hr;exact wpAny_pure h
def ElT (prog:Program) (w:World) (h:Heap) (es:List (Int × Value)):Prop:=∀ e∈es,∃ k,TK prog w h k e.2/\e.1=hashT prog w k
structure SetAt (h:Heap) (a:Addr) (es:Array (Int × Value)) (ep:Nat) (t:SetTable):Prop where
 obj:h.get? a=some { cls:=.type "set",dict:=none,data:=.set es ep t }
 inv:SetI es t
theorem SetAt.state {a:Addr} {es:Array (Int × Value)} {ep:Nat} {t:SetTable} {Q:(Array (Int × Value) × Nat × SetTable)->Shared->Prop} (S:SetAt s.heap a es ep t) (h:Q (es,ep,t) s):wpAny (model prog w) A (setState a) Q E s :=
 wpAny_setState_of S.obj rfl S.inv.fits h
theorem bXr {a:Addr} {es:Array (Int × Value)} {ep:Nat} {t:SetTable} {k:List Str} {x:Value} {adding:Bool} (S:SetAt s.heap a es ep t) (hu:A.units < cLine) (hel:ElT prog w s.heap es.toList) (hx:TK prog w s.heap k x)
  {M0:Nat} (hM:(road t.mask M0 (start t.mask (hashT prog w k))).j∉t.place.toList) {Q:SetFound->Shared->Prop}
  (hfound:∀ i?,(∃ e∈es.toList,TK prog w s.heap k e.2)->Q (.there i?) s)
  (hfree:∀ j r,j<=t.mask->j∉t.place.toList->(road t.mask r (start t.mask (hashT prog w k))).j=j->(∀ r',r' < r->(road t.mask r' (start t.mask (hashT prog w k))).j∈t.place.toList)->(¬ ∃ e∈es.toList,TK prog w s.heap k e.2)->Q (.free j false) s) :
  ∀ (fuel m:Nat) (stand:Option Probe),M0 < fuel + m->stand.getD (t.probeStart (hashT prog w k))=road t.mask m (start t.mask (hashT prog w k)) ->
   (∀ m',m' < m->∃ (i:Nat) (e:Int × Value),t.place[i]?=some (road t.mask m' (start t.mask (hashT prog w k))).j/\es[i]?=some e/\¬ TK prog w s.heap k e.2)->m<=M0 ->
   wpAny (model prog w) A (setSearchFrom a x (hashT prog w k) adding fuel stand) Q E s
 | 0,m,stand,hf,_,_,hm=>by lia
 | fuel + 1,m,stand,hf,hst,hpast,hm=>by
  unfold setSearchFrom;refine wpAny_bind (S.state ?_);dsimp only;rw[S.inv.way];simp only[Bool.false_eq_true,if_false];have v:=PV.road m (aXi t.mask (hashT prog w k));have dn:∀ m,(road t.mask m (start t.mask (hashT prog w k))).dummy=none:=fun m=>by
   induction m with
   | zero=>rfl
   | succ m ih=>rw[aJi,bQe];exact ih
  obtain⟨m1,p1,p2⟩:=cQt S.inv.tab S.inv.le (fun i=>(es[i]?.map (·.1)).getD 0) (hashT prog w k) v (dn m);rw[hst];have ahead:∀ r,r < m + m1->∃ (i:Nat) (e:Int × Value),t.place[i]?=some (road t.mask r (start t.mask (hashT prog w k))).j/\es[i]?=some e/\¬ TK prog w s.heap k e.2:=fun r hr=>by
   by_cases c:r < m
   ·exact hpast r c
   ·obtain⟨i,q1,q2⟩:=p1 (r - m) (by lia)
    rw[<- aQr,show m + (r - m)=r by lia] at q1
    obtain⟨hi,_⟩:=Array.getElem?_eq_some_iff.mp q1;have hi':i < es.size:=by rw[<- S.inv.size];exact hi
    have ee:es[i]?=some es[i]:=by simp[hi']
    refine⟨i,es[i],q1,ee,fun z=>q2 ?_⟩;obtain⟨k',z',eh⟩:=hel es[i] (by simp)
    rw[ee];show es[i].1=_;rw[eh,z'.inj z]
  have inplace:∀ r,r < m + m1->(road t.mask r (start t.mask (hashT prog w k))).j∈t.place.toList:=fun r hr=>by
   obtain⟨i,e,q,_⟩:=ahead r hr;exact Array.mem_toList_iff.mpr (Array.mem_of_getElem? q)
  have hmM:m + m1<=M0:=by
   rcases Nat.lt_or_ge M0 (m + m1) with c | c
   ·exact absurd (inplace M0 c) hM
   ·exact c
  rcases p2 with⟨q1,q2⟩ | ⟨i,q1,q2,q3,q4⟩
  ·generalize hP:SetTable.probe t _ (hashT prog w k) (road t.mask m (start t.mask (hashT prog w k)))=pr;have e2:pr=some (.empty (road t.mask m1 (road t.mask m (start t.mask (hashT prog w k)))).j none):=by rw[<- hP];exact q2
   rw[e2];dsimp only;rw[<- aQr] at q1 ⊢;have pv:=(PV.road (m + m1) (aXi t.mask (hashT prog w k))).j;refine wpAny_pure (hfree _ (m + m1) (by lia) q1 rfl inplace ?_)
   rintro⟨e,he,hke⟩;obtain⟨i,hi,ei⟩:=List.getElem_of_mem he;have ee:es[i]?=some e:=by
    have h2:i < es.size:=by simpa using hi
    rw[<- ei];simp[h2]
   have hi':i < t.place.size:=by rw[S.inv.size];simpa using hi
   obtain⟨r,r1,r2⟩:=S.inv.reach i t.place[i] e (by simp[hi']) ee
   obtain⟨k',z',eh⟩:=hel e he;have hk':k'=k:=z'.inj hke;rw[eh,hk'] at r1 r2;rcases Nat.lt_or_ge r (m + m1) with c | c
   ·obtain⟨i',e',a1,a2,a3⟩:=ahead r c;rw[r1] at a1;have s1:=bXp S.inv.tab a1;have s2:=bXp (j:=t.place[i]) (i:=i) S.inv.tab (by simp[hi'])
    rw[s1] at s2;cases s2;rw[ee] at a2;cases a2;exact a3 hke
   ·rcases Nat.lt_or_eq_of_le c with c | c
    ·exact q1 (r2 _ c)
    ·rw[c,r1] at q1;exact q1 (by simp)
  ·generalize hP:SetTable.probe t _ (hashT prog w k) (road t.mask m (start t.mask (hashT prog w k)))=pr;have e2:pr=some (.candidate (road t.mask m1 (road t.mask m (start t.mask (hashT prog w k)))).j i (road t.mask (m1 + 1) (road t.mask m (start t.mask (hashT prog w k))))):=by rw[<- hP];exact q4
   rw[e2];dsimp only;have hi':i < es.size:=by
    obtain⟨hi,_⟩:=Array.getElem?_eq_some_iff.mp q1;rw[<- S.inv.size];exact hi
   have ee:es[i]?=some es[i]:=by simp[hi']
   obtain⟨k',hy,eh⟩:=hel es[i] (by simp)
   by_cases hled:t.led=true
   ·rw[hled];simp only[Bool.not_true,Bool.false_eq_true,if_false];rw[ee];obtain⟨b,eb,hb⟩:=hy;obtain⟨bx,ex,hbx⟩:=id hx;have hpair:es[i]=(es[i].1,Value.ref b):=by rw[<- eb]
    rw[hpair];dsimp only;refine wpAny_bind (wpAny_holding ?_);rw[ex];refine wpAny_eqBool_tuple hu hb hbx ?_;refine wpAny_bind (S.state ?_);dsimp only;have yes:k'=k->∃ e∈es.toList,TK prog w s.heap k e.2:=fun c=>⟨es[i],by simp,⟨b,eb,c ▸ hb⟩⟩
    by_cases hadd:(adding && decide (k'=k))=true
    ·rw[if_pos hadd];have c:k'=k:=by
      simp only[Bool.and_eq_true,decide_eq_true_eq] at hadd;exact hadd.2
     exact wpAny_pure (hfound none (yes c))
    ·rw[if_neg hadd];have sm:t.sameMemory t.moves t.mask=some true:=by unfold sameMemory;rw[if_pos (by simp)]
     rw[sm];dsimp only;rw[if_pos rfl,q2];dsimp only;rw[ee,hpair];dsimp only;refine wpAny_bind (wpAny_isSame_ref_self ?_);rw[if_pos rfl];refine wpAny_bind (wpAny_pure ?_);dsimp only
     by_cases c:k'=k
     ·rw[decide_eq_true c,if_pos rfl];exact wpAny_pure (hfound _ (yes c))
     ·rw[decide_eq_false c,if_neg Bool.false_ne_true];rw[<- ex];refine bXr S hu hel hx hM hfound hfree fuel (m + m1 + 1) _ (by lia) ?_ (fun r hr=>?_) ?_
      ·show road t.mask (m1 + 1) (road t.mask m _)=_;rw[<- aQr,Nat.add_assoc]
      ·rcases Nat.lt_or_eq_of_le (Nat.le_of_lt_succ hr) with d | d
       ·exact ahead r d
       ·rw[d];rw[<- aQr] at q1;refine⟨i,es[i],q1,ee,fun z=>c ?_⟩;exact TK.inj ⟨b,eb,hb⟩ z
      ·rcases Nat.lt_or_eq_of_le hmM with d | d
       ·exact d
       ·rw[<- aQr] at q1;rw[d] at q1;exact absurd (Array.mem_toList_iff.mpr (Array.mem_of_getElem? q1)) hM
   ·have hled':t.led=false:=Bool.eq_false_iff.mpr hled;rw[hled'];simp only[Bool.not_false,if_true];refine wpAny_bind (dJ9 hx (fun y hy'=>?_) ?_)
    ·obtain⟨e,he,rfl⟩:=List.mem_map.mp hy';have he':e∈es.toList:=by
      have:=Array.mem_toList_iff.mp he
      exact Array.mem_toList_iff.mpr (Array.mem_filter.mp this).1
     obtain⟨k',z,_⟩:=hel e he';exact⟨k',z⟩
    ·simp only[Bool.false_eq_true,if_false];rw[ee];obtain⟨b,eb,hb⟩:=hy;obtain⟨bx,ex,hbx⟩:=id hx;have hpair:es[i]=(es[i].1,Value.ref b):=by rw[<- eb]
     rw[hpair];dsimp only;refine wpAny_bind (wpAny_holding ?_);rw[ex];refine wpAny_eqBool_tuple hu hb hbx ?_;refine wpAny_bind (S.state ?_);dsimp only;have yes:k'=k->∃ e∈es.toList,TK prog w s.heap k e.2:=fun c=>⟨es[i],by simp,⟨b,eb,c ▸ hb⟩⟩
     by_cases hadd:(adding && decide (k'=k))=true
     ·rw[if_pos hadd];have c:k'=k:=by
       simp only[Bool.and_eq_true,decide_eq_true_eq] at hadd;exact hadd.2
      exact wpAny_pure (hfound none (yes c))
     ·rw[if_neg hadd];have sm:t.sameMemory t.moves t.mask=some true:=by unfold sameMemory;rw[if_pos (by simp)]
      rw[sm];dsimp only;rw[if_pos rfl,q2];dsimp only;rw[ee,hpair];dsimp only;refine wpAny_bind (wpAny_isSame_ref_self ?_);rw[if_pos rfl];refine wpAny_bind (wpAny_pure ?_);dsimp only
      by_cases c:k'=k
      ·rw[decide_eq_true c,if_pos rfl];exact wpAny_pure (hfound _ (yes c))
      ·rw[decide_eq_false c,if_neg Bool.false_ne_true];rw[<- ex];refine bXr S hu hel hx hM hfound hfree fuel (m + m1 + 1) _ (by lia) ?_ (fun r hr=>?_) ?_
       ·show road t.mask (m1 + 1) (road t.mask m _)=_;rw[<- aQr,Nat.add_assoc]
       ·rcases Nat.lt_or_eq_of_le (Nat.le_of_lt_succ hr) with d | d
        ·exact ahead r d
        ·rw[d];rw[<- aQr] at q1;refine⟨i,es[i],q1,ee,fun z=>c ?_⟩;exact TK.inj ⟨b,eb,hb⟩ z
       ·rcases Nat.lt_or_eq_of_le hmM with d | d
        ·exact d
        ·rw[<- aQr] at q1;rw[d] at q1;exact absurd (Array.mem_toList_iff.mpr (Array.mem_of_getElem? q1)) hM
end
section
variable {prog:Program} {w:World} {A:Around} {E:Value->Shared->Prop} {s:Shared}
theorem bXs (a:Addr) (wanted:Nat):setRelay a wanted=(do
 let (es,_,t) <- setState a
 if SetTable.sizeAbove wanted > sizeLine then unsupported "set:memory"
 let (es,t) <- (do
  let some (t,order):=t.relaid (es.map (·.1)) wanted | unsupported "internal:set-table-without-room"
  let es':=order.filterMap (es[·]?)
  if es'.size != es.size then unsupported "internal:set-table-lost-an-element"
  pure (es',t))
 storeSet a es t):=by rfl
theorem hbvT {k:List Str} {v:Value} {Q:Bool->Shared->Prop} (hk:TK prog w s.heap k v) (h:Q (decide (k=[])) s):wpAny (model prog w) A (hashByValue 8 v) Q E s:=by
 obtain⟨b,rfl,hk⟩:=hk;have hT:=hk.typeIs;obtain⟨o,items,n,ho,_,hd,hi⟩:=hk;unfold hashByValue;refine wpAny_bind (wpAny_specialOf hT PySem.F.slot_tuple_hash.lookup ?_);dsimp only;refine wpAny_bind (wpAny_seqItems ho hd ?_);refine wpAny_bind ?_;show wpAny _ _ (forIn items _ _) _ _ s;rw[<- Array.forIn_toList];generalize hits:items.toList=its at hi;cases hi with
 | nil =>
  rw[List.forIn_nil];exact wpAny_pure (wpAny_pure h)
 | cons h1 h2 =>
  obtain⟨t,e⟩:=Value.isStrOf_shape h1;subst e;rw[List.forIn_cons];have e2:∀ n x t,hashByValue n (Value.str x t)=pure false:=fun n x t=>by unfold hashByValue;rfl
  rw[e2];refine wpAny_bind (wpAny_bind (wpAny_pure ?_));simp only[Bool.not_false,if_true];refine wpAny_pure ?_;exact wpAny_pure (wpAny_pure (by simpa using h))
def bQh (prog:Program) (w:World) (h:Heap) (es:List (Int × Value)) (t:SetTable):Prop:=t.plain=true->∀ e∈es,TK prog w h [] e.2
theorem addT {a:Addr} {es:Array (Int × Value)} {ep:Nat} {t:SetTable} {k:List Str} {x:Value} (S:SetAt s.heap a es ep t) (hu:A.units < cLine) (hel:ElT prog w s.heap es.toList) (hpl:bQh prog w s.heap es.toList t) (hx:TK prog w s.heap k x) (hn:es.size + 1<=300) {Q:Bool->Shared->Prop}
  (h:∀ h' es' ep' t' added,SetAt h' a es' ep' t'->Heap.SameBut a s.heap h'->bQh prog w s.heap es'.toList t'->t'.led=t.led ->
   ((added=false/\es'=es/\∃ e∈es.toList,TK prog w s.heap k e.2)\/(added=true/\es'.toList.Perm ((hashT prog w k,x)::es.toList)/\¬ ∃ e∈es.toList,TK prog w s.heap k e.2))->Q added { s with heap:=h' }) :
  wpAny (model prog w) A (setAddHashed a x (hashT prog w k)) Q E s:=by
 unfold setAddHashed setAddHashedIn;refine wpAny_holding (wpAny_bind (S.state ?_));dsimp only;have hbs:byScan x es=false:=by
  obtain⟨b,rfl,_⟩:=hx
  rfl
 rw[hbs];simp only[Bool.false_eq_true,if_false];obtain⟨y,hy,hf⟩:=bQg S.inv.tab S.inv.le;obtain⟨m,hm,e⟩:=eXi S.inv.tab.mask (aXi t.mask (hashT prog w k)) hy;have hm':m < 100000 + 0:=by
  have:=S.inv.tab.mask
  have:t.mask<=511:=by rcases this with z | z | z | z <;> lia
  lia
 refine wpAny_bind ?_;unfold setSearch;refine bXr S hu hel hx (M0:=m) (by rw[e];exact hf) (fun i? hyes=>?_) (fun j r hj hfj ej hrj hno=>?_) 100000 0 none hm' rfl (fun m' h'=>absurd h' (Nat.not_lt_zero _)) (Nat.zero_le _)
 ·dsimp only;have q:=h s.heap es ep t false S (Heap.SameBut.refl a s.heap) hpl rfl (.inl ⟨rfl,rfl,hyes⟩);exact wpAny_pure q
 ·dsimp only;refine wpAny_bind (S.state ?_);dsimp only;have P:=put_set (x:=x) S.inv hj hfj ej hrj true;obtain⟨p1,p2,p3,p4,p5,p6⟩:=P;have p3d:(t.put j).1.dummies=#[]:=p3.nodum;have p3r:Ris (t.put j).1.place.toList:=p3.ris;have p3t:∀ a∈(t.put j).1.place.toList,a<=(t.put j).1.mask:=p3.top;generalize hes:SetTable.insertAt es (t.put j).2 (hashT prog w k,x)=es1 at p1 p2 p6 ⊢;have hperm:es1.toList.Perm ((hashT prog w k,x)::es.toList):=by
   rw[p1];refine List.perm_middle.trans ?_;rw[List.take_append_drop]
  have rest:∀ tt:SetTable,tt.place=(t.put j).1.place->tt.dummies=#[]->tt.mask=t.mask->tt.led=t.led->(tt.plain=true->t.plain=true/\k=[])->wpAny (model prog w) A (do
    storeSet a es1 tt
    if (!false && tt.tooFull)=true then do
     setRelay a (SetTable.grown (es.size + 1))
     pure true
    else pure true) Q E s:=by
   intro tt h1 h2 h3 h4 h5;have T':Tab tt:=⟨by rw[h3];exact S.inv.tab.mask,h2,by rw[h1];exact p3r,fun a ha=>by rw[h1] at ha;rw[h3,<- p5];exact p3t a ha⟩
   have hplain:∀ es'':List (Int × Value),es''.Perm ((hashT prog w k,x)::es.toList)->∀ t2:SetTable,t2.plain=tt.plain->bQh prog w s.heap es'' t2:=by
    intro es'' hp t2 ht2 hpt ee hee;rw[ht2] at hpt;obtain⟨q1,q2⟩:=h5 hpt;rcases List.mem_cons.mp (hp.mem_iff.mp hee) with q | q
    ·rw[q,<- q2];exact hx
    ·exact hpl q1 ee q
   have hz:es1.size<=sizeLine:=by rw[p2,sizeLine_eq];lia
   refine wpAny_bind (wpAny_storeSet_of S.obj rfl ?_ hz);have ho1:(s.heap.update a (Obj.putSet es1 tt)).get? a=some { cls:=.type "set",dict:=none,data:=.set es1 (ep + 1) tt }:=by
    have:=Heap.get?_update_self (Obj.putSet es1 tt) S.obj (by rw[putSet_of _ _ rfl];rfl)
    rw[putSet_of _ _ rfl] at this;exact this
   have hsb1:=Heap.SameBut.update s.heap a (Obj.putSet es1 tt);have tf:tt.tooFull=decide ((es.size + 1) * 5 >= t.mask * 3):=by
    unfold SetTable.tooFull SetTable.fill;rw[h2,h1,p4,h3]
    rfl
   have room:=S.inv.room
   by_cases hfull:(es.size + 1) * 5 >= t.mask * 3
   ·rw[tf,decide_eq_true hfull];simp only[Bool.not_false,Bool.and_self,if_true];obtain⟨mask',hm1,hm2,hm3,hm4⟩:=grow S.inv.tab.mask room hfull hn;obtain⟨t',order,r1,r2,r3,r4⟩:=cX1 (es:=es1) tt hm1 hm2 (by rw[p2];exact hm3)
    have hled:t'.led=tt.led/\t'.plain=tt.plain:=by
     unfold relaid laid at r1;cases hq:layClean (sizeAbove (grown (es.size + 1)) - 1) (Array.map (·.1) es1) with
     | none=>rw[hq] at r1;cases r1
     | some ow=>rw[hq] at r1;cases r1;exact⟨rfl,rfl⟩
    have hfit1:tt.fits es1.size=true:=by
     unfold SetTable.fits SetTable.fill
     have:t.mask >= 7:=by rcases S.inv.tab.mask with z | z | z | z <;> lia
     simp only[Bool.and_eq_true,beq_iff_eq,decide_eq_true_eq];rw[h2,h1,p4,p2,h3];refine⟨rfl,?_⟩;show es.size + 1 + 0<=t.mask;lia
    refine wpAny_bind ?_;rw[bXs];refine wpAny_bind (wpAny_setState_of ho1 rfl hfit1 ?_);dsimp only;rw[if_neg hm4,r1];dsimp only;rw[r2];simp only[bne_self_eq_false,Bool.false_eq_true,if_false,pure_bind];have hz2:(order.filterMap (es1[·]?)).size<=sizeLine:=by rw[r2];exact hz
    refine wpAny_storeSet_of ho1 rfl ?_ hz2;have ho2:((s.heap.update a (Obj.putSet es1 tt)).update a (Obj.putSet (order.filterMap (es1[·]?)) t')).get? a=some { cls:=.type "set",dict:=none,data:=.set (order.filterMap (es1[·]?)) (ep + 1 + 1) t' }:=by
     have:=Heap.get?_update_self (Obj.putSet (order.filterMap (es1[·]?)) t') ho1 (by rw[putSet_of _ _ rfl];rfl)
     rw[putSet_of _ _ rfl] at this;exact this
    have hsb2:=hsb1.trans (Heap.SameBut.update (s.heap.update a (Obj.putSet es1 tt)) a (Obj.putSet (order.filterMap (es1[·]?)) t'));exact wpAny_pure (h _ _ _ _ true ⟨ho2,r3⟩ hsb2 (hplain _ (r4.trans hperm) _ hled.2) (hled.1.trans h4) (.inr ⟨rfl,r4.trans hperm,hno⟩))
   ·rw[tf,decide_eq_false hfull];simp only[Bool.and_false,Bool.false_eq_true,if_false];have I':SetI es1 tt:=by
     refine⟨T',by rw[h1,p4,p2],by rw[h3,p2];lia,fun i j' e' q1 q2=>?_⟩
     rw[h1] at q1;obtain⟨r,r1,r2⟩:=p6 i j' e' q1 q2;rw[h3,h1];exact⟨r,r1,r2⟩
    exact wpAny_pure (h _ _ (ep + 1) _ true ⟨ho1,I'⟩ hsb1 (hplain _ hperm _ rfl) h4 (.inr ⟨rfl,hperm,hno⟩))
  by_cases hp:t.plain=true
  ·have hp':(t.put j).1.plain=true:=hp;rw[hp'];simp only[if_true];refine wpAny_bind (hbvT hx ?_)
   by_cases hk:k=[]
   ·rw[decide_eq_true hk];simp only[if_true];exact rest (t.put j).1 rfl p3d p5 rfl (fun _=>⟨hp,hk⟩)
   ·rw[decide_eq_false hk];simp only[Bool.false_eq_true,if_false];exact rest { (t.put j).1 with plain:=false } rfl p3d p5 rfl (fun z=>nomatch z)
  ·have hp':(t.put j).1.plain=false:=Bool.eq_false_iff.mpr hp;rw[hp'];simp only[Bool.false_eq_true,if_false];refine wpAny_bind (wpAny_pure ?_);simp only[if_true];exact rest (t.put j).1 rfl p3d p5 rfl (fun z=>by rw[hp'] at z;cases z)
theorem dJa {a:Addr} {es:Array (Int × Value)} {ep:Nat} {t:SetTable} {k:List Str} {x:Value} (S:SetAt s.heap a es ep t) (hu:A.units < cLine) (hel:ElT prog w s.heap es.toList) (hpl:bQh prog w s.heap es.toList t) (hx:TK prog w s.heap k x) (hn:es.size + 1<=300) {Q:Bool->Shared->Prop}
  (h:∀ h' tk es' ep' t' added,SetAt h' a es' ep' t'->Heap.SameBut a s.heap h'->bQh prog w s.heap es'.toList t'->t'.led=t.led->s.toks<=tk ->
   ((added=false/\es'=es/\∃ e∈es.toList,TK prog w s.heap k e.2)\/(added=true/\es'.toList.Perm ((hashT prog w k,x)::es.toList)/\¬ ∃ e∈es.toList,TK prog w s.heap k e.2))->Q added { s with heap:=h',toks:=tk }) :
  wpAny (model prog w) A (setAdd a x) Q E s:=by
 obtain⟨b,rfl,hk⟩:=id hx;unfold setAdd;refine wpAny_holding (wpAny_bind (wpAny_pyHash_tuple hu hk ?_));exact addT (s:={ s with toks:=s.toks + (k.length + 1) }) S hu hel hpl hx hn fun h' es' ep' t' added h1 h2 h3 h4 h5=>h h' _ es' ep' t' added h1 h2 h3 h4 (Nat.le_add_right _ _) h5
end
def TupKeep (h h':Heap):Prop:=∀ b o,h.get? b=some o->o.cls=.type "tuple"->h'.get? b=some o
theorem TupKeep.trans {a b c:Heap} (x:TupKeep a b) (y:TupKeep b c):TupKeep a c:=fun d o e h=>y d o (x d o e h) h
def setOb (es:Array (Int × Value)) (ep:Nat) (t:SetTable):Obj:={ cls:=.type "set",dict:=none,data:=.set es ep t }
structure SetKd (prog:Program) (w:World) (κ:Type) where
 is:Heap->κ->Value->Prop
 I:Heap->Addr->Array (Int × Value)->Nat->SetTable->Prop
 inj:∀ {h:Heap} {k k':κ} {v:Value},is h k v->is h k' v->k=k'
 obj:∀ {h:Heap} {a:Addr} {es:Array (Int × Value)} {ep:Nat} {t:SetTable},I h a es ep t->h.get? a=some (setOb es ep t)
 fits:∀ {h:Heap} {a:Addr} {es:Array (Int × Value)} {ep:Nat} {t:SetTable},I h a es ep t->t.fits es.size=true
 few:∀ {h:Heap} {a:Addr} {es:Array (Int × Value)} {ep:Nat} {t:SetTable} {ks:List κ},I h a es ep t->Paired (fun(e:Int × Value) k=>is h k e.2) es.toList ks->ks.Nodup->t.plain=true->es.size<=1
 fresh:∀ {h:Heap} {a:Addr} {led:Bool},h.get? a=some (setOb #[] 0 (.fresh 0 0 led))->I h a #[] 0 (.fresh 0 0 led)
 keepIs:∀ {h h':Heap} {k:κ} {v:Value},is h k v->TupKeep h h'->is h' k v
 keepI:∀ {h h':Heap} {a:Addr} {es:Array (Int × Value)} {ep:Nat} {t:SetTable},I h a es ep t->h'.get? a=h.get? a->TupKeep h h'->I h' a es ep t
 add:∀ {A:Around} {E:Value->Shared->Prop} {s:Shared} {a:Addr} {es:Array (Int × Value)} {ep:Nat} {t:SetTable} {k:κ} {x:Value} {Q:Bool->Shared->Prop},A.units < cLine->I s.heap a es ep t->is s.heap k x->es.size + 1<=300 ->
  (∀ h' tk es' ep' t' added,I h' a es' ep' t'->Heap.SameBut a s.heap h'->t'.led=t.led->s.toks<=tk ->
   ((added=false/\es'=es/\∃ e∈es.toList,is s.heap k e.2)\/(added=true/\(∃ hh,es'.toList.Perm ((hh,x)::es.toList))/\¬ ∃ e∈es.toList,is s.heap k e.2))->Q added { s with heap:=h',toks:=tk }) ->
  wpAny (model prog w) A (setAdd a x) Q E s
theorem aX9 {h h':Heap} {a:Addr} {es:Array (Int × Value)} {ep:Nat} {t:SetTable} (ho:h.get? a=some (setOb es ep t)) (sb:Heap.SameBut a h h'):TupKeep h h':=fun b o e c=>by
 refine(sb.2 b ?_).trans e;rintro rfl;rw[ho] at e;have e':o=setOb es ep t:=(Option.some.inj e).symm;rw[e'] at c;have c':Value.type "set" = Value.type "tuple":=c;injection c' with c''
 exact absurd c'' (by decide)
section
variable {prog:Program} {w:World}
theorem TK.keep {h h':Heap} {k:List Str} {v:Value} (x:TK prog w h k v) (kp:TupKeep h h'):TK prog w h' k v:=by
 obtain⟨b,rfl,o,items,n,ho,hc,hd,hi⟩:=x;exact⟨b,rfl,o,items,n,kp b o ho hc,hc,hd,hi⟩
theorem paired_mem {α β:Type} {R:α->β->Prop}:∀ {l:List α} {m:List β},Paired R l m->∀ a∈l,∃ b∈m,R a b
 | _,_,.nil,a,h=>nomatch h
 | _,_,.cons r t,a,h=>by
  rcases List.mem_cons.mp h with rfl | h
  ·exact⟨_,List.mem_cons_self,r⟩
  ·obtain⟨b,hb,q⟩:=paired_mem t a h;exact⟨b,List.mem_cons_of_mem _ hb,q⟩
theorem paired_mem' {α β:Type} {R:α->β->Prop}:∀ {l:List α} {m:List β},Paired R l m->∀ b∈m,∃ a∈l,R a b
 | _,_,.nil,a,h=>nomatch h
 | _,_,.cons r t,a,h=>by
  rcases List.mem_cons.mp h with rfl | h
  ·exact⟨_,List.mem_cons_self,r⟩
  ·obtain⟨b,hb,q⟩:=paired_mem' t a h;exact⟨b,List.mem_cons_of_mem _ hb,q⟩
theorem paired_perm {α β:Type} {R:α->β->Prop} {l l':List α} (p:l'.Perm l):∀ {m:List β},Paired R l m->∃ m',m'.Perm m/\Paired R l' m':=by
 have gen:∀ {l l':List α},l.Perm l'->∀ {m:List β},Paired R l m->∃ m',m'.Perm m/\Paired R l' m':=by
  intro l l' p
  induction p with
  | nil=>intro m h;cases h;exact⟨[],List.Perm.refl _,.nil⟩
  | cons x _ ih =>
   intro m h;cases h with
   | cons r t =>
    obtain⟨m',h1,h2⟩:=ih t;exact⟨_,h1.cons _,.cons r h2⟩
  | swap x y l =>
   intro m h;cases h with
   | cons r t =>
    cases t with
    | cons r2 t2=>exact⟨_,List.Perm.swap _ _ _,.cons r2 (.cons r t2)⟩
  | trans _ _ ih1 ih2 =>
   intro m h;obtain⟨m1,a1,b1⟩:=ih1 h;obtain⟨m2,a2,b2⟩:=ih2 b1;exact⟨m2,a2.trans a1,b2⟩
 intro m h;exact gen p.symm h
theorem few_aux {α β:Type} {R:α->β->Prop} {k0:β} {l:List α} {m:List β} (hp:Paired R l m) (h0:∀ a∈l,R a k0) (inj:∀ a b b',R a b->R a b'->b=b') (nd:m.Nodup):l.length<=1:=by
 cases hp with
 | nil=>exact Nat.zero_le _
 | cons r1 t1 =>
  cases t1 with
  | nil=>exact Nat.le_refl _
  | cons r2 t2 =>
   have k1:=inj _ _ _ (h0 _ List.mem_cons_self) r1;have k2:=inj _ _ _ (h0 _ (List.mem_cons_of_mem _ List.mem_cons_self)) r2
   have:=(List.nodup_cons.mp nd).1
   exact absurd (by rw[<- k1,k2];exact List.mem_cons_self) this
theorem bJo {P:Int × Value->Prop}:∀ e∈(#[]:Array (Int × Value)).toList,P e:=fun e he=>absurd he (by simp)
def tupKd (prog:Program) (w:World):SetKd prog w (List Str) where
 is:=TK prog w
 I:=fun h a es ep t=>SetAt h a es ep t/\ElT prog w h es.toList/\bQh prog w h es.toList t
 inj:=fun a b=>a.inj b
 obj:=fun x=>x.1.obj
 fits:=fun x=>x.1.inv.fits
 few:=fun {h a es ep t ks} x hp nd hpl=>by
  have q:=few_aux hp (x.2.2 hpl) (fun _ _ _ r1 r2=>r1.inj r2) nd;simpa using q
 fresh:=fun ho=>⟨⟨ho,fresh_ok _ _ _⟩,bJo,fun _=>bJo⟩
 keepIs:=fun x kp=>x.keep kp
 keepI:=fun x e kp=>⟨⟨by rw[e];exact x.1.obj,x.1.inv⟩,fun e he=>by
  obtain⟨k,q1,q2⟩:=x.2.1 e he;exact⟨k,q1.keep kp,q2⟩,fun hp e he=>(x.2.2 hp e he).keep kp⟩
 add:=fun {A E s a es ep t k x Q} hu hI hx hn h=>by
  obtain⟨S,hel,hpl⟩:=hI;refine dJa S hu hel hpl hx hn fun h' tk es' ep' t' added h1 h2 h3 h4 h5 h6=>?_;have kp:=aX9 S.obj h2;refine h h' tk es' ep' t' added ⟨h1,?_,fun hp e he=>(h3 hp e he).keep kp⟩ h2 h4 h5 ?_
  ·intro e he;rcases h6 with⟨_,rfl,_⟩ | ⟨_,hp,_⟩
   ·obtain⟨k,q1,q2⟩:=hel e he;exact⟨k,q1.keep kp,q2⟩
   ·rcases List.mem_cons.mp (hp.mem_iff.mp he) with q | q
    ·rw[q];exact⟨k,hx.keep kp,rfl⟩
    ·obtain⟨k,q1,q2⟩:=hel e q;exact⟨k,q1.keep kp,q2⟩
  ·rcases h6 with q | ⟨q1,q2,q3⟩
   ·exact .inl q
   ·exact .inr ⟨q1,⟨_,q2⟩,q3⟩
end
section
variable {prog:Program} {w:World}
structure Mem {κ:Type} (D:SetKd prog w κ) (h:Heap) (a:Addr) (done:List κ) (led:Bool) (ks:List κ):Prop where
 ex:∃ es ep t,D.I h a es ep t/\t.led=led/\Paired (fun(e:Int × Value) k=>D.is h k e.2) es.toList ks
 nd:ks.Nodup
 mem:∀ k,k∈ks↔k∈done
theorem Mem.keep {κ:Type} {D:SetKd prog w κ} {h h':Heap} {a:Addr} {done:List κ} {led:Bool} {ks:List κ} (M:Mem D h a done led ks) (e:h'.get? a=h.get? a) (kp:TupKeep h h'):Mem D h' a done led ks:=by
 obtain⟨es,ep,t,h1,h2,h3⟩:=M.ex;exact⟨⟨es,ep,t,D.keepI h1 e kp,h2,L2.Paired.mapP h3 fun _ _ q=>D.keepIs q kp⟩,M.nd,M.mem⟩
theorem Mem.size {κ:Type} {D:SetKd prog w κ} {h:Heap} {a:Addr} {done:List κ} {led:Bool} {ks:List κ} (M:Mem D h a done led ks):ks.length<=done.length :=
 M.nd.length_le_of_subset fun k hk=>(M.mem k).mp hk
theorem addM {κ:Type} [DecidableEq κ] (D:SetKd prog w κ) {A:Around} {E:Value->Shared->Prop} {s:Shared} {a:Addr} {done:List κ} {led:Bool} {ks:List κ} {k:κ} {x:Value} {Q:Bool->Shared->Prop} (hu:A.units < cLine) (M:Mem D s.heap a done led ks) (hx:D.is s.heap k x) (hn:done.length + 1<=300)
  (h:∀ h' tk ks',Mem D h' a (done++[k]) led ks'->Heap.SameBut a s.heap h'->TupKeep s.heap h'->s.toks<=tk->Q (decide (k∉ks)) { s with heap:=h',toks:=tk }) :
  wpAny (model prog w) A (setAdd a x) Q E s:=by
 have hsz:=M.size;obtain⟨es,ep,t,h1,h2,h3⟩:=M.ex;have hl:es.size=ks.length:=by have:=Paired.length h3;simpa using this
 refine D.add hu h1 hx (by lia) fun h' tk es' ep' t' added q1 q2 q3 q4 q5=>?_
 have kp:=aX9 (D.obj h1) q2;have h3':Paired (fun(e:Int × Value) k=>D.is h' k e.2) es.toList ks:=L2.Paired.mapP h3 fun _ _ q=>D.keepIs q kp;have isin:(∃ e∈es.toList,D.is s.heap k e.2)↔k∈ks:=by
  constructor
  ·rintro⟨e,he,q⟩;obtain⟨k',hk',q'⟩:=paired_mem h3 e he;rw[D.inj q q'];exact hk'
  ·intro hk;obtain⟨e,he,q⟩:=paired_mem' h3 k hk;exact⟨e,he,q⟩
 rcases q5 with⟨r1,r2,r3⟩ | ⟨r1,⟨hh,r2⟩,r3⟩
 ·have hk:=isin.mp r3;have q:=h h' tk ks ⟨⟨es',ep',t',q1,q3.trans h2,by rw[r2];exact h3'⟩,M.nd,fun k'=>by
   rw[M.mem k',List.mem_append,List.mem_singleton];exact⟨.inl,fun z=>z.elim id fun z=>by rw[z];exact(M.mem k).mp hk⟩⟩ q2 kp q4
  rw[decide_eq_false (fun z=>z hk)] at q;rw[r1];exact q
 ·have hk:k∉ks:=fun z=>r3 (isin.mpr z);obtain⟨ks',p1,p2⟩:=paired_perm r2 (R:=fun(e:Int × Value) k=>D.is h' k e.2) (m:=k::ks) (.cons (D.keepIs hx kp) h3');have q:=h h' tk ks' ⟨⟨es',ep',t',q1,q3.trans h2,p2⟩,p1.nodup_iff.mpr (List.nodup_cons.mpr ⟨hk,M.nd⟩),fun k'=>by
   rw[p1.mem_iff,List.mem_cons,List.mem_append,List.mem_singleton,M.mem k'];exact⟨fun z=>z.symm,fun z=>z.symm⟩⟩ q2 kp q4
  rw[decide_eq_true hk] at q;rw[r1];exact q
theorem dQc {κ:Type} [DecidableEq κ] (D:SetKd prog w κ) {A:Around} {R:Result->Shared->Prop} {I S l:Addr} {items:Array Value} {ks:List κ} {led:Bool} (hh:A.in1.handled=none) (hu:A.in1.units < cLine) (hne:l≠I) (hSI:S≠I) (hSl:S≠l) (hn:items.size + 1<=300) :
  ∀ (j i:Nat) (s:Shared),items.size - i=j->i<=items.size->s.heap.IsListIter I l i->s.heap.IsList l items->Paired (fun v k=>D.is s.heap k v) items.toList ks->(∃ ms,Mem D s.heap S (ks.take i) led ms) ->
   (∀ h' tk ms,Mem D h' S ks led ms->TupKeep s.heap h'->(∀ b o,b≠S->b≠I->s.heap.get? b=some o->h'.get? b=some o)->R (.ok (.ret .none)) { s with heap:=h',toks:=tk }) ->
   codeAny (model prog w) A (.builtin "set.update.loop" ⟨[.ref S,.ref I],[]⟩) R s:=by
 have itk:∀ {h h':Heap} {i:Nat},h.IsListIter I l i->(∀ b o,b≠I->h.get? b=some o->h'.get? b=some o)->TupKeep h h':=fun st k b o e c=>k b o (by
  rintro rfl;obtain⟨o',e',c',_⟩:=st;rw[e] at e';cases e';rw[c] at c';injection c' with c''
  exact absurd c'' (by decide)) e
 intro j
 induction j with
 | zero =>
  intro i s hj hi hst hl hp hM hR;have hin:i=items.size:=by lia
  subst hin;refine codeAny_builtin PyProof.Rows.F.entry_set_update_loop ?_;rw[Around.under_plainId PyProof.Rows.F.plain_set_update_loop _];show wpAny _ A.in1 (pyNext (.ref I) >>= _) _ _ s;refine wpAny_bind (wpAny_pyNext_list_end hh hst hl (by simp) fun h' eb=>?_)
  show wpAny _ A.in1 (ret Value.none) _ _ _;have kp:=itk hst fun b o hb e=>eb b o hb e;obtain⟨ms,M⟩:=hM;have hlen:ks.length=items.size:=by have:=Paired.length hp;simpa using this.symm
  rw[List.take_of_length_le (by lia)] at M
  obtain⟨es,ep,t,h1,_⟩:=id M.ex;have hS:=D.obj h1;exact wpAny_pure (hR h' s.toks ms (M.keep (by rw[hS];exact eb S _ hSI hS) kp) kp fun b o _ hb e=>eb b o hb e)
 | succ j ih =>
  intro i s hj hi hst hl hp hM hR;have hlt:i < items.size:=by lia
  refine codeAny_builtin PyProof.Rows.F.entry_set_update_loop ?_;rw[Around.under_plainId PyProof.Rows.F.plain_set_update_loop _];show wpAny _ A.in1 (pyNext (.ref I) >>= _) _ _ s;refine wpAny_bind (wpAny_pyNext_list_item hst hl (x:=items[i]) (by simp[hlt]) fun h1 st1 sb1=>?_)
  have kp1:=itk hst fun b o hb e=>(sb1.2 b hb).trans e;obtain⟨ms,M⟩:=hM;obtain⟨es,ep,t,q1,_⟩:=id M.ex;have hS:=D.obj q1;have M1:=M.keep (h':=h1) (by rw[sb1.2 S hSI]) kp1
  have hlen:ks.length=items.size:=by have:=Paired.length hp;simpa using this.symm
  have hki:ks[i]?=some ks[i]:=List.getElem?_eq_getElem (by lia)
  have hx:D.is s.heap ks[i] items[i]:=by
   have gen:∀ {l:List Value} {m:List κ},Paired (fun v k=>D.is s.heap k v) l m->∀ (n:Nat) (v:Value) (k:κ),l[n]?=some v->m[n]?=some k->D.is s.heap k v:=by
    intro l m hp
    induction hp with
    | nil=>intro n v k h;simp at h
    | cons r _ ih =>
     intro n v k h1 h2;cases n with
     | zero=>simp at h1 h2;subst h1;subst h2;exact r
     | succ n=>exact ih n v k (by simpa using h1) (by simpa using h2)
   exact gen hp i _ _ (by simp[hlt]) hki
  show wpAny _ A.in1 (holding [items[i]] (setAdd S items[i]) >>= _) _ _ _;refine wpAny_bind (wpAny_holding ?_);refine addM D (s:={ s with heap:=h1 }) hu M1 (D.keepIs hx kp1) (by rw[List.length_take];lia) fun h2 tk ms' M2 sb2 kp2 htk=>?_
  have hl2:h2.IsList l items:=by
   obtain⟨o,e,r⟩:=hl;exact⟨o,(sb2.2 l (Ne.symm hSl)).trans ((sb1.2 l hne).trans e),r⟩
  have st2:h2.IsListIter I l (i + 1):=by
   obtain⟨o,e,r⟩:=st1;exact⟨o,(sb2.2 I (Ne.symm hSI)).trans e,r⟩
  refine wpAny_pure ⟨plainId_quiet PyProof.Rows.F.plain_set_update_loop _,ih (i + 1) _ (by lia) hlt st2 hl2 (L2.Paired.mapP hp fun _ _ q=>D.keepIs q (kp1.trans kp2)) ⟨ms',?_⟩ fun h' tk' ms'' a1 a2 a3=>?_⟩
  ·have et:ks.take (i + 1)=ks.take i++[ks[i]]:=by rw[List.take_add_one,hki];rfl
   rw[et];exact M2
  ·exact hR h' tk' ms'' a1 ((kp1.trans kp2).trans a2) fun b o hb1 hb2 e=>a3 b o hb1 hb2 ((sb2.2 b hb1).trans ((sb1.2 b hb2).trans e))
abbrev ledOf (w:World):Bool:=!(w.params.followText "set-order")
theorem dQd {A:Around} {E:Value->Shared->Prop} {s:Shared} (a:Value) {Q1:Value->Shared->Prop}
  (h:Q1 (.ref s.heap.objs.size) { s with heap:=s.heap.push (setOb #[] 0 (.fresh 0 0 (ledOf w))) }) :
  codeAny (model prog w) A (.call (.builtin "set.__new__") ⟨[.type "set",a],[]⟩) (wants Q1 E) s:=by
 refine codeAny_of_tree ?_;show wpAny _ A.in1 (do checkBuiltinCall "set.__new__" ⟨[.type "set",a],[]⟩;again (.builtin "set.__new__" ⟨[.type "set",a],[]⟩)) _ _ s
 refine wpAny_bind (wpAny_of_eq (PySem.F.newCall_set_1 a) (wpAny_pure ⟨plainId_quiet PySem.F.plain_set_new _,codeAny_builtin PySem.F.entry_set_new ?_⟩));rw[Around.under_plainId PySem.F.plain_set_new _];unfold Builtin.«set.__new__» Builtin.Frozenset.newClass;have hsub:=sub_set_self;obtain⟨hp,g,d,tk,os⟩:=s;dsimp only
 wp_walk
 refine wpAny_askSetting (wpAny_pure ?_);dsimp only;simp only[newObj];refine wpAny_bind (wpAny_alloc (wpAny_pure ?_));exact wpAny_pure h
end
section
variable {prog:Program} {w:World}
theorem call_setK {κ:Type} [DecidableEq κ] (D:SetKd prog w κ) {A:Around} {E:Value->Shared->Prop} {s:Shared} {l:Addr} {items:Array Value} {ks:List κ} {Q:Value->Shared->Prop}
  (hh:A.handled=none) (hu:A.units + 8 < cLine) (hl:s.heap.IsList l items) (hi:Paired (fun v k=>D.is s.heap k v) items.toList ks) (hb:items.size + 1<=300)
  (h:∀ (h':Heap) (tk:Nat) ms,Mem D h' s.heap.objs.size ks (ledOf w) ms->TupKeep s.heap h' ->
   (∀ b o,b < s.heap.objs.size->s.heap.get? b=some o->h'.get? b=some o)->Q (.ref s.heap.objs.size) { s with heap:=h',toks:=tk }) :
  wpAny (model prog w) A (call (.type "set") [.ref l]) Q E s:=by
 obtain⟨c,tl,hmro⟩:=PySem.F.called_set.mro;have hmade:=PySem.F.called_set.made;have hsub:=PySem.F.called_set.sub;refine wpAny_call (codeAny_of_tree ?_);show wpAny _ _ (callAny (.type "set") _) _ _ _;refine wpAny_pure ⟨Code.quiet_builtin _ (by decide +kernel),codeAny_builtin PySem.F.entry_type_call ?_⟩
 rw[Around.under_plain (weight_type_call_type "set" [.ref l] []) rfl];have h1:=PySem.F.called_set.notType;have h2:=PySem.F.called_set.canCreate;have hct:=PySem.F.typeCall_set_1 (.ref l)
 repeat (any_goals (first | assumption | wp_step))
 refine codeAny_mono (dQd (.ref l) (E:=E) (Q1:=fun obj s1=>obj=.ref s.heap.objs.size/\s1={ s with heap:=s.heap.push (setOb #[] 0 (.fresh 0 0 (ledOf w))) }) ⟨rfl,rfl⟩) fun r s1 hr=>?_
 cases r with
 | error e=>exact hr
 | ok fl =>
  cases fl with
  | ret obj =>
   obtain⟨rfl,rfl⟩:=hr;have hS:(s.heap.push (setOb #[] 0 (.fresh 0 0 (ledOf w)))).get? s.heap.objs.size=some (setOb #[] 0 (.fresh 0 0 (ledOf w))):=Heap.get?_push_size _ rfl;have hT:Shared.TypeIs { s with heap:=s.heap.push (setOb #[] 0 (.fresh 0 0 (ledOf w))) } (.ref s.heap.objs.size) "set":=⟨_,hS,rfl⟩
   have hli:=PySem.F.called_set.init.lookup;have hbi:=PySem.F.called_set.init.bind (.ref s.heap.objs.size)
   repeat (any_goals (first | assumption | wp_step))
   refine codeAny_mono (codeAny_call_builtin (R:=wants (fun r s2=>r=.none/\∃ h' tk ms,s2={ s with heap:=h',toks:=tk }/\Mem D h' s.heap.objs.size ks (ledOf w) ms/\TupKeep s.heap h' /\
     (∀ b o,b < s.heap.objs.size->s.heap.get? b=some o->h'.get? b=some o)) E) PySem.F.called_set.init.plain PySem.F.entry_set_init (check_set_init_1 hT ?_)) fun r2 s2 hr2=>?_
   ·obtain⟨ol,hol,hcl,nl,hdl⟩:=hl;obtain⟨ocls,odict,odata,oslots⟩:=ol;simp only at hcl hdl;subst hcl;subst hdl;have hol':(s.heap.push (setOb #[] 0 (.fresh 0 0 (ledOf w)))).get? l=some { cls:=.type "list",dict:=odict,data:=.seq items nl,slots:=oslots }:=Heap.get?_push_of_some _ hol;have hsls:=PySem.F.sub_list_set;have hslf:=PySem.F.sub_list_frozenset;have hne:(Value.type "list" == Value.type "dict")=false:=by decide
    have hl1:(s.heap.push (setOb #[] 0 (.fresh 0 0 (ledOf w)))).IsList l items:=⟨_,hol',rfl,nl,rfl⟩;unfold Builtin.«set.__init__» noKeywords Builtin.Frozenset.updateFrom;generalize hPI:pyIter=PI;unfold setOb at *
    wp_walk
    subst hPI;refine wpAny_pyIter_list hl1 ?_;refine wpAny_bind (wpAny_runValue ?_);have hlS:l < s.heap.objs.size:=Heap.lt_size hol;have hh3:A.in1.in1.in1.handled=none:=by simp[hh]
    have hu3:A.in1.in1.in1.units < cLine:=by show A.units + 1 + 1 + 1 < cLine;lia
    have hneI:l≠(s.heap.push { cls:=.type "set",dict:=none,data:=.set #[] 0 (.fresh 0 0 (ledOf w)) }).objs.size:=by
     rw[Heap.size_push];exact Nat.ne_of_lt (Nat.lt_succ_of_lt hlS)
    have hSI:s.heap.objs.size≠(s.heap.push { cls:=.type "set",dict:=none,data:=.set #[] 0 (.fresh 0 0 (ledOf w)) }).objs.size:=by
     rw[Heap.size_push];exact Nat.ne_of_lt (Nat.lt_succ_self _)
    have kp:TupKeep s.heap ((s.heap.push { cls:=.type "set",dict:=none,data:=.set #[] 0 (.fresh 0 0 (ledOf w)) }).push { cls:=.type "list_iterator",data:=.fields #[.ref l,.int 0 0] }):=fun b o e _=>Heap.get?_push_of_some _ (Heap.get?_push_of_some _ e)
    have hget:((s.heap.push { cls:=.type "set",dict:=none,data:=.set #[] 0 (.fresh 0 0 (ledOf w)) }).push { cls:=.type "list_iterator",data:=.fields #[.ref l,.int 0 0] }).get? s.heap.objs.size
       = some (setOb #[] 0 (.fresh 0 0 (ledOf w))):=Heap.get?_push_of_some _ hS
    refine dQc D hh3 hu3 hneI hSI (Ne.symm (Nat.ne_of_lt hlS)) hb (items.size - 0) 0 _ (by lia) (Nat.zero_le _) ⟨_,Heap.get?_push_size _ rfl,rfl,rfl⟩ (hl1.push _) (L2.Paired.mapP hi fun _ _ q=>D.keepIs q kp)
     ⟨[],⟨⟨#[],0,.fresh 0 0 (ledOf w),D.fresh hget,rfl,.nil⟩,List.nodup_nil,fun k=>by simp⟩⟩ ?hR
    case hR =>
     intro h' tk' ms hM kp' hk';show wpAny _ _ _ _ _ _;refine wpAny_pure ?_;show wpAny _ _ (ret Value.none) _ _ _;refine wpAny_pure ⟨rfl,h',tk',ms,rfl,hM,kp.trans kp',fun b o hb e=>?_⟩;exact hk' b o (Nat.ne_of_lt hb) (by rw[Heap.size_push];exact Nat.ne_of_lt (Nat.lt_succ_of_lt hb)) (Heap.get?_push_of_some _ (Heap.get?_push_of_some _ e))
   ·cases r2 with
    | error e=>exact hr2
    | ok fl2 =>
     cases fl2 with
     | ret r =>
      obtain⟨rfl,h',tk,ms,rfl,hM,kp',hk'⟩:=hr2
      repeat (any_goals (first | assumption | wp_step))
      exact h _ _ _ hM kp' hk'
     | _=>exact hr2.elim
  | _=>exact hr.elim
end
section
variable {prog:Program} {w:World}
end
end ST
set_option maxHeartbeats 1000000
namespace L2
open PySem PySem.Spec PyProof.Rows
variable {α β:Type}
theorem cX2 {H:Hp} {xs:List V} {us:List Value} {bs:List Bool} (p:Paired (dB H) xs bs) (r:Vals xs us) {i:Nat} {v:Value} (h:us[i]?=some v):∃ b,bs[i]?=some b/\v=.bool b:=by
 have hl:=r.length;have hi:i < xs.length:=by
  rcases Nat.lt_or_ge i us.length with z | z
  ·lia
  ·rw[List.getElem?_eq_none z] at h;cases h
 obtain⟨b,e,rb⟩:=Paired.get' p (List.getElem?_eq_getElem hi);obtain⟨u,eu,ru⟩:=r.get (List.getElem?_eq_getElem hi);rw[h] at eu;cases eu;have rb':xs[i]=V.bl b:=rb;rw[rb'] at ru;exact⟨b,e,ru⟩
theorem bJp {h h':Heap} {o:Obj} (hk:∀ b x,b∉[h.objs.size]->(h.push o).get? b=some x->h'.get? b=some x):∀ b x,h.get? b=some x->h'.get? b=some x:=fun b x e =>
 hk b x (fun z=>by have:=List.mem_singleton.mp z;subst this;exact Nat.lt_irrefl _ (Heap.lt_size e)) (Heap.get?_push_of_some _ e)
theorem cQu (bs:List Bool):∀ n,n=bs.length->((List.range n).all fun i=>(bs[i]?).getD true)=bs.all id:=by
 rintro n rfl;rw[Bool.eq_iff_iff,List.all_eq_true,List.all_eq_true];refine⟨fun h b hb=>?_,fun h i hi=>?_⟩
 ·obtain⟨i,hi,rfl⟩:=List.getElem_of_mem hb
  have:=h i (List.mem_range.mpr hi)
  rwa [List.getElem?_eq_getElem hi] at this
 ·have hi':=List.mem_range.mp hi;rw[List.getElem?_eq_getElem hi'];exact h _ (List.getElem_mem hi')
theorem cQv (bs:List Bool):∀ n,n=bs.length->((List.range n).any fun i=>(bs[i]?).getD false)=bs.any id:=by
 rintro n rfl;rw[Bool.eq_iff_iff,List.any_eq_true,List.any_eq_true];refine⟨fun⟨i,hi,h⟩=>?_,fun⟨b,hb,h⟩=>?_⟩
 ·have hi':=List.mem_range.mp hi;rw[List.getElem?_eq_getElem hi'] at h;exact⟨_,List.getElem_mem hi',h⟩
 ·obtain⟨i,hi,rfl⟩:=List.getElem_of_mem hb;exact⟨i,List.mem_range.mpr hi,by rw[List.getElem?_eq_getElem hi];exact h⟩
section
variable {X:Cx}
theorem cX3 (hc:X.calm=true):CallR X (.builtin "all") (fun xs H Q=>∃ x bs,xs=[x]/\dL X.K dB H x bs/\Q (.bl (bs.all id)) H):=by
 intro pins s σ H xs us Q I r h;obtain⟨x,bs,rfl,⟨a,ys,rfl,hq,p⟩,q⟩:=h;obtain⟨u,rfl,rx⟩:=aXh r;cases rx;obtain⟨its,ri,pl,_⟩:=I.list hq;obtain⟨o,ho,_⟩:=id pl.isList;refine PySem.call_all_walk (wpAny_pyIter_list pl.isList ⟨_,_,_,_,_,_,fun i=>(bs[i]?).getD true,rfl,PySem.Walks.list (A:=X.A.in1) (by have:=I.ok.hd hc;simp[this]) _ a (Nat.ne_of_lt (Heap.lt_size ho)) its.toArray,⟨⟨_,Heap.get?_push_size _ rfl,rfl,rfl⟩,pl.isList.push _⟩,fun i v s' Q' E' hP hQ=>?_,fun h' tk hk=>?_⟩)
 ·obtain⟨b,e,rfl⟩:=cX2 p ri (show its[i]?=some v by simpa using hP)
  simp only[e,Option.getD_some] at hQ;exact wpAny_truthy_bool hQ
 ·rw[cQu bs _ (by rw[List.size_toArray,<- ri.length,p.length])]
  exact⟨.bl _,H,I.kept (t':=tk) (bJp hk),rfl,q⟩
theorem cX4 (hc:X.calm=true):CallR X (.builtin "any") (fun xs H Q=>∃ x bs,xs=[x]/\dL X.K dB H x bs/\Q (.bl (bs.any id)) H):=by
 intro pins s σ H xs us Q I r h;obtain⟨x,bs,rfl,⟨a,ys,rfl,hq,p⟩,q⟩:=h;obtain⟨u,rfl,rx⟩:=aXh r;cases rx;obtain⟨its,ri,pl,_⟩:=I.list hq;obtain⟨o,ho,_⟩:=id pl.isList;refine PySem.call_any_walk (wpAny_pyIter_list pl.isList ⟨_,_,_,_,_,_,fun i=>(bs[i]?).getD false,rfl,PySem.Walks.list (A:=X.A.in1) (by have:=I.ok.hd hc;simp[this]) _ a (Nat.ne_of_lt (Heap.lt_size ho)) its.toArray,⟨⟨_,Heap.get?_push_size _ rfl,rfl,rfl⟩,pl.isList.push _⟩,fun i v s' Q' E' hP hQ=>?_,fun h' tk hk=>?_⟩)
 ·obtain⟨b,e,rfl⟩:=cX2 p ri (show its[i]?=some v by simpa using hP)
  simp only[e,Option.getD_some] at hQ;exact wpAny_truthy_bool hQ
 ·rw[cQv bs _ (by rw[List.size_toArray,<- ri.length,p.length])]
  exact⟨.bl _,H,I.kept (t':=tk) (bJp hk),rfl,q⟩
def SzOk (ds:List α) (n:Nat):Prop:=n<=ds.length/\(n=ds.length↔ds.Nodup)
theorem aXz [DecidableEq α]:∀ (ds ms:List α),ms.Nodup->ms ⊆ ds->ds.length<=ms.length->ds.Nodup
 | [],_,_,_,_=>List.nodup_nil
 | x::xs,ms,nd,sub,le=>by
  have hx:x∉xs:=fun hx=>by
   have:ms ⊆ xs:=fun k hk=>by
    rcases List.mem_cons.mp (sub hk) with rfl | z
    ·exact hx
    ·exact z
   have:=nd.length_le_of_subset this
   simp only[List.length_cons] at le;lia
  refine List.nodup_cons.mpr ⟨hx,aXz xs (ms.erase x) (nd.erase x) (fun k hk=>?_) ?_⟩
  ·have hk':=(List.Nodup.mem_erase_iff nd).mp hk;exact(List.mem_cons.mp (sub hk'.2)).resolve_left hk'.1
  ·simp only[List.length_cons] at le
   have:=List.length_erase (a:=x) (l:=ms)
   split at this <;> lia
theorem dJb [DecidableEq α] {ds ms:List α} (nd:ms.Nodup) (h:∀ k,k∈ms↔k∈ds):SzOk ds ms.length:=by
 have sub:ms ⊆ ds:=fun k hk=>(h k).mp hk;have le:ms.length<=ds.length:=nd.length_le_of_subset sub;refine⟨le,fun e=>?_,fun nd'=>Nat.le_antisymm le (nd'.length_le_of_subset fun k hk=>(h k).mpr hk)⟩;exact aXz ds ms nd sub (by lia)
theorem dJc {P:Program} {w:World} {h:Heap} {H:Hp} {K:Fg} {b:Addr} {xs:List V} {its:List Value} {k:List Str} (p:Paired (dS H) xs k) (r:Vals xs its) (t:IsTup h b its.toArray):ST.TK P w h k (.ref b):=by
 obtain⟨o,ho,hc,n,hd⟩:=t;refine⟨b,rfl,o,its.toArray,n,ho,hc,hd,?_⟩;show ItemsAre (PySem.strKind P w) k its;have go:∀ {xs:List V} {its:List Value} {k:List Str},Paired (dS H) xs k->Vals xs its->ItemsAre (PySem.strKind P w) k its:=by
  intro xs its k p r
  induction p generalizing its with
  | nil=>cases r;first | exact trivial | exact .nil
  | cons e _ ih =>
   cases r with
   | cons r t =>
    cases e;obtain⟨tk,rfl⟩:=r
    first
     | exact⟨by simp[PySem.strKind,Value.isStrOf],ih t⟩
     | exact .cons (by simp[PySem.strKind,Value.isStrOf]) (ih t)
 exact go p r
end
end L2
set_option maxHeartbeats 4000000
namespace L2
open PySem PySem.Spec PyProof.Rows
section
variable {prog:Program} {w:World} {A:Around} {E:Value->Shared->Prop} {s:Shared}
theorem dJd {it t:Addr} {i:Nat} {items:Array Value} {x:Value} {Q:Value->Shared->Prop} (hit:s.heap.IsTupleIter it t i) (ht:s.heap.IsTuple t items) (hx:items[i]?=some x)
  (hQ:∀ h',h'.IsTupleIter it t (i + 1)->Heap.SameBut it s.heap h'->Q x { s with heap:=h' }):wpAny (model prog w) A (Builtin.SmallTypes.nextOf (.ref it)) Q E s:=by
 obtain⟨o,ho,hc,hd⟩:=id hit;obtain⟨ol,hol,_,nl,hdl⟩:=ht;have ne:¬ ((Value.ref t == Value.none)=true):=Bool.false_ne_true;refine wpAny_bind (wpAny_callSpecial?_slot (name:=Str.ofString "__next__") hit.typeIs F.slot_tuple_iterator_next (wpAny_call_entry F.slot_tuple_iterator_next hit.typeIs F.entry_tuple_iterator_next ?_ (F.args_tuple_iterator_next_1 _)));refine wpAny_bind (m:=field (.ref it) 0) (wpAny_field ho hd (x:=.ref t) rfl ?_);refine(if_neg ne).symm ▸ (wpAny_bind (m:=field (.ref it) 1) (wpAny_field ho hd (x:=.int i 0) rfl ?_));refine wpAny_bind (m:=seqItems? (.ref t)) (wpAny_seqItems hol hdl ?_);simp only[Int.toNat_natCast,hx];refine wpAny_bind (wpAny_setField ho hd (by simp) (wpAny_pure ⟨x,rfl,wpAny_pure (hQ _ ⟨_,Heap.get?_update_self _ ho (Obj.isFreed_of_fields (Obj.data_mapFields hd _)),(Obj.cls_mapFields ..).trans hc,?_⟩ (Heap.SameBut.update ..))⟩))
 rw[Obj.data_mapFields hd];simp[rawInt]
theorem dZo {it t:Addr} {i:Nat} {items:Array Value} {Q:Value->Shared->Prop} (hh:A.handled=none) (hit:s.heap.IsTupleIter it t i) (ht:s.heap.IsTuple t items) (hx:items[i]?=none)
  (hE:∀ h' e,Heap.ExtBut it s.heap h'->(∃ o,h'.get? e=some o/\o.cls=.type "StopIteration")->E (.ref e) { s with heap:=h' }):wpAny (model prog w) A (Builtin.SmallTypes.nextOf (.ref it)) Q E s:=by
 obtain⟨o,ho,hc,hd⟩:=id hit;obtain⟨ol,hol,_,nl,hdl⟩:=ht;have ne:¬ ((Value.ref t == Value.none)=true):=Bool.false_ne_true;refine wpAny_bind (wpAny_callSpecial?_slot (name:=Str.ofString "__next__") hit.typeIs F.slot_tuple_iterator_next (wpAny_call_entry F.slot_tuple_iterator_next hit.typeIs F.entry_tuple_iterator_next ?_ (F.args_tuple_iterator_next_1 _)));refine wpAny_bind (m:=field (.ref it) 0) (wpAny_field ho hd (x:=.ref t) rfl ?_);refine(if_neg ne).symm ▸ (wpAny_bind (m:=field (.ref it) 1) (wpAny_field ho hd (x:=.int i 0) rfl ?_));refine wpAny_bind (m:=seqItems? (.ref t)) (wpAny_seqItems hol hdl ?_);simp only[Int.toNat_natCast,hx];refine wpAny_bind (wpAny_rule (wpAny_bind (wpAny_setField ho hd (by simp) (wpAny_bind (m:=newExc (.type "StopIteration") []) ?_))))
 simp only[newExc,newTuple];refine wpAny_bind (wpAny_newObj_type (wpAny_bind (m:=firstArgMember _ _) (wpAny_of_eq (a:=Value.none) (by first | rfl | (simp only[firstArgMember];rfl)) (wpAny_newObj_type ?_ (by size_fits)))) (by size_fits))
 simp only[raiseNew];refine wpAny_bind (wpAny_handled ?_)
 first | rw[show A.in1.handled=none from hh] | rw[hh]
 exact wpAny_bind (wpAny_pure (wpAny_throw (hE _ _ (((Heap.SameBut.update ..).extBut.push _).push _) ⟨_,Heap.get?_push_size _ rfl,rfl⟩)))
theorem cX5 (hh:A.handled=none) (it l:Addr) (hne:l≠it) (items:Array Value):Draws prog w A it [it,l] items.size (fun i v=>items[i]?=some v) (fun i h=>h.IsTupleIter it l i/\h.IsTuple l items) where
 live:=fun _ _ st=>let ⟨o,ho,_⟩:=st.1;⟨o,ho⟩
 frame:=fun _ _ _ st hk=>⟨let ⟨o,ho,r⟩:=st.1;⟨o,hk it (by simp) o ho,r⟩,let ⟨o,ho,r⟩:=st.2;⟨o,hk l (by simp) o ho,r⟩⟩
 item:=fun i s Q E hi st hQ=>dJd st.1 st.2 (x:=items[i]) (by simp[hi]) fun h' hit' hs'=>hQ _ h' s.toks (by simp[hi]) ⟨hit',st.2.extBut hs'.extBut hne⟩ hs'
 done:=fun s Q E st hE=>dZo hh st.1 st.2 (by simp) hE
theorem eXk (l:Addr) (items:Array Value) (n:Nat) (dct:Option Addr) (sl:Array (Option Value)) :
  Meets (Builtin.«enumerate.__new__» ⟨[.type "enumerate",.ref l],[]⟩) (fun _ R s=>s.heap.get? l=some { cls:=.type "tuple",dict:=dct,data:=.seq items n,slots:=sl } /\
   R (.ok (.ret (.ref (s.heap.push { cls:=.type "tuple_iterator",data:=.fields #[.ref l,.int 0 0] }).objs.size)))
    { s with heap:=(s.heap.push { cls:=.type "tuple_iterator",data:=.fields #[.ref l,.int 0 0] }).push { cls:=.type "enumerate",data:=.fields #[.none,.bool false,.ref s.heap.objs.size,rawInt 0,.none,.none] } }) :=
 .of_wp fun prog w A R s h=>by
  obtain⟨hp,g,d,tk,os⟩:=s;obtain⟨hl,h⟩:=h;have hsub:=sub_enumerate;have hT:Heap.IsTuple (Shared.heap ⟨hp,g,d,tk,os⟩) l items:=⟨_,hl,rfl,n,rfl⟩
  wp_walk using wpAny_loadPart' hl
  refine wpAny_stack_any fun st=>wpAny_pure ?_
  split
  ·rename_i c _ _ _ _ _;cases (c == Value.type "enumerate") <;>
   ·wp_walk using wpAny_loadPart' hl,wpAny_pyIter_tuple hT
    exact⟨_,rfl,h⟩
  ·wp_walk using wpAny_loadPart' hl,wpAny_pyIter_tuple hT
   exact⟨_,rfl,h⟩
theorem dJe {l:Addr} {items:Array Value} {Q:Value->Shared->Prop} (hT:s.heap.IsTuple l items)
  (h:∀ h',IsEnum h' (s.heap.objs.size + 1) s.heap.objs.size 0 .none->h'.IsTupleIter s.heap.objs.size l 0->(∀ b o,s.heap.get? b=some o->h'.get? b=some o)->Q (.ref (s.heap.objs.size + 1)) { s with heap:=h' }) :
  wpAny (model prog w) A (call (.type "enumerate") [.ref l]) Q E s:=by
 obtain⟨⟨c,dct,dt,sl⟩,hl,hc,n,hd⟩:=hT;replace hc:c=.type "tuple":=hc;replace hd:dt=.seq items n:=hd;subst hc hd;refine callType_new F.called_enumerate (by decide) (F.typeCall_enumerate_1 _) (F.newCall_enumerate_1 _) (fun obj=>F.args_object_init_2 obj _) F.entry_enumerate_new (eXk l items n dct sl) ⟨hl,?_⟩
 generalize ho:({ cls:=.type "tuple_iterator",data:=.fields #[.ref l,.int 0 0] }:Obj)=o1;have hz:(s.heap.push o1).objs.size=s.heap.objs.size + 1:=Heap.size_push ..;have he:=Heap.get?_push_size (s.heap.push o1) (o:={ cls:=.type "enumerate",data:=.fields #[.none,.bool false,.ref s.heap.objs.size,rawInt 0,.none,.none] }) rfl;have hi:(s.heap.push o1).get? s.heap.objs.size=some o1:=Heap.get?_push_size _ (by rw[<- ho];rfl)
 show _/\_;rw[hz] at he ⊢;exact⟨⟨_,he,rfl⟩,h _ he ⟨o1,Heap.get?_push_of_some _ hi,by rw[<- ho],by rw[<- ho];rfl⟩ fun b o x=>Heap.get?_push_of_some _ (Heap.get?_push_of_some _ x)⟩
end
def Ite (K:Fg) (a:Addr):It:=⟨fun i H=>∃ xs x,SqT K H a xs/\xs[i]?=some x,fun i H x H'=>∃ p y,H p=none/\x=.ref p/\H'=upd H p (.tup [.int i,y])/\∀ xs,SqT K H a xs->xs[i]?=some y,fun i H=>∃ xs,SqT K H a xs/\xs.length<=i⟩
theorem dJf {P:Program} {w:World} {K:Fg} {elts:List Expr} {x1:Nat} {pos:Pos} (a it e:Addr) (hei:e≠it) (hae:a≠e) (hai:a≠it):Turn P w K (.Tuple elts x1 pos) (Ite K a) [e,it] e (fun i h=>(∃ old,IsEnum h e it i old)/\h.IsTupleIter it a i) where
 mem:=by simp
 obj:=fun i h st b hb=>by
  obtain⟨⟨old,he⟩,o,ho,hc,hd⟩:=st;rcases List.mem_cons.mp hb with rfl | hb
  ·exact⟨_,he,fun v z=>by cases z⟩
  ·have:=List.mem_singleton.mp hb
   subst this;exact⟨o,ho,fun v z=>by rw[hd] at z;cases z⟩
 keep:=fun i h h' st k=>by
  obtain⟨⟨old,he⟩,o,ho,r⟩:=st;exact⟨⟨old,k e (by simp) _ he⟩,o,k it (by simp) _ ho,r⟩
 item:=by
  intro X hP hw hK hc i pins s σ H E I hf st hg;subst hP hw hK;obtain⟨xs,x,hq,hx⟩:=hg;obtain⟨its,rv,p,hz⟩:=I.tuple hq;obtain⟨u,hu,ru⟩:=rv.get hx;obtain⟨⟨old,he⟩,st2⟩:=st;have hi:i < its.toArray.size:=by
   rcases Nat.lt_or_ge i its.toArray.size with z | z
   ·exact z
   ·rw[List.size_toArray] at z;rw[List.getElem?_eq_none z] at hu;cases hu
  have hh:X.A.in1.handled=none:=by have:=I.ok.hd hc;simp[this]
  have hT:s.heap.IsTuple a its.toArray:=p;refine wpAny_pyNext_enum_itemD (cX5 hh it a hai its.toArray) he ⟨st2,hT⟩ hi hei (by simp;exact⟨hei,fun z=>hae z.symm⟩) fun y h' tk hy ho hs' hT' hsz hk=>⟨_,rfl,?_⟩
  have hy':y=u:=by
   have:its[i]?=some y:=by simpa using hy
   rw[hu] at this;exact(Option.some.inj this).symm
  subst hy';refine wpAny_letOwnedTupleGo_enum ho fun h2 he2 hs2=>?_;have fe:=hf e (by simp)
  have fi:=hf it (by simp)
  have kk:∀ b o,b≠e->b≠it->s.heap.get? b=some o->h2.get? b=some o:=fun b o n1 n2 g=>(hs2.2 b n1).trans (hk b o n1 n2 g);have hel:e < s.heap.objs.size:=Heap.lt_size he;have hfresh:H s.heap.objs.size=none:=I.hok.fresh (Nat.le_refl _);have nT:∀ b o,s.heap.get? b=some o->b≠s.heap.objs.size:=fun b o g=>Nat.ne_of_lt (Heap.lt_size g);have nH:∀ b u,H b=some u->b≠e/\b≠it:=fun b u g=>⟨fun z=>(by rw[z,fe.1] at g;cases g),fun z=>(by rw[z,fi.1] at g;cases g)⟩
  have tupT:h2.get? s.heap.objs.size=some { cls:=.type "tuple",data:=.seq #[.int i tk,y] }:=(hs2.2 _ (Nat.ne_of_gt hel)).trans hT';have hok:HOk X.prog X.w (upd H s.heap.objs.size (.tup [.int i,x])) h2:=fun b ob g=>by
   by_cases hb:b=s.heap.objs.size
   ·subst hb;rw[aQ6] at g;cases g;refine⟨by rw[sizeLine_eq];show 2<=_;decide,[.int i tk,y],.cons ⟨tk,rfl⟩ (.cons ru .nil),_,tupT,rfl,0,rfl⟩
   ·rw[upd_ne hb] at g;refine(I.hok b ob g).stay (fun c w' hc' q=>?_) (fun c q=>?_) fun c ys q=>?_
    ·rcases hc' with rfl | hc'
     ·exact kk _ _ (nH _ _ g).1 (nH _ _ g).2 q
     ·exact kk _ _ (nH _ _ hc').1 (nH _ _ hc').2 q
    ·rw[upd_ne (aQc q hfresh)];exact q
    ·rw[upd_ne (aQc q hfresh)];exact q
  have un:Un (frs X.stack) [e,it] H (upd H s.heap.objs.size (.tup [.int i,x])) s.heap h2:=by
   have ab:∀ {b:Addr},b∉[e,it]->b≠e/\b≠it:=fun hb=>⟨fun z=>hb (by simp[z]),fun z=>hb (by simp[z])⟩
   exact⟨fun b o g _ _ hb=>kk b o (ab hb).1 (ab hb).2 g,fun b o g _ _ hb=>⟨o.slots,kk b o (ab hb).1 (ab hb).2 g⟩,fun b o g n _=>by rw[upd_ne (nT b o g)];exact n,fun b o g hb=>⟨o,kk b o (ab hb).1 (ab hb).2 g⟩,
    fun b ys g=>by rw[upd_ne (aQc g hfresh)];exact g,fun b o v g=>by rw[upd_ne (aQc g hfresh)];exact g,fun b ps g=>⟨#[],by rw[upd_ne (aQc g hfresh),g];simp⟩⟩
  have I2:Inv X pins σ (upd H s.heap.objs.size (.tup [.int i,x])) { s with heap:=h2,toks:=tk + 1 }:=I.call' (s':={ s with heap:=h2,toks:=tk + 1 }) rfl un hok I.bare fun b hb=>by
   rcases List.mem_cons.mp hb with rfl | hb
   ·exact⟨fe.2.2.2.1,fe.2.1,fe.2.2.2.2.1,fe.2.2.2.2.2⟩
   ·have:=List.mem_singleton.mp hb
    subst this;exact⟨fi.2.2.2.1,fi.2.1,fi.2.2.2.2.1,fi.2.2.2.2.2⟩
  refine⟨.ref s.heap.objs.size,_,I2,rfl,⟨_,x,hfresh,rfl,rfl,fun ys hy=>by rw[I.tuple_inj hy hq];exact hx⟩,⟨⟨_,by simpa using he2⟩,?_⟩,fun b hb=>?_⟩
  ·obtain⟨o,g,r⟩:=hs'.1;exact⟨o,(hs2.2 it (Ne.symm hei)).trans g,r⟩
  ·have hb':b < s.heap.objs.size:=by
    rcases List.mem_cons.mp hb with rfl | hb
    ·exact hel
    ·have:=List.mem_singleton.mp hb
     subst this;obtain⟨o,g,_⟩:=st2;exact Heap.lt_size g
   rw[upd_ne (Nat.ne_of_lt hb')];exact(hf b hb).1
 done:=by
  intro X hP hw hK hc i pins s σ H E I hf st hg;subst hP hw hK;obtain⟨xs,hq,hx⟩:=hg;obtain⟨its,rv,p,hz⟩:=I.tuple hq;obtain⟨⟨old,he⟩,st2⟩:=st;have hl:=rv.length;have hh:X.A.in1.handled=none:=by have:=I.ok.hd hc;simp[this]
  have hT:s.heap.IsTuple a its.toArray:=p;obtain⟨f0,f1,f2,f3,f4,f5⟩:=hf it (by simp)
  have hT2:s.TypeIs (.ref e) "enumerate":=⟨_,he,rfl⟩;unfold pyNext;refine wpAny_bind (wpAny_attempt (wpAny_callSpecial?_slot (name:=Str.ofString "__next__") hT2 F.slot_enumerate_next (wpAny_call_entry F.slot_enumerate_next hT2 F.entry_enumerate_next ?_ (F.args_enumerate_next_1 _))));refine wpAny_bind (m:=field (.ref e) 2) (wpAny_field he rfl (x:=.ref it) rfl (wpAny_bind (dZo hh st2 hT (by simp;lia) fun h' x he' hx'=>?_)))
  obtain⟨o,ho,hc'⟩:=hx';refine wpAny_bind (wpAny_isInstance (T := "StopIteration") (b:=true) ⟨o,ho,hc'⟩ isSubtype_stop ?_);exact wpAny_pure ⟨rfl,I.turned (t':=s.toks) (fun b o hb g=>he' b o hb g) f0 f1 f3 f4 f5⟩
 self:=fun A i s Q E st h=>by
  obtain⟨⟨old,he⟩,_⟩:=st;exact wpAny_pyIter_enum he h
section
variable {X:Cx}
def iEnT (K:Fg) (ta:TA):TI:=fun σ H R=>ta σ H fun vs H1=>∃ a,vs=[.ref a]/\(∃ xs,SqT K H1 a xs)/\R (Ite K a) H1
theorem fZi {e:Expr} {ta:TA} {p pos:Pos} {elts:List Expr} {x1:Nat} {tpos:Pos} (hg:Gl X "enumerate") (hm:X.mg "enumerate" = none) (ha:PA X [e] ta) (hs:starEach [e] X.env=[(false,eval e X.env)]:=by rfl) :
  PI X (.Tuple elts x1 tpos) (.Call (.Name "enumerate" p) [e] [] pos) (iEnT X.K ta):=by
 intro pins s σ H R I h;refine Call_ (ld_blt I hg hm PyProof.Rows.boot_enumerate (PyProof.Rows.callWith_type1 (thn (ha pos pins s σ H _ I h) fun us s1 ⟨vs,H1,I1,r1,q1⟩=>?_) hs rfl));obtain⟨a,rfl,⟨xs,hq⟩,q⟩:=q1;obtain⟨u,rfl,rx⟩:=aXh r1;cases rx;obtain⟨its,rv,pl,hz⟩:=I1.tuple hq;have hal:a < s1.heap.objs.size:=by obtain⟨o,e,_⟩:=id pl;exact Heap.lt_size e
 refine dJe (show s1.heap.IsTuple a its.toArray from pl) fun h' he hi hk=>wpAny_pyIter_enum he ?_
 refine⟨s1.heap.objs.size + 1,[s1.heap.objs.size + 1,s1.heap.objs.size],_,_,H1,rfl,I1.kept (t':=s1.toks) hk,dJf a s1.heap.objs.size (s1.heap.objs.size + 1) (Nat.succ_ne_self _) (Nat.ne_of_lt (Nat.lt_succ_of_lt hal)) (Nat.ne_of_lt hal),⟨⟨_,he⟩,hi⟩,fun b hb=>?_,q⟩;rcases List.mem_cons.mp hb with rfl | hb
 ·exact I1.fpOk (Nat.le_succ _) (I1.hok.fresh (Nat.le_succ _))
 ·have:=List.mem_singleton.mp hb
  subst this;exact I1.fpOk (Nat.le_refl _) (I1.hok.fresh (Nat.le_refl _))
end
end L2
namespace HT
open PySem PyProof.Rows
def ltS (a b:Str):Bool:=decide (a.cps.toList < b.cps.toList)
def lexS:List Str->List Str->Bool
 | [],[]=>false
 | [],_::_=>true
 | _::_,[]=>false
 | x::xs,y::ys=>if x=y then lexS xs ys else ltS x y
theorem lexS_cons (x y:Str) (xs ys:List Str):lexS (x::xs) (y::ys)=if x=y then lexS xs ys else ltS x y:=rfl
theorem bZx:lexS [] []=false:=rfl
theorem lexS_nil_cons (y:Str) (ys:List Str):lexS [] (y::ys)=true:=rfl
theorem lexS_cons_nil (x:Str) (xs:List Str):lexS (x::xs) []=false:=rfl
abbrev SAre:List Value->List Str->Prop:=Paired fun v x=>∃ t,v=.str x t
theorem SAre.len {l:List Value} {m:List Str} (h:SAre l m):l.length=m.length:=Paired.length h
theorem dJg (A:Around) (s:Shared) (a:Str) (t:Tok) (c:Str) (u:Tok):∃ e,SeqAt.EqAt A s (.str a t) (.str c u) e/\(e=true↔a=c) :=
 ⟨(a == c),SeqAt.EqAt.str_str a t c u,by simp⟩
theorem rcLt_st (A:Around) (s:Shared) (a:Str) (t:Tok) (c:Str) (u:Tok) (prog:Program) (w:World) (E:Value->Shared->Prop) (Q:Value->Shared->Prop) (h:Q (.bool (ltS a c)) s) :
  wpAny (model prog w) A (richCompare .Lt (.str a t) (.str c u)) Q E s :=
 (PyProof.Rows.lt_str h:wpAny (model prog w) A (compareOp .Lt (.str a t) (.str c u)) Q E s)
section
open PySem.SeqAt
open PySem.AutoSeq1 (wpAny_loadPart')
open PySem.MeetsSeq PySem.MeetsSeq2 PySem.MeetsSeq3
theorem tuple_lt_strs (l b:Addr) (items items2:Array Value) (n n2:Nat) (dd dd2:Option Addr) (sl sl2:Array (Option Value)) (ns ms:List Str) (hi:SAre items.toList ns) (hj:SAre items2.toList ms) :
  Meets (Builtin.«tuple.__lt__» ⟨[.ref l,.ref b],[]⟩)
   (fun _ R s=>s.heap.get? l=some { cls:=.type "tuple",dict:=dd,data:=.seq items n,slots:=sl }/\s.heap.get? b=some { cls:=.type "tuple",dict:=dd2,data:=.seq items2 n2,slots:=sl2 } /\
    R (.ok (.ret (.bool (lexS ns ms)))) s) :=
 .of_wp fun prog w A R s h=>by
  obtain⟨hp,g,d,tk,os⟩:=s;obtain⟨hl,hb,h⟩:=h;have f2:=AutoSeq1.sub_tuple_tuple;have z1:items.size=ns.length:=by rw[<- hi.len];simp
  have z2:items2.size=ms.length:=by rw[<- hj.len];simp
  wp_walk using wpAny_loadPart' hl,wpAny_loadPart' hb,wpAny_forIn_list _ (fun rest b s'=>b.1=none/\s'=⟨hp,g,d,tk,os⟩/\∃ (vs ws:List Value) (ns' ms':List Str),rest=vs.zip ws /\
   SAre vs ns'/\SAre ws ms'/\ns'.length + items2.size=ms'.length + items.size/\R (.ok (.ret (.bool (lexS ns' ms')))) ⟨hp,g,d,tk,os⟩) _
  case turn =>
   rintro⟨y,x⟩ rest b s' ⟨hb',rfl,vs,ws,ns',ms',hz,hvi,hwi,hlen,hR⟩;cases hvi with
   | nil=>rw[List.zip_nil_left] at hz;cases hz
   | @cons va a _ _ ha hvi' =>
    obtain⟨t,rfl⟩:=ha;cases hwi with
    | nil=>rw[List.zip_nil_right] at hz;cases hz
    | @cons vc c _ _ hc hwi' =>
     obtain⟨u,rfl⟩:=hc;rw[List.zip_cons_cons] at hz;injection hz with hyx hrest
     injection hyx with hy hx
     subst hy hx;rw[lexS_cons] at hR;simp only[List.length_cons] at hlen;obtain⟨e,he,hiff⟩:=dJg A.in1 ⟨hp,g,d,tk,os⟩ a t c u;refine wpAny_bind (he prog w _ _ ?_);cases e with
     | true =>
      rw[if_pos (hiff.mp rfl)] at hR
      wp_walk
      exact⟨rfl,rfl,_,_,_,_,hrest,hvi',hwi',by lia,hR⟩
     | false =>
      rw[if_neg (fun q=>absurd (hiff.mpr q) Bool.false_ne_true)] at hR;have hri:=rcLt_st A.in1 ⟨hp,g,d,tk,os⟩ a t c u prog w
      wp_walk using hri
      exact⟨_,rfl,by simpa using hR⟩
  case fin =>
   rintro⟨b1,b2⟩ s' ⟨hb',rfl,vs,ws,ns',ms',hz,hvi,hwi,hlen,hR⟩;simp only at hb';subst hb';have hv:lexS ns' ms'=decide (items.size < items2.size):=by
    cases hvi with
    | nil =>
     cases hwi with
     | nil =>
      simp only[List.length_nil] at hlen;rw[bZx];exact(decide_eq_false (by lia)).symm
     | cons hc hw =>
      simp only[List.length_nil,List.length_cons] at hlen;rw[lexS_nil_cons];exact(decide_eq_true (by lia)).symm
    | cons ha hv =>
     cases hwi with
     | nil =>
      simp only[List.length_nil,List.length_cons] at hlen;rw[lexS_cons_nil];exact(decide_eq_false (by lia)).symm
     | cons hc hw =>
      rw[List.zip_cons_cons] at hz;cases hz
   rw[hv] at hR
   wp_walk
   exact⟨_,rfl,by simpa [Builtin.Tuple.tupleCompareSizes] using hR⟩
  case h =>
   exact⟨rfl,rfl,items.toList,items2.toList,ns,ms,rfl,hi,hj,by lia,h⟩
end
section
variable {prog:Program} {w:World} {A:Around} {E:Value->Shared->Prop} {s:Shared}
theorem lt_tupStrs {l b:Addr} {items items2:Array Value} {ns ms:List Str} {Q:Value->Shared->Prop} (hl:IsTup s.heap l items) (hb:IsTup s.heap b items2) (hi:SAre items.toList ns) (hj:SAre items2.toList ms)
  (hu:A.units < cLine) (h:Q (.bool (lexS ns ms)) s):wpAny (model prog w) A (compareOp .Lt (.ref l) (.ref b)) Q E s:=by
 obtain⟨⟨cls,dd,data,sl⟩,ho,hc,n,hd⟩:=id hl;obtain⟨⟨cls2,dd2,data2,sl2⟩,ho2,hc2,n2,hd2⟩:=id hb;simp only at hc hd hc2 hd2;subst hc hd hc2 hd2;exact richCompare_meets_room (op:=.Lt) ⟨_,ho,rfl⟩ ⟨_,ho2,rfl⟩ PySem.F.slot_tuple_lt PySem.F.entry_tuple_lt (PySem.F.args_tuple_lt_2 _ _) (tuple_lt_strs l b items items2 n n2 dd dd2 sl sl2 ns ms hi hj)
  ⟨ho,ho2,show Value.bool (lexS ns ms)≠Value.notImplemented/\Q (.bool (lexS ns ms)) s from⟨(fun x=>nomatch x),h⟩⟩ hu
end
end HT
namespace L2
open PySem PySem.Spec PyProof.Rows
theorem aJl {H:Hp}:∀ {xs:List V} {us:List Value} {ds:List Str},Paired (dS H) xs ds->Vals xs us->HT.SAre us ds
 | _,_,_,.nil,.nil=>.nil
 | _,_,_,.cons p q,.cons r t=>by
  cases p;exact .cons r (aJl q t)
def rLtS (K:Fg):R2:=fun x y H Q=>∃ d e,dT K dS H x d/\dT K dS H y e/\Q (.bl (HT.lexS d e)) H
theorem eXl {X:Cx} (hu:X.A.units < cLine):OpR X (compareOp .Lt) (rLtS X.K):=by
 intro pins s σ H x y v u Q I rx ry h;obtain⟨d,e,⟨a,xs,rfl,ha,pa⟩,⟨b,ys,rfl,hb,pb⟩,q⟩:=h;cases rx;cases ry;obtain⟨its,r1,p1,_⟩:=I.tuple ha;obtain⟨its2,r2,p2,_⟩:=I.tuple hb;exact HT.lt_tupStrs p1 p2 (aJl pa r1) (aJl pb r2) hu ⟨.bl (HT.lexS d e),H,I,rfl,q⟩
end L2
set_option maxHeartbeats 1000000
namespace L2
open PySem PySem.Spec PyProof.Rows
variable {α β γ:Type}
theorem eXm {X:Cx} {N':List Str} {scope:Scope} {cl:List (Str × Addr)} {C:Addr} {fp:List Addr} {s:Shared} {H:Hp} {x:Str}:(aQ8 X N' scope cl C fp s H (some x)).fn x=true:=decide_eq_true rfl
theorem nd_ (l:List Str) (h:l.Nodup:=by decide +kernel):l.Nodup:=h
theorem lt64 {k n:Nat} {A:Around} (r:Room k A) (h:n<=64:=by decide):A.units + n < cLine:=by have:=r.units;lia
section
variable {X:Cx} {K:Fg} {tg:Expr} {a:Expr} {ta:TE}
theorem dJh (hK:X.K=K:=by rfl):SlR X (rSlT K):=hK ▸ eX5
theorem dQe (hK:X.K=K:=by rfl):SlR X (rSlL K):=hK ▸ dXy
theorem dQf (hK:X.K=K:=by rfl):OpR X (binaryOp .Add) (dXw K):=hK ▸ dXx
theorem bXt (hK:X.K=K:=by rfl):CallR X (.type "tuple") (fun xs H Q=>∃ p ys,xs=[.ref p]/\((SqL K H p ys/\∀ l,H l=none->Q (.ref l) (upd H l (.tup ys)))\/(SqT K H p ys/\Q (.ref p) H))):=hK ▸ bQq
theorem cQw (hK:X.K=K:=by rfl):CallR X (.type "list") (fun xs H Q=>∃ p ys,xs=[.ref p]/\(SqL K H p ys\/SqT K H p ys)/\∀ l,H l=none->Q (.ref l) (upd H l (.lst ys))):=hK ▸ call_list_of
theorem cX6 (hK:X.K=K:=by rfl) (hc:X.calm=true:=by rfl):CallR X (.builtin "all") (fun xs H Q=>∃ x bs,xs=[x]/\dL K dB H x bs/\Q (.bl (bs.all id)) H):=hK ▸ cX3 hc
theorem cX7 (hK:X.K=K:=by rfl) (hc:X.calm=true:=by rfl):CallR X (.builtin "any") (fun xs H Q=>∃ x bs,xs=[x]/\dL K dB H x bs/\Q (.bl (bs.any id)) H):=hK ▸ cX4 hc
theorem dJi (hu:X.A.units < cLine) (hK:X.K=K:=by rfl):OpR X (compareOp .Lt) (rLtS K):=hK ▸ eXl hu
theorem cX8 (ha:PE X a ta) (he:∀ whole,isTrue a X.env whole=(do let v <- whole;standAt a.pos;holding [v] (truthy v))) (hK:X.K=K:=by rfl):PT X a (fun σ H Q=>ta σ H fun x H'=>∃ k,TruV K x H' k/\Q k H'):=by subst hK;exact dQ0 ha he
theorem eXn {e:Expr} {ta:TA} {p pos:Pos} {elts:List Expr} {x1:Nat} {tpos:Pos} (hg:Gl X "enumerate") (hm:X.mg "enumerate" = none) (ha:PA X [e] ta) (hs:starEach [e] X.env=[(false,eval e X.env)]:=by rfl) (hK:X.K=K:=by rfl) :
  PI X (.Tuple elts x1 tpos) (.Call (.Name "enumerate" p) [e] [] pos) (iEnT K ta):=by subst hK;exact fZi hg hm ha hs
end
section
variable {σ:St} {H:Hp} {ta tb te:TE} {R:Dn α} {R':Dn β} {R3:Dn γ} {K:Fg}
end
section
variable {σ:St} {H:Hp} {te:TE} {R:Dn α} {d:α} {g:TG} {u t r:TS} {c:TT} {D:Ends} {b:Bool}
end
end L2
set_option maxHeartbeats 4000000
namespace KS
open PySem PySem.W PyProof.Rows
variable {lt:Nat->Nat->Bool} {n:Nat}
end KS
set_option maxHeartbeats 1000000
namespace ST
open PySem PySem.SetTable PySem.Spec PyProof.Rows
theorem bQ5:entryFor table "set.__iter__" = some Builtin.«frozenset.__iter__»:=entryFor_alias (id' := "frozenset.__iter__") (by kernel_rfl) rfl (by decide +kernel) (by kernel_rfl)
theorem slot_setit_next:Slot "set_iterator" "__next__" "set_iterator.__next__" :=
 .of (owner := "set_iterator") (n := "__next__") (by rw[typeLookup_type,builtinLookup_eq_fast];kernel_rfl) (by decide +kernel) (by decide +kernel) (by decide +kernel)
  (by first | exact .inl (by decide +kernel) | exact .inr (by decide +kernel)) (by rw[isSubtype_type];kernel_rfl)
theorem aJ3:entryFor table "set_iterator.__next__" = some Builtin.«set_iterator.__next__»:=entryFor_of_tree (by kernel_rfl)
theorem aJm (a:Value):argsOk "set_iterator.__next__" ⟨[a],[]⟩:=by unfold argsOk;kernel_rfl
theorem dQg:typeLookup (.type "set") "__len__" = pure (some (.builtin "set.__len__")):=by rw[typeLookup_type,builtinLookup_eq_fast];kernel_rfl
section
variable {prog:Program} {w:World} {A:Around} {E:Value->Shared->Prop} {s:Shared}
theorem dJj {p:Addr} {es:Array (Int × Value)} {ep:Nat} {t:SetTable} {Q:Bool->Shared->Prop} (ho:s.heap.get? p=some (setOb es ep t)) (h:Q false s):wpAny (model prog w) A (Builtin.List.listLengthHint (.ref p)) Q E s:=by
 have hT:s.TypeIs (.ref p) "set":=⟨_,ho,rfl⟩;unfold Builtin.List.listLengthHint;refine wpAny_bind (wpAny_specialOf hT dQg ?_);dsimp only;have e1:splitId "set.__len__" = some ("set", "__len__"):=by decide +kernel
 rw[e1];dsimp only;refine wpAny_bind (wpAny_isInstance (b:=true) hT (by rw[isSubtype_type];kernel_rfl) ?_)
 rw[if_neg (show ¬ ((!true)=true) by decide)]
 refine wpAny_ite_split (fun hc=>?_) (fun hc=>absurd (by decide +kernel) hc)
 refine wpAny_bind (wpAny_typeOf hT ?_);exact wpAny_pure h
theorem bQi {α:Type} {l:List α} {i:Nat} (h:i < l.length):(l[i]::l.eraseIdx i).Perm l:=by
 have e:l=l.take i++l[i]::l.drop (i + 1):=by
  rw[<- List.drop_eq_getElem_cons h,List.take_append_drop]
 rw[List.eraseIdx_eq_take_drop_succ];refine List.perm_middle.symm.trans ?_;rw[<- e]
theorem dJk {n:Nat} {Q:Nat->Shared->Prop} (hn:n≠0) (h:∀ i,i < n->Q i { s with drawn:=s.drawn.bump .order }):wpAny (model prog w) A (choose .order n) Q E s:=fun Γ p hΓ=>by
 show Sem.wp _ _ (.choose .order n .pure) _ _ _ _;rw[Sem.wp_choose];exact⟨hn,h _ (Nat.mod_lt _ (Nat.pos_of_ne_zero hn))⟩
theorem eXo {α:Type}:∀ (n:Nat) (xs:List α) {s:Shared} {Q:List α->Shared->Prop},xs.length=n->(∀ ys d,ys.Perm xs->Q ys { s with drawn:=d })->wpAny (model prog w) A (drawOrder n xs) Q E s
 | 0,xs,s,Q,hl,h=>by
  have e:xs=[]:=List.length_eq_zero_iff.mp hl;subst e;unfold drawOrder;exact wpAny_pure (h [] s.drawn (List.Perm.refl _))
 | n + 1,xs,s,Q,hl,h=>by
  cases xs with
  | nil=>cases hl
  | cons x r =>
   unfold drawOrder;refine wpAny_bind ?_;have hne:(x::r).length≠0:=by simp
   refine dJk hne fun i hi=>?_;have hg:(x::r)[i]?=some (x::r)[i]:=List.getElem?_eq_getElem hi;rw[hg];dsimp only;refine wpAny_bind (eXo n ((x::r).eraseIdx i) (s:={ s with drawn:=s.drawn.bump .order }) (by rw[List.length_eraseIdx_of_lt hi];simp at hl ⊢;lia) fun ys d hp=>?_)
   refine wpAny_pure (h _ d ?_);refine(hp.cons _).trans ?_;exact bQi hi
theorem bZy {α:Type} (next:Nat->Nat):∀ (fuel k:Nat) (left:List α) (out:Array α),left.length=fuel->(pickOrder.go next fuel k left out).toList.Perm (out.toList++left)
 | 0,k,left,out,hl=>by
  have e:left=[]:=List.length_eq_zero_iff.mp hl;subst e;unfold pickOrder.go;rw[List.append_nil]
 | fuel + 1,k,left,out,hl=>by
  unfold pickOrder.go;have hi:next k % left.length < left.length:=Nat.mod_lt _ (by lia)
  rw[List.getElem?_eq_getElem hi];dsimp only;refine(bZy next fuel (k + 1) _ _ (by rw[List.length_eraseIdx_of_lt hi];lia)).trans ?_
  rw[Array.toList_push,List.append_assoc];exact List.Perm.append_left _ (bQi hi)
theorem bQ6 {α:Type} (next:Nat->Nat) (xs:Array α):(pickOrder next xs).toList.Perm xs.toList:=by
 have:=bZy next xs.size 0 xs.toList #[] (by simp)
 simpa [pickOrder] using this
def itOb (first:Value) (i:Nat) (p:Addr) (n ep:Nat):Obj:={ cls:=.type "set_iterator",dict:=none,data:=.fields #[first,.int i 0,.ref p,.int n 0,.int ep 0],slots:=#[] }
theorem dJl {I:Addr} {Q:Option Value->Shared->Prop} {s:Shared} (hh:A.in1.handled=none) (h:∀ h',(∀ b o,s.heap.get? b=some o->h'.get? b=some o)->Q none { s with heap:=h' }) :
  wpAny (model prog w) A.in1 (newExc (.type "StopIteration") [] >>= fun e=>(raiseNew e:Sem Fin)) (fun fin s'=>∃ r,fin=.done (.ret r)/\wpAny (model prog w) A (pure (some r)) Q E s') (fun e s'=>wpAny (model prog w) A (do if <- isInstance e (.type "StopIteration") then pure none else throw e) Q E s') s:=by
 refine wpAny_bind ?_;simp only[newExc,newTuple];refine wpAny_bind (wpAny_newObj_type ?_ (by size_fits))
 refine wpAny_bind (m:=firstArgMember _ _) (wpAny_of_eq (a:=Value.none) (by first | rfl | (simp only[firstArgMember];rfl)) ?_)
 refine wpAny_newObj_type ?_ (by size_fits)
 simp only[raiseNew];refine wpAny_bind (wpAny_handled ?_);rw[hh];refine wpAny_bind (wpAny_pure (wpAny_throw ?_));refine wpAny_bind (wpAny_isInstance (T := "StopIteration") (b:=true) ⟨_,Heap.get?_push_size _ rfl,rfl⟩ isSubtype_stop ?_);exact wpAny_pure (h _ fun b o e=>Heap.get?_push_of_some _ (Heap.get?_push_of_some _ e))
theorem aXu {I p:Addr} {es:Array (Int × Value)} {ep:Nat} {t:SetTable} {first:Value} {i:Nat} {Q:Option Value->Shared->Prop} (hp:s.heap.get? p=some (setOb es ep t)) (hf:t.fits es.size=true) (hI:s.heap.get? I=some (itOb first i p es.size ep))
  (h:wpAny (model prog w) A.in1 (if let .int slot _:=first then do
    match <- setNext p slot.toNat (i:Int).toNat (ep:Int).toNat with
    | some (x,next)=>do
     setField (.ref I) 0 (rawInt next)
     setField (.ref I) 1 (rawInt ((i:Int) + 1))
     ret x
    | none=>do setField (.ref I) 2 .none;raiseNew (<- newExc (.type "StopIteration") [])
   else do
    let some places <- seqItems? first | unsupported "internal:set_iterator"
    match places[(i:Int).toNat]? with
    | some (.int place _)=>do
     let x <- setNextDrawn p place.toNat (ep:Int).toNat
     setField (.ref I) 1 (rawInt ((i:Int) + 1))
     ret x
    | some _=>unsupported "internal:set_iterator"
    | none=>do setField (.ref I) 0 (rawInt 0);setField (.ref I) 2 .none;raiseNew (<- newExc (.type "StopIteration") []))
   (fun fin s'=>∃ r,fin=.done (.ret r)/\wpAny (model prog w) A (pure (some r)) Q E s') (fun e s'=>wpAny (model prog w) A (do if <- isInstance e (.type "StopIteration") then pure none else throw e) Q E s') s) :
  wpAny (model prog w) A (pyNext (.ref I)) Q E s:=by
 have hT:s.TypeIs (.ref I) "set_iterator":=⟨_,hI,rfl⟩;unfold pyNext;refine wpAny_bind (wpAny_attempt (wpAny_callSpecial?_slot (name:=Str.ofString "__next__") hT slot_setit_next
  (wpAny_call_entry slot_setit_next hT aJ3 ?_ (aJm _))))
 unfold Builtin.«set_iterator.__next__» slotArgs;simp only[List.isEmpty_nil,Bool.not_true,Bool.false_eq_true,↓reduceIte,bind_assoc,List.length_nil,bne_self_eq_false];refine wpAny_bind (wpAny_pure ?_)
 try dsimp only
 refine wpAny_bind (wpAny_fieldsOf hI rfl ?_);dsimp only;refine wpAny_bind (wpAny_setEntries_of hp rfl hf ?_);rw[if_neg (by simp)]
 exact h
structure Gives (prog:Program) (w:World) (A:Around) (I:Addr) (fp:List Addr) (vals:List Value) (St:Nat->Heap->Prop):Prop where
 mem:I∈fp
 frame:∀ i h h',St i h->(∀ b∈fp,∀ o,h.get? b=some o->h'.get? b=some o)->St i h'
 item:∀ (i:Nat) (s:Shared) (v:Value) (Q:Option Value->Shared->Prop) (E:Value->Shared->Prop),vals[i]?=some v->St i s.heap ->
  (∀ h',St (i + 1) h'->(∀ b o,b≠I->s.heap.get? b=some o->h'.get? b=some o)->Q (some v) { s with heap:=h' })->wpAny (model prog w) A (pyNext (.ref I)) Q E s
 done:∀ (s:Shared) (Q:Option Value->Shared->Prop) (E:Value->Shared->Prop),St vals.length s.heap ->
  (∀ h',(∀ b o,b≠I->s.heap.get? b=some o->h'.get? b=some o)->Q none { s with heap:=h' })->wpAny (model prog w) A (pyNext (.ref I)) Q E s
theorem bJq {p:Addr} {es:Array (Int × Value)} {ep i:Nat} {t:SetTable} {Q:Option (Value × Nat)->Shared->Prop} (hp:s.heap.get? p=some (setOb es ep t)) (hf:t.fits es.size=true) (hw:w.params.followText "set-order" = true)
  (h:Q (((pickOrder (w.params.setOrder p ep) es)[i]?).map fun e=>(e.2,0)) s):wpAny (model prog w) A (setNext p (0:Int).toNat (i:Int).toNat (ep:Int).toNat) Q E s:=by
 unfold setNext;refine wpAny_bind (wpAny_setState_of hp rfl hf ?_);dsimp only;unfold setsByText;refine wpAny_bind (wpAny_bind (wpAny_askSetting (wpAny_pure ?_)));have hw':(model prog w).w.params.followText "set-order" = true:=hw;rw[hw',if_pos rfl,if_neg (by simp)]
 unfold setWalk;refine wpAny_bind (wpAny_bind (wpAny_setState_of hp rfl hf ?_));dsimp only;unfold setsByText;refine wpAny_bind (wpAny_bind (wpAny_askSetting (wpAny_pure ?_)));rw[hw',if_pos rfl];refine wpAny_bind (wpAny_askSetting ?_);refine wpAny_pure (wpAny_pure ?_);rw[Int.toNat_natCast];exact h
theorem eXp {p I T:Addr} {es:Array (Int × Value)} {ep:Nat} {t:SetTable} {vals:List Value} {places:Array Value} (hh:A.in1.handled=none) (hTI:T≠I) (hpI:p≠I) (hl:places.size=vals.length)
  (hpl:∀ (j:Nat) (pl:Value),places[j]?=some pl->∃ q:Nat,pl=Value.int (q:Int) 0/\∃ e,es[q]?=some e/\vals[j]?=some e.2) :
  Gives prog w A I [I,p,T] vals (fun i h=>h.get? p=some (setOb es ep t)/\t.fits es.size=true/\h.get? I=some (itOb (.ref T) i p es.size ep)/\∃ o c,h.get? T=some o/\o.data=.seq places c) where
 mem:=by simp
 frame:=fun i h h' st k=>by
  obtain⟨h1,h2,h3,o,c,h4,h5⟩:=st;exact⟨k p (by simp) _ h1,h2,k I (by simp) _ h3,o,c,k T (by simp) _ h4,h5⟩
 item:=fun i s v Q E hv st hQ=>by
  obtain⟨h1,h2,h3,o,c,h4,h5⟩:=st;refine aXu h1 h2 h3 ?_;dsimp only;refine wpAny_bind (wpAny_seqItems h4 h5 ?_);dsimp only;have hi:i < places.size:=by rw[hl];exact(List.getElem?_eq_some_iff.mp hv).1
  obtain⟨q,e1,e,e2,e3⟩:=hpl i places[i] (by simp[hi])
  have eg:places[(i:Int).toNat]?=some (Value.int (q:Int) 0):=by rw[Int.toNat_natCast,<- e1];simp[hi]
  rw[eg];dsimp only;have ev:e.2=v:=by rw[hv] at e3;exact(Option.some.inj e3).symm
  refine wpAny_bind ?_;unfold setNextDrawn;refine wpAny_bind (wpAny_setState_of h1 rfl h2 ?_);dsimp only;rw[if_neg (by simp),Int.toNat_natCast,e2]
  dsimp only;refine wpAny_pure ?_;refine wpAny_bind (wpAny_setField_rec h3 (by show 1 < 5;decide) fun h' g1 g2=>?_)
  rw[ev];refine wpAny_pure ⟨v,rfl,wpAny_pure (hQ h' ⟨?_,h2,?_,o,c,?_,h5⟩ fun b o' hb e=>(g2.2 b hb).trans e)⟩
  ·exact(g2.2 p hpI).trans h1
  ·exact g1
  ·exact(g2.2 T hTI).trans h4
 done:=fun s Q E st hQ=>by
  obtain⟨h1,h2,h3,o,c,h4,h5⟩:=st;refine aXu h1 h2 h3 ?_;dsimp only;refine wpAny_bind (wpAny_seqItems h4 h5 ?_);dsimp only;have eg:places[(vals.length:Int).toNat]?=none:=by rw[Int.toNat_natCast,<- hl];simp
  rw[eg];dsimp only;refine wpAny_bind (wpAny_setField_rec h3 (by show 0 < 5;decide) fun h' g1 g2=>?_)
  refine wpAny_bind (wpAny_setField_rec g1 (by show 2 < 5;decide) fun h'' g3 g4=>?_)
  exact dJl (I:=I) hh fun h3' k=>hQ h3' fun b o' hb e=>k b o' ((g4.2 b hb).trans ((g2.2 b hb).trans e))
theorem eXq {p I:Addr} {es:Array (Int × Value)} {ep:Nat} {t:SetTable} {vals:List Value} (hh:A.in1.handled=none) (hpI:p≠I) (hw:w.params.followText "set-order" = true) (hv:vals=(pickOrder (w.params.setOrder p ep) es).toList.map (·.2)) :
  Gives prog w A I [I,p] vals (fun i h=>h.get? p=some (setOb es ep t)/\t.fits es.size=true/\h.get? I=some (itOb (.int 0 0) i p es.size ep)) where
 mem:=by simp
 frame:=fun i h h' st k=>by
  obtain⟨h1,h2,h3⟩:=st;exact⟨k p (by simp) _ h1,h2,k I (by simp) _ h3⟩
 item:=fun i s v Q E hv' st hQ=>by
  obtain⟨h1,h2,h3⟩:=st;refine aXu h1 h2 h3 ?_;dsimp only;refine wpAny_bind (bJq h1 h2 hw ?_);have eg:((pickOrder (w.params.setOrder p ep) es)[i]?).map (fun e=>(e.2,0))=some (v,0):=by
   rw[hv,List.getElem?_map,Array.getElem?_toList] at hv';cases q:(pickOrder (w.params.setOrder p ep) es)[i]? with
   | none=>rw[q] at hv';cases hv'
   | some e=>rw[q] at hv';cases hv';rfl
  rw[eg];dsimp only;refine wpAny_bind (wpAny_setField_rec h3 (by show 0 < 5;decide) fun h' g1 g2=>?_)
  refine wpAny_bind (wpAny_setField_rec g1 (by show 1 < 5;decide) fun h'' g3 g4=>?_)
  refine wpAny_pure ⟨v,rfl,wpAny_pure (hQ h'' ⟨?_,h2,g3⟩ fun b o' hb e=>(g4.2 b hb).trans ((g2.2 b hb).trans e))⟩;exact(g4.2 p hpI).trans ((g2.2 p hpI).trans h1)
 done:=fun s Q E st hQ=>by
  obtain⟨h1,h2,h3⟩:=st;refine aXu h1 h2 h3 ?_;dsimp only;refine wpAny_bind (bJq h1 h2 hw ?_);have eg:(pickOrder (w.params.setOrder p ep) es)[vals.length]?=none:=by
   rw[hv];simp
  rw[eg];dsimp only[Option.map];refine wpAny_bind (wpAny_setField_rec h3 (by show 2 < 5;decide) fun h'' g3 g4=>?_)
  exact dJl (I:=I) hh fun h3' k=>hQ h3' fun b o' hb e=>k b o' ((g4.2 b hb).trans e)
end
end ST
set_option maxHeartbeats 4000000
namespace ST
open PySem PySem.SetTable PySem.Spec PyProof.Rows
section
variable {prog:Program} {w:World} {A:Around} {E:Value->Shared->Prop} {s:Shared}
theorem bZz {p:Addr} {es:Array (Int × Value)} {ep i sl:Nat} {t:SetTable} {Q:Option (Value × Nat)->Shared->Prop} (hp:s.heap.get? p=some (setOb es ep t)) (hf:t.fits es.size=true) (hw:w.params.followText "set-order" = false) (hled:t.led=true) (h1:es.size<=1)
  (h:Q (match es[below t.place sl]?,t.place[below t.place sl]? with | some (_,x),some j=>some (x,j + 1) | _,_=>none) s):wpAny (model prog w) A (setNext p (sl:Int).toNat (i:Int).toNat (ep:Int).toNat) Q E s:=by
 unfold setNext;refine wpAny_bind (wpAny_setState_of hp rfl hf ?_);dsimp only;unfold setsByText;refine wpAny_bind (wpAny_bind (wpAny_askSetting (wpAny_pure ?_)));have hw':(model prog w).w.params.followText "set-order" = false:=hw;rw[hw',if_neg Bool.false_ne_true];refine wpAny_ite_split (fun hc=>?_) (fun _=>?_)
 ·have hc':(!t.plain && decide (es.size > 1))=true:=hc;simp only[Bool.and_eq_true,decide_eq_true_eq] at hc';lia
 ·refine wpAny_bind ?_;show wpAny _ _ (if (!t.led && !es.isEmpty)=true then unsupported "set:maker-not-led" else pure ()) _ _ _
  rw[hled,if_neg (by simp)]
  refine wpAny_pure ?_;refine wpAny_pure ?_;rw[Int.toNat_natCast];exact h
theorem bX0 (j sl:Nat):below #[j] sl=if j < sl then 1 else 0:=by
 unfold below;simp only[List.size_toArray,List.length_singleton];unfold below.go;simp only[Nat.lt_irrefl,if_true,Nat.zero_lt_one]
 split
 ·rename_i h;have h':j < sl:=by simpa using h
  rw[if_pos h'];rfl
 ·rename_i h;have h':¬ j < sl:=by simpa using h
  rw[if_neg h'];rfl
theorem bJr {es:Array (Int × Value)} {t:SetTable} (hf:t.fits es.size=true):t.place.size=es.size:=by
 unfold SetTable.fits at hf;simp only[Bool.and_eq_true,beq_iff_eq] at hf;exact hf.1
theorem eXr {p I:Addr} {es:Array (Int × Value)} {ep:Nat} {t:SetTable} {vals:List Value} (hh:A.in1.handled=none) (hpI:p≠I) (hw:w.params.followText "set-order" = false) (hled:t.led=true) (h1s:es.size<=1) (hv:vals=es.toList.map (·.2)) :
  Gives prog w A I [I,p] vals (fun i h=>h.get? p=some (setOb es ep t)/\t.fits es.size=true/\∃ sl:Nat,h.get? I=some (itOb (.int sl 0) i p es.size ep)/\(i=0->sl=0)/\(i=1->∀ j,t.place=#[j]->sl=j + 1)) where
 mem:=by simp
 frame:=fun i h h' st k=>by
  obtain⟨h1,h2,sl,h3,h4⟩:=st;exact⟨k p (by simp) _ h1,h2,sl,k I (by simp) _ h3,h4⟩
 item:=fun i s v Q E hv' st hQ=>by
  obtain⟨h1,h2,sl,h3,h4,h5⟩:=st;refine aXu h1 h2 h3 ?_;dsimp only;refine wpAny_bind (bZz h1 h2 hw hled h1s ?_);have hi:i < es.size:=by
   have:=(List.getElem?_eq_some_iff.mp hv').1
   rw[hv] at this;simpa using this
  have i0:i=0:=by lia
  subst i0;have sl0:=h4 rfl;subst sl0;have hps:=bJr h2;obtain⟨j,ej⟩:∃ j,t.place=#[j]:=by
   have:t.place.size=1:=by lia
   exact⟨t.place[0],Array.ext (by simp[this]) fun k hk1 hk2=>by
    have:k=0:=by lia
    subst this;simp⟩
  rw[ej,bX0,if_neg (Nat.not_lt_zero _)];have ee:es[0]?=some es[0]:=by simp[hi]
  have e0:es[0].2=v:=by
   rw[hv,List.getElem?_map,Array.getElem?_toList,ee] at hv';exact Option.some.inj hv'
  have e1:es[0]?=some (es[0].1,v):=by rw[ee,<- e0]
  have e2:(#[j]:Array Nat)[0]?=some j:=rfl;rw[e1,e2];dsimp only;refine wpAny_bind (wpAny_setField_rec h3 (by show 0 < 5;decide) fun h' g1 g2=>?_)
  refine wpAny_bind (wpAny_setField_rec g1 (by show 1 < 5;decide) fun h'' g3 g4=>?_)
  refine wpAny_pure ⟨v,rfl,wpAny_pure (hQ h'' ⟨?_,h2,j + 1,g3,(fun z=>nomatch z),fun _ j' ej'=>?_⟩ fun b o' hb e=>(g4.2 b hb).trans ((g2.2 b hb).trans e))⟩
  ·exact(g4.2 p hpI).trans ((g2.2 p hpI).trans h1)
  ·rw[ej] at ej'
   have:=congrArg (fun a:Array Nat=>a[0]?) ej'
   simp at this;rw[this]
 done:=fun s Q E st hQ=>by
  obtain⟨h1,h2,sl,h3,h4,h5⟩:=st;refine aXu h1 h2 h3 ?_;dsimp only;refine wpAny_bind (bZz h1 h2 hw hled h1s ?_);have hlen:vals.length=es.size:=by rw[hv];simp
  have hps:=bJr h2;have nn:es[below t.place sl]?=none:=by
   by_cases c:es.size=0
   ·simp[c]
   ·have c1:es.size=1:=by lia
    obtain⟨j,ej⟩:∃ j,t.place=#[j]:=by
     have:t.place.size=1:=by lia
     exact⟨t.place[0],Array.ext (by simp[this]) fun k hk1 hk2=>by
      have:k=0:=by lia
      subst this;simp⟩
    have:=h5 (by lia) j ej
    rw[ej,bX0,if_pos (by lia)]
    simp[c1]
  rw[nn];dsimp only;refine wpAny_bind (wpAny_setField_rec h3 (by show 2 < 5;decide) fun h'' g3 g4=>?_)
  exact dJl (I:=I) hh fun h3' k=>hQ h3' fun b o' hb e=>k b o' ((g4.2 b hb).trans e)
theorem fZj {p:Addr} {es:Array (Int × Value)} {ep:Nat} {t:SetTable} {Q:Value->Shared->Prop} (hh:A.in1.handled=none) (hp:s.heap.get? p=some (setOb es ep t)) (hf:t.fits es.size=true) (hled:t.led=ledOf w) (hpl:t.plain=true->es.size<=1) (hn:es.size<=300)
  (h:∀ I fp vals St h' d,vals.Perm (es.toList.map (·.2))->Gives prog w A I fp vals St->St 0 h'->s.heap.objs.size<=I->(∀ b∈fp,b=p\/s.heap.objs.size<=b)->(∀ b o,s.heap.get? b=some o->h'.get? b=some o)->Q (.ref I) { s with heap:=h',drawn:=d }) :
  wpAny (model prog w) A (pyIter (.ref p)) Q E s:=by
 have hT:s.TypeIs (.ref p) "set":=⟨_,hp,rfl⟩;have hlt:p < s.heap.objs.size:=Heap.lt_size hp;refine wpAny_pyIter_slot hT PySem.F.slot_set_iter (wpAny_call_entry PySem.F.slot_set_iter hT bQ5 ?_ (PySem.F.args_set_iter_1 _));unfold Builtin.«frozenset.__iter__» Builtin.Frozenset.slot0 slotArgs;simp only[List.isEmpty_nil,Bool.not_true,Bool.false_eq_true,↓reduceIte,bind_assoc,List.length_nil,bne_self_eq_false];unfold Builtin.Frozenset.addrOf Builtin.Frozenset.sizeOf;refine wpAny_bind (wpAny_pure ?_)
 try dsimp only
 refine wpAny_bind (wpAny_pure ?_);refine wpAny_bind (wpAny_bind (wpAny_setEntries_of hp rfl hf (wpAny_pure ?_)));unfold setDrawn setsByText;refine wpAny_bind (wpAny_bind (wpAny_setState_of hp rfl hf ?_));dsimp only;refine wpAny_bind (wpAny_bind (wpAny_askSetting (wpAny_pure ?_)));refine wpAny_pure ?_;have fin:∀ (first:Value) (h1:Heap) (d:Drawn) (Q':Fin->Shared->Prop),h1.get? p=some (setOb es ep t) ->
   Q' (.done (.ret (.ref h1.objs.size))) { s with heap:=h1.push (itOb first 0 p es.size ep),drawn:=d } ->
   wpAny (model prog w) A.in1 (do
    let e <- setEpoch p
    let v <- newFields "set_iterator" [first,rawInt 0,.ref p,rawInt es.size,rawInt e]
    ret v) Q' E { s with heap:=h1,drawn:=d }:=by
  intro first h1 d Q' ho hQ';refine wpAny_bind (wpAny_setEpoch_of (s:={ s with heap:=h1,drawn:=d }) ho rfl hf ?_)
  exact wpAny_bind (wpAny_newObj_type (wpAny_pure hQ'))
 refine wpAny_ite_split (fun hc=>?_) (fun hc=>?_)
 ·refine wpAny_bind (eXo es.size (List.range es.size) (by simp) fun ys d hperm=>?_)
  have yl:ys.length=es.size:=by have:=hperm.length_eq;simpa using this
  have yr:∀ q∈ys,q < es.size:=fun q hq=>List.mem_range.mp (hperm.mem_iff.mp hq);obtain⟨f1,f2⟩:=bJk (l:=ys) (f:=fun q=>(es[q]?).map (·.2)) (fun q hq=>by have:=yr q hq;simp[this])
  refine wpAny_bind (wpAny_newObj_type ?_ (by show(ys.map fun(i:Nat)=>rawInt i).toArray.size<=sizeLine;rw[List.size_toArray,List.length_map,yl,sizeLine_eq];lia))
  generalize hh1:s.heap.push _=h1;have hsz:h1.objs.size=s.heap.objs.size + 1:=by rw[<- hh1,Heap.size_push]
  have old:∀ b o,s.heap.get? b=some o->h1.get? b=some o:=fun b o e=>by rw[<- hh1];exact Heap.get?_push_of_some _ e
  have hTup:h1.get? s.heap.objs.size=some { cls:=.type "tuple",dict:=none,data:=.seq (ys.map fun(i:Nat)=>rawInt i).toArray }:=by rw[<- hh1];exact Heap.get?_push_size _ rfl
  refine fin (.ref s.heap.objs.size) h1 d _ (old p _ hp) ?_;have G:=eXp (prog:=prog) (w:=w) (A:=A) (p:=p) (I:=h1.objs.size) (T:=s.heap.objs.size) (es:=es) (ep:=ep) (t:=t) (vals:=ys.filterMap fun q=>(es[q]?).map (·.2)) (places:=(ys.map fun(i:Nat)=>rawInt i).toArray) hh (by rw[hsz];exact Nat.ne_of_lt (Nat.lt_succ_self _)) (by rw[hsz];exact Nat.ne_of_lt (Nat.lt_succ_of_lt hlt)) (by simp[f1]) (fun j pl hj=>by
   have hj':(ys.map fun(i:Nat)=>rawInt i)[j]?=some pl:=by simpa using hj
   rw[List.getElem?_map] at hj';cases q:ys[j]? with
   | none=>rw[q] at hj';cases hj'
   | some z =>
    rw[q] at hj';have hz:=yr z (List.mem_of_getElem? q);refine⟨z,(Option.some.inj hj').symm,es[z],by simp[hz],?_⟩
    rw[f2 j,q];simp[hz])
  refine⟨_,rfl, "set_iterator",_,⟨_,Heap.get?_push_size _ rfl,rfl⟩,slot_setit_next.lookup,h _ _ _ _ _ d ?_ G ⟨Heap.get?_push_of_some _ (old p _ hp),hf,Heap.get?_push_size _ rfl,_,_,Heap.get?_push_of_some _ hTup,rfl⟩ (by rw[hsz];exact Nat.le_succ _) (fun b hb=>?_) fun b o e=>Heap.get?_push_of_some _ (old b o e)⟩
  ·refine(hperm.filterMap _).trans ?_;have e:(List.range es.size).filterMap (fun q=>(es[q]?).map (·.2))=es.toList.map (·.2):=by
    rw[<- bJm es,List.map_filterMap]
   rw[e]
  ·simp only[List.mem_cons,List.not_mem_nil,or_false] at hb;rcases hb with e | e | e
   ·right;rw[e,hsz];exact Nat.le_succ _
   ·exact .inl e
   ·right;rw[e];exact Nat.le_refl _
 ·refine wpAny_bind (wpAny_pure ?_);refine fin (rawInt 0) s.heap s.drawn _ hp ?_;have hpI:p≠s.heap.objs.size:=Nat.ne_of_lt hlt;have small:∀ b∈[s.heap.objs.size,p],b=p\/s.heap.objs.size<=b:=fun b hb=>by
   simp only[List.mem_cons,List.not_mem_nil,or_false] at hb;rcases hb with e | e
   ·right;rw[e];exact Nat.le_refl _
   ·exact .inl e
  by_cases hw:w.params.followText "set-order" = true
  ·have G:=eXq (prog:=prog) (w:=w) (A:=A) (p:=p) (I:=s.heap.objs.size) (es:=es) (ep:=ep) (t:=t) hh hpI hw rfl;exact⟨_,rfl, "set_iterator",_,⟨_,Heap.get?_push_size _ rfl,rfl⟩,slot_setit_next.lookup,h _ _ _ _ _ s.drawn ((bQ6 _ _).map _) G ⟨Heap.get?_push_of_some _ hp,hf,Heap.get?_push_size _ rfl⟩ (Nat.le_refl _) small fun b o e=>Heap.get?_push_of_some _ e⟩
  ·have hw':w.params.followText "set-order" = false:=Bool.eq_false_iff.mpr hw;have h1:es.size<=1:=by
    have hc':¬ ((!(w.params.followText "set-order") && (!t.plain && decide (es.size > 1)))=true):=hc;rw[hw'] at hc'
    by_cases hp1:t.plain=true
    ·exact hpl hp1
    ·have:t.plain=false:=Bool.eq_false_iff.mpr hp1
     rw[this] at hc';simp at hc';exact hc'
   have hl':t.led=true:=by rw[hled];show(!(w.params.followText "set-order"))=true;rw[hw'];rfl
   have G:=eXr (prog:=prog) (w:=w) (A:=A) (p:=p) (I:=s.heap.objs.size) (es:=es) (ep:=ep) (t:=t) hh hpI hw' hl' h1 rfl;exact⟨_,rfl, "set_iterator",_,⟨_,Heap.get?_push_size _ rfl,rfl⟩,slot_setit_next.lookup,h _ _ _ _ _ s.drawn (List.Perm.refl _) G ⟨Heap.get?_push_of_some _ hp,hf,0,Heap.get?_push_size _ rfl,fun _=>rfl,(fun z=>nomatch z)⟩ (Nat.le_refl _) small fun b o e=>Heap.get?_push_of_some _ e⟩
theorem dQh {I S:Addr} {fp:List Addr} {vals:List Value} {St:Nat->Heap->Prop} {R:Result->Shared->Prop} (G:Gives prog w A.in1 I fp vals St) (hn:vals.length<=300) (hSf:S∉fp) (res:Value) :
  ∀ (k i:Nat) (s:Shared) (c:Nat),vals.length - i=k->i<=vals.length->St i s.heap->s.heap.get? S=some { cls:=.type "list",dict:=none,data:=.seq (vals.take i).toArray c,slots:=#[] } ->
  (∀ h' c',(∀ b o,b≠S->b≠I->s.heap.get? b=some o->h'.get? b=some o)->h'.get? S=some { cls:=.type "list",dict:=none,data:=.seq vals.toArray c',slots:=#[] }->R (.ok (.ret res)) { s with heap:=h' }) ->
  codeAny (model prog w) A (.builtin "list.extend.loop" ⟨[.ref S,.ref I,res],[]⟩) R s:=by
 have hSI:S≠I:=fun e=>hSf (e ▸ G.mem);intro k
 induction k with
 | zero =>
  intro i s c hk hi hst hS hR;have hin:i=vals.length:=by lia
  subst hin;refine codeAny_builtin PySem.F.entry_extend_loop ?_;rw[Around.under_plainId PySem.F.plain_extend_loop _];show wpAny _ A.in1 (pyNext (.ref I) >>= _) _ _ s;refine wpAny_bind (G.done s _ _ hst fun h' hk'=>?_);rw[List.take_of_length_le (Nat.le_refl _)] at hS;exact wpAny_pure (hR h' c (fun b o _ hb e=>hk' b o hb e) (hk' S _ hSI hS))
 | succ k ih =>
  intro i s c hk hi hst hS hR;have hlt:i < vals.length:=by lia
  have hv:vals[i]?=some vals[i]:=List.getElem?_eq_getElem hlt;refine codeAny_builtin PySem.F.entry_extend_loop ?_;rw[Around.under_plainId PySem.F.plain_extend_loop _];show wpAny _ A.in1 (pyNext (.ref I) >>= _) _ _ s;refine wpAny_bind (G.item i s _ _ _ hv hst fun h1 st1 k1=>?_);have hS1:=k1 S _ hSI hS;have szl:=sizeLine_eq;have hts:(vals.take i).toArray.size=i:=by rw[List.size_toArray,List.length_take];lia
  show wpAny _ A.in1 (updateSeq S (·.push vals[i]) >>= _) _ _ _;refine wpAny_bind ?_;refine wpAny_updateSeq (s:={ s with heap:=h1 }) hS1 rfl (wpAny_pure ⟨plainId_quiet PySem.F.plain_extend_loop _,?_⟩) (by rw[hts];lia) (by show((vals.take i).toArray.push vals[i]).size<=sizeLine + 1;rw[Array.size_push,hts];lia)
  have hS2:=Heap.get?_update_self (Obj.mapSeq (·.push vals[i])) hS1 rfl;have et:(vals.take i).toArray.push vals[i]=(vals.take (i + 1)).toArray:=by
   rw[List.take_add_one,hv];simp
  obtain⟨c1,hS2'⟩:∃ c1,(h1.update S (Obj.mapSeq (·.push vals[i]))).get? S=some { cls:=.type "list",dict:=none,data:=.seq (vals.take (i + 1)).toArray c1,slots:=#[] }:=⟨_,by rw[<- et];exact hS2⟩
  refine ih (i + 1) { s with heap:=h1.update S (Obj.mapSeq (·.push vals[i])) } c1 (by lia) hlt (G.frame _ _ _ st1 fun b hb o e=>(Heap.get?_update_other _ _ (fun h:S=b=>hSf (by rw[h];exact hb))).trans e) hS2' fun h' c' a1 a2=>?_
  ·exact hR h' c' (fun b o hb1 hb2 e=>a1 b o hb1 hb2 ((Heap.get?_update_other _ _ (Ne.symm hb1)).trans (k1 b o hb2 e))) a2
theorem collectT {p:Addr} {es:Array (Int × Value)} {ep:Nat} {t:SetTable} {Q:List Value->Shared->Prop} (hh:A.handled=none) (hp:s.heap.get? p=some (setOb es ep t)) (hf:t.fits es.size=true) (hled:t.led=ledOf w) (hpl:t.plain=true->es.size<=1) (hn:es.size<=300)
  (h:∀ vals h' d,vals.Perm (es.toList.map (·.2))->(∀ b o,s.heap.get? b=some o->h'.get? b=some o)->Q vals { s with heap:=h',drawn:=d }):wpAny (model prog w) A (collect (.ref p)) Q E s:=by
 have hlt:p < s.heap.objs.size:=Heap.lt_size hp;have hT:∀ s':Shared,s'.heap.get? p=some (setOb es ep t)->s'.TypeIs (.ref p) "set":=fun s' e=>⟨_,e,rfl⟩;unfold collect;refine wpAny_bind (wpAny_runValue (codeAny_builtin PySem.F.entry_proto_collect ?_));rw[Around.under_plainId PySem.F.plain_proto_collect _];show wpAny _ A.in1 (newList [] >>= fun l=>again (.builtin "list.__iadd__" ⟨[l,.ref p],[]⟩)) _ _ s;refine wpAny_bind (wpAny_newObj_type ?_);refine wpAny_pure ⟨plainId_quiet PySem.F.plain_list_iadd _,codeAny_builtin PySem.F.entry_list_iadd ?_⟩;rw[Around.under_plainId PySem.F.plain_list_iadd _];show wpAny _ A.in1 (Builtin.List.listExtendWith (.ref s.heap.objs.size) (.ref p) (.ref s.heap.objs.size)) _ _ _;generalize hh1:s.heap.push _=h1;have old:∀ b o,s.heap.get? b=some o->h1.get? b=some o:=fun b o e=>by rw[<- hh1];exact Heap.get?_push_of_some _ e
 have hsz:h1.objs.size=s.heap.objs.size + 1:=by rw[<- hh1,Heap.size_push]
 have hS1:h1.get? s.heap.objs.size=some { cls:=.type "list",dict:=none,data:=.seq #[] 0,slots:=#[] }:=by rw[<- hh1];exact Heap.get?_push_size _ rfl
 have hp1:=old p _ hp;unfold Builtin.List.listExtendWith;refine wpAny_bind (wpAny_typeOf (hT { s with heap:=h1 } hp1) ?_)
 have e1:Builtin.List.listSameRef (.ref s.heap.objs.size) (.ref p)=false:=by simp[Builtin.List.listSameRef,Nat.ne_of_gt hlt]
 rw[if_neg (by rw[e1];decide)]
 refine wpAny_bind (fZj (s:={ s with heap:=h1 }) hh hp1 hf hled hpl hn fun I fp vals St h2 d hperm G st2 hI hfp k2=>?_)
 have hvl:vals.length=es.size:=by have:=hperm.length_eq;simpa using this
 have hI':h1.objs.size<=I:=hI;have hSI:s.heap.objs.size≠I:=by lia
 refine wpAny_bind (wpAny_holding (dJj (k2 p _ hp1) ?_));have hSf:s.heap.objs.size∉fp:=fun z=>by
  have q:=hfp _ z;have q':s.heap.objs.size=p\/h1.objs.size<=s.heap.objs.size:=q;rcases q' with e | e
  ·exact absurd e (Nat.ne_of_gt hlt)
  ·rw[hsz] at e;exact absurd e (Nat.not_succ_le_self _)
 refine wpAny_ite_split (fun _=>?_) (fun hc=>absurd (by decide +kernel) hc)
 refine wpAny_bind (wpAny_rule ?_);refine wpAny_bind ?_;have hS2:=k2 _ _ hS1;show wpAny _ _ (updateSeq s.heap.objs.size (·.push .none) >>= fun _=>updateSeq s.heap.objs.size (·.pop)) _ _ _;refine wpAny_bind (wpAny_updateSeq hS2 rfl ?_);have hS3:=Heap.get?_update_self (Obj.mapSeq (·.push Value.none)) hS2 rfl;refine wpAny_updateSeq (hz:=by seq_fits) hS3 rfl ?_
 have hS4:=Heap.get?_update_self (Obj.mapSeq (·.pop)) hS3 rfl;refine wpAny_pure ⟨plainId_quiet PySem.F.plain_extend_loop _,?_⟩;refine dQh G (by lia) hSf _ (vals.length - 0) 0 _ _ rfl (Nat.zero_le _) (G.frame _ _ _ st2 fun b hb o e=>?_) hS4 fun h' c' a1 a2=>?_
 ·have hbS:b≠s.heap.objs.size:=fun z=>hSf (z ▸ hb);exact(Heap.get?_update_other _ _ (Ne.symm hbS)).trans ((Heap.get?_update_other _ _ (Ne.symm hbS)).trans e)
 ·show wpAny _ A (load s.heap.objs.size >>= _) _ _ _;refine wpAny_bind (wpAny_load a2 ?_)
  have:=h vals h' d hperm fun b o e=>?_
  ·exact wpAny_pure this
  ·have hbS:b≠s.heap.objs.size:=Nat.ne_of_lt (Heap.lt_size e);have hbI:b≠I:=Nat.ne_of_lt (Nat.lt_of_lt_of_le (Heap.lt_size e) (Nat.le_trans (by rw[hsz];exact Nat.le_succ _) hI'))
   exact a1 b o hbS hbI ((Heap.get?_update_other _ _ (Ne.symm hbS)).trans ((Heap.get?_update_other _ _ (Ne.symm hbS)).trans (k2 b o (old b o e))))
end
end ST
namespace KS
open PySem PySem.W PyProof.Rows
def TS (h:Heap) (v:Value) (d:List Str):Prop:=∃ b items,v=.ref b/\IsTup h b items/\HT.SAre items.toList d
section
variable {prog:Program} {w:World} {A:Around} {E:Value->Shared->Prop} {s:Shared}
theorem dZp {Q:Bool->Shared->Prop}:∀ {us vs:List Value} {d e:List Str} (i:Nat) {fin:Bool},HT.SAre us d->HT.SAre vs e->fin=decide (d.length < e.length)->Q (HT.lexS d e) s->KatLex prog w A true fin Q (us.zip vs) i s
 | _,_,_,_,i,fin,.nil,.nil,hf,h=>by subst hf;exact kat_nil h
 | _,_,_,_,i,fin,.nil,.cons _ _,hf,h=>by
  subst hf;rw[List.zip_nil_left];rw[HT.lexS_nil_cons] at h;exact kat_nil (by simpa using h)
 | _,_,_,_,i,fin,.cons _ _,.nil,hf,h=>by
  subst hf;rw[List.zip_nil_right];rw[HT.lexS_cons_nil] at h;exact kat_nil (by simpa using h)
 | _,_,x::d,y::e,i,fin,.cons ⟨t,ht⟩ p,.cons ⟨u,hu⟩ q,hf,h=>by
  subst ht hu;rw[List.zip_cons_cons];rw[HT.lexS_cons] at h;refine kat_cons (SeqAt.EqAt.str_str x t y u _ _ _ _ ?_);refine kat_go (fun z=>kat_yes (dZp (i + 1) p q (by subst hf;simp) (by rw[if_pos (by simpa using z)] at h;exact h))) fun z=>kat_no ?_
  rw[if_neg (by simpa using z)] at h
  cases i with
  | zero=>exact oneLt_str h
  | succ i =>
   show wpAny _ _ (oneLt' false _ _) _ _ _;exact kat_one _ _ (PyProof.Rows.lt_str (show PySem.W.BoolBack Q (.bool (HT.ltS x y)) s from h))
theorem cX9 {x y:Value} {d e:List Str} {Q:Bool->Shared->Prop} (hx:TS s.heap x d) (hy:TS s.heap y e) (h:Q (HT.lexS d e) s):wpAny (model prog w) A (keyLt' (tuples' true) x y) Q E s:=by
 obtain⟨b,items,rfl,⟨o,ho,_,n,hd⟩,p⟩:=hx;obtain⟨b2,items2,rfl,⟨o2,ho2,_,n2,hd2⟩,p2⟩:=hy;refine kat_lt ho hd ho2 hd2 (dZp 0 p p2 ?_ h);have l1:=p.len;have l2:=p2.len;simp only[Array.length_toList] at l1 l2;rw[l1,l2]
theorem cQx {x y:Value} {d e:List Str} {Q:Bool->Shared->Prop} (hu:A.units < cLine) (hx:TS s.heap x d) (hy:TS s.heap y e) (h:Q (HT.lexS d e) s):wpAny (model prog w) A (keyLt' general' x y) Q E s:=by
 obtain⟨b,items,rfl,t1,p⟩:=hx;obtain⟨b2,items2,rfl,t2,p2⟩:=hy;show wpAny _ _ (oneLt' false _ _) _ _ _;exact kat_one _ _ (HT.lt_tupStrs t1 t2 p p2 hu (show PySem.W.BoolBack Q (.bool (HT.lexS d e)) s from h))
theorem eXs {x y:Value} {d e:List Str} {Q:Bool->Shared->Prop} (hu:A.units < cLine) (hx:TS s.heap x d) (hy:TS s.heap y e) (h:Q (HT.lexS d e) s):wpAny (model prog w) A (keyLt' oneType' x y) Q E s:=by
 obtain⟨b,items,rfl,t1,p⟩:=hx;obtain⟨b2,items2,rfl,t2,p2⟩:=hy;rw[keyLt'_oneType,oneLt'_eq];simp only[if_true];obtain⟨⟨cls,dd,data,sl⟩,ho,hc,n,hd⟩:=id t1;obtain⟨⟨cls2,dd2,data2,sl2⟩,ho2,hc2,n2,hd2⟩:=id t2;simp only at hc hd hc2 hd2;subst hc hd hc2 hd2;refine wpAny_bind (wpAny_cRoomFor hu ?_);refine wpAny_bind (wpAny_callSpecialIfBound?_slot ⟨_,ho,rfl⟩ PySem.F.slot_tuple_lt (call_meets PySem.F.slot_tuple_lt ⟨_,ho,rfl⟩ PySem.F.entry_tuple_lt (PySem.F.args_tuple_lt_2 _ _) (HT.tuple_lt_strs b b2 items items2 n n2 dd dd2 sl sl2 d e p p2) ⟨ho,ho2,?_⟩));exact wpAny_truthy_bool h
theorem bX1:∀ {vs:List Value} {ds:List (List Str)} {Q:List (Option Value)->Shared->Prop},Paired (TS s.heap) vs ds->(∀ fs:List (Option Value),Paired (fun f d=>match f with | none=>d=[] | some v=>∃ x r t,d=x::r/\v=.str x t) fs ds->Q fs s)->wpAny (model prog w) A (vs.mapM firstOfTuple') Q E s
 | _,_,_,.nil,h=>by rw[List.mapM_nil];exact wpAny_pure (h [] .nil)
 | _,_,Q,.cons p q,h=>by
  obtain⟨b,items,rfl,⟨o,ho,hc,n,hd⟩,sa⟩:=p;rw[List.mapM_cons];refine wpAny_bind ?_;rw[kas_first_eq];refine wpAny_bind (Looks.here (show Looks (model prog w) s.heap (typeOf (.ref b)) o.cls from(Looks.ld ho).andThen .now) ?_)
  rw[hc,if_neg (by first | decide | simp)]
  refine wpAny_bind (listItems_at ho hd (wpAny_pure ?_));refine wpAny_bind (bX1 q fun fs pf=>wpAny_pure (h _ (.cons ?_ pf)));obtain⟨items⟩:=items;have sa:HT.SAre items _:=sa;have e:(Array.mk items)[0]?=items[0]?:=by simp
  rw[e];cases sa with
  | nil=>rfl
  | cons z _=>obtain⟨t,ht⟩:=z;exact⟨_,_,t,rfl,ht⟩
theorem dJm {vs:List Value} {ds:List (List Str)} {Q:SortKind->Shared->Prop} (p:Paired (TS s.heap) vs ds) (hne:vs≠[]) (h:∀ κ,κ=tuples' true\/κ=general'\/κ=oneType'->Q κ s):wpAny (model prog w) A (keyKind' vs.toArray) Q E s:=by
 rw[kat_kind_eq,List.mapM_toArray,map_eq_pure_bind];refine wpAny_bind (wpAny_bind (bX1 p fun fs pf=>wpAny_pure ?_))
 by_cases hall:(fs.toArray.all fun x=>x.isSome)=true
 ·rw[if_pos hall];refine wpAny_bind (wpAny_rule ?_);rw[oneTypeOnly'_eq];have hv:∀ v∈(fs.toArray.filterMap id).toList,∃ x t,v=.str x t:=fun v hv=>by
   simp only[Array.toList_filterMap,List.mem_filterMap,id] at hv;obtain⟨f,hf,rfl⟩:=hv
   have:∀ {fs:List (Option Value)} {ds:List (List Str)},Paired (fun f d=>match f with | none=>d=[] | some v=>∃ x r t,d=x::r/\v=.str x t) fs ds->some v∈fs->∃ x t,v=.str x t:=by
    intro fs ds pf
    induction pf with
    | nil=>intro hm;cases hm
    | cons z _ ih =>
     intro hm;rcases List.mem_cons.mp hm with e | hm
     ·subst e;obtain⟨x,r,t,_,e⟩:=z;exact⟨x,t,e⟩
     ·exact ih hm
   exact this pf hf
  have hne':(fs.toArray.filterMap id).toList≠[]:=by
   have hfl:fs.length=vs.length:=by have:=Paired.length p;have:=Paired.length pf;lia
   cases fs with
   | nil=>exact absurd (List.eq_nil_of_length_eq_zero (by simpa using hfl.symm)) hne
   | cons f fs =>
    simp only[List.all_toArray,List.all_cons,Bool.and_eq_true] at hall;obtain⟨v,rfl⟩:=Option.isSome_iff_exists.mp hall.1;simp
  generalize (fs.toArray.filterMap id)=gs at hv hne';obtain⟨gs⟩:=gs;rw[List.mapM_toArray,map_eq_pure_bind];refine wpAny_bind (wpAny_bind (wpAny_bind (kas_mapM (r:=Value.type "str") gs (fun v hv' Q' hq=>?_) (wpAny_pure ?_))))
  ·obtain⟨x,t,rfl⟩:=hv v hv';exact wpAny_pure hq
  ·obtain⟨g,gr,rfl⟩:∃ g gr,gs=g::gr:=by
    cases gs with
    | nil=>exact absurd rfl hne'
    | cons g gr=>exact⟨g,gr,rfl⟩
   have h0:(List.map (fun _=>Value.type "str") (g::gr)).toArray[0]?=some (Value.type "str"):=by simp
   have hall2:((List.map (fun _=>Value.type "str") (g::gr)).toArray.all fun x=>x == Value.type "str")=true:=by
    simp only[List.all_toArray,List.all_map,List.all_eq_true];intro _ _;simp
   rw[h0];simp only[hall2,if_true];exact wpAny_pure (wpAny_pure (h _ (.inl rfl)))
 ·rw[if_neg hall]
  by_cases h1:((fs.toArray[0]?.bind id).isSome)=true
  ·rw[if_pos h1];exact wpAny_pure (h _ (.inr (.inl rfl)))
  ·rw[if_neg h1,oneTypeOnly'_eq,List.mapM_toArray,map_eq_pure_bind];refine wpAny_bind (wpAny_bind (wpAny_bind (kas_mapM (r:=Value.type "tuple") vs (fun v hv' Q' hq=>?_) (wpAny_pure ?_))))
   ·have:∀ {vs:List Value} {ds:List (List Str)},Paired (TS s.heap) vs ds->v∈vs->∃ d,TS s.heap v d:=by
     intro vs ds pp
     induction pp with
     | nil=>intro hm;cases hm
     | cons z _ ih =>
      intro hm;rcases List.mem_cons.mp hm with e | hm
      ·subst e;exact⟨_,z⟩
      ·exact ih hm
    obtain⟨d,b,items,rfl,⟨o,ho,hc,_⟩,_⟩:=this p hv';refine Looks.here (show Looks (model prog w) s.heap (typeOf (.ref b)) (.type "tuple") from ?_) hq
    rw[<- hc];exact(Looks.ld ho).andThen .now
   ·generalize (List.map (fun _=>Value.type "tuple") vs).toArray=ts;cases ts[0]? with
    | none=>exact wpAny_pure (wpAny_pure (by first | exact h _ (.inr (.inl rfl)) | exact h _ (.inr (.inr rfl))))
    | some t =>
     by_cases h2:(ts.all (· == t))=true
     ·simp only[h2,if_true];exact wpAny_pure (wpAny_pure (h _ (.inr (.inr rfl))))
     ·simp only[h2,if_false];exact wpAny_pure (wpAny_pure (h _ (.inr (.inl rfl))))
end
end KS
namespace SF
open PySem PyProof.Rows
abbrev SM:=StateT SortSt Sem
def gal:Bool->Keyed->Array Keyed->Nat->Nat->Nat->SM (Option Nat):=sortPriv% PySem.Builtin.gallop
def mLo:Array Keyed->Array Keyed->SM (Array Keyed):=sortPriv% PySem.Builtin.mergeLo
def mHi:Array Keyed->Array Keyed->SM (Array Keyed):=sortPriv% PySem.Builtin.mergeHi
abbrev setG (st:SortSt) (g:Nat):SortSt:=SortSt.mk' (kindOf st) (arrOf st) (pendingOf st) g (failedOf st)
def bey (lf:Bool) (key:Keyed) (arr:Array Keyed) (b0 i:Nat):SM (Option Bool):=do
 let x <- elem' arr (b0 + i)
 if lf then lt' x key else return (<- lt' key x).map (!·)
theorem eXt (lf:Bool) (key:Keyed) (arr:Array Keyed) (b0 n at0:Nat):gal lf key arr b0 n at0=(do
 let mut lastofs:=0
 let mut ofs:=1
 let mut lo:=0
 let mut hi:=0
 let some rt <- bey lf key arr b0 at0 | return none
 if rt then
  let mx:=n - at0
  for _ in [0:n] do
   if ofs >= mx then break
   let some m1 <- bey lf key arr b0 (at0 + ofs) | return none
   if !m1 then break
   lastofs:=ofs
   ofs:=2 * ofs + 1
  lo:=at0 + lastofs + 1
  hi:=at0 + min ofs mx
 else
  let mx:=at0 + 1
  for _ in [0:n] do
   if ofs >= mx then break
   let some f1 <- bey lf key arr b0 (at0 - ofs) | return none
   if f1 then break
   lastofs:=ofs
   ofs:=2 * ofs + 1
  lo:=at0 + 1 - min ofs mx
  hi:=at0 - lastofs
 for _ in [0:n] do
  if lo >= hi then break
  let m:=lo + (hi - lo) / 2
  let some m2 <- bey lf key arr b0 m | return none
  if m2 then lo:=m + 1 else hi:=m
 return some hi):=rfl
theorem eXu (a b:Array Keyed):mLo a b=(do
 rule "list.sort.merge-lo"
 let total:=a.size + b.size
 let fin (o:Array Keyed) (ia ib:Nat):=o++a.extract ia a.size++b.extract ib b.size
 let lst (o:Array Keyed) (ia ib:Nat):=o++b.extract ib b.size++a.extract ia a.size
 let mut out:Array Keyed:=#[<- elem' b 0]
 let mut ia:=0
 let mut ib:=1
 if ib == b.size then return fin out ia ib
 if ia + 1 == a.size then return lst out ia ib
 let mut minGallop:=gallopOf (<- get)
 for _ in [0:total] do
  let mut acount:=0
  let mut bcount:=0
  for _ in [0:total] do
   let some bw <- lt' (<- elem' b ib) (<- elem' a ia) | return fin out ia ib
   if bw then
    out:=out.push (<- elem' b ib)
    ib:=ib + 1
    bcount:=bcount + 1
    acount:=0
    if ib == b.size then return fin out ia ib
    if bcount >= minGallop then break
   else
    out:=out.push (<- elem' a ia)
    ia:=ia + 1
    acount:=acount + 1
    bcount:=0
    if ia + 1 == a.size then return lst out ia ib
    if acount >= minGallop then break
  rule "list.sort.gallop"
  minGallop:=minGallop + 1
  for _ in [0:total] do
   if minGallop > 1 then minGallop:=minGallop - 1
   modify (fun s=>setG s minGallop)
   let some k <- gal false (<- elem' b ib) a ia (a.size - ia) 0 | return fin out ia ib
   acount:=k
   if k > 0 then
    out:=out++a.extract ia (ia + k)
    ia:=ia + k
    if ia + 1 == a.size then return lst out ia ib
    if ia == a.size then return fin out ia ib
   out:=out.push (<- elem' b ib)
   ib:=ib + 1
   if ib == b.size then return fin out ia ib
   let some k <- gal true (<- elem' a ia) b ib (b.size - ib) 0 | return fin out ia ib
   bcount:=k
   if k > 0 then
    out:=out++b.extract ib (ib + k)
    ib:=ib + k
    if ib == b.size then return fin out ia ib
   out:=out.push (<- elem' a ia)
   ia:=ia + 1
   if ia + 1 == a.size then return lst out ia ib
   if acount < 7 && bcount < 7 then break
  minGallop:=minGallop + 1
  modify (fun s=>setG s minGallop)
 unsupported "internal:list.sort.merge-bound"):=rfl
structure Orc (prog:Program) (w:World) (A:Around) (s:Shared) (κ:SortKind) (P:Keyed->Prop) (lt:Keyed->Keyed->Bool):Prop where
 ask:∀ x y (Q:Bool->Shared->Prop),P x->P y->Q (lt x y) s->wpAny (model prog w) A (keyLt' κ x.1 y.1) Q (fun _ _=>False) s
 as:∀ x y,P x->P y->lt x y=true->lt y x=false
 tr:∀ x y z,P x->P y->P z->lt y x=false->lt z y=false->lt z x=false
section
variable {prog:Program} {w:World} {A:Around} {E:Value->Shared->Prop} {s:Shared} {κ:SortKind} {P:Keyed->Prop} {lt:Keyed->Keyed->Bool}
theorem cXa (o:Orc prog w A s κ P lt) {st:SortSt} {x y:Keyed} {Q:Option Bool->SortSt->Prop} (hk:kindOf st=κ) (hx:P x) (hy:P y) (h:Q (some (lt x y)) st):wpS (model prog w) A E s (lt' x y) Q st:=by
 rw[lt'_eq];refine wpS_bind (wpS_get ?_);rw[hk];refine wpS_bind (wpS_lift (wpAny_attempt (wpAny_mono (o.ask x y (fun b s'=>s'=s/\b=lt x y) hx hy ⟨rfl,rfl⟩) (fun b s' hb=>?_) fun _ _ hF=>hF.elim)));obtain⟨rfl,rfl⟩:=hb;exact⟨rfl,wpS_pure h⟩
theorem aZ4 {st:SortSt} {arr:Array Keyed} {i:Nat} {x:Keyed} {Q:Keyed->SortSt->Prop} (hx:arr[i]?=some x) (h:Q x st):wpS (model prog w) A E s (elem' arr i) Q st:=by
 rw[elem'_eq,hx];exact wpS_pure h
def bv (lt:Keyed->Keyed->Bool) (lf:Bool) (key x:Keyed):Bool:=if lf then lt x key else !lt key x
theorem bX2 (o:Orc prog w A s κ P lt) {st:SortSt} {lf:Bool} {key x:Keyed} {arr:Array Keyed} {b0 i:Nat} {Q:Option Bool->SortSt->Prop} (hk:kindOf st=κ) (hkey:P key) (hx:arr[b0 + i]?=some x) (px:P x) (h:Q (some (bv lt lf key x)) st):wpS (model prog w) A E s (bey lf key arr b0 i) Q st:=by
 unfold bey;refine wpS_bind (aZ4 hx ?_);cases lf with
 | true=>exact cXa o hk px hkey h
 | false=>exact wpS_bind (cXa o hk hkey px (wpS_pure h))
theorem dZq {st:SortSt} {b:Nat->Bool} {n lo hi:Nat} {body:Nat->Option (Option Nat) × Nat × Nat->SM (ForInStep (Option (Option Nat) × Nat × Nat))} {Q:Option (Option Nat) × Nat × Nat->SortSt->Prop}
  (hb:∀ x lo hi (Q':ForInStep (Option (Option Nat) × Nat × Nat)->SortSt->Prop),hi<=n->(hi<=lo->Q' (.done (none,lo,hi)) st)->(lo < hi->b (lo + (hi - lo) / 2)=true->Q' (.yield (none,lo + (hi - lo) / 2 + 1,hi)) st)->(lo < hi->b (lo + (hi - lo) / 2)=false->Q' (.yield (none,lo,lo + (hi - lo) / 2)) st)->wpS (model prog w) A E s (body x (none,lo,hi)) Q' st)
  (mono:∀ i j,i<=j->j < n->b j=true->b i=true) (h1:lo<=hi) (h2:hi<=n) (h3:∀ i,i < lo->b i=true) (h4:∀ i,hi<=i->i < n->b i=false)
  (h:∀ k,k<=n->(∀ i,i < k->b i=true)->(∀ i,k<=i->i < n->b i=false)->Q (none,k,k) st):wpS (model prog w) A E s (forIn [0:n] ((none,lo,hi):Option (Option Nat) × Nat × Nat) body) Q st:=by
 refine wpS_mono (wpS_forRange (I:=fun x c st'=>st'=st/\∃ lo hi,c=(none,lo,hi)/\lo<=hi/\hi<=n/\hi + x<=lo + n/\(∀ i,i < lo->b i=true)/\∀ i,hi<=i->i < n->b i=false)
  (Q:=fun c st'=>st'=st/\∃ lo hi,c=(none,lo,hi)/\hi<=lo/\lo<=hi/\hi<=n/\(∀ i,i < lo->b i=true)/\∀ i,hi<=i->i < n->b i=false) ?_ ?_ ⟨rfl,lo,hi,rfl,h1,h2,by lia,h3,h4⟩) ?_
 ·rintro x c st' _ hx ⟨rfl,lo,hi,rfl,a1,a2,a3,a4,a5⟩;refine hb x lo hi _ a2 (fun hc=>⟨rfl,lo,hi,rfl,hc,a1,a2,a4,a5⟩) (fun hc e=>⟨rfl,_,_,rfl,by lia,a2,by lia,fun i hi'=>mono i _ (by lia) (by lia) e,a5⟩) fun hc e=>⟨rfl,_,_,rfl,by lia,by lia,by lia,a4,fun i h1 h2=>?_⟩
  cases e2:b i with
  | false=>rfl
  | true=>rw[mono _ i h1 h2 e2] at e;cases e
 ·rintro c st' ⟨rfl,lo,hi,rfl,a1,a2,a3,a4,a5⟩;exact⟨rfl,lo,hi,rfl,by lia,a1,a2,a4,a5⟩
 ·rintro c st' ⟨rfl,lo,hi,rfl,a0,a1,a2,a4,a5⟩
  have:lo=hi:=by lia
  subst this;exact h lo a2 a4 a5
theorem bQj (o:Orc prog w A s κ P lt) {st:SortSt} {lf:Bool} {key:Keyed} {arr:Array Keyed} {b0 n at0:Nat} {f:Nat->Keyed} {Q:Option Nat->SortSt->Prop} (hk:kindOf st=κ) (hkey:P key)
  (hf:∀ i,i < n->arr[b0 + i]?=some (f i)/\P (f i)) (mono:∀ i j,i<=j->j < n->bv lt lf key (f j)=true->bv lt lf key (f i)=true) (h0:at0 < n)
  (h:∀ k,k<=n->(∀ i,i < k->bv lt lf key (f i)=true)->(∀ i,k<=i->i < n->bv lt lf key (f i)=false)->Q (some k) st):wpS (model prog w) A E s (gal lf key arr b0 n at0) Q st:=by
 rw[eXt];dsimp only;have up:∀ i j,i<=j->j < n->bv lt lf key (f i)=false->bv lt lf key (f j)=false:=fun i j h1 h2 h3=>by
  cases e:bv lt lf key (f j) with
  | false=>rfl
  | true=>rw[mono i j h1 h2 e] at h3;cases h3
 refine wpS_bind (bX2 o hk hkey (hf at0 h0).1 (hf at0 h0).2 ?_);dsimp only;cases e0:bv lt lf key (f at0) with
 | true =>
  rw[if_pos rfl];refine wpS_bind (wpS_mono (wpS_forRange (I:=fun x c st'=>st'=st/\∃ l ofs,c=(none,l,ofs)/\l < ofs/\x + 1<=ofs/\at0 + l < n/\bv lt lf key (f (at0 + l))=true)
   (Q:=fun c st'=>st'=st/\∃ l ofs,c=(none,l,ofs)/\l < ofs/\at0 + l < n/\bv lt lf key (f (at0 + l))=true/\(n - at0<=ofs\/(at0 + ofs < n/\bv lt lf key (f (at0 + ofs))=false))) ?_ ?_ ⟨rfl,0,1,rfl,by decide,by decide,h0,e0⟩) ?_)
  ·rintro x c st' _ hx ⟨rfl,l,ofs,rfl,a1,a2,a3,a4⟩;dsimp only
   by_cases hc:ofs >= n - at0
   ·rw[if_pos hc];exact wpS_pure ⟨rfl,l,ofs,rfl,a1,a3,a4,.inl hc⟩
   ·rw[if_neg hc];have hm:at0 + ofs < n:=by lia
    refine wpS_bind (bX2 o hk hkey (hf _ hm).1 (hf _ hm).2 ?_);dsimp only;cases e:bv lt lf key (f (at0 + ofs)) with
    | true=>rw[if_neg (by simp)];exact wpS_pure ⟨rfl,ofs,_,rfl,by lia,by lia,hm,e⟩
    | false=>rw[if_pos (by rfl)];exact wpS_pure ⟨rfl,l,ofs,rfl,a1,a3,a4,.inr ⟨hm,e⟩⟩
  ·rintro c st' ⟨rfl,l,ofs,rfl,a1,a2,a3,a4⟩;exact⟨rfl,l,ofs,rfl,a1,a3,a4,.inl (by lia)⟩
  ·rintro c st' ⟨rfl,l,ofs,rfl,a1,a3,a4,a5⟩;have H4:∀ i,at0 + min ofs (n - at0)<=i->i < n->bv lt lf key (f i)=false:=fun i h1 h2=>by
    rcases a5 with z | ⟨z1,z2⟩
    ·lia
    ·exact up (at0 + ofs) i (by lia) h2 z2
   refine wpS_bind (dZq (b:=fun i=>bv lt lf key (f i)) (n:=n) (lo:=at0 + l + 1) (hi:=at0 + min ofs (n - at0)) (fun x lo hi Q' hn q1 q2 q3=>?_) mono (by lia) (by lia) (fun i hi=>mono i (at0 + l) (by lia) a3 a4) H4 fun k k1 k2 k3=>wpS_pure (h k k1 k2 k3))
   dsimp only
   by_cases hc:lo >= hi
   ·rw[if_pos hc];exact wpS_pure (q1 hc)
   ·rw[if_neg hc];have hm:lo + (hi - lo) / 2 < n:=by lia
    refine wpS_bind (bX2 o hk hkey (hf _ hm).1 (hf _ hm).2 ?_);dsimp only;cases e:bv lt lf key (f (lo + (hi - lo) / 2)) with
    | true=>rw[if_pos rfl];exact wpS_pure (q2 (by lia) e)
    | false=>rw[if_neg (by simp)];exact wpS_pure (q3 (by lia) e)
 | false =>
  rw[if_neg (by simp)]
  refine wpS_bind (wpS_mono (wpS_forRange (I:=fun x c st'=>st'=st/\∃ l ofs,c=(none,l,ofs)/\l < ofs/\x + 1<=ofs/\l<=at0/\bv lt lf key (f (at0 - l))=false)
   (Q:=fun c st'=>st'=st/\∃ l ofs,c=(none,l,ofs)/\l < ofs/\l<=at0/\bv lt lf key (f (at0 - l))=false/\(at0 + 1<=ofs\/(ofs<=at0/\bv lt lf key (f (at0 - ofs))=true))) ?_ ?_ ⟨rfl,0,1,rfl,by decide,by decide,Nat.zero_le _,e0⟩) ?_)
  ·rintro x c st' _ hx ⟨rfl,l,ofs,rfl,a1,a2,a3,a4⟩;dsimp only
   by_cases hc:ofs >= at0 + 1
   ·rw[if_pos hc];exact wpS_pure ⟨rfl,l,ofs,rfl,a1,a3,a4,.inl hc⟩
   ·rw[if_neg hc];have hm:at0 - ofs < n:=by lia
    refine wpS_bind (bX2 o hk hkey (hf _ hm).1 (hf _ hm).2 ?_);dsimp only;cases e:bv lt lf key (f (at0 - ofs)) with
    | true=>rw[if_pos rfl];exact wpS_pure ⟨rfl,l,ofs,rfl,a1,a3,a4,.inr ⟨by lia,e⟩⟩
    | false=>rw[if_neg (by simp)];exact wpS_pure ⟨rfl,ofs,_,rfl,by lia,by lia,by lia,e⟩
  ·rintro c st' ⟨rfl,l,ofs,rfl,a1,a2,a3,a4⟩;exact⟨rfl,l,ofs,rfl,a1,a3,a4,.inl (by lia)⟩
  ·rintro c st' ⟨rfl,l,ofs,rfl,a1,a3,a4,a5⟩;have H3:∀ i,i < at0 + 1 - min ofs (at0 + 1)->bv lt lf key (f i)=true:=fun i hi=>by
    rcases a5 with z | ⟨z1,z2⟩
    ·lia
    ·exact mono i (at0 - ofs) (by lia) (by lia) z2
   refine wpS_bind (dZq (b:=fun i=>bv lt lf key (f i)) (n:=n) (lo:=at0 + 1 - min ofs (at0 + 1)) (hi:=at0 - l) (fun x lo hi Q' hn q1 q2 q3=>?_) mono (by lia) (by lia) H3 (fun i h1 h2=>up (at0 - l) i h1 h2 a4) fun k k1 k2 k3=>wpS_pure (h k k1 k2 k3))
   dsimp only
   by_cases hc:lo >= hi
   ·rw[if_pos hc];exact wpS_pure (q1 hc)
   ·rw[if_neg hc];have hm:lo + (hi - lo) / 2 < n:=by lia
    refine wpS_bind (bX2 o hk hkey (hf _ hm).1 (hf _ hm).2 ?_);dsimp only;cases e:bv lt lf key (f (lo + (hi - lo) / 2)) with
    | true=>rw[if_pos rfl];exact wpS_pure (q2 (by lia) e)
    | false=>rw[if_neg (by simp)];exact wpS_pure (q3 (by lia) e)
end
def Sd {α:Type} (lt:α->α->Bool) (l:List α):Prop:=l.Pairwise fun x y=>lt y x=false
structure Iv {α:Type} (lt:α->α->Bool) (T out rest:List α):Prop where
 perm:(out++rest).Perm T
 sd:Sd lt out
 lo:∀ x∈out,∀ y∈rest,lt y x=false
section
variable {α:Type} {lt:α->α->Bool} {T out rest:List α}
theorem Iv.step (h:Iv lt T out rest) {xs rest':List α} (hp:rest.Perm (xs++rest')) (hs:Sd lt xs) (hl:∀ x∈xs,∀ y∈rest',lt y x=false):Iv lt T (out++xs) rest':=by
 refine⟨?_,List.pairwise_append.mpr ⟨h.sd,hs,fun x hx y hy=>h.lo x hx y (hp.mem_iff.mpr (List.mem_append_left _ hy))⟩,fun x hx y hy=>?_⟩
 ·rw[List.append_assoc];exact(List.Perm.append_left out hp.symm).trans h.perm
 ·rcases List.mem_append.mp hx with z | z
  ·exact h.lo x z y (hp.mem_iff.mpr (List.mem_append_right _ hy))
  ·exact hl x z y hy
theorem Iv.done (h:Iv lt T out rest) (hs:Sd lt rest):Sd lt (out++rest)/\(out++rest).Perm T:=⟨List.pairwise_append.mpr ⟨h.sd,hs,h.lo⟩,h.perm⟩
theorem Iv.perm' (h:Iv lt T out rest) {rest':List α} (hp:rest.Perm rest'):Iv lt T out rest':=⟨(List.Perm.append_left out hp.symm).trans h.perm,h.sd,fun x hx y hy=>h.lo x hx y (hp.mem_iff.mpr hy)⟩
theorem Iv.size (h:Iv lt T out rest):out.length + rest.length=T.length:=by rw[<- List.length_append];exact h.perm.length_eq
theorem bXu {l:List α} {i:Nat} {x:α} (h:l[i]?=some x):l.drop i=x::l.drop (i + 1):=by
 have hi:=(List.getElem?_eq_some_iff.mp h).1;rw[List.drop_eq_getElem_cons hi]
 congr 1
 exact(List.getElem?_eq_some_iff.mp h).2
theorem Sd.drop {l:List α} (h:Sd lt l) (i:Nat):Sd lt (l.drop i):=h.sublist (List.drop_sublist _ _)
theorem Sd.at {l:List α} (h:Sd lt l) {i j:Nat} {x y:α} (hij:i < j) (hx:l[i]?=some x) (hy:l[j]?=some y):lt y x=false:=by
 obtain⟨h1,e1⟩:=List.getElem?_eq_some_iff.mp hx;obtain⟨h2,e2⟩:=List.getElem?_eq_some_iff.mp hy
 have:=List.pairwise_iff_getElem.mp h i j h1 h2 hij
 rw[e1,e2] at this;exact this
theorem aQn {l:List α} {i:Nat} {y:α} (h:y∈l.drop i):∃ j,i<=j/\l[j]?=some y:=by
 obtain⟨k,hk,e⟩:=List.getElem_of_mem h;rw[List.getElem_drop] at e;rw[List.length_drop] at hk;exact⟨i + k,by lia,by rw[List.getElem?_eq_getElem (by lia),e]⟩
end
section
variable {prog:Program} {w:World} {A:Around} {s:Shared} {κ:SortKind} {P:Keyed->Prop} {lt:Keyed->Keyed->Bool} {T out la lb:List Keyed} {ia ib:Nat} {x y:Keyed}
theorem bX3 (o:Orc prog w A s κ P lt) {l:List Keyed} (hP:∀ z∈l,P z) (hs:Sd lt l) {i:Nat} {z:Keyed} (hz:P z) {y:Keyed} (hy:l[i]?=some y) (h:lt y z=false):∀ u∈l.drop i,lt u z=false:=fun u hu=>by
 obtain⟨j,hj,e⟩:=aQn hu;rcases Nat.eq_or_lt_of_le hj with rfl | hlt
 ·rw[hy] at e;cases e;exact h
 ·exact o.tr z y u hz (hP y (List.mem_of_getElem? hy)) (hP u (List.mem_of_getElem? e)) h (hs.at hlt hy e)
theorem Iv.pushB (h:Iv lt T out (la.drop ia++lb.drop ib)) (sb:Sd lt lb) (hy:lb[ib]?=some y) (hl:∀ u∈la.drop ia,lt u y=false):Iv lt T (out++[y]) (la.drop ia++lb.drop (ib + 1)):=by
 refine h.step ?_ (List.pairwise_singleton _ _) fun x hx u hu=>?_
 ·rw[bXu hy];exact List.perm_middle
 ·rw[List.mem_singleton.mp hx];rcases List.mem_append.mp hu with z | z
  ·exact hl u z
  ·obtain⟨j,hj,e⟩:=aQn z;exact sb.at (by lia) hy e
theorem Iv.pushA (h:Iv lt T out (la.drop ia++lb.drop ib)) (sa:Sd lt la) (hx:la[ia]?=some x) (hl:∀ u∈lb.drop ib,lt u x=false):Iv lt T (out++[x]) (la.drop (ia + 1)++lb.drop ib):=by
 refine h.step ?_ (List.pairwise_singleton _ _) fun z hz u hu=>?_
 ·rw[bXu hx];exact List.Perm.refl _
 ·rw[List.mem_singleton.mp hz];rcases List.mem_append.mp hu with z | z
  ·obtain⟨j,hj,e⟩:=aQn z;exact sa.at (by lia) hx e
  ·exact hl u z
theorem Iv.blockA (h:Iv lt T out (la.drop ia++lb.drop ib)) (sa:Sd lt la) (k:Nat) (hl:∀ z∈(la.drop ia).take k,∀ u∈lb.drop ib,lt u z=false):Iv lt T (out++(la.drop ia).take k) (la.drop (ia + k)++lb.drop ib):=by
 have e:la.drop ia=(la.drop ia).take k++la.drop (ia + k):=by rw[<- List.drop_drop];exact(List.take_append_drop k _).symm
 have sd:=sa.drop ia;rw[e] at sd;obtain⟨s1,_,s3⟩:=List.pairwise_append.mp sd;refine h.step ?_ s1 fun z hz u hu=>?_
 ·rw[<- List.append_assoc,<- e]
 ·rcases List.mem_append.mp hu with v | v
  ·exact s3 z hz u v
  ·exact hl z hz u v
theorem Iv.blockB (h:Iv lt T out (la.drop ia++lb.drop ib)) (sb:Sd lt lb) (k:Nat) (hl:∀ z∈(lb.drop ib).take k,∀ u∈la.drop ia,lt u z=false):Iv lt T (out++(lb.drop ib).take k) (la.drop ia++lb.drop (ib + k)):=by
 have e:lb.drop ib=(lb.drop ib).take k++lb.drop (ib + k):=by rw[<- List.drop_drop];exact(List.take_append_drop k _).symm
 have sd:=sb.drop ib;rw[e] at sd;obtain⟨s1,_,s3⟩:=List.pairwise_append.mp sd;refine h.step ?_ s1 fun z hz u hu=>?_
 ·have e2:la.drop ia++lb.drop ib=la.drop ia++((lb.drop ib).take k++lb.drop (ib + k)):=by rw[<- e]
  rw[e2,<- List.append_assoc,<- List.append_assoc];exact List.Perm.append_right _ List.perm_append_comm
 ·rcases List.mem_append.mp hu with v | v
  ·exact hl z hz u v
  ·exact s3 z hz u v
theorem aZl {l:List Keyed} {i k:Nat} {z:Keyed} (h:z∈(l.drop i).take k):∃ j,j < k/\l[i + j]?=some z:=by
 obtain⟨j,hj,e⟩:=List.getElem_of_mem h;rw[List.length_take,List.length_drop] at hj;rw[List.getElem_take,List.getElem_drop] at e;exact⟨j,by lia,by rw[List.getElem?_eq_getElem (by lia),e]⟩
end
theorem aZb (a:Array Keyed) (i j:Nat):(a.extract i j).toList=(a.toList.drop i).take (j - i):=by simp
theorem bXv (a:Array Keyed) (i:Nat):(a.extract i a.size).toList=a.toList.drop i:=by
 rw[aZb];exact List.take_of_length_le (by rw[List.length_drop];simp)
end SF
theorem hd {g:Prop} (h:∀ G:Prop,(g->G)->G):g:=h g id
namespace SF
open PySem PyProof.Rows
section
variable {prog:Program} {w:World} {A:Around} {E:Value->Shared->Prop} {s:Shared} {κ:SortKind} {P:Keyed->Prop} {lt:Keyed->Keyed->Bool}
theorem aQb {a:Array Keyed} {i:Nat} (h:i < a.size):∃ x,a[i]?=some x/\a.toList[i]?=some x:=⟨a[i],by simp[h],by simp[h]⟩
theorem dZr {σ α:Type} {M:Model} {c:Nat->Prop} {di:∀ n,Decidable (c n)} {X Y:Nat->StateT σ Sem α} {Q:α->σ->Prop} {st:σ} (e:∀ n,X n=Y (n - 1)) (h:∀ m,wpS M A E s (Y m) Q st) (n:Nat):wpS M A E s (@ite _ (c n) (di n) (X n) (Y n)) Q st:=by
 split
 ·rw[e];exact h _
 ·exact h _
theorem eXv (o:Orc prog w A s κ P lt) {st:SortSt} {a b:Array Keyed} {Q:Array Keyed->SortSt->Prop} (hk:kindOf st=κ) (pa:∀ x∈a.toList,P x) (pb:∀ y∈b.toList,P y) (sa:Sd lt a.toList) (sb:Sd lt b.toList) (na:1<=a.size) (nb:1<=b.size)
  (hfst:∀ y,b.toList[0]?=some y->∀ x∈a.toList,lt x y=false) (hlst:∀ z,a.toList[a.size - 1]?=some z->∀ y∈b.toList,lt z y=false)
  (h:∀ out g,Sd lt out.toList->out.toList.Perm (a.toList++b.toList)->Q out (setG st g)):wpS (model prog w) A E s (mLo a b) Q st:=by
 have sz:(a.toList++b.toList).length=a.size + b.size:=by simp
 have finA:∀ (out:Array Keyed) ia ib g,ib=b.size->Iv lt (a.toList++b.toList) out.toList (a.toList.drop ia++b.toList.drop ib)->Q (out++a.extract ia a.size++b.extract ib b.size) (setG st g):=fun out ia ib g e iv=>by
  have e0:b.toList.drop ib=[]:=List.drop_eq_nil_of_le (by simp[e])
  rw[e0,List.append_nil] at iv
  have:=iv.done (sa.drop ia)
  refine h _ g ?_ ?_ <;> simp only[Array.toList_append,bXv,e0,List.append_nil]
  ·exact this.1
  ·exact this.2
 have finB:∀ (out:Array Keyed) ia ib g,ia=a.size->Iv lt (a.toList++b.toList) out.toList (a.toList.drop ia++b.toList.drop ib)->Q (out++a.extract ia a.size++b.extract ib b.size) (setG st g):=fun out ia ib g e iv=>by
  have e0:a.toList.drop ia=[]:=List.drop_eq_nil_of_le (by simp[e])
  rw[e0,List.nil_append] at iv
  have:=iv.done (sb.drop ib)
  refine h _ g ?_ ?_ <;> simp only[Array.toList_append,bXv,e0,List.append_nil]
  ·exact this.1
  ·exact this.2
 have finL:∀ (out:Array Keyed) ia ib g,ia + 1=a.size->Iv lt (a.toList++b.toList) out.toList (a.toList.drop ia++b.toList.drop ib)->Q (out++b.extract ib b.size++a.extract ia a.size) (setG st g):=fun out ia ib g e iv=>by
  obtain⟨z,hz,hzl⟩:=aQb (a:=a) (i:=ia) (by lia)
  have e0:a.toList.drop ia=[z]:=by rw[bXu hzl,List.drop_eq_nil_of_le (by simp;lia)]
  have iv2:=iv.perm' List.perm_append_comm;have hz2:a.toList[a.size - 1]?=some z:=by rw[<- e];exact hzl
  have:=iv2.done (List.pairwise_append.mpr ⟨sb.drop ib,sa.drop ia,fun x hx y hy=>by
   rw[e0] at hy;rw[List.mem_singleton.mp hy];exact hlst z hz2 x (List.mem_of_mem_drop hx)⟩)
  refine h _ g ?_ ?_ <;> simp only[Array.toList_append,bXv,List.append_assoc]
  ·exact this.1
  ·exact this.2
 have t2:∀ (Post:ForInStep (Option (Array Keyed) × Array Keyed × Nat × Nat × Nat × Nat × Nat)->SortSt->Prop) (out:Array Keyed) (ia ib mg ac bc g:Nat),(∀ r c',Q r (setG st g)->Post (.done (some r,c')) (setG st g)) ->
   (∀ out' ia' ib' ac' bc',ia' + 1 < a.size->ib' < b.size->Iv lt (a.toList++b.toList) out'.toList (a.toList.drop ia'++b.toList.drop ib')->out.size<=out'.size->Post (.done (none,out',ia',ib',mg,ac',bc')) (setG st g)/\Post (.yield (none,out',ia',ib',mg,ac',bc')) (setG st g)) ->
   ia + 1 < a.size->ib < b.size->Iv lt (a.toList++b.toList) out.toList (a.toList.drop ia++b.toList.drop ib)->(∀ x,a.toList[ia]?=some x->∀ u∈b.toList.drop ib,lt u x=false) ->
   wpS (model prog w) A E s (do
    let x <- elem' a ia
    if (ia + 1 + 1 == a.size)=true then pure (ForInStep.done (some (out.push x++b.extract ib b.size++a.extract (ia + 1) a.size),out.push x,ia + 1,ib,mg,ac,bc))
    else if (decide (ac < 7) && decide (bc < 7))=true then pure (ForInStep.done (none,out.push x,ia + 1,ib,mg,ac,bc))
    else pure (ForInStep.yield (none,out.push x,ia + 1,ib,mg,ac,bc))) Post (setG st g):=by
  intro Post out ia ib mg ac bc g hd hg hia hib iv hl;obtain⟨x1,hx1,hx1l⟩:=aQb (a:=a) (i:=ia) (by lia)
  refine wpS_bind (aZ4 hx1 ?_);have iv2:Iv lt (a.toList++b.toList) (out.push x1).toList (a.toList.drop (ia + 1)++b.toList.drop ib):=by
   rw[Array.toList_push];exact iv.pushA sa hx1l (hl x1 hx1l)
  have sp:(out.push x1).size=out.size + 1:=Array.size_push ..
  by_cases c1:(ia + 1 + 1 == a.size)=true
  ·rw[if_pos c1];exact wpS_pure (hd _ _ (finL _ _ _ g (by simpa using c1) iv2))
  ·rw[if_neg c1];have c1':ia + 1 + 1≠a.size:=by simpa using c1
   have:=hg (out.push x1) (ia + 1) ib ac bc (by lia) hib iv2 (by lia)
   by_cases c2:(decide (ac < 7) && decide (bc < 7))=true
   ·rw[if_pos c2];exact wpS_pure this.1
   ·rw[if_neg c2];exact wpS_pure this.2
 have t1:∀ (Post:ForInStep (Option (Array Keyed) × Array Keyed × Nat × Nat × Nat × Nat × Nat)->SortSt->Prop) (out:Array Keyed) (ia ib mg ac bc g:Nat),(∀ r c',Q r (setG st g)->Post (.done (some r,c')) (setG st g)) ->
   (∀ out' ia' ib' ac' bc',ia' + 1 < a.size->ib' < b.size->Iv lt (a.toList++b.toList) out'.toList (a.toList.drop ia'++b.toList.drop ib')->out.size<=out'.size->Post (.done (none,out',ia',ib',mg,ac',bc')) (setG st g)/\Post (.yield (none,out',ia',ib',mg,ac',bc')) (setG st g)) ->
   ia + 1 < a.size->ib < b.size->Iv lt (a.toList++b.toList) out.toList (a.toList.drop ia++b.toList.drop ib)->(∀ y,b.toList[ib]?=some y->∀ u∈a.toList.drop ia,lt u y=false) ->
   wpS (model prog w) A E s (do
    let y <- elem' b ib
    if (ib + 1 == b.size)=true then pure (ForInStep.done (some (out.push y++a.extract ia a.size++b.extract (ib + 1) b.size),out.push y,ia,ib + 1,mg,ac,bc))
    else do
     let x <- elem' a ia
     let z <- gal true x b (ib + 1) (b.size - (ib + 1)) 0
     match z with
     | some k1 =>
      if k1 > 0 then
       if (ib + 1 + k1 == b.size)=true then pure (ForInStep.done (some (out.push y++b.extract (ib + 1) (ib + 1 + k1)++a.extract ia a.size++b.extract (ib + 1 + k1) b.size),out.push y++b.extract (ib + 1) (ib + 1 + k1),ia,ib + 1 + k1,mg,ac,k1))
       else do
        let x <- elem' a ia
        if (ia + 1 + 1 == a.size)=true then pure (ForInStep.done (some ((out.push y++b.extract (ib + 1) (ib + 1 + k1)).push x++b.extract (ib + 1 + k1) b.size++a.extract (ia + 1) a.size),(out.push y++b.extract (ib + 1) (ib + 1 + k1)).push x,ia + 1,ib + 1 + k1,mg,ac,k1))
        else if (decide (ac < 7) && decide (k1 < 7))=true then pure (ForInStep.done (none,(out.push y++b.extract (ib + 1) (ib + 1 + k1)).push x,ia + 1,ib + 1 + k1,mg,ac,k1))
        else pure (ForInStep.yield (none,(out.push y++b.extract (ib + 1) (ib + 1 + k1)).push x,ia + 1,ib + 1 + k1,mg,ac,k1))
      else do
       let x <- elem' a ia
       if (ia + 1 + 1 == a.size)=true then pure (ForInStep.done (some ((out.push y).push x++b.extract (ib + 1) b.size++a.extract (ia + 1) a.size),(out.push y).push x,ia + 1,ib + 1,mg,ac,k1))
       else if (decide (ac < 7) && decide (k1 < 7))=true then pure (ForInStep.done (none,(out.push y).push x,ia + 1,ib + 1,mg,ac,k1))
       else pure (ForInStep.yield (none,(out.push y).push x,ia + 1,ib + 1,mg,ac,k1))
     | _=>pure (ForInStep.done (some (out.push y++a.extract ia a.size++b.extract (ib + 1) b.size),out.push y,ia,ib + 1,mg,ac,bc))) Post (setG st g):=by
  intro Post out ia ib mg ac bc g hd hg hia hib iv hl;obtain⟨y1,hy1,hy1l⟩:=aQb (a:=b) (i:=ib) hib;obtain⟨x1,hx1,hx1l⟩:=aQb (a:=a) (i:=ia) (by lia)
  have px1:=pa x1 (List.mem_of_getElem? hx1l);refine wpS_bind (aZ4 hy1 ?_);have iv2:Iv lt (a.toList++b.toList) (out.push y1).toList (a.toList.drop ia++b.toList.drop (ib + 1)):=by
   rw[Array.toList_push];exact iv.pushB sb hy1l (hl y1 hy1l)
  have sp:(out.push y1).size=out.size + 1:=Array.size_push ..
  by_cases c1:(ib + 1 == b.size)=true
  ·rw[if_pos c1];exact wpS_pure (hd _ _ (finA _ _ _ g (by simpa using c1) iv2))
  rw[if_neg c1];have c1':ib + 1≠b.size:=by simpa using c1
  refine wpS_bind (aZ4 hx1 (wpS_bind (bQj o (f:=fun i=>b.toList.getD (ib + 1 + i) (.none,.none)) hk px1 (fun i hi=>?_) (fun i j hij hj hb=>?_) (by lia) fun k k1 k2 k3=>?_)))
  ·obtain⟨z,hz,hzl⟩:=aQb (a:=b) (i:=ib + 1 + i) (by lia)
   rw[List.getD_eq_getElem?_getD,hzl];exact⟨hz,pb z (List.mem_of_getElem? hzl)⟩
  ·obtain⟨z,hz,hzl⟩:=aQb (a:=b) (i:=ib + 1 + i) (by lia)
   obtain⟨z',hz',hzl'⟩:=aQb (a:=b) (i:=ib + 1 + j) (by lia)
   rw[List.getD_eq_getElem?_getD,hzl'] at hb;rw[List.getD_eq_getElem?_getD,hzl];have hb':lt z' x1=true:=hb;show lt z x1=true;cases e:lt z x1 with
   | true=>rfl
   | false =>
    exfalso;have pz:=pb z (List.mem_of_getElem? hzl);have pz':=pb z' (List.mem_of_getElem? hzl');rcases Nat.eq_or_lt_of_le hij with rfl | hlt
    ·rw[hzl] at hzl';cases hzl';rw[e] at hb';cases hb'
    ·have:=o.tr x1 z z' px1 pz pz' e (sb.at (by lia) hzl hzl')
     rw[hb'] at this;cases this
  have behind:∀ j y,ib + 1 + k<=j->b.toList[j]?=some y->lt y x1=false:=fun j y hj hy=>by
   have hjb:j < b.size:=by have:=(List.getElem?_eq_some_iff.mp hy).1;simpa using this
   have:=k3 (j - (ib + 1)) (by lia) (by lia)
   rw[List.getD_eq_getElem?_getD,show ib + 1 + (j - (ib + 1))=j by lia,hy] at this
   exact this
  dsimp only
  by_cases ck:k > 0
  ·rw[if_pos ck];have iv3:Iv lt (a.toList++b.toList) (out.push y1++b.extract (ib + 1) (ib + 1 + k)).toList (a.toList.drop ia++b.toList.drop (ib + 1 + k)):=by
    rw[Array.toList_append,aZb,show ib + 1 + k - (ib + 1)=k by lia]
    refine iv2.blockB sb k fun z hz u hu=>?_;obtain⟨j,hj,hzl⟩:=aZl hz;have pz:=pb z (List.mem_of_getElem? hzl);have hb:=k2 j hj;rw[List.getD_eq_getElem?_getD,hzl] at hb;exact bX3 o pa sa pz hx1l (o.as _ _ pz px1 hb) u hu
   have sz3:out.size<=(out.push y1++b.extract (ib + 1) (ib + 1 + k)).size:=by rw[Array.size_append];lia
   by_cases c3:(ib + 1 + k == b.size)=true
   ·rw[if_pos c3];exact wpS_pure (hd _ _ (finA _ _ _ g (by simpa using c3) iv3))
   ·rw[if_neg c3];have c3':ib + 1 + k≠b.size:=by simpa using c3
    refine t2 Post _ ia (ib + 1 + k) mg ac k g hd (fun o' i1 i2 a1 b1 q1 q2 q3 q4=>hg o' i1 i2 a1 b1 q1 q2 q3 (by lia)) hia (by lia) iv3 fun x hx u hu=>?_
    rw[hx1l] at hx;cases hx;obtain⟨j,hj,e⟩:=aQn hu;exact behind j u hj e
  ·rw[if_neg ck];have k0:k=0:=by lia
   refine t2 Post _ ia (ib + 1) mg ac k g hd (fun o' i1 i2 a1 b1 q1 q2 q3 q4=>hg o' i1 i2 a1 b1 q1 q2 q3 (by lia)) hia (by lia) iv2 fun x hx u hu=>?_
   rw[hx1l] at hx;cases hx;obtain⟨j,hj,e⟩:=aQn hu;exact behind j u (by lia) e
 rw[eXu];refine wpS_bind (wpS_lift (wpAny_rule ⟨rfl,?_⟩));dsimp only;obtain⟨y0,hy0,hy0l⟩:=aQb (a:=b) (i:=0) nb;refine wpS_bind (aZ4 hy0 ?_);have iv0:Iv lt (a.toList++b.toList) (#[y0]:Array Keyed).toList (a.toList.drop 0++b.toList.drop 1):=by
  have i0:Iv lt (a.toList++b.toList) [] (a.toList.drop 0++b.toList.drop 0):=⟨by simp,List.Pairwise.nil,by simp⟩
  exact i0.pushB sb hy0l fun u hu=>hfst y0 hy0l u hu
 have est:st=setG st (gallopOf st):=rfl
 by_cases hb1:(1 == b.size)=true
 ·rw[if_pos hb1];refine wpS_pure ?_;rw[est];exact finA _ 0 1 _ (by simpa using hb1) iv0
 rw[if_neg hb1]
 by_cases ha1:(0 + 1 == a.size)=true
 ·rw[if_pos ha1];refine wpS_pure ?_;rw[est];exact finL _ 0 1 _ (by simpa using ha1) iv0
 rw[if_neg ha1];have hb2:1 < b.size:=by
  have:1≠b.size:=by simpa using hb1
  lia
 have ha2:0 + 1 < a.size:=by
  have:0 + 1≠a.size:=by simpa using ha1
  lia
 refine wpS_bind (wpS_get ?_);refine wpS_bind (wpS_mono (wpS_forRange (I:=fun x c st'=>∃ out ia ib mg g,c=(none,out,ia,ib,mg)/\st'=setG st g/\ia + 1 < a.size/\ib < b.size/\Iv lt (a.toList++b.toList) out.toList (a.toList.drop ia++b.toList.drop ib)/\x + 1<=out.size)
  (Q:=fun c st'=>∃ r,c.fst=some r/\Q r st') ?_ ?_ ⟨#[y0],0,1,_,_,rfl,est,ha2,hb2,iv0,by simp⟩) ?_)
 ·intro x c st' _ hx zq;refine hd fun Gq kq=>?_;obtain⟨out,ia,ib,mg,g,rfl,rfl,hia,hib,iv,hsz⟩:=zq;refine kq ?_;dsimp only;refine wpS_bind (wpS_mono (wpS_forRange (I:=fun y c st'=>∃ out' ia' ib' ac bc,c=(none,out',ia',ib',ac,bc)/\st'=setG st g/\ia' + 1 < a.size/\ib' < b.size/\Iv lt (a.toList++b.toList) out'.toList (a.toList.drop ia'++b.toList.drop ib')/\out.size + y<=out'.size)
   (Q:=fun c st'=>st'=setG st g/\((∃ r,c.fst=some r/\Q r st')\/∃ out' ia' ib' ac bc,c=(none,out',ia',ib',ac,bc)/\ia' + 1 < a.size/\ib' < b.size/\Iv lt (a.toList++b.toList) out'.toList (a.toList.drop ia'++b.toList.drop ib')/\out.size + 1<=out'.size)) ?_ ?_ ⟨out,ia,ib,0,0,rfl,rfl,hia,hib,iv,Nat.le_refl _⟩) ?_)
  ·intro y c st' _ hy zq;refine hd fun Gq kq=>?_;obtain⟨out',ia',ib',ac,bc,rfl,rfl,hia',hib',iv',hsz'⟩:=zq;refine kq ?_;obtain⟨x1,hx1,hx1l⟩:=aQb (a:=a) (i:=ia') (by lia)
   obtain⟨y1,hy1,hy1l⟩:=aQb (a:=b) (i:=ib') hib';have px1:=pa x1 (List.mem_of_getElem? hx1l);have py1:=pb y1 (List.mem_of_getElem? hy1l);dsimp only;refine wpS_bind (aZ4 hy1 (wpS_bind (aZ4 hx1 (wpS_bind (cXa o hk py1 px1 ?_)))));dsimp only;cases e:lt y1 x1 with
   | true =>
    rw[if_pos rfl];refine wpS_bind (aZ4 hy1 ?_);have iv2:Iv lt (a.toList++b.toList) (out'.push y1).toList (a.toList.drop ia'++b.toList.drop (ib' + 1)):=by
     rw[Array.toList_push];exact iv'.pushB sb hy1l (bX3 o pa sa py1 hx1l (o.as _ _ py1 px1 e))
    have sp:(out'.push y1).size=out'.size + 1:=Array.size_push ..
    by_cases c1:(ib' + 1 == b.size)=true
    ·rw[if_pos c1];exact wpS_pure ⟨rfl,.inl ⟨_,rfl,finA _ _ _ g (by simpa using c1) iv2⟩⟩
    ·rw[if_neg c1];have c1':ib' + 1≠b.size:=by simpa using c1
     by_cases c2:bc + 1 >= mg
     ·rw[if_pos c2];exact wpS_pure ⟨rfl,.inr ⟨_,_,_,_,_,rfl,hia',by lia,iv2,by lia⟩⟩
     ·rw[if_neg c2];exact wpS_pure ⟨_,_,_,_,_,rfl,rfl,hia',by lia,iv2,by lia⟩
   | false =>
    rw[if_neg (by simp)]
    refine wpS_bind (aZ4 hx1 ?_);have iv2:Iv lt (a.toList++b.toList) (out'.push x1).toList (a.toList.drop (ia' + 1)++b.toList.drop ib'):=by
     rw[Array.toList_push];exact iv'.pushA sa hx1l (bX3 o pb sb px1 hy1l e)
    have sp:(out'.push x1).size=out'.size + 1:=Array.size_push ..
    by_cases c1:(ia' + 1 + 1 == a.size)=true
    ·rw[if_pos c1];exact wpS_pure ⟨rfl,.inl ⟨_,rfl,finL _ _ _ g (by simpa using c1) iv2⟩⟩
    ·rw[if_neg c1];have c1':ia' + 1 + 1≠a.size:=by simpa using c1
     by_cases c2:ac + 1 >= mg
     ·rw[if_pos c2];exact wpS_pure ⟨rfl,.inr ⟨_,_,_,_,_,rfl,by lia,hib',iv2,by lia⟩⟩
     ·rw[if_neg c2];exact wpS_pure ⟨_,_,_,_,_,rfl,rfl,by lia,hib',iv2,by lia⟩
  ·intro c st' zq;refine hd fun Gq kq=>?_;obtain⟨out',ia',ib',ac,bc,rfl,rfl,hia',hib',iv',hsz'⟩:=zq;refine kq ?_;exact⟨rfl,.inr ⟨_,_,_,_,_,rfl,hia',hib',iv',by lia⟩⟩
  ·rintro c st' ⟨rfl,⟨r,hr,q⟩ | ⟨out1,ia1,ib1,ac1,bc1,rfl,hia1,hib1,iv1,hsz1⟩⟩
   ·obtain⟨c1,c2⟩:=c;dsimp only at hr;subst hr;exact wpS_pure ⟨r,rfl,q⟩
   ·dsimp only;refine wpS_bind (wpS_lift (wpAny_rule ⟨rfl,?_⟩));refine wpS_bind (wpS_mono (wpS_forRange (I:=fun y c st'=>∃ out' ia' ib' mg' ac bc g',c=(none,out',ia',ib',mg',ac,bc)/\st'=setG st g'/\ia' + 1 < a.size/\ib' < b.size/\Iv lt (a.toList++b.toList) out'.toList (a.toList.drop ia'++b.toList.drop ib')/\out1.size<=out'.size)
     (Q:=fun c st'=>(∃ r,c.fst=some r/\Q r st')\/∃ out' ia' ib' mg' ac bc g',c=(none,out',ia',ib',mg',ac,bc)/\st'=setG st g'/\ia' + 1 < a.size/\ib' < b.size/\Iv lt (a.toList++b.toList) out'.toList (a.toList.drop ia'++b.toList.drop ib')/\out1.size<=out'.size) ?_ ?_ ⟨out1,ia1,ib1,_,ac1,bc1,g,rfl,rfl,hia1,hib1,iv1,Nat.le_refl _⟩) ?_)
    ·intro y c st' _ hy zq;refine hd fun Gq kq=>?_;obtain⟨out',ia',ib',mg',ac,bc,g',rfl,rfl,hia',hib',iv',hsz'⟩:=zq;refine kq ?_;dsimp only;obtain⟨y1,hy1,hy1l⟩:=aQb (a:=b) (i:=ib') hib';have py1:=pb y1 (List.mem_of_getElem? hy1l);have fa:∀ i,i < a.size - ia'->a[ia' + i]?=some (a.toList.getD (ia' + i) (.none,.none))/\P (a.toList.getD (ia' + i) (.none,.none)):=fun i hi=>by
      obtain⟨z,hz,hzl⟩:=aQb (a:=a) (i:=ia' + i) (by lia)
      rw[List.getD_eq_getElem?_getD,hzl];exact⟨hz,pa z (List.mem_of_getElem? hzl)⟩
     have mono:∀ i j,i<=j->j < a.size - ia'->bv lt false y1 (a.toList.getD (ia' + j) (.none,.none))=true->bv lt false y1 (a.toList.getD (ia' + i) (.none,.none))=true:=fun i j hij hj hb=>by
      obtain⟨z,hz,hzl⟩:=aQb (a:=a) (i:=ia' + i) (by lia)
      obtain⟨z',hz',hzl'⟩:=aQb (a:=a) (i:=ia' + j) (by lia)
      rw[List.getD_eq_getElem?_getD,hzl'] at hb;rw[List.getD_eq_getElem?_getD,hzl];have hb':lt y1 z'=false:=by simpa [bv] using hb
      show(!lt y1 z)=true;rcases Nat.eq_or_lt_of_le hij with rfl | hlt
      ·rw[hzl] at hzl';cases hzl';rw[hb'];rfl
      ·rw[o.tr z z' y1 (pa z (List.mem_of_getElem? hzl)) (pa z' (List.mem_of_getElem? hzl')) py1 (sa.at (by lia) hzl hzl') hb'];rfl
     clear kq
     revert mg'
     refine dZr (fun _=>rfl) fun m2=>?_;refine wpS_bind (wpS_modify (wpS_bind (aZ4 hy1 (wpS_bind (bQj o (f:=fun i=>a.toList.getD (ia' + i) (.none,.none)) hk py1 fa mono (by lia) fun k k1 k2 k3=>?_)))))
     dsimp only;have behind:∀ j z,ia' + k<=j->a.toList[j]?=some z->lt z y1=false:=fun j z hj hz=>by
      have hja:j < a.size:=by have:=(List.getElem?_eq_some_iff.mp hz).1;simpa using this
      have:=k3 (j - ia') (by lia) (by lia)
      rw[List.getD_eq_getElem?_getD,show ia' + (j - ia')=j by lia,hz] at this
      have h1:(!lt y1 z)=false:=this;exact o.as _ _ py1 (pa z (List.mem_of_getElem? hz)) (by simpa using h1)
     by_cases ck:k > 0
     ·rw[if_pos ck];have iv3:Iv lt (a.toList++b.toList) (out'++a.extract ia' (ia' + k)).toList (a.toList.drop (ia' + k)++b.toList.drop ib'):=by
       rw[Array.toList_append,aZb,show ia' + k - ia'=k by lia]
       refine iv'.blockA sa k fun z hz u hu=>?_;obtain⟨j,hj,hzl⟩:=aZl hz;have hb:=k2 j hj;rw[List.getD_eq_getElem?_getD,hzl] at hb;have h1:(!lt y1 z)=true:=hb;exact bX3 o pb sb (pa z (List.mem_of_getElem? hzl)) hy1l (by simpa using h1) u hu
      have sz3:out1.size<=(out'++a.extract ia' (ia' + k)).size:=by rw[Array.size_append];lia
      by_cases c3:(ia' + k + 1 == a.size)=true
      ·rw[if_pos c3];exact wpS_pure (.inl ⟨_,rfl,finL _ _ _ _ (by simpa using c3) iv3⟩)
      ·rw[if_neg c3];have c3':ia' + k + 1≠a.size:=by simpa using c3
       by_cases c4:(ia' + k == a.size)=true
       ·rw[if_pos c4];exact wpS_pure (.inl ⟨_,rfl,finB _ _ _ _ (by simpa using c4) iv3⟩)
       ·rw[if_neg c4];have c4':ia' + k≠a.size:=by simpa using c4
        refine t1 _ _ (ia' + k) ib' m2 k bc m2 (fun r c' q=>.inl ⟨r,rfl,q⟩) (fun o' i1 i2 a1 b1 q1 q2 q3 q4=>⟨.inr ⟨_,_,_,_,_,_,_,rfl,rfl,q1,q2,q3,by lia⟩,⟨_,_,_,_,_,_,_,rfl,rfl,q1,q2,q3,by lia⟩⟩) (by lia) hib' iv3 fun y hy u hu=>?_
        rw[hy1l] at hy;cases hy;obtain⟨j,hj,e⟩:=aQn hu;exact behind j u hj e
     ·rw[if_neg ck];refine t1 _ _ ia' ib' m2 k bc m2 (fun r c' q=>.inl ⟨r,rfl,q⟩) (fun o' i1 i2 a1 b1 q1 q2 q3 q4=>⟨.inr ⟨_,_,_,_,_,_,_,rfl,rfl,q1,q2,q3,by lia⟩,⟨_,_,_,_,_,_,_,rfl,rfl,q1,q2,q3,by lia⟩⟩) hia' hib' iv' fun y hy u hu=>?_
      rw[hy1l] at hy;cases hy;obtain⟨j,hj,e⟩:=aQn hu;exact behind j u (by lia) e
    ·intro c st' zq;refine hd fun Gq kq=>?_;obtain⟨out',ia',ib',mg',ac,bc,g',rfl,rfl,hia',hib',iv',hsz'⟩:=zq;refine kq ?_;exact .inr ⟨_,_,_,_,_,_,_,rfl,rfl,hia',hib',iv',hsz'⟩
    ·rintro c st' (⟨r,hr,q⟩ | ⟨out',ia',ib',mg',ac,bc,g',rfl,rfl,hia',hib',iv',hsz'⟩)
     ·obtain⟨c1,c2⟩:=c;dsimp only at hr;subst hr;exact wpS_pure ⟨r,rfl,q⟩
     ·dsimp only;exact wpS_bind (wpS_modify (wpS_pure ⟨_,_,_,_,_,rfl,rfl,hia',hib',iv',by lia⟩))
 ·intro c st' zq;refine hd fun Gq kq=>?_;obtain⟨out,ia,ib,mg,g,rfl,rfl,hia,hib,iv,hsz⟩:=zq;refine kq ?_;exfalso
  have:=iv.size
  rw[sz,Array.length_toList] at this;lia
 ·rintro c st' ⟨r,hr,q⟩;obtain⟨c1,c2⟩:=c;dsimp only at hr;subst hr;exact wpS_pure q
end
theorem eXw (a b:Array Keyed):mHi a b=(do
 rule "list.sort.merge-hi"
 let total:=a.size + b.size
 let fin (o:Array Keyed) (na nb:Nat):=a.extract 0 na++b.extract 0 nb++o.reverse
 let fst (o:Array Keyed) (na nb:Nat):=b.extract 0 nb++a.extract 0 na++o.reverse
 let mut na:=a.size - 1
 let mut nb:=b.size
 let mut out:Array Keyed:=#[<- elem' a na]
 if na == 0 then return fin out na nb
 if nb == 1 then return fst out na nb
 let mut minGallop:=gallopOf (<- get)
 for _ in [0:total] do
  let mut acount:=0
  let mut bcount:=0
  for _ in [0:total] do
   let some aw <- lt' (<- elem' b (nb - 1)) (<- elem' a (na - 1)) | return fin out na nb
   if aw then
    na:=na - 1
    out:=out.push (<- elem' a na)
    acount:=acount + 1
    bcount:=0
    if na == 0 then return fin out na nb
    if acount >= minGallop then break
   else
    nb:=nb - 1
    out:=out.push (<- elem' b nb)
    bcount:=bcount + 1
    acount:=0
    if nb == 1 then return fst out na nb
    if bcount >= minGallop then break
  rule "list.sort.gallop"
  minGallop:=minGallop + 1
  for _ in [0:total] do
   if minGallop > 1 then minGallop:=minGallop - 1
   modify (fun s=>setG s minGallop)
   let some p <- gal false (<- elem' b (nb - 1)) a 0 na (na - 1) | return fin out na nb
   let k:=na - p
   acount:=k
   if k > 0 then
    out:=out++(a.extract p na).reverse
    na:=p
    if na == 0 then return fin out na nb
   nb:=nb - 1
   out:=out.push (<- elem' b nb)
   if nb == 1 then return fst out na nb
   let some p <- gal true (<- elem' a (na - 1)) b 0 nb (nb - 1) | return fin out na nb
   let k:=nb - p
   bcount:=k
   if k > 0 then
    out:=out++(b.extract p nb).reverse
    nb:=p
    if nb == 1 then return fst out na nb
    if nb == 0 then return fin out na nb
   na:=na - 1
   out:=out.push (<- elem' a na)
   if na == 0 then return fin out na nb
   if acount < 7 && bcount < 7 then break
  minGallop:=minGallop + 1
  modify (fun s=>setG s minGallop)
 unsupported "internal:list.sort.merge-bound"):=rfl
section
variable {α:Type} {lt:α->α->Bool} {T out rest:List α}
abbrev rl (lt:α->α->Bool):α->α->Bool:=fun x y=>lt y x
theorem Iv.doneR (h:Iv (rl lt) T out rest) {l:List α} (hp:l.Perm rest) (hs:Sd lt l):Sd lt (l++out.reverse)/\(l++out.reverse).Perm T:=by
 refine⟨List.pairwise_append.mpr ⟨hs,List.pairwise_reverse.mpr h.sd,fun x hx y hy=>h.lo y (List.mem_reverse.mp hy) x (hp.mem_iff.mp hx)⟩,?_⟩;exact(List.Perm.append hp (List.reverse_perm out)).trans (List.perm_append_comm.trans h.perm)
theorem bXw {l:List α} {i:Nat} {x:α} (h:l[i]?=some x):l.take (i + 1)=l.take i++[x]:=by rw[List.take_add_one,h];rfl
theorem Sd.take {l:List α} (h:Sd lt l) (i:Nat):Sd lt (l.take i):=h.sublist (List.take_sublist _ _)
theorem aQq {l:List α} {i:Nat} {y:α} (h:y∈l.take i):∃ j,j < i/\l[j]?=some y:=by
 obtain⟨k,hk,e⟩:=List.getElem_of_mem h;rw[List.length_take] at hk;rw[List.getElem_take] at e;exact⟨k,by lia,by rw[List.getElem?_eq_getElem (by lia),e]⟩
end
section
variable {prog:Program} {w:World} {A:Around} {s:Shared} {κ:SortKind} {P:Keyed->Prop} {lt:Keyed->Keyed->Bool} {T out la lb:List Keyed} {na nb:Nat} {x y:Keyed}
theorem bX4 (o:Orc prog w A s κ P lt) {l:List Keyed} (hP:∀ z∈l,P z) (hs:Sd lt l) {i:Nat} {z:Keyed} (hz:P z) {y:Keyed} (hy:l[i]?=some y) (h:lt z y=false):∀ u∈l.take (i + 1),lt z u=false:=fun u hu=>by
 obtain⟨j,hj,e⟩:=aQq hu;rcases Nat.eq_or_lt_of_le (Nat.le_of_lt_succ hj) with rfl | hlt
 ·rw[hy] at e;cases e;exact h
 ·exact o.tr u y z (hP u (List.mem_of_getElem? e)) (hP y (List.mem_of_getElem? hy)) hz (hs.at hlt e hy) h
theorem Iv.popA (h:Iv (rl lt) T out (la.take (na + 1)++lb.take nb)) (sa:Sd lt la) (hx:la[na]?=some x) (hl:∀ u∈lb.take nb,lt x u=false):Iv (rl lt) T (out++[x]) (la.take na++lb.take nb):=by
 refine h.step ?_ (List.pairwise_singleton _ _) fun z hz u hu=>?_
 ·rw[bXw hx,List.append_assoc];exact List.perm_middle
 ·rw[List.mem_singleton.mp hz];rcases List.mem_append.mp hu with v | v
  ·obtain⟨j,hj,e⟩:=aQq v;exact sa.at hj e hx
  ·exact hl u v
theorem Iv.popB (h:Iv (rl lt) T out (la.take na++lb.take (nb + 1))) (sb:Sd lt lb) (hy:lb[nb]?=some y) (hl:∀ u∈la.take na,lt y u=false):Iv (rl lt) T (out++[y]) (la.take na++lb.take nb):=by
 refine h.step ?_ (List.pairwise_singleton _ _) fun z hz u hu=>?_
 ·rw[bXw hy,<- List.append_assoc];exact List.perm_append_comm
 ·rw[List.mem_singleton.mp hz];rcases List.mem_append.mp hu with v | v
  ·exact hl u v
  ·obtain⟨j,hj,e⟩:=aQq v;exact sb.at hj e hy
theorem cXb (l:List Keyed) {p n:Nat} (h:p<=n):l.take n=l.take p++(l.drop p).take (n - p):=by
 have:n=p + (n - p):=by lia
 rw[this,List.take_add];simp
theorem Iv.backA (h:Iv (rl lt) T out (la.take na++lb.take nb)) (sa:Sd lt la) {p:Nat} (hp:p<=na) (hl:∀ z∈(la.drop p).take (na - p),∀ u∈lb.take nb,lt z u=false):Iv (rl lt) T (out++((la.drop p).take (na - p)).reverse) (la.take p++lb.take nb):=by
 have e:=cXb la hp;have sd:=sa.take na;rw[e] at sd;obtain⟨_,s2,s3⟩:=List.pairwise_append.mp sd;refine h.step ?_ (List.pairwise_reverse.mpr s2) fun z hz u hu=>?_
 ·rw[e,List.append_assoc];refine(List.perm_append_comm_assoc _ _ _).trans ?_;exact List.Perm.append_right _ (List.reverse_perm _).symm
 ·have hz:=List.mem_reverse.mp hz;rcases List.mem_append.mp hu with v | v
  ·exact s3 u v z hz
  ·exact hl z hz u v
theorem Iv.backB (h:Iv (rl lt) T out (la.take na++lb.take nb)) (sb:Sd lt lb) {p:Nat} (hp:p<=nb) (hl:∀ z∈(lb.drop p).take (nb - p),∀ u∈la.take na,lt z u=false):Iv (rl lt) T (out++((lb.drop p).take (nb - p)).reverse) (la.take na++lb.take p):=by
 have e:=cXb lb hp;have sd:=sb.take nb;rw[e] at sd;obtain⟨_,s2,s3⟩:=List.pairwise_append.mp sd;refine h.step ?_ (List.pairwise_reverse.mpr s2) fun z hz u hu=>?_
 ·rw[e,<- List.append_assoc];refine List.perm_append_comm.trans ?_;exact List.Perm.append_right _ (List.reverse_perm _).symm
 ·have hz:=List.mem_reverse.mp hz;rcases List.mem_append.mp hu with v | v
  ·exact hl z hz u v
  ·exact s3 u v z hz
end
theorem dZs (a:Array Keyed) (n:Nat):(a.extract 0 n).toList=a.toList.take n:=by rw[aZb];simp
section
variable {prog:Program} {w:World} {A:Around} {E:Value->Shared->Prop} {s:Shared} {κ:SortKind} {P:Keyed->Prop} {lt:Keyed->Keyed->Bool}
theorem eXx (o:Orc prog w A s κ P lt) {st:SortSt} {a b:Array Keyed} {Q:Array Keyed->SortSt->Prop} (hk:kindOf st=κ) (pa:∀ x∈a.toList,P x) (pb:∀ y∈b.toList,P y) (sa:Sd lt a.toList) (sb:Sd lt b.toList) (na0:1<=a.size) (nb0:1<=b.size)
  (hfst:∀ y,b.toList[0]?=some y->∀ x∈a.toList,lt x y=false) (hlst:∀ z,a.toList[a.size - 1]?=some z->∀ y∈b.toList,lt z y=false)
  (h:∀ out g,Sd lt out.toList->out.toList.Perm (a.toList++b.toList)->Q out (setG st g)):wpS (model prog w) A E s (mHi a b) Q st:=by
 have sz:(a.toList++b.toList).length=a.size + b.size:=by simp
 have finG:∀ (out:Array Keyed) na nb g,Sd lt (a.toList.take na++b.toList.take nb)->Iv (rl lt) (a.toList++b.toList) out.toList (a.toList.take na++b.toList.take nb)->Q (a.extract 0 na++b.extract 0 nb++out.reverse) (setG st g):=fun out na nb g e iv=>by
  have:=iv.doneR (List.Perm.refl _) e
  refine h _ g ?_ ?_ <;> simp only[Array.toList_append,Array.toList_reverse,dZs]
  ·exact this.1
  ·exact this.2
 have finF:∀ (out:Array Keyed) na nb g,nb=1->Iv (rl lt) (a.toList++b.toList) out.toList (a.toList.take na++b.toList.take nb)->Q (b.extract 0 nb++a.extract 0 na++out.reverse) (setG st g):=fun out na nb g e iv=>by
  obtain⟨y0,hy0,hy0l⟩:=aQb (a:=b) (i:=0) nb0;have e1:b.toList.take nb=[y0]:=by rw[e];exact(bXw (i:=0) hy0l)
  have sd:Sd lt (b.toList.take nb++a.toList.take na):=by
   rw[e1];exact List.pairwise_cons.mpr ⟨fun u hu=>hfst y0 hy0l u (List.mem_of_mem_take hu),sa.take na⟩
  have:=iv.doneR List.perm_append_comm sd
  refine h _ g ?_ ?_ <;> simp only[Array.toList_append,Array.toList_reverse,dZs]
  ·exact this.1
  ·exact this.2
 have t2:∀ (Post:ForInStep (Option (Array Keyed) × Nat × Nat × Array Keyed × Nat × Nat × Nat)->SortSt->Prop) (out:Array Keyed) (na nb mg ac bc g:Nat),(∀ r c',Q r (setG st g)->Post (.done (some r,c')) (setG st g)) ->
   (∀ na' nb' out' ac' bc',1<=na'->(na'<=a.size/\2<=nb'/\nb'<=b.size)->Iv (rl lt) (a.toList++b.toList) out'.toList (a.toList.take na'++b.toList.take nb')->out.size<=out'.size->Post (.done (none,na',nb',out',mg,ac',bc')) (setG st g)/\Post (.yield (none,na',nb',out',mg,ac',bc')) (setG st g)) ->
   1<=na->na<=a.size->(2<=nb/\nb<=b.size)->Iv (rl lt) (a.toList++b.toList) out.toList (a.toList.take na++b.toList.take nb)->(∀ x,a.toList[na - 1]?=some x->∀ u∈b.toList.take nb,lt x u=false) ->
   wpS (model prog w) A E s (do
    let x <- elem' a (na - 1)
    if (na - 1 == 0)=true then pure (ForInStep.done (some (a.extract 0 (na - 1)++b.extract 0 nb++((out).push x).reverse),na - 1,nb,(out).push x,mg,ac,bc))
    else if (decide (ac < 7) && decide (bc < 7))=true then pure (ForInStep.done (none,na - 1,nb,(out).push x,mg,ac,bc))
    else pure (ForInStep.yield (none,na - 1,nb,(out).push x,mg,ac,bc))) Post (setG st g):=by
  intro Post out na nb mg ac bc g hd hg hna hla hnb iv hl;obtain⟨m,rfl⟩:∃ m,na=m + 1:=⟨na - 1,by lia⟩
  simp only[Nat.add_sub_cancel] at hl ⊢;obtain⟨x1,hx1,hx1l⟩:=aQb (a:=a) (i:=m) (by lia)
  refine wpS_bind (aZ4 hx1 ?_);have iv2:Iv (rl lt) (a.toList++b.toList) (out.push x1).toList (a.toList.take m++b.toList.take nb):=by
   rw[Array.toList_push];exact iv.popA sa hx1l (hl x1 hx1l)
  have sp:(out.push x1).size=out.size + 1:=Array.size_push ..
  by_cases c1:(m == 0)=true
  ·have m0:m=0:=by simpa using c1
   rw[if_pos c1];refine wpS_pure (hd _ _ (finG _ _ _ g ?_ iv2));rw[m0];exact sb.take _
  ·rw[if_neg c1];have c1':m≠0:=by simpa using c1
   have:=hg m nb (out.push x1) ac bc (by lia) ⟨by lia,hnb⟩ iv2 (by lia)
   by_cases c2:(decide (ac < 7) && decide (bc < 7))=true
   ·rw[if_pos c2];exact wpS_pure this.1
   ·rw[if_neg c2];exact wpS_pure this.2
 have t1:∀ (Post:ForInStep (Option (Array Keyed) × Nat × Nat × Array Keyed × Nat × Nat × Nat)->SortSt->Prop) (out:Array Keyed) (na nb mg ac bc g:Nat),(∀ r c',Q r (setG st g)->Post (.done (some r,c')) (setG st g)) ->
   (∀ na' nb' out' ac' bc',1<=na'->(na'<=a.size/\2<=nb'/\nb'<=b.size)->Iv (rl lt) (a.toList++b.toList) out'.toList (a.toList.take na'++b.toList.take nb')->out.size<=out'.size->Post (.done (none,na',nb',out',mg,ac',bc')) (setG st g)/\Post (.yield (none,na',nb',out',mg,ac',bc')) (setG st g)) ->
   1<=na->na<=a.size->(2<=nb/\nb<=b.size)->Iv (rl lt) (a.toList++b.toList) out.toList (a.toList.take na++b.toList.take nb)->(∀ y,b.toList[nb - 1]?=some y->∀ u∈a.toList.take na,lt y u=false) ->
   wpS (model prog w) A E s (do
    let y <- elem' b (nb - 1)
    if (nb - 1 == 1)=true then pure (ForInStep.done (some (b.extract 0 (nb - 1)++a.extract 0 na++(out.push y).reverse),na,nb - 1,out.push y,mg,ac,bc))
    else do
     let x <- elem' a (na - 1)
     let z <- gal true x b 0 (nb - 1) (nb - 1 - 1)
     match z with
     | some p1 =>
      if nb - 1 - p1 > 0 then
       if (p1 == 1)=true then pure (ForInStep.done (some (b.extract 0 p1++a.extract 0 na++(out.push y++(b.extract p1 (nb - 1)).reverse).reverse),na,p1,out.push y++(b.extract p1 (nb - 1)).reverse,mg,ac,nb - 1 - p1))
       else if (p1 == 0)=true then pure (ForInStep.done (some (a.extract 0 na++b.extract 0 p1++(out.push y++(b.extract p1 (nb - 1)).reverse).reverse),na,p1,out.push y++(b.extract p1 (nb - 1)).reverse,mg,ac,nb - 1 - p1))
       else do
        let x <- elem' a (na - 1)
        if (na - 1 == 0)=true then pure (ForInStep.done (some (a.extract 0 (na - 1)++b.extract 0 p1++((out.push y++(b.extract p1 (nb - 1)).reverse).push x).reverse),na - 1,p1,(out.push y++(b.extract p1 (nb - 1)).reverse).push x,mg,ac,(nb - 1 - p1)))
        else if (decide (ac < 7) && decide ((nb - 1 - p1) < 7))=true then pure (ForInStep.done (none,na - 1,p1,(out.push y++(b.extract p1 (nb - 1)).reverse).push x,mg,ac,(nb - 1 - p1)))
        else pure (ForInStep.yield (none,na - 1,p1,(out.push y++(b.extract p1 (nb - 1)).reverse).push x,mg,ac,(nb - 1 - p1)))
      else do
       let x <- elem' a (na - 1)
       if (na - 1 == 0)=true then pure (ForInStep.done (some (a.extract 0 (na - 1)++b.extract 0 (nb - 1)++((out.push y).push x).reverse),na - 1,(nb - 1),(out.push y).push x,mg,ac,(nb - 1 - p1)))
       else if (decide (ac < 7) && decide ((nb - 1 - p1) < 7))=true then pure (ForInStep.done (none,na - 1,(nb - 1),(out.push y).push x,mg,ac,(nb - 1 - p1)))
       else pure (ForInStep.yield (none,na - 1,(nb - 1),(out.push y).push x,mg,ac,(nb - 1 - p1)))
     | _=>pure (ForInStep.done (some (a.extract 0 na++b.extract 0 (nb - 1)++(out.push y).reverse),na,nb - 1,out.push y,mg,ac,bc))) Post (setG st g):=by
  intro Post out na nb mg ac bc g hd hg hna hla hnb iv hl;obtain⟨m,rfl⟩:∃ m,nb=m + 1:=⟨nb - 1,by lia⟩
  simp only[Nat.add_sub_cancel] at hl ⊢;obtain⟨y1,hy1,hy1l⟩:=aQb (a:=b) (i:=m) (by lia)
  obtain⟨x1,hx1,hx1l⟩:=aQb (a:=a) (i:=na - 1) (by lia)
  have px1:=pa x1 (List.mem_of_getElem? hx1l);refine wpS_bind (aZ4 hy1 ?_);have iv2:Iv (rl lt) (a.toList++b.toList) (out.push y1).toList (a.toList.take na++b.toList.take m):=by
   rw[Array.toList_push];exact iv.popB sb hy1l (hl y1 hy1l)
  have sp:(out.push y1).size=out.size + 1:=Array.size_push ..
  by_cases c1:(m == 1)=true
  ·rw[if_pos c1];exact wpS_pure (hd _ _ (finF _ _ _ g (by simpa using c1) iv2))
  rw[if_neg c1];have c1':m≠1:=by simpa using c1
  refine wpS_bind (aZ4 hx1 (wpS_bind (bQj o (f:=fun i=>b.toList.getD (0 + i) (.none,.none)) hk px1 (fun i hi=>?_) (fun i j hij hj hb=>?_) (by lia) fun k k1 k2 k3=>?_)))
  ·obtain⟨z,hz,hzl⟩:=aQb (a:=b) (i:=0 + i) (by lia)
   rw[List.getD_eq_getElem?_getD,hzl];exact⟨hz,pb z (List.mem_of_getElem? hzl)⟩
  ·obtain⟨z,hz,hzl⟩:=aQb (a:=b) (i:=0 + i) (by lia)
   obtain⟨z',hz',hzl'⟩:=aQb (a:=b) (i:=0 + j) (by lia)
   rw[List.getD_eq_getElem?_getD,hzl'] at hb;rw[List.getD_eq_getElem?_getD,hzl];have hb':lt z' x1=true:=hb;show lt z x1=true;cases e:lt z x1 with
   | true=>rfl
   | false =>
    exfalso;have pz:=pb z (List.mem_of_getElem? hzl);have pz':=pb z' (List.mem_of_getElem? hzl');rcases Nat.eq_or_lt_of_le hij with rfl | hlt
    ·rw[hzl] at hzl';cases hzl';rw[e] at hb';cases hb'
    ·have:=o.tr x1 z z' px1 pz pz' e (sb.at (by lia) hzl hzl')
     rw[hb'] at this;cases this
  have ahead:∀ u∈b.toList.take k,lt x1 u=false:=fun u hu=>by
   obtain⟨j,hj,e⟩:=aQq hu
   have:=k2 j hj
   rw[List.getD_eq_getElem?_getD,Nat.zero_add,e] at this;exact o.as _ _ (pb u (List.mem_of_getElem? e)) px1 this
  dsimp only
  by_cases ck:m - k > 0
  ·rw[if_pos ck];have iv3:Iv (rl lt) (a.toList++b.toList) (out.push y1++(b.extract k m).reverse).toList (a.toList.take na++b.toList.take k):=by
    rw[Array.toList_append,Array.toList_reverse,aZb];refine iv2.backB sb k1 fun z hz u hu=>?_;obtain⟨j,hj,hzl⟩:=aZl hz;have pz:=pb z (List.mem_of_getElem? hzl);have hb:=k3 (k + j) (by lia) (by lia)
    rw[List.getD_eq_getElem?_getD,Nat.zero_add,hzl] at hb
    have:=bX4 o pa sa pz hx1l hb
    rw[show na - 1 + 1=na by lia] at this
    exact this u hu
   have sz3:out.size<=(out.push y1++(b.extract k m).reverse).size:=by rw[Array.size_append];lia
   by_cases c3:(k == 1)=true
   ·rw[if_pos c3];exact wpS_pure (hd _ _ (finF _ _ _ g (by simpa using c3) iv3))
   ·rw[if_neg c3];have c3':k≠1:=by simpa using c3
    by_cases c4:(k == 0)=true
    ·have k0:k=0:=by simpa using c4
     rw[if_pos c4];refine wpS_pure (hd _ _ (finG _ _ _ g ?_ iv3));rw[k0,List.take_zero,List.append_nil];exact sa.take _
    ·rw[if_neg c4];have c4':k≠0:=by simpa using c4
     refine t2 Post _ na k mg ac (m - k) g hd (fun n1 n2 o' a1 b1 q1 q2 q3 q4=>hg n1 n2 o' a1 b1 q1 q2 q3 (by lia)) hna hla ⟨by lia,by lia⟩ iv3 fun x hx u hu=>?_
     rw[hx1l] at hx;cases hx;exact ahead u hu
  ·rw[if_neg ck];have ek:k=m:=by lia
   refine t2 Post _ na m mg ac (m - k) g hd (fun n1 n2 o' a1 b1 q1 q2 q3 q4=>hg n1 n2 o' a1 b1 q1 q2 q3 (by lia)) hna hla ⟨by lia,by lia⟩ iv2 fun x hx u hu=>?_
   rw[hx1l] at hx;cases hx;exact ahead u (by rw[ek];exact hu)
 rw[eXw];refine wpS_bind (wpS_lift (wpAny_rule ⟨rfl,?_⟩));dsimp only;obtain⟨x0,hx0,hx0l⟩:=aQb (a:=a) (i:=a.size - 1) (by lia)
 refine wpS_bind (aZ4 hx0 ?_);have iv0:Iv (rl lt) (a.toList++b.toList) (#[x0]:Array Keyed).toList (a.toList.take (a.size - 1)++b.toList.take b.size):=by
  have e1:a.toList.take (a.size - 1 + 1)=a.toList:=List.take_of_length_le (by simp;lia)
  have e2:b.toList.take b.size=b.toList:=List.take_of_length_le (by simp)
  have i0:Iv (rl lt) (a.toList++b.toList) [] (a.toList.take (a.size - 1 + 1)++b.toList.take b.size):=⟨by rw[e1,e2];exact List.Perm.refl _,List.Pairwise.nil,by simp⟩
  exact i0.popA sa hx0l fun u hu=>hlst x0 hx0l u (List.mem_of_mem_take hu)
 have est:st=setG st (gallopOf st):=rfl
 by_cases ha1:(a.size - 1 == 0)=true
 ·rw[if_pos ha1];have a0:a.size - 1=0:=by simpa using ha1
  refine wpS_pure ?_;rw[est];refine finG _ _ _ _ ?_ iv0;rw[a0];exact sb.take _
 rw[if_neg ha1]
 by_cases hb1:(b.size == 1)=true
 ·rw[if_pos hb1];refine wpS_pure ?_;rw[est];exact finF _ _ _ _ (by simpa using hb1) iv0
 rw[if_neg hb1];have hb2:2<=b.size:=by
  have:b.size≠1:=by simpa using hb1
  lia
 have ha2:1<=a.size - 1:=by
  have:a.size - 1≠0:=by simpa using ha1
  lia
 refine wpS_bind (wpS_get ?_);refine wpS_bind (wpS_mono (wpS_forRange (I:=fun x c st'=>∃ na nb out mg g,c=(none,na,nb,out,mg)/\st'=setG st g/\1<=na/\na<=a.size/\(2<=nb/\nb<=b.size)/\Iv (rl lt) (a.toList++b.toList) out.toList (a.toList.take na++b.toList.take nb)/\x + 1<=out.size)
  (Q:=fun c st'=>∃ r,c.fst=some r/\Q r st') ?_ ?_ ⟨_,_,#[x0],_,_,rfl,est,ha2,by lia,⟨hb2,Nat.le_refl _⟩,iv0,by simp⟩) ?_)
 ·intro x c st' _ hx zq;refine hd fun Gq kq=>?_;obtain⟨na,nb,out,mg,g,rfl,rfl,hna,hla,hnb,iv,hsz⟩:=zq;refine kq ?_;dsimp only;refine wpS_bind (wpS_mono (wpS_forRange (I:=fun y c st'=>∃ na' nb' out' ac bc,c=(none,na',nb',out',ac,bc)/\st'=setG st g/\1<=na'/\na'<=a.size/\(2<=nb'/\nb'<=b.size)/\Iv (rl lt) (a.toList++b.toList) out'.toList (a.toList.take na'++b.toList.take nb')/\out.size + y<=out'.size)
   (Q:=fun c st'=>st'=setG st g/\((∃ r,c.fst=some r/\Q r st')\/∃ na' nb' out' ac bc,c=(none,na',nb',out',ac,bc)/\1<=na'/\na'<=a.size/\(2<=nb'/\nb'<=b.size)/\Iv (rl lt) (a.toList++b.toList) out'.toList (a.toList.take na'++b.toList.take nb')/\out.size + 1<=out'.size)) ?_ ?_ ⟨na,nb,out,0,0,rfl,rfl,hna,hla,hnb,iv,Nat.le_refl _⟩) ?_)
  ·intro y c st' _ hy zq;refine hd fun Gq kq=>?_;obtain⟨na',nb',out',ac,bc,rfl,rfl,hna',hla',hnb',iv',hsz'⟩:=zq;refine kq ?_;obtain⟨ma,rfl⟩:∃ m,na'=m + 1:=⟨na' - 1,by lia⟩
   obtain⟨mb,rfl⟩:∃ m,nb'=m + 1:=⟨nb' - 1,by lia⟩
   obtain⟨x1,hx1,hx1l⟩:=aQb (a:=a) (i:=ma) (by lia)
   obtain⟨y1,hy1,hy1l⟩:=aQb (a:=b) (i:=mb) (by lia)
   have px1:=pa x1 (List.mem_of_getElem? hx1l);have py1:=pb y1 (List.mem_of_getElem? hy1l);dsimp only;simp only[Nat.add_sub_cancel];refine wpS_bind (aZ4 hy1 (wpS_bind (aZ4 hx1 (wpS_bind (cXa o hk py1 px1 ?_)))));dsimp only;cases e:lt y1 x1 with
   | true =>
    rw[if_pos rfl];refine wpS_bind (aZ4 hx1 ?_);have iv2:Iv (rl lt) (a.toList++b.toList) (out'.push x1).toList (a.toList.take ma++b.toList.take (mb + 1)):=by
     rw[Array.toList_push];exact iv'.popA sa hx1l (bX4 o pb sb px1 hy1l (o.as _ _ py1 px1 e))
    have sp:(out'.push x1).size=out'.size + 1:=Array.size_push ..
    by_cases c1:(ma == 0)=true
    ·have m0:ma=0:=by simpa using c1
     rw[if_pos c1];refine wpS_pure ⟨rfl,.inl ⟨_,rfl,finG _ _ _ g ?_ iv2⟩⟩;rw[m0];exact sb.take _
    ·rw[if_neg c1];have c1':ma≠0:=by simpa using c1
     by_cases c2:ac + 1 >= mg
     ·rw[if_pos c2];exact wpS_pure ⟨rfl,.inr ⟨_,_,_,_,_,rfl,by lia,by lia,hnb',iv2,by lia⟩⟩
     ·rw[if_neg c2];exact wpS_pure ⟨_,_,_,_,_,rfl,rfl,by lia,by lia,hnb',iv2,by lia⟩
   | false =>
    rw[if_neg (by simp)]
    refine wpS_bind (aZ4 hy1 ?_);have iv2:Iv (rl lt) (a.toList++b.toList) (out'.push y1).toList (a.toList.take (ma + 1)++b.toList.take mb):=by
     rw[Array.toList_push];exact iv'.popB sb hy1l (bX4 o pa sa py1 hx1l e)
    have sp:(out'.push y1).size=out'.size + 1:=Array.size_push ..
    by_cases c1:(mb == 1)=true
    ·rw[if_pos c1];exact wpS_pure ⟨rfl,.inl ⟨_,rfl,finF _ _ _ g (by simpa using c1) iv2⟩⟩
    ·rw[if_neg c1];have c1':mb≠1:=by simpa using c1
     by_cases c2:bc + 1 >= mg
     ·rw[if_pos c2];exact wpS_pure ⟨rfl,.inr ⟨_,_,_,_,_,rfl,by lia,by lia,⟨by lia,by lia⟩,iv2,by lia⟩⟩
     ·rw[if_neg c2];exact wpS_pure ⟨_,_,_,_,_,rfl,rfl,by lia,by lia,⟨by lia,by lia⟩,iv2,by lia⟩
  ·intro c st' zq;refine hd fun Gq kq=>?_;obtain⟨na',nb',out',ac,bc,rfl,rfl,hna',hla',hnb',iv',hsz'⟩:=zq;refine kq ?_;exact⟨rfl,.inr ⟨_,_,_,_,_,rfl,hna',hla',hnb',iv',by lia⟩⟩
  ·rintro c st' ⟨rfl,⟨r,hr,q⟩ | ⟨na1,nb1,out1,ac1,bc1,rfl,hna1,hla1,hnb1,iv1,hsz1⟩⟩
   ·obtain⟨c1,c2⟩:=c;dsimp only at hr;subst hr;exact wpS_pure ⟨r,rfl,q⟩
   ·dsimp only;refine wpS_bind (wpS_lift (wpAny_rule ⟨rfl,?_⟩));refine wpS_bind (wpS_mono (wpS_forRange (I:=fun y c st'=>∃ na' nb' out' mg' ac bc g',c=(none,na',nb',out',mg',ac,bc)/\st'=setG st g'/\1<=na'/\(na'<=a.size/\2<=nb'/\nb'<=b.size)/\Iv (rl lt) (a.toList++b.toList) out'.toList (a.toList.take na'++b.toList.take nb')/\out1.size<=out'.size)
     (Q:=fun c st'=>(∃ r,c.fst=some r/\Q r st')\/∃ na' nb' out' mg' ac bc g',c=(none,na',nb',out',mg',ac,bc)/\st'=setG st g'/\1<=na'/\(na'<=a.size/\2<=nb'/\nb'<=b.size)/\Iv (rl lt) (a.toList++b.toList) out'.toList (a.toList.take na'++b.toList.take nb')/\out1.size<=out'.size) ?_ ?_ ⟨na1,nb1,out1,_,ac1,bc1,g,rfl,rfl,hna1,⟨hla1,hnb1⟩,iv1,Nat.le_refl _⟩) ?_)
    ·intro y c st' _ hy zq;refine hd fun Gq kq=>?_;obtain⟨na',nb',out',mg',ac,bc,g',rfl,rfl,hna',⟨hla',hnb'⟩,iv',hsz'⟩:=zq;refine kq ?_;dsimp only;obtain⟨y1,hy1,hy1l⟩:=aQb (a:=b) (i:=nb' - 1) (by lia)
     have py1:=pb y1 (List.mem_of_getElem? hy1l);have fa:∀ i,i < na'->a[0 + i]?=some (a.toList.getD (0 + i) (.none,.none))/\P (a.toList.getD (0 + i) (.none,.none)):=fun i hi=>by
      obtain⟨z,hz,hzl⟩:=aQb (a:=a) (i:=0 + i) (by lia)
      rw[List.getD_eq_getElem?_getD,hzl];exact⟨hz,pa z (List.mem_of_getElem? hzl)⟩
     have mono:∀ i j,i<=j->j < na'->bv lt false y1 (a.toList.getD (0 + j) (.none,.none))=true->bv lt false y1 (a.toList.getD (0 + i) (.none,.none))=true:=fun i j hij hj hb=>by
      obtain⟨z,hz,hzl⟩:=aQb (a:=a) (i:=0 + i) (by lia)
      obtain⟨z',hz',hzl'⟩:=aQb (a:=a) (i:=0 + j) (by lia)
      rw[List.getD_eq_getElem?_getD,hzl'] at hb;rw[List.getD_eq_getElem?_getD,hzl];have hb':lt y1 z'=false:=by simpa [bv] using hb
      show(!lt y1 z)=true;rcases Nat.eq_or_lt_of_le hij with rfl | hlt
      ·rw[hzl] at hzl';cases hzl';rw[hb'];rfl
      ·rw[o.tr z z' y1 (pa z (List.mem_of_getElem? hzl)) (pa z' (List.mem_of_getElem? hzl')) py1 (sa.at (by lia) hzl hzl') hb'];rfl
     clear kq
     revert mg'
     refine dZr (fun _=>rfl) fun m2=>?_;refine wpS_bind (wpS_modify (wpS_bind (aZ4 hy1 (wpS_bind (bQj o (f:=fun i=>a.toList.getD (0 + i) (.none,.none)) hk py1 fa mono (by lia) fun k k1 k2 k3=>?_)))))
     dsimp only;have ahead:∀ u∈a.toList.take k,lt y1 u=false:=fun u hu=>by
      obtain⟨j,hj,e⟩:=aQq hu
      have:=k2 j hj
      rw[List.getD_eq_getElem?_getD,Nat.zero_add,e] at this;have h1:(!lt y1 u)=true:=this;simpa using h1
     by_cases ck:na' - k > 0
     ·rw[if_pos ck];have iv3:Iv (rl lt) (a.toList++b.toList) (out'++(a.extract k na').reverse).toList (a.toList.take k++b.toList.take nb'):=by
       rw[Array.toList_append,Array.toList_reverse,aZb];refine iv'.backA sa k1 fun z hz u hu=>?_;obtain⟨j,hj,hzl⟩:=aZl hz;have hb:=k3 (k + j) (by lia) (by lia)
       rw[List.getD_eq_getElem?_getD,Nat.zero_add,hzl] at hb;have h1:(!lt y1 z)=false:=hb;have pz:=pa z (List.mem_of_getElem? hzl)
       have:=bX4 o pb sb pz hy1l (o.as _ _ py1 pz (by simpa using h1))
       rw[show nb' - 1 + 1=nb' by lia] at this
       exact this u hu
      have sz3:out1.size<=(out'++(a.extract k na').reverse).size:=by rw[Array.size_append];lia
      by_cases c3:(k == 0)=true
      ·have k0:k=0:=by simpa using c3
       rw[if_pos c3];refine wpS_pure (.inl ⟨_,rfl,finG _ _ _ _ ?_ iv3⟩);rw[k0];exact sb.take _
      ·rw[if_neg c3];have c3':k≠0:=by simpa using c3
       refine t1 _ _ k nb' m2 (na' - k) bc m2 (fun r c' q=>.inl ⟨r,rfl,q⟩) (fun n1 n2 o' a1 b1 q1 q2 q3 q4=>⟨.inr ⟨_,_,_,_,_,_,_,rfl,rfl,q1,q2,q3,by lia⟩,⟨_,_,_,_,_,_,_,rfl,rfl,q1,q2,q3,by lia⟩⟩) (by lia) (by lia) hnb' iv3 fun y hy u hu=>?_
       rw[hy1l] at hy;cases hy;exact ahead u hu
     ·rw[if_neg ck];have ek:k=na':=by lia
      refine t1 _ _ na' nb' m2 (na' - k) bc m2 (fun r c' q=>.inl ⟨r,rfl,q⟩) (fun n1 n2 o' a1 b1 q1 q2 q3 q4=>⟨.inr ⟨_,_,_,_,_,_,_,rfl,rfl,q1,q2,q3,by lia⟩,⟨_,_,_,_,_,_,_,rfl,rfl,q1,q2,q3,by lia⟩⟩) hna' hla' hnb' iv' fun y hy u hu=>?_
      rw[hy1l] at hy;cases hy;exact ahead u (by rw[ek];exact hu)
    ·intro c st' zq;refine hd fun Gq kq=>?_;obtain⟨na',nb',out',mg',ac,bc,g',rfl,rfl,hna',hl',iv',hsz'⟩:=zq;refine kq ?_;exact .inr ⟨_,_,_,_,_,_,_,rfl,rfl,hna',hl',iv',hsz'⟩
    ·rintro c st' (⟨r,hr,q⟩ | ⟨na',nb',out',mg',ac,bc,g',rfl,rfl,hna',hl',iv',hsz'⟩)
     ·obtain⟨c1,c2⟩:=c;dsimp only at hr;subst hr;exact wpS_pure ⟨r,rfl,q⟩
     ·dsimp only;exact wpS_bind (wpS_modify (wpS_pure ⟨_,_,_,_,_,rfl,rfl,hna',hl'.1,hl'.2,iv',by lia⟩))
 ·intro c st' zq;refine hd fun Gq kq=>?_;obtain⟨na,nb,out,mg,g,rfl,rfl,hna,hla,hnb,iv,hsz⟩:=zq;refine kq ?_;exfalso
  have:=iv.size
  rw[sz,Array.length_toList] at this;lia
 ·rintro c st' ⟨r,hr,q⟩;obtain⟨c1,c2⟩:=c;dsimp only at hr;subst hr;exact wpS_pure q
end
theorem eXy (i:Nat):mergeAt' i=(do
 let s <- get
 let (some (sa,na,pw),some (sb,nb,_)):=((pendingOf s)[i]?,(pendingOf s)[i + 1]?) | unsupported "internal:list.sort.pending"
 set (setPending s (((pendingOf s).setIfInBounds i (sa,na + nb,pw)).eraseIdxIfInBounds (i + 1)))
 let some k <- gal false (<- elem' (arrOf s) sb) (arrOf s) sa na 0 | return false
 let (sa,na):=(sa + k,na - k)
 if na == 0 then return true
 let some nb <- gal true (<- elem' (arrOf s) (sa + na - 1)) (arrOf s) sb nb (nb - 1) | return false
 if nb == 0 then return true
 let x:=(arrOf s).extract sa sb
 let y:=(arrOf s).extract sb (sb + nb)
 let m <- if na<=nb then mLo x y else mHi x y
 modify fun s=>setArr s (m.toList.zipIdx.foldl (fun a (p,j)=>a.setIfInBounds (sa + j) p) (arrOf s))
 return (failedOf (<- get)).isNone):=rfl
theorem dJn {M:Model} {A:Around} {E:Value->Shared->Prop} {s:Shared} {σ:Type} {st st':σ} {Q:PUnit->σ->Prop} (h:Q ⟨⟩ st'):wpS M A E s (set st':StateT σ Sem PUnit) Q st:=by
 unfold wpS;show wpAny M A (pure (PUnit.unit,st'):Sem (PUnit × σ)) _ E s;exact wpAny_pure ⟨rfl,h⟩
theorem bJs (off:Nat):∀ (M:List Keyed) (k:Nat) (xs:Array Keyed),off + k + M.length<=xs.size->((M.zipIdx k).foldl (fun a pj=>a.setIfInBounds (off + pj.2) pj.1) xs).toList=xs.toList.take (off + k)++M++xs.toList.drop (off + k + M.length)
 | [],k,xs,h=>by simp
 | x::M,k,xs,h=>by
  rw[List.zipIdx_cons,List.foldl_cons,bJs off M (k + 1) _ (by simp at h ⊢;lia)]
  simp only[Array.toList_setIfInBounds];rw[List.length_cons] at h ⊢;have hl:off + k < xs.toList.length:=by simp;lia
  rw[show off + (k + 1)=off + k + 1 by lia,List.take_set,List.drop_set_of_lt (by lia),List.set_eq_take_append_cons_drop]
  have e1:(off + k) < (xs.toList.take (off + k + 1)).length:=by rw[List.length_take];lia
  rw[if_pos e1,List.take_take,Nat.min_eq_left (by lia),List.drop_eq_nil_of_le (by rw[List.length_take];lia)]
  simp[List.append_assoc,show off + k + 1 + M.length=off + k + (M.length + 1) by lia]
section
variable {prog:Program} {w:World} {A:Around} {E:Value->Shared->Prop} {s:Shared} {κ:SortKind} {P:Keyed->Prop} {lt:Keyed->Keyed->Bool}
theorem eXz (o:Orc prog w A s κ P lt) {st:SortSt} {i sa na pw sb nb pw':Nat} {L1 Aa Bb L2:List Keyed} {Q:Bool->SortSt->Prop} (hk:kindOf st=κ) (hf:failedOf st=none) (hp1:(pendingOf st)[i]?=some (sa,na,pw)) (hp2:(pendingOf st)[i + 1]?=some (sb,nb,pw'))
  (hsb:sb=sa + na) (hl:(arrOf st).toList=L1++(Aa++(Bb++L2))) (l1:L1.length=sa) (lA:Aa.length=na) (lB:Bb.length=nb) (na1:1<=na) (nb1:1<=nb) (PA:∀ x∈Aa,P x) (PB:∀ x∈Bb,P x) (sA:Sd lt Aa) (sB:Sd lt Bb)
  (h:∀ C g xs,xs.toList=L1++(C++L2)->Sd lt C->C.Perm (Aa++Bb)->Q true (SortSt.mk' κ xs (((pendingOf st).setIfInBounds i (sa,na + nb,pw)).eraseIdxIfInBounds (i + 1)) g none)):wpS (model prog w) A E s (mergeAt' i) Q st:=by
 have hsz:(arrOf st).size=sa + na + nb + L2.length:=by
  have:=congrArg List.length hl
  simp only[Array.length_toList,List.length_append] at this;lia
 have atA:∀ j x,Aa[j]?=some x->(arrOf st)[sa + j]?=some x:=fun j x hj=>by
  have hjl:=(List.getElem?_eq_some_iff.mp hj).1;rw[<- Array.getElem?_toList,hl,List.getElem?_append_right (by lia),l1,Nat.add_sub_cancel_left,List.getElem?_append_left hjl];exact hj
 have atB:∀ j x,Bb[j]?=some x->(arrOf st)[sb + j]?=some x:=fun j x hj=>by
  have hjl:=(List.getElem?_eq_some_iff.mp hj).1;rw[<- Array.getElem?_toList,hl,List.getElem?_append_right (by lia),l1,List.getElem?_append_right (by lia),lA,List.getElem?_append_left (by lia)]
  rw[show sb + j - sa - na=j by lia];exact hj
 have getA:∀ j,j < na->∃ x,Aa[j]?=some x:=fun j hj=>⟨Aa[j],List.getElem?_eq_getElem (by lia)⟩
 have getB:∀ j,j < nb->∃ x,Bb[j]?=some x:=fun j hj=>⟨Bb[j],List.getElem?_eq_getElem (by lia)⟩
 obtain⟨b0,hb0⟩:=getB 0 nb1;have pb0:=PB b0 (List.mem_of_getElem? hb0);rw[eXy];refine wpS_bind (wpS_get ?_);rw[hp1,hp2];dsimp only;refine wpS_bind (dJn ?_);have hk2:kindOf (setPending st (((pendingOf st).setIfInBounds i (sa,na + nb,pw)).eraseIdxIfInBounds (i + 1)))=κ:=hk;have est:∀ g xs,setArr (setG (setPending st (((pendingOf st).setIfInBounds i (sa,na + nb,pw)).eraseIdxIfInBounds (i + 1))) g) xs=SortSt.mk' κ xs (((pendingOf st).setIfInBounds i (sa,na + nb,pw)).eraseIdxIfInBounds (i + 1)) g none:=fun g xs=>by
  show SortSt.mk' (kindOf st) xs _ g (failedOf st)=_;rw[hk,hf]
 refine wpS_bind (aZ4 (x:=b0) (by have:=atB 0 b0 hb0;rwa [Nat.add_zero] at this) (wpS_bind (bQj o (f:=fun j=>Aa.getD j (.none,.none)) hk2 pb0 (fun j hj=>?_) (fun j j' hjj hj hb=>?_) (by lia) fun k k1 k2 k3=>?_)))
 ·obtain⟨x,hx⟩:=getA j hj;rw[List.getD_eq_getElem?_getD,hx];exact⟨atA j x hx,PA x (List.mem_of_getElem? hx)⟩
 ·obtain⟨z,hz⟩:=getA j (by lia)
  obtain⟨z',hz'⟩:=getA j' hj;rw[List.getD_eq_getElem?_getD,hz'] at hb;rw[List.getD_eq_getElem?_getD,hz];have hb':lt b0 z'=false:=by simpa [bv] using hb
  show(!lt b0 z)=true;rcases Nat.eq_or_lt_of_le hjj with rfl | hlt
  ·rw[hz] at hz';cases hz';rw[hb'];rfl
  ·rw[o.tr z z' b0 (PA z (List.mem_of_getElem? hz)) (PA z' (List.mem_of_getElem? hz')) pb0 (sA.at hlt hz hz') hb'];rfl
 have lowA:∀ u∈Aa.take k,∀ v∈Bb,lt v u=false:=fun u hu v hv=>by
  obtain⟨j,hj,e⟩:=aQq hu
  have:=k2 j hj
  rw[List.getD_eq_getElem?_getD,e] at this;have h1:(!lt b0 u)=true:=this;exact bX3 o PB sB (i:=0) (PA u (List.mem_of_getElem? e)) hb0 (by simpa using h1) v hv
 have upA:∀ u∈Aa.drop k,lt u b0=false:=fun u hu=>by
  obtain⟨j,hj,e⟩:=aQn hu;have hjl:=(List.getElem?_eq_some_iff.mp e).1
  have:=k3 j hj (by lia)
  rw[List.getD_eq_getElem?_getD,e] at this;have h1:(!lt b0 u)=false:=this;exact o.as _ _ pb0 (PA u (List.mem_of_getElem? e)) (by simpa using h1)
 dsimp only;have whole:∀ g,Sd lt (Aa++Bb)->Q true (setG (setPending st (((pendingOf st).setIfInBounds i (sa,na + nb,pw)).eraseIdxIfInBounds (i + 1))) g):=fun g hs=>by
  have:=h (Aa++Bb) g (arrOf st) (by rw[hl,List.append_assoc]) hs (List.Perm.refl _)
  rw[<- est g (arrOf st)] at this;exact this
 by_cases c1:(na - k == 0)=true
 ·rw[if_pos c1];have kn:k=na:=by
   have:na - k=0:=by simpa using c1
   lia
  refine wpS_pure (whole _ (List.pairwise_append.mpr ⟨sA,sB,fun u hu v hv=>lowA u ?_ v hv⟩));rw[kn,<- lA,List.take_length];exact hu
 rw[if_neg c1];have c1':na - k≠0:=by simpa using c1
 obtain⟨al,hal⟩:=getA (na - 1) (by lia)
 have pal:=PA al (List.mem_of_getElem? hal);refine wpS_bind (aZ4 (x:=al) (by have:=atA _ al hal;rwa [show sa + k + (na - k) - 1=sa + (na - 1) by lia]) (wpS_bind (bQj o (f:=fun j=>Bb.getD j (.none,.none)) hk2 pal (fun j hj=>?_) (fun j j' hjj hj hb=>?_) (by lia) fun m m1 m2 m3=>?_)))
 ·obtain⟨x,hx⟩:=getB j hj;rw[List.getD_eq_getElem?_getD,hx];exact⟨atB j x hx,PB x (List.mem_of_getElem? hx)⟩
 ·obtain⟨z,hz⟩:=getB j (by lia)
  obtain⟨z',hz'⟩:=getB j' hj;rw[List.getD_eq_getElem?_getD,hz'] at hb;rw[List.getD_eq_getElem?_getD,hz];have hb':lt z' al=true:=hb;show lt z al=true;cases e:lt z al with
  | true=>rfl
  | false =>
   exfalso;have pz:=PB z (List.mem_of_getElem? hz);have pz':=PB z' (List.mem_of_getElem? hz');rcases Nat.eq_or_lt_of_le hjj with rfl | hlt
   ·rw[hz] at hz';cases hz';rw[e] at hb';cases hb'
   ·have:=o.tr al z z' pal pz pz' e (sB.at hlt hz hz')
    rw[hb'] at this;cases this
 have upB:∀ v∈Bb.drop m,∀ u∈Aa,lt v u=false:=fun v hv u hu=>by
  obtain⟨j,hj,e⟩:=aQn hv;have hjl:=(List.getElem?_eq_some_iff.mp e).1
  have:=m3 j hj (by lia)
  rw[List.getD_eq_getElem?_getD,e] at this;have h1:lt v al=false:=this
  have:=bX4 o PA sA (PB v (List.mem_of_getElem? e)) hal h1
  rw[show na - 1 + 1=Aa.length by lia,List.take_length] at this
  exact this u hu
 have lowB:∀ v∈Bb.take m,lt al v=false:=fun v hv=>by
  obtain⟨j,hj,e⟩:=aQq hv
  have:=m2 j hj
  rw[List.getD_eq_getElem?_getD,e] at this;exact o.as _ _ (PB v (List.mem_of_getElem? e)) pal this
 dsimp only
 by_cases c2:(m == 0)=true
 ·rw[if_pos c2];have m0:m=0:=by simpa using c2
  refine wpS_pure (whole _ (List.pairwise_append.mpr ⟨sA,sB,fun u hu v hv=>upB v ?_ u hu⟩));rw[m0];exact hv
 rw[if_neg c2];have c2':m≠0:=by simpa using c2
 have ex:((arrOf st).extract (sa + k) sb).toList=Aa.drop k:=by
  rw[aZb,hl,<- l1,List.drop_append,List.drop_eq_nil_of_le (by lia),List.nil_append,Nat.add_sub_cancel_left,List.drop_append_of_le_length (by lia),List.take_append_of_le_length (by rw[List.length_drop];lia)]
  exact List.take_of_length_le (by rw[List.length_drop];lia)
 have ey:((arrOf st).extract sb (sb + m)).toList=Bb.take m:=by
  rw[aZb,hl,Nat.add_sub_cancel_left,List.drop_append,List.drop_eq_nil_of_le (by lia),List.nil_append,List.drop_append,List.drop_eq_nil_of_le (by lia),List.nil_append,show sb - L1.length - Aa.length=0 by lia,List.drop_zero,List.take_append_of_le_length (by lia)]
 have zx:((arrOf st).extract (sa + k) sb).size=na - k:=by rw[<- Array.length_toList,ex,List.length_drop,lA]
 have zy:((arrOf st).extract sb (sb + m)).size=m:=by rw[<- Array.length_toList,ey,List.length_take];lia
 have fin:∀ (M:Array Keyed) g,Sd lt M.toList->M.toList.Perm (((arrOf st).extract (sa + k) sb).toList++((arrOf st).extract sb (sb + m)).toList)->wpS (model prog w) A E s (do
   modify fun s=>setArr s (M.toList.zipIdx.foldl (fun a pj=>a.setIfInBounds (sa + k + pj.2) pj.1) (arrOf s))
   let z <- get
   pure (failedOf z).isNone) Q (setG (setPending st (((pendingOf st).setIfInBounds i (sa,na + nb,pw)).eraseIdxIfInBounds (i + 1))) g):=fun M g hs hpm=>by
  refine wpS_bind (wpS_modify (wpS_bind (wpS_get (wpS_pure ?_))));rw[ex,ey] at hpm;have ml:=hpm.length_eq;rw[List.length_append,List.length_drop,List.length_take] at ml;have ll:=bJs (sa + k) M.toList 0 (arrOf st) (by lia)
  have hfn:(failedOf (setArr (setG (setPending st (((pendingOf st).setIfInBounds i (sa,na + nb,pw)).eraseIdxIfInBounds (i + 1))) g) (M.toList.zipIdx.foldl (fun a pj=>a.setIfInBounds (sa + k + pj.2) pj.1) (arrOf st)))).isNone=true:=by
   show(failedOf st).isNone=true;rw[hf];rfl
  have main:=h (Aa.take k++(M.toList++Bb.drop m)) g (M.toList.zipIdx.foldl (fun a pj=>a.setIfInBounds (sa + k + pj.2) pj.1) (arrOf st)) ?_ ?_ ?_
  ·rw[<- est g] at main;show Q _ _;have e0:(failedOf (setArr (setG (setPending st (((pendingOf st).setIfInBounds i (sa,na + nb,pw)).eraseIdxIfInBounds (i + 1))) g) (M.toList.zipIdx.foldl (fun a pj=>a.setIfInBounds (sa + k + pj.2) pj.1) (arrOf st)))).isNone=true:=hfn;exact(e0.symm ▸ main)
  ·rw[ll,hl];have t1:(L1++(Aa++(Bb++L2))).take (sa + k + 0)=L1++Aa.take k:=by
    rw[<- l1,Nat.add_zero,List.take_append,List.take_of_length_le (by lia),Nat.add_sub_cancel_left,List.take_append_of_le_length (by lia)]
   have t2:(L1++(Aa++(Bb++L2))).drop (sa + k + 0 + M.toList.length)=Bb.drop m++L2:=by
    rw[List.drop_append,List.drop_eq_nil_of_le (by lia),List.nil_append,List.drop_append,List.drop_eq_nil_of_le (by lia),List.nil_append,show sa + k + 0 + M.toList.length - L1.length - Aa.length=m by lia,List.drop_append_of_le_length (by lia)]
   rw[t1,t2];simp only[List.append_assoc]
  ·have sA':Sd lt (Aa.take k++Aa.drop k):=by rw[List.take_append_drop];exact sA
   have sB':Sd lt (Bb.take m++Bb.drop m):=by rw[List.take_append_drop];exact sB
   obtain⟨a1,_,a3⟩:=List.pairwise_append.mp sA';obtain⟨_,b2,b3⟩:=List.pairwise_append.mp sB';refine List.pairwise_append.mpr ⟨a1,List.pairwise_append.mpr ⟨hs,b2,fun u hu v hv=>?_⟩,fun u hu v hv=>?_⟩
   ·rcases List.mem_append.mp (hpm.mem_iff.mp hu) with z | z
    ·exact upB v hv u (List.mem_of_mem_drop z)
    ·exact b3 u z v hv
   ·rcases List.mem_append.mp hv with z | z
    ·rcases List.mem_append.mp (hpm.mem_iff.mp z) with y | y
     ·exact a3 u hu v y
     ·exact lowA u hu v (List.mem_of_mem_take y)
    ·exact lowA u hu v (List.mem_of_mem_drop z)
  ·have e1:(Aa++Bb)=Aa.take k++(Aa.drop k++(Bb.take m++Bb.drop m)):=by rw[<- List.append_assoc,List.take_append_drop,List.take_append_drop]
   rw[e1];refine List.Perm.append_left _ ?_;rw[<- List.append_assoc];exact List.Perm.append_right _ hpm
 have pX:∀ x∈((arrOf st).extract (sa + k) sb).toList,P x:=fun x hx=>PA x (List.mem_of_mem_drop (by rw[ex] at hx;exact hx))
 have pY:∀ x∈((arrOf st).extract sb (sb + m)).toList,P x:=fun x hx=>PB x (List.mem_of_mem_take (by rw[ey] at hx;exact hx))
 have hF:∀ y,((arrOf st).extract sb (sb + m)).toList[0]?=some y->∀ x∈((arrOf st).extract (sa + k) sb).toList,lt x y=false:=fun y hy x hx=>by
  rw[ey,List.getElem?_take_of_lt (by lia),hb0] at hy
  cases hy;rw[ex] at hx;exact upA x hx
 have hL:∀ z,((arrOf st).extract (sa + k) sb).toList[((arrOf st).extract (sa + k) sb).size - 1]?=some z->∀ y∈((arrOf st).extract sb (sb + m)).toList,lt z y=false:=fun z hz y hy=>by
  rw[ex,zx,List.getElem?_drop,show k + (na - k - 1)=na - 1 by lia,hal] at hz
  cases hz;rw[ey] at hy;exact lowB y hy
 have sX:Sd lt ((arrOf st).extract (sa + k) sb).toList:=by rw[ex];exact sA.drop k
 have sY:Sd lt ((arrOf st).extract sb (sb + m)).toList:=by rw[ey];exact sB.take m
 by_cases c3:na - k<=m
 ·rw[if_pos c3];exact wpS_bind (eXv o hk2 pX pY sX sY (by lia) (by lia) hF hL fun M g hs hpm=>fin M g hs hpm)
 ·rw[if_neg c3];exact wpS_bind (eXx o hk2 pX pY sX sY (by lia) (by lia) hF hL fun M g hs hpm=>fin M g hs hpm)
end
def at0 (xs:Array Keyed) (i:Nat):Keyed:=(xs[i]?).getD (.none,.none)
theorem cXc {xs ys:Array Keyed} {i j:Nat} (h:xs[i]?=ys[j]?):at0 xs i=at0 ys j:=by unfold at0;rw[h]
def Gd (lo:Nat) (a xs:Array Keyed):Prop:=xs.Perm a/\∀ i,i < lo->xs[i]?=a[i]?
theorem Gd.size {lo:Nat} {a xs:Array Keyed} (h:Gd lo a xs):xs.size=a.size:=h.1.size_eq
def Up (lt:Keyed->Keyed->Bool) (xs:Array Keyed) (i j:Nat):Prop:=∀ p q,i<=p->p < q->q < j->lt (at0 xs q) (at0 xs p)=false
def Dn (lt:Keyed->Keyed->Bool) (xs:Array Keyed) (i j:Nat):Prop:=∀ p q,i<=p->p < q->q < j->lt (at0 xs p) (at0 xs q)=false
def Eqs (lt:Keyed->Keyed->Bool) (xs:Array Keyed) (i j:Nat):Prop:=∀ p q,i<=p->p < j->i<=q->q < j->lt (at0 xs p) (at0 xs q)=false
theorem aJn {xs:Array Keyed} {i j:Nat} (hj:j<=xs.size) (k:Nat):at0 (mirror xs i j ((j - i) / 2)) k=if i<=k/\k < j then at0 xs (i + j - 1 - k) else at0 xs k:=by
 have e:=getElem?_mirror_all (i:=i) hj k
 split at e
 ·next h=>rw[if_pos h];exact cXc e
 ·next h=>rw[if_neg h];exact cXc e
theorem Gd.rev {lo i j d:Nat} {a xs:Array Keyed} (h:Gd lo a xs) (hi:lo<=i) (hj:j<=xs.size) (hd:d=(j - i) / 2):Gd lo a (mirror xs i j d):=by
 subst hd;refine⟨(mirror_perm _ _ _ _).trans h.1,fun k hk=>?_⟩;rw[getElem?_mirror_all hj,if_neg (by lia)]
 exact h.2 k hk
section
variable {prog:Program} {w:World} {A:Around} {E:Value->Shared->Prop} {s:Shared} {κ:SortKind} {P:Keyed->Prop} {lt:Keyed->Keyed->Bool}
theorem gd_P {lo:Nat} {a xs:Array Keyed} (h:Gd lo a xs) (PA:∀ x∈a.toList,P x) {i:Nat} (hi:i < a.size):xs[i]?=some (at0 xs i)/\P (at0 xs i):=by
 have hi':i < xs.size:=by rw[h.size];exact hi
 have e:xs[i]?=some xs[i]:=getElem?_pos _ i hi';have e2:at0 xs i=xs[i]:=by unfold at0;rw[e];rfl
 rw[e2];exact⟨e,PA _ ((Array.perm_iff_toList_perm.mp h.1).mem_iff.mp (by simp))⟩
theorem aZ5 (o:Orc prog w A s κ P lt) {st:SortSt} {xs:Array Keyed} {lo i j:Nat} {Q:Option Bool->SortSt->Prop} (hk:kindOf st=κ) (PA:∀ x∈(arrOf st).toList,P x) (g:Gd lo (arrOf st) xs) (hi:i < (arrOf st).size) (hj:j < (arrOf st).size) (h:Q (some (lt (at0 xs i) (at0 xs j))) (setArr st xs)) :
  wpS (model prog w) A E s (ltAt' i j) Q (setArr st xs):=by
 rw[ltAt'_eq];refine wpS_bind (wpS_get ?_);obtain⟨e1,p1⟩:=gd_P g PA hi;obtain⟨e2,p2⟩:=gd_P g PA hj;exact wpS_bind (aZ4 e1 (wpS_bind (aZ4 e2 (cXa o hk p1 p2 h))))
theorem irr (o:Orc prog w A s κ P lt) {x:Keyed} (hx:P x):lt x x=false:=by
 cases e:lt x x with
 | false=>rfl
 | true=>exact absurd (e.symm.trans (o.as x x hx hx e)) (by decide)
variable {st:SortSt} {xs:Array Keyed} {lo:Nat}
theorem Up.more (o:Orc prog w A s κ P lt) {i j:Nat} (hP:∀ p,p<=j->P (at0 xs p)) (h:Up lt xs i j) (hij:i < j) (e:lt (at0 xs j) (at0 xs (j - 1))=false):Up lt xs i (j + 1):=fun p q h1 h2 h3=>by
 rcases Nat.lt_or_ge q j with z | z
 ·exact h p q h1 h2 z
 ·have:q=j:=by lia
  subst this;rcases Nat.lt_or_ge p (q - 1) with y | y
  ·exact o.tr _ _ _ (hP p (by lia)) (hP (q - 1) (by lia)) (hP q (by lia)) (h p (q - 1) h1 y (by lia)) e
  ·have:p=q - 1:=by lia
   rw[this];exact e
theorem Dn.more (o:Orc prog w A s κ P lt) {i j:Nat} (hP:∀ p,p<=j->P (at0 xs p)) (h:Dn lt xs i j) (hij:i < j) (e:lt (at0 xs (j - 1)) (at0 xs j)=false):Dn lt xs i (j + 1):=fun p q h1 h2 h3=>by
 rcases Nat.lt_or_ge q j with z | z
 ·exact h p q h1 h2 z
 ·have:q=j:=by lia
  subst this;rcases Nat.lt_or_ge p (q - 1) with y | y
  ·exact o.tr _ _ _ (hP q (by lia)) (hP (q - 1) (by lia)) (hP p (by lia)) e (h p (q - 1) h1 y (by lia))
  ·have:p=q - 1:=by lia
   rw[this];exact e
theorem Dn.rev {i j d:Nat} (h:Dn lt xs i j) (hj:j<=xs.size) (hd:d=(j - i) / 2):Up lt (mirror xs i j d) i j:=fun p q h1 h2 h3=>by
 subst hd;rw[aJn hj,aJn hj,if_pos ⟨by lia,by lia⟩,if_pos ⟨by lia,by lia⟩]
 exact h _ _ (by lia) (by lia) (by lia)
theorem Dn.eqs {i j c d:Nat} (h:Dn lt xs i j) (hc:i<=c) (he:Eqs lt xs c j) (hj:j<=xs.size) (hd:d=(j - c) / 2):Dn lt (mirror xs c j d) i j:=fun p q h1 h2 h3=>by
 subst hd;rw[aJn hj,aJn hj]
 by_cases a1:c<=p/\p < j
 ·rw[if_pos a1,if_pos ⟨by lia,by lia⟩]
  exact he _ _ (by lia) (by lia) (by lia) (by lia)
 ·rw[if_neg a1]
  by_cases a2:c<=q/\q < j
  ·rw[if_pos a2];exact h _ _ h1 (by lia) (by lia)
  ·rw[if_neg a2];exact h _ _ h1 h2 h3
theorem eJ0 (o:Orc prog w A s κ P lt) {nrem:Nat} {Q:Option Nat->SortSt->Prop} (hk:kindOf st=κ) (PA:∀ x∈(arrOf st).toList,P x) (hn:1<=nrem) (hs:lo + nrem<=(arrOf st).size)
  (h:∀ n xs,1<=n->n<=nrem->Gd lo (arrOf st) xs->Up lt xs lo (lo + n)->Q (some n) (setArr st xs)):wpS (model prog w) A E s (countRun' lo nrem) Q st:=by
 have pP:∀ {xs},Gd lo (arrOf st) xs->∀ p,p < (arrOf st).size->P (at0 xs p):=fun g p hp=>(gd_P g PA hp).2;rw[countRun'_eq];dsimp only;have est:st=setArr st (arrOf st):=rfl;have g0:Gd lo (arrOf st) (arrOf st):=⟨Array.Perm.refl _,fun _ _=>rfl⟩;refine wpS_bind (wpS_mono (wpS_forRange (I:=fun x c st'=>st'=setArr st (arrOf st)/\c=(none,x)/\1<=x/\Up lt (arrOf st) lo (lo + x))
  (Q:=fun c st'=>st'=setArr st (arrOf st)/\∃ n,c=(none,n)/\1<=n/\n<=nrem/\Up lt (arrOf st) lo (lo + n)/\(n < nrem->lt (at0 (arrOf st) (lo + n)) (at0 (arrOf st) (lo + n - 1))=true)) ?_ ?_ ⟨est,rfl,Nat.le_refl _,fun p q _ _ _=>by lia⟩) ?_)
 ·rintro x c st' _ hx ⟨rfl,rfl,h1,hu⟩;dsimp only;refine wpS_bind (aZ5 o (i:=lo + x) (j:=lo + x - 1) hk PA g0 (by lia) (by lia) ?_)
  dsimp only;cases e:lt (at0 (arrOf st) (lo + x)) (at0 (arrOf st) (lo + x - 1)) with
  | true=>rw[if_pos rfl];exact wpS_pure ⟨rfl,x,rfl,h1,by lia,hu,fun _=>e⟩
  | false=>rw[if_neg (by simp)];exact wpS_pure ⟨rfl,rfl,by lia,Up.more o (i:=lo) (j:=lo + x) (fun p hp=>pP g0 p (by lia)) hu (by lia) e⟩
 ·rintro c st' ⟨rfl,rfl,h1,hu⟩;refine⟨rfl,_,rfl,by lia,by lia,hu,fun z=>by lia⟩
 ·rintro c st' ⟨rfl,n,rfl,n1,n2,hu,hlt⟩;dsimp only
  by_cases c0:(n == nrem)=true
  ·rw[if_pos c0];exact wpS_pure (h n _ n1 n2 g0 hu)
  rw[if_neg c0];have c0':n < nrem:=by
   have:n≠nrem:=by simpa using c0
   lia
  have hlt':=hlt c0';have pp:∀ p,p<=lo + n->P (at0 (arrOf st) p):=fun p hp=>pP g0 p (by lia)
  have hle:=o.as _ _ (pp _ (Nat.le_refl _)) (pp _ (by lia)) hlt'
  by_cases cn:n > 1
  ·rw[if_pos cn];refine wpS_bind (aZ5 o (i:=lo) (j:=lo + n - 1) hk PA g0 (by lia) (by lia) ?_)
   dsimp only;cases e:lt (at0 (arrOf st) lo) (at0 (arrOf st) (lo + n - 1)) with
   | true=>rw[if_pos rfl];exact wpS_pure (h n _ n1 n2 g0 hu)
   | false =>
    rw[if_neg (by simp),reverseSlice'_eq]
    have down:∀ p,lo<=p->p < lo + n->lt (at0 (arrOf st) p) (at0 (arrOf st) (lo + n - 1))=false:=fun p h1 h2=>by
     rcases Nat.eq_or_lt_of_le h1 with rfl | h1
     ·exact e
     ·exact o.tr _ _ _ (pp _ (by lia)) (pp _ (by lia)) (pp _ (by lia)) e (hu lo p (Nat.le_refl _) h1 h2)
    have dn:Dn lt (arrOf st) lo (lo + n):=fun p q h1 h2 h3=>by
     rcases Nat.eq_or_lt_of_le (show q<=lo + n - 1 by lia) with z | z
     ·rw[z];exact down p h1 (by lia)
     ·exact o.tr _ _ _ (pp _ (by lia)) (pp _ (by lia)) (pp _ (by lia)) (hu q (lo + n - 1) (by lia) z (by lia)) (down p h1 (by lia))
    have eqs:Eqs lt (arrOf st) lo (lo + n):=fun p q h1 h2 h3 h4=>by
     rcases Nat.lt_trichotomy p q with z | z | z
     ·exact dn p q h1 z h4
     ·subst z;exact irr o (pp _ (by lia))
     ·exact hu q p h3 z h2
    have g2:Gd lo (arrOf st) (mirror (arrOf st) lo (lo + n) ((lo + n - lo) / 2)):=g0.rev (Nat.le_refl _) (by lia) rfl
    have hd:Dn lt (mirror (arrOf st) lo (lo + n) ((lo + n - lo) / 2)) lo (lo + (n + 1)):=by
     refine Dn.more o (i:=lo) (j:=lo + n) (fun p hp=>pP g2 p (by lia)) (dn.eqs (Nat.le_refl _) eqs (by lia) rfl) (by lia) ?_
     have rv:=aJn (xs:=arrOf st) (i:=lo) (j:=lo + n) (by lia)
     rw[rv,rv,if_pos ⟨by lia,by lia⟩,if_neg (by lia)]
     exact o.tr _ _ _ (pp _ (by lia)) (pp (lo + n - 1) (by lia)) (pp _ (by lia)) hle (down _ (by lia) (by lia))
    have n2:=c0';refine wpS_bind (wpS_modify ?_);change wpS _ _ _ _ _ _ (setArr st (mirror (arrOf st) lo (lo + n) ((lo + n - lo) / 2)))
    rename Gd lo (arrOf st) (mirror (arrOf st) lo (lo + n) ((lo + n - lo) / 2))=>g
    generalize mirror (arrOf st) lo (lo + n) ((lo + n - lo) / 2)=xs at g hd ⊢;refine wpS_bind (wpS_lift (wpAny_rule ⟨rfl,?_⟩));refine wpS_bind (wpS_mono (wpS_forRange (I:=fun x c st'=>∃ xs q,st'=setArr st xs/\c=(none,x,q)/\2<=x/\q + 1<=x/\Gd lo (arrOf st) xs/\Dn lt xs lo (lo + x)/\Eqs lt xs (lo + x - (q + 1)) (lo + x))
     (Q:=fun c st'=>∃ xs n q,st'=setArr st xs/\c=(none,n,q)/\1<=n/\n<=nrem/\q + 1<=n/\Gd lo (arrOf st) xs/\Dn lt xs lo (lo + n)/\Eqs lt xs (lo + n - (q + 1)) (lo + n)) ?_ ?_ ⟨xs,0,rfl,rfl,by lia,by lia,g,hd,fun p q h1 h2 h3 h4=>by
      have:p=q:=by lia
      subst this;exact irr o (pP g p (by lia))⟩) ?_)
    ·rintro x c st' _ hx ⟨xs,q,rfl,rfl,x2,hq,g,hd,he⟩;have hxs:xs.size=(arrOf st).size:=g.size;dsimp only;refine wpS_bind (aZ5 o (i:=lo + x) (j:=lo + x - 1) hk PA g (by lia) (by lia) ?_)
     dsimp only;cases e:lt (at0 xs (lo + x)) (at0 xs (lo + x - 1)) with
     | true =>
      rw[if_pos rfl];have e2:=o.as _ _ (pP g _ (by lia)) (pP g _ (by lia)) e
      have one:∀ ys,Gd lo (arrOf st) ys->Eqs lt ys (lo + (x + 1) - (0 + 1)) (lo + (x + 1)):=fun ys g' p q h1 h2 h3 h4=>by
       have:p=q:=by lia
       subst this;exact irr o (pP g' p (by lia))
      by_cases cq:q > 0
      ·rw[if_pos cq,reverseSlice'_eq];have hd2:(lo + x - (lo + x - (q + 1))) / 2=(lo + x - (lo + x - (q + 1))) / 2:=rfl;have g2:Gd lo (arrOf st) (mirror xs (lo + x - (q + 1)) (lo + x) ((lo + x - (lo + x - (q + 1))) / 2)):=g.rev (by lia) (by lia) rfl
       have d2:Dn lt (mirror xs (lo + x - (q + 1)) (lo + x) ((lo + x - (lo + x - (q + 1))) / 2)) lo (lo + x):=hd.eqs (by lia) he (by lia) rfl
       refine wpS_bind (wpS_modify (wpS_pure ⟨_,0,rfl,rfl,by lia,by lia,g2,Dn.more o (i:=lo) (j:=lo + x) (fun p hp=>pP g2 p (by lia)) d2 (by lia) ?_,one _ g2⟩))
       have rv:=aJn (xs:=xs) (i:=lo + x - (q + 1)) (j:=lo + x) (by lia)
       rw[rv,rv,if_pos ⟨by lia,by lia⟩,if_neg (by lia)]
       exact o.tr (at0 xs (lo + x)) (at0 xs (lo + x - 1)) _ (pP g _ (by lia)) (pP g _ (by lia)) (pP g _ (by lia)) e2 (he _ _ (by lia) (by lia) (by lia) (by lia))
      ·rw[if_neg cq];exact wpS_pure ⟨xs,0,rfl,rfl,by lia,by lia,g,Dn.more o (i:=lo) (j:=lo + x) (fun p hp=>pP g p (by lia)) hd (by lia) e2,one _ g⟩
     | false =>
      rw[if_neg (by simp)]
      refine wpS_bind (aZ5 o (i:=lo + x - 1) (j:=lo + x) hk PA g (by lia) (by lia) ?_)
      dsimp only;cases e2:lt (at0 xs (lo + x - 1)) (at0 xs (lo + x)) with
      | true=>rw[if_pos rfl];exact wpS_pure ⟨xs,x,q,rfl,rfl,by lia,by lia,hq,g,hd,he⟩
      | false =>
       rw[if_neg (by simp)]
       refine wpS_pure ⟨xs,q + 1,rfl,rfl,by lia,by lia,g,Dn.more o (i:=lo) (j:=lo + x) (fun p hp=>pP g p (by lia)) hd (by lia) e2,fun p r h1 h2 h3 h4=>?_⟩
       have pp:∀ p,p<=lo + x->P (at0 xs p):=fun p hp=>pP g p (by lia)
       have low:∀ p,lo + x - (q + 1)<=p->p < lo + x->lt (at0 xs p) (at0 xs (lo + x))=false/\lt (at0 xs (lo + x)) (at0 xs p)=false:=fun p a1 a2=>by
        have b1:=he p (lo + x - 1) a1 a2 (by lia) (by lia)
        have b2:=he (lo + x - 1) p (by lia) (by lia) a1 a2
        exact⟨o.tr _ _ _ (pp _ (by lia)) (pp _ (by lia)) (pp _ (by lia)) e2 b1,o.tr _ _ _ (pp _ (by lia)) (pp _ (by lia)) (pp _ (by lia)) b2 e⟩
       by_cases z1:p=lo + x
       ·by_cases z2:r=lo + x
        ·rw[z1,z2];exact irr o (pp _ (by lia))
        ·rw[z1];exact(low r (by lia) (by lia)).2
       ·by_cases z2:r=lo + x
        ·rw[z2];exact(low p (by lia) (by lia)).1
        ·exact he p r (by lia) (by lia) (by lia) (by lia)
    ·rintro c st' ⟨xs,q,rfl,rfl,x2,hq,g,hd,he⟩;exact⟨xs,_,q,rfl,rfl,by lia,by lia,hq,g,by rwa [show max (n + 1) nrem=nrem by lia] at hd ⊢,he⟩
    ·rintro c st' ⟨xs,n,q,rfl,rfl,n1,n2,hq,g,hd,he⟩;have hxs:xs.size=(arrOf st).size:=g.size;dsimp only
     by_cases cq:q > 0
     ·rw[if_pos cq,reverseSlice'_eq,reverseSlice'_eq];have g2:Gd lo (arrOf st) (mirror xs (lo + n - (q + 1)) (lo + n) ((lo + n - (lo + n - (q + 1))) / 2)):=g.rev (by lia) (by lia) rfl
      have d2:Dn lt (mirror xs (lo + n - (q + 1)) (lo + n) ((lo + n - (lo + n - (q + 1))) / 2)) lo (lo + n):=hd.eqs (by lia) he (by lia) rfl
      have s2:=g2.size;have g3:=g2.rev (i:=lo) (j:=lo + n) (Nat.le_refl _) (by lia) rfl
      have u3:=d2.rev (i:=lo) (j:=lo + n) (by lia) rfl
      refine wpS_bind (wpS_modify (wpS_bind (wpS_modify ?_)));change wpS _ _ _ _ _ _ (setArr st (mirror (mirror xs (lo + n - (q + 1)) (lo + n) ((lo + n - (lo + n - (q + 1))) / 2)) lo (lo + n) ((lo + n - lo) / 2)));generalize mirror (mirror xs (lo + n - (q + 1)) (lo + n) ((lo + n - (lo + n - (q + 1))) / 2)) lo (lo + n) ((lo + n - lo) / 2)=zs at g3 u3 ⊢;refine wpS_bind (wpS_mono (wpS_forRange (I:=fun x c st'=>st'=setArr st zs/\c=(none,x)/\n<=x/\Up lt (zs) lo (lo + x))
       (Q:=fun c st'=>st'=setArr st zs/\∃ n,c=(none,n)/\1<=n/\n<=nrem/\Up lt (zs) lo (lo + n)) ?_ ?_ ⟨rfl,rfl,Nat.le_refl _,u3⟩) ?_)
      ·rintro x c st' _ hx ⟨rfl,rfl,h1,hu⟩;dsimp only;refine wpS_bind (aZ5 o (i:=lo + x) (j:=lo + x - 1) hk PA g3 (by lia) (by lia) ?_)
       dsimp only;cases e:lt (at0 (zs) (lo + x)) (at0 (zs) (lo + x - 1)) with
       | true=>rw[if_pos rfl];exact wpS_pure ⟨rfl,x,rfl,by lia,by lia,hu⟩
       | false=>rw[if_neg (by simp)];exact wpS_pure ⟨rfl,rfl,by lia,Up.more o (i:=lo) (j:=lo + x) (fun p hp=>pP g3 p (by lia)) hu (by lia) e⟩
      ·rintro c st' ⟨rfl,rfl,h1,hu⟩;exact⟨rfl,_,rfl,by lia,by lia,hu⟩
      ·rintro c st' ⟨rfl,n,rfl,n1,n2,hu⟩;exact wpS_pure (h n (zs) n1 n2 g3 hu)
     ·rw[if_neg cq,reverseSlice'_eq];have g3:=g.rev (i:=lo) (j:=lo + n) (Nat.le_refl _) (by lia) rfl
      have u3:=hd.rev (i:=lo) (j:=lo + n) (by lia) rfl
      refine wpS_bind (wpS_modify ?_);change wpS _ _ _ _ _ _ (setArr st (mirror xs lo (lo + n) ((lo + n - lo) / 2)));generalize mirror xs lo (lo + n) ((lo + n - lo) / 2)=zs at g3 u3 ⊢;refine wpS_bind (wpS_mono (wpS_forRange (I:=fun x c st'=>st'=setArr st zs/\c=(none,x)/\n<=x/\Up lt (zs) lo (lo + x))
       (Q:=fun c st'=>st'=setArr st zs/\∃ n,c=(none,n)/\1<=n/\n<=nrem/\Up lt (zs) lo (lo + n)) ?_ ?_ ⟨rfl,rfl,Nat.le_refl _,u3⟩) ?_)
      ·rintro x c st' _ hx ⟨rfl,rfl,h1,hu⟩;dsimp only;refine wpS_bind (aZ5 o (i:=lo + x) (j:=lo + x - 1) hk PA g3 (by lia) (by lia) ?_)
       dsimp only;cases e:lt (at0 (zs) (lo + x)) (at0 (zs) (lo + x - 1)) with
       | true=>rw[if_pos rfl];exact wpS_pure ⟨rfl,x,rfl,by lia,by lia,hu⟩
       | false=>rw[if_neg (by simp)];exact wpS_pure ⟨rfl,rfl,by lia,Up.more o (i:=lo) (j:=lo + x) (fun p hp=>pP g3 p (by lia)) hu (by lia) e⟩
      ·rintro c st' ⟨rfl,rfl,h1,hu⟩;exact⟨rfl,_,rfl,by lia,by lia,hu⟩
      ·rintro c st' ⟨rfl,n,rfl,n1,n2,hu⟩;exact wpS_pure (h n (zs) n1 n2 g3 hu)
  ·rw[if_neg cn];have e1:n=1:=by lia
   subst e1;have hd:Dn lt (arrOf st) lo (lo + (1 + 1)):=fun p q h1 h2 h3=>by
    have ep:p=lo:=by lia
    have eq:q=lo + 1:=by lia
    rw[ep,eq];exact hle
   have n2:=c0';have g:=g0;refine wpS_bind (wpS_lift (wpAny_rule ⟨rfl,?_⟩));refine wpS_bind (wpS_mono (wpS_forRange (I:=fun x c st'=>∃ xs q,st'=setArr st xs/\c=(none,x,q)/\2<=x/\q + 1<=x/\Gd lo (arrOf st) xs/\Dn lt xs lo (lo + x)/\Eqs lt xs (lo + x - (q + 1)) (lo + x))
    (Q:=fun c st'=>∃ xs n q,st'=setArr st xs/\c=(none,n,q)/\1<=n/\n<=nrem/\q + 1<=n/\Gd lo (arrOf st) xs/\Dn lt xs lo (lo + n)/\Eqs lt xs (lo + n - (q + 1)) (lo + n)) ?_ ?_ ⟨arrOf st,0,rfl,rfl,by lia,by lia,g,hd,fun p q h1 h2 h3 h4=>by
     have:p=q:=by lia
     subst this;exact irr o (pP g p (by lia))⟩) ?_)
   ·rintro x c st' _ hx ⟨xs,q,rfl,rfl,x2,hq,g,hd,he⟩;have hxs:xs.size=(arrOf st).size:=g.size;dsimp only;refine wpS_bind (aZ5 o (i:=lo + x) (j:=lo + x - 1) hk PA g (by lia) (by lia) ?_)
    dsimp only;cases e:lt (at0 xs (lo + x)) (at0 xs (lo + x - 1)) with
    | true =>
     rw[if_pos rfl];have e2:=o.as _ _ (pP g _ (by lia)) (pP g _ (by lia)) e
     have one:∀ ys,Gd lo (arrOf st) ys->Eqs lt ys (lo + (x + 1) - (0 + 1)) (lo + (x + 1)):=fun ys g' p q h1 h2 h3 h4=>by
      have:p=q:=by lia
      subst this;exact irr o (pP g' p (by lia))
     by_cases cq:q > 0
     ·rw[if_pos cq,reverseSlice'_eq];have hd2:(lo + x - (lo + x - (q + 1))) / 2=(lo + x - (lo + x - (q + 1))) / 2:=rfl;have g2:Gd lo (arrOf st) (mirror xs (lo + x - (q + 1)) (lo + x) ((lo + x - (lo + x - (q + 1))) / 2)):=g.rev (by lia) (by lia) rfl
      have d2:Dn lt (mirror xs (lo + x - (q + 1)) (lo + x) ((lo + x - (lo + x - (q + 1))) / 2)) lo (lo + x):=hd.eqs (by lia) he (by lia) rfl
      refine wpS_bind (wpS_modify (wpS_pure ⟨_,0,rfl,rfl,by lia,by lia,g2,Dn.more o (i:=lo) (j:=lo + x) (fun p hp=>pP g2 p (by lia)) d2 (by lia) ?_,one _ g2⟩))
      have rv:=aJn (xs:=xs) (i:=lo + x - (q + 1)) (j:=lo + x) (by lia)
      rw[rv,rv,if_pos ⟨by lia,by lia⟩,if_neg (by lia)]
      exact o.tr (at0 xs (lo + x)) (at0 xs (lo + x - 1)) _ (pP g _ (by lia)) (pP g _ (by lia)) (pP g _ (by lia)) e2 (he _ _ (by lia) (by lia) (by lia) (by lia))
     ·rw[if_neg cq];exact wpS_pure ⟨xs,0,rfl,rfl,by lia,by lia,g,Dn.more o (i:=lo) (j:=lo + x) (fun p hp=>pP g p (by lia)) hd (by lia) e2,one _ g⟩
    | false =>
     rw[if_neg (by simp)]
     refine wpS_bind (aZ5 o (i:=lo + x - 1) (j:=lo + x) hk PA g (by lia) (by lia) ?_)
     dsimp only;cases e2:lt (at0 xs (lo + x - 1)) (at0 xs (lo + x)) with
     | true=>rw[if_pos rfl];exact wpS_pure ⟨xs,x,q,rfl,rfl,by lia,by lia,hq,g,hd,he⟩
     | false =>
      rw[if_neg (by simp)]
      refine wpS_pure ⟨xs,q + 1,rfl,rfl,by lia,by lia,g,Dn.more o (i:=lo) (j:=lo + x) (fun p hp=>pP g p (by lia)) hd (by lia) e2,fun p r h1 h2 h3 h4=>?_⟩
      have pp:∀ p,p<=lo + x->P (at0 xs p):=fun p hp=>pP g p (by lia)
      have low:∀ p,lo + x - (q + 1)<=p->p < lo + x->lt (at0 xs p) (at0 xs (lo + x))=false/\lt (at0 xs (lo + x)) (at0 xs p)=false:=fun p a1 a2=>by
       have b1:=he p (lo + x - 1) a1 a2 (by lia) (by lia)
       have b2:=he (lo + x - 1) p (by lia) (by lia) a1 a2
       exact⟨o.tr _ _ _ (pp _ (by lia)) (pp _ (by lia)) (pp _ (by lia)) e2 b1,o.tr _ _ _ (pp _ (by lia)) (pp _ (by lia)) (pp _ (by lia)) b2 e⟩
      by_cases z1:p=lo + x
      ·by_cases z2:r=lo + x
       ·rw[z1,z2];exact irr o (pp _ (by lia))
       ·rw[z1];exact(low r (by lia) (by lia)).2
      ·by_cases z2:r=lo + x
       ·rw[z2];exact(low p (by lia) (by lia)).1
       ·exact he p r (by lia) (by lia) (by lia) (by lia)
   ·rintro c st' ⟨xs,q,rfl,rfl,x2,hq,g,hd,he⟩;exact⟨xs,_,q,rfl,rfl,by lia,by lia,hq,g,by rwa [show max (1 + 1) nrem=nrem by lia] at hd ⊢,he⟩
   ·rintro c st' ⟨xs,n,q,rfl,rfl,n1,n2,hq,g,hd,he⟩;have hxs:xs.size=(arrOf st).size:=g.size;dsimp only
    by_cases cq:q > 0
    ·rw[if_pos cq,reverseSlice'_eq,reverseSlice'_eq];have g2:Gd lo (arrOf st) (mirror xs (lo + n - (q + 1)) (lo + n) ((lo + n - (lo + n - (q + 1))) / 2)):=g.rev (by lia) (by lia) rfl
     have d2:Dn lt (mirror xs (lo + n - (q + 1)) (lo + n) ((lo + n - (lo + n - (q + 1))) / 2)) lo (lo + n):=hd.eqs (by lia) he (by lia) rfl
     have s2:=g2.size;have g3:=g2.rev (i:=lo) (j:=lo + n) (Nat.le_refl _) (by lia) rfl
     have u3:=d2.rev (i:=lo) (j:=lo + n) (by lia) rfl
     refine wpS_bind (wpS_modify (wpS_bind (wpS_modify ?_)));change wpS _ _ _ _ _ _ (setArr st (mirror (mirror xs (lo + n - (q + 1)) (lo + n) ((lo + n - (lo + n - (q + 1))) / 2)) lo (lo + n) ((lo + n - lo) / 2)));generalize mirror (mirror xs (lo + n - (q + 1)) (lo + n) ((lo + n - (lo + n - (q + 1))) / 2)) lo (lo + n) ((lo + n - lo) / 2)=zs at g3 u3 ⊢;refine wpS_bind (wpS_mono (wpS_forRange (I:=fun x c st'=>st'=setArr st zs/\c=(none,x)/\n<=x/\Up lt (zs) lo (lo + x))
      (Q:=fun c st'=>st'=setArr st zs/\∃ n,c=(none,n)/\1<=n/\n<=nrem/\Up lt (zs) lo (lo + n)) ?_ ?_ ⟨rfl,rfl,Nat.le_refl _,u3⟩) ?_)
     ·rintro x c st' _ hx ⟨rfl,rfl,h1,hu⟩;dsimp only;refine wpS_bind (aZ5 o (i:=lo + x) (j:=lo + x - 1) hk PA g3 (by lia) (by lia) ?_)
      dsimp only;cases e:lt (at0 (zs) (lo + x)) (at0 (zs) (lo + x - 1)) with
      | true=>rw[if_pos rfl];exact wpS_pure ⟨rfl,x,rfl,by lia,by lia,hu⟩
      | false=>rw[if_neg (by simp)];exact wpS_pure ⟨rfl,rfl,by lia,Up.more o (i:=lo) (j:=lo + x) (fun p hp=>pP g3 p (by lia)) hu (by lia) e⟩
     ·rintro c st' ⟨rfl,rfl,h1,hu⟩;exact⟨rfl,_,rfl,by lia,by lia,hu⟩
     ·rintro c st' ⟨rfl,n,rfl,n1,n2,hu⟩;exact wpS_pure (h n (zs) n1 n2 g3 hu)
    ·rw[if_neg cq,reverseSlice'_eq];have g3:=g.rev (i:=lo) (j:=lo + n) (Nat.le_refl _) (by lia) rfl
     have u3:=hd.rev (i:=lo) (j:=lo + n) (by lia) rfl
     refine wpS_bind (wpS_modify ?_);change wpS _ _ _ _ _ _ (setArr st (mirror xs lo (lo + n) ((lo + n - lo) / 2)));generalize mirror xs lo (lo + n) ((lo + n - lo) / 2)=zs at g3 u3 ⊢;refine wpS_bind (wpS_mono (wpS_forRange (I:=fun x c st'=>st'=setArr st zs/\c=(none,x)/\n<=x/\Up lt (zs) lo (lo + x))
      (Q:=fun c st'=>st'=setArr st zs/\∃ n,c=(none,n)/\1<=n/\n<=nrem/\Up lt (zs) lo (lo + n)) ?_ ?_ ⟨rfl,rfl,Nat.le_refl _,u3⟩) ?_)
     ·rintro x c st' _ hx ⟨rfl,rfl,h1,hu⟩;dsimp only;refine wpS_bind (aZ5 o (i:=lo + x) (j:=lo + x - 1) hk PA g3 (by lia) (by lia) ?_)
      dsimp only;cases e:lt (at0 (zs) (lo + x)) (at0 (zs) (lo + x - 1)) with
      | true=>rw[if_pos rfl];exact wpS_pure ⟨rfl,x,rfl,by lia,by lia,hu⟩
      | false=>rw[if_neg (by simp)];exact wpS_pure ⟨rfl,rfl,by lia,Up.more o (i:=lo) (j:=lo + x) (fun p hp=>pP g3 p (by lia)) hu (by lia) e⟩
     ·rintro c st' ⟨rfl,rfl,h1,hu⟩;exact⟨rfl,_,rfl,by lia,by lia,hu⟩
     ·rintro c st' ⟨rfl,n,rfl,n1,n2,hu⟩;exact wpS_pure (h n (zs) n1 n2 g3 hu)
end
theorem bub_at {xs:Array Keyed} {src d:Nat} (hs:src < xs.size) (hd:d<=src) (k:Nat) :
  at0 (bubble xs src d) k=if k=src - d then at0 xs src else if src - d < k/\k<=src then at0 xs (k - 1) else at0 xs k:=by
 have e:=getElem?_bubble hs d hd k
 by_cases h1:k=src - d
 ·rw[if_pos h1] at e ⊢;exact cXc e
 ·rw[if_neg h1] at e ⊢
  by_cases h2:src - d < k/\k<=src
  ·rw[if_pos h2] at e ⊢;exact cXc e
  ·rw[if_neg h2] at e ⊢;exact cXc e
section
variable {prog:Program} {w:World} {A:Around} {E:Value->Shared->Prop} {s:Shared} {κ:SortKind} {P:Keyed->Prop} {lt:Keyed->Keyed->Bool} {st:SortSt} {lo:Nat}
theorem eJ1 (o:Orc prog w A s κ P lt) {n ok:Nat} {Q:Bool->SortSt->Prop} (hk:kindOf st=κ) (PA:∀ x∈(arrOf st).toList,P x) (hs:lo + n<=(arrOf st).size) (hok:ok<=n) (hu:Up lt (arrOf st) lo (lo + ok))
  (h:∀ xs,Gd lo (arrOf st) xs->Up lt xs lo (lo + n)->Q true (setArr st xs)):wpS (model prog w) A E s (binarySort' lo n ok) Q st:=by
 have pP:∀ {xs},Gd lo (arrOf st) xs->∀ p,p < (arrOf st).size->P (at0 xs p):=fun g p hp=>(gd_P g PA hp).2;have g0:Gd lo (arrOf st) (arrOf st):=⟨Array.Perm.refl _,fun _ _=>rfl⟩;rw[binarySort'_eq];refine wpS_bind (wpS_mono (wpS_forRange (I:=fun k c st'=>∃ xs,st'=setArr st xs/\c=(none,())/\Gd lo (arrOf st) xs/\Up lt xs lo (lo + min k n))
  (Q:=fun c st'=>∃ xs,st'=setArr st xs/\c=(none,())/\Gd lo (arrOf st) xs/\Up lt xs lo (lo + n)) ?step ?fin ?init) ?post)
 case post =>
  rintro c st' ⟨xs,rfl,rfl,g,hu⟩;exact wpS_pure (h xs g hu)
 case init =>
  refine⟨arrOf st,rfl,rfl,g0,fun p q h1 h2 h3=>?_⟩
  by_cases z:ok=0
  ·lia
  ·exact hu p q h1 h2 (by lia)
 case fin =>
  rintro c st' ⟨xs,rfl,rfl,g,hu⟩;refine⟨xs,rfl,rfl,g,?_⟩;rwa [show min (max (max ok 1) n) n=n by lia] at hu
 case step =>
  rintro k c st' hak hkn ⟨xs,rfl,rfl,g,hu⟩;rw[show min k n=k by lia] at hu
  have hxs:xs.size=(arrOf st).size:=g.size;have pp:∀ p,p < lo + n->P (at0 xs p):=fun p hp=>pP g p (by lia)
  dsimp only;refine wpS_bind (wpS_mono (wpS_forRange (I:=fun x c st''=>st''=setArr st xs/\∃ l r,c=(none,l,r)/\l<=r/\r<=k/\r - l<=k - x /\
    (∀ i,i < l->lt (at0 xs (lo + k)) (at0 xs (lo + i))=false)/\(∀ i,r<=i->i < k->lt (at0 xs (lo + i)) (at0 xs (lo + k))=false))
   (Q:=fun c st''=>st''=setArr st xs/\∃ l r,c=(none,l,r)/\l<=k /\
    (∀ i,i < l->lt (at0 xs (lo + k)) (at0 xs (lo + i))=false)/\(∀ i,l<=i->i < k->lt (at0 xs (lo + i)) (at0 xs (lo + k))=false)) ?istep ?ifin ?iinit) ?ipost)
  case iinit=>exact⟨rfl,0,k,rfl,by lia,by lia,by lia,fun i hi=>by lia,fun i h1 h2=>by lia⟩
  case ifin =>
   rintro c st'' ⟨rfl,l,r,rfl,hlr,hrk,hm,hlo,hhi⟩
   have:l=r:=by lia
   subst this;exact⟨rfl,l,l,rfl,hrk,hlo,hhi⟩
  case istep =>
   rintro x c st'' _ hxk ⟨rfl,l,r,rfl,hlr,hrk,hm,hlo,hhi⟩;dsimp only
   by_cases hge:l >= r
   ·rw[if_pos hge]
    have:l=r:=by lia
    subst this;exact wpS_pure ⟨rfl,l,l,rfl,hrk,hlo,hhi⟩
   ·rw[if_neg hge];refine wpS_bind (aZ5 o hk PA g (i:=lo + k) (j:=lo + (l + r) / 2) (by lia) (by lia) ?_)
    dsimp only;cases e:lt (at0 xs (lo + k)) (at0 xs (lo + (l + r) / 2)) with
    | true =>
     rw[if_pos rfl];refine wpS_pure ⟨rfl,l,(l + r) / 2,rfl,by lia,by lia,by lia,hlo,fun i h1 h2=>?_⟩
     have e2:=o.as _ _ (pp _ (by lia)) (pp _ (by lia)) e
     rcases Nat.eq_or_lt_of_le h1 with z | z
     ·rw[<- z];exact e2
     ·exact o.tr _ _ _ (pp _ (by lia)) (pp (lo + (l + r) / 2) (by lia)) (pp _ (by lia)) e2 (hu _ _ (by lia) (by lia) (by lia))
    | false =>
     rw[if_neg (by simp)]
     refine wpS_pure ⟨rfl,(l + r) / 2 + 1,r,rfl,by lia,by lia,by lia,fun i h1=>?_,hhi⟩
     rcases Nat.eq_or_lt_of_le (show i<=(l + r) / 2 by lia) with z | z
     ·rw[z];exact e
     ·exact o.tr _ _ _ (pp _ (by lia)) (pp (lo + (l + r) / 2) (by lia)) (pp _ (by lia)) (hu _ _ (by lia) (by lia) (by lia)) e
  case ipost =>
   rintro c st'' ⟨rfl,l,r,rfl,hlk,hlo,hhi⟩;show wpS _ _ _ _ (do moveDown' (lo + k) (lo + l);pure (ForInStep.yield (none,()))) _ _
   rw[moveDown'_eq];have hks:lo + k < xs.size:=by lia
   have ed:lo + k - (lo + l)=k - l:=by lia
   refine wpS_bind (wpS_modify (wpS_pure ⟨bubble xs (lo + k) (lo + k - (lo + l)),rfl,rfl,⟨(bubble_perm _ _ _).trans g.1,fun i hi=>?_⟩,?_⟩))
   ·rw[getElem?_bubble hks _ (by lia),if_neg (by lia),if_neg (by lia)]
    exact g.2 i hi
   ·rw[show min (k + 1) n=k + 1 by lia]
    intro p q h1 h2 h3;rw[bub_at hks (by lia),bub_at hks (by lia),show lo + k - (lo + k - (lo + l))=lo + l by lia]
    have hlo':∀ i,lo<=i->i < lo + l->lt (at0 xs (lo + k)) (at0 xs i)=false:=fun i a b=>by
     have:=hlo (i - lo) (by lia)
     rwa [show lo + (i - lo)=i by lia] at this
    have hhi':∀ i,lo + l<=i->i < lo + k->lt (at0 xs i) (at0 xs (lo + k))=false:=fun i a b=>by
     have:=hhi (i - lo) (by lia) (by lia)
     rwa [show lo + (i - lo)=i by lia] at this
    repeat' split
    all_goals first
     | (exfalso;lia)
     | exact hlo' _ (by lia) (by lia)
     | exact hhi' _ (by lia) (by lia)
     | exact hu _ _ (by lia) (by lia) (by lia)
end
def offs:Nat->List (List Keyed)->List (Nat × Nat)
 | _,[]=>[]
 | k,s::ss=>(k,s.length)::offs (k + s.length) ss
theorem bQz:∀ k ss,(offs k ss).length=ss.length
 | _,[]=>rfl
 | k,s::ss=>by simp[offs,bQz]
theorem aJ7:∀ k (s1 s2:List (List Keyed)),offs k (s1++s2)=offs k s1++offs (k + s1.flatten.length) s2
 | k,[],s2=>by simp[offs]
 | k,s::s1,s2=>by simp[offs,aJ7,Nat.add_assoc]
def sl (x:Nat × Nat × Nat):Nat × Nat:=(x.1,x.2.1)
structure Pn (κ:SortKind) (P:Keyed->Prop) (lt:Keyed->Keyed->Bool) (a0:List Keyed) (st:SortSt) (segs:List (List Keyed)) (rest:List Keyed):Prop where
 kind:kindOf st=κ
 fl:failedOf st=none
 arr:(arrOf st).toList=segs.flatten++rest
 perm:(arrOf st).toList.Perm a0
 sd:∀ sg∈segs,Sd lt sg/\sg≠[]
 pd:(pendingOf st).toList.map sl=offs 0 segs
section
variable {prog:Program} {w:World} {A:Around} {E:Value->Shared->Prop} {s:Shared} {κ:SortKind} {P:Keyed->Prop} {lt:Keyed->Keyed->Bool} {st:SortSt} {a0 rest:List Keyed} {segs:List (List Keyed)}
theorem Pn.psize (h:Pn κ P lt a0 st segs rest):(pendingOf st).size=segs.length:=by
 have:=congrArg List.length h.pd
 rwa [List.length_map,bQz,Array.length_toList] at this
theorem Pn.size (h:Pn κ P lt a0 st segs rest):(arrOf st).size=a0.length:=by rw[<- Array.length_toList];exact h.perm.length_eq
theorem Pn.room (h:Pn κ P lt a0 st segs rest):segs.flatten.length + rest.length=a0.length:=by rw[<- List.length_append,<- h.arr];exact h.perm.length_eq
theorem dZt (o:Orc prog w A s κ P lt) (PA:∀ x∈a0,P x) (h:Pn κ P lt a0 st segs rest) {i:Nat} (hi:i + 1 < segs.length) {Q:Bool->SortSt->Prop}
  (hq:∀ st' segs',Pn κ P lt a0 st' segs' rest->segs'.length + 1=segs.length->segs'.flatten.length=segs.flatten.length->Q true st'):wpS (model prog w) A E s (mergeAt' i) Q st:=by
 obtain⟨S1,Aa,Bb,S2,rfl,rfl⟩:∃ S1 Aa Bb S2,segs=S1++Aa::Bb::S2/\S1.length=i:=by
  refine⟨segs.take i,segs[i],segs[i + 1],segs.drop (i + 2),?_,by rw[List.length_take];lia⟩
  rw[<- List.drop_eq_getElem_cons hi,<- List.drop_eq_getElem_cons (by lia),List.take_append_drop]
 have hpd:=h.pd;rw[aJ7,Nat.zero_add] at hpd;obtain⟨p1,p2',e1,e2,e3⟩:=List.map_eq_append_iff.mp hpd;simp only[offs] at e3;obtain⟨x,p2'',rfl,ex,e4⟩:=List.map_eq_cons_iff.mp e3;obtain⟨y,p2,rfl,ey,e5⟩:=List.map_eq_cons_iff.mp e4;have lp1:p1.length=S1.length:=by rw[<- List.length_map (f:=sl),e2,bQz]
 have g1:(pendingOf st)[S1.length]?=some (S1.flatten.length,Aa.length,x.2.2):=by
  rw[<- Array.getElem?_toList,e1,<- lp1,List.getElem?_append_right (Nat.le_refl _),Nat.sub_self,List.getElem?_cons_zero];obtain⟨x1,x2,x3⟩:=x;cases ex;rfl
 have g2:(pendingOf st)[S1.length + 1]?=some (S1.flatten.length + Aa.length,Bb.length,y.2.2):=by
  rw[<- Array.getElem?_toList,e1,<- lp1,List.getElem?_append_right (by lia),Nat.add_sub_cancel_left,List.getElem?_cons_succ,List.getElem?_cons_zero]
  obtain⟨y1,y2,y3⟩:=y;cases ey;rfl
 have sA:=h.sd Aa (by simp)
 have sB:=h.sd Bb (by simp)
 have hl:(arrOf st).toList=S1.flatten++(Aa++(Bb++(S2.flatten++rest))):=by rw[h.arr];simp
 have pm:∀ x∈Aa++Bb,P x:=fun x hx=>PA x (h.perm.mem_iff.mp (by rw[hl];simp at hx ⊢;grind))
 refine eXz o h.kind h.fl g1 g2 rfl hl rfl rfl rfl (List.length_pos_iff.mpr sA.2) (List.length_pos_iff.mpr sB.2) (fun x hx=>pm x (List.mem_append_left _ hx)) (fun x hx=>pm x (List.mem_append_right _ hx)) sA.1 sB.1 fun C g xs hx hC hp=>?_;have lC:=hp.length_eq;rw[List.length_append] at lC;refine hq _ (S1++C::S2) ⟨rfl,rfl,?_,?_,fun sg hsg=>?_,?_⟩ (by simp only[List.length_append,List.length_cons];lia) (by simp;lia)
 ·show xs.toList=_;rw[hx];simp
 ·show xs.toList.Perm _;refine List.Perm.trans ?_ h.perm;rw[hx,hl];refine List.Perm.append_left _ ?_
  have:=List.Perm.append_right (S2.flatten++rest) hp
  rwa [List.append_assoc Aa] at this
 ·rcases List.mem_append.mp hsg with z | z
  ·exact h.sd sg (by simp[z])
  ·rcases List.mem_cons.mp z with rfl | z
   ·exact⟨hC,fun e=>by
     have:=List.length_pos_iff.mpr sA.2
     rw[e] at lC;simp at lC;lia⟩
   ·exact h.sd sg (by simp[z])
 ·show(((pendingOf st).setIfInBounds S1.length (S1.flatten.length,Aa.length + Bb.length,x.2.2)).eraseIdxIfInBounds (S1.length + 1)).toList.map sl=_;rw[Array.toList_eraseIdxIfInBounds,Array.toList_setIfInBounds,e1,<- lp1,List.set_append_right _ _ (Nat.le_refl _),Nat.sub_self,List.set_cons_zero,List.eraseIdx_append_of_length_le (by lia),Nat.add_sub_cancel_left,List.eraseIdx_cons_succ,List.eraseIdx_cons_zero,List.map_append,List.map_cons,e2,e5,aJ7]
  simp[offs,sl,lC,Nat.add_assoc]
theorem Pn.next (h:Pn κ P lt a0 st segs rest) {xs:Array Keyed} {n:Nat} (hn:1<=n) (hs:segs.flatten.length + n<=a0.length) (g:Gd segs.flatten.length (arrOf st) xs) (hu:Up lt xs segs.flatten.length (segs.flatten.length + n)) :
  ∃ sg rest',sg.length=n/\Sd lt sg/\sg≠[]/\Pn κ P lt a0 (setArr st xs) segs (sg++rest'):=by
 have hz:xs.toList.length=a0.length:=by rw[Array.length_toList,g.size,h.size]
 have tk:xs.toList.take segs.flatten.length=segs.flatten:=by
  have:(arrOf st).toList.take segs.flatten.length=segs.flatten:=by rw[h.arr,List.take_append_of_le_length (Nat.le_refl _),List.take_length]
  rw[<- this];refine List.ext_getElem? fun i=>?_;rw[List.getElem?_take,List.getElem?_take,this]
  split
  ·next hi=>rw[Array.getElem?_toList,Array.getElem?_toList];exact g.2 i hi
  ·rfl
 refine⟨(xs.toList.drop segs.flatten.length).take n,(xs.toList.drop segs.flatten.length).drop n,by rw[List.length_take,List.length_drop];lia,?_,fun e=>?_,h.kind,h.fl,?_,?_,h.sd,h.pd⟩
 ·refine List.pairwise_iff_getElem.mpr fun i j hi hj hij=>?_;rw[List.length_take,List.length_drop] at hi hj
  have:=hu (segs.flatten.length + i) (segs.flatten.length + j) (by lia) (by lia) (by lia)
  have ea:∀ k,segs.flatten.length + k < xs.toList.length->∀ hk,((xs.toList.drop segs.flatten.length).take n)[k]'hk=at0 xs (segs.flatten.length + k):=fun k h1 hk=>by
   rw[List.getElem_take,List.getElem_drop];unfold at0;rw[<- Array.getElem?_toList,List.getElem?_eq_getElem h1]
   rfl
  rw[ea i (by lia),ea j (by lia)]
  exact this
 ·have:=congrArg List.length e
  rw[List.length_take,List.length_drop,List.length_nil] at this;lia
 ·show xs.toList=_;rw[List.take_append_drop]
  conv=>lhs;rw[<- List.take_append_drop segs.flatten.length xs.toList,tk]
 ·exact(Array.perm_iff_toList_perm.mp g.1).trans h.perm
theorem Pn.push {sg rest':List Keyed} (h:Pn κ P lt a0 st segs (sg++rest')) (hs:Sd lt sg) (hne:sg≠[]) {lo n:Nat} (hlo:segs.flatten.length=lo) (hn:sg.length=n):Pn κ P lt a0 (setPending st ((pendingOf st).push (lo,n,0))) (segs++[sg]) rest':=by
 subst hlo hn;refine⟨h.kind,h.fl,?_,h.perm,fun x hx=>?_,?_⟩
 ·show(arrOf st).toList=_;rw[h.arr];simp
 ·rcases List.mem_append.mp hx with z | z
  ·exact h.sd x z
  ·rw[List.mem_singleton.mp z];exact⟨hs,hne⟩
 ·show((pendingOf st).push _).toList.map sl=_;rw[Array.toList_push,List.map_append,h.pd,aJ7];simp[offs,sl]
theorem Pn.repow (h:Pn κ P lt a0 st segs rest) (i pw:Nat):Pn κ P lt a0 (setPending st ((pendingOf st).modify i fun x=>(x.1,x.2.1,pw))) segs rest:=by
 refine⟨h.kind,h.fl,h.arr,h.perm,h.sd,?_⟩;show((pendingOf st).modify i _).toList.map sl=_;rw[<- h.pd,Array.toList_modify];refine List.ext_getElem? fun j=>?_;rw[List.getElem?_map,List.getElem?_map,List.getElem?_modify]
 by_cases c:i=j
 ·simp only[c,if_true];cases (pendingOf st).toList[j]? <;> rfl
 ·simp only[c,if_false];cases (pendingOf st).toList[j]? <;> rfl
theorem bJt:∀ (ss:List (List Keyed)),(∀ sg∈ss,sg≠[])->ss.length<=ss.flatten.length
 | [],_=>Nat.le_refl _
 | s::ss,h=>by
  have:=bJt ss fun x hx=>h x (.tail _ hx)
  have:=List.length_pos_iff.mpr (h s (.head _))
  rw[List.flatten_cons,List.length_append,List.length_cons];lia
end
section
variable {prog:Program} {w:World} {A:Around} {E:Value->Shared->Prop} {s:Shared} {κ:SortKind} {P:Keyed->Prop} {lt:Keyed->Keyed->Bool} {st:SortSt} {a0 rest:List Keyed} {segs:List (List Keyed)}
theorem dJo (o:Orc prog w A s κ P lt) (PA:∀ x∈(arrOf st).toList,P x) (hk:kindOf st=κ) (hf:failedOf st=none) (hp:pendingOf st=#[]) {Q:Unit->SortSt->Prop}
  (h:∀ st',(arrOf st').toList.Perm (arrOf st).toList->failedOf st'=none->Sd lt (arrOf st').toList->Q () st'):wpS (model prog w) A E s sortRuns' Q st:=by
 have h0:Pn κ P lt (arrOf st).toList st [] (arrOf st).toList:=⟨hk,hf,rfl,List.Perm.refl _,fun _ hx=>absurd hx List.not_mem_nil,by rw[hp];rfl⟩
 have pA:∀ {st' segs rest},Pn κ P lt (arrOf st).toList st' segs rest->∀ x∈(arrOf st').toList,P x:=fun I x hx=>PA x (I.perm.mem_iff.mp hx);rw[sortRuns'_eq];refine wpS_bind (wpS_get ?_);dsimp only;have lz:(arrOf st).toList.length=(arrOf st).size:=Array.length_toList;refine wpS_bind (wpS_mono (wpS_forRange
  (I:=fun x c st'=>∃ segs rest,c=(none,segs.flatten.length)/\Pn κ P lt (arrOf st).toList st' segs rest/\x<=segs.flatten.length)
  (Q:=fun c st'=>∃ segs,c=(none,segs.flatten.length)/\Pn κ P lt (arrOf st).toList st' segs []) ?step ?fin ⟨[],_,rfl,h0,Nat.le_refl _⟩) ?post)
 case fin =>
  rintro c st' ⟨segs,rest,rfl,I,hx⟩;have r:=I.room;obtain rfl:rest=[]:=List.eq_nil_of_length_eq_zero (by lia)
  exact⟨segs,rfl,I⟩
 case post =>
  rintro c st' ⟨segs,rfl,I⟩;have r:=I.room;rw[List.length_nil] at r;have fl:=bJt segs fun sg hsg=>(I.sd sg hsg).2;dsimp only;refine wpS_bind (wpS_mono (wpS_forRange (I:=fun x c st'=>∃ segs,c=(none,())/\Pn κ P lt (arrOf st).toList st' segs []/\(segs.length<=1\/segs.length + x<=(arrOf st).size))
   (Q:=fun c st'=>∃ segs,c=(none,())/\Pn κ P lt (arrOf st).toList st' segs []/\segs.length<=1) ?_ ?_ ⟨segs,rfl,I,by lia⟩) ?_)
  ·rintro x c st' _ hx ⟨segs,rfl,I,hc⟩;refine wpS_bind (wpS_get ?_);have hps:=I.psize
   by_cases c1:(pendingOf st').size<=1
   ·rw[if_pos c1];exact wpS_pure ⟨segs,rfl,I,by lia⟩
   ·rw[if_neg c1];have hi:∀ b:Bool,(if b=true then (pendingOf st').size - 2 - 1 else (pendingOf st').size - 2) + 1 < segs.length:=fun b=>by split <;> lia
    refine wpS_bind (dZt o PA I (hi _) fun st2 segs2 I2 l2 _=>?_);exact wpS_pure ⟨segs2,rfl,I2,by lia⟩
  ·rintro c st' ⟨segs,rfl,I,hc⟩;exact⟨segs,rfl,I,by lia⟩
  ·rintro c st' ⟨segs,rfl,I,hc⟩;refine wpS_pure (h st' I.perm I.fl ?_);rw[I.arr,List.append_nil]
   match segs,hc,I with
   | [],_,_=>exact List.Pairwise.nil
   | [sg],_,I=>rw[List.flatten_singleton];exact(I.sd sg (.head _)).1
 case step =>
  rintro x c st' _ hx ⟨segs,rest,rfl,I,hxs⟩;have r:=I.room;have sz:=I.size;dsimp only
  by_cases c1:segs.flatten.length >= (arrOf st).size
  ·rw[if_pos c1];obtain rfl:rest=[]:=List.eq_nil_of_length_eq_zero (by lia)
   exact wpS_pure ⟨segs,rfl,I⟩
  rw[if_neg c1];refine wpS_bind (eJ0 o I.kind (pA I) (lo:=segs.flatten.length) (by lia) (by lia) fun n xs n1 n2 g hu=>?_)
  dsimp only
  by_cases c2:n < minRun' (arrOf st).size (arrOf st).size 0
  rw[if_pos c2];refine wpS_bind (wpS_lift (wpAny_rule ⟨rfl,?_⟩));refine wpS_bind (eJ1 o (st:=setArr st' xs) I.kind (fun x hx=>pA I x ((Array.perm_iff_toList_perm.mp g.1).mem_iff.mp hx)) (by have:=g.size;show _<=xs.size;lia) (by lia) hu fun ys g2 hu2=>?_)
  rw[if_neg (by simp)]
  obtain⟨sg,rest',ls,hs,hne,I2⟩:=I.next (by lia) (by lia) ⟨g2.1.trans g.1,fun i hi=>(g2.2 i hi).trans (g.2 i hi)⟩ hu2
  change Pn κ P lt _ (setArr (setArr st' xs) ys) _ _ at I2
  rotate_left
  rw[if_neg c2];obtain⟨sg,rest',ls,hs,hne,I2⟩:=I.next n1 (by lia) g hu
  all_goals
   have lp:=List.length_pos_iff.mpr hne;refine wpS_bind (wpS_get ?_)
   split
   next s1 n1' _ hb =>
    refine wpS_bind (wpS_mono (wpS_forRange (I:=fun _ c st''=>∃ segs2,c=(none,())/\Pn κ P lt (arrOf st).toList st'' segs2 (sg++rest')/\segs2.flatten.length=segs.flatten.length)
     (Q:=fun c st''=>∃ segs2,c=(none,())/\Pn κ P lt (arrOf st).toList st'' segs2 (sg++rest')/\segs2.flatten.length=segs.flatten.length) ?_ (fun _ _ hh=>hh) ⟨segs,rfl,I2,rfl⟩) ?_)
    ·rintro y c st2 _ hy ⟨segs2,rfl,I3,l3⟩;refine wpS_bind (wpS_get ?_);have hps:=I3.psize
     split
     next older he =>
      have hgt:(pendingOf st2).size > 1:=by
       by_cases z:(pendingOf st2).size > 1
       ·exact z
       ·rw[if_neg z] at he;cases he
      split
      ·exact wpS_pure ⟨segs2,rfl,I3,l3⟩
      ·refine wpS_bind (dZt o PA I3 (by lia) fun st4 segs4 I4 _ l4=>?_)
       exact wpS_pure ⟨segs4,rfl,I4,l4.trans l3⟩
     next=>exact wpS_pure ⟨segs2,rfl,I3,l3⟩
    ·rintro c st2 ⟨segs2,rfl,I3,l3⟩;dsimp only;refine wpS_bind (wpS_modify (wpS_bind (wpS_modify (wpS_pure ⟨segs2++[sg],rest',?_,(I3.repow _ _).push hs hne l3 ls,?_⟩))))
     ·rw[List.flatten_append,List.length_append,List.flatten_singleton,ls,l3]
     ·rw[List.flatten_append,List.length_append,List.flatten_singleton,l3];lia
   next =>
    refine wpS_bind (wpS_modify (wpS_pure ⟨segs++[sg],rest',?_,I2.push hs hne rfl ls,?_⟩))
    ·rw[List.flatten_append,List.length_append,List.flatten_singleton,ls]
    ·rw[List.flatten_append,List.length_append,List.flatten_singleton];lia
end
theorem aZs {α:Type}:∀ {l:List α} {x y:α},(x,y)∈l.zip l->x=y/\x∈l
 | a::l,x,y,h=>by
  rw[List.zip_cons_cons] at h;rcases List.mem_cons.mp h with e | h
  ·cases e;exact⟨rfl,.head _⟩
  ·exact⟨(aZs h).1,.tail _ (aZs h).2⟩
section
variable {prog:Program} {w:World} {A:Around} {E:Value->Shared->Prop} {s:Shared}
theorem dQi {α:Type} {R:α->α->Prop}:∀ l:List α,l.length < 2->l.Pairwise R
 | [],_=>.nil
 | [x],_=>List.pairwise_singleton _ _
theorem sort_any {a:Addr} {vs:List Value} {n:Nat} {P:PySem.Fin->Shared->Prop} (lt:Value->Value->Bool) (hz:vs.length<=sizeLine) (ho:s.heap.get? a=some (seqObj "list" vs.toArray n))
  (H:∀ h2:Heap,(∀ b o,b≠a->s.heap.get? b=some o->h2.get? b=some o)->2<=vs.length->∀ (Q:SortKind->Shared->Prop),(∀ κ,Orc prog w A { s with heap:=h2 } κ (fun x=>x.1∈vs) (fun x y=>lt x.1 y.1)->Q κ { s with heap:=h2 })->wpAny (model prog w) A (keyKind' vs.toArray) Q E { s with heap:=h2 })
  (h:∀ xs:Array Keyed,xs.Perm (pairsOf vs)->xs.toList.Pairwise (fun x y=>lt y.1 x.1=false)->P (.done (.ret .none)) { s with heap:=sortedHeap s.heap a vs (xs.map (·.2)) }) :
  wpAny (model prog w) A (Builtin.«list.sort» ⟨[.ref a],[]⟩) P E s:=by
 rw[list_sort_plain];have ha:a < s.heap.objs.size:=Heap.lt_size ho;refine wpAny_bind (listItems_at ho rfl ?_);refine wpAny_bind (listUpdate_at ho rfl ?_ (by rw[List.size_toArray];exact hz) (Nat.zero_le _))
 obtain⟨e1,ho1⟩:∃ e1,(s.heap.update a (Obj.mapSeq fun _=>#[])).get? a=some (seqObj "list" #[] e1):=⟨_,get?_update_seq ho (fun _=>#[])⟩;refine wpAny_bind (seqEpoch_at ho1 rfl ?_);refine wpAny_bind (wpAny_newTuple ?_ (by show vs.length<=_;exact hz))
 refine wpAny_bind (wpAny_newList ?_ (Nat.zero_le _));refine wpAny_holding ?_;have sb:=Heap.SameBut.update s.heap a (Obj.mapSeq fun _=>(#[]:Array Value));have ho6:(((s.heap.update a (Obj.mapSeq fun _=>#[])).push (seqObj "tuple" vs.toArray 0)).push (seqObj "list" #[] 0)).get? a=some (seqObj "list" #[] e1):=Heap.get?_push_of_some _ (Heap.get?_push_of_some _ ho1);have kp:∀ b o,b≠a->s.heap.get? b=some o->(((s.heap.update a (Obj.mapSeq fun _=>#[])).push (seqObj "tuple" vs.toArray 0)).push (seqObj "list" #[] 0)).get? b=some o:=fun b o hb e=>Heap.get?_push_of_some _ (Heap.get?_push_of_some _ ((sb.2 b hb).trans e));show wpAny (model prog w) A _ P E { s with heap:=((s.heap.update a (Obj.mapSeq fun _=>#[])).push (seqObj "tuple" vs.toArray 0)).push (seqObj "list" #[] 0) }
 dsimp only;have pz:(pairsOf vs).size=vs.length:=pairsOf_size vs
 by_cases h2:vs.toArray.size < 2
 ·rw[if_pos h2,if_pos h2];refine wpAny_bind (wpAny_pure ?_);rw[StateT.run_pure];refine wpAny_bind (wpAny_pure ?_);dsimp only;refine wpAny_bind (seqEpoch_at ho6 rfl ?_);refine wpAny_bind (listUpdate_at ho6 rfl ?_ (Nat.zero_le _) (by rw[Array.size_map];show(pairsOf vs).size<=_;rw[pz];exact Nat.le_succ_of_le hz))
  simp only[bne_self_eq_false,Bool.false_eq_true,if_false];refine wpAny_pure (h (pairsOf vs) (Array.Perm.refl _) ?_)
  have:(pairsOf vs).toList.length < 2:=by rw[Array.length_toList,pz];simpa using h2
  exact dQi _ this
 ·rw[if_neg h2,if_neg h2];refine wpAny_bind (H _ kp (by simpa using h2) _ fun κ o=>?_)
  refine wpAny_bind (wpAny_mono (dJo o (st:=SortSt.mk' κ (vs.toArray.zip vs.toArray) #[] 7 none) (Q:=fun _ st'=>(arrOf st').toList.Perm (pairsOf vs).toList/\failedOf st'=none/\Sd (fun x y:Keyed=>lt x.1 y.1) (arrOf st').toList)
   (fun x hx=>(aZs (x:=x.1) (y:=x.2) (by rw[<- pairsOf_toList];exact hx)).2) rfl rfl rfl fun st' a1 a2 a3=>⟨a1,a2,a3⟩) ?_ fun _ _ e=>e)
  rintro⟨⟨⟩,st'⟩ s' ⟨rfl,hp,hf,hs⟩;dsimp only;refine wpAny_bind (seqEpoch_at ho6 rfl ?_);refine wpAny_bind (listUpdate_at ho6 rfl ?_ (Nat.zero_le _) (by rw[Array.size_map,<- Array.length_toList,hp.length_eq,Array.length_toList,pz];exact Nat.le_succ_of_le hz))
  rw[hf];simp only[bne_self_eq_false,Bool.false_eq_true,if_false];exact wpAny_pure (h _ (Array.perm_iff_toList_perm.mpr hp) hs)
theorem treeK {κ:KeyKind} (hO:κ.OneLt) {a:Addr} {vs:List Value} {n:Nat} {P:PySem.Fin->Shared->Prop} (ho:s.heap.get? a=some (seqObj "list" vs.toArray n))
  (h0:KeysOf κ (pairsOf vs)) (hkk:∀ v₁ v₂ rest,vs=v₁::v₂::rest->keyKind' (v₁::v₂::rest).toArray=pure oneType') (hz:vs.length<=sizeLine)
  (h:∀ st':SortSt,(arrOf st').Perm (pairsOf vs)->SortedToK κ (arrOf st') (pairsOf vs).size->P (.done (.ret .none)) { s with heap:=sortedHeap s.heap a vs ((arrOf st').map (·.2)) }) :
  wpAny (model prog w) A (Builtin.«list.sort» ⟨[.ref a],[]⟩) P E s:=by
 have key:∀ v∈vs,∃ x,κ.keyOf v=some x:=fun v hv=>h0 (v,v) (by
  rw[pairsOf_toList];obtain⟨i,hi,e⟩:=List.getElem_of_mem hv;exact List.mem_iff_getElem.mpr ⟨i,by simpa using hi,by simp[e]⟩)
 refine sort_any (fun u v=>κ.blt ((κ.keyOf u).getD κ.dflt) ((κ.keyOf v).getD κ.dflt)) hz ho (fun h2 kp h2l Q hq=>?_) fun xs hp hs=>h (SortSt.mk' oneType' xs #[] 7 none) hp fun i j hij hj=>?_
 ·obtain⟨v₁,v₂,rest,rfl⟩:∃ v₁ v₂ rest,vs=v₁::v₂::rest:=by
   match vs,h2l with
   | v₁::v₂::rest,_=>exact⟨v₁,v₂,rest,rfl⟩
  rw[hkk _ _ _ rfl];refine wpAny_pure (hq _ ⟨fun x y Q hx hy q=>?_,fun x y _ _ e=>KeyOrd.klt_asymm e,fun x y z _ _ _ e1 e2=>KeyOrd.kle_trans e1 e2⟩);obtain⟨p,hp⟩:=key _ hx;obtain⟨p',hp'⟩:=key _ hy;rw[keyLt'_oneType];refine hO _ _ _ _ _ _ _ p p' hp hp' ?_;rw[hp,hp'] at q;exact q
 ·show κ.kle (KK κ xs i) (KK κ xs j);rcases Nat.eq_or_lt_of_le hij with rfl | hlt
  ·exact KeyOrd.kle_refl _
  ·have sz:=hp.size_eq;have ei:∀ k (hk:k < xs.size),KK κ xs k=(κ.keyOf (xs.toList[k]'(by simpa using hk)).1).getD κ.dflt:=fun k hk=>by
    unfold KK;rw[<- Array.getElem?_toList,List.getElem?_eq_getElem (by simpa using hk)]
   rw[ei i (by lia),ei j (by lia)]
   exact List.pairwise_iff_getElem.mp hs i j (by simp;lia) (by simp;lia) hlt
def iv:Value->Int
 | .int n _=>n
 | _=>0
theorem treeI {a:Addr} {vs:List Value} {ns:List Int} {n:Nat} {P:PySem.Fin->Shared->Prop} (ho:s.heap.get? a=some (seqObj "list" vs.toArray n)) (hI:IntsAre vs ns) (hz:vs.length<=sizeLine)
  (h:∀ (out:Array Value) (ns':List Int),IntsAre out.toList ns'->ns'.Perm ns->ns'.Pairwise (·<=·)->P (.done (.ret .none)) { s with heap:=sortedHeap s.heap a vs out }) :
  wpAny (model prog w) A (Builtin.«list.sort» ⟨[.ref a],[]⟩) P E s:=by
 have key:∀ v∈vs,∃ x t,v=.int x t:=fun v hv=>hI.intKeys (v,v) (by
  rw[pairsOf_toList];obtain⟨i,hi,e⟩:=List.getElem_of_mem hv;exact List.mem_iff_getElem.mpr ⟨i,by simpa using hi,by simp[e]⟩)
 refine sort_any (fun u v=>decide (iv u < iv v)) hz ho (fun h2 kp h2l Q hq=>?_) fun xs hp hs=>?_
 ·obtain⟨v₁,v₂,rest,rfl⟩:∃ v₁ v₂ rest,vs=v₁::v₂::rest:=by
   match vs,h2l with
   | v₁::v₂::rest,_=>exact⟨v₁,v₂,rest,rfl⟩
  rw[keyKind_ints hI];refine wpAny_pure (hq _ ⟨fun x y Q hx hy q=>?_,fun x y _ _ e=>by simp at e ⊢;lia,fun x y z _ _ _ e1 e2=>by simp at e1 e2 ⊢;lia⟩)
  obtain⟨p,t,hp⟩:=key _ hx;obtain⟨p',t',hp'⟩:=key _ hy;rw[keyLt'_oneType];rw[hp,hp'] at q ⊢;exact oneLt_int q
 ·have sz:=hp.size_eq;obtain⟨ns',h1,h2,h3⟩:=sorted_out hI hp (fun i j hij hj=>by
   rcases Nat.eq_or_lt_of_le hij with rfl | hlt
   ·exact Int.le_refl _
   ·have ei:∀ k (hk:k < xs.size),K xs k=iv (xs.toList[k]'(by simpa using hk)).1:=fun k hk=>by
     have hm:xs.toList[k]'(by simpa using hk)∈(pairsOf vs).toList:=(Array.perm_iff_toList_perm.mp hp).mem_iff.mp (List.getElem_mem _)
     obtain⟨p,t,e⟩:=hI.intKeys _ hm;unfold K;rw[<- Array.getElem?_toList,List.getElem?_eq_getElem (by simpa using hk)]
     generalize xs.toList[k]'(by simpa using hk)=z at e
     obtain⟨z1,z2⟩:=z;cases e
     rfl
    rw[ei i (by lia),ei j (by lia)]
    have:=List.pairwise_iff_getElem.mp hs i j (by simp;lia) (by simp;lia) hlt
    have:=of_decide_eq_false this
    lia)
  exact h _ ns' h1 h2 h3
end
end SF
set_option maxHeartbeats 1000000
namespace HT
open PySem
theorem ltS_tot {a b:Str} (h:ltS a b=false) (hne:a≠b):ltS b a=true:=by
 unfold ltS at *
 refine decide_eq_true ?_;have h1:=of_decide_eq_false h;refine Classical.byContradiction fun h2=>hne ?_;have e:a.cps.toList=b.cps.toList:=List.le_antisymm (List.not_lt.mp h2) (List.not_lt.mp h1);cases a;cases b
 congr 1
 exact Array.toList_inj.mp e
theorem ltS_tr {a b c:Str} (h:ltS a b=true) (h':ltS b c=true):ltS a c=true:=decide_eq_true (List.lt_trans (of_decide_eq_true h) (of_decide_eq_true h'))
theorem ltS_ir (a:Str):ltS a a=false:=decide_eq_false (List.lt_irrefl _)
theorem ltS_as {a b:Str} (h:ltS a b=true):ltS b a=false:=decide_eq_false (List.lt_asymm (of_decide_eq_true h))
theorem lexS_tot:∀ {a b:List Str},lexS a b=false->a≠b->lexS b a=true
 | [],[],_,h=>absurd rfl h
 | [],_::_,h,_=>by cases h
 | _::_,[],_,_=>rfl
 | x::xs,y::ys,h,hne=>by
  rw[lexS_cons] at h ⊢
  by_cases e:x=y
  ·rw[if_pos e] at h;rw[if_pos e.symm];exact lexS_tot h fun z=>hne (by rw[e,z])
  ·rw[if_neg e] at h;rw[if_neg fun z=>e z.symm];exact ltS_tot h e
theorem lexS_as:∀ {a b:List Str},lexS a b=true->lexS b a=false
 | [],[],h=>by cases h
 | [],_::_,_=>rfl
 | _::_,[],h=>by cases h
 | x::xs,y::ys,h=>by
  rw[lexS_cons] at h ⊢
  by_cases e:x=y
  ·rw[if_pos e] at h;rw[if_pos e.symm];exact lexS_as h
  ·rw[if_neg e] at h;rw[if_neg (fun z=>e z.symm)];exact ltS_as h
theorem lexS_tr:∀ {a b c:List Str},lexS a b=true->lexS b c=true->lexS a c=true
 | [],[],_,h,_=>by cases h
 | [],_::_,[],_,h=>by cases h
 | [],_::_,_::_,_,_=>rfl
 | _::_,[],_,h,_=>by cases h
 | _::_,_::_,[],_,h=>by cases h
 | x::xs,y::ys,z::zs,h,h'=>by
  rw[lexS_cons] at h h' ⊢
  by_cases e:x=y
  ·subst e;rw[if_pos rfl] at h
   by_cases e':x=z
   ·rw[if_pos e'] at h' ⊢;exact lexS_tr h h'
   ·rw[if_neg e'] at h' ⊢;exact h'
  ·rw[if_neg e] at h
   by_cases e':y=z
   ·subst e';rw[if_neg e];exact h
   ·rw[if_neg e'] at h';have hxz:=ltS_tr h h'
    have:x≠z:=by rintro rfl;rw[ltS_ir] at hxz;cases hxz
    rw[if_neg this];exact hxz
end HT
namespace KS
open PySem PySem.W PyProof.Rows
theorem paired_idx {α β:Type} {F:α->β->Prop} {l:List α} {m:List β} (p:Paired F l m) (a:α) (b:β):∀ (idx:List Nat),(∀ i∈idx,i < l.length)->Paired F (idx.map fun i=>l.getD i a) (idx.map fun i=>m.getD i b)
 | [],_=>.nil
 | i::idx,h=>by
  refine .cons ?_ (paired_idx p a b idx fun j hj=>h j (List.mem_cons_of_mem _ hj));have hi:=h i List.mem_cons_self;obtain⟨y,hy,hf⟩:=L2.Paired.get' p (List.getElem?_eq_getElem hi);show F (l.getD i a) (m.getD i b);rw[List.getD_eq_getElem?_getD,List.getD_eq_getElem?_getD,hy,List.getElem?_eq_getElem hi];exact hf
theorem TS.keep {h h':Heap} {v:Value} {d:List Str} (t:TS h v d) (k:∀ b o,h.get? b=some o->o.cls=.type "tuple"->h'.get? b=some o):TS h' v d:=by
 obtain⟨b,items,e,⟨o,ho,hc,r⟩,p⟩:=t;exact⟨b,items,e,⟨o,k b o ho hc,hc,r⟩,p⟩
section
variable {prog:Program} {w:World} {A:Around} {E:Value->Shared->Prop} {s:Shared}
theorem TS.uniq {h:Heap} {v:Value} {d d':List Str} (t:TS h v d) (t':TS h v d'):d=d':=by
 obtain⟨b,items,rfl,⟨o,ho,hc,n,hd⟩,p⟩:=t;obtain⟨b',items',e,⟨o',ho',hc',n',hd'⟩,p'⟩:=t';cases e;rw[ho] at ho';cases ho';rw[hd] at hd';cases hd';clear hd ho hc hc';have go:∀ {l:List Value} {d d':List Str},HT.SAre l d->HT.SAre l d'->d=d':=by
  intro l d d' p
  induction p generalizing d' with
  | nil=>intro q;cases q;rfl
  | cons z _ ih =>
   intro q;cases q with
   | cons z' q' =>
    obtain⟨t,e⟩:=z;obtain⟨t',e'⟩:=z';rw[e] at e';cases e';rw[ih q']
 exact go p p'
open Classical in
noncomputable def dec (h:Heap) (v:Value):List Str:=if e:∃ d,TS h v d then e.choose else []
theorem cXd {h:Heap} {v:Value} {d:List Str} (t:TS h v d):dec h v=d:=by
 unfold dec;have e:∃ d,TS h v d:=⟨d,t⟩;rw[dif_pos e];exact e.choose_spec.uniq t
theorem dJp {a b c:List Str} (h1:HT.lexS b a=false) (h2:HT.lexS c b=false):HT.lexS c a=false:=by
 cases e:HT.lexS c a with
 | false=>rfl
 | true =>
  by_cases z:b=a
  ·subst z;rw[h2] at e;cases e
  ·have:=HT.lexS_tr e (HT.lexS_tot h1 z)
   rw[h2] at this;cases this
theorem dQj {α β:Type} {f:α->β} {l:List β} {k:List β} (h:l.Perm k):∀ {m:List α},k=m.map f->∃ m':List α,m'.Perm m/\l=m'.map f:=by
 induction h with
 | nil=>exact fun e=>⟨_,List.Perm.refl _,e⟩
 | cons x _ ih =>
  intro m e;cases m with
  | nil=>cases e
  | cons a m =>
   rw[List.map_cons] at e;injection e with e1 e2
   obtain⟨m',p,q⟩:=ih e2;exact⟨a::m',p.cons a,by rw[List.map_cons,q,e1]⟩
 | swap x y l =>
  intro m e;cases m with
  | nil=>cases e
  | cons a m =>
   cases m with
   | nil=>simp at e
   | cons b m =>
    rw[List.map_cons,List.map_cons] at e;injection e with e1 e2
    injection e2 with e2 e3
    exact⟨b::a::m,.swap _ _ _,by rw[List.map_cons,List.map_cons,e1,e2,e3]⟩
 | trans p q ih1 ih2 =>
  intro m e;obtain⟨m1,q1,e1⟩:=ih2 e;obtain⟨m2,q2,e2⟩:=ih1 e1;exact⟨m2,q2.trans q1,e2⟩
theorem cXe {α:Type} (l:List α) (d:α):((List.range l.length).map fun i=>l.getD i d)=l:=by
 apply List.ext_getElem
 ·simp
 ·intro i h1 h2;simp only[List.getElem_map,List.getElem_range,List.getD_eq_getElem?_getD];rw[List.getElem?_eq_getElem h2]
  rfl
theorem sort_tupsL {a:Addr} {vs:List Value} {ds:List (List Str)} {n:Nat} {P:PySem.Fin->Shared->Prop} (hu:A.units < cLine) (ho:s.heap.get? a=some (seqObj "list" vs.toArray n)) (hp:Paired (TS s.heap) vs ds) (hz:vs.length<=sizeLine)
  (h:∀ (idx:List Nat) (h':Heap) (c:Nat),idx.Perm (List.range vs.length)->(idx.map fun i=>ds.getD i []).Pairwise (fun a b=>HT.lexS b a=false)->(idx.map fun i=>ds.getD i []).Perm ds->h'.get? a=some (seqObj "list" (idx.map fun i=>vs.getD i Value.none).toArray c) ->
   (∀ b o,b≠a->s.heap.get? b=some o->h'.get? b=some o)->P (.done (.ret .none)) { s with heap:=h' }) :
  wpAny (model prog w) A (Builtin.«list.sort» ⟨[.ref a],[]⟩) P E s:=by
 have hl:vs.length=ds.length:=Paired.length hp;have at_:∀ i,i < vs.length->TS s.heap (vs.getD i Value.none) (ds.getD i []):=fun k hk=>by
  obtain⟨d,hd,t⟩:=L2.Paired.get' hp (List.getElem?_eq_getElem hk);rw[List.getD_eq_getElem?_getD,List.getD_eq_getElem?_getD,hd,List.getElem?_eq_getElem hk];exact t
 have mem_:∀ v∈vs,TS s.heap v (dec s.heap v):=fun v hv=>by
  obtain⟨i,hi,e⟩:=List.getElem_of_mem hv
  have:=at_ i hi
  rw[List.getD_eq_getElem?_getD,List.getElem?_eq_getElem hi] at this;have e2:TS s.heap v (ds.getD i []):=by rw[<- e];exact this
  rw[cXd e2];exact e2
 refine SF.sort_any (fun u v=>HT.lexS (dec s.heap u) (dec s.heap v)) hz ho (fun h2 kp h2l Q hq=>?_) fun xs hx hs=>?_
 ·have kt:∀ b o,s.heap.get? b=some o->o.cls=.type "tuple"->h2.get? b=some o:=fun b o e c=>kp b o (by
   rintro rfl;rw[ho] at e;have e':=Option.some.inj e;rw[<- e'] at c;have c':Value.type "list" = Value.type "tuple":=c;injection c' with c''
   exact absurd c'' (by decide)) e
  have hp2:Paired (TS h2) vs ds:=L2.Paired.imp (fun v d t=>t.keep kt) hp;refine dJm (s:={ s with heap:=h2 }) hp2 (by rintro rfl;simp at h2l) fun κ hκ=>hq κ ⟨fun x y Q hx hy q=>?_,fun x y _ _ e=>HT.lexS_as e,fun x y z _ _ _ e1 e2=>dJp e1 e2⟩
  have t1:=(mem_ _ hx).keep kt;have t2:=(mem_ _ hy).keep kt;rcases hκ with rfl | rfl | rfl
  ·exact cX9 (s:={ s with heap:=h2 }) t1 t2 q
  ·exact cQx (s:={ s with heap:=h2 }) hu t1 t2 q
  ·exact eXs (s:={ s with heap:=h2 }) hu t1 t2 q
 ·have pl:xs.toList.Perm (pairsOf vs).toList:=Array.perm_iff_toList_perm.mp hx;obtain⟨idx,p1,e1⟩:=dQj (f:=fun i=>(vs.getD i Value.none,vs.getD i Value.none)) (m:=List.range vs.length) pl (by
   rw[pairsOf_toList]
   conv=>lhs;rw[<- cXe vs Value.none]
   rw[List.zip_map'])
  have hin:∀ i∈idx,i < vs.length:=fun i hi=>List.mem_range.mp (p1.mem_iff.mp hi);have eo:xs.map (·.2)=(idx.map fun i=>vs.getD i Value.none).toArray:=by
   apply Array.toList_inj.mp;rw[Array.toList_map,e1,List.map_map]
   rfl
  rw[eo];rw[e1,List.pairwise_map] at hs;have s2:=Heap.SameBut.update (((s.heap.update a (Obj.mapSeq fun _=>(#[]:Array Value))).push (seqObj "tuple" vs.toArray 0)).push (seqObj "list" #[] 0)) a (Obj.mapSeq fun _=>(idx.map fun i=>vs.getD i Value.none).toArray);obtain⟨e2,ho1⟩:∃ e1,(s.heap.update a (Obj.mapSeq fun _=>(#[]:Array Value))).get? a=some (seqObj "list" #[] e1):=⟨_,get?_update_seq ho fun _=>#[]⟩;have sb:=Heap.SameBut.update s.heap a (Obj.mapSeq fun _=>(#[]:Array Value));refine h idx _ _ p1 ?_ ?_ (get?_update_seq (Heap.get?_push_of_some _ (Heap.get?_push_of_some _ ho1)) fun _=>_) fun b o hb e=>(s2.2 b hb).trans (Heap.get?_push_of_some _ (Heap.get?_push_of_some _ ((sb.2 b hb).trans e)))
  ·rw[List.pairwise_map];refine hs.imp_of_mem fun {i j} hi hj hij=>?_;have a1:=cXd (at_ i (hin i hi));have a2:=cXd (at_ j (hin j hj));rw[<- a1,<- a2];exact hij
  ·have:=p1.map fun i=>ds.getD i []
   rw[hl,cXe] at this;exact this
theorem cXf {l:List (List Str)} (nd:l.Nodup) (h:l.Pairwise fun a b=>HT.lexS b a=false):l.Pairwise fun a b=>HT.lexS a b=true:=List.Pairwise.imp (fun⟨h1,h2⟩=>HT.lexS_tot h1 fun z=>h2 z.symm) (List.pairwise_and_iff.mpr ⟨h,nd⟩)
theorem sort_tups {a:Addr} {vs:List Value} {ds:List (List Str)} {n:Nat} {P:PySem.Fin->Shared->Prop} (hu:A.units < cLine) (ho:s.heap.get? a=some (seqObj "list" vs.toArray n)) (hp:Paired (TS s.heap) vs ds) (nd:ds.Nodup) (hz:vs.length<=sizeLine)
  (h:∀ (idx:List Nat) (h':Heap) (c:Nat),idx.Perm (List.range vs.length)->(idx.map fun i=>ds.getD i []).Pairwise (fun a b=>HT.lexS a b=true)->(idx.map fun i=>ds.getD i []).Perm ds->h'.get? a=some (seqObj "list" (idx.map fun i=>vs.getD i Value.none).toArray c) ->
   (∀ b o,b≠a->s.heap.get? b=some o->h'.get? b=some o)->P (.done (.ret .none)) { s with heap:=h' }) :
  wpAny (model prog w) A (Builtin.«list.sort» ⟨[.ref a],[]⟩) P E s:=sort_tupsL hu ho hp hz fun idx h' c i1 i2 i3 g k=>h idx h' c i1 (cXf (i3.nodup_iff.mpr nd) i2) i3 g k
end
end KS
namespace ST
open PySem PySem.SetTable PySem.Spec PyProof.Rows
def restr {prog:Program} {w:World} {κ:Type} (D:SetKd prog w κ) (W:κ->Value->Prop):SetKd prog w κ where
 is:=fun h k v=>D.is h k v/\W k v
 I:=fun h a es ep t=>D.I h a es ep t/\∀ e∈es.toList,∃ k,D.is h k e.2/\W k e.2
 inj:=fun a b=>D.inj a.1 b.1
 obj:=fun x=>D.obj x.1
 fits:=fun x=>D.fits x.1
 few:=fun x p nd hp=>D.few x.1 (L2.Paired.mapP p fun _ _ q=>q.1) nd hp
 fresh:=fun h=>⟨D.fresh h,fun e he=>by simp at he⟩
 keepIs:=fun x kp=>⟨D.keepIs x.1 kp,x.2⟩
 keepI:=fun x e kp=>⟨D.keepI x.1 e kp,fun e he=>let ⟨k,h1,h2⟩:=x.2 e he;⟨k,D.keepIs h1 kp,h2⟩⟩
 add:=fun {A E s a es ep t k x Q} hu hI hx hn h=>by
  refine D.add hu hI.1 hx.1 hn fun h' tk es' ep' t' added q1 q2 q3 q4 q5=>?_;have kp:=aX9 (D.obj hI.1) q2;have up:∀ e∈es.toList,∃ k,D.is h' k e.2/\W k e.2:=fun e he=>let ⟨k,h1,h2⟩:=hI.2 e he;⟨k,D.keepIs h1 kp,h2⟩
  rcases q5 with⟨r1,r2,e,he,r3⟩ | ⟨r1,⟨hh,r2⟩,r3⟩
  ·obtain⟨k',z1,z2⟩:=hI.2 e he
   have:=D.inj r3 z1
   subst this;exact h h' tk es' ep' t' added ⟨q1,by rw[r2];exact up⟩ q2 q3 q4 (.inl ⟨r1,r2,e,he,r3,z2⟩)
  ·refine h h' tk es' ep' t' added ⟨q1,fun e he=>?_⟩ q2 q3 q4 (.inr ⟨r1,⟨hh,r2⟩,fun⟨e,he,z⟩=>r3 ⟨e,he,z.1⟩⟩);rcases List.mem_cons.mp (r2.mem_iff.mp he) with z | z
   ·subst z;exact⟨k,D.keepIs hx.1 kp,hx.2⟩
   ·exact up e z
end ST
namespace L2
open PySem PySem.Spec PyProof.Rows
def stO (p:Addr) (es:Array (Int × Value)) (ep:Nat) (t:SetTable):HO:=.ext fun h=>h.get? p=some (ST.setOb es ep t)
abbrev PV (K:Fg) (H:Hp):Value->V × List Str->Prop:=fun v p=>RelV p.1 v/\dT K dS H p.1 p.2
def dSt (w:World) (K:Fg):Dn (List (List Str)):=fun H v ms=>∃ p es ep t ps,v=.ref p/\H p=some (stO p es ep t)/\t.fits es.size=true/\t.led=ST.ledOf w/\(t.plain=true->es.size<=1)/\Paired (PV K H) (es.toList.map (·.2)) ps/\ms=ps.map (·.2)
theorem Inv.drawn {X:Cx} {pins:List (Addr × Obj)} {σ:St} {H:Hp} {s:Shared} (I:Inv X pins σ H s) (d:_):Inv X pins σ H { s with drawn:=d } :=
 ⟨I.ok,I.os,I.bare,I.base,I.loc,I.cell,I.free,I.freeC,I.pin,I.hok,I.len⟩
section
variable {X:Cx}
theorem dJq {K:Fg} {H:Hp} {h:Heap} {P:Program} {w:World}:∀ {es:List (Int × Value)} {ms:List (List Str)},Paired (fun(e:Int × Value) k=>ST.TK P w h k e.2/\∃ x,RelV x e.2/\dT K dS H x k) es ms->∃ ps,Paired (PV K H) (es.map (·.2)) ps/\ms=ps.map (·.2)
 | _,_,.nil=>⟨[],.nil,rfl⟩
 | _,_,.cons ⟨_,x,r,d⟩ q=>by
  obtain⟨ps,h1,h2⟩:=dJq q;exact⟨(x,_)::ps,.cons ⟨r,d⟩ h1,by rw[h2];rfl⟩
theorem dZu {P:Program} {w:World} {pins:List (Addr × Obj)} {σ:St} {H:Hp} {s:Shared} (I:Inv X pins σ H s):∀ {xs:List V} {us:List Value} {ds:List (List Str)},Paired (dT X.K dS H) xs ds->Vals xs us->Paired (fun v k=>ST.TK P w s.heap k v/\∃ x,RelV x v/\dT X.K dS H x k) us ds
 | _,_,_,.nil,.nil=>.nil
 | _,_,_,.cons p q,.cons r t=>by
  refine .cons ⟨?_,_,r,p⟩ (dZu I q t);obtain⟨b,ys,rfl,hq,pp⟩:=p;cases r;obtain⟨its,ri,tp,_⟩:=I.tuple hq;exact dJc (K:=X.K) pp ri tp
def eJ2 (w:World) (K:Fg):List V->Hp->VK->Prop:=fun xs H Q=>∃ x ds,xs=[x]/\dL K (dT K dS) H x ds/\ds.length + 1<=300/\∀ p ms H',Same H H'->ms.Nodup->(∀ k,k∈ms↔k∈ds)->dSt w K H' (.ref p) ms->Q (.ref p) H'
theorem cQy {K:Fg} {w:World} (hu:X.A.units + 8 < cLine) (hK:X.K=K:=by rfl) (hw:X.w=w:=by rfl) (hc:X.calm=true:=by rfl):CallR X (.type "set") (eJ2 w K):=by
 subst hK hw;intro pins s σ H xs us Q I r h;obtain⟨x,ds,rfl,⟨a,ys,rfl,hq,p⟩,hn,q⟩:=h;obtain⟨u,rfl,rx⟩:=aXh r;cases rx;obtain⟨its,ri,pl,_⟩:=I.list hq;refine ST.call_setK (ST.restr (ST.tupKd X.prog X.w) fun k v=>∃ x,RelV x v/\dT X.K dS H x k) (I.ok.hd hc) hu pl.isList (dZu I p ri) (by rw[List.size_toArray,<- ri.length,p.length];exact hn) fun h' tk ms M _ hk=>?_
 obtain⟨es,ep,t,hI,hled,hp⟩:=M.ex;obtain⟨ps,h1,h2⟩:=dJq hp;have hfr:H s.heap.objs.size=none:=I.hok.fresh (Nat.le_refl _);have sm:Same H (upd H s.heap.objs.size (stO s.heap.objs.size es ep t)):=aQx hfr;refine⟨.ref s.heap.objs.size,_,I.laid (t':=tk) (o:=stO s.heap.objs.size es ep t) (fun b o e=>hk b o (Heap.lt_size e) e) (Nat.le_refl _) ?_,rfl,q _ _ _ sm M.nd M.mem ⟨_,es,ep,t,ps,rfl,aQ6,(ST.tupKd X.prog X.w).fits hI.1,hled,fun z=>?_,L2.Paired.imp (fun _ _ z=>⟨z.1,Mo.mo sm z.2⟩) h1,h2⟩⟩
 ·refine⟨(ST.tupKd X.prog X.w).obj hI.1,⟨_,(ST.tupKd X.prog X.w).obj hI.1⟩,fun g1 g2 g k=>k _ g⟩
 ·exact(ST.restr (ST.tupKd X.prog X.w) fun k v=>∃ x,RelV x v/\dT X.K dS H x k).few hI hp M.nd z
end
section
variable {X:Cx}
theorem eJ3 {K:Fg} {pins:List (Addr × Obj)} {σ:St} {H:Hp} {s:Shared} (I:Inv X pins σ H s) (hK:X.K=K) {h':Heap} (k:∀ b o,s.heap.get? b=some o->h'.get? b=some o):∀ {vs:List Value} {ps:List (V × List Str)},Paired (PV K H) vs ps->Paired (KS.TS h') vs (ps.map (·.2))
 | _,_,.nil=>.nil
 | _,_,.cons ⟨r,d⟩ q=>by
  refine .cons ?_ (eJ3 I hK k q);obtain⟨b,xs,e,hq,pp⟩:=d;rw[e] at r;cases r;rw[<- hK] at hq;obtain⟨its,ri,⟨o,ho,z⟩,_⟩:=I.tuple hq;exact⟨b,its.toArray,rfl,⟨o,k b o ho,z⟩,aJl pp ri⟩
theorem bJu:∀ (ps:List (V × List Str)) (i:Nat),(ps.map (·.2)).getD i []=(ps.getD i (V.non,[])).2
 | [],i=>by simp
 | p::ps,0=>by simp
 | p::ps,i + 1=>by simpa using bJu ps i
theorem bZ0 {K:Fg} {H:Hp}:∀ {vs:List Value} {zs:List (V × List Str)},Paired (PV K H) vs zs->Vals (zs.map (·.1)) vs/\Paired (dT K dS H) (zs.map (·.1)) (zs.map (·.2))
 | _,_,.nil=>⟨.nil,.nil⟩
 | _,_,.cons ⟨r,d⟩ q=>⟨.cons r (bZ0 q).1,.cons d (bZ0 q).2⟩
theorem cXg {H:Hp}:∀ {xs:List V} {us:List Value} {ds:List Str},Paired (dS H) xs ds->Vals xs us->StrsAre us ds
 | _,_,_,.nil,.nil=>.nil
 | _,_,_,.cons p q,.cons r t=>by
  cases p;obtain⟨k,rfl⟩:=r;exact .cons _ k (cXg q t)
theorem bXx {H:Hp}:∀ {us:List Value} {ds:List Str},StrsAre us ds->Vals (ds.map V.str) us/\Paired (dS H) (ds.map V.str) ds
 | _,_,.nil=>⟨.nil,.nil⟩
 | _,_,.cons y t r=>⟨.cons ⟨t,rfl⟩ (bXx (H:=H) r).1,.cons rfl (bXx r).2⟩
end
end L2
set_option maxHeartbeats 4000000
namespace L2
open PySem PySem.Spec PyProof.Rows
def Itel (K:Fg) (a:Addr):It:=⟨fun i H=>∃ xs x,SqL K H a xs/\xs[i]?=some x,fun i H x H'=>∃ p y,H p=none/\x=.ref p/\H'=upd H p (.tup [.int i,y])/\∀ xs,SqL K H a xs->xs[i]?=some y,fun i H=>∃ xs,SqL K H a xs/\xs.length<=i⟩
theorem dQk {P:Program} {w:World} {K:Fg} {elts:List Expr} {x1:Nat} {pos:Pos} (a it e:Addr) (hei:e≠it) (hae:a≠e) (hai:a≠it):Turn P w K (.Tuple elts x1 pos) (Itel K a) [e,it] e (fun i h=>(∃ old,IsEnum h e it i old)/\h.IsListIter it a i) where
 mem:=by simp
 obj:=fun i h st b hb=>by
  obtain⟨⟨old,he⟩,o,ho,hc,hd⟩:=st;rcases List.mem_cons.mp hb with rfl | hb
  ·exact⟨_,he,fun v z=>by cases z⟩
  ·have:=List.mem_singleton.mp hb
   subst this;exact⟨o,ho,fun v z=>by rw[hd] at z;cases z⟩
 keep:=fun i h h' st k=>by
  obtain⟨⟨old,he⟩,o,ho,r⟩:=st;exact⟨⟨old,k e (by simp) _ he⟩,o,k it (by simp) _ ho,r⟩
 item:=by
  intro X hP hw hK hc i pins s σ H E I hf st hg;subst hP hw hK;obtain⟨xs,x,hq,hx⟩:=hg;obtain⟨its,rv,p,hz⟩:=I.list hq;obtain⟨u,hu,ru⟩:=rv.get hx;obtain⟨⟨old,he⟩,st2⟩:=st;have hi:i < its.toArray.size:=by
   rcases Nat.lt_or_ge i its.toArray.size with z | z
   ·exact z
   ·rw[List.size_toArray] at z;rw[List.getElem?_eq_none z] at hu;cases hu
  have hh:X.A.in1.handled=none:=by have:=I.ok.hd hc;simp[this]
  have hT:s.heap.IsList a its.toArray:=p.isList;refine wpAny_pyNext_enum_itemD (Draws.list hh it a hai its.toArray) he ⟨st2,hT⟩ hi hei (by simp;exact⟨hei,fun z=>hae z.symm⟩) fun y h' tk hy ho hs' hT' hsz hk=>⟨_,rfl,?_⟩
  have hy':y=u:=by
   have:its[i]?=some y:=by simpa using hy
   rw[hu] at this;exact(Option.some.inj this).symm
  subst hy';refine wpAny_letOwnedTupleGo_enum ho fun h2 he2 hs2=>?_;have fe:=hf e (by simp)
  have fi:=hf it (by simp)
  have kk:∀ b o,b≠e->b≠it->s.heap.get? b=some o->h2.get? b=some o:=fun b o n1 n2 g=>(hs2.2 b n1).trans (hk b o n1 n2 g);have hel:e < s.heap.objs.size:=Heap.lt_size he;have hfresh:H s.heap.objs.size=none:=I.hok.fresh (Nat.le_refl _);have nT:∀ b o,s.heap.get? b=some o->b≠s.heap.objs.size:=fun b o g=>Nat.ne_of_lt (Heap.lt_size g);have nH:∀ b u,H b=some u->b≠e/\b≠it:=fun b u g=>⟨fun z=>(by rw[z,fe.1] at g;cases g),fun z=>(by rw[z,fi.1] at g;cases g)⟩
  have tupT:h2.get? s.heap.objs.size=some { cls:=.type "tuple",data:=.seq #[.int i tk,y] }:=(hs2.2 _ (Nat.ne_of_gt hel)).trans hT';have hok:HOk X.prog X.w (upd H s.heap.objs.size (.tup [.int i,x])) h2:=fun b ob g=>by
   by_cases hb:b=s.heap.objs.size
   ·subst hb;rw[aQ6] at g;cases g;refine⟨by rw[sizeLine_eq];show 2<=_;decide,[.int i tk,y],.cons ⟨tk,rfl⟩ (.cons ru .nil),_,tupT,rfl,0,rfl⟩
   ·rw[upd_ne hb] at g;refine(I.hok b ob g).stay (fun c w' hc' q=>?_) (fun c q=>?_) fun c ys q=>?_
    ·rcases hc' with rfl | hc'
     ·exact kk _ _ (nH _ _ g).1 (nH _ _ g).2 q
     ·exact kk _ _ (nH _ _ hc').1 (nH _ _ hc').2 q
    ·rw[upd_ne (aQc q hfresh)];exact q
    ·rw[upd_ne (aQc q hfresh)];exact q
  have un:Un (frs X.stack) [e,it] H (upd H s.heap.objs.size (.tup [.int i,x])) s.heap h2:=by
   have ab:∀ {b:Addr},b∉[e,it]->b≠e/\b≠it:=fun hb=>⟨fun z=>hb (by simp[z]),fun z=>hb (by simp[z])⟩
   exact⟨fun b o g _ _ hb=>kk b o (ab hb).1 (ab hb).2 g,fun b o g _ _ hb=>⟨o.slots,kk b o (ab hb).1 (ab hb).2 g⟩,fun b o g n _=>by rw[upd_ne (nT b o g)];exact n,fun b o g hb=>⟨o,kk b o (ab hb).1 (ab hb).2 g⟩,
    fun b ys g=>by rw[upd_ne (aQc g hfresh)];exact g,fun b o v g=>by rw[upd_ne (aQc g hfresh)];exact g,fun b ps g=>⟨#[],by rw[upd_ne (aQc g hfresh),g];simp⟩⟩
  have I2:Inv X pins σ (upd H s.heap.objs.size (.tup [.int i,x])) { s with heap:=h2,toks:=tk + 1 }:=I.call' (s':={ s with heap:=h2,toks:=tk + 1 }) rfl un hok I.bare fun b hb=>by
   rcases List.mem_cons.mp hb with rfl | hb
   ·exact⟨fe.2.2.2.1,fe.2.1,fe.2.2.2.2.1,fe.2.2.2.2.2⟩
   ·have:=List.mem_singleton.mp hb
    subst this;exact⟨fi.2.2.2.1,fi.2.1,fi.2.2.2.2.1,fi.2.2.2.2.2⟩
  refine⟨.ref s.heap.objs.size,_,I2,rfl,⟨_,x,hfresh,rfl,rfl,fun ys hy=>by rw[I.list_inj hy hq];exact hx⟩,⟨⟨_,by simpa using he2⟩,?_⟩,fun b hb=>?_⟩
  ·obtain⟨o,g,r⟩:=hs'.1;exact⟨o,(hs2.2 it (Ne.symm hei)).trans g,r⟩
  ·have hb':b < s.heap.objs.size:=by
    rcases List.mem_cons.mp hb with rfl | hb
    ·exact hel
    ·have:=List.mem_singleton.mp hb
     subst this;obtain⟨o,g,_⟩:=st2;exact Heap.lt_size g
   rw[upd_ne (Nat.ne_of_lt hb')];exact(hf b hb).1
 done:=by
  intro X hP hw hK hc i pins s σ H E I hf st hg;subst hP hw hK;obtain⟨xs,hq,hx⟩:=hg;obtain⟨its,rv,p,hz⟩:=I.list hq;obtain⟨⟨old,he⟩,st2⟩:=st;have hl:=rv.length;have hh:X.A.in1.handled=none:=by have:=I.ok.hd hc;simp[this]
  have hT:s.heap.IsList a its.toArray:=p.isList;obtain⟨f0,f1,f2,f3,f4,f5⟩:=hf it (by simp)
  have hT2:s.TypeIs (.ref e) "enumerate":=⟨_,he,rfl⟩;unfold pyNext;refine wpAny_bind (wpAny_attempt (wpAny_callSpecial?_slot (name:=Str.ofString "__next__") hT2 F.slot_enumerate_next (wpAny_call_entry F.slot_enumerate_next hT2 F.entry_enumerate_next ?_ (F.args_enumerate_next_1 _))));refine wpAny_bind (m:=field (.ref e) 2) (wpAny_field he rfl (x:=.ref it) rfl (wpAny_bind (wpAny_nextOf_list_end hh st2 hT (by simp;lia) fun h' x he' hx'=>?_)))
  obtain⟨o,ho,hc'⟩:=hx';refine wpAny_bind (wpAny_isInstance (T := "StopIteration") (b:=true) ⟨o,ho,hc'⟩ isSubtype_stop ?_);exact wpAny_pure ⟨rfl,I.turned (t':=s.toks) (fun b o hb g=>he' b o hb g) f0 f1 f3 f4 f5⟩
 self:=fun A i s Q E st h=>by
  obtain⟨⟨old,he⟩,_⟩:=st;exact wpAny_pyIter_enum he h
section
variable {X:Cx}
def iEnL (K:Fg) (ta:TA):TI:=fun σ H R=>ta σ H fun vs H1=>∃ a,vs=[.ref a]/\(∃ xs,SqL K H1 a xs)/\R (Itel K a) H1
theorem eJ4 {e:Expr} {ta:TA} {p pos:Pos} {elts:List Expr} {x1:Nat} {tpos:Pos} (hg:Gl X "enumerate") (hm:X.mg "enumerate" = none) (ha:PA X [e] ta) (hs:starEach [e] X.env=[(false,eval e X.env)]:=by rfl) :
  PI X (.Tuple elts x1 tpos) (.Call (.Name "enumerate" p) [e] [] pos) (iEnL X.K ta):=by
 intro pins s σ H R I h;refine Call_ (ld_blt I hg hm PyProof.Rows.boot_enumerate (PyProof.Rows.callWith_type1 (thn (ha pos pins s σ H _ I h) fun us s1 ⟨vs,H1,I1,r1,q1⟩=>?_) hs rfl));obtain⟨a,rfl,⟨xs,hq⟩,q⟩:=q1;obtain⟨u,rfl,rx⟩:=aXh r1;cases rx;obtain⟨its,rv,pl,hz⟩:=I1.list hq;have hal:a < s1.heap.objs.size:=by obtain⟨o,e,_⟩:=id pl.isList;exact Heap.lt_size e
 refine call_enumerate_list pl.isList fun h' he hi _ hk=>wpAny_pyIter_enum he ?_;refine⟨s1.heap.objs.size + 1,[s1.heap.objs.size + 1,s1.heap.objs.size],_,_,H1,rfl,I1.kept (t':=s1.toks) hk,dQk a s1.heap.objs.size (s1.heap.objs.size + 1) (Nat.succ_ne_self _) (Nat.ne_of_lt (Nat.lt_succ_of_lt hal)) (Nat.ne_of_lt hal),⟨⟨_,he⟩,hi⟩,fun b hb=>?_,q⟩;rcases List.mem_cons.mp hb with rfl | hb
 ·exact I1.fpOk (Nat.le_succ _) (I1.hok.fresh (Nat.le_succ _))
 ·have:=List.mem_singleton.mp hb
  subst this;exact I1.fpOk (Nat.le_refl _) (I1.hok.fresh (Nat.le_refl _))
theorem dJr {K:Fg} {e:Expr} {ta:TA} {p pos:Pos} {elts:List Expr} {x1:Nat} {tpos:Pos} (hg:Gl X "enumerate") (hm:X.mg "enumerate" = none) (ha:PA X [e] ta) (hs:starEach [e] X.env=[(false,eval e X.env)]:=by rfl) (hK:X.K=K:=by rfl) :
  PI X (.Tuple elts x1 tpos) (.Call (.Name "enumerate" p) [e] [] pos) (iEnL K ta):=by subst hK;exact eJ4 hg hm ha hs
end
def cutS (z:Str) (lo hi:Option Int):Str:=if ((Builtin.Str.strSliceIndices lo hi 1 z.length).length == z.length)=true then z else ⟨((Builtin.Str.strSliceIndices lo hi 1 z.length).filterMap (z.cps[·]?)).toArray⟩
def rSlS:V->Option Int->Option Int->Hp->VK->Prop:=fun x lo hi H Q=>∃ z,x=.str z/\z.length<=1000000/\Q (.str (cutS z lo hi)) H
theorem sl_str {X:Cx}:SlR X rSlS:=by
 intro pins s σ H x v vl vu lo hi sl Q I rx hs pl pu h;obtain⟨z,rfl,hz,q⟩:=h;obtain⟨t,rfl⟩:=rx;refine⟨"str",_,PySem.F.slot_str_getitem.lookup,typeIs_str _ _ _,?_⟩;have go:∀ (l u:Option (Int × Tok)),l.map (·.1)=lo->u.map (·.1)=hi->s.heap.IsSlice sl l u none->wpAny (model X.prog X.w) X.A (getItem (.str z t) (.ref sl)) (EP X pins σ Q) X.xe s:=fun l u hl hu hS=>by
  refine wpAny_getItem_str_slice hS rfl ?_;unfold sliceMade slicePicked;simp only[Option.map_none,Option.getD_none,beq_self_eq_true,Bool.true_and,hl,hu];unfold cutS at q
  by_cases c:((Builtin.Str.strSliceIndices lo hi 1 z.length).length == z.length)=true
  ·rw[if_pos c] at q ⊢;exact⟨.str z,H,I,⟨t,rfl⟩,q⟩
  ·rw[if_neg c] at q ⊢;refine⟨?_,.str _,H,I.tok _,⟨_,rfl⟩,q⟩;have h1:=PyProof.Rows.indices_len_le lo hi z.length;have h2:((Builtin.Str.strSliceIndices lo hi 1 z.length).filterMap (z.cps[·]?)).length<=(Builtin.Str.strSliceIndices lo hi 1 z.length).length:=List.length_filterMap_le _ _;show((Builtin.Str.strSliceIndices lo hi 1 z.length).filterMap (z.cps[·]?)).toArray.size<=_;rw[List.size_toArray,sizeLine_eq];lia
 obtain⟨o,ho,hc,hd⟩:=hs;cases pl with
 | none =>
  cases pu with
  | none=>exact go none none rfl rfl ⟨o,ho,hc,hd⟩
  | int j tj=>exact go none (some (j,tj)) rfl rfl ⟨o,ho,hc,hd⟩
 | int i ti =>
  cases pu with
  | none=>exact go (some (i,ti)) none rfl rfl ⟨o,ho,hc,hd⟩
  | int j tj=>exact go (some (i,ti)) (some (j,tj)) rfl rfl ⟨o,ho,hc,hd⟩
end L2
set_option maxHeartbeats 1000000
namespace L2
open PySem PySem.Spec PyProof.Rows
inductive D where
 | non | bl (b:Bool) | int (i:Int) | str (x:Str) | ty (n:String) | ref (a:Addr) | tup (xs:List D) | lst (xs:List D)
inductive DO where
 | lst (xs:List D) | dk (kvs:List (Key × D)) | dt (kvs:List (List Key × D))
 | tb (pos:Pos) (qual:Str)
abbrev Sto:=Addr->Option DO
abbrev Gm:=List (Option D)
abbrev Am:=Addr->Prop
def supd (S:Sto) (a:Addr) (o:DO):Sto:=fun b=>if b=a then some o else S b
theorem supd_same {S:Sto} {a:Addr} {o:DO}:supd S a o a=some o:=by unfold supd;rw[if_pos rfl]
theorem aQ9 {S:Sto} {a b:Addr} {o:DO} (h:b≠a):supd S a o b=S b:=by unfold supd;rw[if_neg h]
def TupAt (K:Fg) (M:Am) (H:Hp) (a:Addr) (xs:List V):Prop:=(¬ M a/\Rd H a (.tup xs))\/SqT K (fun _=>none) a xs
theorem TupAt.sq {K:Fg} {M:Am} {H:Hp} {a:Addr} {xs:List V} (h:TupAt K M H a xs):SqT K H a xs:=by
 rcases h with h | (h | ⟨o,h⟩) | h
 ·exact .inl h.2
 ·cases h
 ·cases h
 ·exact .inr h
def LstAt (K:Fg) (M:Am) (H:Hp) (a:Addr) (xs:List V):Prop:=(¬ M a/\Rd H a (.lst xs))\/SqL K (fun _=>none) a xs
theorem LstAt.sq {K:Fg} {M:Am} {H:Hp} {a:Addr} {xs:List V} (h:LstAt K M H a xs):SqL K H a xs:=by
 rcases h with h | (h | ⟨o,h⟩) | h
 ·exact .inl h.2
 ·cases h
 ·cases h
 ·exact .inr h
mutual
def RepV (K:Fg) (M:Am) (H:Hp):D->V->Prop
 | .non,v=>v=.non
 | .bl b,v=>v=.bl b
 | .int i,v=>v=.int i
 | .str x,v=>v=.str x
 | .ty n,v=>v=.ty n
 | .ref a,v=>v=.ref a
 | .tup ds,v=>∃ a xs,v=.ref a/\TupAt K M H a xs/\RepL K M H ds xs
 | .lst ds,v=>∃ a xs,v=.ref a/\LstAt K M H a xs/\RepL K M H ds xs
def RepL (K:Fg) (M:Am) (H:Hp):List D->List V->Prop
 | [],xs=>xs=[]
 | d::ds,xs=>∃ v vs,xs=v::vs/\RepV K M H d v/\RepL K M H ds vs
end
theorem Rd.live {H:Hp} {a:Addr} {u:HO} (r:Rd H a u):H a≠none:=by
 rcases r with r | ⟨o,r⟩ <;> rw[r] <;> exact fun z=>by cases z
structure Keep (M:Am) (H:Hp) (M':Am) (H':Hp):Prop where
 st:∀ a o,¬ M a->H a=some o->H' a=some o
 nm:∀ a,¬ M a->H a≠none->¬ M' a
theorem Keep.rd {M M':Am} {H H':Hp} (k:Keep M H M' H') {a:Addr} {u:HO} (hm:¬ M a) (r:Rd H a u):Rd H' a u:=by
 rcases r with r | ⟨o,r⟩
 ·exact .inl (k.st a _ hm r)
 ·exact .inr ⟨o,k.st a _ hm r⟩
theorem TupAt.keep {K:Fg} {M M':Am} {H H':Hp} {p:Addr} {us:List V} (t:TupAt K M H p us) (x:Keep M H M' H'):TupAt K M' H' p us:=by
 rcases t with⟨hm,r⟩ | t
 ·exact .inl ⟨x.nm p hm r.live,x.rd hm r⟩
 ·exact .inr t
theorem LstAt.keep {K:Fg} {M M':Am} {H H':Hp} {p:Addr} {us:List V} (t:LstAt K M H p us) (x:Keep M H M' H'):LstAt K M' H' p us:=by
 rcases t with⟨hm,r⟩ | t
 ·exact .inl ⟨x.nm p hm r.live,x.rd hm r⟩
 ·exact .inr t
mutual
theorem RepV.keep {K:Fg} {M M':Am} {H H':Hp} (k:Keep M H M' H'):∀ {d:D} {v:V},RepV K M H d v->RepV K M' H' d v
 | .non,_,h=>h
 | .bl _,_,h=>h
 | .int _,_,h=>h
 | .str _,_,h=>h
 | .ty _,_,h=>h
 | .ref _,_,h=>h
 | .tup ds,v,h=>by
  unfold RepV at h ⊢;obtain⟨a,xs,e,t,l⟩:=h;exact⟨a,xs,e,t.keep k,RepL.keep k l⟩
 | .lst ds,v,h=>by
  unfold RepV at h ⊢;obtain⟨a,xs,e,t,l⟩:=h;exact⟨a,xs,e,t.keep k,RepL.keep k l⟩
theorem RepL.keep {K:Fg} {M M':Am} {H H':Hp} (k:Keep M H M' H'):∀ {ds:List D} {xs:List V},RepL K M H ds xs->RepL K M' H' ds xs
 | [],_,h=>h
 | d::ds,xs,h=>by
  unfold RepL at h ⊢;obtain⟨v,vs,e,r,l⟩:=h;exact⟨v,vs,e,RepV.keep k r,RepL.keep k l⟩
end
section
variable {K:Fg} {M:Am} {H:Hp}
theorem RepL.length:∀ {ds:List D} {xs:List V},RepL K M H ds xs->xs.length=ds.length
 | [],_,h=>by unfold RepL at h;rw[h];rfl
 | d::ds,xs,h=>by
  unfold RepL at h;obtain⟨v,vs,rfl,_,l⟩:=h;simp[RepL.length l]
theorem RepL.nil:RepL K M H [] []:=by unfold RepL;rfl
theorem RepL.cons {d:D} {ds:List D} {v:V} {vs:List V} (r:RepV K M H d v) (l:RepL K M H ds vs):RepL K M H (d::ds) (v::vs):=by unfold RepL;exact⟨v,vs,rfl,r,l⟩
theorem RepL.app:∀ {ds es:List D} {xs ys:List V},RepL K M H ds xs->RepL K M H es ys->RepL K M H (ds++es) (xs++ys)
 | [],es,xs,ys,h,h'=>by unfold RepL at h;rw[h];exact h'
 | d::ds,es,xs,ys,h,h'=>by
  unfold RepL at h;obtain⟨v,vs,rfl,r,l⟩:=h;exact RepL.cons r (RepL.app l h')
theorem RepL.get:∀ {ds:List D} {xs:List V} {i:Nat} {d:D},RepL K M H ds xs->ds[i]?=some d->∃ v,xs[i]?=some v/\RepV K M H d v
 | [],_,_,_,_,e=>by simp at e
 | d::ds,xs,0,e,h,he=>by
  unfold RepL at h;obtain⟨v,vs,rfl,r,l⟩:=h;simp at he;subst he;exact⟨v,rfl,r⟩
 | d::ds,xs,i + 1,e,h,he=>by
  unfold RepL at h;obtain⟨v,vs,rfl,r,l⟩:=h;obtain⟨w,h1,h2⟩:=RepL.get (i:=i) l (by simpa using he)
  exact⟨w,by simpa using h1,h2⟩
theorem RepL.get' {ds:List D} {xs:List V} {i:Nat} {v:V} (h:RepL K M H ds xs) (e:xs[i]?=some v):∃ d,ds[i]?=some d/\RepV K M H d v:=by
 have hl:=h.length;have hi:i < xs.length:=by
  rcases Nat.lt_or_ge i xs.length with z | z
  ·exact z
  ·rw[List.getElem?_eq_none z] at e;cases e
 have e':ds[i]?=some ds[i]:=List.getElem?_eq_getElem (by lia)
 obtain⟨w,h1,h2⟩:=h.get e';rw[e] at h1;cases h1;exact⟨_,e',h2⟩
theorem RepL.take:∀ {ds:List D} {xs:List V} (n:Nat),RepL K M H ds xs->RepL K M H (ds.take n) (xs.take n)
 | _,_,0,_=>by simpa using RepL.nil
 | [],_,n + 1,h=>by unfold RepL at h;subst h;simpa using RepL.nil
 | d::ds,xs,n + 1,h=>by
  unfold RepL at h;obtain⟨v,vs,rfl,r,l⟩:=h;simpa using RepL.cons r (RepL.take n l)
theorem RepL.drop:∀ {ds:List D} {xs:List V} (n:Nat),RepL K M H ds xs->RepL K M H (ds.drop n) (xs.drop n)
 | _,_,0,h=>by simpa using h
 | [],_,n + 1,h=>by unfold RepL at h;subst h;simpa using RepL.nil
 | d::ds,xs,n + 1,h=>by
  unfold RepL at h;obtain⟨v,vs,rfl,r,l⟩:=h;simpa using RepL.drop n l
theorem RepL.erase:∀ {ds:List D} {xs:List V} (i:Nat),RepL K M H ds xs->RepL K M H (ds.eraseIdx i) (xs.eraseIdx i)
 | [],_,i,h=>by unfold RepL at h;subst h;simpa using RepL.nil
 | e::ds,xs,0,h=>by
  unfold RepL at h;obtain⟨w,vs,rfl,_,l⟩:=h;simpa using l
 | e::ds,xs,i + 1,h=>by
  unfold RepL at h;obtain⟨w,vs,rfl,q,l⟩:=h;simpa using RepL.cons q (RepL.erase i l)
theorem RepL.one {d:D} {xs:List V} (h:RepL K M H [d] xs):∃ v,xs=[v]/\RepV K M H d v:=by
 unfold RepL at h;obtain⟨v,vs,rfl,r,l⟩:=h;unfold RepL at l;subst l;exact⟨v,rfl,r⟩
theorem RepL.two {d e:D} {xs:List V} (h:RepL K M H [d,e] xs):∃ v w,xs=[v,w]/\RepV K M H d v/\RepV K M H e w:=by
 unfold RepL at h;obtain⟨v,vs,rfl,r,l⟩:=h;obtain⟨w,rfl,r'⟩:=l.one;exact⟨v,w,rfl,r,r'⟩
end
def mt (S:Sto) (F:Am):Am:=fun a=>S a≠none\/F a
abbrev cdO (c:Addr) (oc:Obj):HO:=.ext fun h=>h.get? c=some oc
def TbOk (M:Am) (H:Hp) (pos:Pos) (qual:Str) (ps:Array Value):Prop:=TriplesOk ps.toList/\(codeAmong pos ps.toList=none \/
 ∃ c oc,codeAmong pos ps.toList=some (.ref c)/\¬ M c/\H c=some (cdO c oc)/\∃ vs t,oc.data=.fields vs/\vs[1]?=some (.str qual t))
theorem TbOk.keep {M M':Am} {H H':Hp} (k:Keep M H M' H') {pos:Pos} {qual:Str} {ps:Array Value} (h:TbOk M H pos qual ps):TbOk M' H' pos qual ps:=by
 obtain⟨h1,h2⟩:=h;refine⟨h1,h2.imp id fun⟨c,oc,e1,m,e2,r⟩=>⟨c,oc,e1,k.nm c m (by rw[e2];exact fun z=>by cases z),k.st c _ m e2,r⟩⟩
def RepO (K:Fg) (M:Am) (H:Hp) (a:Addr):DO->Prop
 | .lst ds=>∃ xs,H a=some (.lst xs)/\RepL K M H ds xs
 | .dk kvs=>∃ ks,H a=some (.dK ks)/\Paired (fun(p:Key × V) (q:Key × D)=>p.1=q.1/\RepV K M H q.2 p.2) ks kvs
 | .dt kvs=>∃ ks,H a=some (.dT ks)/\Paired (fun(p:List Key × V) (q:List Key × D)=>p.1=q.1/\RepV K M H q.2 p.2) ks kvs
 | .tb pos qual=>∃ ps,H a=some (.tbl ps)/\TbOk M H pos qual ps
theorem RepO.live {K:Fg} {M:Am} {H:Hp} {a:Addr} {o:DO} (h:RepO K M H a o):H a≠none:=by
 cases o <;> obtain⟨xs,e,_⟩:=h <;> rw[e] <;> exact fun z=>by cases z
theorem RepO.keep {K:Fg} {M M':Am} {H H':Hp} (k:Keep M H M' H') {a:Addr} {o:DO} (e:H' a=H a) (h:RepO K M H a o):RepO K M' H' a o:=by
 cases o with
 | lst ds=>obtain⟨xs,e1,l⟩:=h;exact⟨xs,e.trans e1,l.keep k⟩
 | dk kvs=>obtain⟨xs,e1,l⟩:=h;exact⟨xs,e.trans e1,Paired.imp (fun _ _ z=>⟨z.1,z.2.keep k⟩) l⟩
 | dt kvs=>obtain⟨xs,e1,l⟩:=h;exact⟨xs,e.trans e1,Paired.imp (fun _ _ z=>⟨z.1,z.2.keep k⟩) l⟩
 | tb pos qual=>obtain⟨xs,e1,l⟩:=h;exact⟨xs,e.trans e1,l.keep k⟩
def Clt:HO->Prop
 | .lst _=>True
 | .ext _=>True
 | _=>False
structure Rp (K:Fg) (F:Am) (S:Sto) (H:Hp):Prop where
 obj:∀ a o,S a=some o->RepO K (mt S F) H a o
 frm:∀ a,F a->(∃ u,H a=some u/\Clt u)/\S a=none
structure Ext (S:Sto) (H:Hp) (S':Sto) (H':Hp):Prop where
 keep:∀ a o,S a=none->H a=some o->H' a=some o
 live:∀ a,H a≠none->H' a≠none
 new:∀ a,S' a≠none->S a≠none\/H a=none
theorem Ext.refl (S:Sto) (H:Hp):Ext S H S H:=⟨fun _ _ _ h=>h,fun _ h=>h,fun _ h=>.inl h⟩
theorem Ext.sn {S S':Sto} {H H':Hp} (x:Ext S H S' H') {a:Addr} (h:S a=none) (h':H a≠none):S' a=none:=by
 cases e:S' a with
 | none=>rfl
 | some o =>
  rcases x.new a (by rw[e];exact fun z=>by cases z) with z | z
  ·exact absurd h z
  ·exact absurd z h'
theorem Ext.trans {S S1 S2:Sto} {H H1 H2:Hp} (x:Ext S H S1 H1) (y:Ext S1 H1 S2 H2):Ext S H S2 H2 :=
 ⟨fun a o h h'=>y.keep a o (x.sn h (by rw[h'];exact fun z=>by cases z)) (x.keep a o h h'),fun a h=>y.live a (x.live a h),fun a h=>by
  rcases y.new a h with z | z
  ·exact x.new a z
  ·refine .inr (Classical.byContradiction fun n=>x.live a n z)⟩
theorem Ext.same {S:Sto} {H H':Hp} (s:Same H H'):Ext S H S H' where
 keep:=fun a o _ h=>s a o h
 live:=fun a h=>by
  cases e:H a with
  | none=>exact absurd e h
  | some o =>
   rw[s a o e];exact fun z=>by cases z
 new:=fun _ h=>.inl h
theorem Ext.kp {F:Am} {S S':Sto} {H H':Hp} (x:Ext S H S' H'):Keep (mt S F) H (mt S' F) H':=⟨fun a o h e=>x.keep a o (Classical.byContradiction fun n=>h (.inl n)) e,fun a h e=>fun z=>by
 rcases z with z | z
 ·rcases x.new a z with y | y
  ·exact h (.inl y)
  ·exact e y
 ·exact h (.inr z)⟩
section
variable {K:Fg} {F:Am} {S S':Sto} {H H':Hp}
theorem RepV.ext {d:D} {v:V} (h:RepV K (mt S F) H d v) (x:Ext S H S' H'):RepV K (mt S' F) H' d v:=h.keep x.kp
theorem RepL.ext {ds:List D} {vs:List V} (h:RepL K (mt S F) H ds vs) (x:Ext S H S' H'):RepL K (mt S' F) H' ds vs:=h.keep x.kp
theorem Rp.same (r:Rp K F S H) (s:Same H H'):Rp K F S H' where
 obj:=fun a o h=>by
  have q:=r.obj a o h;have e:H' a=H a:=by
   cases z:H a with
   | none=>exact absurd z q.live
   | some u=>exact s a u z
  exact q.keep (Ext.same s).kp e
 frm:=fun a h=>by
  obtain⟨⟨zs,e,ct⟩,h2⟩:=r.frm a h;exact⟨⟨zs,s a _ e,ct⟩,h2⟩
theorem Ext.write {a:Addr} {o:DO} {u:HO} (h:S a≠none):Ext S H (supd S a o) (upd H a u) where
 keep:=fun b ob h1 h2=>by
  have ne:b≠a:=by rintro rfl;exact h h1
  rw[upd_ne ne];exact h2
 live:=fun b hb=>by
  by_cases e:b=a
  ·subst e;rw[aQ6];exact fun z=>by cases z
  ·rw[upd_ne e];exact hb
 new:=fun b hb=>by
  by_cases e:b=a
  ·subst e;exact .inl h
  ·rw[aQ9 e] at hb;exact .inl hb
theorem Rp.write {a:Addr} {o:DO} {u:HO} (r:Rp K F S H) (h:S a≠none) (q:RepO K (mt (supd S a o) F) (upd H a u) a o):Rp K F (supd S a o) (upd H a u) where
 obj:=fun b ob hb=>by
  by_cases e:b=a
  ·subst e;rw[supd_same] at hb;cases hb;exact q
  ·rw[aQ9 e] at hb;exact(r.obj b ob hb).keep (Ext.write h).kp (upd_ne e)
 frm:=fun b hb=>by
  have e:b≠a:=by rintro rfl;exact h (r.frm b hb).2
  rw[upd_ne e,aQ9 e];exact r.frm b hb
theorem Rp.sn (r:Rp K F S H) {a:Addr} (h:H a=none):S a=none:=by
 cases e:S a with
 | none=>rfl
 | some o=>exact absurd h (r.obj a o e).live
theorem Ext.mk' {a:Addr} {o:DO} {u:HO} (h:H a=none):Ext S H (supd S a o) (upd H a u) where
 keep:=fun b ob h1 h2=>by
  have ne:b≠a:=by rintro rfl;rw[h] at h2;cases h2
  rw[upd_ne ne];exact h2
 live:=fun b hb=>by
  have ne:b≠a:=by rintro rfl;exact hb h
  rw[upd_ne ne];exact hb
 new:=fun b hb=>by
  by_cases e:b=a
  ·subst e;exact .inr h
  ·rw[aQ9 e] at hb;exact .inl hb
theorem Rp.mk' {a:Addr} {o:DO} {u:HO} (r:Rp K F S H) (h:H a=none) (q:RepO K (mt (supd S a o) F) (upd H a u) a o):Rp K F (supd S a o) (upd H a u) where
 obj:=fun b ob hb=>by
  by_cases e:b=a
  ·subst e;rw[supd_same] at hb;cases hb;exact q
  ·rw[aQ9 e] at hb;exact(r.obj b ob hb).keep (Ext.mk' h).kp (upd_ne e)
 frm:=fun b hb=>by
  have e:b≠a:=by
   rintro rfl;obtain⟨⟨zs,e,_⟩,_⟩:=r.frm b hb;rw[h] at e;cases e
  rw[upd_ne e,aQ9 e];exact r.frm b hb
theorem Ext.less {S':Sto} (h:∀ a o,S' a=some o->S a=some o):Ext S H S' H:=⟨fun _ _ _ e=>e,fun _ e=>e,fun a e=>.inl fun z=>by
 cases q:S' a with
 | none=>exact e q
 | some o=>rw[h a o q] at z;cases z⟩
theorem Rp.less {S':Sto} (r:Rp K F S H) (h:∀ a o,S' a=some o->S a=some o):Rp K F S' H where
 obj:=fun a o e=>(r.obj a o (h a o e)).keep (Ext.less h).kp rfl
 frm:=fun a e=>⟨(r.frm a e).1,by
  cases q:S' a with
  | none=>rfl
  | some o=>have:=h a o q;rw[(r.frm a e).2] at this;cases this⟩
end
def look (g:Gm) (i:Nat) (k:D->Prop):Prop:=match i with
 | 0=>match g with
  | some d::_=>k d
  | _=>False
 | n + 1=>match g with
  | _::g=>look g n k
  | []=>False
def RepG (K:Fg) (M:Am) (H:Hp):Gm->St->Prop
 | [],σ=>σ=[]
 | none::g,σ=>∃ v τ,σ=v::τ/\RepG K M H g τ
 | some d::g,σ=>∃ v τ,σ=some v::τ/\RepV K M H d v/\RepG K M H g τ
theorem RepG.keep {K:Fg} {M M':Am} {H H':Hp} (k:Keep M H M' H'):∀ {g:Gm} {σ:St},RepG K M H g σ->RepG K M' H' g σ
 | [],_,h=>h
 | none::g,_,⟨v,τ,e,r⟩=>⟨v,τ,e,RepG.keep k r⟩
 | some d::g,_,⟨v,τ,e,q,r⟩=>⟨v,τ,e,q.keep k,RepG.keep k r⟩
theorem RepG.ext {K:Fg} {F:Am} {S S':Sto} {H H':Hp} {g:Gm} {σ:St} (h:RepG K (mt S F) H g σ) (x:Ext S H S' H'):RepG K (mt S' F) H' g σ:=h.keep x.kp
theorem RepG.look {K:Fg} {M:Am} {H:Hp} {k:D->Prop}:∀ {g:Gm} {σ:St} {i:Nat},RepG K M H g σ->look g i k->∃ v d,σ[i]?=some (some v)/\RepV K M H d v/\k d
 | [],_,0,_,h=>False.elim h
 | [],_,_ + 1,_,h=>False.elim h
 | none::_,_,0,_,h=>False.elim h
 | some d::g,_,0,⟨v,τ,e,q,r⟩,h=>⟨v,d,by rw[e];rfl,q,h⟩
 | some d::g,_,i + 1,⟨v,τ,e,q,r⟩,h=>by
  obtain⟨u,d',e1,h1⟩:=RepG.look (i:=i) r h;exact⟨u,d',by rw[e];simpa using e1,h1⟩
 | none::g,_,i + 1,⟨v,τ,e,r⟩,h=>by
  obtain⟨u,d',e1,h1⟩:=RepG.look (i:=i) r h;exact⟨u,d',by rw[e];simpa using e1,h1⟩
theorem RepG.set {K:Fg} {M:Am} {H:Hp} {d:D} {v:V} (q:RepV K M H d v):∀ {g:Gm} {σ:St} (i:Nat),RepG K M H g σ->RepG K M H (g.set i (some d)) (σ.set i (some v))
 | [],_,_,h=>by cases h;rfl
 | none::g,_,0,⟨w,τ,e,r⟩=>by subst e;exact⟨v,τ,rfl,q,r⟩
 | some _::g,_,0,⟨w,τ,e,_,r⟩=>by subst e;exact⟨v,τ,rfl,q,r⟩
 | none::g,_,i + 1,⟨w,τ,e,r⟩=>by subst e;exact⟨w,_,rfl,RepG.set q i r⟩
 | some _::g,_,i + 1,⟨w,τ,e,z,r⟩=>by subst e;exact⟨w,_,rfl,z,RepG.set q i r⟩
abbrev DK:=D->Sto->Prop
abbrev ED:=Gm->Sto->DK->Prop
abbrev TD:=Gm->Sto->(Bool->Sto->Prop)->Prop
abbrev AD:=Gm->Sto->(List D->Sto->Prop)->Prop
structure EndsD where
 nx:Gm->Sto->Prop
 rt:DK
 bk:Gm->Sto->Prop:=fun _ _=>False
 ct:Gm->Sto->Prop:=fun _ _=>False
abbrev SD:=EndsD->Gm->Sto->Prop
def upE (K:Fg) (t:ED):TE:=fun σ H Q=>∃ F S Γ QD,Rp K F S H/\RepG K (mt S F) H Γ σ/\t Γ S QD/\∀ v d H' S',Ext S H S' H'->Rp K F S' H'->RepV K (mt S' F) H' d v->QD d S'->Q v H'
theorem upE.el {K:Fg} {t:ED} {σ:St} {H:Hp} {Q:VK} {p:Prop} (h:upE K t σ H Q) (k:∀ F S Γ QD,Rp K F S H->RepG K (mt S F) H Γ σ->t Γ S QD->(∀ v d H' S',Ext S H S' H'->Rp K F S' H'->RepV K (mt S' F) H' d v->QD d S'->Q v H')->p):p:=by
 obtain⟨F,S,Γ,QD,h0,h1,h2,h3⟩:=h;exact k F S Γ QD h0 h1 h2 h3
def upT (K:Fg) (t:TD):TT:=fun σ H Q=>∃ F S Γ QD,Rp K F S H/\RepG K (mt S F) H Γ σ/\t Γ S QD/\∀ b H' S',Ext S H S' H'->Rp K F S' H'->QD b S'->Q b H'
theorem upT.el {K:Fg} {t:TD} {σ:St} {H:Hp} {Q:Bool->Hp->Prop} {p:Prop} (h:upT K t σ H Q) (k:∀ F S Γ QD,Rp K F S H->RepG K (mt S F) H Γ σ->t Γ S QD->(∀ b H' S',Ext S H S' H'->Rp K F S' H'->QD b S'->Q b H')->p):p:=by
 obtain⟨F,S,Γ,QD,h0,h1,h2,h3⟩:=h;exact k F S Γ QD h0 h1 h2 h3
def upA (K:Fg) (t:AD):TA:=fun σ H Q=>∃ F S Γ QD,Rp K F S H/\RepG K (mt S F) H Γ σ/\t Γ S QD/\∀ vs ds H' S',Ext S H S' H'->Rp K F S' H'->RepL K (mt S' F) H' ds vs->QD ds S'->Q vs H'
theorem upA.el {K:Fg} {t:AD} {σ:St} {H:Hp} {Q:List V->Hp->Prop} {p:Prop} (h:upA K t σ H Q) (k:∀ F S Γ QD,Rp K F S H->RepG K (mt S F) H Γ σ->t Γ S QD->(∀ vs ds H' S',Ext S H S' H'->Rp K F S' H'->RepL K (mt S' F) H' ds vs->QD ds S'->Q vs H')->p):p:=by
 obtain⟨F,S,Γ,QD,h0,h1,h2,h3⟩:=h;exact k F S Γ QD h0 h1 h2 h3
structure CnS (K:Fg) (F:Am) (S:Sto) (H:Hp) (E:EndsD) (D':Ends):Prop where
 nx:∀ Γ' S' σ' H',Ext S H S' H'->Rp K F S' H'->RepG K (mt S' F) H' Γ' σ'->E.nx Γ' S'->D'.nx σ' H'
 rt:∀ v d H' S',Ext S H S' H'->Rp K F S' H'->RepV K (mt S' F) H' d v->E.rt d S'->D'.rt v H'
 bk:∀ Γ' S' σ' H',Ext S H S' H'->Rp K F S' H'->RepG K (mt S' F) H' Γ' σ'->E.bk Γ' S'->D'.bk σ' H'
 ct:∀ Γ' S' σ' H',Ext S H S' H'->Rp K F S' H'->RepG K (mt S' F) H' Γ' σ'->E.ct Γ' S'->D'.ct σ' H'
theorem CnS.ext {K:Fg} {F:Am} {S S1:Sto} {H H1:Hp} {E:EndsD} {D':Ends} (c:CnS K F S H E D') (x:Ext S H S1 H1):CnS K F S1 H1 E D' :=
 ⟨fun Γ' S' σ' H' y=>c.nx Γ' S' σ' H' (x.trans y),fun v d H' S' y=>c.rt v d H' S' (x.trans y),fun Γ' S' σ' H' y=>c.bk Γ' S' σ' H' (x.trans y),fun Γ' S' σ' H' y=>c.ct Γ' S' σ' H' (x.trans y)⟩
def upS (K:Fg) (t:SD):TS:=fun D' σ H=>∃ F S Γ E,Rp K F S H/\RepG K (mt S F) H Γ σ/\t E Γ S/\CnS K F S H E D'
theorem upS.el {K:Fg} {t:SD} {D':Ends} {σ:St} {H:Hp} {p:Prop} (h:upS K t D' σ H) (k:∀ F S Γ E,Rp K F S H->RepG K (mt S F) H Γ σ->t E Γ S->CnS K F S H E D'->p):p:=by
 obtain⟨F,S,Γ,E,h0,h1,h2,h3⟩:=h;exact k F S Γ E h0 h1 h2 h3
structure PD (K:Fg) (X:Cx) (e:Expr) (t:ED):Prop where
 o:PE X e (upE K t)
structure PTD (K:Fg) (X:Cx) (e:Expr) (t:TD):Prop where
 o:PT X e (upT K t)
structure PAD (K:Fg) (X:Cx) (es:List Expr) (t:AD):Prop where
 o:PA X es (upA K t)
structure PSD (K:Fg) (X:Cx) (st:Stmt) (t:SD):Prop where
 o:PS X st (upS K t)
structure PSsD (K:Fg) (X:Cx) (st:List Stmt) (t:SD):Prop where
 o:PSs X st (upS K t)
section
variable {X:Cx} {K:Fg}
theorem PD.of {e:Expr} {te:TE} {t:ED} (h:PE X e te) (i:∀ σ H Q,upE K t σ H Q->te σ H Q):PD K X e t:=⟨fun pins s σ H Q I q=>h pins s σ H Q I (i σ H Q q)⟩
theorem PTD.of {e:Expr} {te:TT} {t:TD} (h:PT X e te) (i:∀ σ H Q,upT K t σ H Q->te σ H Q):PTD K X e t:=⟨fun pins s σ H Q I q=>h pins s σ H Q I (i σ H Q q)⟩
theorem PAD.of {e:List Expr} {te:TA} {t:AD} (h:PA X e te) (i:∀ σ H Q,upA K t σ H Q->te σ H Q):PAD K X e t:=⟨fun pos pins s σ H Q I q=>h pos pins s σ H Q I (i σ H Q q)⟩
theorem PSD.of {e:Stmt} {te:TS} {t:SD} (h:PS X e te) (i:∀ D' σ H,upS K t D' σ H->te D' σ H):PSD K X e t:=⟨fun pins s σ H D' I q=>h pins s σ H D' I (i D' σ H q)⟩
theorem PSsD.of {e:List Stmt} {te:TS} {t:SD} (h:PSs X e te) (i:∀ D' σ H,upS K t D' σ H->te D' σ H):PSsD K X e t:=⟨fun pins s σ H D' I q=>h pins s σ H D' I (i D' σ H q)⟩
def dVar (i:Nat):ED:=fun Γ S Q=>look Γ i fun d=>Q d S
def dC (d:D):ED:=fun _ S Q=>Q d S
theorem dv (i:Nat) {x:Str} {pos:Pos} (hN:X.N[i]?=some x:=by rfl) (hv:Vis X.env.scope x:=by first | exact Or.inl rfl | exact Or.inr (Or.inl rfl) | exact Or.inr (Or.inr rfl)) (hd:(x == ("__debug__" : Str))=false:=by decide)
  (hcd:(x == ("__classdict__" : Str))=false:=by decide):PD K X (.Name x pos) (dVar i):=.of (eZd hN hv hd hcd) fun σ H Q z0=>z0.el fun F S Γ QD r g h c=>by
 obtain⟨v,d,e,q,z⟩:=g.look h;exact⟨v,e,c v d H S (Ext.refl _ _) r q z⟩
theorem up_c {d:D} {v:V} (h:∀ M H,RepV K M H d v):∀ σ H Q,upE K (dC d) σ H Q->tC v σ H Q:=fun σ H Q z0=>z0.el fun F S Γ QD r g q c=>c v d H S (Ext.refl _ _) r (h _ _) q
theorem aQ4 {i j pos}:PD K X (.Constant (.int i) j pos) (dC (.int i)):=.of eZe (up_c fun _ _=>by unfold RepV;rfl)
theorem e_bl {b j pos}:PD K X (.Constant (.bool b) j pos) (dC (.bl b)):=.of fZ0 (up_c fun _ _=>by unfold RepV;rfl)
theorem bZ1 {j pos}:PD K X (.Constant .none j pos) (dC .non):=.of eZf (up_c fun _ _=>by unfold RepV;rfl)
theorem aZ9 {x j pos}:PD K X (.Constant (.str x) j pos) (dC (.str x)):=.of eZg (up_c fun _ _=>by unfold RepV;rfl)
theorem e_ty {x:Str} {n:String} {pos:Pos} (hg:Gl X x) (hm:X.mg x=none) (hv:bootBuiltins x=some (.type n)) (hn:x ≠ "__name__":=by decide) (hd:(x == ("__debug__" : Str))=false:=by decide):PD K X (.Name x pos) (dC (.ty n)) :=
 .of (fZg hg hm hv hn hd) (up_c fun _ _=>by unfold RepV;rfl)
def Cn (K:Fg) (F:Am) (S:Sto) (H:Hp) (QD:DK) (Q:VK):Prop:=∀ v d H' S',Ext S H S' H'->Rp K F S' H'->RepV K (mt S' F) H' d v->QD d S'->Q v H'
abbrev R2D:=D->D->Sto->DK->Prop
def OpD (K:Fg) (r:R2) (rd:R2D):Prop:=∀ F S H d e x y Q QD,Rp K F S H->RepV K (mt S F) H d x->RepV K (mt S F) H e y->rd d e S QD->Cn K F S H QD Q->r x y H Q
def dOp (rd:R2D) (ta tb:ED):ED:=fun Γ S Q=>ta Γ S fun x S1=>tb Γ S1 fun y S2=>rd x y S2 Q
theorem dQl {r:R2} {rd:R2D} {ta tb:ED} (h:OpD K r rd):∀ σ H Q,upE K (dOp rd ta tb) σ H Q->tOp r (upE K ta) (upE K tb) σ H Q:=fun σ H Q z0=>z0.el fun F S Γ QD r g q c =>
 ⟨F,S,Γ,_,r,g,q,fun x d H1 S1 x1 r1 v1 q1=>⟨F,S1,Γ,_,r1,g.ext x1,q1,fun y e H2 S2 x2 r2 v2 q2=>h F S2 H2 d e x y Q QD r2 (v1.ext x2) v2 q2 fun v z H3 S3 x3=>c v z H3 S3 (x1.trans (x2.trans x3))⟩⟩
theorem e_op {op:Operator} {r:R2} {rd:R2D} {a b:Expr} {ta tb:ED} {pos:Pos} (ho:OpR X (binaryOp op) r) (h:OpD K r rd) (ha:PD K X a ta) (hb:PD K X b tb):PD K X (.BinOp a op b pos) (dOp rd ta tb):=.of (fZ8 ho ha.o hb.o) (dQl h)
theorem dJs {op:CmpOp} {r:R2} {rd:R2D} {a b:Expr} {ta tb:ED} {pos:Pos} (ho:OpR X (compareOp op) r) (h:OpD K r rd) (ha:PD K X a ta) (hb:PD K X b tb) (hm:behindInMarks op b=false):PD K X (.Compare a [op] [b] pos) (dOp rd ta tb):=.of (dXo ho ha.o hb.o hm) (dQl h)
def aX1 (t:ED):TD:=fun Γ S Q=>t Γ S fun d S1=>∃ b,d=.bl b/\Q b S1
theorem eJ5 {r:R2} {rd:R2D} {ta tb:ED} (h:OpD K r rd):∀ σ H Q,upT K (aX1 (dOp rd ta tb)) σ H Q->dXp (tOp r (upE K ta) (upE K tb)) σ H Q:=fun σ H Q q=>dQl (rd:=rd) h σ H _ (by
 obtain⟨F,S,Γ,QD,r,g,q,c⟩:=q;refine⟨F,S,Γ,_,r,g,q,fun v d H1 S1 x1 r1 v1 ⟨b,e,q1⟩=>?_⟩;subst e;unfold RepV at v1;exact⟨b,v1,c b H1 S1 x1 r1 q1⟩)
theorem aZt {op:CmpOp} {r:R2} {rd:R2D} {a b:Expr} {ta tb:ED} {pos:Pos} (ho:OpR X (compareOp op) r) (h:OpD K r rd) (ha:PD K X a ta) (hb:PD K X b tb) (hm:behindInMarks op b=false):PTD K X (.Compare a [op] [b] pos) (aX1 (dOp rd ta tb)):=.of (dXq ho ha.o hb.o hm) (eJ5 h)
end
end L2
set_option maxHeartbeats 4000000
namespace L2
open PySem PySem.Spec PyProof.Rows
section
variable {K:Fg} {F:Am} {S:Sto} {H:Hp} {QD:DK} {Q:VK}
theorem Cn.here (c:Cn K F S H QD Q) (r:Rp K F S H) {d:D} {v:V} (h:RepV K (mt S F) H d v) (q:QD d S):Q v H:=c v d H S (Ext.refl _ _) r h q
theorem Cn.int (c:Cn K F S H QD Q) (r:Rp K F S H) {i:Int} (q:QD (.int i) S):Q (.int i) H:=c.here r (by unfold RepV;rfl) q
theorem Cn.str (c:Cn K F S H QD Q) (r:Rp K F S H) {i:Str} (q:QD (.str i) S):Q (.str i) H:=c.here r (by unfold RepV;rfl) q
theorem Cn.bl (c:Cn K F S H QD Q) (r:Rp K F S H) {i:Bool} (q:QD (.bl i) S):Q (.bl i) H:=c.here r (by unfold RepV;rfl) q
theorem Rp.nmt (r:Rp K F S H) {a:Addr} (h:H a=none):¬ mt S F a:=fun z=>by
 rcases z with z | z
 ·exact z (r.sn h)
 ·obtain⟨⟨zs,e,_⟩,_⟩:=r.frm a z;rw[h] at e;cases e
theorem Cn.tup (c:Cn K F S H QD Q) (r:Rp K F S H) {l:Addr} (h:H l=none) {ds:List D} {xs:List V} (rl:RepL K (mt S F) H ds xs) (q:QD (.tup ds) S):Q (.ref l) (upd H l (.tup xs)):=by
 have x:Ext S H S (upd H l (.tup xs)):=Ext.same (aQx h);refine c _ _ _ S x (r.same (aQx h)) ?_ q;unfold RepV;exact⟨l,xs,rfl,.inl ⟨r.nmt h,.inl aQ6⟩,rl.ext x⟩
theorem Cn.lst (c:Cn K F S H QD Q) (r:Rp K F S H) {l:Addr} (h:H l=none) {ds:List D} {xs:List V} (rl:RepL K (mt S F) H ds xs) (q:QD (.lst ds) S):Q (.ref l) (upd H l (.lst xs)):=by
 have x:Ext S H S (upd H l (.lst xs)):=Ext.same (aQx h);refine c _ _ _ S x (r.same (aQx h)) ?_ q;unfold RepV;exact⟨l,xs,rfl,.inl ⟨r.nmt h,.inl aQ6⟩,rl.ext x⟩
theorem Cn.lstR (c:Cn K F S H QD Q) (r:Rp K F S H) {l:Addr} (h:H l=none) {ds:List D} {xs:List V} (rl:RepL K (mt S F) H ds xs) (q:QD (.ref l) (supd S l (.lst ds))):Q (.ref l) (upd H l (.lst xs)):=by
 have x:Ext S H (supd S l (.lst ds)) (upd H l (.lst xs)):=Ext.mk' h;exact c _ _ _ _ x (r.mk' h ⟨xs,aQ6,rl.ext x⟩) (by unfold RepV;rfl) q
def newL (b:Bool) (ds:List D) (S:Sto) (Q:DK):Prop:=match b with
 | false=>Q (.lst ds) S
 | true=>∀ p,S p=none->Q (.ref p) (supd S p (.lst ds))
theorem Cn.new (c:Cn K F S H QD Q) (r:Rp K F S H) {b:Bool} {l:Addr} (h:H l=none) {ds:List D} {xs:List V} (rl:RepL K (mt S F) H ds xs) (q:newL b ds S QD):Q (.ref l) (upd H l (.lst xs)):=by
 cases b with
 | false=>exact c.lst r h rl q
 | true=>exact c.lstR r h rl (q l (r.sn h))
def lsIs (S:Sto):D->List D->Prop
 | .lst ys,xs=>ys=xs
 | .ref a,xs=>S a=some (.lst xs)
 | _,_=>False
def sqIs (S:Sto):D->List D->Prop
 | .tup ys,xs=>ys=xs
 | .lst ys,xs=>ys=xs
 | .ref a,xs=>S a=some (.lst xs)
 | _,_=>False
theorem lsIs.sl (r:Rp K F S H) {d:D} {v:V} {ds:List D} (h:RepV K (mt S F) H d v) (l:lsIs S d ds):∃ a xs,v=.ref a/\SqL K H a xs/\RepL K (mt S F) H ds xs:=by
 cases d with
 | lst ys =>
  cases l;unfold RepV at h;obtain⟨a,xs,e,q,z⟩:=h;exact⟨a,xs,e,q.sq,z⟩
 | ref a =>
  unfold RepV at h;obtain⟨xs,e,z⟩:=r.obj a _ l;exact⟨a,xs,h,SqL.of e,z⟩
 | _=>exact l.elim
theorem tup.st {ds:List D} {v:V} (h:RepV K (mt S F) H (.tup ds) v):∃ a xs,v=.ref a/\SqT K H a xs/\RepL K (mt S F) H ds xs:=by
 unfold RepV at h;obtain⟨a,xs,e,t,z⟩:=h;exact⟨a,xs,e,t.sq,z⟩
theorem sqIs.sq (r:Rp K F S H) {d:D} {v:V} {ds:List D} (h:RepV K (mt S F) H d v) (l:sqIs S d ds):∃ a xs,v=.ref a/\(SqL K H a xs\/SqT K H a xs)/\RepL K (mt S F) H ds xs:=by
 cases d with
 | tup ys =>
  cases l;obtain⟨a,xs,e,t,z⟩:=tup.st h;exact⟨a,xs,e,.inr t,z⟩
 | lst ys =>
  obtain⟨a,xs,e,t,z⟩:=lsIs.sl r h (show lsIs S (.lst ys) ds from l)
  exact⟨a,xs,e,.inl t,z⟩
 | ref a =>
  obtain⟨a,xs,e,t,z⟩:=lsIs.sl r h (show lsIs S (.ref a) ds from l)
  exact⟨a,xs,e,.inl t,z⟩
 | _=>exact l.elim
theorem rint {i:Int} {v:V} (h:RepV K (mt S F) H (.int i) v):v=.int i:=by unfold RepV at h;exact h
theorem rstr {i:Str} {v:V} (h:RepV K (mt S F) H (.str i) v):v=.str i:=by unfold RepV at h;exact h
theorem rbl {i:Bool} {v:V} (h:RepV K (mt S F) H (.bl i) v):v=.bl i:=by unfold RepV at h;exact h
theorem rref {i:Addr} {v:V} (h:RepV K (mt S F) H (.ref i) v):v=.ref i:=by unfold RepV at h;exact h
theorem rnon {v:V} (h:RepV K (mt S F) H .non v):v=.non:=by unfold RepV at h;exact h
end
section
variable {X:Cx} {K:Fg}
def eJ6 (K:Fg):R2:=fun x y H Q=>∃ l b xs zs,x=.ref l/\y=.ref b/\SqL K H l xs/\SqL K H b zs/\xs.length + zs.length<=sizeLine/\∀ p,H p=none->Q (.ref p) (upd H p (.lst (xs++zs)))
theorem dJt (hK:X.K=K:=by rfl):OpR X (binaryOp .Add) (eJ6 K):=by
 subst hK;intro pins s σ H x y v u Q I rx ry h;obtain⟨l,b,xs,zs,rfl,rfl,hH,hB,hz,q⟩:=h;cases rx;cases ry;obtain⟨its,r,⟨⟨cls,dd,data,sl⟩,n,ho,hc,hd,hdt⟩,hz1⟩:=I.list hH;obtain⟨its2,r2,⟨⟨cls2,dd2,data2,sl2⟩,n2,ho2,hc2,hd2,hdt2⟩,hz2⟩:=I.list hB;simp only at hc hd hdt hc2 hd2 hdt2;subst hc hd hdt hc2 hd2 hdt2;have h1:=r.length;have h2:=r2.length;refine concat_meets ⟨_,ho,rfl⟩ ⟨_,ho2,rfl⟩ noFill_list_add seq_list_add PySem.F.slot_list_add PySem.F.entry_list_add (PySem.F.args_list_add_2 _ _)
  (list_addW l b its.toArray its2.toArray n n2 none none sl sl2 (by rw[List.size_toArray,List.size_toArray];lia)) ⟨ho,ho2,?_⟩
 have ea:its.toArray++its2.toArray=(its++its2).toArray:=by simp
 rw[ea];exact⟨.ref _,_,I.lnew (t':=s.toks) (r.append r2) (by rw[List.length_append];lia),rfl,q _ I.fresh⟩
def eJ7 (K:Fg):R2:=fun x y H Q=>∃ a b ys,x=.ref a/\y=.ref b/\SqT K H a []/\SqT K H b ys/\Q (.ref b) H
theorem dJu (hK:X.K=K:=by rfl):OpR X (binaryOp .Add) (eJ7 K):=by
 subst hK;intro pins s σ H x y v u Q I rx ry h;obtain⟨a,b,ys,rfl,rfl,ha,hb,q⟩:=h;cases rx;cases ry;obtain⟨its,r1,p1,_⟩:=I.tuple ha;obtain⟨its2,r2,p2,_⟩:=I.tuple hb;cases r1;obtain⟨⟨cls,dd,data,sl⟩,ho,hc,n,hd⟩:=id p1;obtain⟨⟨cls2,dd2,data2,sl2⟩,ho2,hc2,n2,hd2⟩:=id p2;simp only at hc hd hc2 hd2;subst hc hd hc2 hd2;exact concat_meets ⟨_,ho,rfl⟩ ⟨_,ho2,rfl⟩ noFill_tuple_add seq_tuple_add PySem.F.slot_tuple_add PySem.F.entry_tuple_add (PySem.F.args_tuple_add_2 _ _)
   (tuple_addW0 a b _ _ n n2 dd dd2 sl sl2 rfl) ⟨ho,ho2,⟨.ref b,H,I,rfl,q⟩⟩
def addD (b:Bool):R2D:=fun d e S Q=>match d,e with
 | .int i,.int j=>Q (.int (i + j)) S
 | .str x,.str y=>x.length + y.length<=sizeLine/\Q (.str (x++y)) S
 | .tup xs,.tup ys=>xs.length + ys.length<=sizeLine/\Q (.tup (xs++ys)) S
 | d,e=>∃ xs ys,lsIs S d xs/\lsIs S e ys/\xs.length + ys.length<=sizeLine/\newL b (xs++ys) S Q
def dJv (K:Fg):R2:=fun x y H Q=>rI0 (fun i j=>.int (i + j)) x y H Q\/(∃ i j,x=.str i/\y=.str j/\i.length + j.length<=sizeLine/\Q (.str (i++j)) H)\/dXw K x y H Q\/eJ7 K x y H Q\/eJ6 K x y H Q
theorem dJw (hK:X.K=K:=by rfl):OpR X (binaryOp .Add) (dJv K):=op_add.or (op_add_str.or ((dQf hK).or ((dJu hK).or (dJt hK))))
theorem eJ8 {b:Bool}:OpD K (dJv K) (addD b):=by
 intro F S H d e x y Q QD r hd he h c;have lists:(∃ xs ys,lsIs S d xs/\lsIs S e ys/\xs.length + ys.length<=sizeLine/\newL b (xs++ys) S QD)->dJv K x y H Q:=by
  rintro⟨xs,ys,l1,l2,hz,q⟩;obtain⟨a,us,rfl,s1,p1⟩:=lsIs.sl r hd l1;obtain⟨a2,us2,rfl,s2,p2⟩:=lsIs.sl r he l2;exact .inr (.inr (.inr (.inr ⟨a,a2,us,us2,rfl,rfl,s1,s2,by rw[p1.length,p2.length];exact hz,fun p hp=>c.new r hp (p1.app p2) q⟩)))
 cases d with
 | int i =>
  cases e with
  | int j=>rw[rint hd,rint he];exact .inl ⟨i,j,rfl,rfl,c.int r h⟩
  | _=>exact lists h
 | str i =>
  cases e with
  | str j=>rw[rstr hd,rstr he];exact .inr (.inl ⟨i,j,rfl,rfl,h.1,c.str r h.2⟩)
  | _=>exact lists h
 | tup xs =>
  cases e with
  | tup ys =>
   obtain⟨a,us,rfl,s1,p1⟩:=tup.st hd;obtain⟨a2,us2,rfl,s2,p2⟩:=tup.st he
   by_cases hx:xs=[]
   ·subst hx;unfold RepL at p1;subst p1;exact .inr (.inr (.inr (.inl ⟨a,a2,us2,rfl,rfl,s1,s2,c.here r he (by simpa using h.2)⟩)))
   ·refine .inr (.inr (.inl ⟨a,a2,us,us2,rfl,rfl,s1,s2,fun z=>hx ?_,by rw[p1.length,p2.length];exact h.1,fun z=>?_,fun _ p hp=>c.tup r hp (p1.app p2) h.2⟩))
    ·have:=p1.length;rw[z] at this;exact List.eq_nil_of_length_eq_zero this.symm
    ·have h0:ys=[]:=by have:=p2.length;rw[z] at this;exact List.eq_nil_of_length_eq_zero this.symm
     subst h0;exact c.here r hd (by simpa using h.2)
  | _=>exact lists h
 | _=>exact lists h
def iiD (C:Int->Int->Prop) (g:Int->Int->D):R2D:=fun d e S Q=>match d,e with
 | .int i,.int j=>C i j/\Q (g i j) S
 | _,_=>False
theorem od_I {C:Int->Int->Prop} {g:Int->Int->Int}:OpD K (rI C fun i j=>.int (g i j)) (iiD C fun i j=>.int (g i j)):=by
 intro F S H d e x y Q QD r hd he h c;cases d with
 | int i =>
  cases e with
  | int j=>rw[rint hd,rint he];exact⟨i,j,rfl,rfl,h.1,c.int r h.2⟩
  | _=>exact h.elim
 | _=>exact h.elim
def iiD0 (g:Int->Int->D):R2D:=fun d e S Q=>match d,e with
 | .int i,.int j=>Q (g i j) S
 | _,_=>False
theorem eJ9 {g:Int->Int->Int}:OpD K (rI0 fun i j=>.int (g i j)) (iiD0 fun i j=>.int (g i j)):=by
 intro F S H d e x y Q QD r hd he h c;cases d with
 | int i =>
  cases e with
  | int j=>rw[rint hd,rint he];exact⟨i,j,rfl,rfl,c.int r h⟩
  | _=>exact h.elim
 | _=>exact h.elim
theorem cQz {g:Int->Int->Bool}:OpD K (rI0 fun i j=>.bl (g i j)) (iiD0 fun i j=>.bl (g i j)):=by
 intro F S H d e x y Q QD r hd he h c;cases d with
 | int i =>
  cases e with
  | int j=>rw[rint hd,rint he];exact⟨i,j,rfl,rfl,c.bl r h⟩
  | _=>exact h.elim
 | _=>exact h.elim
section
variable {a b:Expr} {ta tb:ED} {pos:Pos}
theorem aQu {k:Bool} (ha:PD K X a ta) (hb:PD K X b tb) (hK:X.K=K:=by rfl):PD K X (.BinOp a .Add b pos) (dOp (addD k) ta tb):=e_op (dJw hK) eJ8 ha hb
theorem cZ0 (ha:PD K X a ta) (hb:PD K X b tb):PD K X (.BinOp a .Sub b pos) (dOp (iiD0 fun i j=>.int (i - j)) ta tb):=e_op eZp eJ9 ha hb
theorem aJo (ha:PD K X a ta) (hb:PD K X b tb):PD K X (.BinOp a .Mult b pos) (dOp (iiD CMul fun i j=>.int (i * j)) ta tb):=e_op eZq od_I ha hb
theorem aQz (ha:PD K X a ta) (hb:PD K X b tb):PD K X (.BinOp a .Mod b pos) (dOp (iiD (fun _ j=>0 < j) fun i j=>.int (i % j)) ta tb):=e_op eZr od_I ha hb
theorem aJ0 (ha:PD K X a ta) (hb:PD K X b tb):PD K X (.BinOp a .FloorDiv b pos) (dOp (iiD CDiv fun i j=>.int (i / j)) ta tb):=e_op dXl od_I ha hb
theorem fZk (ha:PD K X a ta) (hb:PD K X b tb):PD K X (.BinOp a .Pow b pos) (dOp (iiD CPow fun i j=>.int (i ^ j.toNat)) ta tb):=e_op eZs od_I ha hb
theorem dJx (ha:PD K X a ta) (hb:PD K X b tb):PD K X (.BinOp a .RShift b pos) (dOp (iiD (fun _ j=>0<=j) fun i j=>.int (i / 2 ^ j.toNat)) ta tb):=e_op eZt od_I ha hb
theorem bJv (ha:PD K X a ta) (hb:PD K X b tb):PD K X (.BinOp a .BitAnd b pos) (dOp (iiD0 fun i j=>.int (Builtin.bitAnd i j)) ta tb):=e_op eZu eJ9 ha hb
end
def unD (g:Int->D):D->Sto->DK->Prop:=fun d S Q=>match d with
 | .int i=>Q (g i) S
 | _=>False
def dUn (rd:D->Sto->DK->Prop) (ta:ED):ED:=fun Γ S Q=>ta Γ S fun x S1=>rd x S1 Q
theorem fZl {a:Expr} {ta:ED} {pos:Pos} (ha:PD K X a ta):PD K X (.UnaryOp .USub a pos) (dUn (unD fun i=>.int (-i)) ta):=.of (fZ9 eZv ha.o) fun σ H Q z0=>z0.el fun F S Γ QD r g q c =>
 ⟨F,S,Γ,_,r,g,q,fun v d H1 S1 x1 r1 v1 q1=>by
  cases d with
  | int i=>rw[rint v1];exact⟨i,rfl,Cn.int (fun v z H3 S3 x3=>c v z H3 S3 (x1.trans x3)) r1 q1⟩
  | _=>exact q1.elim⟩
def dNil:AD:=fun _ S Q=>Q [] S
def cXh (ta:ED) (tr:AD):AD:=fun Γ S Q=>ta Γ S fun x S1=>tr Γ S1 fun xs S2=>Q (x::xs) S2
theorem aQ1:PAD K X [] dNil:=.of bJd fun σ H Q z0=>z0.el fun F S Γ QD r g q c=>c [] [] H S (Ext.refl _ _) r RepL.nil q
theorem aQ0 {e:Expr} {es:List Expr} {te:ED} {t:AD} (ha:PD K X e te) (hr:PAD K X es t) (hs:starEach (e::es) X.env=(false,eval e X.env)::starEach es X.env:=by rfl):PAD K X (e::es) (cXh te t) :=
 .of (bQn ha.o hr.o hs) fun σ H Q z0=>z0.el fun F S Γ QD r g q c=>⟨F,S,Γ,_,r,g,q,fun v d H1 S1 x1 r1 v1 q1=>⟨F,S1,Γ,_,r1,g.ext x1,q1,fun vs ds H2 S2 x2 r2 v2 q2=>c (v::vs) (d::ds) H2 S2 (x1.trans x2) r2 (RepL.cons (v1.ext x2) v2) q2⟩⟩
def dTup (t:AD):ED:=fun Γ S Q=>t Γ S fun ds S1=>ds.length<=sizeLine/\Q (.tup ds) S1
def dLst (b:Bool) (t:AD):ED:=fun Γ S Q=>t Γ S fun ds S1=>ds.length<=sizeLine/\newL b ds S1 Q
theorem Cn.shift {F:Am} {S S1:Sto} {H H1:Hp} {QD:DK} {Q:VK} (c:∀ v d H' S',Ext S H S' H'->Rp K F S' H'->RepV K (mt S' F) H' d v->QD d S'->Q v H') (x:Ext S H S1 H1):Cn K F S1 H1 QD Q:=fun v z H3 S3 x3=>c v z H3 S3 (x.trans x3)
theorem aJp {es:List Expr} {t:AD} {x1 pos} (h:PAD K X es t):PD K X (.Tuple es x1 pos) (dTup t):=.of (eZz h.o) fun σ H Q z0=>z0.el fun F S Γ QD r g q c =>
 ⟨F,S,Γ,_,r,g,q,fun vs ds H1 S1 x1 r1 v1 q1=>⟨by rw[v1.length];exact q1.1,fun p hp=>(Cn.shift c x1).tup r1 hp v1 q1.2⟩⟩
theorem aZ3 {b:Bool} {es:List Expr} {t:AD} {pos} (h:PAD K X es t):PD K X (.List es pos) (dLst b t):=.of (eX0 h.o) fun σ H Q z0=>z0.el fun F S Γ QD r g q c =>
 ⟨F,S,Γ,_,r,g,q,fun vs ds H1 S1 x1 r1 v1 q1=>⟨by rw[v1.length];exact q1.1,fun p hp=>(Cn.shift c x1).new r1 hp v1 q1.2⟩⟩
abbrev RCD:=List D->Sto->DK->Prop
def bQ7 (K:Fg) (r:List V->Hp->VK->Prop) (rd:RCD):Prop:=∀ F S H ds vs Q QD,Rp K F S H->RepL K (mt S F) H ds vs->rd ds S QD->Cn K F S H QD Q->r vs H Q
def dCB (rd:RCD) (t:AD):ED:=fun Γ S Q=>t Γ S fun ds S1=>rd ds S1 Q
theorem eJa {r:List V->Hp->VK->Prop} {rd:RCD} {t:AD} (h:bQ7 K r rd):∀ σ H Q,upE K (dCB rd t) σ H Q->tCB r (upA K t) σ H Q:=fun σ H Q z0=>z0.el fun F S Γ QD r g q c =>
 ⟨F,S,Γ,_,r,g,q,fun vs ds H1 S1 x1 r1 v1 q1=>h F S1 H1 ds vs Q QD r1 v1 q1 (Cn.shift c x1)⟩
theorem aXa {id:String} {r:List V->Hp->VK->Prop} {rd:RCD} {x:Str} {p pos:Pos} {e:Expr} {es:List Expr} {t:AD} (hc:CallR X (.builtin id) r) (h:bQ7 K r rd) (hg:Gl X x) (hm:X.mg x=none) (hv:bootBuiltins x=some (.builtin id)) (ha:PAD K X (e::es) t) (hn:x ≠ "__name__":=by decide) (hdb:(x == ("__debug__" : Str))=false:=by decide)
  (he:starEach (e::es) X.env=(false,eval e X.env)::starEach es X.env:=by rfl) (hpl:(backTo pos (starEach es X.env)).any (·.1)=false:=by rfl):PD K X (.Call (.Name x p) (e::es) [] pos) (dCB rd t):=.of (bQo hc hg hm hv ha.o hn hdb he hpl) (eJa h)
theorem bZ2 {T:String} {r:List V->Hp->VK->Prop} {rd:RCD} {x:Str} {p pos:Pos} {e:Expr} {es:List Expr} {t:AD} (hc:CallR X (.type T) r) (h:bQ7 K r rd) (hg:Gl X x) (hm:X.mg x=none) (hv:bootBuiltins x=some (.type T)) (ha:PAD K X (e::es) t) (hn:x ≠ "__name__":=by decide) (hdb:(x == ("__debug__" : Str))=false:=by decide)
  (he:starEach (e::es) X.env=(false,eval e X.env)::starEach es X.env:=by rfl) (hpl:(backTo pos (starEach es X.env)).any (·.1)=false:=by rfl):PD K X (.Call (.Name x p) (e::es) [] pos) (dCB rd t):=.of (bZr hc hg hm hv ha.o hn hdb he hpl) (eJa h)
end
mutual
def beqD:D->D->Bool
 | .non,.non=>true
 | .bl a,.bl b=>a == b
 | .int a,.int b=>decide (a=b)
 | .str a,.str b=>decide (a=b)
 | .ty a,.ty b=>decide (a=b)
 | .ref a,.ref b=>decide (a=b)
 | .tup a,.tup b=>bXy a b
 | .lst a,.lst b=>bXy a b
 | _,_=>false
def bXy:List D->List D->Bool
 | [],[]=>true
 | a::as,b::bs=>beqD a b && bXy as bs
 | _,_=>false
end
mutual
theorem cXi:∀ {a b:D},beqD a b=true↔a=b
 | .non,b=>by cases b <;> simp[beqD]
 | .bl _,b=>by cases b <;> simp[beqD]
 | .int _,b=>by cases b <;> simp[beqD]
 | .str _,b=>by cases b <;> simp[beqD]
 | .ty _,b=>by cases b <;> simp[beqD]
 | .ref _,b=>by cases b <;> simp[beqD]
 | .tup as,b=>by
  cases b with
  | tup bs=>simp only[beqD,D.tup.injEq];exact bZ3
  | _=>simp[beqD]
 | .lst as,b=>by
  cases b with
  | lst bs=>simp only[beqD,D.lst.injEq];exact bZ3
  | _=>simp[beqD]
theorem bZ3:∀ {a b:List D},bXy a b=true↔a=b
 | [],b=>by cases b <;> simp[bXy]
 | a::as,[]=>by simp[bXy]
 | a::as,b::bs=>by
  simp only[bXy,Bool.and_eq_true,List.cons.injEq];rw[cXi,bZ3]
end
instance:DecidableEq D:=fun a b=>decidable_of_iff _ (cXi (a:=a) (b:=b))
def okE:Nat->D->D->Bool
 | _,.int _,.int _=>true
 | _,.str _,.str _=>true
 | _,.bl _,.bl _=>true
 | _,.non,.non=>true
 | _,.non,.int _=>true
 | _,.int _,.non=>true
 | _,.non,.str _=>true
 | _,.str _,.non=>true
 | n + 1,.non,.tup _=>true
 | n + 1,.tup _,.non=>true
 | n + 1,.tup xs,.tup ys=>(xs.zip ys).all fun p=>okE n p.1 p.2
 | n + 1,.lst xs,.lst ys=>(xs.zip ys).all fun p=>okE n p.1 p.2
 | _,_,_=>false
abbrev okEs (n:Nat) (xs ys:List D):Bool:=(xs.zip ys).all fun p=>okE n p.1 p.2
section
variable {X:Cx} {pins:List (Addr × Obj)} {σ:St} {H:Hp} {s:Shared} {M:Am}
structure Eq3 (A:Around) (s:Shared) (u v:Value) (b:Bool):Prop where
 eq:SeqAt.EqAt A s u v b
 rc:SeqAt.RcAt A s u v b
 ne:SeqAt.RcNeAt A s u v (!b)
theorem dJy {xs ys:List D}:decide (D.tup xs=D.tup ys)=decide (xs=ys):=by simp
theorem dJz {xs ys:List D}:decide (D.lst xs=D.lst ys)=decide (xs=ys):=by simp
theorem eQ0 {xs ys:List D} {j:Nat} {a b:D} (h1:xs[j]?=some a) (h2:ys[j]?=some b):(a,b)∈xs.zip ys:=by
 have h1':j < xs.length:=by
  rcases Nat.lt_or_ge j xs.length with z | z
  ·exact z
  ·rw[List.getElem?_eq_none z] at h1;cases h1
 have h2':j < ys.length:=by
  rcases Nat.lt_or_ge j ys.length with z | z
  ·exact z
  ·rw[List.getElem?_eq_none z] at h2;cases h2
 have e1:xs[j]=a:=by rw[List.getElem?_eq_getElem h1'] at h1;exact Option.some.inj h1
 have e2:ys[j]=b:=by rw[List.getElem?_eq_getElem h2'] at h2;exact Option.some.inj h2
 have hz:j < (xs.zip ys).length:=by rw[List.length_zip];lia
 have:(xs.zip ys)[j]=(a,b):=by rw[List.getElem_zip,e1,e2]
 rw[<- this];exact List.getElem_mem hz
theorem dZv {n:Nat} {xs ys:List V} {us vs:List Value} {ds es:List D} {A:Around} (p:RepL X.K M H ds xs) (p':RepL X.K M H es ys) (r:Vals xs us) (r':Vals ys vs) (hz:okEs n ds es=true)
  (ih:∀ {d e:D} {x y:V} {u v:Value},RepV X.K M H d x->RepV X.K M H e y->RelV x u->RelV y v->okE n d e=true->Eq3 A s u v (decide (d=e))) :
  ∀ j (h1:j < us.toArray.size) (h2:j < vs.toArray.size),SeqAt.EqAt A s us.toArray[j] vs.toArray[j] (decide (ds[j]?=es[j]?)):=by
 intro j h1 h2;simp only[List.size_toArray] at h1 h2;have hx:j < xs.length:=by have:=r.length;lia
 have hy:j < ys.length:=by have:=r'.length;lia
 obtain⟨d,ed,rd⟩:=p.get' (List.getElem?_eq_getElem hx);obtain⟨e,ee,re⟩:=p'.get' (List.getElem?_eq_getElem hy);obtain⟨u,eu,ru⟩:=r.get (List.getElem?_eq_getElem hx);obtain⟨v,ev,rv⟩:=r'.get (List.getElem?_eq_getElem hy);have eu':us[j]=u:=by rw[List.getElem?_eq_getElem h1] at eu;exact Option.some.inj eu
 have ev':vs[j]=v:=by rw[List.getElem?_eq_getElem h2] at ev;exact Option.some.inj ev
 have:decide (ds[j]?=es[j]?)=decide (d=e):=by rw[ed,ee];simp
 rw[this];simp only[List.getElem_toArray];rw[eu',ev'];exact(ih rd re ru rv (List.all_eq_true.mp hz _ (eQ0 ed ee))).eq
theorem dZw {n:Nat} {a b:Addr} {xs ys:List V} {ds es:List D} {A:Around} (I:Inv X pins σ H s) (q:SqL X.K H a xs) (q':SqL X.K H b ys) (p:RepL X.K M H ds xs) (p':RepL X.K M H es ys) (hz:okEs n ds es=true) (hu:A.units + (n + 1) < cLine)
  (ih:∀ {d e:D} {x y:V} {u v:Value},RepV X.K M H d x->RepV X.K M H e y->RelV x u->RelV y v->okE n d e=true->Eq3 A.in1 s u v (decide (d=e))) :
  SeqAt.RcAt A s (.ref a) (.ref b) (decide (ds=es))/\SeqAt.RcNeAt A s (.ref a) (.ref b) (!decide (ds=es)):=by
 obtain⟨us,ru,pl,_⟩:=I.list q;obtain⟨vs,rv,pl',_⟩:=I.list q';have l1:=p.length;have l2:=p'.length;have l3:=ru.length;have l4:=rv.length;have it:=dZv (A:=A.in1) p p' ru rv hz ih
 by_cases hl:ds.length=es.length
 ·have hs:us.toArray.size=vs.toArray.size:=by rw[List.size_toArray,List.size_toArray];lia
  have ans:((List.range (us.toArray.size)).all fun j=>decide (ds[j]?=es[j]?))=decide (ds=es):=by
   have:=cZt ds es us.toArray.size vs.toArray.size (by rw[List.size_toArray];lia) (by rw[List.size_toArray];lia)
   rw[hs,Nat.min_self] at this;rw[hs,<- this];simp
  have h1:=SeqAt.RcAt.lists (e:=fun j=>decide (ds[j]?=es[j]?)) pl.isList pl'.isList hs (show A.units < cLine by lia) fun j h1 h2=>it j h1 h2
  have h2:=SeqAt.RcNeAt.lists (e:=fun j=>decide (ds[j]?=es[j]?)) pl.isList pl'.isList hs (show A.units < cLine by lia) fun j h1 h2=>it j h1 h2
  rw[ans] at h1 h2;exact⟨h1,h2⟩
 ·have hs:(us.toArray.size != vs.toArray.size)=true:=by rw[List.size_toArray,List.size_toArray];simp;lia
  have hne:ds≠es:=fun e=>hl (by rw[e])
  rw[decide_eq_false hne];exact⟨SeqAt.RcAt.lists_lengths pl.isList pl'.isList hs (by lia),SeqAt.RcNeAt.lists_lengths pl.isList pl'.isList hs (by lia)⟩
theorem eQ1 {n:Nat} (ih:∀ {d e:D} {v:V},RepV X.K M H d v->RepV X.K M H e v->okE n d e=true->d=e):∀ {ds es:List D} {xs:List V},RepL X.K M H ds xs->RepL X.K M H es xs->okEs n ds es=true->ds=es
 | [],[],_,_,_,_=>rfl
 | [],e::es,xs,p,p',_=>by have h1:=p.length;have h2:=p'.length;rw[h1] at h2;simp at h2
 | d::ds,[],xs,p,p',_=>by have h1:=p.length;have h2:=p'.length;rw[h1] at h2;simp at h2
 | d::ds,e::es,xs,p,p',h=>by
  unfold RepL at p p';obtain⟨v,vs,rfl,r,l⟩:=p;obtain⟨v',vs',e1,r',l'⟩:=p';cases e1;simp only[okEs,List.zip_cons_cons,List.all_cons,Bool.and_eq_true] at h;rw[ih r r' h.1,eQ1 ih l l' h.2]
theorem uniq (I:Inv X pins σ H s):∀ (n:Nat) {d e:D} {v:V},RepV X.K M H d v->RepV X.K M H e v->okE n d e=true->d=e:=by
 intro n
 induction n with
 | zero =>
  intro d e v h h' o;cases d <;> cases e <;> first | rfl | (cases o;done) | (unfold RepV at h h';rw[h] at h';cases h';done) | (unfold RepV at h h';rw[h] at h';cases h';rfl)
 | succ n ih =>
  intro d e v h h' o;cases d <;> cases e <;> first | rfl | (cases o;done) | (unfold RepV at h h';rw[h] at h';cases h';done) | (unfold RepV at h h';rw[h] at h';cases h';rfl) | skip
  ·unfold RepV at h h';obtain⟨a,xs,e1,_⟩:=h';rw[h] at e1;cases e1
  ·unfold RepV at h h';obtain⟨a,xs,e1,_⟩:=h;rw[h'] at e1;cases e1
  ·unfold RepV at h h';obtain⟨a,xs,rfl,t,l⟩:=h;obtain⟨b,ys,e1,t',l'⟩:=h';cases e1
   have:=I.tuple_inj t.sq t'.sq
   subst this;rw[eQ1 ih l l' o]
  ·unfold RepV at h h';obtain⟨a,xs,rfl,t,l⟩:=h;obtain⟨b,ys,e1,t',l'⟩:=h';cases e1
   have:=I.list_inj t.sq t'.sq
   subst this;rw[eQ1 ih l l' o]
theorem eq3 (I:Inv X pins σ H s):∀ (n:Nat) {A:Around} {d e:D} {x y:V} {u v:Value},A.units + n < cLine->RepV X.K M H d x->RepV X.K M H e y->RelV x u->RelV y v->okE n d e=true->Eq3 A s u v (decide (d=e)):=by
 intro n
 induction n with
 | zero =>
  intro A d e x y u v hu h h' r r' o;cases d <;> cases e <;> first | (cases o;done) | skip
  all_goals unfold RepV at h h';subst h;subst h'
  ·cases r;cases r';exact⟨SeqAt.EqAt.same _,SeqAt.RcAt.none_none,SeqAt.RcNeAt.none_none⟩
  ·cases r;obtain⟨t,rfl⟩:=r';exact⟨SeqAt.EqAt.none_int _ _,SeqAt.RcAt.none_int _ _,SeqAt.RcNeAt.none_int _ _⟩
  ·cases r;obtain⟨t,rfl⟩:=r';exact⟨SeqAt.EqAt.none_str _ _,SeqAt.RcAt.none_str _ _,SeqAt.RcNeAt.none_str _ _⟩
  ·cases r;cases r';rw[show ∀ a b:Bool,decide (D.bl a=D.bl b)=(a == b) from by intro a b;cases a <;> cases b <;> rfl];exact⟨SeqAt.EqAt.bool_bool _ _,SeqAt.RcAt.bool_bool _ _,SeqAt.RcNeAt.bool_bool _ _⟩
  ·obtain⟨t,rfl⟩:=r;cases r';exact⟨SeqAt.EqAt.int_none _ _,SeqAt.RcAt.int_none _ _,SeqAt.RcNeAt.int_none _ _⟩
  ·obtain⟨t,rfl⟩:=r;obtain⟨t',rfl⟩:=r';rw[show ∀ a b:Int,decide (D.int a=D.int b)=(a == b) from by intro a b;rw[beq_dec];simp];exact⟨SeqAt.EqAt.int_int _ _ _ _,SeqAt.RcAt.int_int _ _ _ _,SeqAt.RcNeAt.int_int _ _ _ _⟩
  ·obtain⟨t,rfl⟩:=r;cases r';exact⟨SeqAt.EqAt.str_none _ _,SeqAt.RcAt.str_none _ _,SeqAt.RcNeAt.str_none _ _⟩
  ·obtain⟨t,rfl⟩:=r;obtain⟨t',rfl⟩:=r';rw[show ∀ a b:Str,decide (D.str a=D.str b)=(a == b) from by intro a b;rw[beq_dec];simp];exact⟨SeqAt.EqAt.str_str _ _ _ _,SeqAt.RcAt.str_str _ _ _ _,SeqAt.RcNeAt.str_str _ _ _ _⟩
 | succ n ih =>
  intro A d e x y u v hu h h' r r' o;cases d <;> cases e <;> first | (cases o;done) | skip
  ·exact ih (by lia) h h' r r' (by cases n <;> rfl)
  ·exact ih (by lia) h h' r r' (by cases n <;> rfl)
  ·exact ih (by lia) h h' r r' (by cases n <;> rfl)
  ·unfold RepV at h;subst h;cases r;obtain⟨a,xs,rfl,t,l⟩:=(show RepV X.K M H (.tup _) y from h')
   cases r';obtain⟨us,ru,pl,_⟩:=I.tuple t.sq;exact⟨SeqAt.EqAt.none_tuple pl (by lia),SeqAt.RcAt.none_tuple pl (by lia),SeqAt.RcNeAt.none_tuple pl (by lia)⟩
  ·exact ih (by lia) h h' r r' (by cases n <;> rfl)
  ·exact ih (by lia) h h' r r' (by cases n <;> rfl)
  ·exact ih (by lia) h h' r r' (by cases n <;> rfl)
  ·exact ih (by lia) h h' r r' (by cases n <;> rfl)
  ·exact ih (by lia) h h' r r' (by cases n <;> rfl)
  ·unfold RepV at h';subst h';cases r';obtain⟨a,xs,rfl,t,l⟩:=(show RepV X.K M H (.tup _) x from h)
   cases r;obtain⟨us,ru,pl,_⟩:=I.tuple t.sq;exact⟨SeqAt.EqAt.tuple_none pl (by lia),SeqAt.RcAt.tuple_none pl (by lia),SeqAt.RcNeAt.tuple_none pl (by lia)⟩
  ·rename_i ds es;have un:=fun {e:D}=>uniq (e:=e) I (n + 1) h;have h0:=h;have h0':=h';unfold RepV at h h';obtain⟨a,xs,rfl,t,l⟩:=h;obtain⟨b,ys,rfl,t',l'⟩:=h';cases r;cases r';obtain⟨us,ru,pl,_⟩:=I.tuple t.sq;obtain⟨vs,rv,pl',_⟩:=I.tuple t'.sq;have l1:=l.length;have l2:=l'.length;have l3:=ru.length;have l4:=rv.length;have it:=dZv (A:=A.in1) l l' ru rv o fun q q' z z' o=>ih (show A.units + 1 + n < cLine by lia) q q' z z' o
   have ans:=cZt ds es us.toArray.size vs.toArray.size (by rw[List.size_toArray];lia) (by rw[List.size_toArray];lia)
   have h1:=SeqAt.RcAt.tuples pl pl' (show A.units < cLine by lia) it
   have h2:=SeqAt.RcNeAt.tuples pl pl' (show A.units < cLine by lia) it
   rw[ans] at h1 h2;rw[dJy];refine⟨?_,h1,h2⟩
   by_cases hab:a=b
   ·subst hab;have e1:=un h0' o;cases e1;rw[decide_eq_true rfl];exact SeqAt.EqAt.same _
   ·exact SeqAt.EqAt.of_refs hab h1
  ·have un:=fun {e:D}=>uniq (e:=e) I (n + 1) h;have h0':=h';unfold RepV at h h';obtain⟨a,xs,rfl,t,l⟩:=h;obtain⟨b,ys,rfl,t',l'⟩:=h';cases r;cases r';obtain⟨h1,h2⟩:=dZw (A:=A) (n:=n) I t.sq t'.sq l l' o hu fun q q' z z' o=>ih (show A.units + 1 + n < cLine by lia) q q' z z' o
   rw[dJz];refine⟨?_,h1,h2⟩
   by_cases hab:a=b
   ·subst hab;have e1:=un h0' o;cases e1;rw[decide_eq_true rfl];exact SeqAt.EqAt.same _
   ·exact SeqAt.EqAt.of_refs hab h1
def eqD (neg:Bool):R2D:=fun d e S Q=>match d,e with
 | .ref a,e=>∃ xs ys,S a=some (.lst xs)/\lsIs S e ys/\okEs 8 xs ys=true/\Q (.bl (if neg then !decide (xs=ys) else decide (xs=ys))) S
 | .lst xs,.ref a=>∃ ys,S a=some (.lst ys)/\okEs 8 xs ys=true/\Q (.bl (if neg then !decide (xs=ys) else decide (xs=ys))) S
 | d,e=>okE 9 d e=true/\Q (.bl (if neg then !decide (d=e) else decide (d=e))) S
def rEqA (K:Fg) (neg:Bool):R2:=fun x y H Q=>∃ b,(∀ {X:Cx} {pins:List (Addr × Obj)} {σ:St} {s:Shared},Inv X pins σ H s->X.K=K->∀ {u v:Value},RelV x u->RelV y v->∀ A:Around,A.units + 9 < cLine->SeqAt.RcAt A s u v b/\SeqAt.RcNeAt A s u v (!b))/\Q (.bl (if neg then !b else b)) H
theorem dZx {K:Fg} (hu:X.A.units + 9 < cLine) (hK:X.K=K:=by rfl):OpR X (compareOp .Eq) (rEqA K false):=by
 intro pins s σ H x y v u Q I rx ry ⟨b,h,q⟩;exact(h I hK rx ry X.A hu).1 _ _ _ _ ⟨.bl b,H,I,rfl,q⟩
theorem eJb {K:Fg} (hu:X.A.units + 9 < cLine) (hK:X.K=K:=by rfl):OpR X (compareOp .NotEq) (rEqA K true):=by
 intro pins s σ H x y v u Q I rx ry ⟨b,h,q⟩;exact(h I hK rx ry X.A hu).2 _ _ _ _ ⟨.bl (!b),H,I,rfl,q⟩
theorem eQ2 {K:Fg} {neg:Bool}:OpD K (rEqA K neg) (eqD neg):=by
 intro F S H d e x y Q QD r hd he h c;have lists:∀ {xs ys:List D},lsIs S d xs->lsIs S e ys->okEs 8 xs ys=true->QD (.bl (if neg then !decide (xs=ys) else decide (xs=ys))) S->rEqA K neg x y H Q:=by
  intro xs ys l1 l2 o q;obtain⟨a,us,rfl,s1,p1⟩:=lsIs.sl r hd l1;obtain⟨a2,us2,rfl,s2,p2⟩:=lsIs.sl r he l2;refine⟨_,fun {X pins σ s} I hK u v ru rv A hA=>?_,c.bl r q⟩;subst hK;cases ru;cases rv;exact dZw I s1 s2 p1 p2 o hA fun q q' z z' o=>eq3 I 8 (show A.units + 1 + 8 < cLine by lia) q q' z z' o
 have plain:okE 9 d e=true->QD (.bl (if neg then !decide (d=e) else decide (d=e))) S->rEqA K neg x y H Q:=by
  intro o q;refine⟨_,fun {X pins σ s} I hK u v ru rv A hA=>?_,c.bl r q⟩;subst hK
  have:=eq3 I 9 hA hd he ru rv o
  exact⟨this.rc,this.ne⟩
 cases d with
 | ref a=>obtain⟨xs,ys,h1,h2,h3,h4⟩:=h;exact lists h1 h2 h3 h4
 | lst xs =>
  cases e with
  | ref a=>obtain⟨ys,h2,h3,h4⟩:=h;exact lists rfl h2 h3 h4
  | _=>exact plain h.1 h.2
 | _=>exact plain h.1 h.2
mutual
def plain:D->Bool
 | .non=>true
 | .bl _=>true
 | .int _=>true
 | .str _=>true
 | .tup xs=>aZh xs
 | _=>false
def aZh:List D->Bool
 | []=>true
 | x::xs=>plain x && aZh xs
end
mutual
theorem bJw (I:Inv X pins σ H s):∀ {d e:D} {v:V},plain d=true->plain e=true->RepV X.K M H d v->RepV X.K M H e v->d=e
 | .tup ds,e,v,p,p',h,h'=>by
  cases e with
  | tup es =>
   unfold RepV at h h';obtain⟨a,xs,rfl,t,l⟩:=h;obtain⟨b,ys,e1,t',l'⟩:=h';cases e1
   have:=I.tuple_inj t.sq t'.sq
   subst this;unfold plain at p p';rw[bX5 I p p' l l']
  | lst _=>cases p'
  | ref _=>cases p'
  | ty _=>cases p'
  | _ =>
   unfold RepV at h h';obtain⟨a,xs,e1,_⟩:=h;rw[h'] at e1;cases e1
 | .non,e,v,p,p',h,h'=>by
  cases e <;> first | rfl | (cases p';done) | (unfold RepV at h h';rw[h] at h';cases h';done) | (unfold RepV at h h';obtain⟨a,xs,e1,_⟩:=h';rw[h] at e1;cases e1)
 | .bl _,e,v,p,p',h,h'=>by
  cases e <;> first | (cases p';done) | (unfold RepV at h h';rw[h] at h';cases h';done) | (unfold RepV at h h';rw[h] at h';cases h';rfl) | (unfold RepV at h h';obtain⟨a,xs,e1,_⟩:=h';rw[h] at e1;cases e1)
 | .int _,e,v,p,p',h,h'=>by
  cases e <;> first | (cases p';done) | (unfold RepV at h h';rw[h] at h';cases h';done) | (unfold RepV at h h';rw[h] at h';cases h';rfl) | (unfold RepV at h h';obtain⟨a,xs,e1,_⟩:=h';rw[h] at e1;cases e1)
 | .str _,e,v,p,p',h,h'=>by
  cases e <;> first | (cases p';done) | (unfold RepV at h h';rw[h] at h';cases h';done) | (unfold RepV at h h';rw[h] at h';cases h';rfl) | (unfold RepV at h h';obtain⟨a,xs,e1,_⟩:=h';rw[h] at e1;cases e1)
 | .ty _,e,v,p,p',h,h'=>by cases p
 | .ref _,e,v,p,p',h,h'=>by cases p
 | .lst _,e,v,p,p',h,h'=>by cases p
theorem bX5 (I:Inv X pins σ H s):∀ {ds es:List D} {vs:List V},aZh ds=true->aZh es=true->RepL X.K M H ds vs->RepL X.K M H es vs->ds=es
 | [],es,vs,p,p',l,l'=>by
  have h1:=l.length;have h2:=l'.length;rw[h1] at h2;exact(List.eq_nil_of_length_eq_zero h2.symm).symm
 | d::ds,[],vs,p,p',l,l'=>by have h1:=l.length;have h2:=l'.length;rw[h1] at h2;simp at h2
 | d::ds,e::es,vs,p,p',l,l'=>by
  unfold RepL at l l';obtain⟨v,vs,rfl,r,l⟩:=l;obtain⟨v',vs',e1,r',l'⟩:=l';cases e1;simp only[aZh,Bool.and_eq_true] at p p';rw[bJw I p.1 p'.1 r r',bX5 I p.2 p'.2 l l']
end
theorem aXv:∀ {ds:List D},aZh ds=true->∀ d∈ds,plain d=true
 | [],_,d,h=>by cases h
 | x::ds,p,d,h=>by
  simp only[aZh,Bool.and_eq_true] at p;rcases List.mem_cons.mp h with rfl | h
  ·exact p.1
  ·exact aXv p.2 d h
def rInA (K:Fg) (neg:Bool):R2:=fun x y H Q=>∃ p xs b,y=.ref p/\(SqL K H p xs\/SqT K H p xs) /\
 (∀ {X:Cx} {pins:List (Addr × Obj)} {σ:St} {s:Shared},Inv X pins σ H s->X.K=K->∀ {v:Value} {us:List Value},RelV x v->Vals xs us->∀ A:Around,A.units + 9 < cLine->∃ f:Value->Bool,(∀ u∈us,SeqAt.EqAt A s u v (f u))/\us.any f=b)/\Q (.bl (if neg then !b else b)) H
theorem dZy {K:Fg} (hu:X.A.units + 10 < cLine) (hK:X.K=K:=by rfl):OpR X (compareOp .In) (rInA K false):=by
 intro pins s σ H x y v u Q I rx ry h;obtain⟨p,xs,b,rfl,hq,hf,q⟩:=h;cases ry;rw[<- hK] at hq;rcases hq with hq | hq
 ·obtain⟨its,r,pl,hz⟩:=I.list hq;obtain⟨f,f1,f2⟩:=hf I hK rx r X.A.in1 (show X.A.units + 1 + 9 < cLine by lia)
  refine SeqAt.in_listAt f pl.isList (fun w hw=>f1 w (by simpa using hw)) ⟨.bl _,H,I,rfl,?_⟩
  rw[show its.toArray.any f=its.any f by simp,f2]
  exact q
 ·obtain⟨its,r,pl,hz⟩:=I.tuple hq;obtain⟨f,f1,f2⟩:=hf I hK rx r X.A.in1 (show X.A.units + 1 + 9 < cLine by lia)
  refine SeqAt.in_tupleAt f pl (fun w hw=>f1 w (by simpa using hw)) ⟨.bl _,H,I,rfl,?_⟩
  rw[show its.toArray.any f=its.any f by simp,f2]
  exact q
theorem eQ3 {K:Fg} (hu:X.A.units + 10 < cLine) (hK:X.K=K:=by rfl):OpR X (compareOp .NotIn) (rInA K true):=by
 intro pins s σ H x y v u Q I rx ry h;obtain⟨p,xs,b,rfl,hq,hf,q⟩:=h;cases ry;rw[<- hK] at hq;rcases hq with hq | hq
 ·obtain⟨its,r,pl,hz⟩:=I.list hq;obtain⟨f,f1,f2⟩:=hf I hK rx r X.A.in1 (show X.A.units + 1 + 9 < cLine by lia)
  refine SeqAt.notIn_listAt f pl.isList (fun w hw=>f1 w (by simpa using hw)) ⟨.bl _,H,I,rfl,?_⟩
  rw[show its.toArray.any f=its.any f by simp,f2]
  exact q
 ·obtain⟨its,r,pl,hz⟩:=I.tuple hq;obtain⟨f,f1,f2⟩:=hf I hK rx r X.A.in1 (show X.A.units + 1 + 9 < cLine by lia)
  refine SeqAt.notIn_tupleAt f pl (fun w hw=>f1 w (by simpa using hw)) ⟨.bl _,H,I,rfl,?_⟩
  rw[show its.toArray.any f=its.any f by simp,f2]
  exact q
def inD (neg:Bool):R2D:=fun d e S Q=>∃ xs,sqIs S e xs/\aZh xs=true/\(xs.all fun y=>okE 8 y d)=true/\Q (.bl (if neg then !decide (d∈xs) else decide (d∈xs))) S
theorem eJc (I:Inv X pins σ H s) {d:D} {x:V} {v:Value} (rx:RelV x v) (hd:RepV X.K M H d x) {A:Around} (hA:A.units + 9 < cLine):∀ {xs:List V} {us:List Value} {ds:List D},RepL X.K M H ds xs->Vals xs us->aZh ds=true->(ds.all fun y=>okE 8 y d)=true ->
  ∃ f:Value->Bool,(∀ u∈us,SeqAt.EqAt A s u v (f u))/\us.any f=decide (d∈ds):=by
 classical
 intro xs us ds l r p o;have key:∀ {y:V} {u:Value} {e:D},e∈ds->RepV X.K M H e y->RelV y u->decide (∃ y e,e∈ds/\RepV X.K M H e y/\RelV y u/\e=d)=decide (e=d):=by
  intro y u e hm he ru
  congr 1
  refine propext ⟨fun⟨y',e',m',h1,h2,h3⟩=>?_,fun h=>⟨y,e,hm,he,ru,h⟩⟩
  have:=h2.inj ru
  subst this;rw[<- h3];exact bJw I (aXv p e hm) (aXv p e' m') he h1
 refine⟨fun u=>decide (∃ y e,e∈ds/\RepV X.K M H e y/\RelV y u/\e=d),?_,?_⟩
 ·intro u hu;obtain⟨i,hi,rfl⟩:=List.getElem_of_mem hu;have h1:=r.length;have h2:=l.length;obtain⟨e,ee,re⟩:=l.get' (List.getElem?_eq_getElem (show i < xs.length by lia))
  obtain⟨u',eu,ru⟩:=r.get (List.getElem?_eq_getElem (show i < xs.length by lia))
  rw[List.getElem?_eq_getElem hi] at eu;cases eu;have hm:e∈ds:=List.mem_of_getElem? ee;show SeqAt.EqAt A s us[i] v (decide (∃ y e,e∈ds/\RepV X.K M H e y/\RelV y us[i]/\e=d));rw[key hm re ru];exact(eq3 I 8 (by lia) re hd ru rx (List.all_eq_true.mp o e hm)).eq
 ·have gen:∀ {zs:List V} {ws:List Value} {es:List D},RepL X.K M H es zs->Vals zs ws->(∀ e∈es,e∈ds)->ws.any (fun u=>decide (∃ y e,e∈ds/\RepV X.K M H e y/\RelV y u/\e=d))=decide (d∈es):=by
   intro zs ws es
   induction es generalizing zs ws with
   | nil =>
    intro l r _;unfold RepL at l;subst l;cases r;simp
   | cons e es ih =>
    intro l r hm;unfold RepL at l;obtain⟨z,zs,rfl,r1,l1⟩:=l;cases r with
    | cons q t =>
     rw[List.any_cons,key (hm e List.mem_cons_self) r1 q,ih l1 t fun e he=>hm e (List.mem_cons_of_mem _ he)]
     by_cases h:e=d
     ·simp[h]
     ·have h':¬ d=e:=fun z=>h z.symm;simp[h,h']
  exact gen l r fun _ h=>h
theorem eQ4 {K:Fg} {neg:Bool}:OpD K (rInA K neg) (inD neg):=by
 intro F S H d e x y Q QD r hd he ⟨ds,hs,p,o,q⟩ c;obtain⟨a,xs,rfl,sq,l⟩:=hs.sq r he;refine⟨a,xs,decide (d∈ds),rfl,sq,fun {X pins σ s} I hK {v us} rx rv A hA=>?_,c.bl r q⟩;subst hK;exact eJc I rx hd hA l rv p o
variable {K:Fg} {a b:Expr} {ta tb:ED} {pos:Pos} {k:Nat}
theorem lt10 {n:Nat} {A:Around} (r:Room k A) (h:n<=64:=by decide):A.units + n < cLine:=by have:=r.units;lia
theorem e_eq (hr:Room k X.A) (ha:PD K X a ta) (hb:PD K X b tb) (hK:X.K=K:=by rfl):PD K X (.Compare a [.Eq] [b] pos) (dOp (eqD false) ta tb):=dJs (dZx (lt10 hr) hK) eQ2 ha hb (nomark _)
theorem bXz (hr:Room k X.A) (ha:PD K X a ta) (hb:PD K X b tb) (hK:X.K=K:=by rfl):PTD K X (.Compare a [.Eq] [b] pos) (aX1 (dOp (eqD false) ta tb)):=aZt (dZx (lt10 hr) hK) eQ2 ha hb (nomark _)
theorem dQm (hr:Room k X.A) (ha:PD K X a ta) (hb:PD K X b tb) (hK:X.K=K:=by rfl):PTD K X (.Compare a [.NotEq] [b] pos) (aX1 (dOp (eqD true) ta tb)):=aZt (eJb (lt10 hr) hK) eQ2 ha hb (nomark _)
theorem e_in (hr:Room k X.A) (ha:PD K X a ta) (hb:PD K X b tb) (hm:behindInMarks .In b=false:=by rfl) (hK:X.K=K:=by rfl):PD K X (.Compare a [.In] [b] pos) (dOp (inD false) ta tb):=dJs (dZy (lt10 hr) hK) eQ4 ha hb hm
theorem eQ5 (hr:Room k X.A) (ha:PD K X a ta) (hb:PD K X b tb) (hm:behindInMarks .In b=false:=by rfl) (hK:X.K=K:=by rfl):PTD K X (.Compare a [.In] [b] pos) (aX1 (dOp (inD false) ta tb)):=aZt (dZy (lt10 hr) hK) eQ4 ha hb hm
theorem bJx (hr:Room k X.A) (ha:PD K X a ta) (hb:PD K X b tb) (hm:behindInMarks .NotIn b=false:=by rfl) (hK:X.K=K:=by rfl):PTD K X (.Compare a [.NotIn] [b] pos) (aX1 (dOp (inD true) ta tb)):=aZt (eQ3 (lt10 hr) hK) eQ4 ha hb hm
end
end L2
namespace HT
open PySem PySem.Spec PyProof.Rows
section
variable {prog:Program} {w:World} {A:Around} {E:Value->Shared->Prop} {s:Shared}
theorem tup_slice {t sl : Addr} {items : Array Value} {Q : Value -> Shared -> Prop} (ht : IsTup s.heap t items) (hTs : s.TypeIs (.ref sl) "slice")
    (h : ∀ A, wpAny (model prog w) A (Builtin.Slice.sliceApplied (.ref sl) (pure (items.size : Int))) (fun r s' => s' = s /\
      ((r.1 = 0 /\ r.2.1 = 1 /\ r.2.2 = items.size /\ Q (.ref t) s) \/
       (¬ (r.1 == 0 && r.2.1 == 1 && r.2.2 == items.size) = true /\ sizeOk (.seq ((List.range r.2.2).filterMap fun(k : Nat) => items[(r.1 + (k : Int) * r.2.1).toNat]?).toArray) /\ Q (.ref s.heap.objs.size) { s with heap := s.heap.push { cls := .type "tuple", data := .seq ((List.range r.2.2).filterMap fun(k : Nat) => items[(r.1 + (k : Int) * r.2.1).toNat]?).toArray } }))) E s) :
    wpAny (model prog w) A (getItem (.ref t) (.ref sl)) Q E s := by
  unfold getItem
  try with_reducible refine wpAny_holding ?_
  first | refine wpAny_bind (wpAny_pure ?_) | skip
  refine wpAny_bind (wpAny_sequenceKey ht.typeIs (by decide) ?_)
  refine wpAny_bind (wpAny_callSpecial?_slot (name := Str.ofString "__getitem__") ht.typeIs PyProof.Rows.slot_tuple_getitem
    (wpAny_call_entry PyProof.Rows.slot_tuple_getitem ht.typeIs entry_tuple_getitem ?_ (args_tuple_getitem _ _)))
  show wpAny _ _ (Builtin.Tuple.tupleItemsOf (.ref t) >>= _) _ _ s;refine wpAny_bind (tupleItemsOf_ ht (wpAny_bind (wpAny_typeOf hTs ?_)));rw [if_pos (by decide)]
  refine wpAny_bind (wpAny_mono (h _) (fun r s' ⟨e, q⟩ => ?_) fun _ _ x => x);subst e;obtain⟨lo, st, n⟩ := r;show wpAny _ _ (if (lo == 0 && st == 1 && n == items.size) = true then _ else _) _ _ _
  rcases q with⟨h1, h2, h3, q⟩ | ⟨hno, hz, q⟩
  · have e1 : lo = 0 := h1
    have e2 : st = 1 := h2;have e3 : n = items.size := h3;rw [if_pos (by rw [e1, e2, e3]; simp)]
    unfold Builtin.Tuple.tupleIsExact;refine wpAny_bind (wpAny_bind (wpAny_typeOf ht.typeIs (wpAny_pure ?_)));rw [if_pos (by decide)]
    refine wpAny_bind (wpAny_rule ?_)
    first
      | exact wpAny_pure ⟨_, rfl, wpAny_pure q⟩
      | exact wpAny_bind (wpAny_pure ⟨_, rfl, wpAny_pure q⟩)
      | exact wpAny_bind (wpAny_pure (wpAny_pure ⟨_, rfl, wpAny_pure q⟩))
  · rw [if_neg hno]
    first
      | exact wpAny_bind (m := Builtin.Tuple.tupleExact _) (wpAny_newObj_type (wpAny_pure ⟨_, rfl, wpAny_pure q⟩) hz)
      | exact wpAny_bind (m := Builtin.Tuple.tupleExact _) (wpAny_newObj_type (wpAny_bind (wpAny_pure (wpAny_pure ⟨_, rfl, wpAny_pure q⟩))) hz)
      | exact wpAny_bind (wpAny_bind (m := Builtin.Tuple.tupleExact _) (wpAny_newObj_type (wpAny_pure (wpAny_pure ⟨_, rfl, wpAny_pure q⟩)) hz))
      | exact wpAny_bind (wpAny_bind (m := Builtin.Tuple.tupleExact _) (wpAny_newObj_type (wpAny_pure ⟨_, rfl, wpAny_pure q⟩) hz))
end
end HT
namespace L2
open PySem PySem.Spec PyProof.Rows
section
variable {X:Cx} {K:Fg}
def rSlW (K:Fg):V->Option Int->Option Int->Hp->VK->Prop:=fun x lo hi H Q=>∃ a xs,x=.ref a/\SqT K H a xs/\HT.sIx xs.length 0 lo=0/\HT.sIx xs.length xs.length hi=xs.length/\Q (.ref a) H
theorem eQ6 (hK:X.K=K:=by rfl):SlR X (rSlW K):=by
 subst hK;intro pins s σ H x v vl vu lo hi sl Q I rx hs pl pu h;obtain⟨a,xs,rfl,hx,h0,hn,q⟩:=h;cases rx;obtain⟨its,r,ht,hz⟩:=I.tuple hx;have hlen:its.toArray.size=xs.length:=by rw[List.size_toArray];exact r.length.symm
 obtain⟨os,hos,hcs,hds⟩:=id hs;refine⟨"tuple",_,PyProof.Rows.slot_tuple_getitem.lookup,ht.typeIs,HT.tup_slice ht ⟨os,hos,hcs⟩ fun A=>HT.sliceApplied_gen hs pl pu ⟨rfl,.inl ⟨?_,rfl,?_,.ref a,H,I,rfl,q⟩⟩⟩
 ·show((HT.sIx its.toArray.size 0 lo:Nat):Int)=0;rw[hlen,h0];rfl
 ·show HT.sIx its.toArray.size its.toArray.size hi - HT.sIx its.toArray.size 0 lo=its.toArray.size;rw[hlen,h0,hn];rfl
end
end L2
set_option maxHeartbeats 1000000
namespace L2
open PySem PySem.Spec PyProof.Rows
section
variable {X:Cx} {K:Fg} {a b:Expr} {ta tb:ED} {pos:Pos} {k:Nat}
def ltD:R2D:=fun d e S Q=>match d,e with
 | .int i,.int j=>Q (.bl (decide (i < j))) S
 | .str x,.str y=>Q (.bl (HT.ltS x y)) S
 | .tup xs,.tup ys=>∃ as bs,xs=as.map D.str/\ys=bs.map D.str/\Q (.bl (HT.lexS as bs)) S
 | _,_=>False
def rLtA (K:Fg):R2:=fun x y H Q=>rI0 (fun i j=>.bl (decide (i < j))) x y H Q\/(∃ i j,x=.str i/\y=.str j/\Q (.bl (decide (i.cps.toList < j.cps.toList))) H)\/rLtS K x y H Q
theorem eJd (hu:X.A.units < cLine) (hK:X.K=K:=by rfl):OpR X (compareOp .Lt) (rLtA K):=op_lt.or (op_lt_str.or (dJi hu hK))
theorem bJ0 {M:Am} {H:Hp}:∀ {as:List Str} {xs:List V},RepL K M H (as.map D.str) xs->Paired (dS H) xs as
 | [],xs,h=>by rw[List.map_nil] at h;unfold RepL at h;subst h;exact .nil
 | a::as,xs,h=>by
  rw[List.map_cons] at h;unfold RepL at h;obtain⟨v,vs,rfl,r,l⟩:=h;unfold RepV at r;exact .cons r (bJ0 l)
theorem cXj {M:Am} {H:Hp}:∀ {as:List Str} {xs:List V},Paired (dS H) xs as->RepL K M H (as.map D.str) xs
 | _,_,.nil=>RepL.nil
 | _,_,.cons r l=>RepL.cons (by unfold RepV;exact r) (cXj l)
theorem bJ1 {S:Sto} {F:Am} {H:Hp} {as:List Str} {v:V} (h:RepV K (mt S F) H (.tup (as.map D.str)) v):dT K dS H v as:=by
 obtain⟨a,xs,rfl,t,l⟩:=tup.st h;exact⟨a,xs,rfl,t,bJ0 l⟩
theorem fZm:OpD K (rLtA K) ltD:=by
 intro F S H d e x y Q QD r hd he h c;cases d with
 | int i =>
  cases e with
  | int j=>rw[rint hd,rint he];exact .inl ⟨i,j,rfl,rfl,c.bl r h⟩
  | _=>exact h.elim
 | str i =>
  cases e with
  | str j=>rw[rstr hd,rstr he];exact .inr (.inl ⟨i,j,rfl,rfl,c.bl r h⟩)
  | _=>exact h.elim
 | tup xs =>
  cases e with
  | tup ys =>
   obtain⟨as,bs,rfl,rfl,q⟩:=h;exact .inr (.inr ⟨as,bs,bJ1 hd,bJ1 he,c.bl r q⟩)
  | _=>exact h.elim
 | _=>exact h.elim
theorem fZn (hr:Room k X.A) (ha:PD K X a ta) (hb:PD K X b tb) (hK:X.K=K:=by rfl):PTD K X (.Compare a [.Lt] [b] pos) (aX1 (dOp ltD ta tb)):=aZt (eJd hr.units0 hK) fZm ha hb (nomark _)
abbrev leD:R2D:=iiD0 fun i j=>.bl (decide (i<=j))
abbrev gtD:R2D:=iiD0 fun i j=>.bl (decide (j < i))
abbrev geD:R2D:=iiD0 fun i j=>.bl (decide (j<=i))
theorem e_le (hr:Room k X.A) (ha:PD K X a ta) (hb:PD K X b tb):PD K X (.Compare a [.LtE] [b] pos) (dOp leD ta tb):=dJs dXm cQz ha hb (nomark _)
theorem fZo (hr:Room k X.A) (ha:PD K X a ta) (hb:PD K X b tb):PTD K X (.Compare a [.LtE] [b] pos) (aX1 (dOp leD ta tb)):=aZt dXm cQz ha hb (nomark _)
theorem eJe (hr:Room k X.A) (ha:PD K X a ta) (hb:PD K X b tb):PTD K X (.Compare a [.Gt] [b] pos) (aX1 (dOp gtD ta tb)):=aZt fZa cQz ha hb (nomark _)
theorem fZp (hr:Room k X.A) (ha:PD K X a ta) (hb:PD K X b tb):PTD K X (.Compare a [.GtE] [b] pos) (aX1 (dOp geD ta tb)):=aZt fZb cQz ha hb (nomark _)
def cXk:D->Bool
 | .non=>true
 | _=>false
def isD (neg:Bool):R2D:=fun d e S Q=>match d,e with
 | .bl x,.bl y=>Q (.bl (if neg then x != y else x == y)) S
 | d,.non=>Q (.bl (if neg then !cXk d else cXk d)) S
 | _,_=>False
def rIsA (neg:Bool):R2:=fun x y H Q=>(∃ i j,x=.bl i/\y=.bl j/\Q (.bl (if neg then i != j else i == j)) H)\/(y=.non/\Q (.bl (if neg then !decide (x=.non) else decide (x=.non))) H)
theorem eJf:OpR X (compareOp .Is) (rIsA false):=OpR.or (by
 intro pins s σ H x y v u Q I rx ry h;obtain⟨i,j,rfl,rfl,q⟩:=h;cases rx;cases ry;exact is_bool ⟨.bl _,H,I,rfl,q⟩) eZw
theorem dQn:OpR X (compareOp .IsNot) (rIsA true):=OpR.or (by
 intro pins s σ H x y v u Q I rx ry h;obtain⟨i,j,rfl,rfl,q⟩:=h;cases rx;cases ry;exact isnot_bool ⟨.bl _,H,I,rfl,q⟩) dXn
theorem dQo {M:Am} {H:Hp} {d:D} {x:V} (h:RepV K M H d x):decide (x=.non)=cXk d:=by
 cases d <;> unfold RepV at h <;> first | (rw[h];rfl) | (obtain⟨a,xs,rfl,_⟩:=h;rfl) | skip
theorem eJg {neg:Bool}:OpD K (rIsA neg) (isD neg):=by
 intro F S H d e x y Q QD r hd he h c;have non:e=.non->QD (.bl (if neg then !cXk d else cXk d)) S->rIsA neg x y H Q:=by
  rintro rfl q;rw[rnon he];refine .inr ⟨rfl,?_⟩;rw[dQo hd];exact c.bl r q
 cases e with
 | non=>exact non rfl (by cases d <;> exact h)
 | bl j =>
  cases d with
  | bl i=>rw[rbl hd,rbl he];exact .inl ⟨i,j,rfl,rfl,c.bl r h⟩
  | _=>exact h.elim
 | _=>cases d <;> exact h.elim
theorem eJh (hr:Room k X.A) (ha:PD K X a ta) (hb:PD K X b tb):PTD K X (.Compare a [.Is] [b] pos) (aX1 (dOp (isD false) ta tb)):=aZt eJf eJg ha hb (nomark _)
theorem bJ2 (hr:Room k X.A) (ha:PD K X a ta) (hb:PD K X b tb):PTD K X (.Compare a [.IsNot] [b] pos) (aX1 (dOp (isD true) ta tb)):=aZt dQn eJg ha hb (nomark _)
def fZq (ta tb:ED):ED:=fun Γ S Q=>ta Γ S fun x S1=>∃ c,x=.bl c/\if c=true then tb Γ S1 Q else Q (.bl false) S1
def dOrV (ta tb:ED):ED:=fun Γ S Q=>ta Γ S fun x S1=>∃ c,x=.bl c/\if c=true then Q (.bl true) S1 else tb Γ S1 Q
theorem eJi {op} (h:PD K X a ta):PD K X (.BoolOp op [a] pos) ta:=⟨eZk h.o⟩
theorem fZr {rest:List Expr} (ha:PD K X a ta) (hb:PD K X (.BoolOp .And (b::rest) pos) tb):PD K X (.BoolOp .And (a::b::rest) pos) (fZq ta tb):=.of (eZl ha.o hb.o) fun σ H Q z0=>z0.el fun F S Γ QD r g q c =>
 ⟨F,S,Γ,_,r,g,q,fun v d H1 S1 x1 r1 v1 ⟨z,e,q1⟩=>by
  subst e;refine⟨z,rbl v1,?_⟩;cases z with
  | true=>exact⟨F,S1,Γ,QD,r1,g.ext x1,q1,fun v z H3 S3 x3=>c v z H3 S3 (x1.trans x3)⟩
  | false=>exact(Cn.shift c x1).bl r1 q1⟩
theorem e_or {rest:List Expr} (ha:PD K X a ta) (hb:PD K X (.BoolOp .Or (b::rest) pos) tb):PD K X (.BoolOp .Or (a::b::rest) pos) (dOrV ta tb):=.of (fZ3 ha.o hb.o) fun σ H Q z0=>z0.el fun F S Γ QD r g q c =>
 ⟨F,S,Γ,_,r,g,q,fun v d H1 S1 x1 r1 v1 ⟨z,e,q1⟩=>by
  subst e;refine⟨z,rbl v1,?_⟩;cases z with
  | false=>exact⟨F,S1,Γ,QD,r1,g.ext x1,q1,fun v z H3 S3 x3=>c v z H3 S3 (x1.trans x3)⟩
  | true=>exact(Cn.shift c x1).bl r1 q1⟩
structure PWD (K:Fg) (X:Cx) (e:Expr) (t:TD):Prop where
 o:PW X e (upT K t)
def dAnd (t u:TD):TD:=fun Γ S Q=>t Γ S fun c S1=>if c=true then u Γ S1 Q else Q false S1
def dOr (t u:TD):TD:=fun Γ S Q=>t Γ S fun c S1=>if c=true then Q true S1 else u Γ S1 Q
def dNot (t:TD):TD:=fun Γ S Q=>t Γ S fun c S1=>Q (!c) S1
section
variable {tA tB':TD} {rest:List Expr}
theorem PWD.pt {e:Expr} {t:TD} (h:PWD K X e t):PTD K X e t:=⟨PW.pt h.o⟩
theorem PWD.of {e:Expr} {te:TT} {t:TD} (h:PW X e te) (i:∀ σ H Q,upT K t σ H Q->te σ H Q):PWD K X e t:=⟨fun wh pins s σ H Q I q=>h wh pins s σ H Q I (i σ H Q q)⟩
theorem aJq (ha:PTD K X a tA):PWD K X (.BoolOp .And [a] pos) tA:=⟨dXf ha.o⟩
theorem eJj (ha:PTD K X a tA):PWD K X (.BoolOp .Or [a] pos) tA:=⟨eZh ha.o⟩
theorem bQk (ha:PTD K X a tA) (hb:PWD K X (.BoolOp .And (b::rest) pos) tB'):PWD K X (.BoolOp .And (a::b::rest) pos) (dAnd tA tB'):=.of (eZi ha.o hb.o) fun σ H Q z0=>z0.el fun F S Γ QD r g q c =>
 ⟨F,S,Γ,_,r,g,q,fun z H1 S1 x1 r1 q1=>by
  cases z with
  | true=>exact⟨F,S1,Γ,QD,r1,g.ext x1,q1,fun z H3 S3 x3=>c z H3 S3 (x1.trans x3)⟩
  | false=>exact c _ _ _ x1 r1 q1⟩
theorem fZs (ha:PTD K X a tA) (hb:PWD K X (.BoolOp .Or (b::rest) pos) tB'):PWD K X (.BoolOp .Or (a::b::rest) pos) (dOr tA tB'):=.of (fZ1 ha.o hb.o) fun σ H Q z0=>z0.el fun F S Γ QD r g q c =>
 ⟨F,S,Γ,_,r,g,q,fun z H1 S1 x1 r1 q1=>by
  cases z with
  | false=>exact⟨F,S1,Γ,QD,r1,g.ext x1,q1,fun z H3 S3 x3=>c z H3 S3 (x1.trans x3)⟩
  | true=>exact c _ _ _ x1 r1 q1⟩
theorem bX6 (ha:PTD K X a tA):PTD K X (.UnaryOp .Not a pos) (dNot tA):=.of (eZj ha.o) fun σ H Q z0=>z0.el fun F S Γ QD r g q c=>⟨F,S,Γ,_,r,g,q,fun z H1 S1 x1 r1 q1=>c _ _ _ x1 r1 q1⟩
def dIf (t:TD) (ta tb:ED):ED:=fun Γ S Q=>t Γ S fun c S1=>if c=true then ta Γ S1 Q else tb Γ S1 Q
theorem cXl {c:Expr} (hc:PTD K X c tA) (ha:PD K X a ta) (hb:PD K X b tb):PD K X (.IfExp c a b pos) (dIf tA ta tb):=.of (cJx hc.o ha.o hb.o) fun σ H Q z0=>z0.el fun F S Γ QD r g q c =>
 ⟨F,S,Γ,_,r,g,q,fun z H1 S1 x1 r1 q1=>by
  cases z with
  | true=>exact⟨F,S1,Γ,QD,r1,g.ext x1,q1,fun v z H3 S3 x3=>c v z H3 S3 (x1.trans x3)⟩
  | false=>exact⟨F,S1,Γ,QD,r1,g.ext x1,q1,fun v z H3 S3 x3=>c v z H3 S3 (x1.trans x3)⟩⟩
end
def truD (S:Sto) (d:D) (k:Bool->Prop):Prop:=match d with
 | .non=>k false
 | .bl b=>k b
 | .int i=>k (i != 0)
 | .str x=>x.length<=sizeLine/\k ((x.length:Int) != 0)
 | .tup xs=>k (!xs.isEmpty)
 | .lst xs=>k (!xs.isEmpty)
 | .ref a=>∃ xs,S a=some (.lst xs)/\k (!xs.isEmpty)
 | .ty _=>False
def dTru (ta:ED):TD:=fun Γ S Q=>ta Γ S fun d S1=>truD S1 d fun b=>Q b S1
theorem cXm {M:Am} {H:Hp} {ds:List D} {xs:List V} (l:RepL K M H ds xs):(!xs.isEmpty)=!ds.isEmpty:=by
 have:=l.length
 cases ds <;> cases xs <;> first | rfl | simp at this
theorem bX7 (ha:PD K X a ta) (he:∀ whole,isTrue a X.env whole=(do let v <- whole;standAt a.pos;holding [v] (truthy v)):=by intro _;rfl) (hK:X.K=K:=by rfl):PTD K X a (dTru ta):=.of (cX8 (K:=K) ha.o he hK) fun σ H Q z0=>z0.el fun F S Γ QD r g q c =>
 ⟨F,S,Γ,_,r,g,q,fun v d H1 S1 x1 r1 v1 q1=>by
  cases d with
  | non=>rw[rnon v1];exact⟨false,rfl,c _ _ _ x1 r1 q1⟩
  | bl b=>rw[rbl v1];exact⟨b,rfl,c _ _ _ x1 r1 q1⟩
  | int b=>rw[rint v1];exact⟨_,rfl,c _ _ _ x1 r1 q1⟩
  | str b=>rw[rstr v1];exact⟨_,⟨q1.1,rfl⟩,c _ _ _ x1 r1 q1.2⟩
  | ty b=>exact q1.elim
  | tup xs =>
   obtain⟨p,us,rfl,t,l⟩:=tup.st v1;exact⟨_,.inr (.inl ⟨us,t,rfl⟩),c _ _ _ x1 r1 (by rw[cXm l];exact q1)⟩
  | lst xs =>
   obtain⟨p,us,rfl,t,l⟩:=lsIs.sl r1 v1 (show lsIs S1 (.lst xs) xs from rfl)
   exact⟨_,.inl ⟨us,t,rfl⟩,c _ _ _ x1 r1 (by rw[cXm l];exact q1)⟩
  | ref p =>
   obtain⟨xs,e,q1⟩:=q1;obtain⟨p,us,rfl,t,l⟩:=lsIs.sl r1 v1 (show lsIs S1 (.ref p) xs from e)
   exact⟨_,.inl ⟨us,t,rfl⟩,c _ _ _ x1 r1 (by rw[cXm l];exact q1)⟩⟩
section
variable {e:Expr} {t:AD} {p:Pos}
def lenD:RCD:=fun ds S Q=>match ds with
 | [.str x]=>x.length<=sizeLine/\Q (.int x.length) S
 | [d]=>∃ xs,sqIs S d xs/\Q (.int xs.length) S
 | _=>False
theorem cXn (hK:X.K=K:=by rfl):CallR X (.builtin "len") (fun xs H Q=>∃ x n,xs=[x]/\LenV K x H n/\Q (.int n) H):=hK ▸ dQ1
theorem eJk:bQ7 K (fun xs H Q=>∃ x n,xs=[x]/\LenV K x H n/\Q (.int n) H) lenD:=by
 intro F S H ds vs Q QD r l h c
 match ds,h with
 | [d],h =>
  obtain⟨v,rfl,rv⟩:=l.one;have seq:(∃ xs,sqIs S d xs/\QD (.int xs.length) S)->∃ x n,[v]=[x]/\LenV K x H n/\Q (.int n) H:=by
   rintro⟨xs,h1,q⟩;obtain⟨a,us,rfl,sq,l⟩:=h1.sq r rv;refine⟨_,xs.length,rfl,?_,c.int r q⟩;rcases sq with sq | sq
   ·exact .inl ⟨us,sq,l.length.symm⟩
   ·exact .inr ⟨us,sq,l.length.symm⟩
  cases d with
  | str x=>rw[rstr rv];exact⟨_,x.length,rfl,⟨h.1,rfl⟩,c.int r h.2⟩
  | _=>exact seq h
 | [],h=>exact h.elim
 | d::_::_,h=>cases d <;> exact h.elim
theorem aXk (hg:Gl X "len") (hm:X.mg "len" = none) (ha:PAD K X [e] t) (hK:X.K=K:=by rfl) (he:starEach [e] X.env=(false,eval e X.env)::starEach [] X.env:=by rfl) (hpl:(backTo pos (starEach [] X.env)).any (·.1)=false:=by rfl):PD K X (.Call (.Name "len" p) [e] [] pos) (dCB lenD t):=aXa (cXn hK) eJk hg hm dZm ha (by decide) (by decide) he hpl
def tupD:RCD:=fun ds S Q=>match ds with
 | [d]=>∃ xs,sqIs S d xs/\Q (.tup xs) S
 | _=>False
theorem eJl:bQ7 K (fun xs H Q=>∃ p ys,xs=[.ref p]/\((SqL K H p ys/\∀ l,H l=none->Q (.ref l) (upd H l (.tup ys)))\/(SqT K H p ys/\Q (.ref p) H))) tupD:=by
 intro F S H ds vs Q QD r l h c
 match ds,h with
 | [d],⟨xs,h1,q⟩ =>
  obtain⟨v,rfl,rv⟩:=l.one;cases d with
  | tup ys =>
   cases h1;obtain⟨a,us,rfl,sq,l⟩:=tup.st rv;exact⟨a,us,rfl,.inr ⟨sq,c.here r rv q⟩⟩
  | lst ys =>
   obtain⟨a,us,rfl,sq,l⟩:=lsIs.sl r rv (show lsIs S (.lst ys) xs from h1)
   exact⟨a,us,rfl,.inl ⟨sq,fun p hp=>c.tup r hp l q⟩⟩
  | ref y =>
   obtain⟨a,us,rfl,sq,l⟩:=lsIs.sl r rv (show lsIs S (.ref y) xs from h1)
   exact⟨a,us,rfl,.inl ⟨sq,fun p hp=>c.tup r hp l q⟩⟩
  | _=>exact h1.elim
theorem aXb (hg:Gl X "tuple") (hm:X.mg "tuple" = none) (ha:PAD K X [e] t) (hK:X.K=K:=by rfl) (he:starEach [e] X.env=(false,eval e X.env)::starEach [] X.env:=by rfl) (hpl:(backTo pos (starEach [] X.env)).any (·.1)=false:=by rfl):PD K X (.Call (.Name "tuple" p) [e] [] pos) (dCB tupD t):=bZ2 (bXt hK) eJl hg hm bQs ha (by decide) (by decide) he hpl
def lstD (b:Bool):RCD:=fun ds S Q=>match ds with
 | [d]=>∃ xs,sqIs S d xs/\newL b xs S Q
 | _=>False
theorem eJm {b:Bool}:bQ7 K (fun xs H Q=>∃ p ys,xs=[.ref p]/\(SqL K H p ys\/SqT K H p ys)/\∀ l,H l=none->Q (.ref l) (upd H l (.lst ys))) (lstD b):=by
 intro F S H ds vs Q QD r l h c
 match ds,h with
 | [d],⟨xs,h1,q⟩ =>
  obtain⟨v,rfl,rv⟩:=l.one;obtain⟨a,us,rfl,sq,l⟩:=h1.sq r rv;exact⟨a,us,rfl,sq,fun p hp=>c.new r hp l q⟩
theorem eJn {b:Bool} (hg:Gl X "list") (hm:X.mg "list" = none) (ha:PAD K X [e] t) (hK:X.K=K:=by rfl) (he:starEach [e] X.env=(false,eval e X.env)::starEach [] X.env:=by rfl) (hpl:(backTo pos (starEach [] X.env)).any (·.1)=false:=by rfl):PD K X (.Call (.Name "list" p) [e] [] pos) (dCB (lstD b) t):=bZ2 (cQw hK) eJm hg hm dJ1 ha (by decide) (by decide) he hpl
def i2D (g:Int->Int->Int):RCD:=fun ds S Q=>match ds with
 | [.int i,.int j]=>Q (.int (g i j)) S
 | _=>False
theorem eJo {g:Int->Int->Int}:bQ7 K (fun xs H Q=>∃ i j,xs=[.int i,.int j]/\Q (.int (g i j)) H) (i2D g):=by
 intro F S H ds vs Q QD r l h c
 match ds,h with
 | [.int i,.int j],h =>
  obtain⟨v,w,rfl,rv,rw'⟩:=l.two;rw[rint rv,rint rw'];exact⟨i,j,rfl,c.int r h⟩
theorem fZt {e2:Expr} (hg:Gl X "min") (hm:X.mg "min" = none) (ha:PAD K X [e,e2] t) (hc:X.calm=true:=by rfl) (he:starEach [e,e2] X.env=(false,eval e X.env)::starEach [e2] X.env:=by rfl) (hpl:(backTo pos (starEach [e2] X.env)).any (·.1)=false:=by rfl):PD K X (.Call (.Name "min" p) [e,e2] [] pos) (dCB (i2D fun i j=>if j < i then j else i) t):=aXa (cZe hc) eJo hg hm eX9 ha (by decide) (by decide) he hpl
theorem fZu {e2:Expr} (hg:Gl X "max") (hm:X.mg "max" = none) (ha:PAD K X [e,e2] t) (hc:X.calm=true:=by rfl) (he:starEach [e,e2] X.env=(false,eval e X.env)::starEach [e2] X.env:=by rfl) (hpl:(backTo pos (starEach [e2] X.env)).any (·.1)=false:=by rfl):PD K X (.Call (.Name "max" p) [e,e2] [] pos) (dCB (i2D fun i j=>if j > i then j else i) t):=aXa (cZd hc) eJo hg hm eXa ha (by decide) (by decide) he hpl
def intD:RCD:=fun ds S Q=>match ds with
 | [.int i]=>Q (.int i) S
 | [.bl k]=>Q (.int (if k then 1 else 0)) S
 | _=>False
theorem bJy (hg:Gl X "int") (hm:X.mg "int" = none) (ha:PAD K X [e] t) (he:starEach [e] X.env=(false,eval e X.env)::starEach [] X.env:=by rfl) (hpl:(backTo pos (starEach [] X.env)).any (·.1)=false:=by rfl):PD K X (.Call (.Name "int" p) [e] [] pos) (dCB intD t):=bZ2 cZf (by
 intro F S H ds vs Q QD r l h c
 match ds,h with
 | [.int i],h=>obtain⟨v,rfl,rv⟩:=l.one;rw[rint rv];exact .inl ⟨i,rfl,c.int r h⟩
 | [.bl i],h=>obtain⟨v,rfl,rv⟩:=l.one;rw[rbl rv];exact .inr ⟨i,rfl,c.int r h⟩) hg hm eXe ha (by decide) (by decide) he hpl
theorem bJz {M:Am} {H:Hp}:∀ {bs:List Bool} {xs:List V},RepL K M H (bs.map D.bl) xs->Paired (dB H) xs bs
 | [],xs,h=>by rw[List.map_nil] at h;unfold RepL at h;subst h;exact .nil
 | a::as,xs,h=>by
  rw[List.map_cons] at h;unfold RepL at h;obtain⟨v,vs,rfl,r,l⟩:=h;unfold RepV at r;exact .cons r (bJz l)
def quD (g:List Bool->Bool):RCD:=fun ds S Q=>match ds with
 | [d]=>∃ bs,lsIs S d (bs.map D.bl)/\Q (.bl (g bs)) S
 | _=>False
theorem eJp {g:List Bool->Bool}:bQ7 K (fun xs H Q=>∃ x bs,xs=[x]/\dL K dB H x bs/\Q (.bl (g bs)) H) (quD g):=by
 intro F S H ds vs Q QD r l h c
 match ds,h with
 | [d],⟨bs,h1,q⟩ =>
  obtain⟨v,rfl,rv⟩:=l.one;obtain⟨a,us,rfl,sq,l⟩:=lsIs.sl r rv h1;exact⟨_,bs,rfl,⟨a,us,rfl,sq,bJz l⟩,c.bl r q⟩
theorem fZv (hg:Gl X "all") (hm:X.mg "all" = none) (ha:PAD K X [e] t) (hK:X.K=K:=by rfl) (hc:X.calm=true:=by rfl) (he:starEach [e] X.env=(false,eval e X.env)::starEach [] X.env:=by rfl) (hpl:(backTo pos (starEach [] X.env)).any (·.1)=false:=by rfl):PD K X (.Call (.Name "all" p) [e] [] pos) (dCB (quD fun bs=>bs.all id) t):=aXa (cX6 hK hc) eJp hg hm eXb ha (by decide) (by decide) he hpl
theorem fZw (hg:Gl X "any") (hm:X.mg "any" = none) (ha:PAD K X [e] t) (hK:X.K=K:=by rfl) (hc:X.calm=true:=by rfl) (he:starEach [e] X.env=(false,eval e X.env)::starEach [] X.env:=by rfl) (hpl:(backTo pos (starEach [] X.env)).any (·.1)=false:=by rfl):PD K X (.Call (.Name "any" p) [e] [] pos) (dCB (quD fun bs=>bs.any id) t):=aXa (cX7 hK hc) eJp hg hm eXc ha (by decide) (by decide) he hpl
def tyD:D->Option String
 | .non=>some "NoneType"
 | .bl _=>some "bool"
 | .int _=>some "int"
 | .str _=>some "str"
 | .tup _=>some "tuple"
 | .lst _=>some "list"
 | _=>none
def isiD:RCD:=fun ds S Q=>match ds with
 | [d,.ty T]=>∃ t b,tyD d=some t/\subT t T=some b/\Q (.bl b) S
 | _=>False
def eJq (K:Fg):List V->Hp->VK->Prop:=fun xs H Q=>(∃ x T t b,xs=[x,.ty T]/\TyOf K H x (.type t)/\subT t T=some b/\Q (.bl b) H)\/(∃ a T b ys,xs=[.ref a,.ty T]/\SqT K H a ys/\subT "tuple" T=some b/\Q (.bl b) H)\/∃ a T b ys,xs=[.ref a,.ty T]/\SqL K H a ys/\subT "list" T=some b/\Q (.bl b) H
theorem cXo (hK:X.K=K:=by rfl):CallR X (.builtin "isinstance") (eJq K):=by
 subst hK;refine call_isi.or (CallR.or ?_ ?_)
 ·intro pins s σ H xs us Q I rv h;obtain⟨a,T,b,ys,rfl,sq,e,q⟩:=h;obtain⟨u,c,rfl,ru,rc⟩:=rv.two;cases rc;cases ru;obtain⟨its,r,p,_⟩:=I.tuple sq;obtain⟨o,h1,h2,_⟩:=p;exact PySem.W.kia_one PySem.W.kitx_tuple I.kIn ⟨o,h1,h2⟩ (cZr e) (fun z=>nomatch z) fun tk=>⟨.bl b,H,I.tok tk,rfl,q⟩
 ·intro pins s σ H xs us Q I rv h;obtain⟨a,T,b,ys,rfl,sq,e,q⟩:=h;obtain⟨u,c,rfl,ru,rc⟩:=rv.two;cases rc;cases ru;obtain⟨its,r,p,_⟩:=I.list sq;obtain⟨o,n,h1,h2,_⟩:=p;exact PySem.W.kia_one PySem.W.kitx_list I.kIn ⟨o,h1,h2⟩ (cZr e) (fun z=>nomatch z) fun tk=>⟨.bl b,H,I.tok tk,rfl,q⟩
theorem eJr:bQ7 K (eJq K) isiD:=by
 intro F S H ds vs Q QD r l h c
 match ds,h with
 | [d,.ty T],⟨t,b,h1,h2,q⟩ =>
  obtain⟨v,w,rfl,rv,rw'⟩:=l.two;unfold RepV at rw';subst rw';cases d with
  | non=>cases h1;rw[rnon rv];exact .inl ⟨_,T,_,b,rfl,.non,h2,c.bl r q⟩
  | bl i=>cases h1;rw[rbl rv];exact .inl ⟨_,T,_,b,rfl,.bl _,h2,c.bl r q⟩
  | int i=>cases h1;rw[rint rv];exact .inl ⟨_,T,_,b,rfl,.int _,h2,c.bl r q⟩
  | str i=>cases h1;rw[rstr rv];exact .inl ⟨_,T,_,b,rfl,.str _,h2,c.bl r q⟩
  | tup xs =>
   cases h1;obtain⟨a,us,rfl,sq,l⟩:=tup.st rv;exact .inr (.inl ⟨a,T,b,us,rfl,sq,h2,c.bl r q⟩)
  | lst xs =>
   cases h1;obtain⟨a,us,rfl,sq,l⟩:=lsIs.sl r rv (show lsIs S (.lst xs) xs from rfl)
   exact .inr (.inr ⟨a,T,b,us,rfl,sq,h2,c.bl r q⟩)
  | _=>cases h1
theorem eJs {e2:Expr} (hg:Gl X "isinstance") (hm:X.mg "isinstance" = none) (ha:PAD K X [e,e2] t) (hK:X.K=K:=by rfl) (he:starEach [e,e2] X.env=(false,eval e X.env)::starEach [e2] X.env:=by rfl) (hpl:(backTo pos (starEach [e2] X.env)).any (·.1)=false:=by rfl):PD K X (.Call (.Name "isinstance" p) [e,e2] [] pos) (dCB isiD t):=aXa (cXo hK) eJr hg hm bQr ha (by decide) (by decide) he hpl
end
def ixD:R2D:=fun d e S Q=>match d,e with
 | .str z,.int i=>z.length<=sizeLine/\∃ c,atI z.cps.toList i=some c/\Q (.str ⟨#[c]⟩) S
 | d,.int i=>∃ xs v,sqIs S d xs/\atI xs i=some v/\Q v S
 | _,_=>False
theorem fZx {M:Am} {H:Hp} {ds:List D} {xs:List V} (l:RepL K M H ds xs) {i:Int} {d:D} (h:atI ds i=some d):∃ v,atI xs i=some v/\RepV K M H d v:=by
 unfold atI at h ⊢;rw[l.length];cases hi:ixN ds.length i with
 | none=>rw[hi] at h;cases h
 | some j=>rw[hi] at h;exact l.get h
theorem fZy:OpD K (rIx K) ixD:=by
 intro F S H d e x y Q QD r hd he h c;have seq:∀ i,e=.int i->(∃ xs v,sqIs S d xs/\atI xs i=some v/\QD v S)->rIx K x y H Q:=by
  rintro i rfl ⟨xs,v,h1,h2,q⟩;obtain⟨a,us,rfl,sq,l⟩:=h1.sq r hd;obtain⟨u,e1,ru⟩:=fZx l h2;rw[rint he];rcases sq with sq | sq
  ·exact .inl ⟨a,us,i,u,rfl,rfl,sq,e1,c.here r ru q⟩
  ·exact .inr (.inl ⟨a,us,i,u,rfl,rfl,sq,e1,c.here r ru q⟩)
 cases e with
 | int i =>
  cases d with
  | str z =>
   obtain⟨h1,w,h2,q⟩:=h;rw[rstr hd,rint he];exact .inr (.inr ⟨z,i,w,rfl,rfl,h1,h2,c.str r q⟩)
  | _=>exact seq i rfl h
 | _=>cases d <;> exact h.elim
theorem eQ7 (hK:X.K=K:=by rfl):IxR X (rIx K):=hK ▸ eX7
theorem e_ix (ha:PD K X a ta) (hb:PD K X b tb) (hs:PlainIx b:=by exact fun _ _=>rfl) (hK:X.K=K:=by rfl):PD K X (.Subscript a b pos) (dOp ixD ta tb):=.of (pe_ix (eQ7 hK) ha.o hb.o hs) (dQl fZy)
abbrev OD:=Gm->Sto->(Option Int->Sto->Prop)->Prop
def upO (K:Fg) (t:OD):TO:=fun σ H Q=>∃ F S Γ QD,Rp K F S H/\RepG K (mt S F) H Γ σ/\t Γ S QD/\∀ o H' S',Ext S H S' H'->Rp K F S' H'->QD o S'->Q o H'
theorem upO.el {K:Fg} {t:OD} {σ:St} {H:Hp} {Q:Option Int->Hp->Prop} {p:Prop} (h:upO K t σ H Q) (k:∀ F S Γ QD,Rp K F S H->RepG K (mt S F) H Γ σ->t Γ S QD->(∀ o H' S',Ext S H S' H'->Rp K F S' H'->QD o S'->Q o H')->p):p:=by
 obtain⟨F,S,Γ,QD,h0,h1,h2,h3⟩:=h;exact k F S Γ QD h0 h1 h2 h3
structure POD (K:Fg) (X:Cx) (e:Option Expr) (t:OD):Prop where
 o:PO X e (upO K t)
def eQ8:OD:=fun _ S Q=>Q none S
def fZz (t:ED):OD:=fun Γ S Q=>t Γ S fun d S1=>∃ i,d=.int i/\Q (some i) S1
theorem aXc:POD K X none eQ8:=⟨fun pins s σ H Q I z0=>z0.el fun F S Γ QD r g q c=>dXu pins s σ H Q I (c none H S (Ext.refl _ _) r q)⟩
theorem aXd (h:PD K X a ta):POD K X (some a) (fZz ta):=⟨fun pins s σ H Q I z0=>z0.el fun F S Γ QD r g q c=>dXv h.o pins s σ H Q I ⟨F,S,Γ,_,r,g,q,fun v d H1 S1 x1 r1 v1 ⟨i,e,q1⟩=>by
 subst e;exact⟨i,rint v1,c _ _ _ x1 r1 q1⟩⟩⟩
def cutD (xs:List D) (lo hi:Option Int):List D:=(xs.drop (HT.sIx xs.length 0 lo)).take (HT.sIx xs.length xs.length hi - HT.sIx xs.length 0 lo)
def slD (b:Bool) (d:D) (lo hi:Option Int) (S:Sto) (Q:DK):Prop:=match d with
 | .str z=>z.length<=1000000/\Q (.str (cutS z lo hi)) S
 | .tup xs=>Q (.tup (cutD xs lo hi)) S
 | d=>∃ xs,lsIs S d xs/\newL b (cutD xs lo hi) S Q
def rSlA (K:Fg):V->Option Int->Option Int->Hp->VK->Prop:=fun x lo hi H Q=>rSlS x lo hi H Q\/rSlT K x lo hi H Q\/rSlW K x lo hi H Q\/rSlL K x lo hi H Q
theorem sl_A (hK:X.K=K:=by rfl):SlR X (rSlA K):=sl_str.or ((dJh hK).or ((eQ6 hK).or (dQe hK)))
theorem dQp (xs:List D) {lo hi:Option Int} (h0:HT.sIx xs.length 0 lo=0) (h1:HT.sIx xs.length xs.length hi=xs.length):cutD xs lo hi=xs:=by unfold cutD;rw[h0,h1];simp
theorem dZz {M:Am} {H:Hp} {ds:List D} {xs:List V} (l:RepL K M H ds xs) (lo hi:Option Int):RepL K M H (cutD ds lo hi) (cutV xs lo hi):=by
 unfold cutD cutV;rw[l.length];exact(l.drop _).take _
theorem sd_A {b:Bool}:∀ F S H d x lo hi Q QD,Rp K F S H->RepV K (mt S F) H d x->slD b d lo hi S QD->Cn K F S H QD Q->rSlA K x lo hi H Q:=by
 intro F S H d x lo hi Q QD r hd h c;have lists:(∃ xs,lsIs S d xs/\newL b (cutD xs lo hi) S QD)->rSlA K x lo hi H Q:=by
  rintro⟨xs,l1,q⟩;obtain⟨a,us,rfl,s1,p1⟩:=lsIs.sl r hd l1;exact .inr (.inr (.inr ⟨a,us,rfl,s1,fun p hp=>c.new r hp (dZz p1 lo hi) q⟩))
 cases d with
 | str z=>rw[rstr hd];exact .inl ⟨z,rfl,h.1,c.str r h.2⟩
 | tup xs =>
  obtain⟨a,us,rfl,s1,p1⟩:=tup.st hd
  by_cases hw:HT.sIx us.length 0 lo=0/\HT.sIx us.length us.length hi=us.length
  ·refine .inr (.inr (.inl ⟨a,us,rfl,s1,hw.1,hw.2,c.here r hd ?_⟩));rw[p1.length] at hw;have h':QD (.tup (cutD xs lo hi)) S:=h;rwa [dQp xs hw.1 hw.2] at h'
  ·exact .inr (.inl ⟨a,us,rfl,s1,hw,fun p hp=>c.tup r hp (dZz p1 lo hi) h⟩)
 | _=>exact lists h
def dSl (b:Bool) (te:ED) (tl th:OD):ED:=fun Γ S Q=>te Γ S fun d S1=>tl Γ S1 fun lo S2=>th Γ S2 fun hi S3=>slD b d lo hi S3 Q
theorem e_sl {b:Bool} {e:Expr} {te:ED} {lo hi:Option Expr} {tl th:OD} {p2 pos:Pos} (he:PD K X e te) (hl:POD K X lo tl) (hu:POD K X hi th) (hK:X.K=K:=by rfl):PD K X (.Subscript e (.Slice lo hi none p2) pos) (dSl b te tl th):=.of (dQ3 (sl_A hK) he.o hl.o hu.o) fun σ H Q z0=>z0.el fun F S Γ QD r g q c =>
 ⟨F,S,Γ,_,r,g,q,fun v d H1 S1 x1 r1 v1 q1=>⟨F,S1,Γ,_,r1,g.ext x1,q1,fun l H2 S2 x2 r2 q2=>⟨F,S2,Γ,_,r2,g.ext (x1.trans x2),q2,fun u H3 S3 x3 r3 q3=>sd_A F S3 H3 d v l u Q QD r3 (v1.ext (x2.trans x3)) q3 (Cn.shift c (x1.trans (x2.trans x3)))⟩⟩⟩
end
section
variable {X:Cx}
end
end L2
set_option maxHeartbeats 4000000
namespace L2
open PySem PySem.Spec PyProof.Rows
section
variable {X:Cx} {K:Fg} {a b:Expr} {ta tb:ED} {pos:Pos} {k:Nat}
abbrev GD:=D->Gm->Sto->(Gm->Sto->Prop)->Prop
abbrev GsD:=List D->Gm->Sto->(Gm->Sto->Prop)->Prop
def upG (K:Fg) (t:GD):TG:=fun v σ H Q=>∃ F S Γ d QD,Rp K F S H/\RepG K (mt S F) H Γ σ/\RepV K (mt S F) H d v/\t d Γ S QD/\∀ Γ' S' σ' H',Ext S H S' H'->Rp K F S' H'->RepG K (mt S' F) H' Γ' σ'->QD Γ' S'->Q σ' H'
theorem upG.el {K:Fg} {t:GD} {v:V} {σ:St} {H:Hp} {Q:St->Hp->Prop} {p:Prop} (h:upG K t v σ H Q) (k:∀ F S Γ d QD,Rp K F S H->RepG K (mt S F) H Γ σ->RepV K (mt S F) H d v->t d Γ S QD->(∀ Γ' S' σ' H',Ext S H S' H'->Rp K F S' H'->RepG K (mt S' F) H' Γ' σ'->QD Γ' S'->Q σ' H')->p):p:=by
 obtain⟨F,S,Γ,d,QD,h0,h1,h2,h3,h4⟩:=h;exact k F S Γ d QD h0 h1 h2 h3 h4
def upGs (K:Fg) (t:GsD):TGs:=fun vs σ H Q=>∃ F S Γ ds QD,Rp K F S H/\RepG K (mt S F) H Γ σ/\RepL K (mt S F) H ds vs/\t ds Γ S QD/\∀ Γ' S' σ' H',Ext S H S' H'->Rp K F S' H'->RepG K (mt S' F) H' Γ' σ'->QD Γ' S'->Q σ' H'
theorem upGs.el {K:Fg} {t:GsD} {vs:List V} {σ:St} {H:Hp} {Q:St->Hp->Prop} {p:Prop} (h:upGs K t vs σ H Q) (k:∀ F S Γ ds QD,Rp K F S H->RepG K (mt S F) H Γ σ->RepL K (mt S F) H ds vs->t ds Γ S QD->(∀ Γ' S' σ' H',Ext S H S' H'->Rp K F S' H'->RepG K (mt S' F) H' Γ' σ'->QD Γ' S'->Q σ' H')->p):p:=by
 obtain⟨F,S,Γ,ds,QD,h0,h1,h2,h3,h4⟩:=h;exact k F S Γ ds QD h0 h1 h2 h3 h4
structure PGD (K:Fg) (X:Cx) (e:Expr) (t:GD):Prop where
 o:PG X e (upG K t)
structure PGsD (K:Fg) (X:Cx) (es:List Expr) (t:GsD):Prop where
 o:PGs X es (upGs K t)
theorem PGD.of {e:Expr} {te:TG} {t:GD} (h:PG X e te) (i:∀ v σ H Q,upG K t v σ H Q->te v σ H Q):PGD K X e t:=⟨fun pins s σ H v u Q I r q=>h pins s σ H v u Q I r (i v σ H Q q)⟩
theorem PGsD.of {e:List Expr} {te:TGs} {t:GsD} (h:PGs X e te) (i:∀ v σ H Q,upGs K t v σ H Q->te v σ H Q):PGsD K X e t:=⟨fun pins s σ H v u Q I r q=>h pins s σ H v u Q I r (i v σ H Q q)⟩
def aZ6 (i:Nat):GD:=fun d Γ S Q=>Q (Γ.set i (some d)) S
theorem aQt {i:Nat} {x:Str} (hN:X.N.Nodup) (hi:X.N[i]?=some x) (hx:Loc X.env.scope x) (hf:X.fn x=true\/X.env.scope.names.lookup x=some .local:=by first | exact .inl rfl | exact .inr rfl | assumption):PGD K X (.Name x pos) (aZ6 i) :=
 .of (aQe hN hi hx hf) fun v σ H Q z0=>z0.el fun F S Γ d QD r g rv q c=>c _ S _ H (Ext.refl _ _) r (g.set rv i) q
def eJt:GsD:=fun ds Γ S Q=>ds=[]/\Q Γ S
def cXp (t:GD) (u:GsD):GsD:=fun ds Γ S Q=>match ds with
 | []=>False
 | d::r=>t d Γ S fun Γ' S'=>u r Γ' S' Q
def eJu (n:Nat) (t:GsD):GD:=fun d Γ S Q=>match d with
 | .tup ds=>ds.length=n/\t ds Γ S Q
 | _=>False
theorem aJr:PGsD K X [] eJt:=.of bXl fun v σ H Q ⟨F,S,Γ,ds,QD,r,g,l,⟨e,q⟩,c⟩=>by
 subst e;unfold RepL at l;exact⟨l,c _ S _ H (Ext.refl _ _) r g q⟩
theorem aQy {e:Expr} {es:List Expr} {t:GD} {u:GsD} (h1:PGD K X e t) (h2:PGsD K X es u) (ha:(assignEach (e::es) X.env).map (·.2)=assign e X.env::(assignEach es X.env).map (·.2):=by rfl):PGsD K X (e::es) (cXp t u) :=
 .of (aXg h1.o h2.o ha) fun vs σ H Q z0=>z0.el fun F S Γ ds QD r g l q c=>by
  cases ds with
  | nil=>exact q.elim
  | cons d ds =>
   unfold RepL at l;obtain⟨v,vs,rfl,rv,l⟩:=l;exact⟨v,vs,rfl,F,S,Γ,d,_,r,g,rv,q,fun Γ1 S1 σ1 H1 x1 r1 g1 q1=>⟨F,S1,Γ1,ds,_,r1,g1,l.ext x1,q1,fun Γ2 S2 σ2 H2 x2=>c Γ2 S2 σ2 H2 (x1.trans x2)⟩⟩
theorem bX8 {es:List Expr} {kk:Nat} {t:GsD} {n:Nat} (hc:X.calm=true) (h:PGsD K X es t) (hK:X.K=K:=by rfl)
  (hn:(assignEach es X.env).length=n:=by rfl) (hst:(assignEach es X.env).findIdx? (·.1)=none:=by rfl):PGD K X (.Tuple es kk pos) (eJu n t) :=
 .of (cZ8 hc h.o hn hst) fun v σ H Q z0=>z0.el fun F S Γ d QD r g rv q c=>by
  cases d with
  | tup ds =>
   obtain⟨p,us,rfl,sq,l⟩:=tup.st rv;exact⟨p,us,rfl,by rw[hK];exact sq,by rw[l.length];exact q.1,F,S,Γ,ds,_,r,g,l,q.2,c⟩
  | _=>exact q.elim
def fX0:SD:=fun E Γ S=>E.nx Γ S
def dSeq (t u:SD):SD:=fun E Γ S=>t { E with nx:=u E } Γ S
def dAsg (te:ED) (g:GD):SD:=fun E Γ S=>te Γ S fun d S1=>g d Γ S1 E.nx
def fX1 (te:ED):SD:=fun E Γ S=>te Γ S fun _ S1=>E.nx Γ S1
def dRet (te:ED):SD:=fun E Γ S=>te Γ S E.rt
def dIfS (c:TD) (t u:SD):SD:=fun E Γ S=>c Γ S fun b S1=>if b=true then t E Γ S1 else u E Γ S1
section
variable {st:Stmt} {rest:List Stmt} {t u:SD}
theorem aQv:PSsD K X [] fX0:=.of dXg fun D' σ H z0=>z0.el fun F S Γ E r g q c=>c.nx Γ S σ H (Ext.refl _ _) r g q
theorem aQ2 (h1:PSD K X st t) (h2:PSsD K X rest u):PSsD K X (st::rest) (dSeq t u):=.of (bJc h1.o h2.o) fun D' σ H z0=>z0.el fun F S Γ E r g q c =>
 ⟨F,S,Γ,{ E with nx:=u E },r,g,q,fun Γ1 S1 σ1 H1 x1 r1 g1 q1=>⟨F,S1,Γ1,E,r1,g1,q1,c.ext x1⟩,c.rt,c.bk,c.ct⟩
theorem aQ5 (h1:PSD K X st t):PSsD K X [st] t:=⟨dXh h1.o⟩
theorem eJv {te:ED} {i:Nat}:∀ D' σ H,upS K (dAsg te (aZ6 i)) D' σ H->tAsg (upE K te) (bXk i) D' σ H:=fun D' σ H z0=>z0.el fun F S Γ E r g q c =>
 ⟨F,S,Γ,_,r,g,q,fun v d H1 S1 x1 r1 v1 q1=>c.nx _ S1 _ H1 x1 r1 ((g.ext x1).set v1 i) q1⟩
theorem aQ7 {i:Nat} {x:Str} {e:Expr} {te:ED} {pos':Pos} (hN:X.N.Nodup) (hi:X.N[i]?=some x) (hx:Loc X.env.scope x) (he:PD K X e te) (hs:swapsWith e (some (.Name x pos')) pos.line X.env=pure false:=by rfl) (hf:X.fn x=true\/X.env.scope.names.lookup x=some .local:=by first | exact .inl rfl | exact .inr rfl | assumption) :
  PSD K X (.Assign [.Name x pos'] e pos) (dAsg te (aZ6 i)):=.of (eZn hN hi hx he.o hs hf) eJv
theorem aJs {e:Expr} {te:ED} (he:PD K X e te) (hs:swapsWith e none pos.line X.env=pure false:=by rfl):PSD K X (.Expr e pos) (fX1 te):=.of (dXi he.o hs) fun D' σ H z0=>z0.el fun F S Γ E r g q c =>
 ⟨F,S,Γ,_,r,g,q,fun v d H1 S1 x1 r1 v1 q1=>c.nx Γ S1 σ H1 x1 r1 (g.ext x1) q1⟩
theorem aQm {e:Expr} {te:ED} (he:PD K X e te):PSD K X (.Return (some e) pos) (dRet te):=.of (eZm he.o) fun D' σ H z0=>z0.el fun F S Γ E r g q c =>
 ⟨F,S,Γ,_,r,g,q,fun v d H1 S1 x1 r1 v1 q1=>c.rt v d H1 S1 x1 r1 v1 q1⟩
theorem aXl {c:Expr} {sa sb:List Stmt} {tc:TD} (hc:PTD K X c tc) (ha:PSsD K X sa t) (hb:PSsD K X sb u):PSD K X (.If c sa sb pos) (dIfS tc t u):=.of (fZ6 hc.o ha.o hb.o) fun D' σ H z0=>z0.el fun F S Γ E r g q c =>
 ⟨F,S,Γ,_,r,g,q,fun z H1 S1 x1 r1 q1=>by
  cases z with
  | true=>exact⟨F,S1,Γ,E,r1,g.ext x1,q1,c.ext x1⟩
  | false=>exact⟨F,S1,Γ,E,r1,g.ext x1,q1,c.ext x1⟩⟩
end
def FE (F:Am) (H:Hp) (F2:Am):Prop:=∀ a,F2 a->F a\/H a=none
theorem FE.refl (F:Am) (H:Hp):FE F H F:=fun _ h=>.inl h
structure ExtW (F:Am) (S:Sto) (H:Hp) (S':Sto) (H':Hp):Prop where
 keep:∀ a o,¬ mt S F a->H a=some o->H' a=some o
 new:∀ a,S' a≠none->S a≠none\/H a=none
theorem Ext.w {F:Am} {S S':Sto} {H H':Hp} (x:Ext S H S' H'):ExtW F S H S' H':=⟨fun a o h e=>x.keep a o (Classical.byContradiction fun n=>h (.inl n)) e,x.new⟩
theorem ExtW.kpF {F F2:Am} {S S':Sto} {H H':Hp} (x:ExtW F S H S' H') (f:FE F H F2):Keep (mt S F) H (mt S' F2) H':=⟨x.keep,fun a h e=>fun z=>by
 rcases z with z | z
 ·rcases x.new a z with y | y
  ·exact h (.inl y)
  ·exact e y
 ·rcases f a z with y | y
  ·exact h (.inr y)
  ·exact e y⟩
structure ItOk (K:Fg) (F:Am) (S:Sto) (H:Hp) (J:It) (xs:List D) (G:Sto->Prop):Prop where
 go:∀ F2,FE F H F2->∀ S2 H2,ExtW F S H S2 H2->Rp K F2 S2 H2->G S2->∀ i d,xs[i]?=some d->J.go i H2/\∀ x H3,J.yld i H2 x H3->Ext S2 H2 S2 H3/\Rp K F2 S2 H3/\RepV K (mt S2 F2) H3 d x
 stop:∀ F2,FE F H F2->∀ S2 H2,ExtW F S H S2 H2->Rp K F2 S2 H2->G S2->J.stop xs.length H2
abbrev IDk:=List D->(Sto->Prop)->Sto->Prop
abbrev ID:=Gm->Sto->IDk->Prop
def upI (K:Fg) (t:ID):TI:=fun σ H R=>∃ F S Γ QD,Rp K F S H/\RepG K (mt S F) H Γ σ/\t Γ S QD/\∀ J xs G H' S',Ext S H S' H'->Rp K F S' H'->ItOk K F S' H' J xs G->QD xs G S'->R J H'
theorem upI.el {K:Fg} {t:ID} {σ:St} {H:Hp} {R:It->Hp->Prop} {p:Prop} (h:upI K t σ H R) (k:∀ F S Γ QD,Rp K F S H->RepG K (mt S F) H Γ σ->t Γ S QD->(∀ J xs G H' S',Ext S H S' H'->Rp K F S' H'->ItOk K F S' H' J xs G->QD xs G S'->R J H')->p):p:=by
 obtain⟨F,S,Γ,QD,h0,h1,h2,h3⟩:=h;exact k F S Γ QD h0 h1 h2 h3
structure PID (K:Fg) (X:Cx) (tg e:Expr) (t:ID):Prop where
 o:PI X tg e (upI K t)
theorem PID.of {tg e:Expr} {te:TI} {t:ID} (h:PI X tg e te) (i:∀ σ H Q,upI K t σ H Q->te σ H Q):PID K X tg e t:=⟨fun pins s σ H Q I q=>h pins s σ H Q I (i σ H Q q)⟩
def iSq (K:Fg) (tl:TE):TI:=fun σ H R=>tl σ H fun x H1=>(∃ a,x=.ref a/\(∃ xs,SqL K H1 a xs)/\R (Itl K a) H1)\/∃ a,x=.ref a/\(∃ xs,SqT K H1 a xs)/\R (Itt K a) H1
theorem fX2 {tg l:Expr} {tl:TE} (hl:PE X l tl) (hK:X.K=K:=by rfl):PI X tg l (iSq K tl):=by
 subst hK;intro pins s σ H R I h;refine thn (hl pins s σ H _ I h) fun v s1 ⟨x,H1,I1,r1,q1⟩=>?_;have fp:∀ b∈[s1.heap.objs.size],FpOk X pins H1 b:=fun b hb=>by
  have e:b=s1.heap.objs.size:=by simpa using hb
  subst e;exact I1.fpOk (Nat.le_refl _) (I1.hok.fresh (Nat.le_refl _))
 rcases q1 with⟨a,e,⟨xs,hq⟩,q⟩ | ⟨a,e,⟨xs,hq⟩,q⟩
 ·subst e;cases r1;obtain⟨its,rv,p,hz⟩:=I1.list hq;exact wpAny_pyIter_list p.isList ⟨s1.heap.objs.size,[s1.heap.objs.size],_,_,H1,rfl,I1.kept (t':=s1.toks) fun b o e=>Heap.get?_push_of_some _ e,cZ9 a _,⟨_,Heap.get?_push_size _ rfl,rfl,rfl⟩,fp,q⟩
 ·subst e;cases r1;obtain⟨its,rv,p,hz⟩:=I1.tuple hq;exact wpAny_pyIter_tuple (show s1.heap.IsTuple a its.toArray from p) ⟨s1.heap.objs.size,[s1.heap.objs.size],_,_,H1,rfl,I1.kept (t':=s1.toks) fun b o e=>Heap.get?_push_of_some _ e,cQk a _,⟨_,Heap.get?_push_size _ rfl,rfl,rfl⟩,fp,q⟩
def eJw (d:D) (xs:List D):Sto->Prop:=match d with
 | .ref a=>fun S=>S a=some (.lst xs)
 | _=>fun _=>True
def dSq (te:ED):ID:=fun Γ S Q=>te Γ S fun d S1=>∃ xs,sqIs S1 d xs/\Q xs (eJw d xs) S1
theorem eQ9 {F:Am} {S:Sto} {H:Hp} {p:Addr} {xs:List D} {us:List V} {G:Sto->Prop} (t:TupAt K (mt S F) H p us) (l:RepL K (mt S F) H xs us):ItOk K F S H (Itt K p) xs G where
 go:=fun F2 f S2 H2 x r2 _ i d hd=>by
  have t2:=(t.keep (x.kpF f)).sq;obtain⟨v,e1,rv⟩:=l.get hd;refine⟨⟨us,v,t2,e1⟩,fun y H3 ⟨e2,y1⟩=>?_⟩;subst e2
  have:=y1 us t2
  rw[e1] at this;cases this;exact⟨Ext.refl _ _,r2,rv.keep (x.kpF f)⟩
 stop:=fun F2 f S2 H2 x r2 _=>⟨us,(t.keep (x.kpF f)).sq,by rw[l.length];exact Nat.le_refl _⟩
theorem eQa {F:Am} {S:Sto} {H:Hp} {p:Addr} {xs:List D} {us:List V} {G:Sto->Prop} (t:LstAt K (mt S F) H p us) (l:RepL K (mt S F) H xs us):ItOk K F S H (Itl K p) xs G where
 go:=fun F2 f S2 H2 x r2 _ i d hd=>by
  obtain⟨v,e1,rv⟩:=l.get hd;have t2:SqL K H2 p us:=(t.keep (x.kpF f)).sq;refine⟨⟨us,v,t2,e1⟩,fun y H3 ⟨e2,y1⟩=>?_⟩;subst e2
  have:=y1 us t2
  rw[e1] at this;cases this;exact⟨Ext.refl _ _,r2,rv.keep (x.kpF f)⟩
 stop:=fun F2 f S2 H2 x r2 _=>⟨us,(t.keep (x.kpF f)).sq,by rw[l.length];exact Nat.le_refl _⟩
theorem eQb {F:Am} {S:Sto} {H:Hp} {p:Addr} {xs:List D}:ItOk K F S H (Itl K p) xs (eJw (.ref p) xs) where
 go:=fun F2 f S2 H2 x r2 hg i d hd=>by
  obtain⟨us,hu,l⟩:=r2.obj p _ hg;obtain⟨v,e1,rv⟩:=l.get hd;refine⟨⟨us,v,SqL.of hu,e1⟩,fun y H3 ⟨e2,y1⟩=>?_⟩;subst e2
  have:=y1 us (SqL.of hu)
  rw[e1] at this;cases this;exact⟨Ext.refl _ _,r2,rv⟩
 stop:=fun F2 f S2 H2 x r2 hg=>by
  obtain⟨us,hu,l⟩:=r2.obj p _ hg;exact⟨us,SqL.of hu,by rw[l.length];exact Nat.le_refl _⟩
theorem aZ7 {tg l:Expr} {tl:ED} (hl:PD K X l tl) (hK:X.K=K:=by rfl):PID K X tg l (dSq tl):=.of (fX2 hl.o hK) fun σ H Q z0=>z0.el fun F S Γ QD r g q c =>
 ⟨F,S,Γ,_,r,g,q,fun v d H1 S1 x1 r1 v1 ⟨xs,hs,q1⟩=>by
  cases d with
  | tup ys =>
   cases hs;unfold RepV at v1;obtain⟨p,us,rfl,t,l⟩:=v1;exact .inr ⟨p,rfl,⟨us,t.sq⟩,c _ _ _ _ _ x1 r1 (eQ9 t l) q1⟩
  | lst ys =>
   cases hs;unfold RepV at v1;obtain⟨p,us,rfl,t,l⟩:=v1;exact .inl ⟨p,rfl,⟨us,t.sq⟩,c _ _ _ _ _ x1 r1 (eQa t l) q1⟩
  | ref p =>
   rw[rref v1];obtain⟨us,hu,l⟩:=r1.obj p _ hs;exact .inl ⟨p,rfl,⟨us,SqL.of hu⟩,c _ _ _ _ _ x1 r1 eQb q1⟩
  | _=>exact hs.elim⟩
def rngD (lo:Int):Nat->List D
 | 0=>[]
 | n + 1=>.int lo::rngD (lo + 1) n
theorem aXm:∀ (n:Nat) (lo:Int),(rngD lo n).length=n
 | 0,_=>rfl
 | n + 1,lo=>by simp[rngD,aXm n]
theorem bZ4:∀ (n:Nat) (lo:Int) (i:Nat) (d:D),(rngD lo n)[i]?=some d->i < n/\d=.int (lo + i)
 | 0,lo,i,d,h=>by simp[rngD] at h
 | n + 1,lo,0,d,h=>by simp[rngD] at h;exact⟨by lia,by rw[<- h];simp⟩
 | n + 1,lo,i + 1,d,h=>by
  have h':(rngD (lo + 1) n)[i]?=some d:=by simpa [rngD] using h
  obtain⟨h1,h2⟩:=bZ4 n (lo + 1) i d h';refine⟨by lia,?_⟩
  rw[h2]
  congr 1
  rw[Int.natCast_add];lia
theorem eQc {F:Am} {S:Sto} {H:Hp} {lo:Int} {n:Nat} {G:Sto->Prop}:ItOk K F S H (Itr lo n) (rngD lo n) G where
 go:=fun F2 f S2 H2 x r2 _ i d hd=>by
  obtain⟨h1,rfl⟩:=bZ4 n lo i d hd;exact⟨h1,fun y H3 ⟨e2,y1⟩=>by subst e2;subst y1;exact⟨Ext.refl _ _,r2,by unfold RepV;rfl⟩⟩
 stop:=fun F2 f S2 H2 x r2 _=>by rw[aXm];exact Nat.le_refl n
def fX3 (ta:AD):ID:=fun Γ S Q=>ta Γ S fun ds S1=>match ds with
 | [.int j]=>(-(2 ^ 62)<=j/\j < 2 ^ 62)/\Q (rngD 0 j.toNat) (fun _=>True) S1
 | _=>False
theorem aZu {tg:Expr} {p:Pos} {ta:AD} (hg:Gl X "range") (hm:X.mg "range" = none) (ha:PAD K X [a] ta) (hs:starEach [a] X.env=[(false,eval a X.env)]:=by rfl):PID K X tg (.Call (.Name "range" p) [a] [] pos) (fX3 ta):=.of (cZa hg hm ha.o hs) fun σ H Q z0=>z0.el fun F S Γ QD r g q c =>
 ⟨F,S,Γ,_,r,g,q,fun vs ds H1 S1 x1 r1 v1 q1=>by
  match ds,q1 with
  | [.int j],q1 =>
   obtain⟨v,rfl,rv⟩:=v1.one;rw[rint rv];exact⟨j,rfl,q1.1.1,q1.1.2,c _ _ _ _ _ x1 r1 eQc q1.2⟩⟩
def aJ4 (lo:Int):List D->List D
 | []=>[]
 | d::ds=>.tup [.int lo,d]::aJ4 (lo + 1) ds
theorem aZi:∀ (ds:List D) (lo:Int),(aJ4 lo ds).length=ds.length
 | [],_=>rfl
 | d::ds,lo=>by simp[aJ4,aZi ds]
theorem aZ8:∀ (ds:List D) (lo:Int) (i:Nat) (d:D),(aJ4 lo ds)[i]?=some d->∃ e,ds[i]?=some e/\d=.tup [.int (lo + i),e]
 | [],lo,i,d,h=>by simp[aJ4] at h
 | e::ds,lo,0,d,h=>by simp[aJ4] at h;exact⟨e,rfl,by rw[<- h];simp⟩
 | e::ds,lo,i + 1,d,h=>by
  have h':(aJ4 (lo + 1) ds)[i]?=some d:=by simpa [aJ4] using h
  obtain⟨f,h1,h2⟩:=aZ8 ds (lo + 1) i d h';refine⟨f,by simpa using h1,?_⟩
  rw[h2]
  have:lo + 1 + (i:Int)=lo + ((i + 1:Nat):Int):=by rw[Int.natCast_add];lia
  rw[this]
theorem cXq {F:Am} {S:Sto} {H:Hp} {p:Addr} {i:Nat} {y:V} {d:D} (r:Rp K F S H) (hp:H p=none) (rv:RepV K (mt S F) H d y):Ext S H S (upd H p (.tup [.int i,y]))/\Rp K F S (upd H p (.tup [.int i,y]))/\RepV K (mt S F) (upd H p (.tup [.int i,y])) (.tup [.int (0 + i),d]) (.ref p):=by
 have x:Ext S H S (upd H p (.tup [.int i,y])):=Ext.same (aQx hp);refine⟨x,r.same (aQx hp),?_⟩;unfold RepV;exact⟨p,_,rfl,.inl ⟨r.nmt hp,.inl aQ6⟩,RepL.cons (by unfold RepV;rw[Int.zero_add]) (RepL.cons (rv.ext x) RepL.nil)⟩
theorem eQd {F:Am} {S:Sto} {H:Hp} {p:Addr} {xs:List D} {us:List V} {G:Sto->Prop} (t:TupAt K (mt S F) H p us) (l:RepL K (mt S F) H xs us):ItOk K F S H (Ite K p) (aJ4 0 xs) G where
 go:=fun F2 f S2 H2 x r2 _ i d hd=>by
  obtain⟨e,he,rfl⟩:=aZ8 xs 0 i d hd;obtain⟨v,e1,rv⟩:=l.get he;have t2:=(t.keep (x.kpF f)).sq;refine⟨⟨us,v,t2,e1⟩,fun z H3 ⟨q,y,hq,ez,eH,y1⟩=>?_⟩;subst ez;subst eH
  have:=y1 us t2
  rw[e1] at this;cases this;exact cXq r2 hq (rv.keep (x.kpF f))
 stop:=fun F2 f S2 H2 x r2 _=>⟨us,(t.keep (x.kpF f)).sq,by rw[aZi,l.length];exact Nat.le_refl _⟩
theorem eQe {F:Am} {S:Sto} {H:Hp} {p:Addr} {xs:List D} {us:List V} {G:Sto->Prop} (t:LstAt K (mt S F) H p us) (l:RepL K (mt S F) H xs us):ItOk K F S H (Itel K p) (aJ4 0 xs) G where
 go:=fun F2 f S2 H2 x r2 _ i d hd=>by
  obtain⟨e,he,rfl⟩:=aZ8 xs 0 i d hd;obtain⟨v,e1,rv⟩:=l.get he;have t2:SqL K H2 p us:=(t.keep (x.kpF f)).sq;refine⟨⟨us,v,t2,e1⟩,fun z H3 ⟨q,y,hq,ez,eH,y1⟩=>?_⟩;subst ez;subst eH
  have:=y1 us t2
  rw[e1] at this;cases this;exact cXq r2 hq (rv.keep (x.kpF f))
 stop:=fun F2 f S2 H2 x r2 _=>⟨us,(t.keep (x.kpF f)).sq,by rw[aZi,l.length];exact Nat.le_refl _⟩
def dEnT (ta:AD):ID:=fun Γ S Q=>ta Γ S fun ds S1=>match ds with
 | [.tup xs]=>Q (aJ4 0 xs) (fun _=>True) S1
 | _=>False
def dEnL (ta:AD):ID:=fun Γ S Q=>ta Γ S fun ds S1=>match ds with
 | [.lst xs]=>Q (aJ4 0 xs) (fun _=>True) S1
 | _=>False
theorem cXr {e:Expr} {ta:AD} {p:Pos} {elts:List Expr} {x1:Nat} {tpos:Pos} (hg:Gl X "enumerate") (hm:X.mg "enumerate" = none) (ha:PAD K X [e] ta) (hs:starEach [e] X.env=[(false,eval e X.env)]:=by rfl) (hK:X.K=K:=by rfl) :
  PID K X (.Tuple elts x1 tpos) (.Call (.Name "enumerate" p) [e] [] pos) (dEnT ta):=.of (eXn hg hm ha.o hs hK) fun σ H Q z0=>z0.el fun F S Γ QD r g q c =>
 ⟨F,S,Γ,_,r,g,q,fun vs ds H1 S1 x1 r1 v1 q1=>by
  match ds,q1 with
  | [.tup xs],q1 =>
   obtain⟨v,rfl,rv⟩:=v1.one;unfold RepV at rv;obtain⟨p,us,rfl,t,l⟩:=rv;exact⟨p,rfl,⟨us,t.sq⟩,c _ _ _ _ _ x1 r1 (eQd t l) q1⟩⟩
theorem eJx {e:Expr} {ta:AD} {p:Pos} {elts:List Expr} {x1:Nat} {tpos:Pos} (hg:Gl X "enumerate") (hm:X.mg "enumerate" = none) (ha:PAD K X [e] ta) (hs:starEach [e] X.env=[(false,eval e X.env)]:=by rfl) (hK:X.K=K:=by rfl) :
  PID K X (.Tuple elts x1 tpos) (.Call (.Name "enumerate" p) [e] [] pos) (dEnL ta):=.of (dJr hg hm ha.o hs hK) fun σ H Q z0=>z0.el fun F S Γ QD r g q c =>
 ⟨F,S,Γ,_,r,g,q,fun vs ds H1 S1 x1 r1 v1 q1=>by
  match ds,q1 with
  | [.lst xs],q1 =>
   obtain⟨v,rfl,rv⟩:=v1.one;unfold RepV at rv;obtain⟨p,us,rfl,t,l⟩:=rv;exact⟨p,rfl,⟨us,t.sq⟩,c _ _ _ _ _ x1 r1 (eQe t l) q1⟩⟩
def forD (g:GD) (tb:SD) (G:Sto->Prop) (E:EndsD):List D->Gm->Sto->Prop
 | [],Γ,S=>G S/\E.nx Γ S
 | x::xs,Γ,S=>G S/\g x Γ S fun Γ2 S2=>tb { E with nx:=forD g tb G E xs,ct:=forD g tb G E xs,bk:=E.nx } Γ2 S2
def dFor (wi:ID) (g:GD) (tb:SD):SD:=fun E Γ S=>wi Γ S fun xs G S1=>forD g tb G E xs Γ S1
theorem aZv {α:Type} {xs:List α} {i:Nat} (h:i < xs.length):xs.drop i=xs[i]::xs.drop (i + 1):=List.drop_eq_getElem_cons h
theorem aX4 {tg iter:Expr} {body:List Stmt} {wi:ID} {g:GD} {tb:SD} (hp:PassesOwn (model X.prog X.w) X.A X.env X.xe) (hc:X.calm=true) (hi:PID K X tg iter wi) (hg:PGD K X tg g) (hb:PSsD K X body tb) (hs:∀ x,foldedSetIterable iter X.env x=pure x:=by intro _;rfl):PSD K X (.For tg iter body [] pos) (dFor wi g tb):=.of (eZo hp hc hi.o hg.o hb.o hs) fun D' σ H z0=>z0.el fun F S Γ E r gm q c =>
 ⟨F,S,Γ,_,r,gm,q,fun J xs G H1 S1 x1 r1 it q1=>by
  refine⟨fun i m σ' H'=>m=xs.length - i/\i<=xs.length/\∃ S' Γ',Ext S1 H1 S' H'/\Rp K F S' H'/\RepG K (mt S' F) H' Γ' σ'/\forD g tb G E (xs.drop i) Γ' S',⟨xs.length,by simp,Nat.zero_le _,S1,Γ,Ext.refl _ _,r1,gm.ext x1,by simpa using q1⟩,?_⟩
  rintro i m σ' H' ⟨rfl,hi.o,S',Γ',x2,r2,g2,f2⟩
  by_cases hlt:i < xs.length
  ·rw[aZv hlt] at f2;obtain⟨hG,f2⟩:=f2;obtain⟨hgo,hy⟩:=it.go F (FE.refl F H1) S' H' x2.w r2 hG i xs[i] (List.getElem?_eq_getElem hlt);refine .inr ⟨hgo,fun σ'' H''=>∃ S'' Γ'',Ext S1 H1 S'' H''/\Rp K F S'' H''/\RepG K (mt S'' F) H'' Γ'' σ''/\forD g tb G E (xs.drop (i + 1)) Γ'' S'',fun σ'' H'' z=>⟨xs.length - (i + 1),by lia,rfl,hlt,z⟩,fun x H3 y3=>?_⟩
   obtain⟨x3,r3,v3⟩:=hy x H3 y3;refine⟨F,S',Γ',xs[i],_,r3,g2.ext x3,v3,f2,fun Γ4 S4 σ4 H4 x4 r4 g4 q4=>⟨F,S4,Γ4,_,r4,g4,q4,?_⟩⟩;have x04:=x2.trans (x3.trans x4);exact⟨fun Γ5 S5 σ5 H5 x5 r5 g5 q5=>⟨S5,Γ5,x04.trans x5,r5,g5,q5⟩,fun v d H5 S5 x5=>c.rt v d H5 S5 (x1.trans (x04.trans x5)),fun Γ5 S5 σ5 H5 x5=>c.nx Γ5 S5 σ5 H5 (x1.trans (x04.trans x5)),fun Γ5 S5 σ5 H5 x5 r5 g5 q5=>⟨S5,Γ5,x04.trans x5,r5,g5,q5⟩⟩
  ·have e:i=xs.length:=by lia
   subst e;rw[List.drop_length] at f2;exact .inl ⟨it.stop F (FE.refl F H1) S' H' x2.w r2 f2.1,c.nx Γ' S' σ' H' (x1.trans x2) r2 g2 f2.2⟩⟩
end
end L2
set_option maxHeartbeats 1000000
namespace L2
open PySem PySem.Spec PyProof.Rows
section
variable {X:Cx} {K:Fg} {pos:Pos} {k:Nat}
structure ExtX (D':Addr) (S:Sto) (H:Hp) (S':Sto) (H':Hp):Prop where
 keep:∀ a o,a≠D'->S a=none->H a=some o->H' a=some o
 live:∀ a,H a≠none->H' a≠none
 new:∀ a,S' a≠none->S a≠none\/H a=none
theorem Ext.x {D':Addr} {S S':Sto} {H H':Hp} (x:Ext S H S' H'):ExtX D' S H S' H':=⟨fun a o _=>x.keep a o,x.live,x.new⟩
theorem ExtX.trans {D' : Addr} {S S1 S2 : Sto} {H H1 H2 : Hp} (x : ExtX D' S H S1 H1) (y : ExtX D' S1 H1 S2 H2) : ExtX D' S H S2 H2 :=
  ⟨fun a o n h h' => y.keep a o n (by
      cases e : S1 a with
      | none => rfl
      | some z => rcases x.new a (by rw [e]; exact fun z => by cases z) with z | z
                  · exact absurd h z
                  · rw [h'] at z; cases z) (x.keep a o n h h'), fun a h => y.live a (x.live a h), fun a h => by
    rcases y.new a h with z | z
    · exact x.new a z
    · exact .inr (Classical.byContradiction fun n => x.live a n z)⟩
theorem ExtX.kp {D':Addr} {F:Am} {S S':Sto} {H H':Hp} (x:ExtX D' S H S' H') (hF:F D'):Keep (mt S F) H (mt S' F) H':=⟨fun a o h e=>x.keep a o (by rintro rfl;exact h (.inr hF)) (Classical.byContradiction fun n=>h (.inl n)) e,fun a h e=>fun z=>by
 rcases z with z | z
 ·rcases x.new a z with y | y
  ·exact h (.inl y)
  ·exact e y
 ·exact h (.inr z)⟩
def Free (L:List Nat) (σ:St):Prop:=∀ i∈L,σ[i]?=some none
abbrev BD:=Gm->Sto->List D->(List D->Sto->Prop)->Prop
def bX9 (K:Fg) (L:List Nat) (tv:Addr->TB) (td:BD):Prop:=∀ D' F S H Γ σ acc zs N QD,Free L σ->F D'->Rp K F S H->RepG K (mt S F) H Γ σ->H D'=some (.lst zs)->RepL K (mt S F) H acc zs->td Γ S acc QD ->
 (∀ acc' S' H' zs',ExtX D' S H S' H'->Rp K F S' H'->H' D'=some (.lst zs')->RepL K (mt S' F) H' acc' zs'->QD acc' S'->N H')->tv D' σ H N
def bZ5 (te:ED):BD:=fun Γ S acc Q=>te Γ S fun y S1=>acc.length < sizeLine/\Q (acc++[y]) S1
theorem aQl {L:List Nat} {te:ED}:bX9 K L (fun D'=>eXf D' (upE K te)) (bZ5 te):=by
 intro D' F S H Γ σ acc zs N QD _ hF r g hH l q c;refine⟨F,S,Γ,_,r,g,q,fun v d H1 S1 x1 r1 v1 ⟨hz,q1⟩=>?_⟩;have hS:S D'=none:=(r.frm D' hF).2;have hS1:S1 D'=none:=(r1.frm D' hF).2;have h1:H1 D'=some (.lst zs):=x1.keep _ _ hS hH;have y:ExtX D' S1 H1 S1 (upd H1 D' (.lst (zs++[v]))):=⟨fun a o n _ e=>by rw[upd_ne n];exact e,fun a h=>by
  by_cases e:a=D'
  ·subst e;rw[aQ6];exact fun z=>by cases z
  ·rw[upd_ne e];exact h,fun a h=>.inl h⟩
 refine⟨zs,h1,by rw[l.length];exact hz,c _ S1 _ (zs++[v]) (x1.x.trans y) ?_ aQ6 ?_ q1⟩
 ·exact⟨fun a o e=>(r1.obj a o e).keep (y.kp hF) (upd_ne (by rintro rfl;rw[hS1] at e;cases e)),fun a h=>by
   obtain⟨⟨ys,e,ct⟩,h2⟩:=r1.frm a h
   by_cases z:a=D'
   ·subst z;exact⟨⟨_,aQ6,trivial⟩,h2⟩
   ·exact⟨⟨ys,by rw[upd_ne z];exact e,ct⟩,h2⟩⟩
 ·exact RepL.app ((l.ext x1).keep (y.kp hF)) (RepL.cons (v1.keep (y.kp hF)) RepL.nil)
def CG (K:Fg) (L L':List Nat) (g:TG) (gd:GD):Prop:=∀ F S H Γ σ d v Q QD,Free L σ->Rp K F S H->RepG K (mt S F) H Γ σ->RepV K (mt S F) H d v->gd d Γ S QD->(∀ Γ' S' σ' H',Ext S H S' H'->Rp K F S' H'->RepG K (mt S' F) H' Γ' σ'->Wk σ σ'->Free L' σ'->QD Γ' S'->Q σ' H')->g v σ H Q
theorem Free.set {L:List Nat} {σ:St} {i:Nat} {v:V} (h:Free (i::L) σ) (hi:i∉L):Free L (σ.set i (some v)):=fun j hj=>by
 rw[List.getElem?_set_ne (by rintro rfl;exact hi hj)]
 exact h j (List.mem_cons_of_mem _ hj)
theorem cg_name {L:List Nat} {i:Nat} (hi:i∉L:=by decide):CG K (i::L) L (bXk i) (aZ6 i):=fun F S H Γ σ d v Q QD f r g rv q c=>c _ S _ H (Ext.refl _ _) r (g.set rv i) (dJ2 (f i List.mem_cons_self)) (f.set hi) q
theorem cXs {L:List Nat} {i j:Nat} (hi:i∉j::L:=by decide) (hj:j∉L:=by decide):CG K (i::j::L) L (gTup K 2 (dXj (bXk i) (dXj (bXk j) gNil))) (eJu 2 (cXp (aZ6 i) (cXp (aZ6 j) eJt))):=fun F S H Γ σ d v Q QD f r g rv q c=>by
 cases d with
 | tup ds =>
  obtain⟨p,us,rfl,sq,l⟩:=tup.st rv;obtain⟨hl,q⟩:=q
  match ds,hl,q with
  | [d1,d2],_,q =>
   obtain⟨v1,v2,rfl,r1,r2⟩:=l.two;have f1:Free (j::L) (σ.set i (some v1)):=f.set hi;exact⟨p,_,rfl,sq,rfl,v1,_,rfl,v2,_,rfl,rfl,c _ S _ H (Ext.refl _ _) r ((g.set r1 i).set r2 j) ((dJ2 (f i List.mem_cons_self)).trans (dJ2 (f1 j List.mem_cons_self))) (f1.set hj) q.2⟩
 | _=>exact q.elim
def aZe (g:GD) (tt:TD) (tb:BD) (G:Sto->Prop) (Γ0:Gm):List D->List D->Sto->(List D->Sto->Prop)->Prop
 | [],acc,S,Q=>G S/\Q acc S
 | x::xs,acc,S,Q=>G S/\g x Γ0 S fun Γ2 S2=>tt Γ2 S2 fun b S3=>if b=true then tb Γ2 S3 acc fun acc' S4=>aZe g tt tb G Γ0 xs acc' S4 Q else aZe g tt tb G Γ0 xs acc S3 Q
theorem eQf {L L':List Nat} {g:TG} {gd:GD} {tt:TD} {tv:Addr->TB} {tb:BD} (hg:CG K L L' g gd) (hb:bX9 K L' tv tb) {D':Addr} {F:Am} {S:Sto} {H:Hp} {Γ:Gm} {σ:St} {acc:List D} {zs:List V} {N:Hp->Prop} {QD:List D->Sto->Prop} {J:It} {xs:List D} {G:Sto->Prop}
  (f:Free L σ) (hF:F D') (r:Rp K F S H) (gm:RepG K (mt S F) H Γ σ) (hH:H D'=some (.lst zs)) (l:RepL K (mt S F) H acc zs) (it:∀ S2 H2,ExtX D' S H S2 H2->Rp K F S2 H2->G S2->(∀ i d,xs[i]?=some d->J.go i H2/\∀ x H3,J.yld i H2 x H3->Ext S2 H2 S2 H3/\Rp K F S2 H3/\RepV K (mt S2 F) H3 d x)/\J.stop xs.length H2)
  (q:aZe gd tt tb G Γ xs acc S QD) (c:∀ acc' S' H' zs',ExtX D' S H S' H'->Rp K F S' H'->H' D'=some (.lst zs')->RepL K (mt S' F) H' acc' zs'->QD acc' S'->N H'):cQr J σ g (upT K tt) (tv D') N H:=by
 refine⟨fun i m H'=>m=xs.length - i/\i<=xs.length/\∃ S' acc' zs',ExtX D' S H S' H'/\Rp K F S' H'/\H' D'=some (.lst zs')/\RepL K (mt S' F) H' acc' zs'/\aZe gd tt tb G Γ (xs.drop i) acc' S' QD,⟨xs.length,by simp,Nat.zero_le _,S,acc,zs,(Ext.refl _ _).x,r,hH,l,by simpa using q⟩,?_⟩
 rintro i m H' ⟨rfl,hi,S',acc',zs',x2,r2,h2,l2,f2⟩;have g2:=gm.keep (x2.kp hF)
 by_cases hlt:i < xs.length
 ·rw[aZv hlt] at f2;obtain⟨hG,f2⟩:=f2;obtain⟨hgo,hy⟩:=(it S' H' x2 r2 hG).1 i xs[i] (List.getElem?_eq_getElem hlt);refine .inr ⟨hgo,fun H''=>∃ S'' acc'' zs'',ExtX D' S H S'' H''/\Rp K F S'' H''/\H'' D'=some (.lst zs'')/\RepL K (mt S'' F) H'' acc'' zs''/\aZe gd tt tb G Γ (xs.drop (i + 1)) acc'' S'' QD,fun H'' z=>⟨xs.length - (i + 1),by lia,rfl,hlt,z⟩,fun x H3 y3=>?_⟩
  obtain⟨x3,r3,v3⟩:=hy x H3 y3;refine hg F S' H3 Γ σ xs[i] x _ _ f r3 (g2.ext x3) v3 f2 fun Γ4 S4 σ4 H4 x4 r4 g4 wk fr4 q4=>⟨wk,F,S4,Γ4,_,r4,g4,q4,fun z H5 S5 x5 r5 q5=>?_⟩;have x35:=x3.trans (x4.trans x5);have h5:H5 D'=some (.lst zs'):=x35.keep _ _ (r2.frm D' hF).2 h2;have l5:=l2.ext x35;have x05:ExtX D' S H S5 H5:=x2.trans x35.x;cases z with
  | false=>exact⟨S5,acc',zs',x05,r5,h5,l5,q5⟩
  | true=>exact hb D' F S5 H5 Γ4 σ4 acc' zs' _ _ fr4 hF r5 (g4.ext x5) h5 l5 q5 fun acc6 S6 H6 zs6 x6 r6 h6 l6 q6=>⟨S6,acc6,zs6,x05.trans x6,r6,h6,l6,q6⟩
 ·have e:i=xs.length:=by lia
  subst e;rw[List.drop_length] at f2;exact .inl ⟨(it S' H' x2 r2 f2.1).2,c acc' S' H' zs' x2 r2 h2 l2 f2.2⟩
def cXt (is:List (Option Nat)) (Γ:Gm):Gm:=is.map fun o=>o.bind fun i=>(Γ[i]?).join
theorem RepG.at {M:Am} {H:Hp}:∀ {g:Gm} {σ:St} {i:Nat} {d:D},RepG K M H g σ->g[i]?=some (some d)->∃ v,σ[i]?=some (some v)/\RepV K M H d v
 | [],_,_,_,_,e=>by simp at e
 | none::g,_,0,_,_,e=>by simp at e
 | some d::g,_,0,e,⟨v,τ,rfl,q,r⟩,h=>by simp at h;subst h;exact⟨v,rfl,q⟩
 | none::g,_,i + 1,d,⟨v,τ,rfl,r⟩,h=>by
  obtain⟨u,e1,h1⟩:=RepG.at (i:=i) r (by simpa using h)
  exact⟨u,by simpa using e1,h1⟩
 | some _::g,_,i + 1,d,⟨v,τ,rfl,q,r⟩,h=>by
  obtain⟨u,e1,h1⟩:=RepG.at (i:=i) r (by simpa using h)
  exact⟨u,by simpa using e1,h1⟩
theorem RepG.capt {M:Am} {H:Hp} {g:Gm} {σ:St} (h:RepG K M H g σ):∀ is:List (Option Nat),RepG K M H (cXt is g) (capt is σ)
 | []=>rfl
 | o::is=>by
  have ih:=RepG.capt h is;cases o with
  | none=>exact⟨_,_,rfl,ih⟩
  | some i =>
   show RepG K M H ((g[i]?).join::cXt is g) ((σ[i]?).join::L2.capt is σ);cases e:g[i]? with
   | none=>exact⟨_,_,rfl,ih⟩
   | some z =>
    cases z with
    | none=>exact⟨_,_,rfl,ih⟩
    | some d =>
     obtain⟨v,e1,r⟩:=h.at e;rw[e1];exact⟨v,_,rfl,r,ih⟩
def eQg (b:Bool) (is:List (Option Nat)) (wi:ID) (g:GD) (tt:TD) (tb:BD):ED:=fun Γ S Q=>wi Γ S fun xs G S1=>aZe g tt tb G (cXt is Γ) xs [] S1 fun acc S2=>newL b acc S2 Q
theorem cXu {b:Bool} {L L':List Nat} {is:List (Option Nat)} {wi:ID} {g:TG} {gd:GD} {tt:TD} {tv:Addr->TB} {tb:BD} (hL:∀ σ,Free L (capt is σ)) (hg:CG K L L' g gd) (hb:bX9 K L' tv tb):∀ σ H Q,upE K (eQg b is wi gd tt tb) σ H Q->bJf is (upI K wi) g (upT K tt) tv σ H Q:=fun σ H Q z0=>z0.el fun F S Γ QD r gm q c =>
 ⟨F,S,Γ,_,r,gm,q,fun J xs G H1 S1 x1 r1 it q1 D' hD=>by
  have hS1:S1 D'=none:=r1.sn hD;have fe:FE F H1 (fun a=>F a\/a=D'):=fun a h=>h.elim .inl fun e=>.inr (by rw[e];exact hD)
  have nF:¬ F D':=fun h=>by
   obtain⟨⟨ys,e,_⟩,_⟩:=r1.frm D' h;rw[hD] at e;cases e
  have xe:Ext S1 H1 S1 (upd H1 D' (.lst [])):=Ext.same (aQx hD);have kp:Keep (mt S1 F) H1 (mt S1 fun a=>F a\/a=D') (upd H1 D' (.lst [])):=xe.w.kpF fe;have r2:Rp K (fun a=>F a\/a=D') S1 (upd H1 D' (.lst [])):=⟨fun a o e=>(r1.obj a o e).keep kp (upd_ne (by rintro rfl;rw[hS1] at e;cases e)),fun a h=>by
   rcases h with h | h
   ·obtain⟨⟨ys,e,ct⟩,h2⟩:=r1.frm a h;exact⟨⟨ys,by rw[upd_ne (by rintro rfl;rw[hD] at e;cases e)];exact e,ct⟩,h2⟩
   ·subst h;exact⟨⟨_,aQ6,trivial⟩,hS1⟩⟩
  have old:∀ {S2 H2},ExtX D' S1 (upd H1 D' (.lst [])) S2 H2->Ext S1 H1 S2 H2:=fun {S2 H2} y=>⟨fun a o h e=>y.keep a o (by rintro rfl;rw[hD] at e;cases e) h (by rw[upd_ne (by rintro rfl;rw[hD] at e;cases e)];exact e),fun a h=>y.live a (xe.live a h),fun a h=>by
   rcases y.new a h with z | z
   ·exact .inl z
   ·by_cases e:a=D'
    ·subst e;exact .inr hD
    ·rw[upd_ne e] at z;exact .inr z⟩
  refine eQf hg hb (hL σ) (F:=fun a=>F a\/a=D') (.inr rfl) r2 ((gm.ext x1).keep kp |>.capt is) aQ6 RepL.nil (fun S2 H2 y r2 hG=>⟨it.go _ fe S2 H2 (old y).w r2 hG,it.stop _ fe S2 H2 (old y).w r2 hG⟩) q1 fun acc' S' H' zs' y r3 h3 l3 q3=>?_
  have less:Keep (mt S' fun a=>F a\/a=D') H' (mt S' F) H':=⟨fun _ _ _ e=>e,fun a h _=>fun z=>h (z.elim .inl fun w=>.inr (.inl w))⟩;have x3:=old y;have hS':S' D'=none:=(r3.frm D' (.inr rfl)).2;have r4:Rp K F S' H':=⟨fun a o e=>(r3.obj a o e).keep less rfl,fun a h=>r3.frm a (.inl h)⟩;have nm:¬ mt S' F D':=fun z=>z.elim (fun w=>w hS') nF;cases b with
  | false =>
   refine c (.ref D') (.lst acc') H' S' (x1.trans x3) r4 ?_ q3;unfold RepV;exact⟨D',zs',rfl,.inl ⟨nm,.inl h3⟩,l3.keep less⟩
  | true =>
   have x5:Ext S1 H1 (supd S' D' (.lst acc')) H':=⟨x3.keep,x3.live,fun a h=>by
    by_cases e:a=D'
    ·subst e;exact .inr hD
    ·rw[aQ9 e] at h;exact x3.new a h⟩
   have k6:Keep (mt S' fun a=>F a\/a=D') H' (mt (supd S' D' (.lst acc')) F) H':=⟨fun _ _ _ e=>e,fun a h _=>fun z=>by
    rcases z with z | z
    ·by_cases e:a=D'
     ·exact h (.inr (.inr e))
     ·rw[aQ9 e] at z;exact h (.inl z)
    ·exact h (.inr (.inl z))⟩
   refine c (.ref D') (.ref D') H' (supd S' D' (.lst acc')) (x1.trans x5) ⟨fun a o e=>?_,fun a h=>⟨(r4.frm a h).1,?_⟩⟩ (by unfold RepV;rfl) (q3 D' hS')
   ·by_cases e1:a=D'
    ·subst e1;rw[supd_same] at e;cases e;exact⟨zs',h3,l3.keep k6⟩
    ·rw[aQ9 e1] at e;exact(r3.obj a o e).keep k6 rfl
   ·rw[aQ9 (by rintro rfl;exact nF h)];exact(r4.frm a h).2⟩
def dYes:TD:=fun _ S Q=>Q true S
theorem aZm:PTs X [] (upT K dYes):=fun pins s σ H Q I z0=>z0.el fun F S Γ QD r g q c=>dXz pins s σ H Q I (c true H S (Ext.refl _ _) r q)
theorem aQh {L:List Nat} {is:List (Option Nat)} (h:(L.all fun i=>decide (is[i]?=some none))=true):∀ σ,Free L (capt is σ):=fun σ i hi=>by
 have:=of_decide_eq_true (List.all_eq_true.mp h i hi)
 unfold capt;rw[List.getElem?_map,this]
 rfl
theorem aQw {c:Expr} {t:TD} (h:PTD K X c t):PTs X [c] (upT K t):=dJ0 h.o
end
end L2
set_option maxHeartbeats 4000000
namespace L2
open PySem PySem.Spec PyProof.Rows
section
variable {prog:Program} {w:World} {s:Shared}
def Col (prog:Program) (w:World) (s:Shared) (v:Value) (Pv:List Value->Prop):Prop:=∀ (A:Around) (E:Value->Shared->Prop) (R:List Value->Shared->Prop),A.handled=none ->
 (∀ vals h' d tk,Pv vals->(∀ b o,s.heap.get? b=some o->h'.get? b=some o)->R vals { s with heap:=h',drawn:=d,toks:=tk })->wpAny (model prog w) A (collect v) R E s
theorem cXv {a:Addr} {T:String} {o:Obj} {its:List Value} {n:Nat} (hT:T = "list"\/T = "tuple") (ho:s.heap.get? a=some o) (hc:o.cls=.type T) (hd:o.data=.seq its.toArray n) (hz:its.length<=sizeLine):Col prog w s (.ref a) (· = its):=fun A E R _ h =>
 wpAny_collect_seq a hT ho hc hd (fun h' k=>by
  have:=h its h' s.drawn s.toks rfl k
  simpa using this) (by simpa using hz)
theorem dQq {a:Addr} {vs:List (Key × Value)} (lo:(a == sysModules)=false) (hd:s.heap.DictOf (aJa prog w) a vs) (hz:vs.length<=sizeLine):Col prog w s (.ref a) (fun vals=>vals.length=vs.length/\∀ (j:Nat) (v:Value),vals[j]?=some v->∃ (k:Key) (x:Value),vs[j]?=some (k,x)/\cJv k v=true):=fun A E R hh h=>by
 obtain⟨ep,hat⟩:=hd.dictAt;refine PySem.W.kdu_collect (PySem.W.kdl_dict (knd:=aJa prog w) (kvs:=vs) (ep:=ep) lo) hh hat hz fun h' tk acc hk hacc=>?_;exact h acc.toList h' s.drawn tk ⟨by rw[Array.length_toList];exact hacc.1,fun j v e=>hacc.2 j v (by rw[<- Array.getElem?_toList];exact e)⟩ hk
theorem aXw {A:Around} {E:Value->Shared->Prop} {v:Value} {Pv:List Value->Prop} {Q:Value->Shared->Prop} (hh:A.handled=none) (col:Col prog w s v Pv) (hz:∀ vals,Pv vals->vals.length<=sizeLine)
  (srt:∀ (vals:List Value) (h1:Heap) (d:Drawn) (tk:Nat),Pv vals->(∀ b o,s.heap.get? b=some o->h1.get? b=some o)->wpAny (model prog w) A.in1.in1 (Builtin.«list.sort» ⟨[.ref h1.objs.size],[]⟩) (fun fin s'=>fin=.done (.ret .none)/\Q (.ref h1.objs.size) s') E { s with heap:=h1.push (seqObj "list" vals.toArray 0),drawn:=d,toks:=tk }) :
  wpAny (model prog w) A (call (.builtin "sorted") [v]) Q E s:=by
 refine Calls.call_function_entry kind_sorted plain_sorted entry_sorted (args_sorted1 _) ?_;unfold Builtin.«sorted»;refine wpAny_bind (m:=checkCount "sorted" 1 1 _) (wpAny_pure ?_);refine wpAny_bind (col A.in1 _ _ (by simp[hh]) fun vals h1 d tk pv kp=>?_)
 refine wpAny_bind (wpAny_newList ?_ (hz vals pv));have hoL:(h1.push (seqObj "list" vals.toArray 0)).get? h1.objs.size=some (seqObj "list" vals.toArray 0):=Heap.get?_push_size _ rfl;refine wpAny_bind (wpAny_holding (wpAny_call_entry slot_list_sort ⟨_,hoL,rfl⟩ entry_list_sort ?body (args_list_sort _)))
 case body =>
  refine wpAny_mono (srt vals h1 d tk pv kp) (fun fin s' ⟨e,q⟩=>?_) fun _ _ e=>e;subst e;exact⟨_,rfl,wpAny_pure ⟨_,rfl,q⟩⟩
theorem aJt {h:Heap} {a:Addr} {vs:List Value} {n:Nat} {out:Array Value} (ho:h.get? a=some (seqObj "list" vs.toArray n)):(∃ c,(sortedHeap h a vs out).get? a=some (seqObj "list" out c))/\∀ b o,b≠a->h.get? b=some o->(sortedHeap h a vs out).get? b=some o:=by
 unfold sortedHeap;obtain⟨e1,ho1⟩:∃ e1,(h.update a (Obj.mapSeq fun _=>(#[]:Array Value))).get? a=some (seqObj "list" #[] e1):=⟨_,get?_update_seq ho fun _=>#[]⟩;have sb:=Heap.SameBut.update h a (Obj.mapSeq fun _=>(#[]:Array Value));have k2:∀ b o,(h.update a (Obj.mapSeq fun _=>(#[]:Array Value))).get? b=some o->(((h.update a (Obj.mapSeq fun _=>(#[]:Array Value))).push (seqObj "tuple" vs.toArray 0)).push (seqObj "list" #[] 0)).get? b=some o:=fun b o e=>Heap.get?_push_of_some _ (Heap.get?_push_of_some _ e);refine⟨⟨_,get?_update_seq (k2 _ _ ho1) fun _=>out⟩,fun b o hb e=>?_⟩;have s2:=Heap.SameBut.update (((h.update a (Obj.mapSeq fun _=>(#[]:Array Value))).push (seqObj "tuple" vs.toArray 0)).push (seqObj "list" #[] 0)) a (Obj.mapSeq fun _=>out);exact(s2.2 b hb).trans (k2 b o ((sb.2 b hb).trans e))
theorem cXw {A:Around} {E:Value->Shared->Prop} {a:Addr} {vs:List Value} {ss:List Str} {n:Nat} {P:PySem.Fin->Shared->Prop} (ho:s.heap.get? a=some (seqObj "list" vs.toArray n)) (hS:StrsAre vs ss) (h64:vs.length<=sizeLine)
  (h:∀ (out:List Value) (ss':List Str) (h':Heap) (c:Nat),StrsAre out ss'->ss'.Perm ss->sortedS ss'=true->h'.get? a=some (seqObj "list" out.toArray c)->(∀ b o,b≠a->s.heap.get? b=some o->h'.get? b=some o)->P (.done (.ret .none)) { s with heap:=h' }) :
  wpAny (model prog w) A (Builtin.«list.sort» ⟨[.ref a],[]⟩) P E s:=by
 refine SF.treeK strKind_oneLt ho hS.keysOf (fun v₁ v₂ rest e=>keyKind_strs (by rw[<- e];exact hS)) h64 fun st' hp hs=>?_
 obtain⟨ss',h1,h2,h3⟩:=sorted_out_str hS hp hs;obtain⟨⟨c,hc⟩,hk⟩:=aJt (out:=(arrOf st').map (·.2)) ho;exact h _ ss' _ c h1 h2 h3 (by rw[hc]) hk
theorem cXx {A:Around} {E:Value->Shared->Prop} {a:Addr} {vs:List Value} {ns:List Int} {n:Nat} {P:PySem.Fin->Shared->Prop} (ho:s.heap.get? a=some (seqObj "list" vs.toArray n)) (hI:IntsAre vs ns) (h64:vs.length<=sizeLine)
  (h:∀ (out:List Value) (ns':List Int) (h':Heap) (c:Nat),IntsAre out ns'->ns'.Perm ns->ns'.Pairwise (·<=·)->h'.get? a=some (seqObj "list" out.toArray c)->(∀ b o,b≠a->s.heap.get? b=some o->h'.get? b=some o)->P (.done (.ret .none)) { s with heap:=h' }) :
  wpAny (model prog w) A (Builtin.«list.sort» ⟨[.ref a],[]⟩) P E s:=by
 refine SF.treeI ho hI h64 fun out ns' h1 h2 h3=>?_;obtain⟨⟨c,hc⟩,hk⟩:=aJt (out:=out) ho;exact h _ ns' _ c h1 h2 h3 (by rw[hc]) hk
end
section
variable {X:Cx} {K:Fg}
def Src (K:Fg) (H:Hp) (x:V) (us:List V):Prop:=∃ a,x=.ref a/\(SqL K H a us\/SqT K H a us\/∃ kvs:List (Key × V),H a=some (.dK kvs)/\us=kvs.map fun p=>kV p.1)
theorem bXa:∀ {kvs:List (Key × V)} {vs:List (Key × Value)} {vals:List Value},KV kvs vs->vals.length=vs.length->(∀ (j:Nat) (v:Value),vals[j]?=some v->∃ (k:Key) (x:Value),vs[j]?=some (k,x)/\cJv k v=true)->Vals (kvs.map fun p=>kV p.1) vals
 | [],_,vals,.nil,hl,_=>by cases vals with
  | nil=>exact .nil
  | cons _ _=>simp at hl
 | p::kvs,_,vals,.cons (b:=q) hp hr,hl,h=>by
  cases vals with
  | nil=>simp at hl
  | cons v vals =>
   refine .cons ?_ (bXa hr (by simpa using hl) fun j v e=>by simpa using h (j + 1) v (by simpa using e))
   obtain⟨k,x,e,hk⟩:=h 0 v rfl;have e':q=(k,x):=by simpa using e
   have hk':p.1=k:=by rw[hp.1,e']
   show RelV (kV p.1) v;rw[hk'];rcases aQj hk with⟨i,t,rfl,rfl⟩ | ⟨y,t,rfl,rfl⟩
   ·exact⟨t,rfl⟩
   ·exact⟨t,rfl⟩
theorem Inv.toks {pins:List (Addr × Obj)} {σ:St} {H:Hp} {s:Shared} (I:Inv X pins σ H s) {h':Heap} (k:∀ b o,s.heap.get? b=some o->h'.get? b=some o) (d:Drawn) (tk:Nat):Inv X pins σ H { s with heap:=h',drawn:=d,toks:=tk }:=(I.kept (t':=tk) k).drawn d
theorem Inv.src {pins:List (Addr × Obj)} {σ:St} {H:Hp} {s:Shared} (I:Inv X pins σ H s) (hK:X.K=K) {x:V} {u:Value} {us:List V} (h:Src K H x us) (r:RelV x u):Col X.prog X.w s u (fun vals=>Vals us vals)/\us.length<=sizeLine:=by
 subst hK;obtain⟨a,rfl,h⟩:=h;cases r;rcases h with h | h | ⟨kvs,h,rfl⟩
 ·obtain⟨its,rv,⟨o,n,ho,hc,_,hd⟩,hz⟩:=I.list h;have hl:=rv.length;exact⟨fun A E R hh q=>cXv (.inl rfl) ho hc hd (by lia) A E R hh fun vals h' d tk e k=>q vals h' d tk (by rw[e];exact rv) k,hz⟩
 ·obtain⟨its,rv,⟨o,ho,hc,n,hd⟩,hz⟩:=I.tuple h;have hl:=rv.length;exact⟨fun A E R hh q=>cXv (.inr rfl) ho hc hd (by lia) A E R hh fun vals h' d tk e k=>q vals h' d tk (by rw[e];exact rv) k,hz⟩
 ·obtain⟨hz,lo,vs,hv,hd⟩:=I.hok a _ h;have hl:kvs.length=vs.length:=Paired.length hv;exact⟨fun A E R hh q=>dQq lo hd (by lia) A E R hh fun vals h' d tk e k=>q vals h' d tk (bXa hv e.1 e.2) k,by rw[List.length_map];exact hz⟩
def eJy (K:Fg):List V->Hp->VK->Prop:=fun xs H Q=>∃ (x:V) (ss:List Str),xs=[x]/\Src K H x (ss.map V.str)/\∀ (p:Addr) (out:List Str),H p=none->out.Perm ss->out.Pairwise (fun a b=>HT.ltS b a=false)->Q (.ref p) (upd H p (.lst (out.map V.str)))
theorem bQl:∀ {l:List Str},sortedS l=true->l.Pairwise fun a b=>HT.ltS b a=false
 | [],_=>.nil
 | [x],_=>List.pairwise_singleton _ _
 | x::y::l,h=>by
  have h':(!ltCps y.cps.toList x.cps.toList && risingS y l)=true:=h;rw[Bool.and_eq_true] at h';have ih:=bQl (l:=y::l) h'.2;have hxy:HT.ltS y x=false:=by
   have:=h'.1
   rw[Bool.not_eq_true',ltCps_eq] at this;exact this
  refine List.pairwise_cons.mpr ⟨fun z hz=>?_,ih⟩;rcases List.mem_cons.mp hz with rfl | hz
  ·exact hxy
  ·have hzy:=(List.pairwise_cons.mp ih).1 z hz;cases e:HT.ltS z x with
   | false=>rfl
   | true =>
    by_cases hyx:y=x
    ·subst hyx;rw[hzy] at e;cases e
    ·have:=HT.ltS_tot hxy hyx
     have:=HT.ltS_tr e this
     rw[hzy] at this;cases this
theorem cXy (hK:X.K=K:=by rfl) (hc:X.calm=true:=by rfl):CallR X (.builtin "sorted") (eJy K):=by
 intro pins s σ H xs us Q I r h;obtain⟨x,ss,rfl,hs,q⟩:=h;obtain⟨u,rfl,rx⟩:=aXh r;obtain⟨col,hz⟩:=I.src hK hs rx;have len:∀ {vals:List Value},Vals (ss.map V.str) vals->vals.length=ss.length:=fun v=>by have:=v.length;simpa using this.symm
 refine aXw (I.ok.hd hc) col (fun vals v=>by rw[len v];simpa using hz) fun vals h1 d tk pv kp=>?_
 have hfr:H h1.objs.size=none:=(I.toks kp d tk).hok.fresh (Nat.le_refl _);refine cXw (s:={ s with heap:=h1.push (seqObj "list" vals.toArray 0),drawn:=d,toks:=tk }) (Heap.get?_push_size _ rfl) (cXg (H:=H) (ds:=ss) (xs:=ss.map V.str) (by
  clear hz q hs col rx pv len
  induction ss with
  | nil=>exact .nil
  | cons a ss ih=>exact .cons rfl ih) pv) (by rw[len pv];simpa using hz) fun out ss' h' c a1 a2 a3 a4 a5=>⟨rfl,?_⟩
 have I1:=I.toks kp d tk;obtain⟨v1,v2⟩:=bXx (H:=H) a1;refine⟨.ref h1.objs.size,_,I1.laid (a:=h1.objs.size) (o:=.lst (ss'.map V.str)) (t':=tk) (fun b o e=>a5 b o (Nat.ne_of_lt (Heap.lt_size e)) (Heap.get?_push_of_some _ e)) (Nat.le_refl _) ⟨?_,out,c,v1,a4⟩,rfl,q _ _ hfr a2 (bQl a3)⟩
 have:=a2.length_eq
 rw[List.length_map,this];simpa using hz
def eJz (K:Fg):List V->Hp->VK->Prop:=fun xs H Q=>∃ (x:V) (ns:List Int),xs=[x]/\Src K H x (ns.map V.int)/\∀ (p:Addr) (out:List Int),H p=none->out.Perm ns->out.Pairwise (·<=·)->Q (.ref p) (upd H p (.lst (out.map V.int)))
theorem cXz (hK:X.K=K:=by rfl) (hc:X.calm=true:=by rfl):CallR X (.builtin "sorted") (eJz K):=by
 intro pins s σ H xs us Q I r h;obtain⟨x,ss,rfl,hs,q⟩:=h;obtain⟨u,rfl,rx⟩:=aXh r;obtain⟨col,hz⟩:=I.src hK hs rx;have len:∀ {vals:List Value},Vals (ss.map V.int) vals->vals.length=ss.length:=fun v=>by have:=v.length;simpa using this.symm
 refine aXw (I.ok.hd hc) col (fun vals v=>by rw[len v];simpa using hz) fun vals h1 d tk pv kp=>?_
 have hfr:H h1.objs.size=none:=(I.toks kp d tk).hok.fresh (Nat.le_refl _);refine cXx (s:={ s with heap:=h1.push (seqObj "list" vals.toArray 0),drawn:=d,toks:=tk }) (Heap.get?_push_size _ rfl) (cQq pv) (by rw[len pv];simpa using hz) fun out ss' h' c a1 a2 a3 a4 a5=>⟨rfl,?_⟩
 have I1:=I.toks kp d tk;refine⟨.ref h1.objs.size,_,I1.laid (a:=h1.objs.size) (o:=.lst (ss'.map V.int)) (t':=tk) (fun b o e=>a5 b o (Nat.ne_of_lt (Heap.lt_size e)) (Heap.get?_push_of_some _ e)) (Nat.le_refl _) ⟨?_,out,c,aJd a1,a4⟩,rfl,q _ _ hfr a2 a3⟩
 have:=a2.length_eq
 rw[List.length_map,this];simpa using hz
def fQ0 (K:Fg):List V->Hp->VK->Prop:=fun xs H Q=>∃ (x:V) (us:List V) (ds:List (List Str)),xs=[x]/\Src K H x us/\Paired (dT K dS H) us ds/\∀ (p:Addr) (idx:List Nat),H p=none->idx.Perm (List.range us.length)->(idx.map fun i=>ds.getD i []).Pairwise (fun a b=>HT.lexS b a=false)->(idx.map fun i=>ds.getD i []).Perm ds->Q (.ref p) (upd H p (.lst (idx.map fun i=>us.getD i V.non)))
theorem tsOf {pins:List (Addr × Obj)} {σ:St} {H:Hp} {s:Shared} (I:Inv X pins σ H s) (hK:X.K=K) {h':Heap} (k:∀ b o,s.heap.get? b=some o->h'.get? b=some o):∀ {us:List V} {vs:List Value} {ds:List (List Str)},Vals us vs->Paired (dT K dS H) us ds->Paired (KS.TS h') vs ds
 | _,_,_,.nil,.nil=>.nil
 | _,_,_,.cons r q,.cons d p=>by
  refine .cons ?_ (tsOf I hK k q p);obtain⟨b,xs,e,hq,pp⟩:=d;rw[e] at r;cases r;rw[<- hK] at hq;obtain⟨its,ri,⟨o,ho,z⟩,_⟩:=I.tuple hq;exact⟨b,its.toArray,rfl,⟨o,k b o ho,z⟩,aJl pp ri⟩
theorem cQ0 {us:List V} {vs:List Value} (p:Vals us vs):∀ (idx:List Nat),(∀ i∈idx,i < us.length)->Vals (idx.map fun i=>us.getD i V.non) (idx.map fun i=>vs.getD i Value.none)
 | [],_=>.nil
 | i::idx,h=>by
  refine .cons ?_ (cQ0 p idx fun j hj=>h j (List.mem_cons_of_mem _ hj));have hi:=h i List.mem_cons_self;obtain⟨u,e,r⟩:=p.get (List.getElem?_eq_getElem hi);show RelV (us.getD i V.non) (vs.getD i Value.none);rw[List.getD_eq_getElem?_getD,List.getD_eq_getElem?_getD,e,List.getElem?_eq_getElem hi];exact r
theorem cJ0 (hu:X.A.units + 8 < cLine) (hK:X.K=K:=by rfl) (hc:X.calm=true:=by rfl):CallR X (.builtin "sorted") (fQ0 K):=by
 intro pins s σ H xs us Q I r h;obtain⟨x,ys,ds,rfl,hs,hp,q⟩:=h;obtain⟨u,rfl,rx⟩:=aXh r;obtain⟨col,hz⟩:=I.src hK hs rx;have hl:ys.length=ds.length:=Paired.length hp;refine aXw (I.ok.hd hc) col (fun vals v=>by rw[<- v.length];exact hz) fun vals h1 d tk pv kp=>?_
 have hvl:=pv.length;have I1:=I.toks kp d tk;have hfr:H h1.objs.size=none:=I1.hok.fresh (Nat.le_refl _);refine KS.sort_tupsL (s:={ s with heap:=h1.push (seqObj "list" vals.toArray 0),drawn:=d,toks:=tk }) (ds:=ds) (by show X.A.units + 1 + 1 < _;lia) (Heap.get?_push_size _ rfl) (tsOf I1 hK (fun b o e=>Heap.get?_push_of_some _ e) pv hp) (by lia) fun idx h' c i1 i2 i3 g kk=>⟨rfl,?_⟩
 have hin:∀ i∈idx,i < ys.length:=fun i hi=>by have:=List.mem_range.mp (i1.mem_iff.mp hi);lia
 have il:idx.length=vals.length:=by have:=i1.length_eq;simpa using this
 refine⟨.ref h1.objs.size,_,I1.laid (a:=h1.objs.size) (o:=.lst (idx.map fun i=>ys.getD i V.non)) (t':=tk) (fun b o e=>kk b o (Nat.ne_of_lt (Heap.lt_size e)) (Heap.get?_push_of_some _ e)) (Nat.le_refl _) ⟨?_,_,c,cQ0 pv idx hin,g⟩,rfl,q _ idx hfr (by rw[hvl];exact i1) i2 i3⟩
 rw[List.length_map];lia
end
section
variable {κ:Type} [DecidableEq κ]
end
section
variable {P:Program} {w:World} {H:Hp} {h:Heap} {a:Addr}
end
section
variable {X:Cx} {pins:List (Addr × Obj)} {σ:St} {H:Hp} {s:Shared} {a:Addr} {y v:V} {u r:Value} {o:Option V} {A:Around} {E:Value->Shared->Prop}
end
section
variable {X:Cx} {pins:List (Addr × Obj)} {σ:St} {H:Hp} {s:Shared} {a:Addr} {kvs:List (Key × V)} {k:Key} {u:Value} {A:Around} {E:Value->Shared->Prop}
end
section
variable {X:Cx} {o i e value:Expr} {pos pos' tpos:Pos} {td ty tv:TE}
end
section
variable {X:Cx} {pos:Pos}
end
section
variable {X:Cx} {pins:List (Addr × Obj)} {σ:St} {H:Hp} {s:Shared} {a:Addr} {y d:V} {u r:Value} {o:Option V} {A:Around} {E:Value->Shared->Prop}
end
section
variable {X:Cx} {o e f:Expr} {apos cpos:Pos} {td ty tx:TE}
end
section
variable {X:Cx} {pins:List (Addr × Obj)} {σ:St} {H:Hp} {s:Shared} {a:Addr} {kvs:List (Key × V)} {A:Around} {E:Value->Shared->Prop}
end
section
variable {X:Cx} {pins:List (Addr × Obj)} {σ:St} {H:Hp} {s:Shared} {a:Addr} {y:V} {u:Value} {A:Around} {E:Value->Shared->Prop}
end
section
variable {X:Cx} {K:Fg} {pos:Pos} {k:Nat}
section
variable {elt target iter:Expr} {ifs:List Expr} {gs:List Comprehension} {scope:Scope} {N':List Str} {is:List (Option Nat)} {wi:ID} {g:TG} {gd:GD} {tt:TD} {tv:Addr->TB} {tb:BD} {oc:Option Str} {m:Value->Env->Sem Unit} {b:Bool}
theorem aZ0 (L L':List Nat) (hcalm:X.calm=true) (hN:X.N.Nodup)
  (hturn:∀ it acc env,compTurn (.ListComp elt (⟨target,iter,ifs,0⟩::gs) scope pos) 0 it acc env=aZa target ifs iter.pos (m acc env) (.compLoop (.ListComp elt (⟨target,iter,ifs,0⟩::gs) scope pos) 0 it acc env) it env)
  (cp:Cap X.N scope N' is) (hL:∀ σ,Free L (capt is σ)) (hi:PID K X target iter wi) (hgd:CG K L L' g gd)
  (hg:∀ cl C fp s H,PG (aQ8 X N' scope cl C fp s H oc) target g) (ht:∀ cl C fp s H,PTs (aQ8 X N' scope cl C fp s H oc) ifs (upT K tt)) (hbd:bX9 K L' tv tb) (hb:∀ cl C fp s H D,PB (aQ8 X N' scope cl C fp s H oc) (m (.ref D) (compEnvC scope cl C X.env)) (tv D))
  (hcf:∀ n acc,cellsFrom n scope.names acc=ocl oc n acc:=by intro _ _;rfl) (hpc:∀ h,pushCells h scope.names=ohp oc h:=by intro _;rfl)
  (hkind:scope.kind=.function:=by rfl) (hcell:∀ y∈scope.names,y.2=.cell->oc=some y.1:=by decide +kernel)
  (hu:∀ y∈scope.names,scope.names.lookup y.1=some y.2:=by decide +kernel) (hoc:∀ x,oc=some x->scope.names.lookup x=some .cell:=by intro x h;cases h <;> rfl)
  (hVb:okV scope.names X.env.scope.names=true:=by first | rfl | kernel_rfl)
  (hs:∀ x,foldedSetIterable iter X.env x=pure x:=by intro _;rfl) :
  PD K X (.ListComp elt (⟨target,iter,ifs,0⟩::gs) scope pos) (eQg b is wi gd tt tb):=.of (dQ7 hcalm hN hturn cp hi.o hg ht hb hcf hpc hkind hcell hu hoc hVb hs) (cXu hL hgd hbd)
theorem bZ6 {x:Str} {i:Nat} {pos' spos:Pos} (hix:X.N[i]?=some x) (hx:Loc X.env.scope x) (L L':List Nat) (hcalm:X.calm=true) (hN:X.N.Nodup)
  (hturn:∀ it acc env,compTurn (.ListComp elt (⟨target,iter,ifs,0⟩::gs) scope pos) 0 it acc env=aZa target ifs iter.pos (m acc env) (.compLoop (.ListComp elt (⟨target,iter,ifs,0⟩::gs) scope pos) 0 it acc env) it env)
  (cp:Cap X.N scope N' is) (hL:∀ σ,Free L (capt is σ)) (hi:PID K X target iter wi) (hgd:CG K L L' g gd)
  (hg:∀ cl C fp s H,PG (aQ8 X N' scope cl C fp s H oc) target g) (ht:∀ cl C fp s H,PTs (aQ8 X N' scope cl C fp s H oc) ifs (upT K tt)) (hbd:bX9 K L' tv tb) (hb:∀ cl C fp s H D,PB (aQ8 X N' scope cl C fp s H oc) (m (.ref D) (compEnvC scope cl C X.env)) (tv D))
  (hcf:∀ n acc,cellsFrom n scope.names acc=ocl oc n acc:=by intro _ _;rfl) (hpc:∀ h,pushCells h scope.names=ohp oc h:=by intro _;rfl)
  (hkind:scope.kind=.function:=by rfl) (hcell:∀ y∈scope.names,y.2=.cell->oc=some y.1:=by decide +kernel)
  (hu:∀ y∈scope.names,scope.names.lookup y.1=some y.2:=by decide +kernel) (hoc:∀ x,oc=some x->scope.names.lookup x=some .cell:=by intro x h;cases h <;> rfl)
  (hVb:okV scope.names X.env.scope.names=true:=by first | rfl | kernel_rfl)
  (hs:∀ x,foldedSetIterable iter X.env x=pure x:=by intro _;rfl)
  (hsw:swapsWith (.ListComp elt (⟨target,iter,ifs,0⟩::gs) scope pos) (some (.Name x pos')) spos.line X.env=pure true:=by first | rfl | kernel_rfl) (hf:X.fn x=true\/X.env.scope.names.lookup x=some .local:=by first | exact .inl rfl | exact .inr rfl | assumption) :
  PSD K X (.Assign [.Name x pos'] (.ListComp elt (⟨target,iter,ifs,0⟩::gs) scope pos) spos) (dAsg (eQg b is wi gd tt tb) (aZ6 i)):=.of (dJ4 hix hx hcalm hN hturn cp hi.o hg ht hb hcf hpc hkind hcell hu hoc hVb hs hsw hf) fun D' σ H z0=>z0.el fun F S Γ E r gm q c=>by
 refine cXu (tt:=tt) (b:=b) hL hgd hbd σ H _ ⟨F,S,Γ,_,r,gm,q,fun v d H1 S1 x1 r1 v1 q1=>?_⟩;exact c.nx _ S1 _ H1 x1 r1 ((gm.ext x1).set v1 i) q1
end
def dCut (t u:SD):SD:=fun E Γ S=>∃ M:Gm->Sto->Prop,t { E with nx:=M } Γ S/\∀ Γ' S',M Γ' S'->u E Γ' S'
theorem aJu {st:Stmt} {rest:List Stmt} {t u:SD} (h1:PSD K X st t) (h2:PSsD K X rest u):PSsD K X (st::rest) (dCut t u):=.of (bJc h1.o h2.o) fun D' σ H ⟨F,S,Γ,E,r,g,⟨M,q,hM⟩,c⟩ =>
 ⟨F,S,Γ,{ E with nx:=M },r,g,q,fun Γ1 S1 σ1 H1 x1 r1 g1 q1=>⟨F,S1,Γ1,E,r1,g1,hM Γ1 S1 q1,c.ext x1⟩,c.rt,c.bk,c.ct⟩
abbrev SpD:=List D->Sto->DK->Prop
def spU (K:Fg) (sp:SpD):Sp:=fun vs H Q _=>∃ F S ds QD,Rp K F S H/\RepL K (mt S F) H ds vs/\sp ds S QD/\Cn K F S H QD Q
theorem aQa {x:Str} {ps:List Str} {sp:SpD} {p:Pos} {e:Expr} {es:List Expr} {t:AD} (Df':Df X.prog X.w X.K X.mg X.base k x ps (spU K sp)) (hr:Room k X.A) (hg:Gl X x) (ha:PAD K X (e::es) t)
  (hdb:(x == ("__debug__" : Str))=false:=by decide) (he:starEach (e::es) X.env=(false,eval e X.env)::starEach es X.env:=by rfl) (hpl:(backTo pos (starEach es X.env)).any (·.1)=false:=by rfl) :
  PD K X (.Call (.Name x p) (e::es) [] pos) (dCB sp t):=.of (dQ6 Df' hr hg ha.o hdb he hpl) fun σ H Q z0=>z0.el fun F S Γ QD r g q c =>
 ⟨F,S,Γ,_,r,g,q,fun vs ds H1 S1 x1 r1 v1 q1=>by
  show spU K sp (vs++[]) H1 Q E0;rw[List.append_nil];exact⟨F,S1,ds,QD,r1,v1,q1,Cn.shift c x1⟩⟩
inductive Frz (S S':Sto):D->D->Prop where
 | same (d:D):Frz S S' d d
 | ref {a:Addr} {xs ys:List D} (h:S a=some (.lst xs)) (h':S' a=none) (l:Frz S S' (.tup xs) (.tup ys)):Frz S S' (.ref a) (.lst ys)
 | nil:Frz S S' (.tup []) (.tup [])
 | cons {d e:D} {ds es:List D} (h:Frz S S' d e) (l:Frz S S' (.tup ds) (.tup es)):Frz S S' (.tup (d::ds)) (.tup (e::es))
theorem cJ1 {F:Am} {S S':Sto} {H:Hp} (r:Rp K F S H) (hs:∀ a o,S' a=some o->S a=some o):∀ {d e:D},Frz S S' d e->(∀ v,RepV K (mt S F) H d v->RepV K (mt S' F) H e v)/\(∀ ds es,d=.tup ds->e=.tup es->∀ vs,RepL K (mt S F) H ds vs->RepL K (mt S' F) H es vs):=by
 intro d e h;have kp:Keep (mt S F) H (mt S' F) H:=(Ext.less (H:=H) hs).kp
 induction h with
 | same d=>exact⟨fun v h=>h.keep kp,fun ds es e1 e2 vs l=>by cases e1;cases e2;exact l.keep kp⟩
 | @ref a xs ys h h' l ih =>
  refine⟨fun v hv=>?_,fun ds es e1=>by cases e1⟩
  rw[rref hv];obtain⟨us,hu,lu⟩:=r.obj a _ h;unfold RepV;refine⟨a,us,rfl,.inl ⟨fun z=>?_,.inl hu⟩,ih.2 xs ys rfl rfl us lu⟩;rcases z with z | z
  ·exact z h'
  ·rw[(r.frm a z).2] at h;cases h
 | nil=>exact⟨fun v h=>h.keep kp,fun ds es e1 e2 vs l=>by cases e1;cases e2;exact l.keep kp⟩
 | @cons d e ds es h l ih1 ih2 =>
  have ls:∀ vs,RepL K (mt S F) H (d::ds) vs->RepL K (mt S' F) H (e::es) vs:=fun vs l=>by
   unfold RepL at l ⊢;obtain⟨v,vs,rfl,r1,l1⟩:=l;exact⟨v,vs,rfl,ih1.1 v r1,ih2.2 ds es rfl rfl vs l1⟩
  refine⟨fun v hv=>?_,fun ds' es' e1 e2 vs l=>by cases e1;cases e2;exact ls vs l⟩
  unfold RepV at hv ⊢;obtain⟨a,us,rfl,t,l⟩:=hv;exact⟨a,us,rfl,t.keep kp,ls us l⟩
def rtD (Q:DK):DK:=fun d S=>∃ d' S',(∀ a o,S' a=some o->S a=some o)/\Frz S S' d d'/\Q d' S'
theorem aQf {Q:DK} {d:D} {S:Sto} (h:Q d S):rtD Q d S:=⟨d,S,fun _ _ e=>e,.same d,h⟩
theorem bZ7 {Q:DK} {d:D} {S S':Sto} (hs:∀ a o,S' a=some o->S a=some o) (h:Q d S'):rtD Q d S:=⟨d,S',hs,.same d,h⟩
theorem dX0 {Q:DK} {a:Addr} {xs:List D} {S S':Sto} (h:S a=some (.lst xs)) (hs:∀ a o,S' a=some o->S a=some o) (h':S' a=none) (q:Q (.lst xs) S'):rtD Q (.ref a) S:=⟨.lst xs,S',hs,.ref h h' (.same _),q⟩
def cZ1 (Q:DK):EndsD:={ nx:=fun _ S=>rtD Q .non S,rt:=rtD Q }
def aJ1 (N:List Str) (ds:List D):Gm:=ds.map some++List.replicate (N.length - ds.length) none
theorem bZ8 {M:Am} {H:Hp} {N:List Str} {ds:List D} {vs:List V} (l:RepL K M H ds vs):RepG K M H (aJ1 N ds) (start N vs):=by
 have reps:∀ n,RepG K M H (List.replicate n none) (List.replicate n none):=fun n=>by
  induction n with
  | zero=>exact rfl
  | succ n ih=>exact⟨none,_,rfl,ih⟩
 have gen:∀ {ds:List D} {vs:List V} {g:Gm} {σ:St},RepL K M H ds vs->RepG K M H g σ->RepG K M H (ds.map some++g) (vs.map some++σ):=by
  intro ds
  induction ds with
  | nil=>intro vs g σ l h;unfold RepL at l;subst l;exact h
  | cons d ds ih =>
   intro vs g σ l h;unfold RepL at l;obtain⟨v,vs,rfl,r,l⟩:=l;exact⟨v,_,rfl,r,ih l h⟩
 unfold aJ1 start;rw[l.length];exact gen l (reps _)
theorem aX2 {P:Program} {w:World} {mg:Str->Option Value} {base:Heap} {x:Str} {st:Stmt} {N ps:List Str} {sp:SpD} (T:Tx K mg x st) (S:FnScope N ps (aQ3 st))
  (b:∀ {f:Addr} {fd:FuncData},Fun K x x st f fd->Binds K fd ps []) (len:∀ ds S Q,sp ds S Q->ds.length=ps.length)
  (h:∀ (f:Addr) (cdv:Value) (A:Around) (outer:List Env) (s:Shared) (H:Hp) (E:XK),Room k (A.deeper (envOfC x (aQ3 st) s.heap.objs.size f cdv)) ->
   ∃ t,PSsD K (cxOf CX0 P w K mg base N x (aQ3 st) f cdv A outer s H E).nox (aZ1 st) t/\∀ ds S Q,sp ds S Q->t (cZ1 Q) (aJ1 N ds) S):Df P w K mg base (k + 1) x ps (spU K sp):=by
 refine T.df b fun {f fd} Fn=>Fn.ok S (fun vs H Q E ⟨F,S,ds,QD,r,l,hsp,c⟩=>by rw[l.length];exact len ds S QD hsp) (fun cdv A outer s H vs Q E' hr ⟨F,S,ds,QD,r,l,hsp,c⟩=>?_)
 obtain⟨t,h1,h2⟩:=h f cdv A outer s H E' hr;have fin:∀ v d H' S',Ext S H S' H'->Rp K F S' H'->RepV K (mt S' F) H' d v->rtD QD d S'->Q v H':=fun v d H' S' x1 r1 v1 ⟨d',S2,hs,fz,q⟩ =>
  c v d' H' S2 (x1.trans (Ext.less hs)) (r1.less hs) ((cJ1 r1 hs fz).1 v v1) q
 exact⟨_,h1.o,F,S,aJ1 N ds,cZ1 QD,r,bZ8 l,h2 ds S QD hsp,fun Γ' S' σ' H' x1 r1 g1 q=>fin .non .non H' S' x1 r1 (by unfold RepV;rfl) q,fin,fun _ _ _ _ _ _ _ q=>q.elim,fun _ _ _ _ _ _ _ q=>q.elim⟩
theorem fQ1 {M:Am} {H:Hp}:∀ {as:List Int},RepL K M H (as.map D.int) (as.map V.int)
 | []=>RepL.nil
 | a::as=>RepL.cons (by unfold RepV;rfl) fQ1
def dMt (rd:D->List D->Sto->DK->Prop) (ck:D->Sto->Prop) (to:ED) (t:AD):ED:=fun Γ S Q=>to Γ S fun o S1=>ck o S1/\t Γ S1 fun ds S2=>rd o ds S2 Q
def MtD (K:Fg) (T:String) (r:V->List V->Hp->VK->Prop) (rd:D->List D->Sto->DK->Prop) (ck:D->Sto->Prop):Prop :=
 (∀ F S H d x,Rp K F S H->RepV K (mt S F) H d x->ck d S->tyV K T x H)/\∀ F S H d ds x vs Q QD,Rp K F S H->RepV K (mt S F) H d x->RepL K (mt S F) H ds vs->rd d ds S QD->Cn K F S H QD Q->r x vs H Q
theorem e_bm {T id:String} {name:Str} {r:V->List V->Hp->VK->Prop} {rd:D->List D->Sto->DK->Prop} {ck:D->Sto->Prop} {o e:Expr} {es:List Expr} {to:ED} {t:AD} {apos cpos:Pos} (M:MtD K T r rd ck)
  (pa:PlainAttrs T) (slot:Slot T name id) (hty:typeOf (.builtin id)=pure (.type "method_descriptor")) (hm:MtR X id r) (ho:PD K X o to) (ha:PAD K X (e::es) t) (hK:X.K=K:=by rfl)
  (hbase:attributeBase o name X.env (eval o X.env)=eval o X.env:=by rfl)
  (hfew:((backTo cpos (starEach (e::es) X.env)).all (fun x=>!x.1) && (backToKw cpos (keywordEach [] X.env)).all (fun x=>x.1.isSome)
   && decide ((e::es).length + ([]:List Keyword).length + (if ([]:List Keyword).isEmpty then 0 else 1) < 30))=true:=by rfl)
  (hline:(apos.endLine == cpos.line)=true:=by rfl) (hs:starEach (e::es) X.env=(false,eval e X.env)::starEach es X.env:=by rfl) (hplain:(backTo cpos (starEach es X.env)).any (·.1)=false:=by rfl) :
  PD K X (.Call (.Attribute o name apos) (e::es) [] cpos) (dMt rd ck to t):=by
 subst hK;exact .of (fZe pa slot hty hm ho.o ha.o hbase hfew hline hs hplain) fun σ H Q z0=>z0.el fun F S Γ QD r g q c =>
  ⟨F,S,Γ,_,r,g,q,fun v d H1 S1 x1 r1 v1 ⟨k1,q1⟩=>⟨M.1 F S1 H1 d v r1 v1 k1,F,S1,Γ,_,r1,g.ext x1,q1,fun vs ds H2 S2 x2 r2 v2 q2=>M.2 F S2 H2 d ds v vs Q QD r2 (v1.ext x2) v2 q2 (Cn.shift c (x1.trans x2))⟩⟩
def ckL (d:D) (S:Sto):Prop:=match d with
 | .ref a=>∃ xs,S a=some (.lst xs)
 | _=>False
theorem ty_L {F:Am} {S:Sto} {H:Hp} {d:D} {x:V} (r:Rp K F S H) (h:RepV K (mt S F) H d x) (c:ckL d S):tyV K "list" x H:=by
 cases d with
 | ref a =>
  obtain⟨xs,hx⟩:=c;rw[rref h];obtain⟨us,hu,_⟩:=r.obj a _ hx;exact .inl ⟨rfl,us,SqL.of hu⟩
 | _=>exact c.elim
theorem Cn.write {F:Am} {S:Sto} {H:Hp} {QD:DK} {Q:VK} (c:Cn K F S H QD Q) (r:Rp K F S H) {a:Addr} {xs ys:List D} {us ws:List V} (hS:S a=some (.lst xs)) (l:RepL K (mt S F) H ys ws) {d:D} {v:V} (hv:RepV K (mt S F) H d v) (q:QD d (supd S a (.lst ys))):Q v (upd H a (.lst ws)):=by
 have hS':S a≠none:=by rw[hS];exact fun z=>by cases z
 have x:Ext S H (supd S a (.lst ys)) (upd H a (.lst ws)):=Ext.write hS';exact c v d _ _ x (r.write hS' ⟨ws,aQ6,l.ext x⟩) (hv.ext x) q
def appD:D->List D->Sto->DK->Prop:=fun o ds S Q=>match o,ds with
 | .ref a,[y]=>∃ xs,S a=some (.lst xs)/\xs.length < sizeLine/\Q .non (supd S a (.lst (xs++[y])))
 | _,_=>False
theorem fQ2:MtD K "list" cZm appD ckL:=⟨fun F S H d x r h c=>ty_L r h c,fun F S H d ds x vs Q QD r h l q c=>by
 match d,ds,q with
 | .ref a,[y],⟨xs,hS,hz,q⟩ =>
  obtain⟨v,rfl,rv⟩:=l.one;obtain⟨us,hu,lu⟩:=r.obj a _ hS;rw[rref h];exact⟨a,us,v,rfl,rfl,hu,by rw[lu.length];exact hz,c.write r (us:=us) hS (lu.app (RepL.cons rv RepL.nil)) (by unfold RepV;rfl) q⟩⟩
def cJ2:D->List D->Sto->DK->Prop:=fun o ds S Q=>match o,ds with
 | .ref a,[.int i]=>∃ xs j y,S a=some (.lst xs)/\i=(j:Nat)/\(j:Nat) < 2 ^ 63/\xs[(j:Nat)]?=some y/\Q y (supd S a (.lst (xs.eraseIdx j)))
 | _,_=>False
theorem dQr:MtD K "list" dZj cJ2 ckL:=⟨fun F S H d x r h c=>ty_L r h c,fun F S H d ds x vs Q QD r h l q c=>by
 match d,ds,q with
 | .ref a,[.int i],⟨xs,j,y,hS,hi,hj,hy,q⟩ =>
  obtain⟨v,rfl,rv⟩:=l.one;obtain⟨us,hu,lu⟩:=r.obj a _ hS;obtain⟨z,e1,rz⟩:=lu.get hy;rw[rref h,rint rv];have hjl:j < us.length:=by
   rcases Nat.lt_or_ge j us.length with z | z
   ·exact z
   ·rw[List.getElem?_eq_none z] at e1;cases e1
  have e2:seqIndex? i us.length=some j:=by
   subst hi
   have:ixN us.length (j:Int)=some j:=by unfold ixN;rw[if_pos (by lia),if_pos (by lia),Int.toNat_natCast]
   exact(cZl this).1
  exact⟨a,us,i,j,z,rfl,rfl,hu,by lia,by subst hi;exact_mod_cast hj,e2,e1,c.write r (us:=us) hS (lu.erase j) rz q⟩⟩
theorem bZ9 {o e:Expr} {to:ED} {t:AD} {apos cpos:Pos} (ho:PD K X o to) (ha:PAD K X [e] t) (hK:X.K=K:=by rfl)
  (hbase:attributeBase o "append" X.env (eval o X.env)=eval o X.env:=by rfl)
  (hfew:((backTo cpos (starEach [e] X.env)).all (fun x=>!x.1) && (backToKw cpos (keywordEach [] X.env)).all (fun x=>x.1.isSome)
   && decide (([e]:List Expr).length + ([]:List Keyword).length + (if ([]:List Keyword).isEmpty then 0 else 1) < 30))=true:=by rfl)
  (hline:(apos.endLine == cpos.line)=true:=by rfl) (hs:starEach [e] X.env=(false,eval e X.env)::starEach [] X.env:=by rfl) (hplain:(backTo cpos (starEach [] X.env)).any (·.1)=false:=by rfl) :
  PD K X (.Call (.Attribute o "append" apos) [e] [] cpos) (dMt appD ckL to t):=e_bm fQ2 PySem.F.plainAttrs_list PySem.F.slot_list_append PySem.F.type_list_append bZu ho ha hK hbase hfew hline hs hplain
theorem eQh {o e:Expr} {to:ED} {t:AD} {apos cpos:Pos} (ho:PD K X o to) (ha:PAD K X [e] t) (hK:X.K=K:=by rfl)
  (hbase:attributeBase o "pop" X.env (eval o X.env)=eval o X.env:=by rfl)
  (hfew:((backTo cpos (starEach [e] X.env)).all (fun x=>!x.1) && (backToKw cpos (keywordEach [] X.env)).all (fun x=>x.1.isSome)
   && decide (([e]:List Expr).length + ([]:List Keyword).length + (if ([]:List Keyword).isEmpty then 0 else 1) < 30))=true:=by rfl)
  (hline:(apos.endLine == cpos.line)=true:=by rfl) (hs:starEach [e] X.env=(false,eval e X.env)::starEach [] X.env:=by rfl) (hplain:(backTo cpos (starEach [] X.env)).any (·.1)=false:=by rfl) :
  PD K X (.Call (.Attribute o "pop" apos) [e] [] cpos) (dMt cJ2 ckL to t):=e_bm dQr PySem.F.plainAttrs_list PySem.F.slot_list_pop PySem.F.type_list_pop dQ5 ho ha hK hbase hfew hline hs hplain
end
end L2
set_option maxHeartbeats 1000000
namespace L2
open PySem PySem.Spec PyProof.Rows
def leS (a b:Str):Bool:=!HT.ltS b a
def leT (a b:List Str):Bool:=!HT.lexS b a
theorem aXn:∀ a:List Str,HT.lexS a a=false
 | []=>rfl
 | x::xs=>by rw[HT.lexS_cons,if_pos rfl,aXn xs]
theorem fQ3 (a b c:Str) (h:leS a b=true) (h':leS b c=true):leS a c=true:=by
 unfold leS at *
 rw[Bool.not_eq_true'] at *
 cases e:HT.ltS c a with
 | false=>rfl
 | true =>
  by_cases hab:b=a
  ·subst hab;rw[h'] at e;cases e
  ·have:=HT.ltS_tr e (HT.ltS_tot h hab)
   rw[h'] at this;cases this
theorem eQi (a b:Str):(leS a b || leS b a)=true:=by
 unfold leS;cases e:HT.ltS b a with
 | false=>rfl
 | true=>rw[HT.ltS_as e];rfl
theorem dQs {a b:Str} (h:leS a b=true) (h':leS b a=true):a=b:=by
 unfold leS at *
 rw[Bool.not_eq_true'] at *
 exact Classical.byContradiction fun n=>by
  have:=HT.ltS_tot h (fun z=>n z.symm)
  rw[h'] at this;cases this
theorem fQ4 (a b c:List Str) (h:leT a b=true) (h':leT b c=true):leT a c=true:=by
 unfold leT at *
 rw[Bool.not_eq_true'] at *
 cases e:HT.lexS c a with
 | false=>rfl
 | true =>
  by_cases hab:b=a
  ·subst hab;rw[h'] at e;cases e
  ·have:=HT.lexS_tr e (HT.lexS_tot h hab)
   rw[h'] at this;cases this
theorem eQj (a b:List Str):(leT a b || leT b a)=true:=by
 unfold leT;cases e:HT.lexS b a with
 | false=>rfl
 | true=>rw[HT.lexS_as e];rfl
theorem dQt {a b:List Str} (h:leT a b=true) (h':leT b a=true):a=b:=by
 unfold leT at *
 rw[Bool.not_eq_true'] at *
 exact Classical.byContradiction fun n=>by
  have:=HT.lexS_tot h (fun z=>n z.symm)
  rw[h'] at this;cases this
def srS (l:List Str):List Str:=l.mergeSort leS
def srT (l:List (List Str)):List (List Str):=l.mergeSort leT
def srI (l:List Int):List Int:=l.mergeSort fun a b=>decide (a<=b)
theorem aJ8 (l:List Str):(srS l).Perm l:=List.mergeSort_perm _ _
theorem dQu (l:List (List Str)):(srT l).Perm l:=List.mergeSort_perm _ _
theorem dQv (l:List Int):(srI l).Perm l:=List.mergeSort_perm _ _
theorem dX1 (l:List Str):(srS l).Pairwise fun a b=>leS a b=true:=List.pairwise_mergeSort fQ3 eQi l
theorem fQ5 (l:List (List Str)):(srT l).Pairwise fun a b=>leT a b=true:=List.pairwise_mergeSort fQ4 eQj l
theorem fQ6 (l:List Int):(srI l).Pairwise fun a b=>decide (a<=b)=true:=List.pairwise_mergeSort (le:=fun a b=>decide (a<=b)) (fun a b c h h'=>decide_eq_true (Int.le_trans (of_decide_eq_true h) (of_decide_eq_true h'))) (fun a b=>by
 rcases Int.le_total a b with h | h
 ·rw[decide_eq_true h];rfl
 ·rw[decide_eq_true h,Bool.or_true]) l
theorem fQ7 {l out:List Str} (p:out.Perm l) (h:out.Pairwise fun a b=>HT.ltS b a=false):out=srS l :=
 (p.trans (aJ8 l).symm).eq_of_pairwise (fun _ _ _ _ h h'=>dQs h h') (h.imp fun h=>by unfold leS;rw[h];rfl) (dX1 l)
theorem eQk {l out:List (List Str)} (p:out.Perm l) (h:out.Pairwise fun a b=>HT.lexS b a=false):out=srT l :=
 (p.trans (dQu l).symm).eq_of_pairwise (fun _ _ _ _ h h'=>dQt h h') (h.imp fun h=>by unfold leT;rw[h];rfl) (fQ5 l)
theorem fQ8 {l out:List Int} (p:out.Perm l) (h:out.Pairwise (·<=·)):out=srI l :=
 (p.trans (dQv l).symm).eq_of_pairwise (fun _ _ _ _ h h'=>Int.le_antisymm (of_decide_eq_true h) (of_decide_eq_true h')) (h.imp fun h=>decide_eq_true h) (fQ6 l)
section
variable {X:Cx} {K:Fg} {pos:Pos} {k:Nat} {e:Expr} {t:AD} {p:Pos}
theorem cJ3 {M:Am} {H:Hp}:∀ {as:List Int} {xs:List V},RepL K M H (as.map D.int) xs->xs=as.map V.int
 | [],xs,h=>by rw[List.map_nil] at h;unfold RepL at h;exact h
 | a::as,xs,h=>by
  rw[List.map_cons] at h;unfold RepL at h;obtain⟨v,vs,rfl,r,l⟩:=h;unfold RepV at r;rw[r,cJ3 l];rfl
theorem cJ4 {M:Am} {H:Hp}:∀ {as:List Int},RepL K M H (as.map D.int) (as.map V.int)
 | []=>RepL.nil
 | a::as=>RepL.cons (by unfold RepV;rfl) cJ4
theorem cJ5 {M:Am} {H:Hp}:∀ {as:List Str} {xs:List V},RepL K M H (as.map D.str) xs->xs=as.map V.str
 | [],xs,h=>by rw[List.map_nil] at h;unfold RepL at h;exact h
 | a::as,xs,h=>by
  rw[List.map_cons] at h;unfold RepL at h;obtain⟨v,vs,rfl,r,l⟩:=h;unfold RepV at r;rw[r,cJ5 l];rfl
theorem cJ6 {M:Am} {H:Hp}:∀ {as:List Str},RepL K M H (as.map D.str) (as.map V.str)
 | []=>RepL.nil
 | a::as=>RepL.cons (by unfold RepV;rfl) cJ6
def keyD:Key->D
 | .inl i=>.int i
 | .inr x=>.str x
def srcIs (S:Sto) (d:D) (xs:List D):Prop:=match d with
 | .tup ys=>xs=ys
 | .lst ys=>xs=ys
 | .ref a=>S a=some (.lst xs)\/∃ kvs,S a=some (.dk kvs)/\xs=kvs.map fun p=>keyD p.1
 | _=>False
theorem cJ7 {M:Am} {H:Hp}:∀ {ks:List (Key × V)} {kvs:List (Key × D)},Paired (fun(p:Key × V) (q:Key × D)=>p.1=q.1/\RepV K M H q.2 p.2) ks kvs->RepL K M H (kvs.map fun p=>keyD p.1) (ks.map fun p=>kV p.1)
 | _,_,.nil=>RepL.nil
 | _,_,.cons (a:=a) (b:=b) h l=>by
  refine RepL.cons ?_ (cJ7 l);show RepV K M H (keyD b.1) (kV a.1);rw[h.1];cases b.1 <;> (unfold keyD kV RepV;rfl)
theorem srcIs.src {F:Am} {S:Sto} {H:Hp} (r:Rp K F S H) {d:D} {v:V} {xs:List D} (h:RepV K (mt S F) H d v) (l:srcIs S d xs):∃ us,Src K H v us/\RepL K (mt S F) H xs us:=by
 cases d with
 | tup ys=>cases l;obtain⟨a,us,rfl,sq,l⟩:=tup.st h;exact⟨us,⟨a,rfl,.inr (.inl sq)⟩,l⟩
 | lst ys=>cases l;obtain⟨a,us,rfl,sq,l⟩:=lsIs.sl r h (show lsIs S (.lst xs) xs from rfl);exact⟨us,⟨a,rfl,.inl sq⟩,l⟩
 | ref a =>
  rw[rref h];rcases l with l | ⟨kvs,l,rfl⟩
  ·obtain⟨us,hu,lu⟩:=r.obj a _ l;exact⟨us,⟨a,rfl,.inl (SqL.of hu)⟩,lu⟩
  ·obtain⟨ks,hu,lu⟩:=r.obj a _ l;exact⟨_,⟨a,rfl,.inr (.inr ⟨ks,hu,rfl⟩)⟩,cJ7 lu⟩
 | _=>exact l.elim
def tupS (t:List Str):D:=.tup (t.map D.str)
def srtD (b:Bool):RCD:=fun ds S Q=>match ds with
 | [d]=>(∃ ss:List Str,srcIs S d (ss.map D.str)/\newL b ((srS ss).map D.str) S Q)\/(∃ ns:List Int,srcIs S d (ns.map D.int)/\newL b ((srI ns).map D.int) S Q) \/
  ∃ ts:List (List Str),srcIs S d (ts.map tupS)/\newL b ((srT ts).map tupS) S Q
 | _=>False
def fX4 (K:Fg):List V->Hp->VK->Prop:=fun xs H Q=>eJy K xs H Q\/eJz K xs H Q\/fQ0 K xs H Q
theorem bJ3 {S:Sto} {F:Am} {H:Hp}:∀ {ts:List (List Str)} {us:List V},RepL K (mt S F) H (ts.map tupS) us->Paired (dT K dS H) us ts
 | [],us,h=>by rw[List.map_nil] at h;unfold RepL at h;subst h;exact .nil
 | a::as,xs,h=>by
  rw[List.map_cons] at h;unfold RepL at h;obtain⟨v,vs,rfl,r,l⟩:=h;exact .cons (bJ1 r) (bJ3 l)
theorem dX2 {M:Am} {H:Hp} {ds:List D} {us:List V} (l:RepL K M H ds us):∀ (idx:List Nat),(∀ i∈idx,i < us.length)->RepL K M H (idx.map fun i=>ds.getD i .non) (idx.map fun i=>us.getD i .non)
 | [],_=>RepL.nil
 | i::idx,h=>by
  have hi:=h i List.mem_cons_self;refine RepL.cons ?_ (dX2 l idx fun j hj=>h j (List.mem_cons_of_mem _ hj));obtain⟨d,ed,rd⟩:=l.get' (List.getElem?_eq_getElem hi);show RepV K M H (ds.getD i .non) (us.getD i .non);rw[List.getD_eq_getElem?_getD,List.getD_eq_getElem?_getD,ed,List.getElem?_eq_getElem hi];exact rd
theorem fQ9 {b:Bool}:bQ7 K (fX4 K) (srtD b):=by
 intro F S H ds vs Q QD r l h c
 match ds,h with
 | [d],h =>
  obtain⟨v,rfl,rv⟩:=l.one;rcases h with⟨ss,h1,q⟩ | ⟨ss,h1,q⟩ | ⟨ts,h1,q⟩
  ·obtain⟨us,hs,lu⟩:=h1.src r rv;rw[cJ5 lu] at hs;exact .inl ⟨v,ss,rfl,hs,fun p out hp o1 o2=>by
    rw[fQ7 o1 o2];exact c.new r hp cJ6 q⟩
  ·obtain⟨us,hs,lu⟩:=h1.src r rv;rw[cJ3 lu] at hs;exact .inr (.inl ⟨v,ss,rfl,hs,fun p out hp o1 o2=>by
    rw[fQ8 o1 o2];exact c.new r hp cJ4 q⟩)
  ·obtain⟨us,hs,lu⟩:=h1.src r rv;refine .inr (.inr ⟨v,us,ts,rfl,hs,bJ3 lu,fun p idx hp i1 i2 i3=>c.new r hp ?_ q⟩);have hl:=lu.length;rw[List.length_map] at hl;have hin:∀ i∈idx,i < us.length:=fun i hi=>List.mem_range.mp (i1.mem_iff.mp hi)
   have:=dX2 lu idx hin
   rw[<- eQk i3 i2,List.map_map];have e:(idx.map fun i=>(ts.map tupS).getD i .non)=idx.map (tupS ∘ fun i=>ts.getD i []):=List.map_congr_left fun i hi=>by
    have hi':i < ts.length:=by have:=hin i hi;lia
    show(ts.map tupS).getD i .non=tupS (ts.getD i []);rw[List.getD_eq_getElem?_getD,List.getD_eq_getElem?_getD,List.getElem?_map,List.getElem?_eq_getElem hi']
    rfl
   rw[<- e];exact this
theorem dQw {b:Bool} (hr:Room k X.A) (hg:Gl X "sorted") (hm:X.mg "sorted" = none) (ha:PAD K X [e] t) (hK:X.K=K:=by rfl) (hc:X.calm=true:=by rfl) (he:starEach [e] X.env=(false,eval e X.env)::starEach [] X.env:=by rfl) (hpl:(backTo pos (starEach [] X.env)).any (·.1)=false:=by rfl):PD K X (.Call (.Name "sorted" p) [e] [] pos) (dCB (srtD b) t):=aXa ((cXy hK hc).or ((cXz hK hc).or (cJ0 (lt10 hr) hK hc))) fQ9 hg hm aJf ha (by decide) (by decide) he hpl
end
end L2
set_option maxHeartbeats 4000000
namespace L2
open PySem PySem.Spec PyProof.Rows
theorem md {a b:Int} (h:0 < b):0<=a % b/\a % b < b:=⟨Int.emod_nonneg _ (by lia),Int.emod_lt_of_pos _ h⟩
theorem bZa {g:GD} {tt:TD} {tb:BD} {G:Sto->Prop} {Γ0:Gm} {xs acc:List D} {S:Sto} {Q:List D->Sto->Prop} (I:Nat->List D->Sto->Prop) (h0:I 0 acc S)
  (hs:∀ i x acc S (N:List D->Sto->Prop),xs[i]?=some x->I i acc S->(∀ acc' S',I (i + 1) acc' S'->N acc' S')->G S/\g x Γ0 S fun Γ2 S2=>tt Γ2 S2 fun b S3=>if b=true then tb Γ2 S3 acc N else N acc S3)
  (hd:∀ acc S,I xs.length acc S->G S/\Q acc S):aZe g tt tb G Γ0 xs acc S Q:=by
 have gen:∀ n i acc S,i + n=xs.length->I i acc S->aZe g tt tb G Γ0 (xs.drop i) acc S Q:=by
  intro n
  induction n with
  | zero =>
   intro i acc S hi h;have e:i=xs.length:=by lia
   subst e;rw[List.drop_length];exact hd acc S h
  | succ n ih =>
   intro i acc S hi h;have hlt:i < xs.length:=by lia
   rw[aZv hlt];exact hs i xs[i] acc S (fun acc' S4=>aZe g tt tb G Γ0 (xs.drop (i + 1)) acc' S4 Q) (List.getElem?_eq_getElem hlt) h fun acc' S' h'=>ih (i + 1) acc' S' (by lia) h'
 simpa using gen xs.length 0 acc S (by lia) h0
theorem for_ind {g:GD} {tb:SD} {G:Sto->Prop} {E:EndsD} {xs:List D} {Γ:Gm} {S:Sto} (I:Nat->Gm->Sto->Prop) (h0:I 0 Γ S)
  (hs:∀ i x Γ S (N:Gm->Sto->Prop),xs[i]?=some x->I i Γ S->(∀ Γ' S',I (i + 1) Γ' S'->N Γ' S')->G S/\g x Γ S fun Γ2 S2=>tb { E with nx:=N,ct:=N,bk:=E.nx } Γ2 S2)
  (hd:∀ Γ S,I xs.length Γ S->G S/\E.nx Γ S):forD g tb G E xs Γ S:=by
 have gen:∀ n i Γ S,i + n=xs.length->I i Γ S->forD g tb G E (xs.drop i) Γ S:=by
  intro n
  induction n with
  | zero =>
   intro i Γ S hi h;have e:i=xs.length:=by lia
   subst e;rw[List.drop_length];exact hd Γ S h
  | succ n ih =>
   intro i Γ S hi h;have hlt:i < xs.length:=by lia
   rw[aZv hlt];exact hs i xs[i] Γ S (forD g tb G E (xs.drop (i + 1))) (List.getElem?_eq_getElem hlt) h fun Γ' S' h'=>ih (i + 1) Γ' S' (by lia) h'
 simpa using gen xs.length 0 Γ S (by lia) h0
theorem aZn {α:Type} {i:Nat} {te:ED} {Γ0:Gm} {S:Sto} {Q:List D->Sto->Prop} {enc:α->D} {f:α->D} {xs:List α} {acc:List D} (h:∀ x∈xs,∀ Q:DK,Q (f x) S->te (Γ0.set i (some (enc x))) S Q) (hn:acc.length + xs.length<=sizeLine)
  (q:Q (acc++xs.map f) S):aZe (aZ6 i) dYes (bZ5 te) (fun _=>True) Γ0 (xs.map enc) acc S Q:=by
 induction xs generalizing acc with
 | nil=>exact⟨trivial,by simpa using q⟩
 | cons x xs ih =>
  refine⟨trivial,?_⟩;show bZ5 te (Γ0.set i (some (enc x))) S acc (fun acc' S4=>aZe (aZ6 i) dYes (bZ5 te) (fun _=>True) Γ0 (xs.map enc) acc' S4 Q);refine h x List.mem_cons_self _ ⟨by simp at hn;lia,ih (fun y hy=>h y (List.mem_cons_of_mem _ hy)) (by simp at hn ⊢;lia) (by simpa using q)⟩
theorem aQo {α:Type} {i:Nat} {tt:TD} {te:ED} {Γ0:Gm} {S:Sto} {Q:List D->Sto->Prop} {enc:α->D} {p:α->Bool} {f:α->D} {xs:List α} {acc:List D} (ht:∀ x∈xs,∀ Q:Bool->Sto->Prop,Q (p x) S->tt (Γ0.set i (some (enc x))) S Q) (h:∀ x∈xs,p x=true->∀ Q:DK,Q (f x) S->te (Γ0.set i (some (enc x))) S Q) (hn:acc.length + xs.length<=sizeLine)
  (q:Q (acc++(xs.filter p).map f) S):aZe (aZ6 i) tt (bZ5 te) (fun _=>True) Γ0 (xs.map enc) acc S Q:=by
 induction xs generalizing acc with
 | nil=>exact⟨trivial,by simpa using q⟩
 | cons x xs ih =>
  refine⟨trivial,?_⟩;show tt (Γ0.set i (some (enc x))) S _;refine ht x List.mem_cons_self _ ?_;cases hp:p x with
  | true =>
   rw[if_pos rfl];refine h x List.mem_cons_self hp _ ⟨by simp at hn;lia,ih (fun y hy=>ht y (List.mem_cons_of_mem _ hy)) (fun y hy=>h y (List.mem_cons_of_mem _ hy)) (by simp at hn ⊢;lia) ?_⟩
   rw[List.filter_cons,hp] at q;simpa using q
  | false =>
   rw[if_neg (by simp)]
   refine ih (fun y hy=>ht y (List.mem_cons_of_mem _ hy)) (fun y hy=>h y (List.mem_cons_of_mem _ hy)) (by simp at hn ⊢;lia) ?_
   rw[List.filter_cons,hp] at q;simpa using q
theorem bZb {α:Type} (f:α->D) (xs:List α) (lo hi:Option Int):cutD (xs.map f) lo hi=((xs.drop (HT.sIx xs.length 0 lo)).take (HT.sIx xs.length xs.length hi - HT.sIx xs.length 0 lo)).map f:=by
 unfold cutD;rw[List.length_map,List.map_take,List.map_drop]
theorem bJ4 {α β:Type} (f:α->β) (xs:List α) (i:Int):atI (xs.map f) i=(atI xs i).map f:=by
 unfold atI;rw[List.length_map];cases ixN xs.length i with
 | none=>rfl
 | some j=>simp
theorem cJ8 {α:Type} {xs:List α} {i:Int} (h0:0<=i) (h1:i < xs.length):∃ (h:i.toNat < xs.length),atI xs i=some xs[i.toNat]:=by
 have h:i.toNat < xs.length:=by lia
 refine⟨h,?_⟩
 have:=aX7 (List.getElem?_eq_getElem h)
 rwa [show((i.toNat:Nat):Int)=i by lia] at this
theorem cQ1 {n i:Nat} {x:D} (h:(rngD 0 n)[i]?=some x):i < n/\x=.int (i:Nat):=by
 obtain⟨h1,h2⟩:=bZ4 n 0 i x h;exact⟨h1,by rw[h2,Int.zero_add]⟩
section
variable {X:Cx}
end
section
variable {X:Cx} {K:Fg} {pos:Pos}
end
end L2
set_option maxHeartbeats 1000000
namespace L2
open PySem PySem.Spec PyProof.Rows
section
variable {X:Cx} {K:Fg} {pos:Pos} {k:Nat} {e:Expr} {te:ED}
end
section
variable {X:Cx} {K:Fg} {pos:Pos} {k:Nat}
def exrD:D->List D->Sto->DK->Prop:=fun o ds S Q=>match o,ds with
 | .ref a,[.ref b]=>∃ xs ys,S a=some (.lst xs)/\S b=some (.lst ys)/\xs.length + ys.length<=sizeLine/\Q .non (supd S a (.lst (xs++ys)))
 | _,_=>False
theorem fQa:MtD K "list" cZn exrD ckL:=⟨fun F S H d x r h c=>ty_L r h c,fun F S H d ds x vs Q QD r h l q c=>by
 match d,ds,q with
 | .ref a,[.ref b],⟨xs,ys,hS,hS2,hz,q⟩ =>
  obtain⟨v,rfl,rv⟩:=l.one;obtain⟨us,hu,lu⟩:=r.obj a _ hS;obtain⟨ws,hw,lw⟩:=r.obj b _ hS2;rw[rref h,rref rv];exact⟨a,b,us,ws,rfl,rfl,hu,hw,by rw[lu.length,lw.length];exact hz,c.write r (us:=us) hS (lu.app lw) (by unfold RepV;rfl) q⟩⟩
theorem cQ2 {o e:Expr} {to:ED} {t:AD} {apos cpos:Pos} (ho:PD K X o to) (ha:PAD K X [e] t) (hK:X.K=K:=by rfl)
  (hbase:attributeBase o "extend" X.env (eval o X.env)=eval o X.env:=by rfl)
  (hfew:((backTo cpos (starEach [e] X.env)).all (fun x=>!x.1) && (backToKw cpos (keywordEach [] X.env)).all (fun x=>x.1.isSome)
   && decide (([e]:List Expr).length + ([]:List Keyword).length + (if ([]:List Keyword).isEmpty then 0 else 1) < 30))=true:=by rfl)
  (hline:(apos.endLine == cpos.line)=true:=by rfl) (hs:starEach [e] X.env=(false,eval e X.env)::starEach [] X.env:=by rfl) (hplain:(backTo cpos (starEach [] X.env)).any (·.1)=false:=by rfl) :
  PD K X (.Call (.Attribute o "extend" apos) [e] [] cpos) (dMt exrD ckL to t):=e_bm fQa PySem.F.plainAttrs_list PySem.F.slot_list_extend PySem.F.type_list_extend cZo ho ha hK hbase hfew hline hs hplain
def cJ9 (r r':R2D) (ta tb tc:ED):ED:=fun Γ S Q=>ta Γ S fun x S1=>tb Γ S1 fun y S2=>r x y S2 fun z S3=>∃ k,z=.bl k/\(if k=true then tc Γ S3 fun w S4=>r' y w S4 Q else Q (.bl false) S3)
theorem dQx {r r':R2} {rd rd':R2D} {ta tb tc:ED} (h:OpD K r rd) (h':OpD K r' rd'):∀ σ H Q,upE K (cJ9 rd rd' ta tb tc) σ H Q->dZi r r' (upE K ta) (upE K tb) (upE K tc) σ H Q:=fun σ H Q z0=>z0.el fun F S Γ QD r g q c =>
 ⟨F,S,Γ,_,r,g,q,fun x d H1 S1 x1 r1 v1 q1=>⟨F,S1,Γ,_,r1,g.ext x1,q1,fun y e H2 S2 x2 r2 v2 q2=>h F S2 H2 d e x y _ _ r2 (v1.ext x2) v2 q2 fun v z H3 S3 x3 r3 v3 ⟨kk,e3,q3⟩=>by
  subst e3;refine⟨kk,rbl v3,?_⟩;cases kk with
  | true=>exact⟨F,S3,Γ,_,r3,g.ext (x1.trans (x2.trans x3)),q3,fun w f H4 S4 x4 r4 v4 q4=>h' F S4 H4 e f y w Q QD r4 (v2.ext (x3.trans x4)) v4 q4 fun v z H5 S5 x5=>c v z H5 S5 (x1.trans (x2.trans (x3.trans (x4.trans x5))))⟩
  | false=>exact c _ _ _ S3 (x1.trans (x2.trans x3)) r3 (rbl v3 ▸ v3) q3⟩⟩
theorem dQy {op op':CmpOp} {r r':R2} {rd rd':R2D} {a b c:Expr} {ta tb tc:ED} (ho:OpR X (compareOp op) r) (ho':OpR X (compareOp op') r') (h:OpD K r rd) (h':OpD K r' rd') (ha:PD K X a ta) (hb:PD K X b tb) (hc:PD K X c tc)
  (hm:lastMarks [op,op'] [b,c]=false:=by with_unfolding_all rfl):PTD K X (.Compare a [op,op'] [b,c] pos) (aX1 (cJ9 rd rd' ta tb tc)):=.of (cJz ho ho' ha.o hb.o hc.o hm) fun σ H Q q=>dQx h h' σ H _ (by
 obtain⟨F,S,Γ,QD,r,g,q,c⟩:=q;refine⟨F,S,Γ,_,r,g,q,fun v d H1 S1 x1 r1 v1 ⟨b,e,q1⟩=>?_⟩;subst e;exact⟨b,rbl v1,c b H1 S1 x1 r1 q1⟩)
theorem eQl {a b c:Expr} {ta tb tc:ED} (ha:PD K X a ta) (hb:PD K X b tb) (hc:PD K X c tc) (hm:lastMarks [.Lt,.LtE] [b,c]=false:=by with_unfolding_all rfl) :
  PTD K X (.Compare a [.Lt,.LtE] [b,c] pos) (aX1 (cJ9 (iiD0 fun i j=>.bl (decide (i < j))) (iiD0 fun i j=>.bl (decide (i<=j))) ta tb tc)):=dQy op_lt dXm cQz cQz ha hb hc hm
end
end L2
set_option maxHeartbeats 4000000
namespace L2
open PySem PySem.Spec PyProof.Rows
section
variable {X:Cx} {K:Fg} {pos:Pos} {k:Nat}
end
section
variable {prog:Program} {w:World} {A:Around} {E:Value->Shared->Prop}
end
section
variable {X:Cx} {K:Fg} {pos:Pos}
end
end L2
set_option maxHeartbeats 1000000
namespace L2
open PySem PySem.Spec PyProof.Rows
section
variable {X:Cx} {tg:Expr}
end
section
variable {X:Cx} {K:Fg} {pos:Pos}
end
end L2
set_option maxHeartbeats 4000000
namespace L2
open PySem PySem.Spec PyProof.Rows
section
variable {X:Cx}
def cQ3 (w:World) (K:Fg):List V->Hp->VK->Prop:=fun xs H Q=>∃ x ms,xs=[x]/\dSt w K H x ms/\ms.Nodup/\ms.length < 300/\∀ l ys out,H l=none->out.Perm ms->out.Pairwise (fun a b=>HT.lexS a b=true)->Paired (dT K dS H) ys out->Q (.ref l) (upd H l (.lst ys))
theorem aX5 {K:Fg} {w:World} (hu:X.A.units + 8 < cLine) (hK:X.K=K:=by rfl) (hw:X.w=w:=by rfl) (hc:X.calm=true:=by rfl):CallR X (.builtin "sorted") (cQ3 w K):=by
 subst hw;intro pins s σ H xs us Q I r h;obtain⟨x,ms,rfl,⟨p,es,ep,t,ps,rfl,hH,hf,hled,hpl,pp,rfl⟩,nd,h64,q⟩:=h;obtain⟨u,rfl,rx⟩:=aXh r;cases rx;obtain⟨hg,_⟩:=I.hok p _ hH;have hl:es.size=ps.length:=by have:=Paired.length pp;simpa using this
 have hpl':ps.length < 300:=by simpa using h64
 have hh:=I.ok.hd hc;refine Calls.call_function_entry kind_sorted plain_sorted entry_sorted (args_sorted1 _) ?_;unfold Builtin.«sorted»;refine wpAny_bind (m:=checkCount "sorted" 1 1 _) (wpAny_pure ?_);refine wpAny_bind (ST.collectT (by simp[hh]) hg hf hled hpl (by lia) fun vals h1 d hperm kp=>?_)
 obtain⟨ps',hps',pv'⟩:=ST.paired_perm hperm pp;have hvl:vals.length=ps'.length:=Paired.length pv';have hpl2:ps'.length=ps.length:=hps'.length_eq;have I1:Inv X pins σ H { s with heap:=h1,drawn:=d }:=(I.kept (t':=s.toks) kp).drawn d
 refine wpAny_bind (wpAny_newList ?_ (by rw[sizeLine_eq];lia))
 have hoL:(h1.push (seqObj "list" vals.toArray 0)).get? h1.objs.size=some (seqObj "list" vals.toArray 0):=Heap.get?_push_size _ rfl;refine wpAny_bind (wpAny_holding (wpAny_call_entry slot_list_sort ⟨_,hoL,rfl⟩ entry_list_sort ?body (args_list_sort _)))
 case body =>
  refine KS.sort_tups (s:={ s with heap:=h1.push (seqObj "list" vals.toArray 0),drawn:=d }) (ds:=ps'.map (·.2)) (by show X.A.units + 1 + 1 < _;lia) hoL (eJ3 I1 hK (fun b o e=>Heap.get?_push_of_some _ e) pv') ((hps'.map (·.2)).nodup_iff.mpr nd) (by rw[sizeLine_eq];lia) fun idx h' c i1 i2 i3 g kk=>⟨_,rfl,wpAny_pure ⟨_,rfl,?_⟩⟩
  have hin:∀ i∈idx,i < vals.length:=fun i hi=>List.mem_range.mp (i1.mem_iff.mp hi);have zv:=KS.paired_idx pv' Value.none (V.non,[]) idx hin;obtain⟨z1,z2⟩:=bZ0 zv;have eo:(idx.map fun i=>(ps'.map (·.2)).getD i [])=(idx.map fun i=>ps'.getD i (V.non,[])).map (·.2):=by
   rw[List.map_map];exact List.map_congr_left fun i _=>bJu ps' i
  rw[eo] at i2 i3;have hfr:H h1.objs.size=none:=I1.hok.fresh (Nat.le_refl _);have sm:Same H (upd H h1.objs.size (.lst ((idx.map fun i=>ps'.getD i (V.non,[])).map (·.1)))):=aQx hfr;have il:idx.length=vals.length:=by have:=i1.length_eq;simpa using this
  have I2:Inv X pins σ (upd H h1.objs.size (.lst ((idx.map fun i=>ps'.getD i (V.non,[])).map (·.1)))) { s with heap:=h',drawn:=d }:=I1.laid (t':=s.toks) (fun b o e=>kk b o (Nat.ne_of_lt (Heap.lt_size e)) (Heap.get?_push_of_some _ e)) (Nat.le_refl _)
   ⟨by simp only[List.length_map];rw[sizeLine_eq];lia,_,c,z1,g⟩
  exact⟨.ref h1.objs.size,_,I2,rfl,q _ _ _ hfr (i3.trans (hps'.map (·.2))) i2 z2⟩
end
section
variable {X:Cx} {K:Fg} {pos:Pos} {k:Nat} {F:Am} {S:Sto} {H:Hp}
theorem Rp.ntup (r:Rp K F S H) {a:Addr} {xs:List V} (h:Rd H a (.tup xs)):¬ mt S F a:=fun z=>by
 have no:∀ u,H a=some u->(∀ ys,u≠.tup ys)->(∀ o ys,u≠.frz o (.tup ys))->False:=fun u e n1 n2=>by
  rcases h with h | ⟨o,h⟩
  ·rw[e] at h;exact n1 _ (Option.some.inj h)
  ·rw[e] at h;exact n2 _ _ (Option.some.inj h)
 rcases z with z | z
 ·cases e:S a with
  | none=>exact z e
  | some o =>
   have q:=r.obj a o e;cases o with
   | lst ds=>obtain⟨us,hu,_⟩:=q;exact no _ hu (fun _ z=>by cases z) fun _ _ z=>by cases z
   | dk kvs=>obtain⟨us,hu,_⟩:=q;exact no _ hu (fun _ z=>by cases z) fun _ _ z=>by cases z
   | dt kvs=>obtain⟨us,hu,_⟩:=q;exact no _ hu (fun _ z=>by cases z) fun _ _ z=>by cases z
   | tb ps ql=>obtain⟨us,hu,_⟩:=q;exact no _ hu (fun _ z=>by cases z) fun _ _ z=>by cases z
 ·obtain⟨⟨zs,e,ct⟩,_⟩:=r.frm a z;exact no _ e (fun _ z=>by subst z;exact ct) fun _ _ z=>by subst z;exact ct
theorem bZc (r:Rp K F S H):∀ {xs:List V} {ts:List (List Str)},Paired (dT K dS H) xs ts->RepL K (mt S F) H (ts.map tupS) xs
 | _,_,.nil=>RepL.nil
 | _,_,.cons ⟨a,us,e,sq,p⟩ q=>by
  refine RepL.cons ?_ (bZc r q);subst e;unfold tupS RepV;refine⟨a,us,rfl,?_,cXj p⟩;rcases sq with h | h
  ·exact .inl ⟨r.ntup h,h⟩
  ·exact .inr (.inr h)
def eQm (b:Bool) (te:ED):ED:=fun Γ S Q=>te Γ S fun d S1=>∃ ts:List (List Str),lsIs S1 d (ts.map tupS)/\ts.length < 300/\∀ out:List (List Str),out.Nodup->(∀ t,t∈out↔t∈ts)->out.Pairwise (fun a b=>HT.lexS a b=true)->newL b (out.map tupS) S1 Q
theorem aJv {b:Bool} {e:Expr} {te:ED} {p p' pos':Pos} (hr:Room k X.A) (hg:Gl X "sorted") (hm:X.mg "sorted" = none) (hg':Gl X "set") (hm':X.mg "set" = none) (he:PD K X e te) (hK:X.K=K:=by rfl) (hc:X.calm=true:=by rfl)
  (h1:starEach [e] X.env=(false,eval e X.env)::starEach [] X.env:=by rfl) (h2:starEach [Expr.Call (.Name "set" p') [e] [] pos'] X.env=(false,eval (Expr.Call (.Name "set" p') [e] [] pos') X.env)::starEach [] X.env:=by rfl) (h3:(backTo pos (starEach [] X.env)).any (·.1)=false:=by rfl) (h4:(backTo pos' (starEach [] X.env)).any (·.1)=false:=by rfl) :
  PD K X (.Call (.Name "sorted" p) [.Call (.Name "set" p') [e] [] pos'] [] pos) (eQm b te) :=
 .of (bQo (aX5 (lt64 hr) hK rfl hc) hg hm aJf (bQn (bZr (cQy (lt64 hr) hK rfl hc) hg' hm' eXd (bQn he.o bJd h1) (by decide) (by decide) h1 h4) bJd h2) (by decide) (by decide) h2 h3) fun σ H Q z0=>z0.el fun F S Γ QD r g q c =>
 ⟨F,S,Γ,_,r,g,q,fun v d H1 S1 x1 r1 v1 ⟨ts,hl,h64,q1⟩=>by
  obtain⟨a,us,rfl,sq,lu⟩:=lsIs.sl r1 v1 hl;refine⟨_,ts,rfl,⟨a,us,rfl,sq,bJ3 lu⟩,by lia,fun p ms H2 s2 nd mem st=>⟨_,ms,rfl,st,nd,?_,fun l ys out hfr pm pw pp=>?_⟩⟩
  ·exact Nat.lt_of_le_of_lt (dJb nd mem).1 h64
  ·have r2:Rp K F S1 H2:=r1.same s2;have x2:Ext S1 H1 S1 H2:=Ext.same s2;exact Cn.new (Cn.shift c (x1.trans x2)) r2 hfr (bZc r2 pp) (q1 out (pm.nodup_iff.mpr nd) (fun t=>(pm.mem_iff).trans (mem t)) pw)⟩
end
end L2
set_option maxHeartbeats 1000000
namespace L2
open PySem PySem.Spec PyProof.Rows
section
variable {X:Cx}
end
section
variable {X:Cx} {K:Fg} {pos:Pos} {k:Nat}
end
end L2
set_option maxHeartbeats 4000000
namespace L2
open PySem PySem.Spec PyProof.Rows
section
variable {X:Cx} {K:Fg} {pos:Pos}
end
end L2
set_option maxHeartbeats 1000000
namespace L2
open PySem PySem.Spec PyProof.Rows
section
variable {X:Cx} {K:Fg} {pos:Pos}
end
def emitOfS (elt:Expr) (acc:Value) (env:Env):Sem Unit:=eval elt env >>= fun x=>standAt elt.pos >>= fun _=>call (.builtin "set.add") [acc,x] >>= fun _=>pure ()
theorem cJa (elt target iter:Expr) (ifs:List Expr) (scope:Scope) (pos:Pos) (it acc:Value) (env:Env) :
  compTurn (.SetComp elt [⟨target,iter,ifs,0⟩] scope pos) 0 it acc env=aZa target ifs iter.pos (emitOfS elt acc env) (.compLoop (.SetComp elt [⟨target,iter,ifs,0⟩] scope pos) 0 it acc env) it env:=by
 unfold aZa bXn emitOfS;show(standAt iter.pos >>= fun _=>pyNext it >>= fun r=>_)=_;refine bind_congr fun _=>bind_congr fun r=>?_;cases r with
 | none=>rfl
 | some v =>
  show(letOwnedTupleGo target it v >>= fun _=>assign target env v >>= fun _=>(forIn ifs true _ >>= fun ok=>_))=_;refine bind_congr fun _=>bind_congr fun _=>bind_congr fun ok=>?_;cases ok <;> rfl
def TKp (H H':Hp):Prop:=∀ a xs,Rd H a (.tup xs)->Rd H' a (.tup xs)
abbrev PVk {κ:Type} (rp:Hp->V->κ->Prop) (H:Hp):Value->V × κ->Prop:=fun v p=>RelV p.1 v/\rp H p.1 p.2
structure SKn (P:Program) (w:World) (K:Fg) (κ:Type) where
 kd:Hp->ST.SetKd P w κ
 rp:Hp->V->κ->Prop
 pI:Array (Int × Value)->SetTable->List κ->Prop
 toI:∀ {X:Cx} {pins σ H s p es ep t} {ps:List (V × κ)},X.prog=P->X.w=w->X.K=K->Inv X pins σ H s->s.heap.get? p=some (ST.setOb es ep t)->pI es t (ps.map (·.2))->Paired (PVk rp H) (es.toList.map (·.2)) ps ->
  (kd H).I s.heap p es ep t/\Paired (fun(e:Int × Value) k=>(kd H).is s.heap k e.2) es.toList (ps.map (·.2))
 toIs:∀ {X:Cx} {pins σ H s} {x:V} {v:Value} {k:κ},X.prog=P->X.w=w->X.K=K->Inv X pins σ H s->RelV x v->rp H x k->(kd H).is s.heap k v
 ofI:∀ {H:Hp} {h:Heap} {p es ep t} {ks:List κ},(kd H).I h p es ep t->ks.Nodup->Paired (fun(e:Int × Value) k=>(kd H).is h k e.2) es.toList ks->∃ ps:List (V × κ),Paired (PVk rp H) (es.toList.map (·.2)) ps/\ps.map (·.2)=ks/\pI es t ks
 fr:∀ led,pI #[] (.fresh 0 0 led) []
 mo:∀ {H H':Hp} {v:V} {k:κ},TKp H H'->rp H v k->rp H' v k
def StV {P:Program} {w:World} {K:Fg} {κ:Type} (kn:SKn P w K κ) (H:Hp) (p:Addr) (acc:List κ):Prop:=∃ es ep t,∃ ps:List (V × κ),H p=some (stO p es ep t)/\t.led=ST.ledOf w/\kn.pI es t (ps.map (·.2))/\Paired (PVk kn.rp H) (es.toList.map (·.2)) ps/\(ps.map (·.2)).Nodup/\∀ k,k∈ps.map (·.2)↔k∈acc
theorem StV.keep {P:Program} {w:World} {K:Fg} {κ:Type} {kn:SKn P w K κ} {H H':Hp} {p:Addr} {acc:List κ} (h:StV kn H p acc) (e:H' p=H p) (t:TKp H H'):StV kn H' p acc:=by
 obtain⟨es,ep,tb,ps,h1,h2,h3,h4,h5,h6⟩:=h;exact⟨es,ep,tb,ps,e.trans h1,h2,h3,Paired.imp (fun _ _ z=>⟨z.1,kn.mo t z.2⟩) h4,h5,h6⟩
theorem StV.at {P:Program} {w:World} {K:Fg} {κ:Type} {kn:SKn P w K κ} {H:Hp} {p:Addr} {acc:List κ} (h:StV kn H p acc):∃ φ,H p=some (.ext φ):=by
 obtain⟨es,ep,tb,ps,h1,_⟩:=h;exact⟨_,h1⟩
theorem eQn {H:Hp} {p:Addr} {φ:Heap->Prop} {o:HO} (h:H p=some (.ext φ)):TKp H (upd H p o):=fun a xs r=>by
 have:a≠p:=by
  rintro rfl;rcases r with r | ⟨o,r⟩ <;> rw[h] at r <;> cases r
 rcases r with r | ⟨o',r⟩
 ·exact .inl (by rw[upd_ne this];exact r)
 ·exact .inr ⟨o',by rw[upd_ne this];exact r⟩
section
variable {X:Cx} {K:Fg} {κ:Type} [DecidableEq κ]
def cJb {P:Program} {w:World} (kn:SKn P w K κ) (p:Addr) (te:TE):TB:=fun σ H N=>te σ H fun y H4=>∃ acc k,StV kn H4 p acc/\kn.rp H4 y k/\acc.length + 1<=300/\∀ φ,StV kn (upd H4 p (.ext φ)) p (acc++[k])->N (upd H4 p (.ext φ))
theorem dQz {P:Program} {w:World} {kn:SKn P w K κ} {elt:Expr} {te:TE} {p:Addr} (hxe:X.xe=fun _ _=>False) (hu:X.A.units + 1 < cLine) (hP:X.prog=P) (hw:X.w=w) (hK:X.K=K) (he:PE X elt te):PB X (emitOfS elt (.ref p) X.env) (cJb kn p te):=by
 intro pins s σ H N I h;unfold emitOfS;have h1:=he pins s σ H _ I h;rw[hxe] at h1;refine wpAny_bind (thn h1 fun y s1 ⟨v,H1,I1,r1,acc,k,st,rk,hn,n⟩=>wpAny_bind (wpAny_standAt (wpAny_bind ?_)));obtain⟨es,ep,t,ps,hp,hled,hpi,hpp,hnd,hmem⟩:=id st;subst hP hw;obtain⟨ho,_⟩:=I1.hok p _ hp;obtain⟨i1,i2⟩:=kn.toI rfl rfl hK I1 ho hpi hpp;have isk:=kn.toIs rfl rfl hK I1 r1 rk;have M:ST.Mem (kn.kd H1) s1.heap p acc (ST.ledOf X.w) (ps.map (·.2)):=⟨⟨es,ep,t,i1,hled,i2⟩,hnd,hmem⟩;refine wpAny_call_entry F.slot_set_add ⟨_,ho,rfl⟩ F.entry_set_add ?_ (F.args_set_add_2 _ _);unfold Builtin.«set.add» Builtin.Frozenset.oneOther;simp only[List.isEmpty_nil,bind_assoc];unfold Builtin.Frozenset.addrOf;refine wpAny_bind (wpAny_pure ?_)
 try dsimp only
 refine wpAny_bind (wpAny_pure ?_)
 try dsimp only
 refine wpAny_bind ?_;refine ST.addM (kn.kd H1) (show X.A.units + 1 < cLine by lia) M isk hn fun h' tk ks' M' sb kp tk'=>?_
 show wpAny _ _ (ret Value.none) _ _ _;refine wpAny_pure ⟨_,rfl,wpAny_pure ?_⟩;obtain⟨es',ep',t',i1',hled',i2'⟩:=M'.ex;obtain⟨ps',hpp',hks,hpi'⟩:=kn.ofI i1' M'.nd i2';have ho':=(kn.kd H1).obj i1';have I2:Inv X pins σ (upd H1 p (stO p es' ep' t')) { s1 with heap:=h',toks:=tk }:=I1.write (x:=p) (e:=p) (by rw[hp];exact trivial) (.inl rfl) (fun b u hb hu=>(sb.2 b hb).trans hu) ⟨_,ho'⟩ ⟨ho',⟨_,ho'⟩,fun g1 g2 g k=>k _ g⟩
 have tk1:TKp H1 (upd H1 p (stO p es' ep' t')):=eQn hp;refine⟨σ,_,I2,Wk.refl σ,n _ ⟨es',ep',t',ps',aQ6,hled',by rw[hks];exact hpi',Paired.imp (fun _ _ z=>⟨z.1,kn.mo tk1 z.2⟩) hpp',by rw[hks];exact M'.nd,by rw[hks];exact M'.mem⟩⟩
end
end L2
namespace ST
open PySem PySem.SetTable PySem.Spec PyProof.Rows
section
variable {prog:Program} {w:World}
end
end ST
namespace L2
open PySem PySem.Spec PyProof.Rows
theorem fQb {K:Fg} {H H':Hp} {v:V} {k:List Str} (t:TKp H H') (h:dT K dS H v k):dT K dS H' v k:=by
 obtain⟨a,xs,e,sq,p⟩:=h;refine⟨a,xs,e,?_,p⟩;rcases sq with sq | sq
 ·exact .inl (t a xs sq)
 ·exact .inr sq
def cZ2 (P:Program) (w:World) (K:Fg):SKn P w K (List Str) where
 kd:=fun H=>ST.restr (ST.tupKd P w) fun k v=>∃ x,RelV x v/\dT K dS H x k
 rp:=fun H v k=>dT K dS H v k
 pI:=fun es t ks=>ST.SetI es t/\Paired (fun(e:Int × Value) k=>e.1=ST.hashT P w k) es.toList ks/\(t.plain=true->∀ k∈ks,k=[])
 toI:=fun {X pins σ H s p es ep t ps} e1 e2 e3 I ho hpi hp=>by
  subst e1 e2 e3;obtain⟨h1,h2,h3⟩:=hpi;have is:Paired (fun(e:Int × Value) k=>(ST.TK X.prog X.w s.heap k e.2/\∃ x,RelV x e.2/\dT X.K dS H x k)/\e.1=ST.hashT X.prog X.w k) es.toList (ps.map (·.2)):=by
   clear h3 h1 ho;generalize es.toList=l at hp h2
   induction l generalizing ps with
   | nil=>cases hp;exact .nil
   | cons e l ih =>
    cases hp with
    | cons q1 q2 =>
     cases h2 with
     | cons z1 z2 =>
      refine .cons ⟨⟨?_,_,q1.1,q1.2⟩,z1⟩ (ih q2 z2);obtain⟨r,b,ys,e3,hq,pp⟩:=q1;rw[e3] at r;have r:e.2=.ref b:=r;obtain⟨its,ri,tp,_⟩:=I.tuple hq;rw[r];exact dJc (K:=X.K) pp ri tp
  refine⟨⟨⟨⟨ho,h1⟩,fun e he=>?_,fun hpl e he=>?_⟩,fun e he=>?_⟩,Paired.imp (fun _ _ z=>z.1) is⟩
  ·obtain⟨k,_,q⟩:=ST.paired_mem is e he;exact⟨k,q.1.1,q.2⟩
  ·obtain⟨k,hk,q⟩:=ST.paired_mem is e he;rw[h3 hpl k hk] at q;exact q.1.1
  ·obtain⟨k,_,q⟩:=ST.paired_mem is e he;exact⟨k,q.1⟩
 toIs:=fun {X pins σ H s x v k} e1 e2 e3 I r d=>by
  subst e1 e2 e3;refine⟨?_,x,r,d⟩;obtain⟨b,ys,e3,hq,pp⟩:=d;rw[e3] at r;have r:v=.ref b:=r;obtain⟨its,ri,tp,_⟩:=I.tuple hq;rw[r];exact dJc (K:=X.K) pp ri tp
 ofI:=fun {H h p es ep t ks} hI nd hp=>by
  obtain⟨ps,a,b⟩:=dJq (K:=K) (H:=H) hp;refine⟨ps,a,b.symm,hI.1.1.inv,?_,fun hpl k hk=>?_⟩
  ·have hel:=hI.1.2.1;clear a b nd hI;generalize es.toList=l at hp hel
   induction l generalizing ks with
   | nil=>cases hp;exact .nil
   | cons e l ih =>
    cases hp with
    | cons q1 q2 =>
     refine .cons ?_ (ih q2 fun e he=>hel e (List.mem_cons_of_mem _ he));obtain⟨k,z1,z2⟩:=hel e List.mem_cons_self;rw[z2,z1.inj q1.1]
  ·obtain⟨e,he,q⟩:=ST.paired_mem' hp k hk;exact q.1.inj (hI.1.2.2 hpl e he)
 fr:=fun led=>⟨ST.fresh_ok _ _ _,.nil,fun _ k hk=>by cases hk⟩
 mo:=fun t h=>fQb t h
theorem bZd {prog:Program} {w:World} {A:Around} {R:Result->Shared->Prop} {s:Shared} {elt target iter:Expr} {ifs:List Expr} {rest:List Comprehension} {scope:Scope} {pos:Pos} {it acc:Value} {env:Env}
  (h0:codeAny (model prog w) A (.compLoop (.SetComp elt (⟨target,iter,ifs,0⟩::rest) scope pos) 0 it acc env) R s)
  (h:wpAny (model prog w) A (pyIter it) (fun it' s'=>codeAny (model prog w) A (.compLoop (.SetComp elt (⟨target,iter,ifs,0⟩::rest) scope pos) 0 it' acc env) R s')
   (notedBy (model prog w) A env fun x s'=>R (.error x) s') s) :
  codeAny (model prog w) A (.compStart (.SetComp elt (⟨target,iter,ifs,0⟩::rest) scope pos) 0 it acc env) R s:=by
 refine codeAny_of_tree ?_;show wpAny _ _ ((compStart (.SetComp elt (⟨target,iter,ifs,0⟩::rest) scope pos) 0 it acc env).onRaise (fun x=>do noteFrame x env;standAt theWindowsPlace)) _ _ s
 refine wpAny_notedAt ?_;unfold compStart;show wpAny _ _ (ask >>= _) _ _ s;refine wpAny_bind (wpAny_askSetting (wpAny_ite ?_))
 split
 ·first
   | exact wpAny_bind (wpAny_pure (wpAny_pure (And.intro rfl h0)))
   | exact wpAny_pure (And.intro rfl h0)
 ·refine wpAny_bind (wpAny_rule ?_);show wpAny _ _ (standAt iter.pos >>= _) _ _ s;exact wpAny_bind (wpAny_standAt (wpAny_bind (wpAny_mono h (fun it' s' h'=>wpAny_pure (And.intro rfl h')) fun _ _ x=>x)))
section
variable {X:Cx} {K:Fg} {κ:Type} {pins:List (Addr × Obj)} {σ:St} {H:Hp} {s:Shared}
def bZe {P:Program} {w:World} (kn:SKn P w K κ) (is:List (Option Nat)) (wi:TI) (g:TG) (tt:TT) (tb:Addr->TB):TE:=fun σ H Q=>wi σ H fun J H1=>∀ p,H1 p=none->∀ φ,StV kn (upd H1 p (.ext φ)) p []->cQr J (capt is σ) g tt (tb p) (Q (.ref p)) (upd H1 p (.ext φ))
theorem comp_genS {P:Program} {w:World} {kn:SKn P w K κ} (hw:X.w=w) {elt target iter:Expr} {ifs:List Expr} {gs:List Comprehension} {scope:Scope} {pos:Pos} {N':List Str} {is:List (Option Nat)} {wi:TI} {g:TG} {tt:TT} {tb:Addr->TB} {oc:Option Str} {m:Value->Env->Sem Unit} (hcalm:X.calm=true) (hN:X.N.Nodup)
  (hturn:∀ it acc env,compTurn (.SetComp elt (⟨target,iter,ifs,0⟩::gs) scope pos) 0 it acc env=aZa target ifs iter.pos (m acc env) (.compLoop (.SetComp elt (⟨target,iter,ifs,0⟩::gs) scope pos) 0 it acc env) it env)
  (cp:Cap X.N scope N' is) (hi:PI X target iter wi)
  (hg:∀ cl C fp s H,PG (aQ8 X N' scope cl C fp s H oc) target g) (ht:∀ cl C fp s H,PTs (aQ8 X N' scope cl C fp s H oc) ifs tt) (hb:∀ cl C fp s H D,PB (aQ8 X N' scope cl C fp s H oc) (m (.ref D) (compEnvC scope cl C X.env)) (tb D))
  (hcf:∀ n acc,cellsFrom n scope.names acc=ocl oc n acc) (hpc:∀ h,pushCells h scope.names=ohp oc h)
  (hkind:scope.kind=.function) (hcell:∀ y∈scope.names,y.2=.cell->oc=some y.1)
  (hu:∀ y∈scope.names,scope.names.lookup y.1=some y.2) (hoc:∀ x,oc=some x->scope.names.lookup x=some .cell)
  (hVb:okV scope.names X.env.scope.names=true)
  (hs:∀ x,foldedSetIterable iter X.env x=pure x)
  {use:Option (Value->Sem Unit)} {Q:VK} {Qv:Value->Shared->Prop} (I:Inv X pins σ H s) (h:bZe kn is wi g tt tb σ H Q)
  (fin:∀ D C H5 s6,Inv X pins σ H5 s6->(∃ m,s6.heap.Ns C m)->FrC X pins C H5->Q (.ref D) H5->compPost (model X.prog X.w) X.A X.xe use Qv (.ref D) C (.ok .next) s6) :
  wpAny (model X.prog X.w) X.A (comprehension (.SetComp elt (⟨target,iter,ifs,0⟩::gs) scope pos) scope X.env (firstIterPos (⟨target,iter,ifs,0⟩::gs) pos) (newSet (.type "set")) (firstAsync (⟨target,iter,ifs,0⟩::gs)) (firstIter (⟨target,iter,ifs,0⟩::gs) X.env) use) Qv X.xe s:=by
 have hV:=dZl hVb;have hV':∀ x,(x,NameKind.free)∈scope.names->Vis X.env.scope x/\X.env.scope.names.lookup x≠some .local:=fun x hx=>hV (x,.free) hx rfl;have hu':∀ x,(x,NameKind.free)∈scope.names->scope.names.lookup x=some .free:=fun x hx=>hu (x,.free) hx;have hnames:∀ x∈scope.names,x.2=.local->scope.names.lookup x.1=some .local:=fun x hx hl=>by rw[hu x hx,hl]
 obtain⟨cl,hclos,c1,c2,c3⟩:=aX3 (env:=X.env) (scope:=scope) fun x hx=>I.ok.has x (by
  obtain⟨v,n⟩:=hV' x hx;rcases v with v | v | v
  ·exact absurd v n
  ·exact .inl v
  ·exact .inr v)
 have hun:∀ x,oc=some x->cl.lookup x=none:=fun x hx=>by
  cases e:cl.lookup x with
  | none=>rfl
  | some c =>
   have:=hu' x (c3 x c e)
   rw[hoc x hx] at this;cases this
 refine wpAny_comprehension_free (use:=use) rfl hs hclos hkind hnames (thn (hi pins s σ H _ I h) fun v s1 h1=>thn h1 fun itv s2 h2=>?_);obtain⟨it,fp,tn,J,H2,rfl,I2,T,st2,f2,q2⟩:=h2;unfold newSet setsByText;refine wpAny_bind (wpAny_bind (wpAny_askSetting (wpAny_pure ?_)));dsimp only;refine wpAny_newObj_type ?_;have hD:H2 s2.heap.objs.size=none:=I2.hok.fresh (Nat.le_refl _);have fpl:∀ b∈fp,b < s2.heap.objs.size:=fun b hb=>by obtain⟨o,e,_⟩:=T.obj _ _ st2 b hb;exact Heap.lt_size e
 have led:(!(X.w.params.followText "set-order"))=ST.ledOf X.w:=rfl;have I3:Inv X pins σ (upd H2 s2.heap.objs.size (stO s2.heap.objs.size #[] 0 (.fresh 0 0 (ST.ledOf X.w)))) { s2 with heap:=s2.heap.push (ST.setOb #[] 0 (.fresh 0 0 (ST.ledOf X.w))) } :=
  I2.laid (t':=s2.toks) (fun b u e=>Heap.get?_push_of_some _ e) (Nat.le_refl _) ⟨Heap.get?_push_size _ rfl,⟨_,Heap.get?_push_size _ rfl⟩,fun g1 g2 g k=>k _ g⟩
 have st3:tn 0 (s2.heap.push (ST.setOb #[] 0 (.fresh 0 0 (ST.ledOf X.w)))):=T.keep _ _ _ st2 fun b hb o e=>Heap.get?_push_of_some _ e;have f3:∀ b∈fp,FpOk X pins (upd H2 s2.heap.objs.size (stO s2.heap.objs.size #[] 0 (.fresh 0 0 (ST.ledOf X.w)))) b:=fun b hb=>⟨by rw[upd_ne (Nat.ne_of_lt (fpl b hb))];exact(f2 b hb).1,(f2 b hb).2⟩
 have fpl3:∀ b∈fp,b < (s2.heap.push (ST.setOb #[] 0 (.fresh 0 0 (ST.ledOf X.w)))).objs.size:=fun b hb=>by rw[Heap.size_push];exact Nat.lt_succ_of_lt (fpl b hb)
 have q3:=q2 _ hD _ (⟨#[],0,_,[],aQ6,by rw[<- hw];rfl,kn.fr _,.nil,List.nodup_nil,fun _=>Iff.rfl⟩:StV kn (upd H2 s2.heap.objs.size (stO s2.heap.objs.size #[] 0 (.fresh 0 0 (ST.ledOf X.w)))) _ [])
 show wpAny (model X.prog X.w) X.A _ _ X.xe { s2 with heap:=s2.heap.push (ST.setOb #[] 0 (.fresh 0 0 (ST.ledOf X.w))) }
 change cQr _ _ _ _ _ _ (upd H2 s2.heap.objs.size (stO s2.heap.objs.size #[] 0 (.fresh 0 0 (ST.ledOf X.w)))) at q3;generalize hob:ST.setOb #[] 0 (.fresh 0 0 (ST.ledOf X.w))=ob at *
 generalize hso:stO s2.heap.objs.size #[] 0 (.fresh 0 0 (ST.ledOf X.w))=so at *
 generalize hDe:s2.heap.objs.size=D at *
 generalize hs3:({ s2 with heap:=s2.heap.push ob }:Shared)=s3 at *
 have hsh:s3.heap=s2.heap.push ob:=by rw[<- hs3]
 rw[<- hsh] at st3 fpl3;have ok:=bQc (N':=N') (cl:=cl) (oc:=oc) I3 f3 fpl3 hkind c1 c2 hcell hun;have I4:=aJh I3 ok hN c1 c2 hu' cp hV' hun;refine cZs ?_;rw[hcf,hpc];have kp:∀ b o,s3.heap.get? b=some o->(ohp oc (s3.heap.push { cls:=.type "dict",data:=.dict #[] })).get? b=some o:=fun b o e=>aJ6 (Heap.get?_push_of_some _ e);have st4:tn 0 (ohp oc (s3.heap.push { cls:=.type "dict",data:=.dict #[] })):=T.keep _ _ _ st3 fun b _ o e=>kp b o e;have f4:∀ b∈fp,FpOk (aQ8 X N' scope (ocl oc (s3.heap.objs.size + 1) cl) s3.heap.objs.size fp s3 (upd H2 D so) oc) [] (upd H2 D so) b:=fun b hb =>
  ⟨(f3 b hb).1,(ok.exf b hb).1,ok.exfs b hb,.inl hb,(ok.exf b hb).2,fun p hp=>absurd (show p∈([]:List (Addr × Obj)) from hp) (by simp)⟩
 have loop:=bJg (X:=aQ8 X N' scope (ocl oc (s3.heap.objs.size + 1) cl) s3.heap.objs.size fp s3 (upd H2 D so) oc) (e:=.SetComp elt (⟨target,iter,ifs,0⟩::gs) scope pos) (d:=0) (acc:=.ref D)
  (R:=compPost (model X.prog X.w) X.A X.xe use Qv (.ref D) s3.heap.objs.size) hcalm rfl (hturn _ _ _) rfl rfl T (hg _ _ _ _ _) (ht _ _ _ _ _) (hb _ _ _ _ _ D) I4 st4 f4 q3 (by
   intro H5 s6 I6 _ qn;obtain⟨m6,n6,_⟩:=id I6.loc;have un:Un (frs X.stack) fp (upd H2 D so) H5 s3.heap s6.heap:=I6.base;have hok':HOk X.prog X.w H5 s6.heap:=I6.hok;refine fin D s3.heap.objs.size H5 s6 (I3.call' (s':=s6) (ch:=fp) I6.os un hok' I6.bare fun b hb=>⟨(f3 b hb).2.2.2.1,(f3 b hb).2.1,(f3 b hb).2.2.2.2.1,(f3 b hb).2.2.2.2.2⟩) ⟨m6,n6⟩ ⟨I6.free,Nat.ne_of_gt I3.lt,I3.sz,fun x c e z=>?_,fun p hp z=>?_⟩ qn
   ·obtain⟨v,q⟩:=I3.cell x c e;exact absurd q.lt (by rw[z];exact Nat.lt_irrefl _)
   ·exact absurd (Heap.lt_size (I3.pin p hp).1) (by rw[z];exact Nat.lt_irrefl _))
 exact bZd loop (T.self _ 0 _ _ _ st4 loop)
theorem cJc {P:Program} {w:World} {kn:SKn P w K κ} {elt target iter:Expr} {ifs:List Expr} {gs:List Comprehension} {scope:Scope} {pos:Pos} {N':List Str} {is:List (Option Nat)} {wi:TI} {g:TG} {tt:TT} {tb:Addr->TB} {oc:Option Str} {m:Value->Env->Sem Unit} (hw:X.w=w) (hcalm:X.calm=true) (hN:X.N.Nodup)
  (hturn:∀ it acc env,compTurn (.SetComp elt (⟨target,iter,ifs,0⟩::gs) scope pos) 0 it acc env=aZa target ifs iter.pos (m acc env) (.compLoop (.SetComp elt (⟨target,iter,ifs,0⟩::gs) scope pos) 0 it acc env) it env)
  (cp:Cap X.N scope N' is) (hi:PI X target iter wi)
  (hg:∀ cl C fp s H,PG (aQ8 X N' scope cl C fp s H oc) target g) (ht:∀ cl C fp s H,PTs (aQ8 X N' scope cl C fp s H oc) ifs tt) (hb:∀ cl C fp s H D,PB (aQ8 X N' scope cl C fp s H oc) (m (.ref D) (compEnvC scope cl C X.env)) (tb D))
  (hcf:∀ n acc,cellsFrom n scope.names acc=ocl oc n acc:=by intro _ _;rfl) (hpc:∀ h,pushCells h scope.names=ohp oc h:=by intro _;rfl)
  (hkind:scope.kind=.function:=by rfl) (hcell:∀ y∈scope.names,y.2=.cell->oc=some y.1:=by decide +kernel)
  (hu:∀ y∈scope.names,scope.names.lookup y.1=some y.2:=by decide +kernel) (hoc:∀ x,oc=some x->scope.names.lookup x=some .cell:=by intro x h;cases h <;> rfl)
  (hVb:okV scope.names X.env.scope.names=true:=by first | rfl | kernel_rfl)
  (hs:∀ x,foldedSetIterable iter X.env x=pure x:=by intro _;rfl) :
  PE X (.SetComp elt (⟨target,iter,ifs,0⟩::gs) scope pos) (bZe kn is wi g tt tb):=by
 intro pins s σ H Q I h;rw[arm_eval_SetComp];refine comp_genS hw hcalm hN hturn cp hi hg ht hb hcf hpc hkind hcell hu hoc hVb hs I h fun D C H5 s6 I6 ⟨m,n⟩ fc qn=>?_;exact⟨m,n,fun h' sb=>⟨.ref D,H5,fc.gone I6 sb,rfl,qn⟩⟩
end
section
variable {X:Cx} {K:Fg} {pos:Pos} {k:Nat} {κ:Type}
theorem fQc {F:Am} {S S':Sto} {H H':Hp} (r:Rp K F S H) (x:Ext S H S' H'):TKp H H':=fun a xs h=>by
 have hS:S a=none:=Classical.byContradiction fun n=>r.ntup h (.inl n);rcases h with h | ⟨o,h⟩
 ·exact .inl (x.keep _ _ hS h)
 ·exact .inr ⟨o,x.keep _ _ hS h⟩
def aJw {P:Program} {w:World} (kn:SKn P w K κ) (enc:κ->D) (L:List Nat) (tv:Addr->TB) (td:BD):Prop:=∀ D' F S H Γ σ acc N QD,Free L σ->F D'->Rp K F S H->RepG K (mt S F) H Γ σ->StV kn H D' acc->td Γ S (acc.map enc) QD ->
 (∀ acc' S' H',ExtX D' S H S' H'->Rp K F S' H'->StV kn H' D' acc'->QD (acc'.map enc) S'->N H')->tv D' σ H N
def fQd (enc:κ->D) (te:ED):BD:=fun Γ S acc Q=>te Γ S fun y S1=>∃ k,y=enc k/\acc.length + 1<=300/\Q (acc++[y]) S1
theorem extx_upd {D':Addr} {S:Sto} {H:Hp} {o:HO}:ExtX D' S H S (upd H D' o):=⟨fun a o n _ e=>by rw[upd_ne n];exact e,fun a h=>by
  by_cases e:a=D'
  ·subst e;rw[aQ6];exact fun z=>by cases z
  ·rw[upd_ne e];exact h,fun a h=>.inl h⟩
theorem eQo {D':Addr} {F:Am} {S:Sto} {H:Hp} {o:HO} (r:Rp K F S H) (hF:F D') (ho:Clt o):Rp K F S (upd H D' o) :=
 ⟨fun a u e=>(r.obj a u e).keep (extx_upd.kp hF) (upd_ne (by rintro rfl;rw[(r.frm a hF).2] at e;cases e)),fun a h=>by
   obtain⟨⟨ys,e,ct⟩,h2⟩:=r.frm a h
   by_cases z:a=D'
   ·subst z;exact⟨⟨_,aQ6,ho⟩,h2⟩
   ·exact⟨⟨ys,by rw[upd_ne z];exact e,ct⟩,h2⟩⟩
theorem dZ0 {P:Program} {w:World} {kn:SKn P w K κ} {enc:κ->D} (hrep:∀ M H k v,RepV K M H (enc k) v->kn.rp H v k) {L:List Nat} {te:ED}:aJw kn enc L (fun D'=>cJb kn D' (upE K te)) (fQd enc te):=by
 intro D' F S H Γ σ acc N QD _ hF r g st q c;refine⟨F,S,Γ,_,r,g,q,fun v d H1 S1 x1 r1 v1 ⟨k,e,hz,q1⟩=>?_⟩;have hS:S D'=none:=(r.frm D' hF).2;obtain⟨φ0,h0⟩:=st.at
 have e1:H1 D'=H D':=by rw[h0];exact x1.keep _ _ hS h0
 have st1:StV kn H1 D' acc:=st.keep e1 (fQc r x1);subst e;refine⟨acc,k,st1,hrep _ _ _ _ v1,by simpa using hz,fun φ st2=>c (acc++[k]) S1 _ (x1.x.trans extx_upd) (eQo r1 hF trivial) st2 (by rw[List.map_append];exact q1)⟩
theorem dZ1 {P:Program} {w:World} {kn:SKn P w K κ} {enc:κ->D} {L L':List Nat} {g:TG} {gd:GD} {tt:TD} {tv:Addr->TB} {tb:BD} (hg:CG K L L' g gd) (hb:aJw kn enc L' tv tb) {D':Addr} {F:Am} {S:Sto} {H:Hp} {Γ:Gm} {σ:St} {acc:List κ} {N:Hp->Prop} {QD:List D->Sto->Prop} {J:It} {xs:List D} {G:Sto->Prop}
  (f:Free L σ) (hF:F D') (r:Rp K F S H) (gm:RepG K (mt S F) H Γ σ) (st:StV kn H D' acc) (it:∀ S2 H2,ExtX D' S H S2 H2->Rp K F S2 H2->G S2->(∀ i d,xs[i]?=some d->J.go i H2/\∀ x H3,J.yld i H2 x H3->Ext S2 H2 S2 H3/\Rp K F S2 H3/\RepV K (mt S2 F) H3 d x)/\J.stop xs.length H2)
  (q:aZe gd tt tb G Γ xs (acc.map enc) S QD) (c:∀ acc' S' H',ExtX D' S H S' H'->Rp K F S' H'->StV kn H' D' acc'->QD (acc'.map enc) S'->N H'):cQr J σ g (upT K tt) (tv D') N H:=by
 refine⟨fun i m H'=>m=xs.length - i/\i<=xs.length/\∃ S' acc',ExtX D' S H S' H'/\Rp K F S' H'/\StV kn H' D' acc'/\aZe gd tt tb G Γ (xs.drop i) (acc'.map enc) S' QD,⟨xs.length,by simp,Nat.zero_le _,S,acc,(Ext.refl _ _).x,r,st,by simpa using q⟩,?_⟩
 rintro i m H' ⟨rfl,hi,S',acc',x2,r2,st2,f2⟩;have g2:=gm.keep (x2.kp hF)
 by_cases hlt:i < xs.length
 ·rw[aZv hlt] at f2;obtain⟨hG,f2⟩:=f2;obtain⟨hgo,hy⟩:=(it S' H' x2 r2 hG).1 i xs[i] (List.getElem?_eq_getElem hlt);refine .inr ⟨hgo,fun H''=>∃ S'' acc'',ExtX D' S H S'' H''/\Rp K F S'' H''/\StV kn H'' D' acc''/\aZe gd tt tb G Γ (xs.drop (i + 1)) (acc''.map enc) S'' QD,fun H'' z=>⟨xs.length - (i + 1),by lia,rfl,hlt,z⟩,fun x H3 y3=>?_⟩
  obtain⟨x3,r3,v3⟩:=hy x H3 y3;refine hg F S' H3 Γ σ xs[i] x _ _ f r3 (g2.ext x3) v3 f2 fun Γ4 S4 σ4 H4 x4 r4 g4 wk fr4 q4=>⟨wk,F,S4,Γ4,_,r4,g4,q4,fun z H5 S5 x5 r5 q5=>?_⟩;have x35:=x3.trans (x4.trans x5);obtain⟨φ0,h0⟩:=st2.at
  have h5:H5 D'=H' D':=by rw[h0];exact x35.keep _ _ (r2.frm D' hF).2 h0
  have st5:StV kn H5 D' acc':=st2.keep h5 (fQc r2 x35);have x05:ExtX D' S H S5 H5:=x2.trans x35.x;cases z with
  | false=>exact⟨S5,acc',x05,r5,st5,q5⟩
  | true=>exact hb D' F S5 H5 Γ4 σ4 acc' _ _ fr4 hF r5 (g4.ext x5) st5 q5 fun acc6 S6 H6 x6 r6 st6 q6=>⟨S6,acc6,x05.trans x6,r6,st6,q6⟩
 ·have e:i=xs.length:=by lia
  subst e;rw[List.drop_length] at f2;exact .inl ⟨(it S' H' x2 r2 f2.1).2,c acc' S' H' x2 r2 st2 f2.2⟩
theorem dZ2 {P:Program} {w:World} {kn:SKn P w K κ} {enc:κ->D} {L L':List Nat} {is:List (Option Nat)} {wi:ID} {g:TG} {gd:GD} {tt:TD} {tv:Addr->TB} {tb:BD} (hL:∀ σ,Free L (capt is σ)) (hg:CG K L L' g gd) (hb:aJw kn enc L' tv tb)
  {σ:St} {H:Hp} {Q:VK} {F:Am} {S:Sto} {Γ:Gm} {QD:List D->Sto->Prop} (r:Rp K F S H) (gm:RepG K (mt S F) H Γ σ) (q:wi Γ S fun xs G S1=>aZe gd tt tb G (cXt is Γ) xs [] S1 QD)
  (c:∀ p ks H' S',Ext S H S' H'->Rp K F S' H'->StV kn H' p ks->QD (ks.map enc) S'->Q (.ref p) H'):bZe kn is (upI K wi) g (upT K tt) tv σ H Q :=
 ⟨F,S,Γ,_,r,gm,q,fun J xs G H1 S1 x1 r1 it q1 D' hD φ st=>by
  have hS1:S1 D'=none:=r1.sn hD;have fe:FE F H1 (fun a=>F a\/a=D'):=fun a h=>h.elim .inl fun e=>.inr (by rw[e];exact hD)
  have nF:¬ F D':=fun h=>by
   obtain⟨⟨ys,e,_⟩,_⟩:=r1.frm D' h;rw[hD] at e;cases e
  have xe:Ext S1 H1 S1 (upd H1 D' (.ext φ)):=Ext.same (aQx hD);have kp:Keep (mt S1 F) H1 (mt S1 fun a=>F a\/a=D') (upd H1 D' (.ext φ)):=xe.w.kpF fe;have r2:Rp K (fun a=>F a\/a=D') S1 (upd H1 D' (.ext φ)):=⟨fun a o e=>(r1.obj a o e).keep kp (upd_ne (by rintro rfl;rw[hS1] at e;cases e)),fun a h=>by
   rcases h with h | h
   ·obtain⟨⟨ys,e,ct⟩,h2⟩:=r1.frm a h;exact⟨⟨ys,by rw[upd_ne (by rintro rfl;rw[hD] at e;cases e)];exact e,ct⟩,h2⟩
   ·subst h;exact⟨⟨_,aQ6,trivial⟩,hS1⟩⟩
  have old:∀ {S2 H2},ExtX D' S1 (upd H1 D' (.ext φ)) S2 H2->Ext S1 H1 S2 H2:=fun {S2 H2} y=>⟨fun a o h e=>y.keep a o (by rintro rfl;rw[hD] at e;cases e) h (by rw[upd_ne (by rintro rfl;rw[hD] at e;cases e)];exact e),fun a h=>y.live a (xe.live a h),fun a h=>by
   rcases y.new a h with z | z
   ·exact .inl z
   ·by_cases e:a=D'
    ·subst e;exact .inr hD
    ·rw[upd_ne e] at z;exact .inr z⟩
  refine dZ1 hg hb (hL σ) (F:=fun a=>F a\/a=D') (.inr rfl) r2 ((gm.ext x1).keep kp |>.capt is) st (fun S2 H2 y r2 hG=>⟨it.go _ fe S2 H2 (old y).w r2 hG,it.stop _ fe S2 H2 (old y).w r2 hG⟩) q1 fun acc' S' H' y r3 st3 q3=>?_
  have less:Keep (mt S' fun a=>F a\/a=D') H' (mt S' F) H':=⟨fun _ _ _ e=>e,fun a h _=>fun z=>h (z.elim .inl fun w=>.inr (.inl w))⟩;have r4:Rp K F S' H':=⟨fun a o e=>(r3.obj a o e).keep less rfl,fun a h=>r3.frm a (.inl h)⟩;exact c D' acc' H' S' (x1.trans (old y)) r4 st3 q3⟩
def srtC (enc:κ->D) (lt:κ->κ->Bool) (b:Bool) (is:List (Option Nat)) (wi:ID) (g:GD) (tt:TD) (tb:BD):ED:=fun Γ S Q=>wi Γ S fun xs G S1=>aZe g tt tb G (cXt is Γ) xs [] S1 fun acc S2=>∃ ks:List κ,acc=ks.map enc/\∀ out:List κ,out.Nodup->(∀ t,t∈out↔t∈ks)->out.length < 300/\(out.Pairwise (fun a b=>lt a b=true)->newL b (out.map enc) S2 Q)
theorem aJx {α β:Type} {f:α->β} (hf:∀ x y,f x=f y->x=y):∀ {l m:List α},l.map f=m.map f->l=m
 | [],[],_=>rfl
 | [],_::_,h=>by cases h
 | _::_,[],h=>by cases h
 | x::l,y::m,h=>by
  rw[List.map_cons,List.map_cons] at h;injection h with h1 h2
  rw[hf _ _ h1,aJx hf h2]
theorem dZ3 (x y:List Str) (h:tupS x=tupS y):x=y:=by
 unfold tupS at h;injection h with h
 exact aJx (fun a b e=>by injection e) h
section
variable {elt target iter:Expr} {ifs:List Expr} {gs:List Comprehension} {scope:Scope} {N':List Str} {is:List (Option Nat)} {wi:ID} {g:TG} {gd:GD} {tt:TD} {tv:Addr->TB} {tb:BD} {oc:Option Str} {m:Value->Env->Sem Unit} {b:Bool} {p pos':Pos}
theorem eQp (L L':List Nat) (hr:Room k X.A) (hgl:Gl X "sorted") (hm:X.mg "sorted" = none) (hcalm:X.calm=true) (hN:X.N.Nodup)
  (hturn:∀ it acc env,compTurn (.SetComp elt (⟨target,iter,ifs,0⟩::gs) scope pos') 0 it acc env=aZa target ifs iter.pos (m acc env) (.compLoop (.SetComp elt (⟨target,iter,ifs,0⟩::gs) scope pos') 0 it acc env) it env)
  (cp:Cap X.N scope N' is) (hL:∀ σ,Free L (capt is σ)) (hi:PID K X target iter wi) (hgd:CG K L L' g gd)
  (hg:∀ cl C fp s H,PG (aQ8 X N' scope cl C fp s H oc) target g) (ht:∀ cl C fp s H,PTs (aQ8 X N' scope cl C fp s H oc) ifs (upT K tt)) (hbd:aJw (cZ2 X.prog X.w K) tupS L' tv tb) (hb:∀ cl C fp s H D,PB (aQ8 X N' scope cl C fp s H oc) (m (.ref D) (compEnvC scope cl C X.env)) (tv D))
  (hcf:∀ n acc,cellsFrom n scope.names acc=ocl oc n acc:=by intro _ _;rfl) (hpc:∀ h,pushCells h scope.names=ohp oc h:=by intro _;rfl)
  (hkind:scope.kind=.function:=by rfl) (hcell:∀ y∈scope.names,y.2=.cell->oc=some y.1:=by decide +kernel)
  (hu:∀ y∈scope.names,scope.names.lookup y.1=some y.2:=by decide +kernel) (hoc:∀ x,oc=some x->scope.names.lookup x=some .cell:=by intro x h;cases h <;> rfl)
  (hVb:okV scope.names X.env.scope.names=true:=by first | rfl | kernel_rfl)
  (hs:∀ x,foldedSetIterable iter X.env x=pure x:=by intro _;rfl) (hK:X.K=K:=by rfl)
  (h1:starEach [Expr.SetComp elt (⟨target,iter,ifs,0⟩::gs) scope pos'] X.env=(false,eval (Expr.SetComp elt (⟨target,iter,ifs,0⟩::gs) scope pos') X.env)::starEach [] X.env:=by rfl) (h3:(backTo pos (starEach [] X.env)).any (·.1)=false:=by rfl) :
  PD K X (.Call (.Name "sorted" p) [.SetComp elt (⟨target,iter,ifs,0⟩::gs) scope pos'] [] pos) (srtC tupS HT.lexS b is wi gd tt tb) :=
 .of (bQo (aX5 (lt64 hr) hK rfl hcalm) hgl hm aJf (bQn (cJc (kn:=cZ2 X.prog X.w K) rfl hcalm hN hturn cp hi.o hg ht hb hcf hpc hkind hcell hu hoc hVb hs) bJd h1) (by decide) (by decide) h1 h3) fun σ H Q z0=>z0.el fun F S Γ QD r gm q c =>
  show bZe (cZ2 X.prog X.w K) is (upI K wi) g (upT K tt) tv σ H (fun v H1=>cQ3 X.w K [v] H1 Q) from dZ2 hL hgd hbd r gm q fun p' ks H' S' x1 r1 st ⟨ks',hk,q1⟩=>by
   have hk':ks=ks':=aJx dZ3 hk;subst hk';obtain⟨es,ep,t,ps,s1,s2,s3,s4,s5,s6⟩:=st;obtain⟨q2,q3⟩:=q1 (ps.map (·.2)) s5 s6;have few:t.plain=true->es.size<=1:=fun z=>by
    have hl:es.size=ps.length:=by have:=Paired.length s4;simpa using this
    have h0:=s3.2.2 z;rw[hl];cases ps with
    | nil=>exact Nat.zero_le _
    | cons a ps =>
     cases ps with
     | nil=>exact Nat.le_refl _
     | cons b ps =>
      simp only[List.map_cons] at s5 h0;rw[h0 a.2 (by simp),h0 b.2 (by simp)] at s5
      exact absurd s5 (by simp)
   refine⟨_,ps.map (·.2),rfl,⟨p',es,ep,t,ps,rfl,s1,s3.1.fits,s2,few,s4,rfl⟩,s5,q2,fun l ys out hfr pm pw pp=>?_⟩;exact Cn.new (Cn.shift c x1) r1 hfr (bZc r1 pp) ((q1 out (pm.nodup_iff.mpr s5) fun t=>(pm.mem_iff).trans (s6 t)).2 pw)
end
end
end L2
set_option maxHeartbeats 4000000
namespace HT
open PySem PyProof.Rows
def LtAt (A:Around) (s:Shared) (u v:Value) (b:Bool):Prop:=∀ (prog:Program) (w:World) (E:Value->Shared->Prop) (Q:Value->Shared->Prop),Q (.bool b) s->wpAny (model prog w) A (richCompare .Lt u v) Q E s
inductive LexAt (A:Around) (s:Shared):List Value->List Value->Bool->Prop
 | nn:LexAt A s [] [] false
 | nc {v vs}:LexAt A s [] (v::vs) true
 | cn {u us}:LexAt A s (u::us) [] false
 | eq {u v us vs b}:SeqAt.EqAt A s u v true->LexAt A s us vs b->LexAt A s (u::us) (v::vs) b
 | ne {u v us vs b}:SeqAt.EqAt A s u v false->LtAt A s u v b->LexAt A s (u::us) (v::vs) b
section
open PySem.SeqAt
open PySem.AutoSeq1 (wpAny_loadPart')
open PySem.MeetsSeq PySem.MeetsSeq2 PySem.MeetsSeq3
theorem cQ4 {A:Around} {s:Shared}:∀ {us vs:List Value} {o:Bool},LexAt A s us vs o->us.zip vs=[]->o=decide (us.length < vs.length)
 | _,_,_,.nn,_=>by simp
 | _,_,_,.nc,_=>by simp
 | _,_,_,.cn,_=>by simp
 | _,_,_,.eq _ _,h=>by rw[List.zip_cons_cons] at h;cases h
 | _,_,_,.ne _ _,h=>by rw[List.zip_cons_cons] at h;cases h
theorem bXb (l b:Addr) (items items2:Array Value) (n n2:Nat) (dd dd2:Option Addr) (sl sl2:Array (Option Value)) (o:Bool) :
  Meets (Builtin.«tuple.__lt__» ⟨[.ref l,.ref b],[]⟩)
   (fun A R s=>s.heap.get? l=some { cls:=.type "tuple",dict:=dd,data:=.seq items n,slots:=sl }/\s.heap.get? b=some { cls:=.type "tuple",dict:=dd2,data:=.seq items2 n2,slots:=sl2 } /\
    LexAt A.in1 s items.toList items2.toList o/\R (.ok (.ret (.bool o))) s) :=
 .of_wp fun prog w A R s h=>by
  obtain⟨hp,g,d,tk,os⟩:=s;obtain⟨hl,hb,hx,h⟩:=h;have f2:=AutoSeq1.sub_tuple_tuple;have z1:items.size=items.toList.length:=by simp
  have z2:items2.size=items2.toList.length:=by simp
  wp_walk using wpAny_loadPart' hl,wpAny_loadPart' hb,wpAny_forIn_list _ (fun rest b s'=>b.1=none/\s'=⟨hp,g,d,tk,os⟩/\∃ (vs ws:List Value),rest=vs.zip ws /\
   LexAt A.in1 ⟨hp,g,d,tk,os⟩ vs ws o/\vs.length + items2.size=ws.length + items.size) _
  case turn =>
   rintro⟨y,x⟩ rest b s' ⟨hb',rfl,vs,ws,hz,hx,hlen⟩;cases hx with
   | nn=>rw[List.zip_nil_left] at hz;cases hz
   | nc=>rw[List.zip_nil_left] at hz;cases hz
   | cn=>rw[List.zip_nil_right] at hz;cases hz
   | eq he hx =>
    rw[List.zip_cons_cons] at hz;injection hz with hyx hrest
    injection hyx with hy hx'
    subst hy hx';simp only[List.length_cons] at hlen;refine wpAny_bind (he prog w _ _ ?_)
    wp_walk
    exact⟨rfl,rfl,_,_,hrest,hx,by lia⟩
   | ne he hlt =>
    rw[List.zip_cons_cons] at hz;injection hz with hyx hrest
    injection hyx with hy hx'
    subst hy hx';refine wpAny_bind (he prog w _ _ ?_);have hri:=fun Q E h=>hlt prog w E Q h
    wp_walk using hri
    exact⟨_,rfl,by simpa using h⟩
  case fin =>
   rintro⟨b1,b2⟩ s' ⟨hb',rfl,vs,ws,hz,hx,hlen⟩;simp only at hb';subst hb';have hv:o=decide (items.size < items2.size):=by
    rw[cQ4 hx hz.symm]
    congr 1
    apply propext;lia
   rw[hv] at h
   wp_walk
   exact⟨_,rfl,by simpa [Builtin.Tuple.tupleCompareSizes] using h⟩
  case h =>
   exact⟨rfl,rfl,items.toList,items2.toList,rfl,hx,by lia⟩
theorem bJ5 (l b:Addr) (us vs:Array Value) (n n2:Nat) (dd dd2:Option Addr) (sl sl2:Array (Option Value)) (o:Bool) (k:Nat):∀ i:Nat,us.size - i=k->i<=us.size->i<=vs.size ->
  Meets (Builtin.«list.__eq__.loop» ⟨[.ref l,.ref b,rawInt i,rawInt 0],[]⟩) (fun A R s=>(s.heap.get? l=some { cls:=.type "list",dict:=dd,data:=.seq us n,slots:=sl }/\s.heap.get? b=some { cls:=.type "list",dict:=dd2,data:=.seq vs n2,slots:=sl2 }) /\
   LexAt A.in1 s (us.toList.drop i) (vs.toList.drop i) o/\R (.ok (.ret (.bool o))) s):=by
 have dn:∀ (xs:Array Value) (i:Nat),xs.size<=i->xs.toList.drop i=[]:=fun xs i h=>List.drop_eq_nil_of_le (by simpa using h)
 have dc:∀ (xs:Array Value) (i:Nat) (h:i < xs.size),xs.toList.drop i=xs[i]::xs.toList.drop (i + 1):=fun xs i h=>by rw[List.drop_eq_getElem_cons (by simpa using h)];simp
 have an:∀ (xs:Array Value) (i:Nat),xs.size<=i->xs[((i:Nat):Int).toNat]?=none:=fun xs i h=>by simp;exact h
 have ac:∀ (xs:Array Value) (i:Nat) (h:i < xs.size),xs[((i:Nat):Int).toNat]?=some xs[i]:=fun xs i h=>by simp[h]
 have tail:∀ {A:Around} {s:Shared} {o:Bool} {i:Nat},i<=us.size->i<=vs.size->us.size<=i\/vs.size<=i->LexAt A s (us.toList.drop i) (vs.toList.drop i) o->o=decide (us.size < vs.size):=fun {A s o i} h1 h2 h hx=>by
  have hz:(us.toList.drop i).zip (vs.toList.drop i)=[]:=by rcases h with h | h <;> rw[dn _ _ h] <;> simp
  rw[cQ4 hx hz]
  congr 1
  apply propext;simp;lia
 induction k with
 | zero =>
  intro i hk hi hi2 prog w A R s h;obtain⟨hp,g,d,tk,os⟩:=s;obtain⟨⟨gl,gb⟩,hx,h⟩:=h
  wp_walk using wpAny_loadPart' gl,wpAny_loadPart' gb
  rw[an us i (by lia)]
  wp_walk using wpAny_loadPart' gl,wpAny_loadPart' gb
  rw[tail hi hi2 (.inl (by lia)) hx] at h
  exact h
 | succ k ih =>
  intro i hk hi hi2 prog w A R s h;obtain⟨hp,g,d,tk,os⟩:=s;obtain⟨⟨gl,gb⟩,hx,h⟩:=h
  wp_walk using wpAny_loadPart' gl,wpAny_loadPart' gb
  rw[ac us i (by lia)]
  rcases Nat.lt_or_ge i vs.size with hv | hv
  ·rw[ac vs i hv];have hc:((i:Int) + 1)=((i + 1:Nat):Int):=by push_cast;rfl
   rw[dc us i (by lia),dc vs i hv] at hx
   cases hx with
   | eq he hx =>
    refine wpAny_bind (he prog w _ _ ?_)
    wp_walk
    rw[hc];exact⟨plainId_quiet plain_eq_loop _,codeAny_builtin entry_eq_loop (by
     rw[Around.under_plainId plain_eq_loop _];exact ih (i + 1) (by lia) (by lia) (by lia) prog w A R _ ⟨⟨gl,gb⟩,hx,h⟩)⟩
   | ne he hlt =>
    refine wpAny_bind (he prog w _ _ ?_)
    wp_walk using wpAny_loadPart' gl,wpAny_loadPart' gb
    rw[ac us i (by lia),ac vs i hv]
    have hri:=fun Q E h=>hlt prog w E Q h
    wp_walk using hri
    exact h
  ·rw[an vs i hv]
   wp_walk using wpAny_loadPart' gl,wpAny_loadPart' gb
   rw[tail hi hi2 (.inr hv) hx] at h;exact h
theorem fQe (l b:Addr) (us vs:Array Value) (n n2:Nat) (dd dd2:Option Addr) (sl sl2:Array (Option Value)) (o:Bool) :
  Meets (Builtin.«list.__lt__» ⟨[.ref l,.ref b],[]⟩) (fun A R s=>(s.heap.get? l=some { cls:=.type "list",dict:=dd,data:=.seq us n,slots:=sl }/\s.heap.get? b=some { cls:=.type "list",dict:=dd2,data:=.seq vs n2,slots:=sl2 }) /\
   LexAt A.in1 s us.toList vs.toList o/\R (.ok (.ret (.bool o))) s):=by
 intro prog w A R s h;obtain⟨hp,g,d,tk,os⟩:=s;obtain⟨⟨gl,gb⟩,hx,h⟩:=h;have _sub:=AutoSeq1.sub_list_list
 wp_walk using wpAny_loadPart' gl,wpAny_loadPart' gb
 exact⟨plainId_quiet plain_eq_loop _,codeAny_builtin entry_eq_loop (by
  rw[Around.under_plainId plain_eq_loop _];exact bJ5 l b us vs n n2 dd dd2 sl sl2 o _ 0 rfl (Nat.zero_le _) (Nat.zero_le _) prog w A R _ ⟨⟨gl,gb⟩,hx,h⟩)⟩
end
theorem ltAt_lst {A:Around} {s:Shared} {l b:Addr} {us vs:Array Value} {o:Bool} (hl:s.heap.IsList l us) (hb:s.heap.IsList b vs) (hx:LexAt A.in1 s us.toList vs.toList o) (hu:A.units < cLine):LtAt A s (.ref l) (.ref b) o:=by
 intro prog w E Q h;obtain⟨⟨cls,dd,data,sl⟩,ho,hc,n,hd⟩:=id hl;obtain⟨⟨cls2,dd2,data2,sl2⟩,ho2,hc2,n2,hd2⟩:=id hb;simp only at hc hd hc2 hd2;subst hc hd hc2 hd2;exact richCompare_meets_room (op:=.Lt) ⟨_,ho,rfl⟩ ⟨_,ho2,rfl⟩ PySem.F.slot_list_lt PySem.F.entry_list_lt (PySem.F.args_list_lt_2 _ _) (fQe l b us vs n n2 dd dd2 sl sl2 o) ⟨⟨ho,ho2⟩,hx,show Value.bool o≠Value.notImplemented/\Q (.bool o) s from⟨(fun x=>nomatch x),h⟩⟩ hu
theorem ltAt_tup {A:Around} {s:Shared} {l b:Addr} {items items2:Array Value} {o:Bool} (hl:IsTup s.heap l items) (hb:IsTup s.heap b items2) (hx:LexAt A.in1 s items.toList items2.toList o) (hu:A.units < cLine):LtAt A s (.ref l) (.ref b) o:=by
 intro prog w E Q h;obtain⟨⟨cls,dd,data,sl⟩,ho,hc,n,hd⟩:=id hl;obtain⟨⟨cls2,dd2,data2,sl2⟩,ho2,hc2,n2,hd2⟩:=id hb;simp only at hc hd hc2 hd2;subst hc hd hc2 hd2;exact richCompare_meets_room (op:=.Lt) ⟨_,ho,rfl⟩ ⟨_,ho2,rfl⟩ PySem.F.slot_tuple_lt PySem.F.entry_tuple_lt (PySem.F.args_tuple_lt_2 _ _) (bXb l b items items2 n n2 dd dd2 sl sl2 o)
  ⟨ho,ho2,hx,show Value.bool o≠Value.notImplemented/\Q (.bool o) s from⟨(fun x=>nomatch x),h⟩⟩ hu
end HT
namespace L2
open PySem PySem.Spec PyProof.Rows
def lexN (lt:D->D->Bool):List D->List D->Bool
 | [],[]=>false
 | [],_::_=>true
 | _::_,[]=>false
 | x::xs,y::ys=>if x=y then lexN lt xs ys else lt x y
def ltN:Nat->D->D->Bool
 | _,.int i,.int j=>decide (i < j)
 | _,.str x,.str y=>HT.ltS x y
 | n + 1,.tup xs,.tup ys=>lexN (ltN n) xs ys
 | n + 1,.lst xs,.lst ys=>lexN (ltN n) xs ys
 | _,_,_=>false
def okLs (ok:D->D->Bool) (n:Nat):List D->List D->Bool
 | x::xs,y::ys=>okE n x y && (if x=y then okLs ok n xs ys else ok x y)
 | _,_=>true
def okL:Nat->D->D->Bool
 | _,.int _,.int _=>true
 | _,.str _,.str _=>true
 | n + 1,.tup xs,.tup ys=>okLs (okL n) n xs ys
 | n + 1,.lst xs,.lst ys=>okLs (okL n) n xs ys
 | _,_,_=>false
section
variable {X:Cx} {pins:List (Addr × Obj)} {σ:St} {H:Hp} {s:Shared} {M:Am}
theorem cQ5 {n:Nat} {A:Around} (heq:∀ {d e:D} {x y:V} {u v:Value},RepV X.K M H d x->RepV X.K M H e y->RelV x u->RelV y v->okE n d e=true->SeqAt.EqAt A s u v (decide (d=e)))
  (hlt:∀ {d e:D} {x y:V} {u v:Value},RepV X.K M H d x->RepV X.K M H e y->RelV x u->RelV y v->okL n d e=true->HT.LtAt A s u v (ltN n d e)) :
  ∀ {ds es:List D} {xs ys:List V} {us vs:List Value},RepL X.K M H ds xs->RepL X.K M H es ys->Vals xs us->Vals ys vs->okLs (okL n) n ds es=true->HT.LexAt A s us vs (lexN (ltN n) ds es)
 | [],[],_,_,_,_,p,q,r,t,_=>by
  unfold RepL at p q;subst p;subst q;cases r;cases t;exact .nn
 | [],e::es,_,_,_,_,p,q,r,t,_=>by
  unfold RepL at p q;subst p;obtain⟨v,vs,rfl,_,_⟩:=q;cases r;cases t;exact .nc
 | d::ds,[],_,_,_,_,p,q,r,t,_=>by
  unfold RepL at p q;subst q;obtain⟨v,vs,rfl,_,_⟩:=p;cases r;cases t;exact .cn
 | d::ds,e::es,_,_,_,_,p,q,r,t,o=>by
  unfold RepL at p q;obtain⟨x,xs,rfl,p1,p2⟩:=p;obtain⟨y,ys,rfl,q1,q2⟩:=q;cases r with
  | cons r1 r2 =>
   cases t with
   | cons t1 t2 =>
    unfold okLs at o;rw[Bool.and_eq_true] at o;have h1:=heq p1 q1 r1 t1 o.1;unfold lexN
    by_cases hde:d=e
    ·rw[if_pos hde];rw[if_pos hde] at o;rw[decide_eq_true hde] at h1;exact .eq h1 (cQ5 heq hlt p2 q2 r2 t2 o.2)
    ·rw[if_neg hde];rw[if_neg hde] at o;rw[decide_eq_false hde] at h1;exact .ne h1 (hlt p1 q1 r1 t1 o.2)
theorem fQf (I:Inv X pins σ H s):∀ (n:Nat) {A:Around} {d e:D} {x y:V} {u v:Value},A.units + n < cLine->RepV X.K M H d x->RepV X.K M H e y->RelV x u->RelV y v->okL n d e=true->HT.LtAt A s u v (ltN n d e):=by
 intro n
 induction n with
 | zero =>
  intro A d e x y u v hu h h' r r' o;cases d <;> cases e <;> first | (cases o;done) | skip
  all_goals unfold RepV at h h';subst h;subst h';obtain⟨t,rfl⟩:=r;obtain⟨t',rfl⟩:=r'
  ·intro prog w E Q q;exact(PyProof.Rows.lt_int q:wpAny (model prog w) A (compareOp .Lt _ _) Q E s)
  ·intro prog w E Q q;exact HT.rcLt_st A s _ _ _ _ prog w E Q q
 | succ n ih =>
  intro A d e x y u v hu h h' r r' o;cases d <;> cases e <;> first | (cases o;done) | skip
  ·unfold RepV at h h';subst h;subst h';obtain⟨t,rfl⟩:=r;obtain⟨t',rfl⟩:=r';intro prog w E Q q;exact(PyProof.Rows.lt_int q:wpAny (model prog w) A (compareOp .Lt _ _) Q E s)
  ·unfold RepV at h h';subst h;subst h';obtain⟨t,rfl⟩:=r;obtain⟨t',rfl⟩:=r';intro prog w E Q q;exact HT.rcLt_st A s _ _ _ _ prog w E Q q
  ·rename_i ds es;unfold RepV at h h';obtain⟨a,xs,rfl,t,l⟩:=h;obtain⟨b,ys,rfl,t',l'⟩:=h';cases r;cases r';obtain⟨us,ru,pl,_⟩:=I.tuple t.sq;obtain⟨vs,rv,pl',_⟩:=I.tuple t'.sq;refine HT.ltAt_tup pl pl' ?_ (by lia)
   exact cQ5 (fun p q r r' o=>(eq3 I n (show A.units + 1 + n < cLine by lia) p q r r' o).eq) (fun p q r r' o=>ih (show A.units + 1 + n < cLine by lia) p q r r' o) l l' ru rv o
  ·rename_i ds es;unfold RepV at h h';obtain⟨a,xs,rfl,t,l⟩:=h;obtain⟨b,ys,rfl,t',l'⟩:=h';cases r;cases r';obtain⟨us,ru,pl,_⟩:=I.list t.sq;obtain⟨vs,rv,pl',_⟩:=I.list t'.sq;refine HT.ltAt_lst pl.isList pl'.isList ?_ (by lia)
   exact cQ5 (fun p q r r' o=>(eq3 I n (show A.units + 1 + n < cLine by lia) p q r r' o).eq) (fun p q r r' o=>ih (show A.units + 1 + n < cLine by lia) p q r r' o) l l' ru rv o
end
end L2
set_option maxHeartbeats 1000000
namespace L2
open PySem PySem.Spec PyProof.Rows
def Kp (h h':Heap):Prop:=∀ b o,h.get? b=some o->h'.get? b=some o
theorem Kp.trans {a b c:Heap} (x:Kp a b) (y:Kp b c):Kp a c:=fun d o e=>y d o (x d o e)
section
variable {prog:Program} {w:World} {A:Around} {R:Result->Shared->Prop} {s0:Shared} {vs:List Value} {I S:Addr} {fp:List Addr} {St:Nat->Heap->Prop} {bt:Nat->Nat->Bool} {kw:List (Str × Value)}
end
end L2
set_option maxHeartbeats 4000000
namespace L2
open PySem PySem.Spec PyProof.Rows
section
variable {X:Cx} {K:Fg} {pos:Pos} {k:Nat}
end
section
variable {X:Cx} {K:Fg} {pos:Pos} {k:Nat}
def ltnD:R2D:=fun d e S Q=>okL 8 d e=true/\Q (.bl (ltN 8 d e)) S
def rLtN (K:Fg):R2:=fun x y H Q=>∃ b,(∀ {X:Cx} {pins:List (Addr × Obj)} {σ:St} {s:Shared},Inv X pins σ H s->X.K=K->∀ {u v:Value},RelV x u->RelV y v->∀ A:Around,A.units + 9 < cLine->HT.LtAt A s u v b)/\Q (.bl b) H
theorem fQg (hu:X.A.units + 9 < cLine) (hK:X.K=K:=by rfl):OpR X (compareOp .Lt) (rLtN K):=by
 intro pins s σ H x y v u Q I rx ry ⟨b,h,q⟩;exact h I hK rx ry X.A hu _ _ _ _ ⟨.bl b,H,I,rfl,q⟩
theorem fQh:OpD K (rLtN K) ltnD:=by
 intro F S H d e x y Q QD r hd he ⟨ok,q⟩ c;refine⟨_,fun {X pins σ s} I hK u v ru rv A hA=>?_,c.bl r q⟩;subst hK;exact fQf I 8 (by lia) hd he ru rv ok
section
variable {a b:Expr} {ta tb:ED}
theorem dX3 (hr:Room k X.A) (ha:PD K X a ta) (hb:PD K X b tb) (hK:X.K=K:=by rfl):PTD K X (.Compare a [.Lt] [b] pos) (aX1 (dOp ltnD ta tb)):=aZt (fQg (lt64 hr) hK) fQh ha hb (nomark _)
end
end
end L2
set_option maxHeartbeats 1000000
namespace L2
open PySem PySem.Spec PyProof.Rows
section
variable {X:Cx} {K:Fg} {pos:Pos} {k:Nat}
theorem eQq (M:Am) (H:Hp) (k:List Str) (v:V) (h:RepV K M H (tupS k) v):dT K dS H v k:=by
 unfold tupS RepV at h;obtain⟨a,xs,e,t,l⟩:=h;exact⟨a,xs,e,t.sq,bJ0 l⟩
theorem fQi {P:Program} {w:World} {L:List Nat} {te:ED}:aJw (cZ2 P w K) tupS L (fun D'=>cJb (cZ2 P w K) D' (upE K te)) (fQd tupS te):=dZ0 eQq
end
end L2
namespace L2
open PySem PyProof.Rows
section
variable {K:PySem.W.Frag} {k:Nat}
theorem e_fn {P:Program} {w:World} {mg:Str->Option Value} {base:Heap} {x:Str} {st:Stmt} {N ps:List Str} {sp:SpD} {f:Addr} {fd:FuncData} (Fn:Fun K x x st f fd) (S:FnScope N ps (aQ3 st))
  (len:∀ ds S Q,sp ds S Q->ds.length=ps.length)
  (h:∀ (cdv:Value) (A:Around) (outer:List Env) (s:Shared) (H:Hp) (E:XK),Room k (A.deeper (envOfC x (aQ3 st) s.heap.objs.size f cdv)) ->
   ∃ t,PSsD K (cxOf CX0 P w K mg base N x (aQ3 st) f cdv A outer s H E).nox (aZ1 st) t/\∀ ds S Q,sp ds S Q->t (cZ1 Q) (aJ1 N ds) S):FnOk P w K mg base CX0 (k + 1) f fd ps (spU K sp):=by
 refine Fn.ok S (fun vs H Q E ⟨F,S,ds,QD,r,l,hsp,c⟩=>by rw[l.length];exact len ds S QD hsp) (fun cdv A outer s H vs Q E' hr ⟨F,S,ds,QD,r,l,hsp,c⟩=>?_)
 obtain⟨t,h1,h2⟩:=h cdv A outer s H E' hr;have fin:∀ v d H' S',Ext S H S' H'->Rp K F S' H'->RepV K (mt S' F) H' d v->rtD QD d S'->Q v H':=fun v d H' S' x1 r1 v1 ⟨d',S2,hs,fz,q⟩ =>
  c v d' H' S2 (x1.trans (Ext.less hs)) (r1.less hs) ((cJ1 r1 hs fz).1 v v1) q
 exact⟨_,h1.o,F,S,aJ1 N ds,cZ1 QD,r,bZ8 l,h2 ds S QD hsp,fun Γ' S' σ' H' x1 r1 g1 q=>fin .non .non H' S' x1 r1 (by unfold RepV;rfl) q,fin,fun _ _ _ _ _ _ _ q=>q.elim,fun _ _ _ _ _ _ _ q=>q.elim⟩
end
theorem us1 {p:List Value->Prop} (h:∀ a,p [a]):∀ us:List Value,us.length=1->p us:=fun us e=>by
 match us,e with
 | [a],_=>exact h a
theorem us2 {p:List Value->Prop} (h:∀ a b,p [a,b]):∀ us:List Value,us.length=2->p us:=fun us e=>by
 match us,e with
 | [a,b],_=>exact h a b
theorem us3 {p:List Value->Prop} (h:∀ a b c,p [a,b,c]):∀ us:List Value,us.length=3->p us:=fun us e=>by
 match us,e with
 | [a,b,c],_=>exact h a b c
theorem us4 {p:List Value->Prop} (h:∀ a b c d,p [a,b,c,d]):∀ us:List Value,us.length=4->p us:=fun us e=>by
 match us,e with
 | [a,b,c,d],_=>exact h a b c d
theorem fsc {N ps:List Str} {sc:Scope} (a:sc.kind=.function:=by rfl) (b:sc.isCoroutine=false:=by rfl) (c:sc.isGenerator=false:=by rfl) (d:N.Nodup:=by decide +kernel) (e:N.take ps.length=ps:=by rfl) (f:∀ x∈ps,sc.names.lookup x=some .local\/sc.names.lookup x=some .cell:=by decide +kernel) (g:∀ y∈sc.names,y.2≠.free:=by decide +kernel):FnScope N ps sc:=⟨a,b,c,d,e,f,g⟩
end L2
namespace Toy
open PySem L2
def top (i:Nat):Stmt:=PySem.Challenge.pw_corepetals_k15_greatest_flowers.main.body.getD i (.Pass ⟨0,0,0,0⟩)
end Toy
set_option maxHeartbeats 4000000
namespace L2
open PySem PySem.Spec PyProof.Rows
end L2
set_option maxHeartbeats 1000000
namespace L2
open PySem
def lettersZ:Str:=Str.ofString "abcdefghijklmnopqrstuvwxyz"
theorem cJd {i:Nat} (h:i < 26):atI lettersZ.cps.toList (i:Int)=some (97 + i):=by
 have:∀ j:Fin 26,lettersZ.cps.toList[j.val]?=some (97 + j.val):=by decide +kernel
 exact aX7 (this ⟨i,h⟩)
end L2
set_option maxHeartbeats 4000000
namespace L2
open PySem
theorem aQg {n:Nat} (h:n<=9999):n<=sizeLine:=by rw[sizeLine_eq];lia
theorem aJy {α:Type}:∀ (l:List α) (j:Nat) (h:j < l.length),(l[j]::l.eraseIdx j).Perm l
 | a::l,0,_=>.refl _
 | a::l,j + 1,h=>by
  have ih:=aJy l j (by simpa using h)
  show(l[j]'(by simpa using h)::a::l.eraseIdx j).Perm (a::l)
  exact(List.Perm.swap _ _ _).trans (ih.cons a)
theorem cJe {α β:Type} {f:α->β} (g:β->α) (hg:∀ x,g (f x)=x) {vs us:List β} {xs:List α} (h:(vs++us).Perm (xs.map f)):∃ as bs:List α,vs=as.map f/\us=bs.map f/\(as++bs).Perm xs:=by
 have mem:∀ y∈vs++us,f (g y)=y:=fun y hy=>by
  obtain⟨x,_,rfl⟩:=List.mem_map.mp (h.mem_iff.mp hy);rw[hg]
 have lift:∀ l:List β,(∀ y∈l,f (g y)=y)->l=(l.map g).map f:=fun l hl=>by
  rw[List.map_map];apply List.ext_getElem (by simp)
  intro i h1 h2;rw[List.getElem_map];exact(hl _ (List.getElem_mem h1)).symm
 refine⟨vs.map g,us.map g,lift vs fun y hy=>mem y (List.mem_append_left _ hy),lift us fun y hy=>mem y (List.mem_append_right _ hy),?_⟩;have p:=h.map g;rw[List.map_append,List.map_map] at p;have e:xs.map (g ∘ f)=xs:=by
  apply List.ext_getElem (by simp)
  intro i h1 h2;rw[List.getElem_map];exact hg _
 rwa [e] at p
def dStr':D->Str
 | .str s=>s
 | _=>⟨#[]⟩
end L2
namespace Toy
open PySem L2
theorem bJ6 (a b:Str):(a++b).length=a.length + b.length:=by
 show(a.cps++b.cps).size=_;rw[Array.size_append];rfl
end Toy
namespace Toy
variable {α:Type}
def ch:List α->Nat->List (List α)
 | _,0=>[[]]
 | [],_ + 1=>[]
 | x::xs,n + 1=>(ch xs n).map (x::·)++ch xs (n + 1)
theorem aQp (xs:List α):ch xs 0=[[]]:=by cases xs <;> rfl
theorem dX4 (n:Nat):ch ([]:List α) (n + 1)=[]:=rfl
theorem aQi (x:α) (xs:List α) (n:Nat):ch (x::xs) (n + 1)=(ch xs n).map (x::·)++ch xs (n + 1):=rfl
theorem ch_big:∀ (xs:List α) (n:Nat),xs.length < n->ch xs n=[]
 | [],0,h=>by simp at h
 | [],n + 1,_=>rfl
 | x::xs,0,h=>by simp at h
 | x::xs,n + 1,h=>by
  simp only[List.length_cons] at h;rw[aQi,ch_big xs n (by lia),ch_big xs (n + 1) (by lia)]
  rfl
theorem bXc:∀ (xs:List α) (n:Nat),(ch xs n).length<=2 ^ xs.length
 | [],0=>by simp[ch]
 | [],n + 1=>by simp[ch]
 | x::xs,0=>by
  rw[aQp];exact Nat.one_le_two_pow
 | x::xs,n + 1=>by
  rw[aQi,List.length_append,List.length_map,List.length_cons,Nat.pow_succ]
  have:=bXc xs n
  have:=bXc xs (n + 1)
  lia
theorem ch_mem:∀ {xs:List α} {n:Nat} {s:List α},s∈ch xs n->s.length=n/\s.Sublist xs
 | [],0,s,h=>by
  have:s=[]:=by simpa [ch] using h
  subst this;exact⟨rfl,.slnil⟩
 | [],n + 1,s,h=>by simp[ch] at h
 | x::xs,0,s,h=>by
  have:s=[]:=by simpa [ch] using h
  subst this;exact⟨rfl,List.nil_sublist _⟩
 | x::xs,n + 1,s,h=>by
  rw[aQi,List.mem_append,List.mem_map] at h;rcases h with⟨r,hr,rfl⟩ | h
  ·obtain⟨a,b⟩:=ch_mem hr;exact⟨by simp[a],b.cons_cons x⟩
  ·obtain⟨a,b⟩:=ch_mem h;exact⟨a,b.cons x⟩
theorem eQr (xs:List α) (i n:Nat) (h:i < xs.length):ch (xs.drop i) (n + 1)=(ch (xs.drop (i + 1)) n).map (xs[i]::·)++ch (xs.drop (i + 1)) (n + 1):=by
 rw[List.drop_eq_getElem_cons h]
 rfl
theorem aZw:∀ {xs:List α} {s:List α},s.Sublist xs->s∈ch xs s.length
 | [],s,h=>by
  have:s=[]:=List.sublist_nil.mp h
  subst this;simp[ch]
 | x::xs,[],h=>by simp[ch]
 | x::xs,y::s,h=>by
  rw[List.length_cons,aQi,List.mem_append,List.mem_map];cases h with
  | cons _ h=>right;exact aZw (s:=y::s) h
  | cons_cons _ h=>left;exact⟨s,aZw h,rfl⟩
end Toy
namespace Toy
variable {α:Type}
theorem dX5:∀ xs:List α,ch xs 1=xs.map fun x=>[x]
 | []=>rfl
 | x::xs=>by rw[aQi,aQp,dX5 xs];rfl
end Toy
namespace Toy
variable {β:Type} [DecidableEq β]
theorem sorted_eq {lt:β->β->Prop} (irr:∀ a,¬ lt a a) (asy:∀ a b,lt a b->¬ lt b a):∀ {l m:List β},l.Pairwise lt->m.Pairwise lt->(∀ n,n∈l↔n∈m)->l=m
 | [],[],_,_,_=>rfl
 | [],b::m,_,_,h=>by have:=(h b).mpr List.mem_cons_self;simp at this
 | a::l,[],_,_,h=>by have:=(h a).mp List.mem_cons_self;simp at this
 | a::l,b::m,hl,hm,h=>by
  obtain⟨la,hl'⟩:=List.pairwise_cons.mp hl;obtain⟨mb,hm'⟩:=List.pairwise_cons.mp hm;have e:a=b:=by
   rcases List.mem_cons.mp ((h a).mp List.mem_cons_self) with z | z
   ·exact z
   ·rcases List.mem_cons.mp ((h b).mpr List.mem_cons_self) with y | y
    ·exact y.symm
    ·exact absurd (mb a z) (asy _ _ (la b y))
  subst e
  congr 1
  refine sorted_eq irr asy hl' hm' fun n=>⟨fun hn=>?_,fun hn=>?_⟩
  ·rcases List.mem_cons.mp ((h n).mp (List.mem_cons_of_mem _ hn)) with z | z
   ·subst z;exact absurd (la n hn) (irr n)
   ·exact z
  ·rcases List.mem_cons.mp ((h n).mpr (List.mem_cons_of_mem _ hn)) with z | z
   ·subst z;exact absurd (mb n hn) (irr n)
   ·exact z
end Toy
namespace Toy
variable {α β:Type}
theorem ch_map (f:α->β):∀ (l:List α) (k:Nat),ch (l.map f) k=(ch l k).map fun s=>s.map f
 | [],0=>rfl
 | [],k + 1=>rfl
 | x::l,0=>by rw[aQp,aQp];rfl
 | x::l,k + 1=>by
  rw[List.map_cons,aQi,aQi,ch_map f l k,ch_map f l (k + 1),List.map_append,List.map_map,List.map_map]
  rfl
end Toy
set_option maxHeartbeats 1000000
namespace L2
open PySem
abbrev Srt (t:List Str):Prop:=t.Pairwise fun a b=>HT.ltS a b=true
abbrev SrtT (ts:List (List Str)):Prop:=ts.Pairwise fun a b=>HT.lexS a b=true
theorem Srt.ext {l m:List Str} (hl:Srt l) (hm:Srt m) (h:∀ n,n∈l↔n∈m):l=m :=
 Toy.sorted_eq (lt:=fun a b=>HT.ltS a b=true) (fun a=>by rw[HT.ltS_ir];simp) (fun a b h=>by rw[HT.ltS_as h];simp) hl hm h
theorem SrtT.ext {l m:List (List Str)} (hl:SrtT l) (hm:SrtT m) (h:∀ n,n∈l↔n∈m):l=m :=
 Toy.sorted_eq (lt:=fun a b=>HT.lexS a b=true) (fun a=>by rw[aXn];simp) (fun a b h=>by rw[HT.lexS_as h];simp) hl hm h
theorem Srt.nodup {t:List Str} (h:Srt t):t.Nodup:=h.imp fun {a b} h e=>by subst e;rw[HT.ltS_ir] at h;cases h
theorem SrtT.nodup {t:List (List Str)} (h:SrtT t):t.Nodup:=h.imp fun {a b} h e=>by subst e;rw[aXn] at h;cases h
theorem fQj {t:List Str} (nd:t.Nodup) (h:t.Pairwise fun x y=>leS x y=true):Srt t:=by
 induction t with
 | nil=>exact .nil
 | cons a t ih =>
  rw[List.pairwise_cons] at h;rw[List.nodup_cons] at nd;refine List.pairwise_cons.mpr ⟨fun b hb=>?_,ih nd.2 h.2⟩
  have:=h.1 b hb
  unfold leS at this;rw[Bool.not_eq_true'] at this;exact HT.ltS_tot this fun e=>nd.1 (by rw[<- e];exact hb)
theorem cJf {l:List Str} (nd:l.Nodup):Srt (srS l):=fQj ((aJ8 l).nodup_iff.mpr nd) (dX1 l)
theorem mem_srS {l:List Str} {x:Str}:x∈srS l↔x∈l:=(aJ8 l).mem_iff
def dd {α:Type} [DecidableEq α]:List α->List α
 | []=>[]
 | x::xs=>if x∈xs then dd xs else x::dd xs
theorem mem_dd {α:Type} [DecidableEq α] {x:α}:∀ {l:List α},x∈dd l↔x∈l
 | []=>Iff.rfl
 | y::l=>by
  unfold dd
  split
  ·next h =>
   rw[mem_dd,List.mem_cons];exact⟨.inr,fun z=>z.elim (fun e=>by rw[e];exact h) id⟩
  ·rw[List.mem_cons,List.mem_cons,mem_dd]
theorem bZf {α:Type} [DecidableEq α]:∀ l:List α,(dd l).Nodup
 | []=>List.nodup_nil
 | y::l=>by
  unfold dd
  split
  ·exact bZf l
  ·next h=>exact List.nodup_cons.mpr ⟨fun z=>h (mem_dd.mp z),bZf l⟩
def nms (ts:List (List Str)):List Str:=srS (dd ts.flatten)
theorem eQs (ts:List (List Str)):Srt (nms ts):=cJf (bZf _)
theorem mem_nms {ts:List (List Str)} {x:Str}:x∈nms ts↔∃ t∈ts,x∈t:=by
 unfold nms;rw[mem_srS,mem_dd,List.mem_flatten]
def mts {α:Type} [DecidableEq α] (one row:List α):Bool:=row.any fun d=>decide (d∈one)
def has {α:Type} [DecidableEq α] (one row:List α):Bool:=row.all fun d=>decide (d∈one)
theorem mts_iff {α:Type} [DecidableEq α] {one row:List α}:mts one row=true↔∃ x∈row,x∈one:=by unfold mts;simp
theorem has_iff {α:Type} [DecidableEq α] {one row:List α}:has one row=true↔∀ x∈row,x∈one:=by unfold has;simp
def wo {α:Type} [DecidableEq α] (one row:List α):List α:=one.filter fun d=>!decide (d∈row)
theorem mem_wo {α:Type} [DecidableEq α] {one row:List α} {x:α}:x∈wo one row↔x∈one/\x∉row:=by unfold wo;rw[List.mem_filter];simp
end L2
set_option maxHeartbeats 4000000
namespace L2
open PySem
structure Enc (α:Type) where
 e:α->D
 inj:∀ {x y},e x=e y->x=y
 pl:∀ x,plain (e x)=true
 dep:Nat
 ok:∀ n x y,dep<=n->okE n (e x) (e y)=true
 lt:α->α->Bool
 okl:∀ n x y,dep<=n->okL n (e x) (e y)=true
 lte:∀ n x y,dep<=n->ltN n (e x) (e y)=lt x y
def lexG {α:Type} [DecidableEq α] (lt:α->α->Bool):List α->List α->Bool
 | [],[]=>false
 | [],_::_=>true
 | _::_,[]=>false
 | x::xs,y::ys=>if x=y then lexG lt xs ys else lt x y
def strE:Enc Str where
 e:=D.str
 inj:=fun h=>by injection h
 pl:=fun _=>rfl
 dep:=0
 ok:=fun n x y _=>by cases n <;> rfl
 lt:=HT.ltS
 okl:=fun n x y _=>by cases n <;> rfl
 lte:=fun n x y _=>by cases n <;> rfl
def tupE {α:Type} [DecidableEq α] (E:Enc α):Enc (List α) where
 e:=fun l=>.tup (l.map E.e)
 inj:=fun {x y} h=>by
  injection h with h
  exact aJx (fun a b e=>E.inj e) h
 pl:=fun l=>by
  show aZh (l.map E.e)=true
  induction l with
  | nil=>rfl
  | cons x l ih=>show(plain (E.e x) && aZh (l.map E.e))=true;rw[E.pl,ih];rfl
 dep:=E.dep + 1
 ok:=fun n x y h=>by
  obtain⟨m,rfl⟩:∃ m,n=m + 1:=⟨n - 1,by lia⟩
  show((x.map E.e).zip (y.map E.e)).all (fun p=>okE m p.1 p.2)=true;rw[List.zip_map,List.all_map,List.all_eq_true];exact fun p _=>E.ok m p.1 p.2 (by lia)
 lt:=lexG E.lt
 okl:=fun n x y h=>by
  obtain⟨m,rfl⟩:∃ m,n=m + 1:=⟨n - 1,by lia⟩
  show okLs (okL m) m (x.map E.e) (y.map E.e)=true
  induction x generalizing y with
  | nil=>cases y <;> rfl
  | cons a x ih =>
   cases y with
   | nil=>rfl
   | cons b y =>
    show(okE m (E.e a) (E.e b) && (if E.e a=E.e b then okLs (okL m) m (x.map E.e) (y.map E.e) else okL m (E.e a) (E.e b)))=true
    rw[E.ok m a b (by lia),Bool.true_and]
    split
    ·exact ih y
    ·exact E.okl m a b (by lia)
 lte:=fun n x y h=>by
  obtain⟨m,rfl⟩:∃ m,n=m + 1:=⟨n - 1,by lia⟩
  show lexN (ltN m) (x.map E.e) (y.map E.e)=lexG E.lt x y
  induction x generalizing y with
  | nil=>cases y <;> rfl
  | cons a x ih =>
   cases y with
   | nil=>rfl
   | cons b y =>
    show(if E.e a=E.e b then lexN (ltN m) (x.map E.e) (y.map E.e) else ltN m (E.e a) (E.e b))=if a=b then lexG E.lt x y else E.lt a b
    by_cases hab:a=b
    ·subst hab;rw[if_pos rfl,if_pos rfl];exact ih y
    ·rw[if_neg fun z=>hab (E.inj z),if_neg hab];exact E.lte m a b (by lia)
theorem fQk:lexG HT.ltS=HT.lexS:=by
 funext x y
 induction x generalizing y with
 | nil=>cases y <;> rfl
 | cons a x ih =>
  cases y with
  | nil=>rfl
  | cons b y =>
   show(if a=b then lexG HT.ltS x y else HT.ltS a b)=if a=b then HT.lexS x y else HT.ltS a b
   rw[ih]
abbrev setE:Enc (List Str):=tupE strE
abbrev flE:Enc (List (List Str)):=tupE setE
theorem eQt:setE.lt=HT.lexS:=fQk
section
variable {α:Type} [DecidableEq α] {E:Enc α}
theorem cQ6:∀ l:List α,aZh (l.map E.e)=true
 | []=>rfl
 | x::l=>by show(plain (E.e x) && aZh (l.map E.e))=true;rw[E.pl,cQ6 l];rfl
theorem fX5 {x:α} {l:List α}:E.e x∈l.map E.e↔x∈l:=by
 rw[List.mem_map];exact⟨fun⟨y,h,e⟩=>by rw[<- E.inj e];exact h,fun h=>⟨x,h,rfl⟩⟩
theorem in_e {neg:Bool} {x:α} {l:List α} [dm:Decidable (x∈l)] {d:D} {S:Sto} {Q:DK} (hE:E.dep<=8) (hd:sqIs S d (l.map E.e)) (q:Q (.bl (if neg then !decide (x∈l) else decide (x∈l))) S):inD neg (E.e x) d S Q:=by
 refine⟨l.map E.e,hd,cQ6 l,by rw[List.all_map,List.all_eq_true];exact fun y _=>E.ok 8 y x hE,?_⟩
 rw[decide_eq_decide.mpr (fX5 (E:=E) (x:=x) (l:=l))];exact q
theorem in_t {neg:Bool} {x:α} {l:List α} [dm:Decidable (x∈l)] {d:D} {S:Sto} {Q:Bool->Sto->Prop} (hE:E.dep<=8) (hd:sqIs S d (l.map E.e)) (q:Q (if neg then !decide (x∈l) else decide (x∈l)) S):inD neg (E.e x) d S (fun d S1=>∃ b,d=.bl b/\Q b S1):=in_e hE hd ⟨_,rfl,q⟩
end
def fzIs (d:D) (xs:List D):Prop:=d=.tup xs\/d=.lst xs
theorem fzIs.sq {S:Sto} {d:D} {xs:List D} (h:fzIs d xs):sqIs S d xs:=by rcases h with rfl | rfl <;> rfl
end L2
namespace Toy
open PySem L2
def aJ9:SpD:=fun ds S Q=>∃ (α:Type) (_:DecidableEq α) (E:Enc α) (one row:List α) (d1 d2:D),ds=[d1,d2]/\E.dep<=4/\fzIs d1 (one.map E.e)/\fzIs d2 (row.map E.e)/\row.length<=9999/\Q (.bl (mts one row)) S
def bQm:SpD:=fun ds S Q=>∃ (α:Type) (_:DecidableEq α) (E:Enc α) (one row:List α) (d1 d2:D),ds=[d1,d2]/\E.dep<=4/\fzIs d1 (one.map E.e)/\fzIs d2 (row.map E.e)/\row.length<=9999/\Q (.bl (has one row)) S
def aQs:SpD:=fun ds S Q=>∃ (α:Type) (_:DecidableEq α) (E:Enc α) (one row:List α) (d1 d2:D),ds=[d1,d2]/\E.dep<=4/\fzIs d1 (one.map E.e)/\fzIs d2 (row.map E.e)/\one.length<=9999/\Q (.tup ((wo one row).map E.e)) S
def aXx:SpD:=fun ds S Q=>∃ one row:List Str,ds=[tupS one,tupS row]/\one.length<=9999/\Q (tupS (one.filter fun d=>decide (d∈row))) S
end Toy
namespace L2
open PySem
def dX6:Str:=Str.ofString ""
theorem dZ4 {x:Str} (h:1<=x.length):HT.ltS dX6 x=true:=by
 unfold HT.ltS;refine decide_eq_true ?_;obtain⟨⟨l⟩⟩:=x;cases l with
 | nil=>exact absurd h (by decide)
 | cons c l =>
  show([]:List Nat) < c::l;exact List.nil_lt_cons _ _
end L2
namespace Toy
open PySem L2
structure CollB (most:Nat) (ts:List (List Str)):Prop where
 srt:SrtT ts
 each:∀ t∈ts,Srt t/\t.length<=6
 len:ts.length<=most
 nms:(nms ts).length<=12
 ne:∀ x∈L2.nms ts,HT.ltS dX6 x=true
end Toy
namespace L2
open PySem
end L2
set_option maxHeartbeats 1000000
namespace Toy
open PySem L2
def aZj:SpD:=fun ds S Q=>∃ (ns:List Int) (k:Int),ds=[.lst (ns.map D.int),.int k]/\ns.length<=63/\0<=k/\k<=9999/\∀ r:Int,0<=r->r < 1000000->Q (.int r) S
theorem eQu (num i:Nat):Builtin.bitAnd ((num:Int) / 2 ^ ((i:Nat):Int).toNat) 1=((num / 2 ^ i % 2:Nat):Int):=by
 have e:((num:Int) / 2 ^ ((i:Nat):Int).toNat)=((num / 2 ^ i:Nat):Int):=by
  rw[Int.toNat_natCast,Int.natCast_ediv,Int.natCast_pow];rfl
 rw[e,PyProof.Rows.bitAnd_pp (Int.natCast_nonneg _) (by decide)]
 show(((num / 2 ^ i) &&& 1:Nat):Int)=_;rw[Nat.and_one_is_mod]
theorem eQv {a b:Int} (ha:0<=a) (hb:0<=b):0<=Builtin.bitAnd a b:=by
 rw[PyProof.Rows.bitAnd_pp ha hb];exact Int.natCast_nonneg _
theorem fQl {x:Int} (hx:0<=x) (i:Nat):Builtin.bitAnd (x / 2 ^ ((i:Nat):Int).toNat) 1=0\/Builtin.bitAnd (x / 2 ^ ((i:Nat):Int).toNat) 1=1:=by
 obtain⟨n,rfl⟩:∃ n:Nat,x=n:=⟨x.toNat,by lia⟩
 rw[eQu]
 have:=Nat.mod_two_eq_zero_or_one (n / 2 ^ i)
 lia
def wordsA:List Str:=["", "", "one", "zz", "b", "tie", "place", "lengthy"]
def menuA:List Str:=["p", "q", "pp", "pq", "qp", "qq", "ppq", "pqp", "qpp", "pqq", "qpq", "qqp", "pqpqpqpq"]
theorem dZ5:menuA.Nodup:=by decide +kernel
theorem cJg:∀ w∈menuA,1<=w.length/\w.length<=8:=by decide +kernel
def mkA (p:Nat) (w:Str) (c:Nat):Str:=cutS w none (some (p:Int))++(⟨#[c]⟩:Str)++cutS w (some (p:Int)) none
theorem aZk:∀ p:Nat,p < 8->∀ w∈wordsA,(cutS w none (some (p:Int))).length=min p w.length/\(cutS w (some (p:Int)) none).length=w.length - min p w.length/\w.length<=7:=by decide +kernel
theorem eQw (a b:Str):(a++b).cps.toList=a.cps.toList++b.cps.toList:=by
 show(a.cps++b.cps).toList=_;simp
theorem bJ7 {p:Nat} (hp:p < 8) {w:Str} (hw:w∈wordsA) (c:Nat):(mkA p w c).length=w.length + 1:=by
 obtain⟨a1,a2,_⟩:=aZk p hp w hw;unfold mkA;rw[bJ6,bJ6,a1,a2];show min p w.length + 1 + _=_;lia
theorem eQx {p:Nat} (hp:p < 8) {w w':Str} (hw:w∈wordsA) (hw':w'∈wordsA) {c c':Nat} (h:mkA p w c=mkA p w' c'):c=c':=by
 have hl:w.length=w'.length:=by
  have:=congrArg Str.length h
  rw[bJ7 hp hw,bJ7 hp hw'] at this;lia
 obtain⟨a1,_,_⟩:=aZk p hp w hw;obtain⟨b1,_,_⟩:=aZk p hp w' hw';have h':=congrArg (fun s:Str=>s.cps.toList) h;unfold mkA at h';simp only[eQw] at h';rw[List.append_assoc,List.append_assoc] at h';have e1:(cutS w none (some (p:Int))).cps.toList.length=min p w.length:=by rw[<- a1];rfl
 have f1:(cutS w' none (some (p:Int))).cps.toList.length=min p w'.length:=by rw[<- b1];rfl
 have:=(List.append_inj h' (by rw[e1,f1,hl])).2
 have h2:[c]++(cutS w (some (p:Int)) none).cps.toList=[c']++(cutS w' (some (p:Int)) none).cps.toList:=this;injection h2
def bXd:SpD:=fun ds S Q=>∃ (ns:List Int) (start:Int) (many:Nat),ds=[.lst (ns.map D.int),.int start,.int many]/\ns.length<=63/\0<=start/\start<=999/\many<=12/\∀ names:List Str,names.Nodup->names.length=many->(∀ n∈names,1<=n.length/\n.length<=8)->Q (.lst (names.map D.str)) S
theorem fX6 {lp:Addr} {ns:List Int} {start:Int} (hns:ns.length<=63) (h0:0<=start) (h1:start<=999) {S:Sto} {xs:List D} {m:Nat} (hS:S lp=some (.lst xs)) (hm:m<=xs.length) (hx:xs.length<=999) {Q:List D->Sto->Prop}
  (q:∀ vs us S',(vs++us).Perm xs->vs.length=m->S' lp=some (.lst us)->(∀ b,b≠lp->S' b=S b)->Q vs S') :
  aZe (aZ6 0) dYes (bZ5 (dMt cJ2 ckL (dVar 1) (cXh (dOp (iiD (fun _ j=>0 < j) fun i j=>.int (i % j)) (dCB aZj (cXh (dVar 2) (cXh (dOp (addD false) (dOp (addD false) (dVar 3) (dC (D.int 1))) (dVar 0)) dNil))) (dCB lenD (cXh (dVar 1) dNil))) dNil))) (fun _=>True) [none,some (.ref lp),some (.lst (ns.map D.int)),some (.int start)] (rngD 0 m) [] S Q:=by
 refine bZa (fun i acc S'=>∃ us:List D,acc.length=i/\S' lp=some (.lst us)/\(acc++us).Perm xs/\∀ b,b≠lp->S' b=S b) ⟨xs,rfl,hS,.refl _,fun _ _=>rfl⟩ ?_ ?_
 ·rintro i x vs S' N hx' ⟨us,hvl,hl,pm,off'⟩ hN;obtain⟨hi,rfl⟩:=cQ1 hx';have hul:us.length + i=xs.length:=by have:=pm.length_eq;rw[List.length_append] at this;lia
  refine⟨trivial,⟨_,hl⟩,ns,start + 1 + (i:Int),rfl,hns,by lia,by lia,fun r r0 r1=>⟨_,hl,by show(0:Int) < (us.length:Int);lia,?_⟩⟩
  have hb:=md (a:=r) (b:=(us.length:Int)) (by lia)
  obtain⟨j,hj'⟩:∃ j:Nat,r % (us.length:Int)=j:=⟨(r % (us.length:Int)).toNat,by lia⟩
  have hj:j < us.length:=by lia
  refine⟨_,j,us[j],hl,hj',by lia,List.getElem?_eq_getElem hj,by rw[sizeLine_eq];lia,hN _ _ ⟨us.eraseIdx j,?_,supd_same,?_,fun b hb=>(aQ9 hb).trans (off' b hb)⟩⟩
  ·rw[List.length_append,hvl];rfl
  ·refine List.Perm.trans ?_ pm;rw[List.append_assoc];exact(List.perm_append_left_iff vs).mpr (aJy us j hj)
 ·rintro vs S' ⟨us,hvl,hl,pm,off'⟩;rw[aXm] at hvl;exact⟨trivial,q vs us S' pm hvl hl off'⟩
def cQ7:SpD:=fun ds S Q=>∃ (ns:List Int) (start:Int) (most:Nat),ds=[.lst (ns.map D.int),.int start,.int most]/\ns.length<=63/\0<=start/\start<=900/\most<=14/\∀ ts:List (List Str),CollB most ts->Q (.tup (ts.map tupS)) S
abbrev s_law_number:Stmt:=top 14
theorem sc_law_number:FnScope ["script", "k", "cells", "size", "cell", "turn", "rest", "step", "seed"] ["script", "k"] (aQ3 s_law_number):=fsc
section
variable {P:Program} {w:World} {K:PySem.W.Frag} {mg:Str->Option Value} {base:Heap} {pt cc:Addr}
theorem bZg (T:Tx K mg "_law_number" s_law_number) (B:Bs mg):Df P w K mg base 1 "_law_number" ["script", "k"] (spU K aZj):=by
 refine aX2 T sc_law_number (fun F=>F.binds fun _ _ _ _ _ _=>us2 fun _ _=>rfl) ?_ fun f cdv A outer s H E hr=>⟨_,(aQ2 (aQ7 (i:=2) sc_law_number.nd rfl (Or.inl rfl) (aQu (k:=false) (eJn (b:=false) rfl B.list (aQ0 (dv 0) aQ1)) (aZ3 (b:=false) (aQ0 aQ4 aQ1))))
  (aJu (aQ7 (i:=3) sc_law_number.nd rfl (Or.inl rfl) (fZu rfl B.max (aQ0 aQ4 (aQ0 (aXk rfl B.len (aQ0 (dv 0) aQ1)) aQ1))))
  (aQ2 (aQ7 (i:=4) sc_law_number.nd rfl (Or.inl rfl) (e_ix (dv 2) (aQz (dv 1) (dv 3))))
  (aQ2 (aQ7 (i:=5) sc_law_number.nd rfl (Or.inl rfl) (aJ0 (dv 1) (dv 3)))
  (aQ2 (aQ7 (i:=6) sc_law_number.nd rfl (Or.inl rfl) (dv 4))
  (aQ2 (aX4 PassesOwn.never rfl (aZu rfl B.range (aQ0 (fZt rfl B.min (aQ0 (dv 5) (aQ0 aQ4 aQ1))) aQ1)) (aQt (i:=7) sc_law_number.nd rfl (Or.inl rfl)) (aQ5 (aQ7 (i:=6) sc_law_number.nd rfl (Or.inl rfl) (aJ0 (dv 6) aQ4))))
  (aJu (aXl (PWD.pt (bQk (fZp hr (dv 4) (fZk aQ4 aQ4)) (bQk (fZn hr (dv 5) aQ4) (aJq (eJe hr (dv 6) aQ4))))) (aQ5 (aQm (aQz (dv 6) aQ4))) aQv)
  (aQ2 (aQ7 (i:=8) sc_law_number.nd rfl (Or.inl rfl) (aQz (aJo (aQu (k:=false) (aQu (k:=false) (aQu (k:=false) (aQz (dv 4) aQ4) aQ4) (aJo aQ4 (dv 5))) (aJo aQ4 (dv 1))) aQ4) aQ4))
  (aQ2 (aQ7 (i:=8) sc_law_number.nd rfl (Or.inl rfl) (aQz (aQu (k:=false) (aQu (k:=false) (aJo (dv 8) (dv 8)) (aJo aQ4 (dv 5))) (aJo aQ4 (dv 1))) aQ4))
  (aQ5 (aQm (aQz (aJ0 (aQz (aJo (dv 8) aQ4) aQ4) aQ4) aQ4)))))))))))),?_⟩
 ·rintro ds S Q ⟨ns,k,rfl,_⟩;rfl
 ·rintro ds S Q ⟨ns,k,rfl,h63,k0,k1,q⟩;refine⟨_,rfl,aQg (by show 1<=9999;decide),_,_,rfl,rfl,aQg (by rw[List.length_map];show ns.length + 1<=9999;lia),?_⟩
  refine⟨fun Γ' S'=>S'=S/\∃ sz:Int,Γ'=[some (.lst (ns.map D.int)),some (.int k),some (.lst (ns.map D.int++[D.int 0])),some (.int sz),none,none,none,none,none]/\1<=sz/\sz<=63/\sz<=ns.length + 1,⟨_,rfl,rfl,_,rfl,?_⟩,?_⟩
  ·show 1<=(if ((ns.map D.int).length:Int) > 1 then ((ns.map D.int).length:Int) else 1)/\(if ((ns.map D.int).length:Int) > 1 then ((ns.map D.int).length:Int) else 1)<=63/\(if ((ns.map D.int).length:Int) > 1 then ((ns.map D.int).length:Int) else 1)<=ns.length + 1
   rw[List.length_map]
   split
   ·exact⟨by lia,by lia,by lia⟩
   ·exact⟨by lia,by lia,by lia⟩
  rintro Γ' S0 ⟨rfl,sz,rfl,sz1,sz2,sz3⟩;have hb:=md (a:=k) (b:=sz) (by lia)
  have e0:ns.map D.int++[D.int 0]=(ns++[0]).map D.int:=by rw[List.map_append];rfl
  obtain⟨hi,hat⟩:=cJ8 (xs:=ns++[0]) (i:=k % sz) hb.1 (by rw[List.length_append];show _ < ((ns.length + 1:Nat):Int);lia)
  have hat':atI (ns.map D.int++[D.int 0]) (k % sz)=some (.int ((ns++[0])[(k % sz).toNat])):=by rw[e0,bJ4,hat];rfl
  generalize (ns++[0])[(k % sz).toNat]=cell at hat';refine⟨by show(0:Int) < sz;lia,_,_,rfl,hat',⟨by lia,by lia⟩,?_⟩
  have ht:0<=k / sz:=Int.ediv_nonneg k0 (by lia)
  obtain⟨m,hm,m0,m60⟩:∃ m:Int,(fun i j:Int=>if j < i then j else i) (k / sz) 60=m/\0<=m/\m<=60:=by
   show ∃ m:Int,(if (60:Int) < (k / sz) then 60 else (k / sz))=m/\_
   split
   ·exact⟨60,rfl,by decide,by decide⟩
   ·exact⟨(k / sz),rfl,ht,by lia⟩
  refine⟨?_,?_⟩
  ·rw[hm];exact⟨by lia,by lia⟩
  rw[hm];refine for_ind (fun i Γ S'=>∃ (rest:Int) (x7:Option D),Γ=[some (.lst (ns.map D.int)),some (.int k),some (.lst (ns.map D.int++[D.int 0])),some (.int sz),some (.int cell),some (.int (k / sz)),some (.int rest),x7,none]/\S'=S0) ⟨cell,none,rfl,rfl⟩ ?_ ?_
  ·rintro i x Γ S' N hx ⟨rest,x7,rfl,rfl⟩ hN;exact⟨trivial,⟨by decide,by decide⟩,hN _ _ ⟨_,_,rfl,rfl⟩⟩
  rintro Γ S' ⟨rest,x7,rfl,rfl⟩;refine⟨trivial,fun Γ' S2=>Γ'=[some (.lst (ns.map D.int)),some (.int k),some (.lst (ns.map D.int++[D.int 0])),some (.int sz),some (.int cell),some (.int (k / sz)),some (.int rest),x7,none]/\S2=S',?_,?_⟩
  ·refine⟨⟨by decide,by decide,by decide⟩,_,rfl,ite2 (fun _=>⟨_,rfl,ite2 (fun _=>⟨_,rfl,ite2 (fun _=>?_) fun _=>⟨rfl,rfl⟩⟩) fun _=>⟨rfl,rfl⟩⟩) fun _=>⟨rfl,rfl⟩⟩
   exact⟨by show(0:Int) < 1000000;decide,aQf (q _ (md (by decide)).1 (md (by decide)).2)⟩
  rintro Γ' S2 ⟨rfl,rfl⟩;refine⟨by show(0:Int) < 2147483629;decide,.inl ⟨by decide,by decide⟩,.inl ⟨by decide,by decide⟩,.inr ⟨by decide,by decide⟩,by show(0:Int) < 2147483647;decide,?_⟩
  have h2:=md (a:=(cell % 2147483629 + 977 + 104729 * (k / sz) + 15485863 * k) * 48271) (b:=2147483647) (by decide)
  refine⟨.inl ⟨by lia,by lia⟩,.inl ⟨by decide,by decide⟩,.inl ⟨by decide,by decide⟩,by show(0:Int) < 2147483587;decide,.inr ⟨by decide,by decide⟩,by show(0:Int) < 2147483563;decide,⟨by decide,by decide⟩,by show(0:Int) < 1000000;decide,aQf (q _ (md (by decide)).1 (md (by decide)).2)⟩
end
abbrev s_law_names:Stmt:=top 15
theorem sc_law_names:FnScope ["script", "start", "many", "letters", "some", "first", "at", "found", "menu", "k", "name"] ["script", "start", "many"] (aQ3 s_law_names):=fsc
section
variable {P:Program} {w:World} {K:PySem.W.Frag} {mg:Str->Option Value} {base:Heap} {pt cc:Addr}
theorem bXe (T:Tx K mg "_law_names" s_law_names) (B:Bs mg) (d_law_number:Df P w K mg base 1 "_law_number" ["script", "k"] (spU K aZj)):Df P w K mg base 2 "_law_names" ["script", "start", "many"] (spU K bXd):=by
 refine aX2 T sc_law_names (fun F=>F.binds fun _ _ _ _ _ _=>us3 fun _ _ _=>rfl) ?_ fun f cdv A outer s H E hr=>⟨_,(aQ2 (aQ7 (i:=3) sc_law_names.nd rfl (Or.inl rfl) aZ9)
  (aQ2 (aQ7 (i:=4) sc_law_names.nd rfl (Or.inl rfl) (aZ3 (b:=false) (aQ0 aZ9 (aQ0 aZ9 (aQ0 aZ9 (aQ0 aZ9 (aQ0 aZ9 (aQ0 aZ9 (aQ0 aZ9 (aQ0 aZ9 aQ1))))))))))
  (aQ2 (aQ7 (i:=5) sc_law_names.nd rfl (Or.inl rfl) (aQa d_law_number hr rfl (aQ0 (dv 0) (aQ0 (dv 1) aQ1))))
  (aQ2 (aQ7 (i:=6) sc_law_names.nd rfl (Or.inl rfl) (aQz (aJ0 (dv 5) aQ4) aQ4))
  (aQ2 (aQ7 (i:=7) sc_law_names.nd rfl (Or.inl rfl) (aZ3 (b:=true) aQ1))
  (aQ2 (aQ7 (i:=8) sc_law_names.nd rfl (Or.inr rfl) (aZ3 (b:=true) (aQ0 aZ9 (aQ0 aZ9 (aQ0 aZ9 (aQ0 aZ9 (aQ0 aZ9 (aQ0 aZ9 (aQ0 aZ9 (aQ0 aZ9 (aQ0 aZ9 (aQ0 aZ9 (aQ0 aZ9 (aQ0 aZ9 (aQ0 aZ9 aQ1)))))))))))))))
  (aQ2 (aXl (bXz hr (aQz (aJ0 (dv 5) aQ4) aQ4) aQ4) (aQ5 (aQm (aZ0 (N':=["k", "menu", "script", "start"]) (oc:=none) (b:=false) [0] [] rfl sc_law_names.nd (fun _ _ _=>aQd _ _ _ _ _ _ _ _ _) (.own (.cap (i:=8) rfl (by decide +kernel) (.cap (i:=0) rfl (by decide +kernel) (.cap (i:=1) rfl (by decide +kernel) .nil)))) (aQh rfl) (aZu rfl B.range (aQ0 (dv 2) aQ1)) (cg_name (i:=0)) (fun _ _ _ _ _=>aQe (i:=0) (nd_ ["k", "menu", "script", "start"]) rfl (Or.inl rfl) (.inr rfl)) (fun _ _ _ _ _=>aZm) aQl (fun _ _ _ _ _ _=>aQk rfl (by exact PD.o (eQh (dv 1) (aQ0 (aQz (aQa d_law_number hr rfl (aQ0 (dv 2) (aQ0 (aQu (k:=false) (aQu (k:=false) (dv 3) aQ4) (dv 0)) aQ1))) (aXk rfl B.len (aQ0 (dv 1) aQ1))) aQ1))))))) aQv)
  (aQ2 (aX4 PassesOwn.never rfl (aZu rfl B.range (aQ0 (dv 2) aQ1)) (aQt (i:=9) sc_law_names.nd rfl (Or.inl rfl)) (aQ2 (aQ7 (i:=10) sc_law_names.nd rfl (Or.inl rfl) (e_ix (dv 4) (aQz (aQa d_law_number hr rfl (aQ0 (dv 0) (aQ0 (aQu (k:=false) (aQu (k:=false) (dv 1) aQ4) (aJo (dv 9) (aQz (aJ0 (dv 5) aQ4) aQ4))) aQ1))) aQ4)))
  (aQ5 (aJs (bZ9 (dv 7) (aQ0 (aQu (k:=false) (aQu (k:=false) (e_sl (b:=false) (dv 10) aXc (aXd (dv 6))) (e_ix (dv 3) (aQz (aQu (k:=false) (dv 5) (aJo aQ4 (dv 9))) aQ4))) (e_sl (b:=false) (dv 10) (aXd (dv 6)) aXc)) aQ1))))))
  (aQ5 (aQm (dv 7))))))))))),?_⟩
 ·rintro ds S Q ⟨ns,start,many,rfl,_⟩;rfl
 ·rintro ds S Q ⟨ns,start,many,rfl,h63,s0,s1,m12,q⟩;refine⟨aQg (by show 8<=9999;decide),ns,start,rfl,h63,s0,by lia,fun first f0 f1=>⟨⟨by decide,by decide⟩,by show(0:Int) < 8;decide,?_⟩⟩
  have ha:=md (a:=first / 26) (b:=8) (by decide)
  obtain⟨p,hp⟩:∃ p:Nat,first / 26 % 8=p:=⟨(first / 26 % 8).toNat,by lia⟩
  have p8:p < 8:=by lia
  show aZ6 6 (.int (first / 26 % 8)) _ _ _;rw[hp];refine⟨aQg (by decide),fun fp hfp=>⟨aQg (by show 13<=9999;decide),fun mp hmp=>?_⟩⟩
  have hmf:mp≠fp:=by rintro rfl;rw[supd_same] at hmp;cases hmp
  have hS0:S mp=none:=by rw[aQ9 hmf] at hmp;exact hmp
  refine⟨⟨by decide,by decide⟩,by show(0:Int) < 4;decide,rfl,_,rfl,ite2 (fun _=>?_) fun _=>?_⟩
  ·refine⟨⟨by lia,by lia⟩,?_⟩
   rw[Int.toNat_natCast];refine fX6 h63 s0 s1 (xs:=menuA.map D.str) supd_same (by show many<=13;lia) (by show 13<=999;decide) fun vs us S' pm hvl hl off'=>?_
   obtain⟨as,bs,rfl,rfl,pn⟩:=cJe (f:=D.str) dStr' (fun _=>rfl) pm;rw[List.length_map] at hvl;refine bZ7 (S':=S) (fun b o e=>?_) (q as (List.nodup_append.mp (pn.nodup_iff.mpr dZ5)).1 hvl fun n hn=>cJg n (pn.mem_iff.mp (List.mem_append_left _ hn)));rw[off' b (by rintro rfl;rw[hS0] at e;cases e),aQ9 (by rintro rfl;rw[hS0] at e;cases e),aQ9 (by rintro rfl;rw[hfp] at e;cases e)];exact e
  ·have hf:supd (supd S fp (.lst [])) mp (.lst (menuA.map D.str)) fp=some (.lst []):=(aQ9 (Ne.symm hmf)).trans supd_same;refine⟨⟨by lia,by lia⟩,?_⟩
   rw[Int.toNat_natCast];refine for_ind (fun i Γ S'=>∃ (x9 x10:Option D) (found:List Str),Γ=[some (.lst (ns.map D.int)),some (.int start),some (.int many),some (.str lettersZ),some (.lst (wordsA.map D.str)),some (.int first),some (.int (p:Nat)),some (.ref fp),some (.ref mp),x9,x10]/\S' fp=some (.lst (found.map D.str))/\found.length=i/\(∀ (j:Nat) z,found[j]?=some z->∃ w∈wordsA,z=mkA p w (97 + ((first + 5 * (j:Int)) % 26).toNat))/\∀ b o,S b=some o->S' b=some o) ⟨none,none,[],rfl,hf,rfl,by simp,fun b o e=>by rw[aQ9 (by rintro rfl;rw[hS0] at e;cases e),aQ9 (by rintro rfl;rw[hfp] at e;cases e)];exact e⟩ ?_ ?_
   ·rintro i x Γ S' N hx ⟨x9,x10,found,rfl,hf,hl,hfw,hs⟩ hN;obtain⟨hi,rfl⟩:=cQ1 hx;have h2:=md (a:=first / 208) (b:=2) (by decide)
    have hmul:0<=(i:Int) * (first / 208 % 2)/\(i:Int) * (first / 208 % 2)<=12:=by
     have h:first / 208 % 2=0\/first / 208 % 2=1:=by lia
     rcases h with h | h <;> rw[h] <;> lia
    refine⟨trivial,⟨by decide,by decide⟩,by show(0:Int) < 2;decide,.inl ⟨by lia,by lia⟩,ns,_,rfl,h63,by lia,by lia,fun r r0 r1=>⟨by show(0:Int) < 8;decide,?_⟩⟩
    have h8:=md (a:=r) (b:=8) (by decide)
    obtain⟨hj,hat⟩:=cJ8 (xs:=wordsA) (i:=r % 8) h8.1 (by show r % 8 < 8;lia)
    have hw:wordsA[(r % 8).toNat]∈wordsA:=List.getElem_mem hj;generalize wordsA[(r % 8).toNat]=w at hat hw;have hat':atI (wordsA.map D.str) (r % 8)=some (.str w):=by rw[bJ4,hat];rfl
    obtain⟨c1,c2,c7⟩:=aZk p p8 w hw;have hb:(first + 5 * (i:Int)) % 26=((((first + 5 * (i:Int)) % 26).toNat:Nat):Int):=by lia
    have hlt:atI lettersZ.cps.toList ((first + 5 * (i:Int)) % 26)=some (97 + ((first + 5 * (i:Int)) % 26).toNat):=by
     rw[hb];exact cJd (by lia)
    refine⟨_,_,rfl,hat',⟨_,hf⟩,(p:Int),rfl,by lia,.inl ⟨by decide,by decide⟩,by show(0:Int) < 26;decide,by decide,_,hlt,aQg (by rw[c1];show _ + 1<=9999;lia),(p:Int),rfl,by lia,aQg (by rw[bJ6,c1,c2];show _ + 1 + _<=9999;lia),_,hf,aQg (by rw[List.length_map];lia),hN _ _ ⟨_,_,found++[mkA p w (97 + ((first + 5 * (i:Int)) % 26).toNat)],rfl,by rw[supd_same,List.map_append];rfl,by rw[List.length_append,hl];rfl,fun j z hz=>?_,fun b o e=>?_⟩⟩
    ·rcases Nat.lt_or_ge j found.length with h | h
     ·rw[List.getElem?_append_left h] at hz;exact hfw j z hz
     ·rw[List.getElem?_append_right h] at hz;have hj0:j - found.length=0:=by
       have:=(List.getElem?_eq_some_iff.mp hz).1
       simp at this;lia
      have:j=i:=by lia
      subst this;rw[hj0] at hz;cases hz;exact⟨w,hw,rfl⟩
    ·rw[aQ9 (by rintro rfl;rw[hfp] at e;cases e)];exact hs b o e
   ·rintro Γ S' ⟨x9,x10,found,rfl,hf,hl,hfw,hs⟩;rw[aXm] at hl;refine⟨trivial,dX0 (S':=S) hf hs hfp (q found ?_ hl fun n hn=>?_)⟩
    ·unfold List.Nodup;rw[List.pairwise_iff_getElem];intro i j hi hj hij e;obtain⟨w1,hw1,e1⟩:=hfw i _ (List.getElem?_eq_getElem hi);obtain⟨w2,hw2,e2⟩:=hfw j _ (List.getElem?_eq_getElem hj);rw[e1,e2] at e
     have:=eQx p8 hw1 hw2 e
     lia
    ·obtain⟨j,hj,e⟩:=List.getElem_of_mem hn;obtain⟨w1,hw1,e1⟩:=hfw j n (by rw[List.getElem?_eq_getElem hj,e])
     rw[e1,bJ7 p8 hw1]
     have:=(aZk p p8 w1 hw1).2.2
     lia
end
abbrev s_law_sets:Stmt:=top 16
theorem sc_law_sets:FnScope ["script", "start", "most", "head", "names", "kind", "core", "parts", "found", "k", "one", "other", "own", "at", "name", "bit", "pair", "petal"] ["script", "start", "most"] (aQ3 s_law_sets):=fsc
section
variable {P:Program} {w:World} {K:PySem.W.Frag} {mg:Str->Option Value} {base:Heap} {pt cc:Addr}
theorem bJ8 (T:Tx K mg "_law_sets" s_law_sets) (B:Bs mg) (d_law_number:Df P w K mg base 2 "_law_number" ["script", "k"] (spU K aZj)) (d_law_names:Df P w K mg base 2 "_law_names" ["script", "start", "many"] (spU K bXd)):Df P w K mg base 3 "_law_sets" ["script", "start", "most"] (spU K cQ7):=by
 refine aX2 T sc_law_sets (fun F=>F.binds fun _ _ _ _ _ _=>us3 fun _ _ _=>rfl) ?_ fun f cdv A outer s H E hr=>⟨_,(aQ2 (aQ7 (i:=3) sc_law_sets.nd rfl (Or.inl rfl) (aQa d_law_number hr rfl (aQ0 (dv 0) (aQ0 (dv 1) aQ1))))
  (aQ2 (aQ7 (i:=4) sc_law_sets.nd rfl (Or.inl rfl) (aQa d_law_names hr rfl (aQ0 (dv 0) (aQ0 (aQu (k:=false) (dv 1) aQ4) (aQ0 (aQu (k:=false) aQ4 (aQz (dv 3) aQ4)) aQ1)))))
  (aQ2 (aQ7 (i:=5) sc_law_sets.nd rfl (Or.inl rfl) (aQz (aJ0 (dv 3) aQ4) aQ4))
  (aQ2 (aQ7 (i:=6) sc_law_sets.nd rfl (Or.inl rfl) (bJv (aQz (aQa d_law_number hr rfl (aQ0 (dv 0) (aQ0 (aQu (k:=false) (dv 1) aQ4) aQ1))) aQ4) (aQa d_law_number hr rfl (aQ0 (dv 0) (aQ0 (aQu (k:=false) (dv 1) aQ4) aQ1)))))
  (aQ2 (aQ7 (i:=7) sc_law_sets.nd rfl (Or.inl rfl) (aQu (k:=false) aQ4 (aQz (aQa d_law_number hr rfl (aQ0 (dv 0) (aQ0 (aQu (k:=false) (dv 1) aQ4) aQ1))) aQ4)))
  (aQ2 (aQ7 (i:=8) sc_law_sets.nd rfl (Or.inl rfl) (aZ3 (b:=true) aQ1))
  (aQ2 (aX4 PassesOwn.never rfl (aZu rfl B.range (aQ0 (aQz (aJ0 (dv 3) aQ4) (aQu (k:=false) (dv 2) aQ4)) aQ1)) (aQt (i:=9) sc_law_sets.nd rfl (Or.inl rfl)) (aQ2 (aQ7 (i:=10) sc_law_sets.nd rfl (Or.inl rfl) (aQa d_law_number hr rfl (aQ0 (dv 0) (aQ0 (aQu (k:=false) (aQu (k:=false) (dv 1) aQ4) (dv 9)) aQ1))))
  (aQ2 (aQ7 (i:=11) sc_law_sets.nd rfl (Or.inl rfl) (aQa d_law_number hr rfl (aQ0 (dv 0) (aQ0 (aQu (k:=false) (aQu (k:=false) (dv 1) aQ4) (dv 9)) aQ1))))
  (aQ2 (aQ7 (i:=12) sc_law_sets.nd rfl (Or.inl rfl) (aZ3 (b:=true) aQ1))
  (aQ2 (aX4 PassesOwn.never rfl (eJx rfl B.enumerate (aQ0 (dv 4) aQ1)) (bX8 rfl (aQy (aQt (i:=13) sc_law_sets.nd rfl (Or.inl rfl)) (aQy (aQt (i:=14) sc_law_sets.nd rfl (Or.inl rfl)) aJr))) (aQ2 (aQ7 (i:=15) sc_law_sets.nd rfl (Or.inl rfl) (bJv (dJx (dv 10) (dv 13)) aQ4))
  (aJu (aQ7 (i:=16) sc_law_sets.nd rfl (Or.inl rfl) (bJy rfl B.int (aQ0 (e_in hr (dv 13) (aJp (aQ0 (aQz (dv 10) (aXk rfl B.len (aQ0 (dv 4) aQ1))) (aQ0 (aQz (dv 11) (aXk rfl B.len (aQ0 (dv 4) aQ1))) aQ1)))) aQ1)))
  (aJu (aQ7 (i:=17) sc_law_sets.nd rfl (Or.inl rfl) (bJy rfl B.int (aQ0 (e_or (e_eq hr (bJv (dJx (dv 6) (dv 13)) aQ4) aQ4) (e_or (e_eq hr (aQz (dv 13) (dv 7)) (aQz (dv 9) (dv 7))) (eJi (fZr (e_eq hr (aQz (dv 10) aQ4) aQ4) (eJi (e_eq hr (dv 13) (aQz (dv 11) (aXk rfl B.len (aQ0 (dv 4) aQ1))))))))) aQ1)))
  (aQ5 (aXl (bXz hr (e_ix (aZ3 (b:=false) (aQ0 (dv 15) (aQ0 (aJo (dv 15) (bJv (dJx (dv 11) (dv 13)) aQ4)) (aQ0 (dv 16) (aQ0 (dv 17) (aQ0 (dv 17) (aQ0 (bJy rfl B.int (aQ0 (e_le hr (dv 13) (aQz (dv 10) aQ4)) aQ1)) aQ1))))))) (dv 5)) aQ4) (aQ5 (aJs (bZ9 (dv 12) (aQ0 (dv 14) aQ1)))) aQv))))))
  (aQ5 (aJs (bZ9 (dv 8) (aQ0 (aXb rfl B.tuple (aQ0 (dQw (b:=false) hr rfl B.sorted (aQ0 (e_sl (b:=false) (dv 12) aXc (aXd aQ4)) aQ1)) aQ1)) aQ1)))))))))
  (aQ5 (aQm (aXb rfl B.tuple (aQ0 (aJv (b:=false) hr rfl B.sorted rfl B.set (dv 8)) aQ1))))))))))),?_⟩
 ·rintro ds S Q ⟨ns,start,most,rfl,_⟩;rfl
 ·rintro ds S Q ⟨ns,start,most,rfl,h63,s0,s1,m14,q⟩;refine⟨ns,start,rfl,h63,s0,by lia,fun head h0 h1=>?_⟩
  have hm12:=md (a:=head) (b:=12) (by decide)
  obtain⟨mn,hmn⟩:∃ mn:Nat,1 + head % 12=mn:=⟨(1 + head % 12).toNat,by lia⟩
  refine⟨by show(0:Int) < 12;decide,ns,start + 1,mn,congrArg (fun z:Int=>[D.lst (ns.map D.int),.int (start + 1),.int z]) hmn,h63,by lia,by lia,by lia,fun names nd nl nle=>?_⟩
  refine⟨⟨by decide,by decide⟩,by show(0:Int) < 6;decide,ns,_,rfl,h63,by lia,by lia,fun c1 c10 c11=>⟨by show(0:Int) < 4096;decide,ns,_,rfl,h63,by lia,by lia,fun c2 c20 c21=>?_⟩⟩
  refine⟨ns,_,rfl,h63,by lia,by lia,fun p1 p10 p11=>⟨by show(0:Int) < 9;decide,aQg (by decide),fun fp hfp=>⟨⟨by decide,by decide⟩,by show(0:Int) < (most:Int) + 1;lia,?_⟩⟩⟩
  have hkb:=md (a:=head / 72) (b:=(most:Int) + 1) (by lia)
  have hpb:=md (a:=p1) (b:=9) (by decide)
  have hcore:0<=Builtin.bitAnd (c1 % 4096) c2:=eQv (md (by decide)).1 c20
  have hlen:((names.map D.str).length:Int)=(mn:Int):=by rw[List.length_map,nl]
  have hlp:(0:Int) < ((names.map D.str).length:Int):=by lia
  refine⟨⟨by lia,by lia⟩,?_⟩
  refine for_ind (fun i Γ S'=>∃ (x9 x10 x11 x12 x13 x14 x15 x16 x17:Option D) (ts:List (List Str)),Γ=[some (.lst (ns.map D.int)),some (.int start),some (.int most),some (.int head),some (.lst (names.map D.str)),some (.int (head / 12 % 6)),some (.int (Builtin.bitAnd (c1 % 4096) c2)),some (.int (2 + p1 % 9)),some (.ref fp),x9,x10,x11,x12,x13,x14,x15,x16,x17]/\S' fp=some (.lst (ts.map tupS))/\ts.length=i/\(∀ t∈ts,Srt t/\t.length<=6/\∀ x∈t,x∈names)/\∀ b o,S b=some o->S' b=some o) ⟨none,none,none,none,none,none,none,none,none,[],rfl,supd_same,rfl,by simp,fun b o e=>by rw[aQ9 (by rintro rfl;rw[hfp] at e;cases e)];exact e⟩ ?_ ?_
  ·rintro i x Γ S' N hx ⟨x9,x10,x11,x12,x13,x14,x15,x16,x17,ts,rfl,hf,tl,hts,hs⟩ hN;obtain⟨hi,rfl⟩:=cQ1 hx;have hi14:i < 15:=by lia
   refine⟨trivial,ns,_,rfl,h63,by lia,by lia,fun one o0 o1=>⟨ns,_,rfl,h63,by lia,by lia,fun other t0 t1=>⟨aQg (by decide),fun op hop=>?_⟩⟩⟩
   have hfo:fp≠op:=by rintro rfl;rw[hf] at hop;cases hop
   refine for_ind (fun j Γ S2=>∃ (x13 x14 x15 x16 x17:Option D) (own:List Str),Γ=[some (.lst (ns.map D.int)),some (.int start),some (.int most),some (.int head),some (.lst (names.map D.str)),some (.int (head / 12 % 6)),some (.int (Builtin.bitAnd (c1 % 4096) c2)),some (.int (2 + p1 % 9)),some (.ref fp),some (.int (i:Nat)),some (.int one),some (.int other),some (.ref op),x13,x14,x15,x16,x17]/\S2 op=some (.lst (own.map D.str))/\own.Sublist (names.take j)/\S2 fp=some (.lst (ts.map tupS))/\∀ b o,S b=some o->S2 b=some o) ⟨_,_,_,_,_,[],rfl,supd_same,by simp,(aQ9 hfo).trans hf,fun b o e=>by rw[aQ9 (by rintro rfl;rw[hs _ _ e] at hop;cases hop)];exact hs b o e⟩ ?_ ?_
   ·rintro j x Γ S2 N2 hx2 ⟨x13,x14,x15,x16,x17,own,rfl,ho,hsub,hf2,hs2⟩ hN2;obtain⟨y,hy,rfl⟩:=aZ8 _ _ _ _ hx2;rw[List.getElem?_map,Option.map_eq_some_iff] at hy;obtain⟨nm,hnm,rfl⟩:=hy;rw[Int.zero_add];have hj:j < names.length:=(List.getElem?_eq_some_iff.mp hnm).1;have hbit:=fQl o0 j;refine⟨trivial,rfl,rfl,by show(0:Int)<=(j:Int);lia,?_⟩
    refine⟨fun Γ' S3=>∃ pr:Int,Γ'=[some (.lst (ns.map D.int)),some (.int start),some (.int most),some (.int head),some (.lst (names.map D.str)),some (.int (head / 12 % 6)),some (.int (Builtin.bitAnd (c1 % 4096) c2)),some (.int (2 + p1 % 9)),some (.ref fp),some (.int (i:Nat)),some (.int one),some (.int other),some (.ref op),some (.int (j:Nat)),some (.str nm),some (.int (Builtin.bitAnd (one / 2 ^ ((j:Nat):Int).toNat) 1)),some (.int pr),x17]/\S3=S2,?_,?_⟩
    ·exact⟨_,rfl,hlp,_,rfl,hlp,aQg (by show 2<=9999;decide),_,rfl,rfl,rfl,_,rfl,rfl⟩
    rintro Γ' S3 ⟨pr,rfl,rfl⟩;refine⟨fun Γ' S4=>∃ pt:Int,Γ'=[some (.lst (ns.map D.int)),some (.int start),some (.int most),some (.int head),some (.lst (names.map D.str)),some (.int (head / 12 % 6)),some (.int (Builtin.bitAnd (c1 % 4096) c2)),some (.int (2 + p1 % 9)),some (.ref fp),some (.int (i:Nat)),some (.int one),some (.int other),some (.ref op),some (.int (j:Nat)),some (.str nm),some (.int (Builtin.bitAnd (one / 2 ^ ((j:Nat):Int).toNat) 1)),some (.int pr),some (.int pt)]/\S4=S3,?_,?_⟩
    ·have hp0:(0:Int) < 2 + p1 % 9:=by lia
     refine⟨by show(0:Int)<=(j:Int);lia,rfl,_,rfl,ite2 (fun _=>⟨_,rfl,rfl⟩) fun _=>⟨hp0,hp0,rfl,_,rfl,ite2 (fun _=>⟨_,rfl,rfl⟩) fun _=>?_⟩⟩
     exact⟨by show(0:Int) < 5;decide,rfl,_,rfl,ite2 (fun _=>⟨_,rfl,hlp,rfl,_,rfl,rfl⟩) fun _=>⟨_,rfl,rfl⟩⟩
    rintro Γ' S4 ⟨pt,rfl,rfl⟩;have hkd:=md (a:=head / 12) (b:=6) (by decide)
    refine⟨by show(0:Int)<=(j:Int);lia,.inl ⟨by lia,by lia⟩,by show(0:Int) < 7;decide,aQg (by show 6<=9999;decide),?_⟩
    obtain⟨hz,hat⟩:=cJ8 (xs:=[Builtin.bitAnd (one / 2 ^ ((j:Nat):Int).toNat) 1,Builtin.bitAnd (one / 2 ^ ((j:Nat):Int).toNat) 1 * Builtin.bitAnd (other / 2 ^ ((j:Nat):Int).toNat) 1,pr,pt,pt,if decide ((j:Int)<=one % 7)=true then 1 else 0]) (i:=head / 12 % 6) hkd.1 (by show head / 12 % 6 < 6;lia)
    have hat':=(bJ4 D.int [Builtin.bitAnd (one / 2 ^ ((j:Nat):Int).toNat) 1,Builtin.bitAnd (one / 2 ^ ((j:Nat):Int).toNat) 1 * Builtin.bitAnd (other / 2 ^ ((j:Nat):Int).toNat) 1,pr,pt,pt,if decide ((j:Int)<=one % 7)=true then 1 else 0] (head / 12 % 6)).trans (congrArg (Option.map D.int) hat)
    have ol:own.length<=12:=Nat.le_trans hsub.length_le (by rw[List.length_take];lia)
    have et:names.take (j + 1)=names.take j++[nm]:=by rw[List.take_add_one,hnm];rfl
    refine⟨_,_,rfl,hat',rfl,_,rfl,ite2 (fun _=>?_) fun _=>hN2 _ _ ⟨_,_,_,_,_,own,rfl,ho,hsub.trans (by rw[et];exact List.sublist_append_left _ _),hf2,hs2⟩⟩
    refine⟨⟨_,ho⟩,_,ho,aQg (by rw[List.length_map];lia),hN2 _ _ ⟨_,_,_,_,_,own++[nm],rfl,by rw[supd_same,List.map_append];rfl,by rw[et];exact hsub.append (List.Sublist.refl _),(aQ9 hfo).trans hf2,fun b o e=>?_⟩⟩
    rw[aQ9 (by rintro rfl;rw[hs _ _ e] at hop;cases hop)];exact hs2 b o e
   ·rintro Γ S2 ⟨x13,x14,x15,x16,x17,own,rfl,ho,hsub,hf2,hs2⟩;have hsub':own.Sublist names:=hsub.trans (List.take_sublist _ _);have ecut:cutD (own.map D.str) none (some 6)=(own.take 6).map D.str:=by
     rw[bZb]
     have:HT.sIx own.length own.length (some (6:Int))=min 6 own.length:=HT.sIx_nat own.length own.length 6
     rw[this,HT.sIx_none,Nat.sub_zero,List.drop_zero]
     congr 1
     rcases Nat.le_total 6 own.length with z | z
     ·rw[Nat.min_eq_left z]
     ·rw[Nat.min_eq_right z,List.take_length,List.take_of_length_le z]
    have tnd:(own.take 6).Nodup:=nd.sublist ((List.take_sublist _ _).trans hsub');refine⟨trivial,⟨_,hf2⟩,6,rfl,_,ho,?_⟩;rw[ecut];refine .inl ⟨own.take 6,rfl,_,rfl,_,hf2,aQg (by rw[List.length_map];lia),hN _ _ ⟨_,_,_,_,_,_,_,_,_,ts++[srS (own.take 6)],rfl,by rw[supd_same,List.map_append];rfl,by rw[List.length_append,tl];rfl,fun t ht=>?_,fun b o e=>?_⟩⟩
    ·rcases List.mem_append.mp ht with h | h
     ·exact hts t h
     ·rw[List.mem_singleton.mp h];exact⟨cJf tnd,by rw[(aJ8 _).length_eq,List.length_take];lia,fun x hx=>hsub'.subset (List.mem_of_mem_take (mem_srS.mp hx))⟩
    ·rw[aQ9 (by rintro rfl;rw[hfp] at e;cases e)];exact hs2 b o e
  ·rintro Γ S' ⟨x9,x10,x11,x12,x13,x14,x15,x16,x17,ts,rfl,hf,tl,hts,hs⟩;rw[aXm] at tl;refine⟨trivial,ts,hf,by lia,fun out ond omem opw=>⟨_,rfl,bZ7 hs (q out ?_)⟩⟩
   have ol:=ond.length_le_of_subset fun t ht=>(omem t).mp ht;have osi:∀ t∈out,Srt t/\t.length<=6/\∀ x∈t,x∈names:=fun t ht=>hts t ((omem t).mp ht);have onm:∀ x∈L2.nms out,x∈names:=fun x hx=>by
    obtain⟨t,ht,hxt⟩:=mem_nms.mp hx;exact(osi t ht).2.2 x hxt
   exact { srt:=opw,each:=fun t ht=>⟨(osi t ht).1,(osi t ht).2.1⟩,len:=by lia,nms:=Nat.le_trans ((eQs _).nodup.length_le_of_subset onm) (by lia),ne:=fun x hx=>dZ4 (nle x (onm x hx)).1 }
end
abbrev s_has_all:Stmt:=top 1
theorem sc_has_all:FnScope ["one", "row"] ["one", "row"] (aQ3 s_has_all):=fsc
section
variable {P:Program} {w:World} {K:PySem.W.Frag} {mg:Str->Option Value} {base:Heap} {pt cc:Addr}
theorem cZ3 (T:Tx K mg "has_all" s_has_all) (B:Bs mg):Df P w K mg base 1 "has_all" ["one", "row"] (spU K bQm):=by
 refine aX2 T sc_has_all (fun F=>F.binds fun _ _ _ _ _ _=>us2 fun _ _=>rfl) ?_ fun f cdv A outer s H E hr=>⟨_,(aQ5 (aQm (fZv rfl B.all (aQ0 (aZ0 (N':=["name", "one"]) (oc:=none) (b:=false) [0] [] rfl sc_has_all.nd (fun _ _ _=>aQd _ _ _ _ _ _ _ _ _) (.own (.cap (i:=0) rfl (by decide +kernel) .nil)) (aQh rfl) (aZ7 (dv 1)) (cg_name (i:=0)) (fun _ _ _ _ _=>aQe (i:=0) (nd_ ["name", "one"]) rfl (Or.inl rfl) (.inr rfl)) (fun _ _ _ _ _=>aZm) aQl (fun _ _ _ _ _ _=>aQk rfl (by exact PD.o (e_in hr (dv 0) (dv 1))))) aQ1)))),?_⟩
 ·rintro ds S Q ⟨α,dα,E,one,row,d1,d2,rfl,_⟩;rfl
 ·rintro ds S Q ⟨α,dα,E,one,row,d1,d2,rfl,hE,h1,h2,hl,q⟩;have go:∀ Q':List D->Sto->Prop,Q' (row.map fun d=>D.bl (decide (d∈one))) S->aZe (aZ6 0) dYes (bZ5 (dOp (inD false) (dVar 0) (dVar 1))) (fun _=>True) [none,some d1] (row.map E.e) [] S Q':=fun Q' q' =>
   aZn (f:=fun d=>D.bl (decide (d∈one))) (fun d hd Q q=>in_e (neg:=false) (E:=E) (by lia) h1.sq q) (aQg (by show 0 + row.length<=_;lia)) q'
  have e:(row.map fun d=>decide (d∈one)).all id=has one row:=by unfold has;rw[List.all_map];rfl
  rw[<- e] at q;rcases h2 with rfl | rfl
  ·exact⟨row.map E.e,rfl,go _ ⟨row.map fun d=>decide (d∈one),by show _=_;rw[List.map_map];rfl,aQf q⟩⟩
  ·exact⟨row.map E.e,rfl,go _ ⟨row.map fun d=>decide (d∈one),by show _=_;rw[List.map_map];rfl,aQf q⟩⟩
end
end Toy
set_option maxHeartbeats 4000000
namespace L2
open PySem
theorem cQ8 (xs:List D) (i:Nat):cutD xs (some ((i:Int) + 1)) none=xs.drop (i + 1):=by
 rcases Nat.lt_or_ge i xs.length with h | h
 ·have e:cutD xs (some ((i:Int) + 1)) none=cutD (xs.map id) (some (((i + 1:Nat):Int))) none:=by rw[List.map_id];rfl
  rw[e,bZb,HT.sIx_none,HT.sIx_nat,Nat.min_eq_left (by lia),List.take_of_length_le (by rw[List.length_drop];exact Nat.le_refl _),List.map_id]
 ·have e:cutD xs (some ((i:Int) + 1)) none=cutD (xs.map id) (some (((i + 1:Nat):Int))) none:=by rw[List.map_id];rfl
  rw[e,bZb,HT.sIx_none,HT.sIx_nat,List.drop_eq_nil_of_le (by lia),List.drop_eq_nil_of_le (by lia),List.take_nil]
  rfl
end L2
namespace Toy
open PySem L2
def dZ6 (n:Nat):SpD:=fun ds S Q=>∃ (xs:List D) (m:Nat),ds=[.tup xs,.int m]/\m < n/\xs.length<=20/\Q (.lst ((ch xs m).map D.tup)) S
end Toy
namespace L2
open PySem
open Toy (ch aQi aQp ch_mem aZw)
theorem cJh {α:Type} [DecidableEq α] {lt:α->α->Bool} (irr:∀ a,lt a a=false):∀ {N:List α} (k:Nat),N.Pairwise (fun a b=>lt a b=true)->(ch N k).Pairwise fun a b=>lexG lt a b=true
 | N,0,_=>by rw[aQp];exact List.pairwise_singleton _ _
 | [],k + 1,_=>List.Pairwise.nil
 | a::N,k + 1,hN=>by
  have hN':=List.pairwise_cons.mp hN;rw[aQi];refine List.pairwise_append.mpr ⟨?_,cJh irr (k + 1) hN'.2,?_⟩
  ·rw[List.pairwise_map];refine(cJh irr k hN'.2).imp fun {x y} h=>?_;show(if a=a then lexG lt x y else lt a a)=true
   rw[if_pos rfl];exact h
  ·intro x hx y hy;obtain⟨r,hr,rfl⟩:=List.mem_map.mp hx;obtain⟨h1,h2⟩:=ch_mem hy;cases y with
   | nil=>simp at h1
   | cons b y =>
    have hb:b∈N:=h2.subset List.mem_cons_self;have hab:=hN'.1 b hb;show(if a=b then lexG lt r y else lt a b)=true
    rw[if_neg (by rintro rfl;rw[irr] at hab;cases hab)]
    exact hab
end L2
namespace Toy
open PySem L2
end Toy
set_option maxHeartbeats 1000000
namespace Toy
open PySem L2
abbrev s_choices_of:Stmt:=top 5
theorem sc_choices_of:FnScope ["things", "many", "found", "at", "one"] ["things", "many"] (aQ3 s_choices_of):=fsc
def aZo:SpD:=dZ6 8
section
variable {P:Program} {w:World} {K:PySem.W.Frag} {mg:Str->Option Value} {base:Heap} {pt cc:Addr}
theorem eQy {k n:Nat} (T:Tx K mg "choices_of" s_choices_of) (B:Bs mg) (d_choices_of:Df P w K mg base k "choices_of" ["things", "many"] (spU K (dZ6 n))):Df P w K mg base (k + 1) "choices_of" ["things", "many"] (spU K (dZ6 (n + 1))):=by
 refine aX2 T sc_choices_of (fun F=>F.binds fun _ _ _ _ _ _=>us2 fun _ _=>rfl) ?_ fun f cdv A outer s H E hr=>⟨_,(aQ2 (aXl (bXz hr (dv 1) aQ4) (aQ5 (aQm (aZ3 (b:=false) (aQ0 (aJp aQ1) aQ1)))) aQv)
  (aQ2 (aXl (bX6 (eQl aQ4 (dv 1) (aXk rfl B.len (aQ0 (dv 0) aQ1)))) (aQ5 (aQm (aZ3 (b:=false) aQ1))) aQv)
  (aQ2 (aQ7 (i:=2) sc_choices_of.nd rfl (Or.inl rfl) (aZ3 (b:=true) aQ1))
  (aQ2 (aX4 PassesOwn.never rfl (cXr rfl B.enumerate (aQ0 (dv 0) aQ1)) (bX8 rfl (aQy (aQt (i:=3) sc_choices_of.nd rfl (Or.inl rfl)) (aQy (aQt (i:=4) sc_choices_of.nd rfl (Or.inr rfl)) aJr))) (aQ5 (aJs (cQ2 (dv 2) (aQ0 (aZ0 (N':=["more", "one"]) (oc:=none) (b:=true) [0] [] rfl sc_choices_of.nd (fun _ _ _=>aQd _ _ _ _ _ _ _ _ _) (.own (.cap (i:=4) rfl (by decide +kernel) .nil)) (aQh rfl) (aZ7 (aQa d_choices_of hr rfl (aQ0 (e_sl (b:=false) (dv 0) (aXd (aQu (k:=false) (dv 3) aQ4)) aXc) (aQ0 (cZ0 (dv 1) aQ4) aQ1)))) (cg_name (i:=0)) (fun _ _ _ _ _=>aQe (i:=0) (nd_ ["more", "one"]) rfl (Or.inl rfl) (.inr rfl)) (fun _ _ _ _ _=>aZm) aQl (fun _ _ _ _ _ _=>aQk rfl (by exact PD.o (aQu (k:=false) (aJp (aQ0 (dv 1) aQ1)) (dv 0))))) aQ1)))))
  (aQ5 (aQm (dv 2))))))),?_⟩
 ·rintro ds S Q ⟨xs,m,rfl,_⟩;rfl
 ·rintro ds S Q ⟨xs,m,rfl,hm,hx,q⟩;refine⟨rfl,_,rfl,ite2 (fun c1=>?_) fun c1=>?_⟩
  ·have e:m=0:=by
    have:=of_decide_eq_true c1
    injection this with this
    lia
   subst e;rw[aQp] at q;exact⟨aQg (by decide),aQg (by show 1<=9999;decide),aQf q⟩
  have m0:m≠0:=fun e=>c1 (decide_eq_true (by rw[e];rfl))
  refine⟨_,rfl,ite2 (fun _=>?_) fun c=>absurd (decide_eq_true (by lia)) c⟩
  refine⟨_,rfl,_,rfl,ite2 (fun c2=>?_) fun c2=>?_⟩
  ·have hb:xs.length < m:=by simp at c2;lia
   rw[ch_big xs m hb] at q;exact⟨aQg (by decide),aQf q⟩
  have hb:m<=xs.length:=by simp at c2;lia
  obtain⟨c,rfl⟩:∃ c,m=c + 1:=⟨m - 1,by lia⟩
  refine⟨aQg (by decide),fun fp hfp=>?_⟩
  have hcl:∀ m,(ch xs m).length<=2 ^ 20:=fun m=>Nat.le_trans (bXc xs m) (Nat.pow_le_pow_right (by decide) hx)
  refine for_ind (fun i Γ S'=>∃ (x3 x4:Option D) (acc:List (List D)),Γ=[some (.tup xs),some (.int ((c + 1:Nat):Int)),some (.ref fp),x3,x4]/\S' fp=some (.lst (acc.map D.tup))/\acc++ch (xs.drop i) (c + 1)=ch xs (c + 1)/\∀ b o,S b=some o->S' b=some o)
   ⟨none,none,[],rfl,supd_same,rfl,fun b o e=>by rw[aQ9 (by rintro rfl;rw[hfp] at e;cases e)];exact e⟩ ?_ ?_
  ·rintro i x Γ S' N hxi ⟨x3,x4,acc,rfl,hf,hacc,hs⟩ hN;obtain⟨y,hy,rfl⟩:=aZ8 xs 0 i x hxi;have hi:i < xs.length:=by
    rcases Nat.lt_or_ge i xs.length with z | z
    ·exact z
    ·rw[List.getElem?_eq_none z] at hy;cases hy
   have hyi:xs[i]=y:=by rw[List.getElem?_eq_getElem hi] at hy;exact Option.some.inj hy
   have hd:=eQr xs i c hi;rw[hyi] at hd;have hlen:acc.length + (ch (xs.drop (i + 1)) c).length<=2 ^ 20:=by
    have h1:=congrArg List.length hacc;rw[hd,List.length_append,List.length_append,List.length_map] at h1
    have:=hcl (c + 1)
    lia
   refine⟨trivial,rfl,rfl,⟨_,hf⟩,_,rfl,xs.drop (i + 1),c,?_,by lia,by rw[List.length_drop];lia,_,rfl,aZn (enc:=D.tup) (f:=fun more=>D.tup (y::more)) (fun more hm Q q=>?_) ?_ ?_⟩
   ·show [D.tup (cutD xs (some (0 + (i:Int) + 1)) none),D.int (((c + 1:Nat):Int) - 1)]=_;rw[Int.zero_add,cQ8,show((c + 1:Nat):Int) - 1=(c:Int) by lia]
   ·have h1:=(ch_mem hm).1;exact⟨aQg (by show 1<=9999;decide),aQg (by show 1 + more.length<=9999;lia),q⟩
   ·rw[sizeLine_eq];show 0 + (ch (xs.drop (i + 1)) c).length<=_;lia
   ·intro p2 hp2;have hne:p2≠fp:=by rintro rfl;rw[hp2] at hf;cases hf
    refine⟨_,_,(aQ9 (Ne.symm hne)).trans hf,supd_same,?_,hN _ _ ⟨_,_,acc++(ch (xs.drop (i + 1)) c).map (y::·),rfl,?_,?_,fun b o e=>?_⟩⟩
    ·rw[List.nil_append,List.length_map,List.length_map,sizeLine_eq];lia
    ·rw[supd_same,List.map_append,List.map_map];rfl
    ·rw[List.append_assoc,<- hd];exact hacc
    ·rw[aQ9 (by rintro rfl;rw[hfp] at e;cases e),aQ9 (by rintro rfl;rw[hs _ _ e] at hp2;cases hp2)]
     exact hs b o e
  ·rintro Γ S' ⟨x3,x4,acc,rfl,hf,hacc,hs⟩;rw[aZi,List.drop_eq_nil_of_le (Nat.le_refl _),dX4,List.append_nil] at hacc;refine⟨trivial,dX0 (S':=S) hf hs hfp (hacc ▸ q)⟩
theorem dX7 (T:Tx K mg "choices_of" s_choices_of) (B:Bs mg):∀ n:Nat,Df P w K mg base (1 + n) "choices_of" ["things", "many"] (spU K (dZ6 n))
 | 0=>T.df (fun F=>F.binds fun _ _ _ _ _ _=>us2 fun _ _=>rfl) fun F=>F.ok sc_choices_of (fun vs H Q E ⟨_,_,_,_,_,_,⟨_,_,_,h,_⟩,_⟩=>absurd h (Nat.not_lt_zero _)) fun cdv A outer s H vs Q E' hr ⟨_,_,_,_,_,_,⟨_,_,_,h,_⟩,_⟩=>absurd h (Nat.not_lt_zero _)
 | n + 1=>eQy T B (dX7 T B n)
theorem bZh (T:Tx K mg "choices_of" s_choices_of) (B:Bs mg):Df P w K mg base 9 "choices_of" ["things", "many"] (spU K aZo):=by
 exact dX7 T B 8
end
abbrev s_meet_of:Stmt:=top 3
theorem sc_meet_of:FnScope ["one", "other"] ["one", "other"] (aQ3 s_meet_of):=fsc
section
variable {P:Program} {w:World} {K:PySem.W.Frag} {mg:Str->Option Value} {base:Heap} {pt cc:Addr}
theorem cZ4 (T:Tx K mg "meet_of" s_meet_of) (B:Bs mg):Df P w K mg base 1 "meet_of" ["one", "other"] (spU K aXx):=by
 refine aX2 T sc_meet_of (fun F=>F.binds fun _ _ _ _ _ _=>us2 fun _ _=>rfl) ?_ fun f cdv A outer s H E hr=>⟨_,(aQ5 (aQm (aXb rfl B.tuple (aQ0 (aZ0 (N':=["name", "other"]) (oc:=none) (b:=false) [0] [] rfl sc_meet_of.nd (fun _ _ _=>aQd _ _ _ _ _ _ _ _ _) (.own (.cap (i:=1) rfl (by decide +kernel) .nil)) (aQh rfl) (aZ7 (dv 0)) (cg_name (i:=0)) (fun _ _ _ _ _=>aQe (i:=0) (nd_ ["name", "other"]) rfl (Or.inl rfl) (.inr rfl)) (fun _ _ _ _ _=>aQw (by exact(eQ5 hr (dv 0) (dv 1)))) aQl (fun _ _ _ _ _ _=>aQk rfl (by exact PD.o (dv 0)))) aQ1)))),?_⟩
 ·rintro ds S Q ⟨one,row,rfl,_⟩;rfl
 ·rintro ds S Q ⟨one,row,rfl,hl,q⟩;exact⟨one.map D.str,rfl,aQo (p:=fun n=>decide (n∈row)) (f:=D.str) (fun x hx Q q=>in_t (neg:=false) (E:=strE) (by decide) rfl q) (fun x hx _ Q q=>q) (aQg (by show 0 + one.length<=_;lia)) ⟨_,rfl,aQf q⟩⟩
end
abbrev s_without_names:Stmt:=top 4
theorem sc_without_names:FnScope ["one", "row"] ["one", "row"] (aQ3 s_without_names):=fsc
section
variable {P:Program} {w:World} {K:PySem.W.Frag} {mg:Str->Option Value} {base:Heap} {pt cc:Addr}
theorem aJ5 (T:Tx K mg "without_names" s_without_names) (B:Bs mg):Df P w K mg base 1 "without_names" ["one", "row"] (spU K aQs):=by
 refine aX2 T sc_without_names (fun F=>F.binds fun _ _ _ _ _ _=>us2 fun _ _=>rfl) ?_ fun f cdv A outer s H E hr=>⟨_,(aQ5 (aQm (aXb rfl B.tuple (aQ0 (aZ0 (N':=["name", "row"]) (oc:=none) (b:=false) [0] [] rfl sc_without_names.nd (fun _ _ _=>aQd _ _ _ _ _ _ _ _ _) (.own (.cap (i:=1) rfl (by decide +kernel) .nil)) (aQh rfl) (aZ7 (dv 0)) (cg_name (i:=0)) (fun _ _ _ _ _=>aQe (i:=0) (nd_ ["name", "row"]) rfl (Or.inl rfl) (.inr rfl)) (fun _ _ _ _ _=>aQw (by exact(bJx hr (dv 0) (dv 1)))) aQl (fun _ _ _ _ _ _=>aQk rfl (by exact PD.o (dv 0)))) aQ1)))),?_⟩
 ·rintro ds S Q ⟨α,dα,E,one,row,d1,d2,rfl,_⟩;rfl
 ·rintro ds S Q ⟨α,dα,E,one,row,d1,d2,rfl,hE,h1,h2,hl,q⟩;have go:∀ Q':List D->Sto->Prop,Q' ((wo one row).map E.e) S->aZe (aZ6 0) (aX1 (dOp (inD true) (dVar 0) (dVar 1))) (bZ5 (dVar 0)) (fun _=>True) [none,some d2] (one.map E.e) [] S Q':=fun Q' q' =>
   aQo (p:=fun n=>!decide (n∈row)) (f:=E.e) (fun x hx Q q=>in_t (neg:=true) (E:=E) (by lia) h2.sq q) (fun x hx _ Q q=>q) (aQg (by show 0 + one.length<=_;lia)) q'
  rcases h1 with rfl | rfl
  ·exact⟨one.map E.e,rfl,go _ ⟨_,rfl,aQf q⟩⟩
  ·exact⟨one.map E.e,rfl,go _ ⟨_,rfl,aQf q⟩⟩
end
abbrev s_meets:Stmt:=top 2
theorem sc_meets:FnScope ["one", "row"] ["one", "row"] (aQ3 s_meets):=fsc
section
variable {P:Program} {w:World} {K:PySem.W.Frag} {mg:Str->Option Value} {base:Heap} {pt cc:Addr}
theorem dZ7 (T:Tx K mg "meets" s_meets) (B:Bs mg):Df P w K mg base 1 "meets" ["one", "row"] (spU K aJ9):=by
 refine aX2 T sc_meets (fun F=>F.binds fun _ _ _ _ _ _=>us2 fun _ _=>rfl) ?_ fun f cdv A outer s H E hr=>⟨_,(aQ5 (aQm (fZw rfl B.any (aQ0 (aZ0 (N':=["name", "one"]) (oc:=none) (b:=false) [0] [] rfl sc_meets.nd (fun _ _ _=>aQd _ _ _ _ _ _ _ _ _) (.own (.cap (i:=0) rfl (by decide +kernel) .nil)) (aQh rfl) (aZ7 (dv 1)) (cg_name (i:=0)) (fun _ _ _ _ _=>aQe (i:=0) (nd_ ["name", "one"]) rfl (Or.inl rfl) (.inr rfl)) (fun _ _ _ _ _=>aZm) aQl (fun _ _ _ _ _ _=>aQk rfl (by exact PD.o (e_in hr (dv 0) (dv 1))))) aQ1)))),?_⟩
 ·rintro ds S Q ⟨α,dα,E,one,row,d1,d2,rfl,_⟩;rfl
 ·rintro ds S Q ⟨α,dα,E,one,row,d1,d2,rfl,hE,h1,h2,hl,q⟩;have go:∀ Q':List D->Sto->Prop,Q' (row.map fun d=>D.bl (decide (d∈one))) S->aZe (aZ6 0) dYes (bZ5 (dOp (inD false) (dVar 0) (dVar 1))) (fun _=>True) [none,some d1] (row.map E.e) [] S Q':=fun Q' q' =>
   aZn (f:=fun d=>D.bl (decide (d∈one))) (fun d hd Q q=>in_e (neg:=false) (E:=E) (by lia) h1.sq q) (aQg (by show 0 + row.length<=_;lia)) q'
  have e:(row.map fun d=>decide (d∈one)).any id=mts one row:=by unfold mts;rw[List.any_map];rfl
  rw[<- e] at q;rcases h2 with rfl | rfl
  ·exact⟨row.map E.e,rfl,go _ ⟨row.map fun d=>decide (d∈one),by show _=_;rw[List.map_map];rfl,aQf q⟩⟩
  ·exact⟨row.map E.e,rfl,go _ ⟨row.map fun d=>decide (d∈one),by show _=_;rw[List.map_map];rfl,aQf q⟩⟩
end
end Toy
namespace L2
open PySem
open Toy (ch aQp aQi ch_mem aZw)
section
variable {α:Type} [DecidableEq α]
def aZf (bs:List (List α)) (r:List α):Prop:=∀ b∈bs,¬ ∀ x∈b,x∈r
def frB (bs:List (List α)) (r:List α):Bool:=bs.all fun b=>!(b.all fun x=>decide (x∈r))
theorem frB_iff {bs:List (List α)} {r:List α}:frB bs r=true↔aZf bs r:=by
 unfold frB aZf;rw[List.all_eq_true];exact forall_congr' fun b=>forall_congr' fun _=>by simp
theorem aJz (p:α->Bool):∀ (ts:List α) (m:Nat),(ch ts m).filter (fun r=>r.all p)=ch (ts.filter p) m
 | ts,0=>by rw[aQp,aQp];rfl
 | [],m + 1=>rfl
 | x::ts,m + 1=>by
  rw[aQi,List.filter_append,aJz p ts (m + 1),List.filter_map,List.filter_cons];cases hx:p x with
  | true =>
   rw[if_pos rfl,aQi,<- aJz p ts m]
   congr 2
   refine List.filter_congr fun r _=>?_;show(p x && r.all p)=_;rw[hx,Bool.true_and]
  | false =>
   rw[if_neg (by simp)]
   have:(ch ts m).filter ((fun r=>r.all p) ∘ fun r=>x::r)=[]:=List.filter_eq_nil_iff.mpr fun r _=>by
    show ¬ (p x && r.all p)=true;rw[hx];simp
   rw[this];rfl
theorem cQ9:∀ ts:List α,ch ts ts.length=[ts]
 | []=>rfl
 | x::ts=>by
  rw[List.length_cons,aQi,cQ9 ts,Toy.ch_big ts (ts.length + 1) (Nat.lt_succ_self _)]
  rfl
structure MfS (ts:List α) (bs:List (List α)) (over:Int) (r:List α):Prop where
 sub:r.Sublist ts
 free:aZf bs r
 more:over < r.length
 most:∀ r',r'.Sublist ts->aZf bs r'->r'.length<=r.length
 fst:((ch ts r.length).filter (frB bs)).head?=some r
def MfN (ts:List α) (bs:List (List α)) (over:Int):Prop:=∀ r',r'.Sublist ts->aZf bs r'->(r'.length:Int)<=over
def MF (ts:List α) (bs:List (List α)) (over:Int):Option (List α)->Prop
 | none=>MfN ts bs over
 | some r=>MfS ts bs over r
theorem fQm {ts:List α} {bs:List (List α)} {over:Int} (h:(ts.length:Int)<=over):MF ts bs over none:=fun r' hr _=>by
 have:=hr.length_le
 lia
theorem fQn {ts:List α} {over:Int} (h:¬ (ts.length:Int)<=over):MF ts [] over (some ts):=⟨List.Sublist.refl _,fun b hb=>absurd hb (by simp),by lia,fun r' hr _=>hr.length_le,by rw[cQ9];rfl⟩
def shrt (bs:List (List α)) (x:α):List (List α):=bs.map fun b=>wo b [x]
def shut (bs:List (List α)) (x:α):List α:=(shrt bs x).filterMap fun s=>if s.length=1 then s.head? else none
def brd (bs:List (List α)) (x:α):List (List α):=(shrt bs x).filter fun s=>!mts s (shut bs x)
theorem mem_w1' {b:List α} {x y:α}:y∈wo b [x]↔y∈b/\y≠x:=by rw[mem_wo];simp
theorem free_cons {bs:List (List α)} {x:α} {r:List α}:aZf bs (x::r)↔aZf (shrt bs x) r\/False:=by
 unfold aZf shrt;simp only[or_false];constructor
 ·intro h s hs hsub;obtain⟨b,hb,rfl⟩:=List.mem_map.mp hs;refine h b hb fun y hy=>?_
  by_cases e:y=x
  ·rw[e];exact List.mem_cons_self
  ·exact List.mem_cons_of_mem _ (hsub y (mem_w1'.mpr ⟨hy,e⟩))
 ·intro h b hb hsub;refine h (wo b [x]) (List.mem_map.mpr ⟨b,hb,rfl⟩) fun y hy=>?_;obtain⟨h1,h2⟩:=mem_w1'.mp hy;exact(List.mem_cons.mp (hsub y h1)).resolve_left h2
theorem mem_shut {bs:List (List α)} {x y:α}:y∈shut bs x↔[y]∈shrt bs x:=by
 unfold shut;rw[List.mem_filterMap];constructor
 ·rintro⟨s,hs,h⟩
  split at h
  ·next hl =>
   match s,hl with
   | [z],_=>cases h;exact hs
  ·cases h
 ·intro h;exact⟨[y],h,by simp⟩
theorem free_brd {bs:List (List α)} {x:α} {r:List α}:aZf (shrt bs x) r↔(∀ y∈r,y∉shut bs x)/\aZf (brd bs x) r:=by
 constructor
 ·intro h;refine⟨fun y hy hs=>h [y] (mem_shut.mp hs) fun z hz=>by rw[List.mem_singleton.mp hz];exact hy,fun s hs=>h s (List.mem_filter.mp hs).1⟩
 ·rintro⟨h1,h2⟩ s hs hsub
  by_cases hm:mts s (shut bs x)=true
  ·obtain⟨y,hy,hys⟩:=mts_iff.mp hm;exact h1 y (hsub y hys) hy
  ·exact h2 s (List.mem_filter.mpr ⟨hs,by simpa using hm⟩) hsub
theorem eQz {x:α} {ts:List α} {bs:List (List α)} {over:Int} {m:Option (List α)} (h:MF (wo ts (shut bs x)) (brd bs x) (over - 1) m) :
  match m with
  | none=>∀ r,r.Sublist ts->aZf bs (x::r)->(r.length:Int) + 1<=over
  | some r0=>r0.Sublist ts/\aZf bs (x::r0)/\over < (r0.length:Int) + 1/\(∀ r,r.Sublist ts->aZf bs (x::r)->r.length<=r0.length)/\((ch ts r0.length).filter fun r=>frB bs (x::r)).head?=some r0:=by
 have same:∀ m,((ch ts m).filter fun r=>frB bs (x::r))=(ch (wo ts (shut bs x)) m).filter (frB (brd bs x)):=fun m=>by
  have e:wo ts (shut bs x)=ts.filter fun d=>!decide (d∈shut bs x):=rfl;rw[e,<- aJz,List.filter_filter];refine List.filter_congr fun r _=>?_;rw[Bool.eq_iff_iff,Bool.and_eq_true,frB_iff,frB_iff,List.all_eq_true];constructor
  ·intro h;have h1:=free_brd.mp ((free_cons.mp h).resolve_right id);exact⟨h1.2,fun y hy=>by simpa using h1.1 y hy⟩
  ·rintro⟨h1,h2⟩;exact free_cons.mpr (.inl (free_brd.mpr ⟨fun y hy=>by simpa using h2 y hy,h1⟩))
 have down:∀ {r:List α},r.Sublist ts->aZf bs (x::r)->r.Sublist (wo ts (shut bs x))/\aZf (brd bs x) r:=fun {r} hr hf=>by
  have h1:=free_brd.mp ((free_cons.mp hf).resolve_right id);refine⟨?_,h1.2⟩;have h2:=List.Sublist.filter (fun d=>!decide (d∈shut bs x)) hr;rwa [List.filter_eq_self.mpr fun y hy=>by simpa using h1.1 y hy] at h2
 cases m with
 | none =>
  intro r hr hf;obtain⟨h1,h2⟩:=down hr hf
  have:=h r h1 h2
  lia
 | some r0 =>
  have h':MfS (wo ts (shut bs x)) (brd bs x) (over - 1) r0:=h;refine⟨h'.sub.trans List.filter_sublist,free_cons.mpr (.inl (free_brd.mpr ⟨fun y hy=>(mem_wo.mp (h'.sub.subset hy)).2,h'.free⟩)),by have:=h'.more;lia,fun r hr hf=>?_,by rw[same];exact h'.fst⟩
  obtain⟨h1,h2⟩:=down hr hf;exact h'.most r h1 h2
theorem aZp {bs:List (List α)} {x:α} {r:List α} (hx:x∉r):aZf bs r↔aZf (bs.filter fun b=>!decide (x∈b)) r:=by
 constructor
 ·exact fun h b hb=>h b (List.mem_filter.mp hb).1
 ·intro h b hb hsub
  by_cases e:x∈b
  ·exact hx (hsub x e)
  ·exact h b (List.mem_filter.mpr ⟨hb,by simpa using e⟩) hsub
def ovr (over:Int):Option (List α)->Int
 | none=>over
 | some r=>(r.length:Int) + 1
theorem eZ0 {x:α} {ts:List α} {bs:List (List α)} {over:Int} {m o:Option (List α)} (nd:(x::ts).Nodup) (hm:MF (wo ts (shut bs x)) (brd bs x) (over - 1) m)
  (ho:MF ts (bs.filter fun b=>!decide (x∈b)) (ovr over m) o) :
  MF (x::ts) bs over (match o with | some r=>some r | none=>m.map (x::·)):=by
 have hx:x∉ts:=(List.nodup_cons.mp nd).1;have w:=eQz hm;have part:∀ {r:List α},r.Sublist (x::ts)->(∃ r0,r=x::r0/\r0.Sublist ts)\/(r.Sublist ts/\x∉r):=fun {r} h=>by
  rcases List.sublist_cons_iff.mp h with h1 | ⟨r0,rfl,h1⟩
  ·exact .inr ⟨h1,fun z=>hx (h1.subset z)⟩
  ·exact .inl ⟨r0,rfl,h1⟩
 have later:∀ {ov:Int} {r1:List α},MfS ts (bs.filter fun b=>!decide (x∈b)) ov r1->(∀ r0,r0.Sublist ts->aZf bs (x::r0)->r0.length + 1≠r1.length)->((ch (x::ts) r1.length).filter (frB bs)).head?=some r1:=fun {ov r1} h' hno=>by
  have f:=h'.fst;have e:(ch ts r1.length).filter (frB (bs.filter fun b=>!decide (x∈b)))=(ch ts r1.length).filter (frB bs):=List.filter_congr fun r hr=>by
   rw[Bool.eq_iff_iff,frB_iff,frB_iff];exact(aZp fun z=>hx ((ch_mem hr).2.subset z)).symm
  rw[e] at f;cases hn:r1.length with
  | zero=>rw[hn,aQp] at f;rw[aQp];exact f
  | succ n =>
   rw[hn] at f;rw[aQi,List.filter_append]
   have:((ch ts n).map (x::·)).filter (frB bs)=[]:=List.filter_eq_nil_iff.mpr fun r hr=>by
    obtain⟨r0,h0,rfl⟩:=List.mem_map.mp hr;intro z;obtain⟨l0,s0⟩:=ch_mem h0;exact hno r0 s0 (frB_iff.mp z) (by lia)
   rw[this];exact f
 cases m with
 | none =>
  cases o with
  | none =>
   intro r hr hf;rcases part hr with⟨r0,rfl,h1⟩ | ⟨h1,h2⟩
   ·have:=w r0 h1 hf
    rw[List.length_cons];lia
   ·exact ho r h1 ((aZp h2).mp hf)
  | some r1 =>
   have h':MfS ts (bs.filter fun b=>!decide (x∈b)) over r1:=ho;refine⟨h'.sub.cons _,(aZp fun z=>hx (h'.sub.subset z)).mpr h'.free,h'.more,fun r hr hf=>?_,later h' fun r0 h1 hf e=>by
    have:=w r0 h1 hf
    have:=h'.more
    lia⟩
   rcases part hr with⟨r0,rfl,h1⟩ | ⟨h1,h2⟩
   ·have:=w r0 h1 hf
    have:=h'.more
    rw[List.length_cons];lia
   ·exact h'.most r h1 ((aZp h2).mp hf)
 | some r0 =>
  obtain⟨w1,w2,w3,w4,w5⟩:=w;cases o with
  | none =>
   refine⟨w1.cons₂ x,w2,by rw[List.length_cons];lia,fun r hr hf=>?_,?_⟩
   rotate_left
   ·rw[List.length_cons,aQi,List.filter_append,List.filter_map];have e:((ch ts r0.length).filter (frB bs ∘ fun r=>x::r))=(ch ts r0.length).filter fun r=>frB bs (x::r):=rfl;rw[e,List.head?_append,List.head?_map,w5]
    rfl
   rcases part hr with⟨r2,rfl,h1⟩ | ⟨h1,h2⟩
   ·have:=w4 r2 h1 hf
    rw[List.length_cons,List.length_cons];lia
   ·have h3:(r.length:Int)<=(r0.length:Int) + 1:=ho r h1 ((aZp h2).mp hf);rw[List.length_cons];lia
  | some r1 =>
   have h':MfS ts (bs.filter fun b=>!decide (x∈b)) ((r0.length:Int) + 1) r1:=ho;have hm1:=h'.more;refine⟨h'.sub.cons _,(aZp fun z=>hx (h'.sub.subset z)).mpr h'.free,by lia,fun r hr hf=>?_,later h' fun r2 h1 hf e=>by
    have:=w4 r2 h1 hf
    lia⟩
   rcases part hr with⟨r2,rfl,h1⟩ | ⟨h1,h2⟩
   ·have:=w4 r2 h1 hf
    rw[List.length_cons];lia
   ·exact h'.most r h1 ((aZp h2).mp hf)
def Bar (ts:List α) (bs:List (List α)):Prop:=∀ b∈bs,b.Nodup/\2<=b.length/\∀ x∈b,x∈ts
theorem Bar.off {x:α} {ts:List α} {bs:List (List α)} (h:Bar (x::ts) bs):Bar ts (bs.filter fun b=>!decide (x∈b)):=fun b hb=>by
 obtain⟨h1,h2⟩:=List.mem_filter.mp hb;have h2:x∉b:=by simpa using h2
 obtain⟨a,l,m⟩:=h b h1;exact⟨a,l,fun y hy=>(List.mem_cons.mp (m y hy)).resolve_left fun e=>h2 (e ▸ hy)⟩
theorem eZ1 {b:List α} (nd:b.Nodup) (x:α):b.length<=(wo b [x]).length + 1:=by
 have:=nd.length_le_of_subset (l₂:=x::wo b [x]) fun y hy=>by
  by_cases e:y=x
  ·rw[e];exact List.mem_cons_self
  ·exact List.mem_cons_of_mem _ (mem_w1'.mpr ⟨hy,e⟩)
 simpa using this
theorem Bar.with {x:α} {ts:List α} {bs:List (List α)} (h:Bar (x::ts) bs):Bar (wo ts (shut bs x)) (brd bs x):=fun s hs=>by
 obtain⟨h1,h2⟩:=List.mem_filter.mp hs;have h2:mts s (shut bs x)=false:=by simpa using h2
 obtain⟨b,hb,rfl⟩:=List.mem_map.mp h1;obtain⟨a,l,m⟩:=h b hb;have l1:=eZ1 a x;have no:∀ y∈wo b [x],y∉shut bs x:=fun y hy z=>by
  rw[mts_iff.mpr ⟨y,z,hy⟩] at h2;cases h2
 refine⟨a.sublist List.filter_sublist,Classical.byContradiction fun z=>?_,fun y hy=>mem_wo.mpr ⟨(List.mem_cons.mp (m y (mem_w1'.mp hy).1)).resolve_left (mem_w1'.mp hy).2,no y hy⟩⟩;have l2:(wo b [x]).length=1:=by lia
 match e:wo b [x],l2 with
 | [y],_=>exact no y (by rw[e];exact List.mem_cons_self) (mem_shut.mpr (e ▸ h1))
end
end L2
namespace Toy
open PySem L2
abbrev s_most_free:Stmt:=top 11
theorem sc_most_free:FnScope ["things", "barred", "over", "one", "best", "other"] ["things", "barred", "over"] (aQ3 s_most_free):=fsc
abbrev s_most_free_with:Stmt:=top 12
theorem sc_most_free_with:FnScope ["one", "things", "barred", "over", "shorter", "shut_out", "more"] ["one", "things", "barred", "over"] (aQ3 s_most_free_with):=fsc
def opE {α:Type} (E:Enc α):Option (List α)->D
 | none=>.non
 | some r=>.tup (r.map E.e)
def cZ5 (n:Nat):SpD:=fun ds S Q=>∃ (α:Type) (_:DecidableEq α) (E:Enc α) (ts:List α) (bs:List (List α)) (over:Int),ds=[.tup (ts.map E.e),.lst (bs.map fun b=>.tup (b.map E.e)),.int over]/\E.dep<=3/\ts.Nodup/\ts.length < n/\ts.length<=99/\bs.length<=9999/\(∀ b∈bs,b.length<=99)/\Bar ts bs/\∀ m,MF ts bs over m->Q (opE E m) S
def dX8 (n:Nat):SpD:=fun ds S Q=>∃ (α:Type) (_:DecidableEq α) (E:Enc α) (x:α) (ts:List α) (bs:List (List α)) (over:Int),ds=[E.e x,.tup (ts.map E.e),.lst (bs.map fun b=>.tup (b.map E.e)),.int over]/\E.dep<=3/\ts.Nodup/\ts.length < n/\ts.length<=99/\bs.length<=9999/\(∀ b∈bs,b.length<=99)/\Bar (x::ts) bs/\∀ m,MF (wo ts (shut bs x)) (brd bs x) (over - 1) m->Q (opE E (m.map (x::·))) S
def aJ2:SpD:=cZ5 18
theorem fQo {ds:List D} {S:Sto} {Q:DK} (h:cZ5 0 ds S Q):False:=by
 obtain⟨α,dα,E,ts,bs,over,_,_,_,h,_⟩:=h;exact Nat.not_lt_zero _ h
section
variable {P:Program} {w:World} {K:PySem.W.Frag} {mg:Str->Option Value} {base:Heap} {pt cc:Addr}
theorem dZ8 {k n:Nat} (T:Tx K mg "most_free_with" s_most_free_with) (B:Bs mg) (d_without_names:Df P w K mg base k "without_names" ["one", "row"] (spU K aQs)) (d_meets:Df P w K mg base k "meets" ["one", "row"] (spU K aJ9)) (d_most_free:Df P w K mg base k "most_free" ["things", "barred", "over"] (spU K (cZ5 n))):Df P w K mg base (k + 1) "most_free_with" ["one", "things", "barred", "over"] (spU K (dX8 n)):=by
 refine aX2 T sc_most_free_with (fun F=>F.binds fun _ _ _ _ _ _=>us4 fun _ _ _ _=>rfl) ?_ fun f cdv A outer s H E hr=>⟨_,(aQ2 (bZ6 (i:=4) rfl (Or.inl rfl) (N':=["some", "one"]) (oc:=none) (b:=false) [0] [] rfl sc_most_free_with.nd (fun _ _ _=>aQd _ _ _ _ _ _ _ _ _) (.own (.cap (i:=0) rfl (by decide +kernel) .nil)) (aQh rfl) (aZ7 (dv 2)) (cg_name (i:=0)) (fun _ _ _ _ _=>aQe (i:=0) (nd_ ["some", "one"]) rfl (Or.inl rfl) (.inr rfl)) (fun _ _ _ _ _=>aZm) aQl (fun _ _ _ _ _ _=>aQk rfl (by exact PD.o (aQa d_without_names hr rfl (aQ0 (dv 0) (aQ0 (aJp (aQ0 (dv 1) aQ1)) aQ1))))))
  (aQ2 (aQ7 (i:=5) sc_most_free_with.nd rfl (Or.inr rfl) (aZ0 (N':=["some"]) (oc:=none) (b:=false) [0] [] rfl sc_most_free_with.nd (fun _ _ _=>aQd _ _ _ _ _ _ _ _ _) (.own .nil) (aQh rfl) (aZ7 (dv 4)) (cg_name (i:=0)) (fun _ _ _ _ _=>aQe (i:=0) (nd_ ["some"]) rfl (Or.inl rfl) (.inr rfl)) (fun _ _ _ _ _=>aQw (by exact(bXz hr (aXk rfl B.len (aQ0 (dv 0) aQ1)) aQ4))) aQl (fun _ _ _ _ _ _=>aQk rfl (by exact PD.o (e_ix (dv 0) aQ4)))))
  (aQ2 (aQ7 (i:=6) sc_most_free_with.nd rfl (Or.inl rfl) (aQa d_most_free hr rfl (aQ0 (aQa d_without_names hr rfl (aQ0 (dv 1) (aQ0 (dv 5) aQ1))) (aQ0 (aZ0 (N':=["some", "shut_out"]) (oc:=none) (b:=false) [0] [] rfl sc_most_free_with.nd (fun _ _ _=>aQd _ _ _ _ _ _ _ _ _) (.own (.cap (i:=5) rfl (by decide +kernel) .nil)) (aQh rfl) (aZ7 (dv 4)) (cg_name (i:=0)) (fun _ _ _ _ _=>aQe (i:=0) (nd_ ["some", "shut_out"]) rfl (Or.inl rfl) (.inr rfl)) (fun _ _ _ _ _=>aQw (by exact(bX6 (bX7 (aQa d_meets hr rfl (aQ0 (dv 0) (aQ0 (dv 1) aQ1))))))) aQl (fun _ _ _ _ _ _=>aQk rfl (by exact PD.o (dv 0)))) (aQ0 (cZ0 (dv 3) aQ4) aQ1)))))
  (aQ5 (aQm (cXl (eJh hr (dv 6) bZ1) bZ1 (aQu (k:=false) (aJp (aQ0 (dv 0) aQ1)) (dv 6)))))))),?_⟩
 ·rintro ds S Q ⟨α,dα,E,x,ts,bs,over,rfl,_⟩;rfl
 ·rintro ds S Q ⟨α,dα,E,x,ts,bs,over,rfl,hE,nd,hn,ht,hb,hs,hbar,q⟩;have hsl:(shrt bs x).length=bs.length:=List.length_map ..;have hss:∀ s∈shrt bs x,s.length<=99:=fun s h=>by
   obtain⟨t,ht',rfl⟩:=List.mem_map.mp h;exact Nat.le_trans (List.length_filter_le _ _) (hs t ht')
  refine⟨_,rfl,aZn (enc:=fun b:List α=>D.tup (b.map E.e)) (f:=fun s=>D.tup ((wo s [x]).map E.e)) (fun s h Q q=>⟨aQg (by show 1<=9999;decide),α,dα,E,s,[x],_,_,rfl,by lia,.inl rfl,.inl rfl,by have:=hs s h;lia,q⟩) (aQg (by show 0 + bs.length<=_;lia)) ?_⟩
  have e1:([]++bs.map fun s=>D.tup ((wo s [x]).map E.e))=(shrt bs x).map fun b=>D.tup (b.map E.e):=by unfold shrt;rw[List.map_map];rfl
  rw[e1];have e2:(((shrt bs x).filter fun s=>decide (s.length=1)).map fun s:List α=>match s with | y::_=>E.e y | []=>D.non)=(shut bs x).map E.e:=by
   unfold shut;generalize shrt bs x=sh
   induction sh with
   | nil=>rfl
   | cons s sh ih =>
    rw[List.filter_cons,List.filterMap_cons]
    by_cases h1:s.length=1
    ·match s,h1 with
     | [y],_=>exact congrArg (E.e y::·) ih
    ·rw[if_neg (by simpa using h1),if_neg h1]
     exact ih
  have hso:(shut bs x).length<=9999:=by
   have:=congrArg List.length e2
   rw[List.length_map,List.length_map] at this;have h2:=List.length_filter_le (fun s:List α=>decide (s.length=1)) (shrt bs x);lia
  have hbr:(brd bs x).length<=9999:=Nat.le_trans (List.length_filter_le _ _) (by lia)
  have hbs:∀ s∈brd bs x,s.length<=99:=fun s h=>hss s (List.mem_filter.mp h).1;have hwl:(wo ts (shut bs x)).length<=ts.length:=List.length_filter_le _ _;refine⟨_,rfl,aQo (enc:=fun b:List α=>D.tup (b.map E.e)) (p:=fun s=>decide (s.length=1)) (f:=fun s:List α=>match s with | y::_=>E.e y | []=>D.non) (fun s h Q q=>⟨_,rfl,rfl,_,rfl,?_⟩) (fun s h hp Q q=>?_) (aQg (by show 0 + (shrt bs x).length<=_;lia)) ?_⟩
  ·have e:(if false=true then !decide (D.int ((s.map E.e).length:Int)=D.int 1) else decide (D.int ((s.map E.e).length:Int)=D.int 1))=decide (s.length=1):=by
    rw[List.length_map];exact decide_eq_decide.mpr ⟨fun h=>by injection h with h;lia,fun h=>by rw[h];rfl⟩
   exact e ▸ q
  ·have h1:s.length=1:=of_decide_eq_true hp
   match s,h1 with
   | [y],_=>exact⟨[E.e y],E.e y,rfl,aX7 (j:=0) rfl,q⟩
  rw[List.nil_append,e2];refine⟨α,dα,E,ts,shut bs x,_,_,rfl,by lia,.inl rfl,.inr rfl,by lia,_,rfl,aQo (enc:=fun b:List α=>D.tup (b.map E.e)) (p:=fun s=>!mts s (shut bs x)) (f:=fun b:List α=>D.tup (b.map E.e)) (fun s h Q q=>⟨α,dα,E,s,shut bs x,_,_,rfl,by lia,.inl rfl,.inr rfl,hso,q⟩) (fun s h _ Q q=>q) (aQg (by show 0 + (shrt bs x).length<=_;lia)) ?_⟩
  refine⟨α,dα,E,wo ts (shut bs x),brd bs x,over - 1,rfl,hE,nd.sublist List.filter_sublist,by lia,by lia,hbr,hbs,hbar.with,fun m hm=>?_⟩
  have:=q m hm
  cases m with
  | none=>exact⟨_,rfl,aQf this⟩
  | some r =>
   have hm':MfS (wo ts (shut bs x)) (brd bs x) (over - 1) r:=hm;have hl:=hm'.sub.length_le;exact⟨_,rfl,aQg (by show 1<=9999;decide),aQg (by show 1 + (r.map E.e).length<=9999;rw[List.length_map];lia),aQf this⟩
theorem fQp {k n:Nat} (T:Tx K mg "most_free" s_most_free) (B:Bs mg) (d_most_free_with:Df P w K mg base (k + 1) "most_free_with" ["one", "things", "barred", "over"] (spU K (dX8 n))) (d_most_free:Df P w K mg base (k + 1) "most_free" ["things", "barred", "over"] (spU K (cZ5 n))):Df P w K mg base (k + 2) "most_free" ["things", "barred", "over"] (spU K (cZ5 (n + 1))):=by
 refine aX2 T sc_most_free (fun F=>F.binds fun _ _ _ _ _ _=>us3 fun _ _ _=>rfl) ?_ fun f cdv A outer s H E hr=>⟨_,(aQ2 (aXl (fZo hr (aXk rfl B.len (aQ0 (dv 0) aQ1)) (dv 2)) (aQ5 (aQm bZ1)) aQv)
  (aQ2 (aXl (bX6 (bX7 (dv 1))) (aQ5 (aQm (dv 0))) aQv)
  (aQ2 (aQ7 (i:=3) sc_most_free.nd rfl (Or.inr rfl) (e_ix (dv 0) aQ4))
  (aQ2 (aQ7 (i:=4) sc_most_free.nd rfl (Or.inl rfl) (aQa d_most_free_with hr rfl (aQ0 (dv 3) (aQ0 (e_sl (b:=false) (dv 0) (aXd aQ4) aXc) (aQ0 (dv 1) (aQ0 (dv 2) aQ1))))))
  (aJu (aXl (bJ2 hr (dv 4) bZ1) (aQ5 (aQ7 (i:=2) sc_most_free.nd rfl (Or.inl rfl) (aXk rfl B.len (aQ0 (dv 4) aQ1)))) aQv)
  (aQ2 (aQ7 (i:=5) sc_most_free.nd rfl (Or.inl rfl) (aQa d_most_free hr rfl (aQ0 (e_sl (b:=false) (dv 0) (aXd aQ4) aXc) (aQ0 (aZ0 (N':=["some", "one"]) (oc:=none) (b:=false) [0] [] rfl sc_most_free.nd (fun _ _ _=>aQd _ _ _ _ _ _ _ _ _) (.own (.cap (i:=3) rfl (by decide +kernel) .nil)) (aQh rfl) (aZ7 (dv 1)) (cg_name (i:=0)) (fun _ _ _ _ _=>aQe (i:=0) (nd_ ["some", "one"]) rfl (Or.inl rfl) (.inr rfl)) (fun _ _ _ _ _=>aQw (by exact(bJx hr (dv 1) (dv 0)))) aQl (fun _ _ _ _ _ _=>aQk rfl (by exact PD.o (dv 0)))) (aQ0 (dv 2) aQ1)))))
  (aQ5 (aQm (cXl (eJh hr (dv 5) bZ1) (dv 4) (dv 5)))))))))),?_⟩
 ·rintro ds S Q ⟨α,dα,E,ts,bs,over,rfl,_⟩;rfl
 ·rintro ds S Q ⟨α,dα,E,ts,bs,over,rfl,hE,nd,hn,ht,hb,hs,hbar,q⟩;refine⟨_,rfl,_,rfl,ite2 (fun c1=>?_) fun c1=>?_⟩
  ·exact aQf (q none (fQm (by have:=of_decide_eq_true c1;rwa [List.length_map] at this)))
  have h1:¬ (ts.length:Int)<=over:=fun z=>c1 (decide_eq_true (by rw[List.length_map];exact z))
  match bs,hb,hs,hbar,q with
  | [],_,_,_,q=>exact aQf (q _ (fQn h1))
  | b0::bs',hb,hs,hbar,q =>
   match ts,nd,hn,ht,hbar,h1,q with
   | [],_,_,_,hbar,_,_ =>
    exfalso;obtain⟨_,l2,m⟩:=hbar b0 List.mem_cons_self;cases b0 with
    | nil=>simp at l2
    | cons y b0=>exact absurd (m y List.mem_cons_self) (by simp)
   | x::ts,nd,hn,ht,hbar,h1,q =>
    simp only[List.length_cons] at ht hn;have nd':=(List.nodup_cons.mp nd).2;have ec:cutD ((x::ts).map E.e) (some 1) none=ts.map E.e:=cQ8 _ 0;refine⟨(x::ts).map E.e,E.e x,rfl,aX7 (j:=0) rfl,1,rfl,α,dα,E,x,ts,b0::bs',over,?_,hE,nd',by lia,by lia,hb,hs,hbar,fun m hm=>?_⟩
    ·show [E.e x,D.tup (cutD ((x::ts).map E.e) (some 1) none),D.lst ((b0::bs').map fun b=>D.tup (b.map E.e)),D.int over]=_;rw[ec]
    generalize hbd:b0::bs'=B at q hm hb hs hbar;have hml:∀ r,m=some r->r.length<=ts.length:=fun r e=>by
     subst e;have hm':MfS (wo ts (shut B x)) (brd B x) (over - 1) r:=hm;exact Nat.le_trans hm'.sub.length_le (List.length_filter_le _ _)
    refine⟨fun Γ' S'=>Γ'=[some (.tup ((x::ts).map E.e)),some (.lst (B.map fun b=>D.tup (b.map E.e))),some (.int (ovr over m)),some (E.e x),some (opE E (m.map (x::·))),none]/\S'=S,?_,?_⟩
    ·cases m with
     | none=>exact⟨_,rfl,rfl,rfl⟩
     | some r =>
      refine⟨_,rfl,_,rfl,?_,rfl⟩;show [some (D.tup ((x::ts).map E.e)),some (.lst (B.map fun b=>D.tup (b.map E.e))),some (.int (((x::r).map E.e).length:Int)),some (E.e x),some (D.tup ((x::r).map E.e)),none]=_;rw[List.length_map];rfl
    rintro Γ' S' ⟨rfl,rfl⟩;refine⟨1,rfl,_,rfl,aQo (enc:=fun b:List α=>D.tup (b.map E.e)) (p:=fun s=>!decide (x∈s)) (f:=fun b:List α=>D.tup (b.map E.e)) (fun s h Q q=>show inD true (E.e x) (.tup (s.map E.e)) S' (fun d S1=>∃ b,d=.bl b/\Q b S1) from in_t (neg:=true) (E:=E) (by lia) rfl q) (fun s h _ Q q=>q) (aQg (by show 0 + B.length<=_;lia)) ?_⟩
    refine⟨α,dα,E,ts,B.filter fun s=>!decide (x∈s),ovr over m,?_,hE,nd',by lia,by lia,Nat.le_trans (List.length_filter_le _ _) hb,fun s h=>hs s (List.mem_filter.mp h).1,hbar.off,fun o ho=>?_⟩
    ·show [D.tup (cutD ((x::ts).map E.e) (some 1) none),D.lst ([]++(B.filter fun s=>!decide (x∈s)).map fun b=>D.tup (b.map E.e)),D.int (ovr over m)]=_;rw[ec];rfl
    have hst:=q _ (eZ0 nd hm ho);cases o with
    | none=>exact⟨_,rfl,aQf hst⟩
    | some r=>exact⟨_,rfl,aQf hst⟩
theorem cJi (T:Tx K mg "most_free" s_most_free) (T2:Tx K mg "most_free_with" s_most_free_with) (B:Bs mg) (d_without_names:Df P w K mg base 1 "without_names" ["one", "row"] (spU K aQs)) (d_meets:Df P w K mg base 1 "meets" ["one", "row"] (spU K aJ9)):∀ n,Df P w K mg base (1 + 2 * n) "most_free" ["things", "barred", "over"] (spU K (cZ5 n))
 | 0=>T.df (fun F=>F.binds fun _ _ _ _ _ _=>us3 fun _ _ _=>rfl) fun F=>F.ok sc_most_free (fun vs H Q E ⟨_,_,_,_,_,_,h,_⟩=>(fQo h).elim) fun cdv A outer s H vs Q E' hr ⟨_,_,_,_,_,_,h,_⟩=>(fQo h).elim
 | n + 1=>by
  have ih:=cJi T T2 B d_without_names d_meets n;exact fQp T B (dZ8 T2 B (d_without_names.mono (Nat.le_add_right _ _)) (d_meets.mono (Nat.le_add_right _ _)) ih) (ih.mono (Nat.le_succ _))
theorem bXf (T:Tx K mg "most_free" s_most_free) (B:Bs mg) (T_most_free_with:Tx K mg "most_free_with" s_most_free_with) (d_without_names:Df P w K mg base 1 "without_names" ["one", "row"] (spU K aQs)) (d_meets:Df P w K mg base 1 "meets" ["one", "row"] (spU K aJ9)):Df P w K mg base 37 "most_free" ["things", "barred", "over"] (spU K aJ2):=by
 exact(cJi T T_most_free_with B d_without_names d_meets 18).mono (by decide)
end
end Toy
set_option maxHeartbeats 4000000
namespace L2
open PySem Toy
theorem bZi:∀ (l:List (List Str)) (m:Nat),(ch l m).length + (ch l (m + 1)).length<=2 ^ l.length
 | [],0=>by decide
 | [],m + 1=>by simp[ch]
 | x::l,0=>by
  have e:(x::l).length=l.length + 1:=rfl;rw[aQp,aQi,aQp,List.length_append,List.length_map,e,Nat.pow_succ]
  have:=bZi l 0
  rw[aQp] at this;have h2:1<=2 ^ l.length:=Nat.one_le_two_pow;simp only[List.length_cons,List.length_nil] at *
  lia
 | x::l,m + 1=>by
  rw[aQi,aQi,List.length_append,List.length_append,List.length_map,List.length_map,List.length_cons,Nat.pow_succ]
  have:=bZi l m
  have:=bZi l (m + 1)
  lia
theorem cJj (ts:List (List Str)) (m:Nat):(ch ts m).length<=2 ^ (ts.length - 1):=by
 cases ts with
 | nil=>exact bXc [] m
 | cons x l =>
  cases m with
  | zero=>rw[aQp];exact Nat.one_le_two_pow
  | succ m =>
   rw[aQi,List.length_append,List.length_map];exact bZi l m
end L2
set_option maxHeartbeats 1000000
namespace L2
open PySem Toy
def hav (ts:List (List Str)) (core:List Str):List (List Str):=ts.filter fun t=>has t core
def mt2 (p:List (List Str)):List Str:=(p.getD 0 []).filter fun x=>decide (x∈p.getD 1 [])
def mtg (hs:List (List Str)) (core:List Str):List (List (List Str)):=(ch hs 2).filter fun p=>!decide (mt2 p=core)
theorem aZc {hs:List (List Str)} {p:List (List Str)} (h:p∈ch hs 2):∃ a b,p=[a,b]/\[a,b].Sublist hs:=by
 obtain⟨h1,h2⟩:=ch_mem h
 match p,h1 with
 | [a,b],_=>exact⟨a,b,rfl,h2⟩
theorem aXo {a b:List Str} (ha:Srt a) (hb:Srt b):(a.filter fun x=>decide (x∈b))=b.filter fun x=>decide (x∈a) :=
 Srt.ext (List.Pairwise.filter _ ha) (List.Pairwise.filter _ hb) fun n=>by simp[and_comm]
theorem cQa {hs r:List (List Str)} {core:List Str} (hs':∀ t∈hs,Srt t) (nd:hs.Nodup) (hr:r.Sublist hs):aZf (mtg hs core) r↔r.Pairwise fun a b=>(a.filter fun x=>decide (x∈b))=core:=by
 constructor
 ·intro h;rw[List.pairwise_iff_forall_sublist];intro a b hab;refine Classical.byContradiction fun z=>?_;refine h [a,b] (List.mem_filter.mpr ⟨aZw (hab.trans hr),?_⟩) fun x hx=>hab.subset hx
  have:mt2 [a,b]≠core:=z
  simp[this]
 ·intro h p hp hall;obtain⟨h1,h2⟩:=List.mem_filter.mp hp;obtain⟨a,b,rfl,hab⟩:=aZc h1;have hne:a≠b:=by
   have:=nd.sublist hab
   simp at this;exact this
  have ha:=hall a (by simp)
  have hb:=hall b (by simp)
  have key:(a.filter fun x=>decide (x∈b))=core:=by
   obtain⟨i,hi,ei⟩:=List.getElem_of_mem ha;obtain⟨j,hj,ej⟩:=List.getElem_of_mem hb;have pw:=List.pairwise_iff_getElem.mp h;rcases Nat.lt_trichotomy i j with z | z | z
   ·have:=pw i j hi hj z
    rwa [ei,ej] at this
   ·subst z;exact absurd (ei.symm.trans ej) hne
   ·have:=pw j i hj hi z
    rw[ei,ej] at this;rw[aXo (hs' a (hr.subset ha)) (hs' b (hr.subset hb))];exact this
  have:mt2 [a,b]=core:=key
  simp[this] at h2
theorem eZ2 {hs:List (List Str)} (nd:hs.Nodup) (core:List Str):Bar hs (mtg hs core):=fun b hb=>by
 obtain⟨x,y,rfl,h⟩:=aZc (List.mem_filter.mp hb).1;exact⟨nd.sublist h,Nat.le_refl _,fun z hz=>h.subset hz⟩
theorem eZ3 (hs:List (List Str)) (core:List Str):aZf (mtg hs core) []:=fun b hb hall=>by
 obtain⟨x,y,rfl,h⟩:=aZc (List.mem_filter.mp hb).1;exact absurd (hall x (by simp)) (by simp)
theorem dZ9 (hs:List (List Str)) (h:hs.length<=14) (core:List Str):(mtg hs core).length<=9999:=by
 have h1:=List.length_filter_le (fun p=>!decide (mt2 p=core)) (ch hs 2);have h2:=cJj hs 2
 have:2 ^ (hs.length - 1)<=2 ^ 13:=Nat.pow_le_pow_right (by decide) (by lia)
 show(List.filter _ _).length<=9999;lia
abbrev ltn:Nat->Nat->Bool:=fun i j=>decide (i < j)
def natE:Enc Nat where
 e:=fun i=>D.int (i:Nat)
 inj:=fun h=>by injection h with h;lia
 pl:=fun _=>rfl
 dep:=0
 ok:=fun n x y _=>by cases n <;> rfl
 lt:=ltn
 okl:=fun n x y _=>by cases n <;> rfl
 lte:=fun n x y _=>by
  have:ltN n (D.int (x:Nat)) (D.int (y:Nat))=decide ((x:Int) < (y:Int)):=by cases n <;> rfl
  rw[this];exact decide_eq_decide.mpr (by lia)
section
variable (g:Nat->List Str)
def Apr (row:List Nat):Prop:=row.Pairwise fun a b=>∀ x∈g a,x∉g b
end
def bet (a b:List Nat):Bool:=if a.length=b.length then lexG ltn a b else decide (b.length < a.length)
theorem cJk:∀ {a b c:List Nat},lexG ltn a b=true->lexG ltn b c=true->lexG ltn a c=true
 | [],[],_,h,_=>by cases h
 | [],_::_,[],_,h=>by cases h
 | [],_::_,_::_,_,_=>rfl
 | _::_,[],_,h,_=>by cases h
 | _::_,_::_,[],_,h=>by cases h
 | x::a,y::b,z::c,h,h'=>by
  unfold lexG at h h' ⊢
  by_cases e1:x=y
  ·subst e1;rw[if_pos rfl] at h
   by_cases e2:x=z
   ·subst e2;rw[if_pos rfl] at h' ⊢;exact cJk h h'
   ·rw[if_neg e2] at h' ⊢;exact h'
  ·rw[if_neg e1] at h
   by_cases e2:y=z
   ·subst e2;rw[if_neg e1];exact h
   ·rw[if_neg e2] at h';have h1:=of_decide_eq_true h;have h2:=of_decide_eq_true h';rw[if_neg (by lia)]
    exact decide_eq_true (by lia)
theorem bJ9:∀ a:List Nat,lexG ltn a a=false
 | []=>rfl
 | x::a=>by unfold lexG;rw[if_pos rfl];exact bJ9 a
theorem cQb:∀ {a b:List Nat},a.length=b.length->lexG ltn a b=false->a≠b->lexG ltn b a=true
 | [],[],_,_,h=>absurd rfl h
 | x::a,y::b,hl,h,hne=>by
  unfold lexG at h ⊢
  by_cases e:x=y
  ·subst e;rw[if_pos rfl] at h ⊢;exact cQb (by simpa using hl) h fun z=>hne (by rw[z])
  ·rw[if_neg e] at h;rw[if_neg (Ne.symm e)]
   have:=of_decide_eq_false h
   exact decide_eq_true (by lia)
theorem dX9 {a b c:List Nat} (h:bet a b=true) (h':bet b c=true):bet a c=true:=by
 unfold bet at h h' ⊢
 by_cases e1:a.length=b.length
 ·rw[if_pos e1] at h
  by_cases e2:b.length=c.length
  ·rw[if_pos e2] at h';rw[if_pos (by lia)]
   exact cJk h h'
  ·rw[if_neg e2] at h'
   have:=of_decide_eq_true h'
   rw[if_neg (by lia)]
   exact decide_eq_true (by lia)
 ·rw[if_neg e1] at h;have h1:=of_decide_eq_true h
  by_cases e2:b.length=c.length
  ·rw[if_neg (by lia)]
   exact decide_eq_true (by lia)
  ·rw[if_neg e2] at h'
   have:=of_decide_eq_true h'
   rw[if_neg (by lia)]
   exact decide_eq_true (by lia)
theorem fQq (a:List Nat):bet a a=false:=by unfold bet;rw[if_pos rfl];exact bJ9 a
def bst (b:List Nat) (l:List (List Nat)):List Nat:=l.foldl (fun b r=>if bet r b=true then r else b) b
theorem aXp:∀ (l:List (List Nat)) (b:List Nat),bst b l∈b::l/\∀ r∈b::l,bet r (bst b l)=false
 | [],b=>⟨by simp[bst],fun r hr=>by rw[List.mem_singleton.mp hr];exact fQq _⟩
 | x::l,b=>by
  have e:bst b (x::l)=bst (if bet x b=true then x else b) l:=rfl
  obtain⟨h1,h2⟩:=aXp l (if bet x b=true then x else b);rw[e];refine⟨?_,fun r hr=>?_⟩
  ·rcases List.mem_cons.mp h1 with z | z
   ·rw[z];split <;> simp
   ·exact List.mem_cons_of_mem _ (List.mem_cons_of_mem _ z)
  ·have h0:=h2 _ List.mem_cons_self;rcases List.mem_cons.mp hr with rfl | hr
   ·by_cases hc:bet x r=true
    ·rw[if_pos hc] at h0 ⊢;cases z:bet r (bst x l) with
     | false=>rfl
     | true=>rw[dX9 hc z] at h0;cases h0
    ·rw[if_neg hc] at h0 ⊢;exact h0
   ·rcases List.mem_cons.mp hr with rfl | hr
    ·by_cases hc:bet r b=true
     ·rw[if_pos hc] at h0 ⊢;exact h0
     ·rw[if_neg hc] at h0 ⊢;cases z:bet r (bst b l) with
      | false=>rfl
      | true =>
       exfalso;rcases List.mem_cons.mp h1 with y | y
       ·rw[if_neg hc] at y;rw[y] at z;exact hc z
       ·rw[if_neg hc] at y
        have:bet (bst b l) b=true\/bst b l=b:=by
         rcases Classical.em (bst b l=b) with q | q
         ·exact .inr q
         ·left
          unfold bet at h0 ⊢
          by_cases e1:b.length=(bst b l).length
          ·rw[if_pos e1] at h0;rw[if_pos e1.symm];exact cQb e1 h0 (Ne.symm q)
          ·rw[if_neg e1] at h0;rw[if_neg (Ne.symm e1)]
           have:=of_decide_eq_false h0
           exact decide_eq_true (by lia)
        rcases this with q | q
        ·exact hc (dX9 z q)
        ·rw[q] at z;exact hc z
    ·exact h2 r (List.mem_cons_of_mem _ hr)
end L2
namespace Toy
open PySem L2
abbrev s_most_beside:Stmt:=top 10
theorem sc_most_beside:FnScope ["sets", "core", "having", "meeting"] ["sets", "core"] (aQ3 s_most_beside):=fsc
def aX6:SpD:=fun ds S Q=>∃ (ts:List (List Str)) (core:List Str),ds=[.tup (ts.map tupS),tupS core]/\SrtT ts/\ts.length<=14/\(∀ t∈ts,Srt t/\t.length<=12)/\core.length<=99/\∀ r,MfS (hav ts core) (mtg (hav ts core) core) (-1) r->Q (.tup (r.map tupS)) S
section
variable {P:Program} {w:World} {K:PySem.W.Frag} {mg:Str->Option Value} {base:Heap} {pt cc:Addr}
theorem bQ8 (T:Tx K mg "most_beside" s_most_beside) (B:Bs mg) (d_has_all:Df P w K mg base 37 "has_all" ["one", "row"] (spU K bQm)) (d_choices_of:Df P w K mg base 37 "choices_of" ["things", "many"] (spU K aZo)) (d_meet_of:Df P w K mg base 37 "meet_of" ["one", "other"] (spU K aXx)) (d_most_free:Df P w K mg base 37 "most_free" ["things", "barred", "over"] (spU K aJ2)):Df P w K mg base 38 "most_beside" ["sets", "core"] (spU K aX6):=by
 refine aX2 T sc_most_beside (fun F=>F.binds fun _ _ _ _ _ _=>us2 fun _ _=>rfl) ?_ fun f cdv A outer s H E hr=>⟨_,(aQ2 (aQ7 (i:=2) sc_most_beside.nd rfl (Or.inl rfl) (aXb rfl B.tuple (aQ0 (aZ0 (N':=["one", "core"]) (oc:=none) (b:=false) [0] [] rfl sc_most_beside.nd (fun _ _ _=>aQd _ _ _ _ _ _ _ _ _) (.own (.cap (i:=1) rfl (by decide +kernel) .nil)) (aQh rfl) (aZ7 (dv 0)) (cg_name (i:=0)) (fun _ _ _ _ _=>aQe (i:=0) (nd_ ["one", "core"]) rfl (Or.inl rfl) (.inr rfl)) (fun _ _ _ _ _=>aQw (by exact(bX7 (aQa d_has_all hr rfl (aQ0 (dv 0) (aQ0 (dv 1) aQ1)))))) aQl (fun _ _ _ _ _ _=>aQk rfl (by exact PD.o (dv 0)))) aQ1)))
  (aQ2 (bZ6 (i:=3) rfl (Or.inl rfl) (N':=["pair", "core"]) (oc:=none) (b:=false) [0] [] rfl sc_most_beside.nd (fun _ _ _=>aQd _ _ _ _ _ _ _ _ _) (.own (.cap (i:=1) rfl (by decide +kernel) .nil)) (aQh rfl) (aZ7 (aQa d_choices_of hr rfl (aQ0 (dv 2) (aQ0 aQ4 aQ1)))) (cg_name (i:=0)) (fun _ _ _ _ _=>aQe (i:=0) (nd_ ["pair", "core"]) rfl (Or.inl rfl) (.inr rfl)) (fun _ _ _ _ _=>aQw (by exact(dQm hr (aQa d_meet_of hr rfl (aQ0 (e_ix (dv 0) aQ4) (aQ0 (e_ix (dv 0) aQ4) aQ1))) (dv 1)))) aQl (fun _ _ _ _ _ _=>aQk rfl (by exact PD.o (dv 0))))
  (aQ5 (aQm (aQa d_most_free hr rfl (aQ0 (dv 2) (aQ0 (dv 3) (aQ0 (fZl aQ4) aQ1)))))))),?_⟩
 ·rintro ds S Q ⟨ts,core,rfl,_⟩;rfl
 ·rintro ds S Q ⟨ts,core,rfl,hs,h14,he,hc,q⟩;refine⟨_,rfl,aQo (p:=fun t=>has t core) (f:=tupS) (fun t ht Q q=>⟨Str,inferInstance,strE,t,core,tupS t,tupS core,rfl,by decide,.inl rfl,.inl rfl,by lia,q⟩) (fun t ht _ Q q=>q) (aQg (by show 0 + ts.length<=_;lia)) ⟨_,rfl,?_⟩⟩
  rw[List.nil_append];have hl:(hav ts core).length<=14:=Nat.le_trans (List.length_filter_le _ _) h14;have hnd:(hav ts core).Nodup:=hs.nodup.filter _;have heh:∀ t∈hav ts core,Srt t/\t.length<=12:=fun t ht=>he t (List.mem_filter.mp ht).1;have many:(Toy.ch (hav ts core) 2).length<=9999:=by
   have h2:=cJj (hav ts core) 2
   have:2 ^ ((hav ts core).length - 1)<=2 ^ 13:=Nat.pow_le_pow_right (by decide) (by lia)
   lia
  refine⟨(hav ts core).map tupS,2,rfl,by decide,by rw[List.length_map];lia,(Toy.ch (hav ts core) 2).map (fun s=>D.tup (s.map tupS)),(by show _=_;rw[Toy.ch_map,List.map_map];rfl),aQo (enc:=fun s:List (List Str)=>D.tup (s.map tupS)) (p:=fun p=>!decide (mt2 p=core)) (f:=fun p=>D.tup (p.map tupS)) (fun p hp Q q=>?_) (fun p hp _ Q q=>q) (aQg (by show 0 + (Toy.ch (hav ts core) 2).length<=_;lia)) ?_⟩
  ·obtain⟨a,b,rfl,hab⟩:=aZc hp;have ha:=heh a (hab.subset (by simp))
   refine⟨_,_,rfl,aX7 (j:=0) rfl,_,_,rfl,aX7 (j:=1) rfl,a,b,rfl,by lia,?_⟩
   refine⟨setE.ok 9 _ _ (by decide),_,rfl,?_⟩
   have e:decide (tupS (a.filter fun d=>decide (d∈b))=tupS core)=decide (mt2 [a,b]=core):=decide_eq_decide.mpr ⟨fun h=>setE.inj h,fun h=>by rw[<- h];rfl⟩
   show Q (!decide (tupS (a.filter fun d=>decide (d∈b))=tupS core)) S;rw[e];exact q
  ·rw[List.nil_append];refine⟨_,inferInstance,setE,hav ts core,mtg (hav ts core) core,-1,rfl,by decide,hnd,by lia,by lia,dZ9 _ hl core,fun b hb=>?_,eZ2 hnd core,fun m hm=>?_⟩
   ·have:=(Toy.ch_mem (List.mem_filter.mp hb).1).1;lia
   cases m with
   | none=>exact absurd (hm [] (List.nil_sublist _) (eZ3 _ core)) (by decide)
   | some r=>exact aQf (q r hm)
end
end Toy
namespace L2
open PySem PySem.Spec PyProof.Rows
section
variable {prog:Program} {w:World} {A:Around} {R:Result->Shared->Prop} {s0:Shared} {vs:List Value} {I S q:Addr} {fp:List Addr} {St:Nat->Heap->Prop} {bt:Nat->Nat->Bool} {kw:List (Str × Value)} {Key:Addr->Nat->Value->Heap->Prop}
theorem cJl (W:Walks prog w A.in1 I fp [I] vs.length (fun i v=>vs[i]?=some v) St) (hI:s0.heap.objs.size<=I) (hIS:I < S) (hSf:S∉fp)
  (kk:∀ i x h h',Key (S + 1) i x h->Kp s0.heap h'->(∀ b o,S + 1<=b->h.get? b=some o->h'.get? b=some o)->Key (S + 1) i x h')
  (turn:∀ i v h tk,vs[i]?=some v->Kp s0.heap h->S + 1<=h.objs.size->wpAny (model prog w) A.in1 (call (.ref q) [v]) (fun x s'=>∃ h' tk',s'={ s0 with heap:=h',toks:=tk' }/\Kp h h'/\Key (S + 1) i x h') (fun _ _=>False) { s0 with heap:=h,toks:=tk })
  (cmp:∀ i j vi vj h tk,Key (S + 1) i vi h->Key (S + 1) j vj h->Kp s0.heap h->HT.LtAt A.in1 { s0 with heap:=h,toks:=tk } vi vj (bt i j))
  (fin:∀ v h tk,vs[argBest bt (vs.length - 1)]?=some v->Kp s0.heap h->R (.ok (.ret v)) { s0 with heap:=h,toks:=tk }) :
  ∀ (left j:Nat) (h:Heap) (tk:Nat) (vb xb:Value) (c:Nat),j + 1 + left=vs.length->Kp s0.heap h->St (j + 1) h->vs[argBest bt j]?=some vb->Key (S + 1) (argBest bt j) xb h->h.get? S=some (seqObj "list" #[vb,xb] c) ->
   codeAny (model prog w) A (.builtin "min.loop" ⟨[.ref I,.ref q,.ref S],kw⟩) R { s0 with heap:=h,toks:=tk }:=by
 have hSI:S≠I:=Nat.ne_of_gt hIS;have nI:∀ b o,s0.heap.get? b=some o->b≠I:=fun b o e z=>absurd (Heap.lt_size e) (by rw[z];exact Nat.not_lt.mpr hI)
 have nS:∀ b o,s0.heap.get? b=some o->b≠S:=fun b o e z=>absurd (Heap.lt_size e) (by rw[z];exact Nat.not_lt.mpr (Nat.le_trans hI (Nat.le_of_lt hIS)))
 have word:(toString "min"++toString ".loop" : String) = "min.loop":=by decide
 intro left
 induction left with
 | zero =>
  intro j h tk vb xb c hj kp st hb ky hs;refine codeAny_builtin F.entry_min_loop ?_;rw[Around.under_plainId F.plain_min_loop _];show wpAny (model prog w) A.in1 (seqItems? (.ref S) >>= _) _ _ { s0 with heap:=h,toks:=tk }
  refine wpAny_bind (wpAny_seqItems hs rfl ?_);show wpAny (model prog w) A.in1 (tryCatch (pyNext (.ref I)) _ >>= _) _ _ { s0 with heap:=h,toks:=tk }
  refine wpAny_bind (wpAny_tryCatch (W.done { s0 with heap:=h,toks:=tk } _ _ ((show j + 1=vs.length from hj) ▸ st) fun h1 tk1 k1=>?_))
  have hs1:=k1 S _ (by simpa using hSI) hs
  show wpAny (model prog w) A.in1 (updateSeq S (fun _=>#[]) >>= _) _ _ _;refine wpAny_bind ?_;refine wpAny_updateSeq hs1 rfl (wpAny_bind (wpAny_letGo (wpAny_pure (fin vb _ tk1 ?_ fun b o e=>?_))))
  ·have e:vs.length - 1=j:=by lia
   rw[e];exact hb
  ·exact(Heap.get?_update_other _ _ (Ne.symm (nS b o e))).trans (k1 b o (by simpa using nI b o e) (kp b o e))
 | succ left ih =>
  intro j h tk vb xb c hj kp st hb ky hs;refine codeAny_builtin F.entry_min_loop ?_;rw[Around.under_plainId F.plain_min_loop _];show wpAny (model prog w) A.in1 (seqItems? (.ref S) >>= _) _ _ { s0 with heap:=h,toks:=tk }
  refine wpAny_bind (wpAny_seqItems hs rfl ?_);show wpAny (model prog w) A.in1 (tryCatch (pyNext (.ref I)) _ >>= _) _ _ { s0 with heap:=h,toks:=tk }
  refine wpAny_bind (wpAny_tryCatch (W.item (j + 1) { s0 with heap:=h,toks:=tk } _ _ (by lia) st fun v h1 tk1 hv st1 k1=>?_))
  have hs1:=k1 S _ (by simpa using hSI) hs
  have kp1:Kp s0.heap h1:=fun b o e=>k1 b o (by simpa using nI b o e) (kp b o e)
  have ky1:=kk _ _ _ _ ky kp1 fun b o hb e=>k1 b o (by simpa using (show b≠I from fun z=>absurd hb (by rw[z];exact Nat.not_le.mpr (Nat.lt_succ_of_lt hIS)))) e
  show wpAny (model prog w) A.in1 (tryCatch (holding [v] (call (.ref q) [v])) _ >>= _) _ _ _;refine wpAny_bind (wpAny_tryCatch (wpAny_holding (wpAny_mono (turn (j + 1) v h1 tk1 hv kp1 (Heap.lt_size hs1)) (fun x s'' he=>?_) fun _ _ hF=>hF.elim)));obtain⟨h2,tk2,rfl,kp2,kx⟩:=he;have kp3:=kp1.trans kp2;have hs2:=kp2 _ _ hs1;have st2:=W.frame _ _ _ st1 fun b _ o e=>kp2 b o e;have ky2:=kk _ _ _ _ ky1 kp3 fun b o _ e=>kp2 b o e;show wpAny (model prog w) A.in1 (tryCatch (holding [v,x] (richCompare .Lt x xb >>= _)) _ >>= _) _ _ _;refine wpAny_bind (wpAny_tryCatch (wpAny_holding (wpAny_bind (cmp (j + 1) (argBest bt j) x xb h2 tk2 kx ky2 kp3 _ _ _ _ ?_))));refine wpAny_bind (wpAny_holding (wpAny_truthy_bool (wpAny_bind (wpAny_letGo (wpAny_pure ?_)))));cases e:bt (j + 1) (argBest bt j) with
  | true =>
   rw[if_pos rfl];refine wpAny_bind ?_;refine wpAny_updateSeq hs2 rfl (wpAny_bind (wpAny_letGo ?_));rw[word];have hs3:(h2.update S (Obj.mapSeq fun _=>#[v,x])).get? S=some (seqObj "list" #[v,x] _):=get?_update_seq hs2 fun _=>#[v,x];have kp4:Kp s0.heap (h2.update S (Obj.mapSeq fun _=>#[v,x])):=fun b o eo=>(Heap.get?_update_other _ _ (Ne.symm (nS b o eo))).trans (kp3 b o eo);refine wpAny_pure ⟨plainId_quiet F.plain_min_loop _,ih (j + 1) _ tk2 v x _ (by lia) kp4 (W.frame _ _ _ st2 fun b hb' o eo=>?_) ?_ ?_ hs3⟩
   ·exact(Heap.get?_update_other _ _ (fun z:S=b=>hSf (by rw[z];exact hb'))).trans eo
   ·simp only[argBest,e,if_true];exact hv
   ·simp only[argBest,e,if_true];exact kk _ _ _ _ kx kp4 fun b o hb e=>(Heap.get?_update_other _ _ (Nat.ne_of_lt hb)).trans e
  | false =>
   rw[if_neg (by simp)]
   refine wpAny_bind (wpAny_letGo ?_);rw[word];refine wpAny_pure ⟨plainId_quiet F.plain_min_loop _,ih (j + 1) h2 tk2 vb xb c (by lia) kp3 st2 ?_ ?_ hs2⟩
   ·simp only[argBest,e,Bool.false_eq_true,if_false];exact hb
   ·simp only[argBest,e,Bool.false_eq_true,if_false];exact ky2
theorem cJm {E:Value->Shared->Prop} {x d:Value} {Q:Value->Shared->Prop} {s:Shared} (hd:vs=[]->∀ h tk,Kp s.heap h->Q d { s with heap:=h,toks:=tk })
  (it:∀ R':Value->Shared->Prop,(∀ I h fp St,s.heap.objs.size<=I->I∈fp->(∀ b∈fp,b < h.objs.size)->Kp s.heap h->St 0 h->Walks prog w A.in1 I fp [I] vs.length (fun i v=>vs[i]?=some v) St->R' (.ref I) { s with heap:=h })->wpAny (model prog w) A.in1 (pyIter x) R' E s)
  (kk:∀ m i x h h',Key m i x h->Kp s.heap h'->(∀ b o,m<=b->h.get? b=some o->h'.get? b=some o)->Key m i x h')
  (turn:∀ m i v h tk,vs[i]?=some v->Kp s.heap h->m<=h.objs.size->wpAny (model prog w) A.in1 (call (.ref q) [v]) (fun x s'=>∃ h' tk',s'={ s with heap:=h',toks:=tk' }/\Kp h h'/\Key m i x h') (fun _ _=>False) { s with heap:=h,toks:=tk })
  (cmp:∀ m i j vi vj h tk,Key m i vi h->Key m j vj h->Kp s.heap h->HT.LtAt A.in1 { s with heap:=h,toks:=tk } vi vj (bt i j))
  (fin:∀ v h tk,vs[argBest bt (vs.length - 1)]?=some v->Kp s.heap h->Q v { s with heap:=h,toks:=tk }) :
  wpAny (model prog w) A (call (.builtin "min") [x] [(Str.ofString "key",.ref q),(Str.ofString "default",d)]) Q E s:=by
 have word:(toString "min"++toString ".loop" : String) = "min.loop":=by decide
 have args:argsOk "min" ⟨[x],[(Str.ofString "key",.ref q),(Str.ofString "default",d)]⟩:=by unfold argsOk;kernel_rfl
 refine kmk_tree F.kind_min F.plain_min F.entry_min args ?_;have bp:Builtin.Builtins.bindParams "min" ["key", "default"] 0 ⟨[],[(Str.ofString "key",.ref q),(Str.ofString "default",d)]⟩=pure [some (.ref q),some d]:=rfl;show wpAny (model prog w) A.in1 (Builtin.Builtins.bindParams "min" ["key", "default"] 0 ⟨[],[(Str.ofString "key",.ref q),(Str.ofString "default",d)]⟩ >>= _) _ _ s;refine wpAny_bind (wpAny_of_eq bp ?_);show wpAny (model prog w) A.in1 (pure x >>= fun items=>pyIter items >>= _) _ _ s;refine wpAny_bind (wpAny_pure ?_);refine wpAny_bind (it _ fun I h fp St hI hIf hfp kp st W=>wpAny_bind (wpAny_newObj_type ?_));rw[word];have hSf:h.objs.size∉fp:=fun z=>Nat.lt_irrefl _ (hfp _ z);have hIS:I < h.objs.size:=hfp I hIf;show wpAny (model prog w) A.in1 (again (Code.builtin "min.loop" ⟨[.ref I,.ref q,.ref h.objs.size],[(Str.ofString "default",d)]⟩)) _ _ { s with heap:=h.push (seqObj "list" #[] 0) }
 have hs1:(h.push (seqObj "list" #[] 0)).get? h.objs.size=some (seqObj "list" #[] 0):=Heap.get?_push_size _ rfl;have kp1:Kp s.heap (h.push (seqObj "list" #[] 0)):=fun b o e=>Heap.get?_push_of_some _ (kp b o e);have st1:St 0 (h.push (seqObj "list" #[] 0)):=W.frame _ _ _ st fun b _ o e=>Heap.get?_push_of_some _ e;have hSI:h.objs.size≠I:=Nat.ne_of_gt hIS;have nI:∀ b o,s.heap.get? b=some o->b≠I:=fun b o e z=>absurd (Heap.lt_size e) (by rw[z];exact Nat.not_lt.mpr hI)
 have nS:∀ b o,s.heap.get? b=some o->b≠h.objs.size:=fun b o e z=>absurd (Heap.lt_size e) (by rw[z];exact Nat.not_lt.mpr (Nat.le_trans hI (Nat.le_of_lt hIS)))
 refine wpAny_pure ⟨plainId_quiet F.plain_min_loop _,codeAny_builtin F.entry_min_loop ?_⟩;rw[Around.under_plainId F.plain_min_loop _];show wpAny (model prog w) A.in1 (seqItems? (.ref h.objs.size) >>= _) _ _ { s with heap:=h.push (seqObj "list" #[] 0) }
 refine wpAny_bind (wpAny_seqItems hs1 rfl ?_);show wpAny (model prog w) A.in1 (tryCatch (pyNext (.ref I)) _ >>= _) _ _ { s with heap:=h.push (seqObj "list" #[] 0) }
 by_cases hv0:vs=[]
 ·refine wpAny_bind (wpAny_tryCatch (W.done { s with heap:=h.push (seqObj "list" #[] 0) } _ _ (by rw[hv0];exact st1) fun h1 tk1 k1=>?_))
  show wpAny (model prog w) A.in1 (rule _ >>= _) _ _ _;exact wpAny_bind (wpAny_rule (wpAny_pure (hd hv0 h1 tk1 fun b o e=>k1 b o (by simpa using nI b o e) (kp1 b o e))))
 ·have hn:0 < vs.length:=List.length_pos_iff.mpr hv0;refine wpAny_bind (wpAny_tryCatch (W.item 0 { s with heap:=h.push (seqObj "list" #[] 0) } _ _ hn st1 fun v h1 tk1 hv st2 k1=>?_))
  have hs2:=k1 h.objs.size _ (by simpa using hSI) hs1
  have kp2:Kp s.heap h1:=fun b o e=>k1 b o (by simpa using nI b o e) (kp1 b o e)
  show wpAny (model prog w) A.in1 (tryCatch (holding [v] (call (.ref q) [v])) _ >>= _) _ _ _;refine wpAny_bind (wpAny_tryCatch (wpAny_holding (wpAny_mono (turn (h.objs.size + 1) 0 v h1 tk1 hv kp2 (Heap.lt_size hs2)) (fun x s'' he=>?_) fun _ _ hF=>hF.elim)));obtain⟨h2,tk2,rfl,kp3,kx⟩:=he;have kp4:=kp2.trans kp3;have hs3:=kp3 _ _ hs2;have st3:=W.frame _ _ _ st2 fun b _ o e=>kp3 b o e;show wpAny (model prog w) A.in1 (updateSeq h.objs.size (fun _=>#[v,x]) >>= _) _ _ _;refine wpAny_bind ?_;refine wpAny_updateSeq hs3 rfl ?_;rw[word];have hs4:(h2.update h.objs.size (Obj.mapSeq fun _=>#[v,x])).get? h.objs.size=some (seqObj "list" #[v,x] _):=get?_update_seq hs3 fun _=>#[v,x];have kp5:Kp s.heap (h2.update h.objs.size (Obj.mapSeq fun _=>#[v,x])):=fun b o e=>(Heap.get?_update_other _ _ (Ne.symm (nS b o e))).trans (kp4 b o e);refine wpAny_pure ⟨plainId_quiet F.plain_min_loop _,cJl (s0:=s) (bt:=bt) (Key:=Key) (R:=wants Q E) W hI hIS hSf (kk _) (turn _) (cmp _) fin (vs.length - 1) 0 _ tk2 v x _ (by lia) kp5 (W.frame _ _ _ st3 fun b hb' o eo=>?_) hv ?_ hs4⟩
  ·exact(Heap.get?_update_other _ _ (fun z:h.objs.size=b=>hSf (by rw[z];exact hb'))).trans eo
  ·exact kk _ _ _ _ _ kx kp5 fun b o hb e=>(Heap.get?_update_other _ _ (Nat.ne_of_lt hb)).trans e
end
section
variable {prog:Program} {w:World} {A:Around} {s:Shared} {mg mb:Str->Option Value} {E:Value->Shared->Prop}
abbrev keyB (p1 p2 p3 p4 p5 p6:Pos) (k:Nat):Expr:=.Tuple [.UnaryOp .USub (.Call (.Name "len" p1) [.Name "some" p2] [] p3) p4,.Name "some" p5] k p6
theorem dZa {p1 p2 p3 p4 p5 p6:Pos} {k:Nat} {env:Env} {m:Str->Option Value} {a:Addr} {its:Array Value} {Q:Value->Shared->Prop} (hk:env.scope.kind=.function) (h1:env.kindOf "some" = some .local) (h2:env.kindOf "len" = some .globalImplicit)
  (hg:s.heap.Ns env.globals mg) (hm:mg "len" = none) (hb:s.heap.Ns env.builtins mb) (hv:mb "len" = some (.builtin "len")) (hn:s.heap.Ns env.locals m) (hs:m "some" = some (.ref a)) (ht:IsTup s.heap a its) (hz:(its.size:Int) < 2 ^ 63)
  (h:∀ t tk,Q (.ref s.heap.objs.size) { s with heap:=s.heap.push { cls:=.type "tuple",data:=.seq #[.int (-(its.size:Int)) t,.ref a] },toks:=tk }) :
  wpAny (model prog w) A (eval (keyB p1 p2 p3 p4 p5 p6 k) env) Q E s:=by
 have e1:backTo p6 (starEach [.UnaryOp .USub (.Call (.Name "len" p1) [.Name "some" p2] [] p3) p4,.Name "some" p5] env)=[(false,eval (.UnaryOp .USub (.Call (.Name "len" p1) [.Name "some" p2] [] p3) p4) env),(false,eval (.Name "some" p5) env)]:=by rfl
 refine wpAny_Tuple_spliced ?_;rw[e1];refine Calls.spliced_cons (wpAny_UnaryOp (wpAny_Call_Name_kw (Calls.Name_function_global hk h2 (Calls.loadGlobal_builtin hg hm hb hv ?_))));refine PyProof.Rows.callWith_builtin1 ?_ (by rfl) (by rfl)
 have e2:backTo p3 (starEach [.Name "some" p2] env)=[(false,eval (.Name "some" p2) env)]:=by rfl
 rw[e2];refine Calls.spliced_cons (wpAny_Name (wpAny_loadName_local hk h1 hn hs (Calls.spliced_nil ?_)));refine len_tuple ht hz (neg_int ?_);refine Calls.spliced_cons (wpAny_Name (wpAny_loadName_local hk h1 hn hs (Calls.spliced_nil ?_)));exact⟨show 2<=sizeLine by decide,h _ _⟩
abbrev keyP (p:Pos):Arguments:={ posonlyargs:=[],args:=[{ arg := "some",annotation:=none,pos:=p }],vararg:=none,kwonlyargs:=[],kw_defaults:=[],kwarg:=none,defaults:=[] }
theorem dZb {p0 p1 p2 p3 p4 p5 p6:Pos} {k:Nat} {f c a:Addr} {qual:Str} {scope:Scope} {pm ctv:Value} {its:Array Value} (hk:scope.kind=.function) (hco:scope.isCoroutine=false) (hgen:scope.isGenerator=false)
  (h1:scope.names.lookup ("some" : Str)=some .local) (h2:scope.names.lookup ("len" : Str)=some .globalImplicit) (hcell:∀ x∈scope.names,x.2≠.cell) (hroom:A.depth < recursionLimit)
  (ho:s.heap.get? f=some (PySem.W.kla_obj "<lambda>" qual (keyP p0) (keyB p1 p2 p3 p4 p5 p6 k) scope [] pm c ctv)) (hcd:s.heap.CodeRec (.ref c) qual) (lim:s.heap.NoLimit) (hg:s.heap.Ns mainGlobals mg) (hm:mg "len" = none) (hb:s.heap.Ns builtinsNs mb) (hv:mb "len" = some (.builtin "len")) (ht:IsTup s.heap a its) (hz:(its.size:Int) < 2 ^ 63) :
  wpAny (model prog w) A (call (.ref f) [.ref a]) (fun x s'=>∃ h' tk',s'={ s with heap:=h',toks:=tk' }/\Kp s.heap h'/\∃ b t,x=.ref b/\s.heap.objs.size<=b/\IsTup h' b #[.int (-(its.size:Int)) t,.ref a]) E s:=by
 refine wpAny_call (PySem.W.kla_callFunE hroom ho rfl hco hgen rfl hcd ?_);have hbind:bindArgs (PySem.W.kla_fn "<lambda>" qual (keyP p0) (keyB p1 p2 p3 p4 p5 p6 k) scope [] pm (.ref c) ctv) ⟨[.ref a],[]⟩=pure [(("some" : Str),Value.ref a)]:=by rfl
 rw[hbind];refine wpAny_pure (wpAny_newFunctionEnv_cells hk (fun x hx=>?_) fun env he s1 x=>?_)
 ·rw[List.mem_singleton.mp hx];exact .inl h1
 subst he;obtain⟨h',tk',rfl,kp⟩:=x.done;refine⟨lim.keeps kp,PySem.W.kla_codeExpr ?_⟩;have e1:(newEnv scope s.heap.objs.size mainGlobals (cellsFrom (s.heap.objs.size + 1) scope.names []) (qual ++ ".<locals>.") (some f) (.ref c) none builtinsNs).kindOf "some" = some .local:=h1;refine dZa (m:=_) hk h1 h2 (hg.keeps kp) hm (hb.keeps kp) hv x.toInCall.ns ?_ (ht.keeps kp) hz fun t tk=>?_
 ·exact bindL_get (P:=["some"]) (vs:=[.ref a]) (i:=0) (by simp) rfl rfl h1
 ·refine⟨_,tk,rfl,fun b o e=>Heap.get?_push_of_some _ (kp b o e),_,t,rfl,?_,?_⟩
  ·exact Nat.le_of_lt x.toInCall.ns.lt
  ·exact⟨_,Heap.get?_push_size _ rfl,rfl,_,rfl⟩
end
structure TabF (base:Heap) (mg:Str->Option Value) (c P:Addr):Prop where
 hd:PySem.W.CodeHd base c P
 bm:∃ bm ob,mg "__builtins__" = some (.ref bm)/\bm≠builtinsNs/\base.get? bm=some ob/\ob.cls=.type "module"/\ob.dict=some builtinsNs/\ob.data=.plain
def Grow (P:Addr) (lp:Pos) (qual:Str) (ps:Array Value) (H H':Hp):Prop:=H'=H \/
 ∃ c oc vs t,H c=none/\c≠P/\H'=upd (upd H P (.tbl (ps++#[rawInt lp.line,rawInt lp.col,.ref c]))) c (cdO c oc)/\oc.data=.fields vs/\vs[1]?=some (.str qual t)/\codeAmong lp ps.toList=none
def TbV (H:Hp) (lp:Pos) (qual:Str) (ps:Array Value):Prop:=TriplesOk ps.toList/\(codeAmong lp ps.toList=none\/∃ c oc,codeAmong lp ps.toList=some (.ref c)/\H c=some (cdO c oc)/\∃ vs t,oc.data=.fields vs/\vs[1]?=some (.str qual t))
section
variable {X:Cx} {pins:List (Addr × Obj)} {σ:St} {H:Hp} {s:Shared} {E:Value->Shared->Prop}
theorem dZc {c P:Addr} {ps:Array Value} {qual:Str} {lp:Pos} {params:Arguments} {body:Expr} {scope:Scope} {Q:Value->Shared->Prop} (I:Inv X pins σ H s) (hP:H P=some (.tbl ps)) (tb:TbV H lp qual ps)
  (hcode:X.env.code=.ref c) (T:TabF X.base X.mg c P) (hq:X.env.qual ++ "<lambda>" = qual) (hcl:closureFor scope X.env=pure []) (hdef:defaultsOf params X.env=([],[]))
  (h:∀ f c' pm ctv H' s',Inv X pins σ H' s'->Grow P lp qual ps H H'->s'.heap.get? f=some (PySem.W.kla_obj "<lambda>" qual params body scope [] pm c' ctv)->s'.heap.CodeRec (.ref c') qual->Q (.ref f) s') :
  wpAny (model X.prog X.w) X.A (eval (.Lambda params body scope lp) X.env) Q E s:=by
 obtain⟨htr,tb⟩:=tb;obtain⟨bm,ob,b1,b2,b3,b4,b5,b6⟩:=T.bm;have hPh:s.heap.get? P=some (PySem.W.tabObj ps):=I.hok P _ hP;have nP:∀ b o,X.base.get? b=some o->b≠P:=fun b o e z=>by
  have:=(I.bs b o e).2
  rw[z,hP] at this;cases this
 have hgP:mainGlobals≠P:=by
  obtain⟨o,es,ep,e,_⟩:=I.mod.glob;exact nP _ _ e
 have hbG:bm≠mainGlobals:=fun q=>by
  obtain⟨o,es,ep,e,hd,_⟩:=I.mod.glob;rw[q,e] at b3;cases b3;rw[hd] at b6;cases b6
 have BA:s.heap.BuiltinsAt X.mg P:=⟨bm,ob,b1,b2,hbG,nP _ _ b3,I.bk _ _ b3,b4,b5,b6⟩;refine PySem.W.kla_eval hdef ?_;rw[hq];rcases tb with hn | ⟨c',oc,hf,hc,vs,t,d1,d2⟩
 ·refine PySem.W.kla_makeFunction hcl I.ok.glob (I.mod.glob.keeps I.bk) hcode (T.hd.keeps I.bk) hPh htr hn hgP BA fun c' ctv h' tk hx hge hlt hrec htb=>?_;obtain⟨c2,oc,vs,t,e2,hoc,hd,hv⟩:=hrec;cases e2;have hfr:H c'=none:=I.hok.fresh hge;have hcP:c'≠P:=fun z=>by rw[z,hP] at hfr;cases hfr
  have bP:∀ b,H b=none->b≠P:=fun b e z=>by rw[z,hP] at e;cases e
  have bc:∀ b u,H b=some u->b≠c':=fun b u e z=>by rw[z,hfr] at e;cases e
  have lc:∀ b o,s.heap.get? b=some o->b≠c':=fun b o e=>Nat.ne_of_lt (Nat.lt_of_lt_of_le (Heap.lt_size e) hge);have kk:∀ (fo:Obj) b o,b≠P->s.heap.get? b=some o->(h'.push fo).get? b=some o:=fun fo b o n e=>Heap.get?_push_of_some _ (hx b o n e);refine h _ c' _ ctv (upd (upd H P (.tbl (ps++#[rawInt lp.line,rawInt lp.col,.ref c']))) c' (cdO c' oc)) _ (I.un ⟨?_,?_,?_,?_,?_,?_,?_⟩ ?_) (.inr ⟨c',oc,vs,t,hfr,hcP,rfl,hd,hv,hn⟩) (Heap.get?_push_size _ rfl) ⟨c',oc,vs,t,rfl,Heap.get?_push_of_some _ hoc,hd,hv⟩
  ·exact fun b o e n _ _=>kk _ b o (bP b n) e
  ·exact fun b o e n _ _=>⟨o.slots,kk _ b o (bP b n) e⟩
  ·exact fun b o e n _=>by rw[upd_ne (lc b o e),upd_ne (bP b n)];exact n
  ·intro b o e _
   by_cases z:b=P
   ·subst z;exact⟨_,Heap.get?_push_of_some _ htb⟩
   ·exact⟨o,kk _ b o z e⟩
  ·intro b xs e;have z:b≠P:=fun z=>by rw[z,hP] at e;cases e
   rw[upd_ne (bc b _ e),upd_ne z];exact e
  ·intro b o u e;have z:b≠P:=fun z=>by rw[z,hP] at e;cases e
   rw[upd_ne (bc b _ e),upd_ne z];exact e
  ·intro b qs e
   by_cases z:b=P
   ·subst z;rw[hP] at e;cases e;exact⟨_,by rw[upd_ne (Ne.symm hcP),aQ6]⟩
   ·exact⟨#[],by rw[upd_ne (bc b _ e),upd_ne z,e];simp⟩
  ·intro b u e
   by_cases z1:b=c'
   ·subst z1;rw[aQ6] at e;cases e;exact⟨Heap.get?_push_of_some _ hoc,⟨_,Heap.get?_push_of_some _ hoc⟩,fun h1 h2 q k=>k _ q⟩
   ·rw[upd_ne z1] at e
    by_cases z2:b=P
    ·subst z2;rw[aQ6] at e;cases e;exact Heap.get?_push_of_some _ htb
    ·rw[upd_ne z2] at e;refine(I.hok b u e).stay (fun b' o' hb' e'=>?_) (fun b' e'=>?_) (fun b' xs e'=>?_)
     ·refine kk _ b' o' ?_ e';rcases hb' with z | z
      ·rw[z];exact z2
      ·intro z3;rw[z3,hP] at z;cases z
     ·have z3:b'≠P:=fun z3=>by rw[z3,hP] at e';cases e'
      rw[upd_ne (bc b' _ e'),upd_ne z3];exact e'
     ·have z3:b'≠P:=fun z3=>by rw[z3,hP] at e';cases e'
      rw[upd_ne (bc b' _ e'),upd_ne z3];exact e'
 ·refine PySem.W.kla_makeFunctionHit hcl I.ok.glob (I.mod.glob.keeps I.bk) hcode (T.hd.keeps I.bk) hPh htr hf BA fun ctv h' tk hk hsz=>?_;have k2:∀ (fo:Obj) b o,s.heap.get? b=some o->(h'.push fo).get? b=some o:=fun fo b o e=>Heap.get?_push_of_some _ (hk b o e);have hoc:s.heap.get? c'=some oc:=(I.hok c' _ hc).1;exact h _ c' _ ctv H _ (I.kept (k2 _)) (.inl rfl) (Heap.get?_push_size _ rfl) ⟨c',oc,vs,t,rfl,k2 _ _ _ hoc,d1,d2⟩
end
def KeyV (K:Fg) (H:Hp) (us:List V) (ln:Nat->Nat) (bt:Nat->Nat->Bool):Prop :=
 (∀ (i:Nat) (x:V),us[i]?=some x->∃ b vs,x=.ref b/\SqT K H b vs/\vs.length=ln i) /\
 ∀ {X:Cx} {pins:List (Addr × Obj)} {σ:St} {s:Shared},Inv X pins σ H s->X.K=K->∀ A:Around,A.units + 9 < cLine->∀ i j x y u v t t',us[i]?=some x->us[j]?=some y->RelV x u->RelV y v ->
  HT.LexAt A s [.int (-(ln i:Int)) t,u] [.int (-(ln j:Int)) t',v] (bt i j)
section
variable {X:Cx} {K:Fg} {pos:Pos} {k:Nat}
theorem dZd {p0 p1 p2 p3 p4 p5 p6:Pos} {k:Nat} {f c:Addr} {qual:Str} {scope:Scope} {pm ctv d:Value} {y:V} {pins:List (Addr × Obj)} {s:Shared} {σ:St} {H:Hp} {a:Addr} {us:List V} {ln:Nat->Nat} {bt:Nat->Nat->Bool} {Q:VK}
  (hk:scope.kind=.function) (hco:scope.isCoroutine=false) (hgen:scope.isGenerator=false)
  (h1:scope.names.lookup ("some" : Str)=some .local) (h2:scope.names.lookup ("len" : Str)=some .globalImplicit) (hcell:∀ x∈scope.names,x.2≠.cell)
  (I:Inv X pins σ H s) (hK:X.K=K) (hu:X.A.units + 20 < cLine) (hdp:X.A.depth < recursionLimit) (hc:X.calm=true) (hm:X.mg "len" = none)
  (ho:s.heap.get? f=some (PySem.W.kla_obj "<lambda>" qual (keyP p0) (keyB p1 p2 p3 p4 p5 p6 k) scope [] pm c ctv)) (hcd:s.heap.CodeRec (.ref c) qual)
  (sq:SqL K H a us\/SqT K H a us) (cv:KeyV K H us ln bt) (ry:RelV y d) (hd:us=[]->Q y H) (q:∀ v,us[argBest bt (us.length - 1)]?=some v->Q v H) :
  wpAny (model X.prog X.w) X.A (call (.builtin "min") [.ref a] [(Str.ofString "key",.ref f),(Str.ofString "default",d)]) (fun v s'=>∃ x H',Inv X pins σ H' s'/\RelV x v/\Q x H') X.xe s:=by
 subst hK;have hh:X.A.in1.handled=none:=by simp[I.ok.hd hc]
 obtain⟨mb,m1,m2⟩:=I.mod.blt;have main:∀ (its:List Value),Vals us its->(∀ R':Value->Shared->Prop,(∀ I' h fp St,s.heap.objs.size<=I'->I'∈fp->(∀ b∈fp,b < h.objs.size)->Kp s.heap h->St 0 h->Walks X.prog X.w X.A.in1 I' fp [I'] its.length (fun i v=>its[i]?=some v) St->R' (.ref I') { s with heap:=h })->wpAny (model X.prog X.w) X.A.in1 (pyIter (.ref a)) R' X.xe s) ->
   wpAny (model X.prog X.w) X.A (call (.builtin "min") [.ref a] [(Str.ofString "key",.ref f),(Str.ofString "default",d)]) (fun v s'=>∃ x H',Inv X pins σ H' s'/\RelV x v/\Q x H') X.xe s:=by
  intro its rv it;have hl:=rv.length;have at_:∀ i v,its[i]?=some v->∃ x,us[i]?=some x/\RelV x v:=fun i v hi=>by
   have i1:i < its.length:=by
    rcases Nat.lt_or_ge i its.length with z | z
    ·exact z
    ·rw[List.getElem?_eq_none z] at hi;cases hi
   obtain⟨u1,e1,r1⟩:=rv.get (List.getElem?_eq_getElem (show i < us.length by lia))
   rw[hi] at e1;cases e1;exact⟨_,List.getElem?_eq_getElem (by lia),r1⟩
  refine cJm (bt:=bt) (vs:=its) (Key:=fun m i x h=>∃ b t v,x=.ref b/\m<=b/\its[i]?=some v/\IsTup h b #[.int (-(ln i:Int)) t,v]) ?_ it ?_ ?_ ?_ fun v h tk hv kp=>?_
  ·exact fun z h tk kp=>⟨y,H,I.kept kp,ry,hd (by subst z;exact List.eq_nil_of_length_eq_zero (by simpa using hl))⟩
  ·rintro m i x h h' ⟨b,t,v,e,hb,hi,o,eo,r⟩ kp kk;exact⟨b,t,v,e,hb,hi,o,kk b o hb eo,r⟩
  ·intro m i v h tk hi kp hmh;obtain⟨x,hx,rx⟩:=at_ i v hi;obtain⟨b,vs,rfl,st,hln⟩:=cv.1 i x hx;cases rx;obtain⟨ws,rw',pl,hz⟩:=I.tuple st;have hsz:ws.toArray.size=ln i:=by rw[<- hln,rw'.length];simp
   refine wpAny_mono (dZb (mg:=X.mg) (mb:=mb) (its:=ws.toArray) hk hco hgen h1 h2 hcell (show X.A.depth < recursionLimit from hdp) (kp _ _ ho) ?_ (I.nolimit.keeps kp) ((I.mod.glob.keeps I.bk).keeps kp) hm ((m1.keeps I.bk).keeps kp) ((m2 _ (by decide)).trans dZm) (pl.keeps kp) ?_) (fun x s' hh=>?_) fun _ _ z=>z
   ·obtain⟨c0,o0,vs0,t0,e0,g0,r0⟩:=hcd;exact⟨c0,o0,vs0,t0,e0,kp _ _ g0,r0⟩
   ·have:vs.length=ws.length:=rw'.length
    rw[hsz,<- hln];have z2:vs.length<=sizeLine:=hz;have z3:sizeLine < 2 ^ 62:=by decide
    lia
   ·obtain⟨h',tk',e,kp',b',t,ex,hb',it'⟩:=hh;rw[hsz] at it';exact⟨h',tk',e,kp',b',t,_,ex,Nat.le_trans hmh hb',hi,it'⟩
  ·rintro m i j vi vj h tk ⟨b,t,v,rfl,_,hi,ti⟩ ⟨b',t',v',rfl,_,hj,tj⟩ kp;obtain⟨x,hx,rx⟩:=at_ i v hi;obtain⟨x',hx',rx'⟩:=at_ j v' hj;exact HT.ltAt_tup ti tj (cv.2 (I.kept (t':=tk) kp) rfl X.A.in1.in1 (show X.A.units + 1 + 1 + 9 < cLine by lia) i j x x' v v' t t' hx hx' rx rx') (show X.A.units + 1 < cLine by lia)
  ·obtain⟨x,hx,rx⟩:=at_ _ v hv;exact⟨_,H,I.kept kp,rx,q _ (by rw[hl];exact hx)⟩
 rcases sq with sq | sq
 ·obtain⟨its,rv,p,hz⟩:=I.list sq;refine main its rv fun R' h=>wpAny_pyIter_list p.isList ?_;obtain⟨o,n,ho,_⟩:=id p;have hlt:a < s.heap.objs.size:=Heap.lt_size ho;have W:=Walks.list (prog:=X.prog) (w:=X.w) (A:=X.A.in1) hh s.heap.objs.size a (Nat.ne_of_lt hlt) its.toArray;have e1:its.toArray.size=its.length:=by simp
  have e2:(fun i v=>its.toArray[i]?=some v)=(fun(i:Nat) (v:Value)=>its[i]?=some v):=by funext i v;simp
  rw[e1,e2] at W;exact h _ _ _ _ (Nat.le_refl _) (by simp) (fun b hb=>by
   rw[Heap.size_push];rcases List.mem_cons.mp hb with rfl | hb
   ·exact Nat.lt_succ_self _
   ·rw[List.mem_singleton.mp hb];exact Nat.lt_succ_of_lt hlt) (fun b o e=>Heap.get?_push_of_some _ e) ⟨⟨_,Heap.get?_push_size _ rfl,rfl,rfl⟩,p.isList.at fun o e=>Heap.get?_push_of_some _ e⟩ W
 ·obtain⟨its,rv,p,hz⟩:=I.tuple sq;refine main its rv fun R' h=>wpAny_pyIter_tuple (show s.heap.IsTuple a its.toArray from p) ?_
  obtain⟨o,ho,_⟩:=id p;have hlt:a < s.heap.objs.size:=Heap.lt_size ho;have W:=Walks.tuple (prog:=X.prog) (w:=X.w) (A:=X.A.in1) hh s.heap.objs.size a (Nat.ne_of_lt hlt) its.toArray;have e1:its.toArray.size=its.length:=by simp
  have e2:(fun i v=>its.toArray[i]?=some v)=(fun(i:Nat) (v:Value)=>its[i]?=some v):=by funext i v;simp
  rw[e1,e2] at W;exact h _ _ _ _ (Nat.le_refl _) (by simp) (fun b hb=>by
   rw[Heap.size_push];rcases List.mem_cons.mp hb with rfl | hb
   ·exact Nat.lt_succ_self _
   ·rw[List.mem_singleton.mp hb];exact Nat.lt_succ_of_lt hlt) (fun b o e=>Heap.get?_push_of_some _ e) ⟨⟨_,Heap.get?_push_size _ rfl,rfl,rfl⟩,(show s.heap.IsTuple a its.toArray from p).at fun o e=>Heap.get?_push_of_some _ e⟩ W
def fX7 (K:Fg) (P:Addr) (lp:Pos) (qual:Str) (te:TE) (j:Nat):TE:=fun σ H Q=>te σ H fun x H1=>∃ ps,H1 P=some (.tbl ps)/\TbV H1 lp qual ps/\∃ y,σ[j]?=some (some y)/\∀ H2,Grow P lp qual ps H1 H2 ->
 ∃ a us ln bt,x=.ref a/\(SqL K H2 a us\/SqT K H2 a us)/\KeyV K H2 us ln bt/\(us=[]->Q y H2)/\∀ v,us[argBest bt (us.length - 1)]?=some v->Q v H2
theorem eZ4 {e:Expr} {c P:Addr} {qual xd:Str} {scope:Scope} {p p0 p1 p2 p3 p4 p5 p6 lp kp kp2 pd:Pos} {kk j:Nat} {te:TE} (hr:Room k X.A) (hg:Gl X "min") (hm:X.mg "min" = none) (hml:X.mg "len" = none)
  (he:PE X e te) (hN:X.N[j]?=some xd) (hv:Vis X.env.scope xd) (hcode:X.env.code=.ref c) (T:TabF X.base X.mg c P) (hq:X.env.qual ++ "<lambda>" = qual)
  (hk:scope.kind=.function) (hco:scope.isCoroutine=false) (hgen:scope.isGenerator=false)
  (h1:scope.names.lookup ("some" : Str)=some .local) (h2:scope.names.lookup ("len" : Str)=some .globalImplicit) (hcell:∀ x∈scope.names,x.2≠.cell) (hcl:closureFor scope X.env=pure []) (hK:X.K=K:=by rfl) (hc:X.calm=true:=by rfl)
  (hd:(xd == ("__debug__" : Str))=false:=by decide) (hcd:(xd == ("__classdict__" : Str))=false:=by decide)
  (g1:backTo pos (starEach [e] X.env)=[(false,eval e X.env)]:=by rfl) (g2:(backToKw pos (keywordEach [⟨some "key",.Lambda (keyP p0) (keyB p1 p2 p3 p4 p5 p6 kk) scope lp,kp⟩,⟨some "default",.Name xd pd,kp2⟩] X.env)).filterMap (·.1)=[("key" : Str),("default" : Str)]:=by rfl) :
  PE X (.Call (.Name "min" p) [e] [⟨some "key",.Lambda (keyP p0) (keyB p1 p2 p3 p4 p5 p6 kk) scope lp,kp⟩,⟨some "default",.Name xd pd,kp2⟩] pos) (fX7 K P lp qual te j):=by
 intro pins s σ H Q I h;refine wpAny_Call_Name_kw (ld_blt I hg hm (show bootBuiltins "min" = some (.builtin "min") from rfl) ?_ (by decide) (by decide))
 have h3:(backTo pos (starEach [e] X.env)).any (·.1)=false:=by rw[g1];rfl
 have h4:backTo pos (starEach [e] X.env)=(false,eval e X.env)::backTo pos (starEach [] X.env):=by rw[g1];rfl
 refine callWith_kw ?_ h4 h3 rfl rfl;rw[g1,g2];refine Calls.spliced_cons (thn (he pins s σ H _ I h) fun v s1 ⟨x,H1,I1,r1,ps,hP,tb,y,ey,q1⟩=>Calls.spliced_nil ?_);refine kws_cons (dZc I1 hP tb hcode T hq hcl rfl fun f c' pm ctv H2 s2 I2 gr ho hcr=>?_);obtain⟨a,us,ln,bt,e1,sq,cv,q2,q3⟩:=q1 H2 gr;subst e1;cases r1;obtain⟨m,hn,hl⟩:=id I2.loc;obtain⟨u,r,l⟩:=hl j xd y hN ey hv;have go:=dZd (Q:=Q) hk hco hgen h1 h2 hcell I2 hK (show X.A.units + 20 < cLine by have:=hr.un;lia) hr.depth hc hml ho hcr sq cv r q2 q3
 rcases l with⟨hkk,hmm⟩ | ⟨hkk,cc,hcc,hcell'⟩
 ·exact kws_cons (wpAny_Name (wpAny_loadName_local I2.ok.kind hkk hn hmm (kws_nil go)) hd)
 ·rcases hkk with hkk | hkk
  ·exact kws_cons (wpAny_Name (wpAny_loadName_cell I2.ok.kind hkk hcc hcell' (kws_nil go)) hd)
  ·exact kws_cons (wpAny_Name (wpAny_loadName_free I2.ok.kind hkk hcc hcell' (kws_nil go) hcd) hd)
end
section
variable {K:Fg} {F:Am} {S:Sto} {H H':Hp} {P:Addr} {lp:Pos} {qual:Str} {ps:Array Value}
theorem Rp.tb (r:Rp K F S H) (h:S P=some (.tb lp qual)):∃ ps,H P=some (.tbl ps)/\TbV H lp qual ps:=by
 obtain⟨ps,e,h1,h2⟩:=r.obj P _ h;exact⟨ps,e,h1,h2.imp id fun⟨c,oc,e1,_,e2⟩=>⟨c,oc,e1,e2⟩⟩
theorem Grow.ext (g:Grow P lp qual ps H H') (r:Rp K F S H) (h:S P=some (.tb lp qual)) (hP:H P=some (.tbl ps)) (tr:TriplesOk ps.toList):Ext S H S H'/\Rp K F S H':=by
 rcases g with rfl | ⟨c,oc,vs,t,hc,hcP,rfl,d1,d2,hn⟩
 ·exact⟨Ext.refl _ _,r⟩
 ·have ne:∀ a o,H a=some o->a≠c:=fun a o e z=>by rw[z,hc] at e;cases e
  have x:Ext S H S (upd (upd H P (.tbl (ps++#[rawInt lp.line,rawInt lp.col,.ref c]))) c (cdO c oc)):=by
   refine⟨fun a o h1 h2=>?_,fun a ha=>?_,fun a ha=>.inl ha⟩
   ·have z:a≠P:=fun z=>by rw[z,h] at h1;cases h1
    rw[upd_ne (ne a o h2),upd_ne z];exact h2
   ·by_cases z1:a=c
    ·rw[z1,aQ6];exact fun z=>by cases z
    ·rw[upd_ne z1]
     by_cases z2:a=P
     ·rw[z2,aQ6];exact fun z=>by cases z
     ·rw[upd_ne z2];exact ha
  refine⟨x,fun a o ha=>?_,fun a ha=>?_⟩
  ·by_cases z:a=P
   ·subst z;rw[h] at ha;cases ha;refine⟨_,by rw[upd_ne (Ne.symm hcP),aQ6],?_,.inr ⟨c,oc,?_,?_,aQ6,vs,t,d1,d2⟩⟩
    ·simpa using TriplesOk_snoc _ _ _ _ tr
    ·simpa using codeAmong_snoc (c:=.ref c) _ tr hn
    ·rintro(z | z)
     ·exact z (r.sn hc)
     ·obtain⟨⟨u,e,_⟩,_⟩:=r.frm c z;rw[hc] at e;cases e
   ·have q:=r.obj a o ha;refine q.keep x.kp ?_;have z1:a≠c:=fun z1=>by rw[z1] at q;exact q.live hc
    rw[upd_ne z1,upd_ne z]
  ·obtain⟨⟨u,e,ct⟩,h2⟩:=r.frm a ha;have z:a≠P:=fun z=>by rw[z,h] at h2;cases h2
   exact⟨⟨u,by rw[upd_ne (ne a u e),upd_ne z];exact e,ct⟩,h2⟩
end
def lnD:D->Nat
 | .tup xs=>xs.length
 | _=>0
def kyD (x:D):List D:=[.int (-(lnD x:Int)),x]
def ltK (x y:D):Bool:=lexN (ltN 8) (kyD x) (kyD y)
def okK (xs:List D):Prop:=(∀ a∈xs,∃ ys,a=.tup ys)/\∀ a∈xs,∀ b∈xs,okLs (okL 8) 8 (kyD a) (kyD b)=true
def bQ9 (b:D):List D->D
 | []=>b
 | x::xs=>bQ9 (if ltK x b=true then x else b) xs
abbrev btK (xs:List D):Nat->Nat->Bool:=fun i j=>ltK (xs.getD i .non) (xs.getD j .non)
theorem cZ6 (b:D) (xs:List D) (y:D):bQ9 b (xs++[y])=if ltK y (bQ9 b xs)=true then y else bQ9 b xs:=by
 induction xs generalizing b with
 | nil=>rfl
 | cons x xs ih=>exact ih _
theorem bXg (x:D) (xs:List D):∀ m,m<=xs.length->(x::xs)[argBest (btK (x::xs)) m]?=some (bQ9 x (xs.take m))
 | 0,_=>rfl
 | m + 1,hm=>by
  have ih:=bXg x xs m (by lia)
  have e1:(x::xs).getD (m + 1) .non=xs[m]'(by lia):=by
   rw[List.getD_eq_getElem?_getD,List.getElem?_cons_succ,List.getElem?_eq_getElem (by lia)];rfl
  have e2:(x::xs).getD (argBest (btK (x::xs)) m) .non=bQ9 x (xs.take m):=by
   rw[List.getD_eq_getElem?_getD,ih];rfl
  have e3:xs.take (m + 1)=xs.take m++[xs[m]'(by lia)]:=by rw[List.take_add_one,List.getElem?_eq_getElem (by lia)];rfl
  rw[e3,cZ6];show(x::xs)[if ltK ((x::xs).getD (m + 1) .non) ((x::xs).getD (argBest (btK (x::xs)) m) .non)=true then m + 1 else argBest (btK (x::xs)) m]?=_
  rw[e1,e2]
  split
  ·rw[List.getElem?_cons_succ,List.getElem?_eq_getElem (by lia)]
  ·exact ih
section
variable {X:Cx} {K:Fg} {pos:Pos} {k:Nat}
theorem eZ5 {M:Am} {H:Hp} {ds:List D} {us:List V} (l:RepL K M H ds us) (ok:okK ds):KeyV K H us (fun i=>lnD (ds.getD i .non)) (btK ds):=by
 have gd:∀ (i:Nat) d,ds[i]?=some d->ds.getD i .non=d:=fun i d e=>by rw[List.getD_eq_getElem?_getD,e];rfl
 refine⟨fun i x hx=>?_,?_⟩
 ·obtain⟨d,ed,rd⟩:=l.get' hx;obtain⟨ys,rfl⟩:=ok.1 d (List.mem_of_getElem? ed);show ∃ b vs,x=.ref b/\SqT K H b vs/\vs.length=lnD (ds.getD i .non);rw[gd i _ ed];unfold RepV at rd;obtain⟨a,xs,e,t,l'⟩:=rd;exact⟨a,xs,e,t.sq,l'.length⟩
 ·intro X pins σ s I hK A hA i j x y u v t t' hi hj rx ry;subst hK;obtain⟨d,ed,rd⟩:=l.get' hi;obtain⟨e,ee,re⟩:=l.get' hj;show HT.LexAt A s [.int (-(lnD (ds.getD i .non):Int)) t,u] [.int (-(lnD (ds.getD j .non):Int)) t',v] (ltK (ds.getD i .non) (ds.getD j .non));rw[gd i _ ed,gd j _ ee];refine cQ5 (M:=M) (n:=8) (xs:=[.int (-(lnD d:Int)),x]) (ys:=[.int (-(lnD e:Int)),y]) (fun p q r r' o=>(eq3 I 8 (by lia) p q r r' o).eq) (fun p q r r' o=>fQf I 8 (by lia) p q r r' o) ?_ ?_ ?_ ?_ (ok.2 d (List.mem_of_getElem? ed) e (List.mem_of_getElem? ee))
  ·exact RepL.cons (by unfold RepV;rfl) (RepL.cons rd RepL.nil)
  ·exact RepL.cons (by unfold RepV;rfl) (RepL.cons re RepL.nil)
  ·exact .cons ⟨_,rfl⟩ (.cons rx .nil)
  ·exact .cons ⟨_,rfl⟩ (.cons ry .nil)
def eZ6 (y:D):List D->D
 | []=>y
 | x::xs=>bQ9 x xs
def fX8 (P:Addr) (lp:Pos) (qual:Str) (te:ED) (j:Nat):ED:=fun Γ S Q=>te Γ S fun d S1=>S1 P=some (.tb lp qual)/\look Γ j fun y=>∃ xs,sqIs S1 d xs/\okK xs/\Q (eZ6 y xs) S1
theorem fQr {e:Expr} {c P:Addr} {qual xd:Str} {scope:Scope} {p p0 p1 p2 p3 p4 p5 p6 lp kp kp2 pd:Pos} {kk:Nat} (j:Nat) {te:ED} (hr:Room k X.A) (hg:Gl X "min") (hm:X.mg "min" = none) (hml:X.mg "len" = none) (T:TabF X.base X.mg c P)
  (he:PD K X e te) (hN:X.N[j]?=some xd:=by rfl) (hv:Vis X.env.scope xd:=by first | exact Or.inl rfl | exact Or.inr (Or.inl rfl) | exact Or.inr (Or.inr rfl)) (hcode:X.env.code=.ref c:=by rfl) (hq:X.env.qual ++ "<lambda>" = qual:=by rfl)
  (hk:scope.kind=.function:=by rfl) (hco:scope.isCoroutine=false:=by rfl) (hgen:scope.isGenerator=false:=by rfl)
  (h1:scope.names.lookup ("some" : Str)=some .local:=by rfl) (h2:scope.names.lookup ("len" : Str)=some .globalImplicit:=by rfl) (hcell:∀ x∈scope.names,x.2≠.cell:=by decide) (hcl:closureFor scope X.env=pure []:=by rfl) (hK:X.K=K:=by rfl) (hc:X.calm=true:=by rfl)
  (hd:(xd == ("__debug__" : Str))=false:=by decide) (hcd:(xd == ("__classdict__" : Str))=false:=by decide)
  (g1:backTo pos (starEach [e] X.env)=[(false,eval e X.env)]:=by rfl) (g2:(backToKw pos (keywordEach [⟨some "key",.Lambda (keyP p0) (keyB p1 p2 p3 p4 p5 p6 kk) scope lp,kp⟩,⟨some "default",.Name xd pd,kp2⟩] X.env)).filterMap (·.1)=[("key" : Str),("default" : Str)]:=by rfl) :
  PD K X (.Call (.Name "min" p) [e] [⟨some "key",.Lambda (keyP p0) (keyB p1 p2 p3 p4 p5 p6 kk) scope lp,kp⟩,⟨some "default",.Name xd pd,kp2⟩] pos) (fX8 P lp qual te j) :=
 .of (eZ4 hr hg hm hml he.o hN hv hcode T hq hk hco hgen h1 h2 hcell hcl hK hc hd hcd g1 g2) fun σ H Q z0=>z0.el fun F S Γ QD r g q c =>
  ⟨F,S,Γ,_,r,g,q,fun v d H1 S1 x1 r1 v1 ⟨hS,q1⟩=>by
   obtain⟨ps,hP,tb⟩:=r1.tb hS;obtain⟨y,yd,ey,ry,xs,hs,ok,q2⟩:=(g.ext x1).look q1;refine⟨ps,hP,tb,y,ey,fun H2 gr=>?_⟩;obtain⟨x2,r2⟩:=gr.ext r1 hS hP tb.1;obtain⟨a,us,rfl,sq,lu⟩:=hs.sq r2 (v1.ext x2);have c2:=Cn.shift c (x1.trans x2);refine⟨a,us,_,_,rfl,sq,eZ5 lu ok,fun z=>?_,fun v hv=>?_⟩
   ·subst z
    have:xs=[]:=List.eq_nil_of_length_eq_zero (by simpa using lu.length.symm)
    subst this;exact c2.here r2 (ry.ext x2) q2
   ·cases xs with
    | nil =>
     unfold RepL at lu;subst lu;cases hv
    | cons x xs =>
     have hl:=lu.length;have e:us.length - 1=xs.length:=by rw[hl];simp
     rw[e] at hv;obtain⟨d,ed,rd⟩:=lu.get' hv;rw[bXg x xs xs.length (Nat.le_refl _),List.take_length] at ed;cases ed;exact c2.here r2 rd q2⟩
end
section
variable {P:Program} {w:World} {K:PySem.W.Frag} {mg:Str->Option Value} {base:Heap} {k:Nat}
def bXh (K:PySem.W.Frag) (mg:Str->Option Value) (x:Str) (c:Addr):Prop:=∀ (f:Addr) (o:Obj) (fd:FuncData),mg x=some (.ref f)->K.lookup f=some o->o.data=.func fd->fd.code=.ref c
theorem fQs {x:Str} {st:Stmt} {N ps:List Str} {sp:SpD} {c:Addr} (T:Tx K mg x st) (C:bXh K mg x c) (S:FnScope N ps (aQ3 st))
  (b:∀ {f:Addr} {fd:FuncData},Fun K x x st f fd->Binds K fd ps []) (len:∀ ds S Q,sp ds S Q->ds.length=ps.length)
  (h:∀ (f:Addr) (A:Around) (outer:List Env) (s:Shared) (H:Hp) (E:XK),Room k (A.deeper (envOfC x (aQ3 st) s.heap.objs.size f (.ref c))) ->
   ∃ t,PSsD K (cxOf CX0 P w K mg base N x (aQ3 st) f (.ref c) A outer s H E).nox (aZ1 st) t/\∀ ds S Q,sp ds S Q->t (cZ1 Q) (aJ1 N ds) S):Df P w K mg base (k + 1) x ps (spU K sp):=by
 obtain⟨f,fd,Fn,m⟩:=T.ex;refine⟨f,fd,?_,b Fn,Fn.kp,m⟩;obtain⟨oc,od,kV,doc,pm,an,cdv,ct,osl,rfl,lk,hcd⟩:=Fn.ex;obtain rfl:cdv=.ref c:=C f _ _ m lk rfl;refine eX3 lk hcd S (fun vs H Q E ⟨F,S,ds,QD,r,l,hsp,c⟩=>by rw[l.length];exact len ds S QD hsp) (fun A outer s H vs Q E' hr ⟨F,S,ds,QD,r,l,hsp,c⟩=>?_)
 obtain⟨t,h1,h2⟩:=h f A outer s H E' hr;have fin:∀ v d H' S',Ext S H S' H'->Rp K F S' H'->RepV K (mt S' F) H' d v->rtD QD d S'->Q v H':=fun v d H' S' x1 r1 v1 ⟨d',S2,hs,fz,q⟩ =>
  c v d' H' S2 (x1.trans (Ext.less hs)) (r1.less hs) ((cJ1 r1 hs fz).1 v v1) q
 exact⟨_,h1.o.nox,F,S,aJ1 N ds,cZ1 QD,r,bZ8 l,h2 ds S QD hsp,fun Γ' S' σ' H' x1 r1 g1 q=>fin .non .non H' S' x1 r1 (by unfold RepV;rfl) q,fin,fun _ _ _ _ _ _ _ q=>q.elim,fun _ _ _ _ _ _ _ q=>q.elim⟩
end
end L2
set_option maxHeartbeats 4000000
namespace L2
open PySem
open Toy (ch aQi aQp ch_mem aZw)
end L2
namespace L2
open PySem
open Toy (ch aQi aQp ch_mem aZw)
end L2
namespace Toy
open PySem L2
end Toy
namespace L2
open PySem
open Toy (ch ch_mem aZw bXc)
end L2
namespace L2
open PySem
open Toy (ch ch_mem aZw)
end L2
namespace L2
open PySem
open Toy
end L2
namespace L2
open PySem
open Toy
theorem dZe (ts:List (List Str)) (i:Nat):cutD (ts.map tupS) none (some (i:Int))=(ts.take i).map tupS:=by
 show((ts.map tupS).drop 0).take (HT.sIx (ts.map tupS).length (ts.map tupS).length (some ((i:Nat):Int)) - 0)=_;rw[HT.sIx_nat,List.drop_zero,Nat.sub_zero,List.map_take];rcases Nat.le_total i (ts.map tupS).length with h | h
 ·rw[Nat.min_eq_left h]
 ·rw[Nat.min_eq_right h,List.take_length,List.take_of_length_le h]
theorem cQc {α:Type} {l:List α} {i:Nat} {x:α} (p:α->Bool) (h:l[i]?=some x):(l.take (i + 1)).filter p=(l.take i).filter p++if p x=true then [x] else []:=by
 rw[List.take_add_one,h,List.filter_append]
 congr 1
 show [x].filter p=_;rw[List.filter_cons]
 split <;> rfl
end L2
set_option maxHeartbeats 1000000
namespace L2
open PySem Toy
section
variable (ok:Nat->Bool) (g:Nat->List Str)
def ars2:Nat->List (List Nat × List Str)
 | 0=>[([],[])]
 | i + 1=>if ok i=true then ars2 i++((ars2 i).filter fun p=>((g i).filter fun n=>decide (n∈p.2)).isEmpty).map fun p=>(p.1++[i],p.2++g i) else ars2 i
theorem cQd:∀ i,(ars2 ok g i).length<=2 ^ i
 | 0=>Nat.le_refl _
 | i + 1=>by
  unfold ars2
  have:=cQd i
  rw[Nat.pow_succ]
  split
  ·rw[List.length_append,List.length_map]
   have:=List.length_filter_le (fun p:List Nat × List Str=>((g i).filter fun n=>decide (n∈p.2)).isEmpty) (ars2 ok g i)
   lia
  ·lia
theorem aZq:∀ i p,p∈ars2 ok g i↔p.1.Sublist ((List.range i).filter ok)/\p.2=(p.1.map g).flatten/\Apr g p.1
 | 0,p=>by
  unfold ars2;rw[List.mem_singleton,List.range_zero,List.filter_nil,List.sublist_nil];constructor
  ·rintro rfl;exact⟨rfl,rfl,List.Pairwise.nil⟩
  ·rintro⟨h1,h2,_⟩;obtain⟨a,b⟩:=p;simp only at h1 h2;subst h1;rw[h2];rfl
 | i + 1,p=>by
  have ih:=aZq i;unfold ars2
  by_cases hok:ok i=true
  ·rw[if_pos hok];have nomeet:∀ q:List Nat × List Str,q∈ars2 ok g i->((((g i).filter fun n=>decide (n∈q.2)).isEmpty=true)↔∀ a∈q.1,∀ x∈g a,x∉g i):=fun q hq=>by
    rw[List.isEmpty_iff,List.filter_eq_nil_iff,((ih q).mp hq).2.1];constructor
    ·intro h a ha x hx hxi;exact h x hxi (decide_eq_true (List.mem_flatten.mpr ⟨g a,List.mem_map.mpr ⟨a,ha,rfl⟩,hx⟩))
    ·intro h x hx hd;obtain⟨t,ht,hxt⟩:=List.mem_flatten.mp (of_decide_eq_true hd);obtain⟨a,ha,rfl⟩:=List.mem_map.mp ht;exact h a ha x hxt hx
   have ef:(List.range (i + 1)).filter ok=(List.range i).filter ok++[i]:=by
    rw[List.range_succ,List.filter_append];simp[hok]
   rw[List.mem_append,List.mem_map,ef,List.sublist_append_iff];constructor
   ·rintro(h | ⟨q,hq,rfl⟩)
    ·obtain⟨h1,h2,h3⟩:=(ih p).mp h;exact⟨⟨p.1,[],by simp,h1,by simp⟩,h2,h3⟩
    ·obtain⟨hq1,hq2⟩:=List.mem_filter.mp hq;obtain⟨h1,h2,h3⟩:=(ih q).mp hq1;refine⟨⟨q.1,[i],rfl,h1,List.Sublist.refl _⟩,by simp[h2],?_⟩
     unfold Apr;rw[List.pairwise_append];exact⟨h3,List.pairwise_singleton _ _,fun a ha b hb=>by rw[List.mem_singleton.mp hb];exact(nomeet q hq1).mp hq2 a ha⟩
   ·rintro⟨⟨r1,r2,e,s1,s2⟩,h2,h3⟩;have two:r2=[]\/r2=[i]:=by
     cases s2 with
     | cons _ h=>left;exact List.sublist_nil.mp h
     | cons_cons _ h=>right;rw[List.sublist_nil.mp h]
    rcases two with rfl | rfl
    ·rw[List.append_nil] at e;exact .inl ((ih p).mpr ⟨by rw[e];exact s1,h2,h3⟩)
    ·right
     unfold Apr at h3;rw[e,List.pairwise_append] at h3;have hq:(r1,(r1.map g).flatten)∈ars2 ok g i:=(ih _).mpr ⟨s1,rfl,h3.1⟩;refine⟨(r1,(r1.map g).flatten),List.mem_filter.mpr ⟨hq,(nomeet _ hq).mpr fun a ha=>h3.2.2 a ha i (by simp)⟩,?_⟩
     obtain⟨a,b⟩:=p;simp only at e h2;rw[h2,e];simp
  ·rw[if_neg hok,ih];have ef:(List.range (i + 1)).filter ok=(List.range i).filter ok:=by
    rw[List.range_succ,List.filter_append];simp[hok]
   rw[ef]
end
abbrev lft (core t:List Str):List Str:=t.filter fun n=>!decide (n∈core)
abbrev gT (ts:List (List Str)):Nat->List Str:=fun i=>ts.getD i []
abbrev okC (ts:List (List Str)) (core:List Str):Nat->Bool:=fun i=>has (gT ts i) core
abbrev arC (ts:List (List Str)) (core:List Str) (i:Nat):List (List Nat × List Str):=ars2 (okC ts core) (fun i=>lft core (gT ts i)) i
def lbs (ts:List (List Str)) (core:List Str):List Nat:=bst [] (((arC ts core ts.length).map (·.1)).filter fun r=>decide (1 < r.length))
theorem dXa (ts:List (List Str)) (core:List Str):∀ i∈lbs ts core,i < ts.length:=fun i hi=>by
 unfold lbs at hi;rcases List.mem_cons.mp (aXp (((arC ts core ts.length).map (·.1)).filter fun r=>decide (1 < r.length)) []).1 with z | z
 ·rw[z] at hi;cases hi
 ·obtain⟨p,hp,e⟩:=List.mem_map.mp (List.mem_filter.mp z).1;rw[<- e] at hi;exact List.mem_range.mp (List.mem_filter.mp (((aZq _ _ _ _).mp hp).1.subset hi)).1
theorem cJn (ts:List (List Str)) (core:List Str):(lbs ts core).length<=ts.length:=by
 unfold lbs;rcases List.mem_cons.mp (aXp (((arC ts core ts.length).map (·.1)).filter fun r=>decide (1 < r.length)) []).1 with z | z
 ·rw[z];exact Nat.zero_le _
 ·obtain⟨p,hp,e⟩:=List.mem_map.mp (List.mem_filter.mp z).1;rw[<- e];exact Nat.le_trans ((aZq _ _ _ _).mp hp).1.length_le (Nat.le_trans (List.length_filter_le _ _) (by rw[List.length_range];exact Nat.le_refl _))
theorem bQ0 {a b core:List Str} (ha:Srt a) (hc:Srt core) (h1:has a core=true) (h2:has b core=true):(a.filter fun x=>decide (x∈b))=core↔∀ x∈lft core a,x∉lft core b:=by
 rw[has_iff] at h1 h2;constructor
 ·intro h x hx hb;simp only[lft,List.mem_filter,Bool.not_eq_true',decide_eq_false_iff_not] at hx hb;exact hx.2 (by rw[<- h];exact List.mem_filter.mpr ⟨hx.1,decide_eq_true hb.1⟩)
 ·intro h;refine Srt.ext (List.Pairwise.filter _ ha) hc fun n=>?_;rw[List.mem_filter,decide_eq_true_iff];constructor
  ·rintro⟨n1,n2⟩;refine Classical.byContradiction fun z=>h n (List.mem_filter.mpr ⟨n1,by simp[z]⟩) (List.mem_filter.mpr ⟨n2,by simp[z]⟩)
  ·exact fun hn=>⟨h1 n hn,h2 n hn⟩
theorem cJo (ts:List (List Str)):ts=(List.range ts.length).map (gT ts):=by
 apply List.ext_getElem (by simp)
 intro i h1 h2;simp[gT,List.getD_eq_getElem?_getD,List.getElem?_eq_getElem h1]
theorem cJp {ts r:List (List Str)} {core:List Str} (hs:SrtT ts) (he:∀ t∈ts,Srt t) (hc:Srt core) (h:MfS (hav ts core) (mtg (hav ts core) core) (-1) r) (h2:2<=r.length):r=(lbs ts core).map (gT ts)/\lbs ts core≠[]/\∀ i∈lbs ts core,i < ts.length:=by
 have eI:hav ts core=((List.range ts.length).filter (okC ts core)).map (gT ts):=by
  have:hav ts core=((List.range ts.length).map (gT ts)).filter fun t=>has t core:=by rw[<- cJo];rfl
  rw[this,List.filter_map];rfl
 have nd:(hav ts core).Nodup:=hs.nodup.filter _;have hsub:∀ t∈hav ts core,Srt t:=fun t ht=>he t (List.mem_filter.mp ht).1;have hhas:∀ t∈hav ts core,has t core=true:=fun t ht=>(List.mem_filter.mp ht).2;generalize hI:(List.range ts.length).filter (okC ts core)=idx at eI;have eC:∀ k,ch (hav ts core) k=(ch idx k).map fun s=>s.map (gT ts):=fun k=>(congrArg (fun z=>ch z k) eI).trans (ch_map _ _ _);unfold lbs;obtain⟨hb1,hb2⟩:=aXp (((arC ts core ts.length).map (·.1)).filter fun r=>decide (1 < r.length)) [];generalize bst [] (((arC ts core ts.length).map (·.1)).filter fun r=>decide (1 < r.length))=B at hb1 hb2;have inA:∀ row:List Nat,row∈((arC ts core ts.length).map (·.1)).filter (fun r=>decide (1 < r.length))↔row.Sublist idx/\Apr (fun i=>lft core (gT ts i)) row/\1 < row.length:=fun row=>by
  rw[List.mem_filter,List.mem_map,decide_eq_true_iff];constructor
  ·rintro⟨⟨p,hp,rfl⟩,hl⟩;obtain⟨h1,_,h3⟩:=(aZq _ _ _ _).mp hp;rw[hI] at h1;exact⟨h1,h3,hl⟩
  ·rintro⟨h1,h3,hl⟩;exact⟨⟨(row,(row.map fun i=>lft core (gT ts i)).flatten),(aZq _ _ _ _).mpr ⟨by rw[hI];exact h1,rfl,h3⟩,rfl⟩,hl⟩
 have free:∀ row:List Nat,row.Sublist idx->(aZf (mtg (hav ts core) core) (row.map (gT ts))↔Apr (fun i=>lft core (gT ts i)) row):=fun row hr=>by
  have hr':(row.map (gT ts)).Sublist (hav ts core):=by rw[eI];exact hr.map _
  rw[cQa hsub nd hr'];unfold Apr;rw[List.pairwise_map];have mem:∀ a∈row,gT ts a∈hav ts core:=fun a ha=>hr'.subset (List.mem_map_of_mem ha);constructor
  ·intro hp;refine(List.Pairwise.and_mem.mp hp).imp fun {a b} ⟨ha,hb,hab⟩=>?_;exact(bQ0 (hsub _ (mem a ha)) hc (hhas _ (mem a ha)) (hhas _ (mem b hb))).mp hab
  ·intro hp;refine(List.Pairwise.and_mem.mp hp).imp fun {a b} ⟨ha,hb,hab⟩=>?_;exact(bQ0 (hsub _ (mem a ha)) hc (hhas _ (mem a ha)) (hhas _ (mem b hb))).mpr hab
 have hf:=h.fst;rw[eC,List.filter_map,List.head?_map,Option.map_eq_some_iff] at hf;obtain⟨row0,hr0,rfl⟩:=hf;rw[List.length_map] at h2;have m0:=List.mem_of_head? hr0;obtain⟨m1,m2⟩:=List.mem_filter.mp m0;obtain⟨l0,s0⟩:=ch_mem m1;have a0:Apr (fun i=>lft core (gT ts i)) row0:=(free row0 s0).mp (frB_iff.mp m2);have nb:=hb2 row0 (List.mem_cons_of_mem _ ((inA row0).mpr ⟨s0,a0,by lia⟩))
 have lB2:row0.length<=B.length:=by
  unfold bet at nb;refine Classical.byContradiction fun z=>?_;rw[if_neg (by lia)] at nb
  have:=of_decide_eq_false nb
  lia
 have hB:B∈((arC ts core ts.length).map (·.1)).filter (fun r=>decide (1 < r.length)):=by
  rcases List.mem_cons.mp hb1 with z | z
  ·rw[z] at lB2;simp at lB2;rw[lB2] at h2;simp at h2
  ·exact z
 obtain⟨sB,aB,_⟩:=(inA B).mp hB;have fB:=(free B sB).mpr aB;have lB:B.length<=row0.length:=by
  have h1:(B.map (gT ts)).Sublist (hav ts core):=by rw[eI];exact sB.map _
  have:=h.most _ h1 fB
  rw[List.length_map,List.length_map] at this;exact this
 have hl:row0.length=B.length:=by lia
 unfold bet at nb;rw[if_pos hl] at nb;have srI:idx.Pairwise (fun a b=>ltn a b=true):=by
  rw[<- hI];exact((List.pairwise_lt_range (n:=ts.length)).imp fun h=>decide_eq_true h).filter _
 have hltI:∀ i∈idx,i < ts.length:=fun i hi=>by
  rw[<- hI] at hi;exact List.mem_range.mp (List.mem_filter.mp hi).1
 have:row0=B:=by
  refine Classical.byContradiction fun z=>?_;have mB:B∈(ch idx (row0.map (gT ts)).length).filter (frB (mtg (hav ts core) core) ∘ fun s=>s.map (gT ts)):=by
   refine List.mem_filter.mpr ⟨?_,frB_iff.mpr fB⟩;rw[List.length_map,hl];exact aZw sB
  have srt:=(cJh (lt:=ltn) (fun a=>by simp) (row0.map (gT ts)).length srI).filter (frB (mtg (hav ts core) core) ∘ fun s=>s.map (gT ts))
  cases e:(ch idx (row0.map (gT ts)).length).filter (frB (mtg (hav ts core) core) ∘ fun s=>s.map (gT ts)) with
  | nil=>rw[e] at mB;cases mB
  | cons y ys =>
   rw[e] at mB srt hr0;cases hr0;rcases List.mem_cons.mp mB with q | q
   ·exact z q.symm
   ·have:=(List.pairwise_cons.mp srt).1 B q
    rw[this] at nb;cases nb
 rw[this];refine⟨rfl,fun z=>?_,fun i hi=>hltI i (sB.subset hi)⟩;rw[z] at hl;rw[hl] at h2;simp at h2
theorem dZf {ts:List (List Str)} (hs:SrtT ts) {i j:Nat} (hi:i < ts.length) (hj:j < ts.length) (h:i < j):HT.lexS (gT ts i) (gT ts j)=true:=by
 have:=List.pairwise_iff_getElem.mp hs i j hi hj h
 simp only[gT,List.getD_eq_getElem?_getD,List.getElem?_eq_getElem hi,List.getElem?_eq_getElem hj];exact this
theorem fQt {ts:List (List Str)} (hs:SrtT ts) {i j:Nat} (hi:i < ts.length) (hj:j < ts.length) (h:gT ts i=gT ts j):i=j:=by
 rcases Nat.lt_trichotomy i j with z | z | z
 ·have:=dZf hs hi hj z;rw[h,aXn] at this;cases this
 ·exact z
 ·have:=dZf hs hj hi z;rw[h,aXn] at this;cases this
theorem cQe {ts:List (List Str)} (hs:SrtT ts):∀ {a b:List Nat},(∀ i∈a,i < ts.length)->(∀ i∈b,i < ts.length)->lexG HT.lexS (a.map (gT ts)) (b.map (gT ts))=lexG ltn a b
 | [],[],_,_=>rfl
 | [],_::_,_,_=>rfl
 | _::_,[],_,_=>rfl
 | x::a,y::b,ha,hb=>by
  have hx:=ha x (by simp)
  have hy:=hb y (by simp)
  show(if gT ts x=gT ts y then lexG HT.lexS (a.map (gT ts)) (b.map (gT ts)) else HT.lexS (gT ts x) (gT ts y))=if x=y then lexG ltn a b else ltn x y
  by_cases e:x=y
  ·subst e;rw[if_pos rfl,if_pos rfl];exact cQe hs (fun i hi=>ha i (List.mem_cons_of_mem _ hi)) fun i hi=>hb i (List.mem_cons_of_mem _ hi)
  ·rw[if_neg fun z=>e (fQt hs hx hy z),if_neg e];rcases Nat.lt_or_gt_of_ne e with z | z
   ·rw[dZf hs hx hy z];exact(decide_eq_true z).symm
   ·have h1:=dZf hs hy hx z;have h2:HT.lexS (gT ts x) (gT ts y)=false:=HT.lexS_as h1;rw[h2];exact(decide_eq_false (by lia)).symm
abbrev rowD (ts:List (List Str)) (a:List Nat):D:=.tup ((a.map (gT ts)).map tupS)
def resD (ts:List (List Str)):List Nat->D
 | []=>.non
 | x::r=>rowD ts (x::r)
theorem fQu (x y:List (List Str)):ltK (.tup (x.map tupS)) (.tup (y.map tupS))=if x.length=y.length then lexG HT.lexS x y else decide (y.length < x.length):=by
 have l2:ltN 8 (.tup (x.map tupS)) (.tup (y.map tupS))=lexG setE.lt x y:=flE.lte 8 x y (by decide)
 rw[eQt] at l2;have e1:lnD (.tup (x.map tupS))=x.length:=by show(x.map tupS).length=_;simp
 have e2:lnD (.tup (y.map tupS))=y.length:=by show(y.map tupS).length=_;simp
 show(if D.int (-(lnD (.tup (x.map tupS)):Int))=D.int (-(lnD (.tup (y.map tupS)):Int)) then (if D.tup (x.map tupS)=D.tup (y.map tupS) then false else ltN 8 (.tup (x.map tupS)) (.tup (y.map tupS))) else ltN 8 (D.int (-(lnD (.tup (x.map tupS)):Int))) (D.int (-(lnD (.tup (y.map tupS)):Int))))=_
 rw[e1,e2,l2]
 by_cases e:x.length=y.length
 ·rw[if_pos e,if_pos (by rw[e])]
  split
  ·next h =>
   have:x=y:=flE.inj h
   rw[this];have ir:∀ l:List (List Str),lexG HT.lexS l l=false:=fun l=>by
    induction l with
    | nil=>rfl
    | cons a l ih=>unfold lexG;rw[if_pos rfl];exact ih
   rw[ir]
  ·rfl
 ·rw[if_neg e,if_neg (fun z=>e (by injection z with z;lia))]
  show decide (-(x.length:Int) < -(y.length:Int))=_;exact decide_eq_decide.mpr (by lia)
theorem dZg {ts:List (List Str)} (hs:SrtT ts) {a b:List Nat} (ha:∀ i∈a,i < ts.length) (hb:∀ i∈b,i < ts.length):ltK (rowD ts a) (rowD ts b)=bet a b:=by
 rw[fQu,List.length_map,List.length_map,cQe hs ha hb];rfl
theorem fQv (xs:List (List (List Str))):okK (xs.map fun x=>D.tup (x.map tupS)):=by
 refine⟨fun a ha=>?_,fun a ha b hb=>?_⟩
 ·obtain⟨x,_,rfl⟩:=List.mem_map.mp ha;exact⟨_,rfl⟩
 ·obtain⟨x,_,rfl⟩:=List.mem_map.mp ha;obtain⟨y,_,rfl⟩:=List.mem_map.mp hb;have l1:okL 8 (.tup (x.map tupS)) (.tup (y.map tupS))=true:=flE.okl 8 x y (by decide)
  have l3:okE 8 (.tup (x.map tupS)) (.tup (y.map tupS))=true:=flE.ok 8 x y (by decide)
  show(okE 8 (D.int (-(lnD (.tup (x.map tupS)):Int))) (D.int (-(lnD (.tup (y.map tupS)):Int))) && (if D.int (-(lnD (.tup (x.map tupS)):Int))=D.int (-(lnD (.tup (y.map tupS)):Int)) then (okE 8 (.tup (x.map tupS)) (.tup (y.map tupS)) && (if D.tup (x.map tupS)=D.tup (y.map tupS) then true else okL 8 (.tup (x.map tupS)) (.tup (y.map tupS)))) else okL 8 (D.int (-(lnD (.tup (x.map tupS)):Int))) (D.int (-(lnD (.tup (y.map tupS)):Int)))))=true
  rw[l1,l3];have h1:∀ i j:Int,okE 8 (D.int i) (D.int j)=true:=fun _ _=>rfl;have h2:∀ i j:Int,okL 8 (D.int i) (D.int j)=true:=fun _ _=>rfl;rw[h1,h2]
  split
  ·split <;> rfl
  ·rfl
theorem aXy {ts:List (List Str)} (hs:SrtT ts):∀ (l:List (List Nat)) (b:List Nat),(∀ i∈b,i < ts.length)->(∀ r∈l,∀ i∈r,i < ts.length)->bQ9 (rowD ts b) (l.map (rowD ts))=rowD ts (bst b l)
 | [],_,_,_=>rfl
 | x::l,b,hb,hl=>by
  have hx:=hl x (by simp)
  show bQ9 (if ltK (rowD ts x) (rowD ts b)=true then rowD ts x else rowD ts b) (l.map (rowD ts))=rowD ts (bst (if bet x b=true then x else b) l)
  rw[dZg hs hx hb]
  by_cases c:bet x b=true
  ·rw[if_pos c,if_pos c];exact aXy hs l x hx fun r hr=>hl r (List.mem_cons_of_mem _ hr)
  ·rw[if_neg c,if_neg c];exact aXy hs l b hb fun r hr=>hl r (List.mem_cons_of_mem _ hr)
theorem cQf (b:List Nat) (l:List (List Nat)) (x:List Nat):bst b (l++[x])=if bet x (bst b l)=true then x else bst b l:=by
 unfold bst;rw[List.foldl_append];rfl
theorem eZ7 (b:List Nat):bet [] b=false:=by
 unfold bet;cases b with
 | nil=>rfl
 | cons x b=>rw[if_neg (by simp)];simp
theorem bet_cons (x:Nat) (a:List Nat):bet (x::a) []=true:=by
 unfold bet;rw[if_neg (by simp)];simp
theorem cQg {α:Type}:∀ xs:List α,2 * (ch xs 2).length<=xs.length * (xs.length - 1)
 | []=>by simp[dX4]
 | x::xs=>by
  have ih:=cQg xs;rw[aQi,List.length_append,List.length_map,dX5,List.length_map,List.length_cons,Nat.add_sub_cancel];have e:(xs.length + 1) * xs.length=xs.length * (xs.length - 1) + 2 * xs.length:=by
   cases xs with
   | nil=>rfl
   | cons y ys=>simp only[List.length_cons,Nat.add_sub_cancel];rw[Nat.mul_comm (ys.length + 1) ys.length,<- Nat.add_mul]
  lia
def mets (ts:List (List Str)):List (List Str):=(ch ts 2).map mt2
theorem cQh (ts:List (List Str)) (h:ts.length<=14):(mets ts).length<=91:=by
 have h1:=cQg ts;have h2:ts.length * (ts.length - 1)<=14 * 13:=Nat.mul_le_mul h (by lia)
 unfold mets;rw[List.length_map];lia
theorem bXi {ts:List (List Str)} {n:Nat} (h:∀ t∈ts,t.length<=n) {c:List Str} (hc:c∈mets ts):c.length<=n:=by
 obtain⟨p,hp,rfl⟩:=List.mem_map.mp hc;obtain⟨a,b,rfl,hab⟩:=aZc hp;exact Nat.le_trans (List.length_filter_le _ _) (h a (hab.subset (by simp)))
theorem cJq {ts:List (List Str)} (hs:SrtT ts) (he:∀ t∈ts,Srt t) {core:List Str} (h:core∈mets ts):Srt core/\∀ r,MfS (hav ts core) (mtg (hav ts core) core) (-1) r->2<=r.length:=by
 obtain⟨p,hp,rfl⟩:=List.mem_map.mp h;obtain⟨a,b,rfl,hab⟩:=aZc hp;have ha:=he a (hab.subset (by simp))
 have hb:=he b (hab.subset (by simp))
 refine⟨List.Pairwise.filter _ ha,fun r hr=>?_⟩;have sub:[a,b].Sublist (hav ts (mt2 [a,b])):=by
  have h1:=hab.filter fun t=>has t (mt2 [a,b]);have e:[a,b].filter (fun t=>has t (mt2 [a,b]))=[a,b]:=by
   rw[List.filter_eq_self];intro t ht;rw[has_iff];intro x hx;have hx':=List.mem_filter.mp hx;rcases List.mem_cons.mp ht with rfl | ht
   ·exact hx'.1
   ·rw[List.mem_singleton.mp ht];exact of_decide_eq_true hx'.2
  rw[e] at h1;exact h1
 have:=hr.most [a,b] sub ((cQa (fun t ht=>he t (List.mem_filter.mp ht).1) (hs.nodup.filter _) sub).mpr (by
  refine List.pairwise_cons.mpr ⟨fun c hc=>?_,List.pairwise_singleton _ _⟩;rw[List.mem_singleton.mp hc];rfl))
 exact this
def metL (ts:List (List Str)):Nat->List (List Str)
 | 0=>[]
 | k + 1=>metL ts k++(ts.take k).map fun o=>(gT ts k).filter fun x=>decide (x∈o)
theorem bZj (ts:List (List Str)):∀ k,2 * (metL ts k).length<=k * (k - 1)
 | 0=>by simp[metL]
 | k + 1=>by
  have ih:=bZj ts k;unfold metL;rw[List.length_append,List.length_map,List.length_take,Nat.add_sub_cancel];have e:(k + 1) * k=k * (k - 1) + 2 * k:=by
   cases k with
   | zero=>rfl
   | succ m=>simp only[Nat.add_sub_cancel];rw[Nat.mul_comm (m + 1) m,<- Nat.add_mul]
  have:min k ts.length<=k:=Nat.min_le_left _ _
  lia
theorem bZk {ts:List (List Str)} {x:List Str}:∀ n,x∈metL ts n↔∃ k,k < n/\∃ o∈ts.take k,x=(gT ts k).filter fun y=>decide (y∈o)
 | 0=>by simp[metL]
 | n + 1=>by
  unfold metL;rw[List.mem_append,bZk n,List.mem_map];constructor
  ·rintro(⟨k,hk,h⟩ | ⟨o,ho,e⟩)
   ·exact⟨k,by lia,h⟩
   ·exact⟨n,by lia,o,ho,e.symm⟩
  ·rintro⟨k,hk,o,ho,e⟩
   by_cases z:k=n
   ·subst z;exact .inr ⟨o,ho,e.symm⟩
   ·exact .inl ⟨k,by lia,o,ho,e⟩
theorem cJr {a b:List Str}:∀ {ts:List (List Str)},[a,b].Sublist ts->∃ k,k < ts.length/\gT ts k=b/\a∈ts.take k
 | [],h=>by cases h
 | x::xs,h=>by
  cases h with
  | cons _ h =>
   obtain⟨k,h1,h2,h3⟩:=cJr h;exact⟨k + 1,by rw[List.length_cons];lia,h2,by rw[List.take_succ_cons];exact List.mem_cons_of_mem _ h3⟩
  | cons_cons _ h =>
   obtain⟨k,hk,e⟩:=List.getElem_of_mem (h.subset (by simp:b∈[b]))
   refine⟨k + 1,by rw[List.length_cons];lia,?_,by rw[List.take_succ_cons];exact List.mem_cons_self⟩
   show xs.getD k []=b;rw[List.getD_eq_getElem?_getD,List.getElem?_eq_getElem hk,e];rfl
theorem bXj {ts:List (List Str)} (he:∀ t∈ts,Srt t) (x:List Str):x∈metL ts ts.length↔x∈mets ts:=by
 rw[bZk];unfold mets;rw[List.mem_map];constructor
 ·rintro⟨k,hk,o,ho,rfl⟩;have hg:gT ts k=ts[k]:=by show ts.getD k []=_;rw[List.getD_eq_getElem?_getD,List.getElem?_eq_getElem hk];rfl
  have sub:[o,gT ts k].Sublist ts:=by
   have h1:[o].Sublist (ts.take k):=List.singleton_sublist.mpr ho;have h2:[gT ts k].Sublist (ts.drop k):=List.singleton_sublist.mpr (by rw[hg,List.drop_eq_getElem_cons hk];exact List.mem_cons_self)
   have:=h1.append h2
   rwa [List.take_append_drop] at this
  refine⟨[o,gT ts k],aZw sub,?_⟩;exact aXo (he _ (sub.subset (by simp))) (he _ (sub.subset (by simp)))
 ·rintro⟨p,hp,rfl⟩;obtain⟨a,b,rfl,hab⟩:=aZc hp;obtain⟨k,h1,h2,h3⟩:=cJr hab;refine⟨k,h1,a,h3,?_⟩;rw[h2];exact aXo (he _ (hab.subset (by simp))) (he _ (hab.subset (by simp)))
theorem fQw {ts:List (List Str)} {c:List Str} (he:∀ t∈ts,Srt t) (h:c∈mets ts):lbs ts c≠[]:=by
 obtain⟨k,hk,o,ho,rfl⟩:=(bZk _).mp ((bXj he c).mpr h);obtain⟨i,hi,ei⟩:=List.getElem_of_mem ho;rw[List.length_take] at hi;have hik:i < k:=by lia
 have hin:i < ts.length:=by lia
 have go:gT ts i=o:=by
  show ts.getD i []=o;rw[List.getD_eq_getElem?_getD,List.getElem?_eq_getElem hin,<- ei,List.getElem_take];rfl
 have sk:Srt (gT ts k):=he _ (by show ts.getD k []∈ts;rw[List.getD_eq_getElem?_getD,List.getElem?_eq_getElem hk];exact List.getElem_mem hk)
 have so:Srt o:=he _ (List.mem_of_mem_take ho);generalize hc:((gT ts k).filter fun y=>decide (y∈o))=c;have sc:Srt c:=by rw[<- hc];exact List.Pairwise.filter _ sk
 have h1:has (gT ts k) c=true:=has_iff.mpr fun x hx=>by rw[<- hc] at hx;exact(List.mem_filter.mp hx).1
 have h2:has (gT ts i) c=true:=has_iff.mpr fun x hx=>by rw[<- hc] at hx;rw[go];exact of_decide_eq_true (List.mem_filter.mp hx).2
 have sub:[i,k].Sublist (List.range ts.length):=by
  have s1:[i].Sublist ((List.range ts.length).take k):=List.singleton_sublist.mpr (by rw[List.take_range];exact List.mem_range.mpr (by lia))
  have s2:[k].Sublist ((List.range ts.length).drop k):=List.singleton_sublist.mpr (by
   rw[List.drop_eq_getElem_cons (by rw[List.length_range];exact hk),List.getElem_range];exact List.mem_cons_self)
  have:=s1.append s2
  rwa [List.take_append_drop] at this
 have sub2:[i,k].Sublist ((List.range ts.length).filter (okC ts c)):=by
  have:=sub.filter (okC ts c)
  have e:[i,k].filter (okC ts c)=[i,k]:=by
   rw[List.filter_eq_self];intro a ha;rcases List.mem_cons.mp ha with rfl | ha
   ·exact h2
   ·rw[List.mem_singleton.mp ha];exact h1
  rwa [e] at this
 have ap:Apr (fun i=>lft c (gT ts i)) [i,k]:=by
  refine List.pairwise_cons.mpr ⟨fun b hb=>?_,List.pairwise_singleton _ _⟩;rw[List.mem_singleton.mp hb];refine(bQ0 (by rw[go];exact so) sc h2 h1).mp ?_
  rw[<- hc,go];exact aXo so sk
 have mem:[i,k]∈[]::((ars2 (okC ts c) (fun i=>lft c (gT ts i)) ts.length).map (·.1)).filter (fun r=>decide (1 < r.length)):=by
  refine List.mem_cons_of_mem _ (List.mem_filter.mpr ⟨List.mem_map.mpr ⟨([i,k],([i,k].map fun i=>lft c (gT ts i)).flatten),(aZq _ _ _ _).mpr ⟨sub2,rfl,ap⟩,rfl⟩,by simp⟩)
 have:=(aXp _ []).2 _ mem
 intro z;unfold lbs at z;rw[z] at this;rw[bet_cons] at this;cases this
theorem bst_cons_ne (x:Nat) (a:List Nat) (l:List (List Nat)):bst (x::a) l≠[]:=fun z=>by
 have:=(aXp l (x::a)).2 _ List.mem_cons_self
 rw[z,bet_cons] at this;cases this
theorem cQi (a b:List Nat):okL 8 (.tup [.int (0 - ((a.map natE.e).length:Int)),.lst (a.map natE.e)]) (.tup [.int (0 - ((b.map natE.e).length:Int)),.lst (b.map natE.e)])=true/\ltN 8 (.tup [.int (0 - ((a.map natE.e).length:Int)),.lst (a.map natE.e)]) (.tup [.int (0 - ((b.map natE.e).length:Int)),.lst (b.map natE.e)])=bet a b:=by
 rw[List.length_map,List.length_map];have l1:okL 7 (.lst (a.map natE.e)) (.lst (b.map natE.e))=true:=(tupE natE).okl 7 a b (by decide)
 have l2:ltN 7 (.lst (a.map natE.e)) (.lst (b.map natE.e))=lexG ltn a b:=(tupE natE).lte 7 a b (by decide)
 have l3:okE 7 (.lst (a.map natE.e)) (.lst (b.map natE.e))=true:=(tupE natE).ok 7 a b (by decide)
 constructor
 ·show(okE 7 (D.int (0 - (a.length:Int))) (D.int (0 - (b.length:Int))) && (if D.int (0 - (a.length:Int))=D.int (0 - (b.length:Int)) then (okE 7 (.lst (a.map natE.e)) (.lst (b.map natE.e)) && (if D.lst (a.map natE.e)=D.lst (b.map natE.e) then true else okL 7 (.lst (a.map natE.e)) (.lst (b.map natE.e)))) else okL 7 (D.int (0 - (a.length:Int))) (D.int (0 - (b.length:Int)))))=true
  rw[l1,l3];have h1:∀ i j:Int,okE 7 (D.int i) (D.int j)=true:=fun _ _=>rfl;have h2:∀ i j:Int,okL 7 (D.int i) (D.int j)=true:=fun _ _=>rfl;rw[h1,h2]
  split
  ·split <;> rfl
  ·rfl
 ·show(if D.int (0 - (a.length:Int))=D.int (0 - (b.length:Int)) then (if D.lst (a.map natE.e)=D.lst (b.map natE.e) then false else ltN 7 (.lst (a.map natE.e)) (.lst (b.map natE.e))) else ltN 7 (D.int (0 - (a.length:Int))) (D.int (0 - (b.length:Int))))=bet a b
  unfold bet;rw[l2]
  by_cases e:a.length=b.length
  ·rw[if_pos e,if_pos (by rw[e])]
   split
   ·next h =>
    have:a=b:=by
     injection h with h
     exact aJx (fun a b e=>natE.inj e) h
    rw[this,bJ9]
   ·rfl
  ·rw[if_neg e,if_neg (fun z=>e (by injection z with z;lia))]
   show decide (0 - (a.length:Int) < 0 - (b.length:Int))=_;exact decide_eq_decide.mpr (by lia)
end L2
namespace Toy
open PySem L2
abbrev s_cores_of_two:Stmt:=top 9
theorem sc_cores_of_two:FnScope ["sets"] ["sets"] (aQ3 s_cores_of_two):=fsc
def aZx:SpD:=fun ds S Q=>∃ (ts:List (List Str)),ds=[.tup (ts.map tupS)]/\ts.length<=14/\(∀ t∈ts,t.length<=12)/\∀ out,SrtT out->(∀ t,t∈out↔t∈mets ts)->Q (.lst (out.map tupS)) S
section
variable {P:Program} {w:World} {K:PySem.W.Frag} {mg:Str->Option Value} {base:Heap} {pt cc:Addr}
theorem bQ1 (T:Tx K mg "cores_of_two" s_cores_of_two) (B:Bs mg) (d_choices_of:Df P w K mg base 9 "choices_of" ["things", "many"] (spU K aZo)) (d_meet_of:Df P w K mg base 9 "meet_of" ["one", "other"] (spU K aXx)):Df P w K mg base 10 "cores_of_two" ["sets"] (spU K aZx):=by
 refine aX2 T sc_cores_of_two (fun F=>F.binds fun _ _ _ _ _ _=>us1 fun _=>rfl) ?_ fun f cdv A outer s H E hr=>⟨_,(aQ5 (aQm (eQp (N':=["one", "other"]) (oc:=none) (b:=false) [0,1] [] hr rfl B.sorted rfl sc_cores_of_two.nd (fun _ _ _=>cJa _ _ _ _ _ _ _ _ _) (.own (.own .nil)) (aQh rfl) (aZ7 (aQa d_choices_of hr rfl (aQ0 (dv 0) (aQ0 aQ4 aQ1)))) (cXs (i:=0) (j:=1)) (fun _ _ _ _ _=>cZ8 rfl (aXg (aQe (i:=0) (nd_ ["one", "other"]) rfl (Or.inl rfl) (.inr rfl)) (aXg (aQe (i:=1) (nd_ ["one", "other"]) rfl (Or.inl rfl) (.inr rfl)) bXl))) (fun _ _ _ _ _=>aZm) fQi (fun _ _ _ _ _ _=>(dQz (kn:=cZ2 _ _ _) rfl (lt10 hr) rfl rfl rfl (by exact PD.o (aQa d_meet_of hr rfl (aQ0 (dv 0) (aQ0 (dv 1) aQ1))))))))),?_⟩
 ·rintro ds S Q ⟨ts,rfl,_⟩;rfl
 ·rintro ds S Q ⟨ts,rfl,h14,he,q⟩;have ml:=cQh ts h14;have ml2:(Toy.ch ts 2).length<=91:=by rw[mets,List.length_map] at ml;exact ml
  refine⟨ts.map tupS,2,rfl,by decide,by rw[List.length_map];lia,(Toy.ch ts 2).map (fun s=>D.tup (s.map tupS)),(by show _=_;rw[Toy.ch_map,List.map_map];rfl),?_⟩
  refine bZa (fun i acc S'=>S'=S/\acc=(((Toy.ch ts 2).take i).map mt2).map tupS) ⟨rfl,rfl⟩ ?_ ?_
  ·rintro i x acc S' N hx ⟨rfl,rfl⟩ hN;rw[List.getElem?_map,Option.map_eq_some_iff] at hx;obtain⟨p,hp,rfl⟩:=hx;obtain⟨a,b,rfl,hab⟩:=aZc (List.mem_of_getElem? hp);have hi:=(List.getElem?_eq_some_iff.mp hp).1;have ha:=he a (hab.subset (by simp))
   refine⟨trivial,rfl,rfl,a,b,rfl,by lia,mt2 [a,b],rfl,?_,hN _ _ ⟨rfl,?_⟩⟩
   ·rw[List.length_map,List.length_map,List.length_take];lia
   ·rw[List.take_add_one,hp,List.map_append,List.map_append];rfl
  ·rintro acc S' ⟨rfl,rfl⟩;rw[List.length_map,List.take_length];refine⟨trivial,mets ts,rfl,fun out ond omem=>⟨?_,fun opw=>aQf (q out opw omem)⟩⟩
   have:=ond.length_le_of_subset fun t ht=>(omem t).mp ht
   lia
end
end Toy
namespace L2
open PySem PySem.Spec PyProof.Rows
theorem cJs {P:Program} {w:World} {K:PySem.W.Frag} {mg mb:Str->Option Value} {k:Nat} {fa a c pt:Addr} {fd:FuncData} {x:Str} {sp:Sp} {s₁:Shared} {vs:List Value} {ns:List Int}
  (KX:K.In s₁.heap) (hns:s₁.heap.Ns mainGlobals mg) (hb:s₁.heap.Ns builtinsNs mb) (hbb:∀ x:Str,x ≠ "__name__"->mb x=bootBuiltins x) (hlim:s₁.heap.NoLimit) (hg:s₁.gens=#[])
  (ha:s₁.heap.get? a=some { cls:=.type "list",data:=.seq vs.toArray }) (hi:IntsAre vs ns) (hl:ns.length<=sizeLine) (hr:Room k callerA)
  (T:TabF s₁.heap mg c pt) (hpt:s₁.heap.get? pt=some (PySem.W.tabObj #[])) (noP:K.lookup pt=none)
  (F:∀ base:Heap,K.In base->base.Ns mainGlobals mg->TabF base mg c pt->FnOk P w K mg base CX0 k fa fd [x] sp) (hbind:∀ (s:Shared) (u:Value),BindsTo s fd ⟨[u],[]⟩ [(x,u)])
  (hsp:∀ H:Hp,H pt=some (.tbl #[])->SqL K H a (ns.map V.int)->sp [.ref a] H (fun v _=>v=.bl true) fun _ _ _=>False) :
  codeAny (model P w) callerA (.call (.ref fa) ⟨[.ref a],[]⟩) (fun r s'=>r=.ok (.ret (.bool true))/\OldK s₁.heap s'.heap/\s'.os=s₁.os/\AllBare s'.gens) s₁:=by
 have rv:=aJd hi;have lenV:=hi.length;have hap:a≠pt:=fun z=>by rw[z,hpt] at ha;cases ha
 have core:∀ H:Hp,H pt=some (.tbl #[])->(∀ b,b≠pt->H b=none\/∃ o xs,H b=some (.frz o (.lst xs)))->SqL K H a (ns.map V.int)->HOk P w H s₁.heap->(∀ b,H b≠none->b=a\/b=pt)->(H a≠none->K.lookup a=none) ->
   codeAny (model P w) callerA (.call (.ref fa) ⟨[.ref a],[]⟩) (fun r s'=>r=.ok (.ret (.bool true))/\OldK s₁.heap s'.heap/\s'.os=s₁.os/\AllBare s'.gens) s₁:=by
  intro H hP hO hS hok hA hK;have base_of:∀ {b:Addr} {o:Obj},s₁.heap.get? b=some o->H b=none->(hidT s₁.heap H).get? b=some o:=fun e n=>cJw e n;have free:∀ {b:Addr} {o:Obj},s₁.heap.get? b=some o->(∀ xs n,o.data≠.seq xs n)->o≠PySem.W.tabObj #[]->H b=none:=fun {b o} e n1 n2=>by
   cases q:H b with
   | none=>rfl
   | some u =>
    rcases hA b (by rw[q];simp) with e' | e'
    ·subst e';rw[ha] at e;cases e;exact absurd rfl (n1 _ _)
    ·subst e';rw[hpt] at e;cases e;exact absurd rfl n2
  have noA:∀ {b:Addr} {o:Obj} {es:Array DictEntry} {ep:Nat},s₁.heap.get? b=some o->o.data=.dict es ep->H b=none:=fun {b o es ep} e d =>
   free e (fun xs n z=>by rw[d] at z;cases z) fun z=>by rw[z] at d;cases d
  have nsK:∀ {b:Addr} {m:Str->Option Value},s₁.heap.Ns b m->(hidT s₁.heap H).Ns b m:=fun {b m} ⟨o,es,ep,e,d,r⟩=>⟨o,es,ep,base_of e (noA e d),d,r⟩;have hKb:K.In (hidT s₁.heap H):=fun b o e=>base_of (KX b o e) (by
   cases q:H b with
   | none=>rfl
   | some u =>
    rcases hA b (by rw[q];simp) with e' | e'
    ·subst e';rw[hK (by rw[q];simp)] at e;cases e
    ·subst e';rw[noP] at e;cases e)
  have hM:Mod K mg (hidT s₁.heap H):=⟨hKb,nsK hns,⟨mb,nsK hb,hbb⟩,let ⟨mc,h1,h2⟩:=hlim;⟨mc,nsK h1,h2⟩⟩
  have hT:TabF (hidT s₁.heap H) mg c pt:=by
   refine⟨?_,?_⟩
   ·obtain⟨o,us,file,tf,flags,tg,inF,text,tt,e,cl,d,r⟩:=T.hd;exact⟨o,us,file,tf,flags,tg,inF,text,tt,base_of e (free e (fun xs n z=>by rw[d] at z;cases z) fun z=>by rw[z] at cl;cases cl),cl,d,r⟩
   ·obtain⟨bm,ob,b1,b2,b3,b4,b5,b6⟩:=T.bm;exact⟨bm,ob,b1,b2,base_of b3 (free b3 (fun xs n z=>by rw[b6] at z;cases z) fun z=>by rw[z] at b6;cases b6),b4,b5,b6⟩
  have e0:Env0 P w K mg (hidT s₁.heap H) callerA [] s₁ H:=⟨rfl,hM,fun b o e=>dXd e,Nat.le_of_eq (cZ7 _ _),trivial,fun b hb=>absurd (show b∈([]:List Addr) from hb) (by simp),hok,.of_eq hg⟩
  refine codeAny_mono ((F _ hKb (nsK hns) hT).run callerA [] s₁ H ⟨[.ref a],[]⟩ [.ref a] [.ref a] _ _ hr e0 (hbind s₁ (.ref a)) (.cons rfl .nil) (hsp H hP hS)) fun r s' h=>?_;cases r with
  | error e=>exact False.elim h
  | ok fl =>
   cases fl with
   | next=>exact False.elim h
   | brk=>exact False.elim h
   | cont=>exact False.elim h
   | ret u =>
    obtain⟨v,H',os,bare,un,hok',r',q⟩:=h;have q':v=.bl true:=q;subst q';obtain rfl:u=Value.bool true:=r';have keep:∀ b o,b≠pt->s₁.heap.get? b=some o->s'.heap.get? b=some o:=fun b o nb e=>by
     cases q:H b with
     | none=>exact un.keep b o e q (by intro z;exact absurd (show b∈([]:List Addr) from z) (by simp)) (by simp)
     | some u =>
      rcases hO b nb with z | ⟨ob,xs,z⟩
      ·rw[q] at z;cases z
      ·have z2:=un.frzs b ob _ z;obtain⟨e1,_⟩:=hok b _ z;obtain⟨e2,_⟩:=hok' b _ z2;rw[e] at e1;cases e1;exact e2
    obtain⟨more,em⟩:=un.tbls pt #[] hP;have gm:s'.heap.get? pt=some (PySem.W.tabObj (#[]++more)):=hok' pt _ em;refine⟨rfl,⟨fun b o e=>?_,fun b o e=>?_⟩,os,bare⟩
    ·by_cases z:b=pt
     ·subst z;rw[hpt] at e;cases e;exact .inr (.inl ⟨(T.hd.tab hpt).isCodeTable,rfl,#[],more,rfl,gm⟩)
     ·exact .inl (keep b o z e)
    ·by_cases z:b=pt
     ·subst z;exact⟨_,gm⟩
     ·exact⟨o,keep b o z e⟩
 cases hk:K.lookup a with
 | some o =>
  have e:=KX a o hk;rw[ha] at e;cases e;refine core (fun b=>if b=pt then some (.tbl #[]) else none) (if_pos rfl) (fun b hb=>.inl (if_neg hb)) (.inr ⟨_,vs.toArray,_,hk,rfl,rfl,rfl,by rw[List.size_toArray,lenV];exact hl,by simpa using rv⟩) (fun b u z=>?_) (fun b z=>?_) fun z=>absurd (if_neg hap) z
  ·by_cases hb:b=pt
   ·have z':=(if_pos hb).symm.trans z;cases z';subst hb;exact hpt
   ·have z':=(if_neg hb).symm.trans z;cases z'
  ·by_cases hb:b=pt
   ·exact .inr hb
   ·exact absurd (if_neg hb) z
 | none =>
  refine core (fun b=>if b=pt then some (.tbl #[]) else if b=a then some (.frz { cls:=.type "list",data:=.seq vs.toArray } (.lst (ns.map V.int))) else none) (if_pos rfl) (fun b hp=>?_) (.inl (.inr ⟨{ cls:=.type "list",data:=.seq vs.toArray },(if_neg hap).trans (if_pos rfl)⟩)) (fun b u z=>?_) (fun b z=>?_) fun _=>hk
  ·by_cases hb:b=a
   ·exact .inr ⟨_,_,(if_neg hp).trans (if_pos hb)⟩
   ·exact .inl ((if_neg hp).trans (if_neg hb))
  ·by_cases hp:b=pt
   ·have z':=(if_pos hp).symm.trans z;cases z';subst hp;exact hpt
   ·have z:=(if_neg hp).symm.trans z
    by_cases hb:b=a
    ·have z':=(if_pos hb).symm.trans z;cases z';subst hb;exact⟨ha,by rw[List.length_map];exact hl,vs,_,rv,ha⟩
    ·have z':=(if_neg hb).symm.trans z;cases z'
  ·by_cases hp:b=pt
   ·exact .inr hp
   ·by_cases hb:b=a
    ·exact .inl hb
    ·exact absurd ((if_neg hp).trans (if_neg hb)) z
def cQj (pt:Addr) (lp:Pos) (qual:Str) (n:Nat):SpD:=fun ds S Q=>∃ ns:List Int,ds=[.lst (ns.map D.int)]/\ns.length<=n/\S pt=some (.tb lp qual)/\(∀ a,a≠pt->S a=none)/\∀ S',Q (.bl true) S'
theorem eZ8 {K:Fg} {n:Nat} {H:Hp} {a pt:Addr} {lp:Pos} {qual:Str} {ns:List Int} (hl:ns.length<=n) (hP:H pt=some (.tbl #[])) (hS:SqL K H a (ns.map V.int)):spU K (cQj pt lp qual n) [.ref a] H (fun v _=>v=.bl true) fun _ _ _=>False:=by
 have ha:a≠pt\/SqL K (fun _=>none) a (ns.map V.int):=by
  rcases hS with r | z
  ·refine .inl fun z=>?_;rcases r with r | ⟨o,r⟩ <;> rw[z,hP] at r <;> cases r
  ·exact .inr (.inr z)
 refine⟨fun _=>False,fun b=>if b=pt then some (.tb lp qual) else none,[.lst (ns.map D.int)],fun d _=>d=.bl true,⟨fun b o e=>?_,fun _ (h:False)=>h.elim⟩,RepL.cons ?_ RepL.nil,⟨ns,rfl,hl,if_pos rfl,fun b hb=>if_neg hb,fun _=>rfl⟩,fun v d H' S' _ _ h e=>by subst e;exact rbl h⟩
 ·by_cases hb:b=pt
  ·rw[if_pos hb] at e;cases e;subst hb;exact⟨#[],hP,trivial,.inl rfl⟩
  ·rw[if_neg hb] at e;cases e
 ·unfold RepV;refine⟨a,_,rfl,?_,fQ1⟩;rcases ha with ha | z
  ·rcases hS with r | z
   ·exact .inl ⟨fun z=>z.elim (fun w=>w (if_neg ha)) id,r⟩
   ·exact .inr (.inr z)
  ·exact .inr z
def cJt (K:PySem.W.Frag) (x:Str) (c:Addr):Prop:=∃ f oc od fd sl,PySem.W.nsIn K mainGlobals x=some (some (.ref f))/\K.lookup f=some ⟨oc,od,.func fd,sl⟩/\fd.code=.ref c
theorem codeIn_mk {K:PySem.W.Frag} {x:Str} {c f:Addr} {oc:Value} {od:Option Addr} {fd:FuncData} {sl:Array (Option Value)} (a:PySem.W.nsIn K mainGlobals x=some (some (.ref f))) (l:K.lookup f=some ⟨oc,od,.func fd,sl⟩) (e:fd.code=.ref c):cJt K x c:=⟨f,oc,od,fd,sl,a,l,e⟩
theorem cJu {K:PySem.W.Frag} {h:Heap} {mg:Str->Option Value} {x:Str} {c:Addr} (X:K.In h) (G:h.Ns mainGlobals mg) (ht:cJt K x c):bXh K mg x c:=by
 obtain⟨f',oc,od,fd',sl,a,l,e⟩:=ht;intro f o fd m lk hd;have e1:=PySem.W.mg_of X G a;rw[m] at e1;cases e1;rw[l] at lk;cases lk;cases hd;exact e
def fQx (st:Stmt):Pos:=match aZ1 st with
 | [.Return (some (.Call _ _ (⟨_,.Lambda _ _ _ p,_⟩::_) _)) _]=>p
 | _=>⟨0,0,0,0⟩
abbrev lamQual (x:Str):Str:=x ++ ".<locals>." ++ "<lambda>"
theorem walkT {l:PySem.W.OpenLaw} {q:Program} {loose:List Str} {XP:(Str->Option Value)->Heap->Prop} {YP:World->Heap->Prop} {d:DefRec} {K:Params->PySem.W.Frag} {lp:Pos} {qual x:Str} {pt:Addr} (hn:l.most=some 63) (hdf:d.params.defaults=[])
  (hY:∀ (w:World) (h:Heap),YP w h->(K w.params).In h/\h.get? pt=some (PySem.W.tabObj #[]))
  (R:∃ c:Addr,(∀ p,cJt (K p) x c)/\(∀ p,PySem.W.codeHdIn (K p) c pt=true)/\(∀ p,(K p).lookup pt=none) /\
   ∀ (w:World) (mg:Str->Option Value) (fa:Addr) (h:Heap),(K w.params).In h->h.Ns mainGlobals mg->mg d.name=some (.ref fa)->bXh (K w.params) mg x c ->
   ∃ fd:FuncData,(∀ (s:Shared) (u:Value),BindsTo s fd ⟨[u],[]⟩ [("script",u)])/\∀ base:Heap,(K w.params).In base->base.Ns mainGlobals mg->TabF base mg c pt->FnOk l.prog w (K w.params) mg base CX0 50 fa fd ["script"] (spU (K w.params) (cQj pt lp qual 63))) :
  PySem.W.WalkO q loose XP YP l.row.toRowW d [] (fun f vs=>PySem.call f vs):=by
 obtain⟨c,ht,hh,hno,F⟩:=R;refine Att.attach_call hn hdf fun w s₀ s₁ mg mb fa o pm cd doc a vs ns G Y ho hd hcd hmg hobj hints hlen hg=>?_;obtain⟨KX,hp⟩:=hY w _ Y;obtain⟨fd,hb,hF⟩:=F w mg fa _ KX G.T.g hmg (cJu KX G.T.g (ht _));exact cJs KX G.T.g G.T.b G.T.builtins G.T.nolimit hg hobj hints (Nat.le_trans hlen (by decide)) ⟨rfl,by decide,by decide⟩ ⟨PySem.W.codeHd_of_K KX (hh _),G.T.bmain⟩ hp (hno _) hF hb fun H hP hS=>eZ8 hlen hP hS
end L2
namespace Toy
open PySem L2
abbrev s_first_of_longest:Stmt:=top 8
theorem aXe:FnScope ["found", "otherwise"] ["found", "otherwise"] (aQ3 s_first_of_longest):=fsc
abbrev lpos:Pos:=fQx s_first_of_longest
def dXb (pt:Addr):SpD:=fun ds S Q=>∃ (d y:D) (xs:List D),ds=[d,y]/\S pt=some (.tb lpos (lamQual "first_of_longest"))/\sqIs S d xs/\okK xs/\Q (eZ6 y xs) S
section
variable {P:Program} {w:World} {K:PySem.W.Frag} {mg:Str->Option Value} {base:Heap} {pt cc:Addr}
theorem aXf (T:Tx K mg "first_of_longest" s_first_of_longest) (B:Bs mg) (CD:bXh K mg "first_of_longest" cc) (TF:TabF base mg cc pt):Df P w K mg base 1 "first_of_longest" ["found", "otherwise"] (spU K (dXb pt)):=by
 refine fQs T CD aXe (fun F=>F.binds fun _ _ _ _ _ _=>us2 fun _ _=>rfl) ?_ fun f A outer s H E hr=>⟨_,(aQ5 (aQm (fQr 1 hr rfl B.min B.len TF (dv 0)))),?_⟩
 ·rintro ds S Q ⟨d,y,xs,rfl,_⟩;rfl
 ·rintro ds S Q ⟨d,y,xs,rfl,hP,hs,ok,q⟩;exact⟨hP,xs,hs,ok,aQf q⟩
end
abbrev s_greatest_flower:Stmt:=top 7
theorem sc_greatest_flower:FnScope ["sets", "found"] ["sets"] (aQ3 s_greatest_flower):=fsc
def grt (ts:List (List Str)):List (List Str)->D
 | []=>.non
 | c::cs=>rowD ts (bst (lbs ts c) (cs.map (lbs ts)))
def dXc (pt:Addr):SpD:=fun ds S Q=>∃ (ts:List (List Str)),ds=[.tup (ts.map tupS)]/\S pt=some (.tb lpos (lamQual "first_of_longest"))/\SrtT ts/\ts.length<=14/\(∀ t∈ts,Srt t/\t.length<=12)/\∀ out,SrtT out->(∀ t,t∈out↔t∈mets ts)->Q (grt ts out) S
section
variable {P:Program} {w:World} {K:PySem.W.Frag} {mg:Str->Option Value} {base:Heap} {pt cc:Addr}
theorem aXq (T:Tx K mg "greatest_flower" s_greatest_flower) (B:Bs mg) (d_most_beside:Df P w K mg base 38 "most_beside" ["sets", "core"] (spU K aX6)) (d_cores_of_two:Df P w K mg base 38 "cores_of_two" ["sets"] (spU K aZx)) (d_first_of_longest:Df P w K mg base 38 "first_of_longest" ["found", "otherwise"] (spU K (dXb pt))):Df P w K mg base 39 "greatest_flower" ["sets"] (spU K (dXc pt)):=by
 refine aX2 T sc_greatest_flower (fun F=>F.binds fun _ _ _ _ _ _=>us1 fun _=>rfl) ?_ fun f cdv A outer s H E hr=>⟨_,(aQ2 (bZ6 (i:=1) rfl (Or.inl rfl) (N':=["core", "sets"]) (oc:=none) (b:=false) [0] [] rfl sc_greatest_flower.nd (fun _ _ _=>aQd _ _ _ _ _ _ _ _ _) (.own (.cap (i:=0) rfl (by decide +kernel) .nil)) (aQh rfl) (aZ7 (aQa d_cores_of_two hr rfl (aQ0 (dv 0) aQ1))) (cg_name (i:=0)) (fun _ _ _ _ _=>aQe (i:=0) (nd_ ["core", "sets"]) rfl (Or.inl rfl) (.inr rfl)) (fun _ _ _ _ _=>aZm) aQl (fun _ _ _ _ _ _=>aQk rfl (by exact PD.o (aQa d_most_beside hr rfl (aQ0 (dv 1) (aQ0 (dv 0) aQ1))))))
  (aQ5 (aQm (aQa d_first_of_longest hr rfl (aQ0 (dv 1) (aQ0 bZ1 aQ1)))))),?_⟩
 ·rintro ds S Q ⟨ts,rfl,_⟩;rfl
 ·rintro ds S Q ⟨ts,rfl,hP,hs,h14,he,q⟩;refine⟨ts,rfl,h14,fun t ht=>(he t ht).2,fun out os om=>?_⟩;have ol:out.length<=91:=Nat.le_trans (os.nodup.length_le_of_subset fun t ht=>(om t).mp ht) (cQh ts h14);have bc:∀ c∈out,∀ r,MfS (hav ts c) (mtg (hav ts c) c) (-1) r->r=(lbs ts c).map (gT ts)/\lbs ts c≠[]/\∀ i∈lbs ts c,i < ts.length:=fun c hc r hr=>by
   obtain⟨h1,h2⟩:=cJq hs (fun t ht=>(he t ht).1) ((om c).mp hc);exact cJp hs (fun t ht=>(he t ht).1) h1 hr (h2 r hr)
  refine⟨_,rfl,aZn (f:=fun c=>rowD ts (lbs ts c)) (fun c hc Q q=>⟨ts,c,rfl,hs,h14,he,Nat.le_trans (bXi (fun t ht=>(he t ht).2) ((om c).mp hc)) (by decide),fun r hr=>?_⟩) (aQg (by show 0 + out.length<=_;lia)) ?_⟩
  ·rw[(bc c hc r hr).1];exact q
  rw[List.nil_append];have e:out.map (fun c=>rowD ts (lbs ts c))=(out.map fun c=>(lbs ts c).map (gT ts)).map fun x=>D.tup (x.map tupS):=by rw[List.map_map];rfl
  refine⟨_,_,_,rfl,hP,rfl,by rw[e];exact fQv _,aQf ?_⟩
  have lt:∀ c∈out,∀ i∈lbs ts c,i < ts.length:=fun c hc=>by
   obtain⟨h1,h2⟩:=cJq hs (fun t ht=>(he t ht).1) ((om c).mp hc);exact dXa ts c
  have e2:eZ6 .non (out.map fun c=>rowD ts (lbs ts c))=grt ts out:=by
   cases out with
   | nil=>rfl
   | cons c cs =>
    show bQ9 (rowD ts (lbs ts c)) (cs.map fun c=>rowD ts (lbs ts c))=rowD ts (bst (lbs ts c) (cs.map (lbs ts)));rw[<- aXy hs _ _ (lt c (by simp)) (fun r hr=>?_),List.map_map]
    ·rfl
    ·obtain⟨d,hd,rfl⟩:=List.mem_map.mp hr;exact lt d (List.mem_cons_of_mem _ hd)
  rw[e2];exact q out os om
end
abbrev s_law_meet:Stmt:=top 17
theorem sc_law_meet:FnScope ["one", "other"] ["one", "other"] (aQ3 s_law_meet):=fsc
def bQ2:SpD:=fun ds S Q=>∃ a b:List Str,ds=[tupS a,tupS b]/\a.length<=9999/\Q (tupS (a.filter fun x=>decide (x∈b))) S
section
variable {P:Program} {w:World} {K:PySem.W.Frag} {mg:Str->Option Value} {base:Heap} {pt cc:Addr}
theorem bJa (T:Tx K mg "_law_meet" s_law_meet) (B:Bs mg):Df P w K mg base 1 "_law_meet" ["one", "other"] (spU K bQ2):=by
 refine aX2 T sc_law_meet (fun F=>F.binds fun _ _ _ _ _ _=>us2 fun _ _=>rfl) ?_ fun f cdv A outer s H E hr=>⟨_,(aQ5 (aQm (aXb rfl B.tuple (aQ0 (aZ0 (N':=["name", "other"]) (oc:=none) (b:=false) [0] [] rfl sc_law_meet.nd (fun _ _ _=>aQd _ _ _ _ _ _ _ _ _) (.own (.cap (i:=1) rfl (by decide +kernel) .nil)) (aQh rfl) (aZ7 (dv 0)) (cg_name (i:=0)) (fun _ _ _ _ _=>aQe (i:=0) (nd_ ["name", "other"]) rfl (Or.inl rfl) (.inr rfl)) (fun _ _ _ _ _=>aQw (by exact(eQ5 hr (dv 0) (dv 1)))) aQl (fun _ _ _ _ _ _=>aQk rfl (by exact PD.o (dv 0)))) aQ1)))),?_⟩
 ·rintro ds S Q ⟨one,row,rfl,_⟩;rfl
 ·rintro ds S Q ⟨one,row,rfl,hl,q⟩;exact⟨one.map D.str,rfl,aQo (p:=fun n=>decide (n∈row)) (f:=D.str) (fun x hx Q q=>in_t (neg:=false) (E:=strE) (by decide) rfl q) (fun x hx _ Q q=>q) (aQg (by show 0 + one.length<=_;lia)) ⟨_,rfl,aQf q⟩⟩
end
abbrev s_law_best:Stmt:=top 18
theorem sc_law_best:FnScope ["sets", "core", "best", "rows", "at", "one", "left", "more", "row", "taken"] ["sets", "core"] (aQ3 s_law_best):=fsc
def encA (p:List Nat × List Str):D:=.tup [.lst (p.1.map natE.e),.lst (p.2.map D.str)]
def bQ3:SpD:=fun ds S Q=>∃ (ts:List (List Str)) (core:List Str),ds=[.tup (ts.map tupS),tupS core]/\ts.length<=14/\(∀ t∈ts,t.length<=12)/\core.length<=12/\Q (.lst ((lbs ts core).map natE.e)) S
section
variable {P:Program} {w:World} {K:PySem.W.Frag} {mg:Str->Option Value} {base:Heap} {pt cc:Addr}
theorem bJb (T:Tx K mg "_law_best" s_law_best) (B:Bs mg):Df P w K mg base 1 "_law_best" ["sets", "core"] (spU K bQ3):=by
 refine aX2 T sc_law_best (fun F=>F.binds fun _ _ _ _ _ _=>us2 fun _ _=>rfl) ?_ fun f cdv A outer s H E hr=>⟨_,(aQ2 (aQ7 (i:=2) sc_law_best.nd rfl (Or.inl rfl) (aZ3 (b:=false) aQ1))
  (aQ2 (aQ7 (i:=3) sc_law_best.nd rfl (Or.inl rfl) (aZ3 (b:=false) (aQ0 (aJp (aQ0 (aZ3 (b:=false) aQ1) (aQ0 (aZ3 (b:=false) aQ1) aQ1))) aQ1)))
  (aQ2 (aX4 PassesOwn.never rfl (cXr rfl B.enumerate (aQ0 (dv 0) aQ1)) (bX8 rfl (aQy (aQt (i:=4) sc_law_best.nd rfl (Or.inr rfl)) (aQy (aQt (i:=5) sc_law_best.nd rfl (Or.inr rfl)) aJr))) (aQ2 (aQ7 (i:=6) sc_law_best.nd rfl (Or.inr rfl) (aZ0 (N':=["name", "core"]) (oc:=none) (b:=false) [0] [] rfl sc_law_best.nd (fun _ _ _=>aQd _ _ _ _ _ _ _ _ _) (.own (.cap (i:=1) rfl (by decide +kernel) .nil)) (aQh rfl) (aZ7 (dv 5)) (cg_name (i:=0)) (fun _ _ _ _ _=>aQe (i:=0) (nd_ ["name", "core"]) rfl (Or.inl rfl) (.inr rfl)) (fun _ _ _ _ _=>aQw (by exact(bJx hr (dv 0) (dv 1)))) aQl (fun _ _ _ _ _ _=>aQk rfl (by exact PD.o (dv 0)))))
  (aQ5 (aXl (bXz hr (aZ0 (N':=["name", "one"]) (oc:=none) (b:=false) [0] [] rfl sc_law_best.nd (fun _ _ _=>aQd _ _ _ _ _ _ _ _ _) (.own (.cap (i:=5) rfl (by decide +kernel) .nil)) (aQh rfl) (aZ7 (dv 1)) (cg_name (i:=0)) (fun _ _ _ _ _=>aQe (i:=0) (nd_ ["name", "one"]) rfl (Or.inl rfl) (.inr rfl)) (fun _ _ _ _ _=>aQw (by exact(bJx hr (dv 0) (dv 1)))) aQl (fun _ _ _ _ _ _=>aQk rfl (by exact PD.o (dv 0)))) (aZ3 (b:=false) aQ1)) (aQ2 (bZ6 (i:=7) rfl (Or.inl rfl) (N':=["row", "taken", "left", "at"]) (oc:=some "taken") (b:=false) [0,1] [] rfl sc_law_best.nd (fun _ _ _=>aQd _ _ _ _ _ _ _ _ _) (.own (.own (.cap (i:=6) rfl (by decide +kernel) (.cap (i:=4) rfl (by decide +kernel) .nil)))) (aQh rfl) (aZ7 (dv 3)) (cXs (i:=0) (j:=1)) (fun _ _ _ _ _=>cZ8 rfl (aXg (aQe (i:=0) (nd_ ["row", "taken", "left", "at"]) rfl (Or.inl rfl) (.inr rfl)) (aXg (aQe (i:=1) (nd_ ["row", "taken", "left", "at"]) rfl (Or.inr rfl) (.inl eXm)) bXl))) (fun _ _ _ _ _=>aQw (by exact(bXz hr (aZ0 (N':=["name", "taken"]) (oc:=none) (b:=false) [0] [] rfl (nd_ ["row", "taken", "left", "at"]) (fun _ _ _=>aQd _ _ _ _ _ _ _ _ _) (.own (.cap (i:=1) rfl (by decide +kernel) .nil)) (aQh rfl) (aZ7 (dv 2)) (cg_name (i:=0)) (fun _ _ _ _ _=>aQe (i:=0) (nd_ ["name", "taken"]) rfl (Or.inl rfl) (.inr rfl)) (fun _ _ _ _ _=>aQw (by exact(eQ5 hr (dv 0) (dv 1)))) aQl (fun _ _ _ _ _ _=>aQk rfl (by exact PD.o (dv 0)))) (aZ3 (b:=false) aQ1)))) aQl (fun _ _ _ _ _ _=>aQk rfl (by exact PD.o (aJp (aQ0 (aQu (k:=false) (dv 0) (aZ3 (b:=false) (aQ0 (dv 3) aQ1))) (aQ0 (aQu (k:=false) (dv 1) (dv 2)) aQ1))))))
  (aQ5 (aQ7 (i:=3) sc_law_best.nd rfl (Or.inl rfl) (aQu (k:=false) (dv 3) (dv 7))))) aQv))))
  (aQ2 (aX4 PassesOwn.never rfl (aZ7 (dv 3)) (bX8 rfl (aQy (aQt (i:=8) sc_law_best.nd rfl (Or.inl rfl)) (aQy (aQt (i:=9) sc_law_best.nd rfl (Or.inl rfl)) aJr))) (aQ5 (aXl (PWD.pt (bQk (eJe hr (aXk rfl B.len (aQ0 (dv 8) aQ1)) aQ4) (aJq (dX3 hr (aJp (aQ0 (cZ0 aQ4 (aXk rfl B.len (aQ0 (dv 8) aQ1))) (aQ0 (dv 8) aQ1))) (aJp (aQ0 (cZ0 aQ4 (aXk rfl B.len (aQ0 (dv 2) aQ1))) (aQ0 (dv 2) aQ1))))))) (aQ5 (aQ7 (i:=2) sc_law_best.nd rfl (Or.inl rfl) (dv 8))) aQv)))
  (aQ5 (aQm (dv 2))))))),?_⟩
 ·rintro ds S Q ⟨ts,core,rfl,_⟩;rfl
 ·rintro ds S Q ⟨ts,core,rfl,h14,he,hc,q⟩;have big:∀ n:Nat,n<=100000->n<=sizeLine:=fun n h=>by rw[sizeLine_eq];lia
  have one:∀ n:Nat,n<=99->n<=sizeLine:=fun n h=>aQg (by lia)
  have al:∀ i,i<=ts.length->(arC ts core i).length<=16384:=fun i hi=>Nat.le_trans (cQd _ _ i) (Nat.le_trans (Nat.pow_le_pow_right (by decide) (show i<=14 by lia)) (by decide))
  have g12:∀ a,(lft core (gT ts a)).length<=12:=fun a=>by
   refine Nat.le_trans (List.length_filter_le _ _) ?_;show(ts.getD a []).length<=12;rw[List.getD_eq_getElem?_getD];cases e:ts[a]? with
   | none=>simp
   | some t=>exact he t (List.mem_of_getElem? e)
  have ri:∀ i p,i<=ts.length->p∈arC ts core i->p.1.length<=14/\p.2.length<=168:=fun i p hi hp=>by
   obtain⟨h1,h2,_⟩:=(aZq _ _ _ _).mp hp;have hl:p.1.length<=14:=Nat.le_trans h1.length_le (Nat.le_trans (List.length_filter_le _ _) (by rw[List.length_range];lia))
   refine⟨hl,?_⟩;rw[h2];have gen:∀ l:List Nat,((l.map fun i=>lft core (gT ts i)).flatten).length<=12 * l.length:=fun l=>by
    induction l with
    | nil=>simp
    | cons a l ih =>
     rw[List.map_cons,List.flatten_cons,List.length_append,List.length_cons]
     have:=g12 a
     lia
   have:=gen p.1
   lia
  refine⟨one _ (by decide),one _ (by decide),one _ (by decide),one _ (by show 2<=99;decide),one _ (by show 1<=99;decide),?_⟩
  refine for_ind (fun i Γ S'=>∃ x4 x5 x6 x7:Option D,Γ=[some (.tup (ts.map tupS)),some (tupS core),some (.lst []),some (.lst ((arC ts core i).map encA)),x4,x5,x6,x7,none,none]/\S'=S) ⟨none,none,none,none,rfl,rfl⟩ ?_ ?_
  ·rintro i x Γ S' N hx ⟨x4,x5,x6,x7,rfl,rfl⟩ hN;obtain⟨y,hy,rfl⟩:=aZ8 _ _ _ _ hx;rw[List.getElem?_map,Option.map_eq_some_iff] at hy;obtain⟨t,ht,rfl⟩:=hy;have hi:i < ts.length:=(List.getElem?_eq_some_iff.mp ht).1;have eg:gT ts i=t:=by show ts.getD i []=t;rw[List.getD_eq_getElem?_getD,ht];rfl
   have t12:=he t (List.mem_of_getElem? ht);have ai:=al i (by lia)
   have l12:(lft core t).length<=12:=by have:=g12 i;rwa [eg] at this
   rw[Int.zero_add];refine⟨trivial,rfl,rfl,_,rfl,aQo (p:=fun n=>!decide (n∈core)) (f:=D.str) (fun x hx Q q=>in_t (neg:=true) (E:=strE) (by decide) rfl q) (fun x hx _ Q q=>q) (aQg (by show 0 + t.length<=_;lia)) ?_⟩
   rw[List.nil_append];refine⟨_,rfl,aQo (p:=fun n=>!decide (n∈t)) (f:=D.str) (fun x hx Q q=>in_t (neg:=true) (E:=strE) (by decide) rfl q) (fun x hx _ Q q=>q) (aQg (by show 0 + core.length<=_;lia)) ?_⟩
   rw[List.nil_append];have ex:decide (D.lst ((core.filter fun n=>!decide (n∈t)).map D.str)=D.lst [])=has t core:=by
    rw[Bool.eq_iff_iff,decide_eq_true_iff,has_iff];constructor
    ·intro h n hn;injection h with h
     have:=List.filter_eq_nil_iff.mp (List.map_eq_nil_iff.mp h) n hn
     simpa using this
    ·intro h
     have:(core.filter fun n=>!decide (n∈t))=[]:=List.filter_eq_nil_iff.mpr fun n hn=>by simpa using h n hn
     rw[this];rfl
   have eok:okC ts core i=has t core:=by show has (gT ts i) core=_;rw[eg]
   refine⟨one _ (by decide),(by show((_:List D).zip []).all _=true;rw[List.zip_nil_right];rfl),_,rfl,ite2 (fun c=>?_) fun c=>?_⟩
   ·have c':okC ts core i=true:=eok.trans (ex.symm.trans c);have e2:arC ts core (i + 1)=arC ts core i++((arC ts core i).filter fun p=>((lft core t).filter fun n=>decide (n∈p.2)).isEmpty).map fun p=>(p.1++[i],p.2++lft core t):=by
     show(if okC ts core i=true then _ else _)=_
     rw[if_pos c'];simp only[eg]
    generalize hA:arC ts core i=A0 at *
    refine⟨_,rfl,?_⟩;refine bZa (fun j acc S2=>S2=S'/\acc=(((A0.take j).filter fun p=>((lft core t).filter fun n=>decide (n∈p.2)).isEmpty).map fun p=>(p.1++[i],p.2++lft core t)).map encA) ⟨rfl,rfl⟩ ?_ ?_
    ·rintro j y acc S2 N2 hy ⟨rfl,rfl⟩ hN2;rw[List.getElem?_map,Option.map_eq_some_iff] at hy;obtain⟨p,hp,rfl⟩:=hy;obtain⟨p14,p168⟩:=ri i p (by lia) (by rw[hA];exact List.mem_of_getElem? hp)
     refine⟨trivial,rfl,rfl,_,rfl,aQo (p:=fun n=>decide (n∈p.2)) (f:=D.str) (fun x hx Q q=>in_t (neg:=false) (E:=strE) (by decide) rfl q) (fun x hx _ Q q=>q) (aQg (by show 0 + (lft core t).length<=_;lia)) ?_⟩
     rw[List.nil_append];have ex:decide (D.lst (((lft core t).filter fun n=>decide (n∈p.2)).map D.str)=D.lst [])=((lft core t).filter fun n=>decide (n∈p.2)).isEmpty:=by
      rw[Bool.eq_iff_iff,decide_eq_true_iff,List.isEmpty_iff];constructor
      ·intro h;injection h with h;exact List.map_eq_nil_iff.mp h
      ·intro h;rw[h];rfl
     refine⟨one _ (by decide),(by show((_:List D).zip []).all _=true;rw[List.zip_nil_right];rfl),_,rfl,ite2 (fun c=>?_) fun c=>?_⟩
     ·have c':((lft core t).filter fun n=>decide (n∈p.2)).isEmpty=true:=ex.symm.trans c;refine⟨one _ (by show 1<=99;decide),_,_,rfl,rfl,aQg (by rw[List.length_map];show _ + 1<=9999;lia),_,_,rfl,rfl,aQg (by rw[List.length_map,List.length_map];show p.2.length + (lft core t).length<=9999;lia),one _ (by show 2<=99;decide),?_,hN2 _ _ ⟨rfl,?_⟩⟩
      ·rw[List.length_map,List.length_map,sizeLine_eq]
       have:=List.length_filter_le (fun p:List Nat × List Str=>((lft core t).filter fun n=>decide (n∈p.2)).isEmpty) (A0.take j)
       rw[List.length_take] at this;lia
      ·rw[cQc _ hp,if_pos c',List.map_append,List.map_append];simp[encA,natE]
     ·have c':¬ ((lft core t).filter fun n=>decide (n∈p.2)).isEmpty=true:=fun h=>c (ex.trans h);refine hN2 _ _ ⟨rfl,?_⟩;rw[cQc _ hp,if_neg c',List.append_nil]
    ·rintro acc S2 ⟨rfl,rfl⟩;rw[List.length_map,List.take_length];refine⟨trivial,_,_,rfl,rfl,big _ ?_,hN _ _ ?_⟩
     ·rw[List.length_map,List.length_map,List.length_map]
      have:=List.length_filter_le (fun p:List Nat × List Str=>((lft core t).filter fun n=>decide (n∈p.2)).isEmpty) A0
      lia
     ·rw[e2,List.map_append];exact⟨_,_,_,_,rfl,rfl⟩
   ·have c':¬ okC ts core i=true:=fun h=>c (ex.trans (eok.symm.trans h));have e2:arC ts core (i + 1)=arC ts core i:=if_neg c';refine hN _ _ ?_;rw[e2];exact⟨_,_,_,_,rfl,rfl⟩
  rintro Γ S' ⟨x4,x5,x6,x7,rfl,rfl⟩;rw[aZi,List.length_map];refine⟨trivial,_,rfl,?_⟩;have aN:=al ts.length (Nat.le_refl _);have lb:lbs ts core=bst [] (((arC ts core ts.length).map (·.1)).filter fun r=>decide (1 < r.length)):=rfl;have rN:=fun p=>ri ts.length p (Nat.le_refl _);generalize arC ts core ts.length=A1 at aN lb rN;refine for_ind (fun i Γ S2=>∃ x8 x9:Option D,Γ=[some (.tup (ts.map tupS)),some (tupS core),some (.lst ((bst [] (((A1.take i).map (·.1)).filter fun r=>decide (1 < r.length))).map natE.e)),some (.lst (A1.map encA)),x4,x5,x6,x7,x8,x9]/\S2=S') ⟨none,none,rfl,rfl⟩ ?_ ?_
  ·rintro i x Γ S2 N hx ⟨x8,x9,rfl,rfl⟩ hN;rw[List.getElem?_map,Option.map_eq_some_iff] at hx;obtain⟨p,hp,rfl⟩:=hx;have e:bst [] (((A1.take (i + 1)).map (·.1)).filter fun r=>decide (1 < r.length))=if 1 < p.1.length/\bet p.1 (bst [] (((A1.take i).map (·.1)).filter fun r=>decide (1 < r.length)))=true then p.1 else bst [] (((A1.take i).map (·.1)).filter fun r=>decide (1 < r.length)):=by
    rw[List.take_add_one,hp];show bst [] (List.filter _ (List.map _ (_++[p])))=_;rw[List.map_append,List.filter_append]
    by_cases z:1 < p.1.length
    ·have:([p].map (·.1)).filter (fun r=>decide (1 < r.length))=[p.1]:=by simp[z]
     rw[this,cQf]
     by_cases z2:bet p.1 (bst [] (((A1.take i).map (·.1)).filter fun r=>decide (1 < r.length)))=true
     ·rw[if_pos z2,if_pos ⟨z,z2⟩]
     ·rw[if_neg z2,if_neg fun y=>z2 y.2]
    ·have:([p].map (·.1)).filter (fun r=>decide (1 < r.length))=[]:=by simp[z]
     rw[this,if_neg fun y=>z y.1,List.append_nil]
   generalize bst [] (((A1.take i).map (·.1)).filter fun r=>decide (1 < r.length))=B at e;obtain⟨k1,k2⟩:=cQi p.1 B;have fin:∀ (c:Bool),(c=true↔1 < p.1.length/\bet p.1 B=true)->if c=true then N [some (.tup (ts.map tupS)),some (tupS core),some (.lst (p.1.map natE.e)),some (.lst (A1.map encA)),x4,x5,x6,x7,some (.lst (p.1.map natE.e)),some (.lst (p.2.map D.str))] S2 else N [some (.tup (ts.map tupS)),some (tupS core),some (.lst (B.map natE.e)),some (.lst (A1.map encA)),x4,x5,x6,x7,some (.lst (p.1.map natE.e)),some (.lst (p.2.map D.str))] S2:=fun c hc=>by
    by_cases z:1 < p.1.length/\bet p.1 B=true
    ·rw[if_pos (hc.mpr z)];rw[if_pos z] at e;refine hN _ _ ?_;rw[e];exact⟨_,_,rfl,rfl⟩
    ·rw[if_neg fun y=>z (hc.mp y)];rw[if_neg z] at e;refine hN _ _ ?_;rw[e];exact⟨_,_,rfl,rfl⟩
   refine⟨trivial,rfl,rfl,?_⟩;refine⟨_,rfl,_,rfl,ite2 (fun c1=>⟨_,rfl,one _ (by show 2<=99;decide),_,rfl,one _ (by show 2<=99;decide),k1,_,rfl,fin _ ?_⟩) fun c1=>fin _ ?_⟩
   ·have c2:1 < p.1.length:=by
     have:=of_decide_eq_true c1
     rw[List.length_map] at this;lia
    have k2':ltN 8 (D.tup [(fun i j=>D.int (i - j)) 0 ((p.1.map natE.e).length:Int),D.lst (p.1.map natE.e)]) (D.tup [(fun i j=>D.int (i - j)) 0 ((B.map natE.e).length:Int),D.lst (B.map natE.e)])=bet p.1 B:=k2;rw[k2'];exact⟨fun h=>⟨c2,h⟩,fun h=>h.2⟩
   ·exact⟨fun h=>absurd h Bool.false_ne_true,fun h=>absurd (decide_eq_true (by rw[List.length_map];lia)) c1⟩
  ·rintro Γ S2 ⟨x8,x9,rfl,rfl⟩;rw[List.length_map,List.take_length,<- lb];exact⟨trivial,aQf q⟩
end
abbrev s_law_greatest:Stmt:=top 19
theorem sc_law_greatest:FnScope ["sets", "best", "cores", "at", "one", "core", "row"] ["sets"] (aQ3 s_law_greatest):=fsc
def aZy:SpD:=fun ds S Q=>∃ (ts:List (List Str)),ds=[.tup (ts.map tupS)]/\SrtT ts/\ts.length<=14/\(∀ t∈ts,Srt t/\t.length<=12)/\∀ out,SrtT out->(∀ t,t∈out↔t∈mets ts)->Q (resD ts (bst [] (out.map (lbs ts)))) S
section
variable {P:Program} {w:World} {K:PySem.W.Frag} {mg:Str->Option Value} {base:Heap} {pt cc:Addr}
theorem bQ4 (T:Tx K mg "_law_greatest" s_law_greatest) (B:Bs mg) (d_law_meet:Df P w K mg base 1 "_law_meet" ["one", "other"] (spU K bQ2)) (d_law_best:Df P w K mg base 1 "_law_best" ["sets", "core"] (spU K bQ3)):Df P w K mg base 2 "_law_greatest" ["sets"] (spU K aZy):=by
 refine aX2 T sc_law_greatest (fun F=>F.binds fun _ _ _ _ _ _=>us1 fun _=>rfl) ?_ fun f cdv A outer s H E hr=>⟨_,(aQ2 (aQ7 (i:=1) sc_law_greatest.nd rfl (Or.inl rfl) (aZ3 (b:=false) aQ1))
  (aQ2 (aQ7 (i:=2) sc_law_greatest.nd rfl (Or.inl rfl) (aZ3 (b:=true) aQ1))
  (aQ2 (aX4 PassesOwn.never rfl (cXr rfl B.enumerate (aQ0 (dv 0) aQ1)) (bX8 rfl (aQy (aQt (i:=3) sc_law_greatest.nd rfl (Or.inl rfl)) (aQy (aQt (i:=4) sc_law_greatest.nd rfl (Or.inr rfl)) aJr))) (aQ5 (aJs (cQ2 (dv 2) (aQ0 (aZ0 (N':=["other", "one"]) (oc:=none) (b:=true) [0] [] rfl sc_law_greatest.nd (fun _ _ _=>aQd _ _ _ _ _ _ _ _ _) (.own (.cap (i:=4) rfl (by decide +kernel) .nil)) (aQh rfl) (aZ7 (e_sl (b:=false) (dv 0) aXc (aXd (dv 3)))) (cg_name (i:=0)) (fun _ _ _ _ _=>aQe (i:=0) (nd_ ["other", "one"]) rfl (Or.inl rfl) (.inr rfl)) (fun _ _ _ _ _=>aZm) aQl (fun _ _ _ _ _ _=>aQk rfl (by exact PD.o (aQa d_law_meet hr rfl (aQ0 (dv 1) (aQ0 (dv 0) aQ1)))))) aQ1)))))
  (aQ2 (aX4 PassesOwn.never rfl (aZ7 (aJv (b:=false) hr rfl B.sorted rfl B.set (dv 2))) (aQt (i:=5) sc_law_greatest.nd rfl (Or.inl rfl)) (aQ2 (aQ7 (i:=6) sc_law_greatest.nd rfl (Or.inl rfl) (aQa d_law_best hr rfl (aQ0 (dv 0) (aQ0 (dv 5) aQ1))))
  (aQ5 (aXl (PWD.pt (bQk (dQm hr (dv 6) (aZ3 (b:=false) aQ1)) (aJq (dX3 hr (aJp (aQ0 (cZ0 aQ4 (aXk rfl B.len (aQ0 (dv 6) aQ1))) (aQ0 (dv 6) aQ1))) (aJp (aQ0 (cZ0 aQ4 (aXk rfl B.len (aQ0 (dv 1) aQ1))) (aQ0 (dv 1) aQ1))))))) (aQ5 (aQ7 (i:=1) sc_law_greatest.nd rfl (Or.inl rfl) (dv 6))) aQv))))
  (aQ2 (aXl (bXz hr (dv 1) (aZ3 (b:=false) aQ1)) (aQ5 (aQm bZ1)) aQv)
  (aQ5 (aQm (aXb rfl B.tuple (aQ0 (aZ0 (N':=["at", "sets"]) (oc:=none) (b:=false) [0] [] rfl sc_law_greatest.nd (fun _ _ _=>aQd _ _ _ _ _ _ _ _ _) (.own (.cap (i:=0) rfl (by decide +kernel) .nil)) (aQh rfl) (aZ7 (dv 1)) (cg_name (i:=0)) (fun _ _ _ _ _=>aQe (i:=0) (nd_ ["at", "sets"]) rfl (Or.inl rfl) (.inr rfl)) (fun _ _ _ _ _=>aZm) aQl (fun _ _ _ _ _ _=>aQk rfl (by exact PD.o (e_ix (dv 1) (dv 0))))) aQ1))))))))),?_⟩
 ·rintro ds S Q ⟨ts,rfl,_⟩;rfl
 ·rintro ds S Q ⟨ts,rfl,hs,h14,he,q⟩;have one:∀ n:Nat,n<=99->n<=sizeLine:=fun n h=>aQg (by lia)
  refine⟨one _ (by decide),one _ (by decide),fun fp hfp=>?_⟩
  refine for_ind (fun i Γ S'=>∃ x3 x4:Option D,Γ=[some (.tup (ts.map tupS)),some (.lst []),some (.ref fp),x3,x4,none,none]/\S' fp=some (.lst ((metL ts i).map tupS))/\∀ b o,S b=some o->S' b=some o) ⟨none,none,rfl,supd_same,fun b o e=>by rw[aQ9 (by rintro rfl;rw[hfp] at e;cases e)];exact e⟩ ?_ ?_
  ·rintro i x Γ S' N hx ⟨x3,x4,rfl,hf,hk⟩ hN;obtain⟨y,hy,rfl⟩:=aZ8 _ _ _ _ hx;rw[List.getElem?_map,Option.map_eq_some_iff] at hy;obtain⟨t,ht,rfl⟩:=hy;have hi:i < ts.length:=(List.getElem?_eq_some_iff.mp ht).1;have eg:gT ts i=t:=by show ts.getD i []=t;rw[List.getD_eq_getElem?_getD,ht];rfl
   have t12:=(he t (List.mem_of_getElem? ht)).2;have ml:=bZj ts i;have m2:i * (i - 1)<=14 * 13:=Nat.mul_le_mul (by lia) (by lia)
   rw[Int.zero_add];refine⟨trivial,rfl,rfl,⟨_,hf⟩,_,rfl,(ts.take i).map tupS,dZe ts i,aZn (f:=fun o=>tupS (t.filter fun x=>decide (x∈o))) (fun o ho Q q=>⟨t,o,rfl,by lia,q⟩) (aQg (by show 0 + (ts.take i).length<=_;rw[List.length_take];lia)) ?_⟩
   intro p2 hp2;have hne:p2≠fp:=by rintro rfl;rw[hp2] at hf;cases hf
   refine⟨_,_,(aQ9 (Ne.symm hne)).trans hf,supd_same,?_,hN _ _ ⟨_,_,rfl,?_,fun b o e=>?_⟩⟩
   ·rw[List.nil_append,List.length_map,List.length_map,List.length_take];exact aQg (by lia)
   ·rw[supd_same,List.nil_append];show _=some (DO.lst ((metL ts i++(ts.take i).map fun o=>(gT ts i).filter fun x=>decide (x∈o)).map tupS));rw[eg,List.map_append,List.map_map];rfl
   ·rw[aQ9 (by rintro rfl;rw[hfp] at e;cases e),aQ9 (by rintro rfl;rw[hk _ _ e] at hp2;cases hp2)]
    exact hk b o e
  rintro Γ S' ⟨x3,x4,rfl,hf,hk⟩;rw[aZi,List.length_map] at hf;have ml:(metL ts ts.length).length<=91:=by
   have h1:=bZj ts ts.length;have h2:ts.length * (ts.length - 1)<=14 * 13:=Nat.mul_le_mul h14 (by lia)
   lia
  refine⟨trivial,metL ts ts.length,hf,by lia,fun out ond omem opw=>?_⟩
  have om:∀ t,t∈out↔t∈mets ts:=fun t=>(omem t).trans (bXj (fun t ht=>(he t ht).1) t);have q':=q out opw om;have ol:out.length<=91:=Nat.le_trans (ond.length_le_of_subset fun t ht=>(omem t).mp ht) ml;refine⟨_,rfl,?_⟩;refine for_ind (fun i Γ S2=>∃ x5 x6:Option D,Γ=[some (.tup (ts.map tupS)),some (.lst ((bst [] ((out.take i).map (lbs ts))).map natE.e)),some (.ref fp),x3,x4,x5,x6]/\S2=S') ⟨none,none,rfl,rfl⟩ ?_ ?_
  ·rintro i x Γ S2 N hx ⟨x5,x6,rfl,rfl⟩ hN;rw[List.getElem?_map,Option.map_eq_some_iff] at hx;obtain⟨c,hc,rfl⟩:=hx;have hcm:=(om c).mp (List.mem_of_getElem? hc);have e:bst [] ((out.take (i + 1)).map (lbs ts))=if bet (lbs ts c) (bst [] ((out.take i).map (lbs ts)))=true then lbs ts c else bst [] ((out.take i).map (lbs ts)):=by
    rw[List.take_add_one,hc];show bst [] (List.map _ (_++[c]))=_;rw[List.map_append];exact cQf _ _ _
   generalize bst [] ((out.take i).map (lbs ts))=B at e;refine⟨trivial,ts,c,rfl,h14,fun t ht=>(he t ht).2,bXi (fun t ht=>(he t ht).2) hcm,?_⟩;generalize lbs ts c=L at e;obtain⟨k1,k2⟩:=cQi L B;have fin:∀ (b:Bool),(b=true↔bet L B=true)->if b=true then N [some (.tup (ts.map tupS)),some (.lst (L.map natE.e)),some (.ref fp),x3,x4,some (tupS c),some (.lst (L.map natE.e))] S2 else N [some (.tup (ts.map tupS)),some (.lst (B.map natE.e)),some (.ref fp),x3,x4,some (tupS c),some (.lst (L.map natE.e))] S2:=fun b hb=>by
    by_cases z:bet L B=true
    ·rw[if_pos (hb.mpr z)];rw[if_pos z] at e;refine hN _ _ ?_;rw[e];exact⟨_,_,rfl,rfl⟩
    ·rw[if_neg fun y=>z (hb.mp y)];rw[if_neg z] at e;refine hN _ _ ?_;rw[e];exact⟨_,_,rfl,rfl⟩
   refine⟨one _ (by decide),(by show((_:List D).zip []).all _=true;rw[List.zip_nil_right];rfl),_,rfl,ite2 (fun c1=>⟨_,rfl,one _ (by show 2<=99;decide),_,rfl,one _ (by show 2<=99;decide),k1,_,rfl,fin _ ?_⟩) fun c1=>fin _ ?_⟩
   ·have k2':ltN 8 (D.tup [(fun i j=>D.int (i - j)) 0 ((L.map natE.e).length:Int),D.lst (L.map natE.e)]) (D.tup [(fun i j=>D.int (i - j)) 0 ((B.map natE.e).length:Int),D.lst (B.map natE.e)])=bet L B:=k2;rw[k2']
   ·have:L=[]:=Classical.byContradiction fun z=>c1 (by
     show(!decide (D.lst (L.map natE.e)=D.lst []))=true;rw[decide_eq_false (fun y=>by injection y with y;exact z (List.map_eq_nil_iff.mp y))];rfl)
    rw[this,eZ7]
  ·rintro Γ S2 ⟨x5,x6,rfl,rfl⟩;rw[List.length_map,List.take_length];have lt:∀ i∈bst [] (out.map (lbs ts)),i < ts.length:=fun i hi=>by
    rcases List.mem_cons.mp (aXp (out.map (lbs ts)) []).1 with z | z
    ·rw[z] at hi;cases hi
    ·obtain⟨c,hc,e⟩:=List.mem_map.mp z;rw[<- e] at hi;exact dXa ts c i hi
   have bl:(bst [] (out.map (lbs ts))).length<=14:=by
    rcases List.mem_cons.mp (aXp (out.map (lbs ts)) []).1 with z | z
    ·rw[z];decide
    ·obtain⟨c,hc,e⟩:=List.mem_map.mp z;rw[<- e];exact Nat.le_trans (cJn ts c) h14
   generalize bst [] (out.map (lbs ts))=B at lt bl q';refine⟨trivial,one _ (by decide),(by show((_:List D).zip []).all _=true;rw[List.zip_nil_right];rfl),_,rfl,ite2 (fun c=>?_) fun c=>?_⟩
   ·have:B=[]:=by
     have:=of_decide_eq_true c
     injection this with this
     exact List.map_eq_nil_iff.mp this
    subst this;exact bZ7 hk q'
   ·have z:B≠[]:=fun z=>c (by subst z;rfl)
    refine⟨_,rfl,aZn (f:=fun i=>tupS (gT ts i)) (fun i hi Q q=>⟨_,_,rfl,aX7 (j:=i) ?_,q⟩) (aQg (by show 0 + B.length<=_;lia)) ⟨_,rfl,bZ7 hk ?_⟩⟩
    ·rw[List.getElem?_map,List.getElem?_eq_getElem (lt i hi)];show _=some (tupS (ts.getD i []));rw[List.getD_eq_getElem?_getD,List.getElem?_eq_getElem (lt i hi)];rfl
    ·rw[List.nil_append];cases B with
     | nil=>exact absurd rfl z
     | cons b B =>
      have q2:Q (rowD ts (b::B)) S:=q';unfold rowD at q2;rw[List.map_map] at q2;exact q2
end
abbrev bZl:Stmt:=top 20
theorem sc_law:FnScope ["script", "k", "sets", "found", "due"] ["script"] (aQ3 bZl):=fsc
theorem dZh {ts out:List (List Str)} (he:∀ t∈ts,Srt t) (om:∀ t∈out,t∈mets ts):resD ts (bst [] (out.map (lbs ts)))=grt ts out:=by
 cases out with
 | nil=>rfl
 | cons c cs =>
  have hn:=fQw he (om c (by simp))
  show resD ts (bst (if bet (lbs ts c) []=true then lbs ts c else []) (cs.map (lbs ts)))=rowD ts (bst (lbs ts c) (cs.map (lbs ts)))
  cases e:lbs ts c with
  | nil=>exact absurd e hn
  | cons x a =>
   rw[bet_cons,if_pos rfl]
   have:=bst_cons_ne x a (cs.map (lbs ts))
   cases e2:bst (x::a) (cs.map (lbs ts)) with
   | nil=>exact absurd e2 this
   | cons y b=>rfl
theorem fQy (ts out:List (List Str)):grt ts out=.non\/∃ r,grt ts out=rowD ts r/\r.length<=ts.length:=by
 cases out with
 | nil=>exact .inl rfl
 | cons c cs =>
  refine .inr ⟨_,rfl,?_⟩;have h:bst (lbs ts c) (cs.map (lbs ts))∈(c::cs).map (lbs ts):=(aXp (cs.map (lbs ts)) (lbs ts c)).1;obtain⟨d,_,e⟩:=List.mem_map.mp h;rw[<- e];exact cJn ts d
section
variable {P:Program} {w:World} {K:PySem.W.Frag} {mg:Str->Option Value} {base:Heap} {pt cc:Addr}
theorem fQz {f:Addr} {fd:FuncData} (Fn:Fun K "law" "law" bZl f fd) (B:Bs mg) (d_law_sets:Df P w K mg base 49 "_law_sets" ["script", "start", "most"] (spU K cQ7)) (d_law_number:Df P w K mg base 49 "_law_number" ["script", "k"] (spU K aZj)) (d_greatest_flower:Df P w K mg base 49 "greatest_flower" ["sets"] (spU K (dXc pt))) (d_law_greatest:Df P w K mg base 49 "_law_greatest" ["sets"] (spU K aZy)):FnOk P w K mg base CX0 50 f fd ["script"] (spU K (cQj pt lpos (lamQual "first_of_longest") 63)):=by
 refine e_fn Fn sc_law ?_ fun cdv A outer s H E hr=>⟨_,(aQ2 (aX4 PassesOwn.never rfl (aZu rfl B.range (aQ0 aQ4 aQ1)) (aQt (i:=1) sc_law.nd rfl (Or.inl rfl)) (aQ2 (aQ7 (i:=2) sc_law.nd rfl (Or.inl rfl) (aQa d_law_sets hr rfl (aQ0 (dv 0) (aQ0 (aJo aQ4 (dv 1)) (aQ0 (e_ix (aZ3 (b:=false) (aQ0 aQ4 (aQ0 (e_ix (aZ3 (b:=false) (aQ0 aQ4 (aQ0 aQ4 aQ1))) (bJy rfl B.int (aQ0 (e_eq hr (aQz (aQa d_law_number hr rfl (aQ0 (dv 0) (aQ0 aQ4 aQ1))) aQ4) aQ4) aQ1))) aQ1))) (dv 1)) aQ1)))))
  (aQ2 (aQ7 (i:=3) sc_law.nd rfl (Or.inl rfl) (aQa d_greatest_flower hr rfl (aQ0 (dv 2) aQ1)))
  (aQ2 (aQ7 (i:=4) sc_law.nd rfl (Or.inl rfl) (aQa d_law_greatest hr rfl (aQ0 (dv 2) aQ1)))
  (aQ2 (aXl (PWD.pt (fZs (dQm hr (dv 3) (dv 4)) (eJj (PWD.pt (bQk (bJ2 hr (dv 4) bZ1) (aJq (bX6 (bX7 (eJs rfl B.isinstance (aQ0 (dv 3) (aQ0 (e_ty rfl B.tuple bQs) aQ1))))))))))) (aQ5 (aQm e_bl)) aQv)
  (aQ5 (aXl (PWD.pt (bQk (bJ2 hr (dv 4) bZ1) (aJq (dQm hr (aZ0 (N':=["one"]) (oc:=none) (b:=false) [0] [] rfl sc_law.nd (fun _ _ _=>aQd _ _ _ _ _ _ _ _ _) (.own .nil) (aQh rfl) (aZ7 (dv 3)) (cg_name (i:=0)) (fun _ _ _ _ _=>aQe (i:=0) (nd_ ["one"]) rfl (Or.inl rfl) (.inr rfl)) (fun _ _ _ _ _=>aQw (by exact(bX6 (bX7 (eJs rfl B.isinstance (aQ0 (dv 0) (aQ0 (e_ty rfl B.tuple bQs) aQ1))))))) aQl (fun _ _ _ _ _ _=>aQk rfl (by exact PD.o (dv 0)))) (aZ3 (b:=false) aQ1))))) (aQ5 (aQm e_bl)) aQv)))))))
  (aQ5 (aQm e_bl))),?_⟩
 ·rintro ds S Q ⟨ns,rfl,_⟩;rfl
 ·rintro ds S Q ⟨ns,rfl,h63,hP,hS,q⟩;have one:∀ n:Nat,n<=99->n<=sizeLine:=fun n h=>aQg (by lia)
  refine⟨⟨by decide,by decide⟩,?_⟩
  refine for_ind (fun i Γ S'=>∃ (x1 x2 x3 x4:Option D),Γ=[some (.lst (ns.map D.int)),x1,x2,x3,x4]/\S'=S) ⟨none,none,none,none,rfl,rfl⟩ ?_ ?_
  ·rintro i x Γ S2 N hx ⟨x1,x2,x3,x4,rfl,rfl⟩ hN;obtain⟨hi,rfl⟩:=cQ1 hx;have hi2:i < 2:=hi;refine⟨trivial,.inl ⟨by decide,by decide⟩,one _ (by show 2<=99;decide),ns,120,rfl,h63,by decide,by decide,fun r r0 r1=>⟨by show(0:Int) < 4;decide,rfl,?_⟩⟩
   obtain⟨v,hv,v1⟩:∃ v:Nat,atI [D.int 9,.int 14] (if (if false=true then !decide (D.int (r % 4)=D.int 0) else decide (D.int (r % 4)=D.int 0))=true then 1 else 0)=some (.int (v:Nat))/\v<=14:=by
    have gen:∀ b:Bool,∃ v:Nat,atI [D.int 9,.int 14] (if b=true then 1 else 0)=some (.int (v:Nat))/\v<=14:=fun b=>by
     cases b with
     | true=>exact⟨14,rfl,by decide⟩
     | false=>exact⟨9,rfl,by decide⟩
    exact gen _
   obtain⟨m,hm,m1⟩:∃ m:Nat,atI [D.int 9,.int (v:Nat)] (i:Int)=some (.int (m:Nat))/\m<=14:=by
    have h:i=0\/i=1:=by lia
    rcases h with rfl | rfl
    ·exact⟨9,rfl,by decide⟩
    ·exact⟨v,rfl,v1⟩
   refine⟨_,_,rfl,hv,one _ (by show 2<=99;decide),_,_,rfl,hm,ns,60 * (i:Int),m,rfl,h63,by lia,by lia,m1,fun ts hC=>?_⟩
   have l14:ts.length<=14:=by have:=hC.len;lia
   have he:∀ t∈ts,Srt t/\t.length<=12:=fun t ht=>⟨(hC.each t ht).1,by have:=(hC.each t ht).2;lia⟩
   refine⟨ts,rfl,hP,hC.srt,l14,he,fun out os om=>?_⟩;refine⟨ts,rfl,hC.srt,l14,he,fun out' os' om'=>?_⟩;have eo:out'=out:=os'.ext os fun t=>(om' t).trans (om t).symm;subst eo;rw[dZh (fun t ht=>(he t ht).1) fun t ht=>(om t).mp ht];rcases fQy ts out' with e | ⟨r,e,rl⟩
   ·rw[e];refine⟨rfl,_,rfl,ite2 (fun c=>absurd c (by decide)) fun c=>?_⟩
    exact⟨false,rfl,iteF (iteF ⟨false,rfl,iteF (iteF (hN _ _ ⟨_,_,_,_,rfl,rfl⟩))⟩)⟩
   ·rw[e];have ok:okE 9 (rowD ts r) (rowD ts r)=true:=flE.ok 9 _ _ (by decide)
    refine⟨ok,_,rfl,ite2 (fun c=>absurd c (by simp)) fun c=>?_⟩
    refine⟨true,rfl,iteT ⟨"tuple",true,rfl,rfl,?_⟩⟩;simp only[truD,Bool.not_true,Bool.false_eq_true,if_false];refine⟨true,rfl,iteT ⟨_,rfl,?_⟩⟩;refine aQo (enc:=tupS) (p:=fun _=>false) (f:=tupS) (fun x hx Q q=>⟨"tuple",true,rfl,rfl,q⟩) (fun x hx _ Q q=>q) (aQg (by show 0 + (r.map (gT ts)).length<=_;rw[List.length_map];lia)) ?_
    have:(r.map (gT ts)).filter (fun _=>false)=[]:=List.filter_eq_nil_iff.mpr fun _ _=>by simp
    rw[this];exact⟨one _ (by decide),rfl,false,rfl,iteF (hN _ _ ⟨_,_,_,_,rfl,rfl⟩)⟩
  ·rintro Γ S2 ⟨x1,x2,x3,x4,rfl,rfl⟩;exact⟨trivial,aQf (q _)⟩
end
end Toy
set_option maxHeartbeats 4000000
namespace Toy
open PySem L2
theorem fin {l:PySem.W.OpenLaw} {w:World} {K:PySem.W.Frag} {h:Heap} {mg:Str->Option Value} {fa f3:Addr} (X:K.In h) (G:h.Ns mainGlobals mg) (hfa:mg "law" = some (.ref fa)) (B:Bs mg) {cc pt:Addr} (CD:bXh K mg "first_of_longest" cc)
  (T1:Tx K mg "has_all" s_has_all) (T2:Tx K mg "meets" s_meets) (T3:Tx K mg "meet_of" s_meet_of) (T4:Tx K mg "without_names" s_without_names) (T5:Tx K mg "choices_of" s_choices_of) (T6:Tx K mg "greatest_flower" s_greatest_flower) (T7:Tx K mg "first_of_longest" s_first_of_longest) (T8:Tx K mg "cores_of_two" s_cores_of_two) (T9:Tx K mg "most_beside" s_most_beside) (T10:Tx K mg "most_free" s_most_free) (T11:Tx K mg "most_free_with" s_most_free_with) (T12:Tx K mg "_law_number" s_law_number) (T13:Tx K mg "_law_names" s_law_names) (T14:Tx K mg "_law_sets" s_law_sets) (T15:Tx K mg "_law_meet" s_law_meet) (T16:Tx K mg "_law_best" s_law_best) (T17:Tx K mg "_law_greatest" s_law_greatest)
  {od3 an3:Option Addr} {sl3:Array (Option Value)} {oc3 kV3 dc3 pm3 cd3 ct3:Value}
  (a3:PySem.W.nsIn K mainGlobals "law" = some (some (.ref f3))) (l3:K.lookup f3=some ⟨oc3,od3,.func (PySem.W.fnOf "law" "law" (aX8 bZl) (aZ1 bZl) (aQ3 bZl) .none kV3 dc3 pm3 an3 cd3 ct3),sl3⟩) (c3:PySem.W.codeIn K cd3 "law" = true) (k3:PySem.W.keepIn K (.ref f3)=true) :
  ∃ fd:FuncData,(∀ (s:Shared) (v:Value),BindsTo s fd ⟨[v],[]⟩ [("script",v)])/\∀ base:Heap,K.In base->base.Ns mainGlobals mg->TabF base mg cc pt->FnOk l.prog w K mg base CX0 50 fa fd ["script"] (spU K (cQj pt lpos (lamQual "first_of_longest") 63)):=by
 have e:=hfa.symm.trans (PySem.W.mg_of X G a3);cases e;refine⟨PySem.W.fnOf "law" "law" (aX8 bZl) (aZ1 bZl) (aQ3 bZl) .none kV3 dc3 pm3 an3 cd3 ct3,fun s v=>.of_eq rfl,fun base _ _ TF=>?_⟩;have F3:=dZk (st:=bZl) l3 c3 k3;have d_law_number:=bZg (P:=l.prog) (w:=w) (base:=base) T12 B;have d_law_names:=bXe (P:=l.prog) (w:=w) (base:=base) T13 B (d_law_number.mono (by decide))
 have d_law_sets:=bJ8 (P:=l.prog) (w:=w) (base:=base) T14 B (d_law_number.mono (by decide)) (d_law_names.mono (by decide))
 have d_has_all:=cZ3 (P:=l.prog) (w:=w) (base:=base) T1 B;have d_choices_of:=bZh (P:=l.prog) (w:=w) (base:=base) T5 B;have d_meet_of:=cZ4 (P:=l.prog) (w:=w) (base:=base) T3 B;have d_without_names:=aJ5 (P:=l.prog) (w:=w) (base:=base) T4 B;have d_meets:=dZ7 (P:=l.prog) (w:=w) (base:=base) T2 B;have d_most_free:=bXf (P:=l.prog) (w:=w) (base:=base) T10 B T11 (d_without_names.mono (by decide)) (d_meets.mono (by decide))
 have d_most_beside:=bQ8 (P:=l.prog) (w:=w) (base:=base) T9 B (d_has_all.mono (by decide)) (d_choices_of.mono (by decide)) (d_meet_of.mono (by decide)) (d_most_free.mono (by decide))
 have d_cores_of_two:=bQ1 (P:=l.prog) (w:=w) (base:=base) T8 B (d_choices_of.mono (by decide)) (d_meet_of.mono (by decide))
 have d_first_of_longest:=aXf (P:=l.prog) (w:=w) (base:=base) T7 B CD TF;have d_greatest_flower:=aXq (P:=l.prog) (w:=w) (base:=base) T6 B (d_most_beside.mono (by decide)) (d_cores_of_two.mono (by decide)) (d_first_of_longest.mono (by decide))
 have d_law_meet:=bJa (P:=l.prog) (w:=w) (base:=base) T15 B;have d_law_best:=bJb (P:=l.prog) (w:=w) (base:=base) T16 B;have d_law_greatest:=bQ4 (P:=l.prog) (w:=w) (base:=base) T17 B (d_law_meet.mono (by decide)) (d_law_best.mono (by decide))
 exact fQz F3 B (d_law_sets.mono (by decide)) (d_law_number.mono (by decide)) (d_greatest_flower.mono (by decide)) (d_law_greatest.mono (by decide))
end Toy
open PySem PySem.W PyProof.Rows
set_option maxRecDepth 100000 in
set_option maxHeartbeats 0 in
theorem PySem.Challenge.cw_corepetals_k15_greatest_flowers_holds : PySem.Challenge.rw_corepetals_k15_greatest_flowers.Holds := by
 w_on;o_law;k_head;(case hw=>w_witness2)
 k_fill
 refine L2.walkT (l:=PySem.Challenge.rw_corepetals_k15_greatest_flowers) (x := "first_of_longest") (lp:=Toy.lpos) (qual:=L2.lamQual "first_of_longest") rfl rfl (fun w h Y=>⟨PySem.W.km_in_of Y,PySem.W.km_tabs_of Y _ List.mem_cons_self⟩) ?R;refine' ⟨_,?ht,?hh,?hno,?F⟩
 case ht =>
  intro p;refine' L2.codeIn_mk ?a ?l ?e
  (case a=>k_is);(case l=>k_is);(case e=>rfl)
 case hh=>intro p;kernel_rfl
 case hno=>intro p;first | rfl | kernel_rfl
 case F =>
  intro w mg fa h KX G hmg CD;have B:L2.Bs mg:=by
   refine' L2.bs_mk KX G (L2.bs_all ?z1 ?z2 ?z3 ?z4 ?z5 ?z6 ?z7 ?z8 ?z9 ?z10 ?z11 ?z12 ?z13 ?z14 ?z15 ?z16 ?z17) <;> k_is
  have T1:L2.Tx (L2.KOf KX) mg "has_all" Toy.s_has_all:=by
   dsimp only[L2.KOf];exact L2.tx_mk KX G (by k_is) (by k_is) (by k_is) (by k_is)
  have T2:L2.Tx (L2.KOf KX) mg "meets" Toy.s_meets:=by
   dsimp only[L2.KOf];exact L2.tx_mk KX G (by k_is) (by k_is) (by k_is) (by k_is)
  have T3:L2.Tx (L2.KOf KX) mg "meet_of" Toy.s_meet_of:=by
   dsimp only[L2.KOf];exact L2.tx_mk KX G (by k_is) (by k_is) (by k_is) (by k_is)
  have T4:L2.Tx (L2.KOf KX) mg "without_names" Toy.s_without_names:=by
   dsimp only[L2.KOf];exact L2.tx_mk KX G (by k_is) (by k_is) (by k_is) (by k_is)
  have T5:L2.Tx (L2.KOf KX) mg "choices_of" Toy.s_choices_of:=by
   dsimp only[L2.KOf];exact L2.tx_mk KX G (by k_is) (by k_is) (by k_is) (by k_is)
  have T6:L2.Tx (L2.KOf KX) mg "greatest_flower" Toy.s_greatest_flower:=by
   dsimp only[L2.KOf];exact L2.tx_mk KX G (by k_is) (by k_is) (by k_is) (by k_is)
  have T7:L2.Tx (L2.KOf KX) mg "first_of_longest" Toy.s_first_of_longest:=by
   dsimp only[L2.KOf];exact L2.tx_mk KX G (by k_is) (by k_is) (by k_is) (by k_is)
  have T8:L2.Tx (L2.KOf KX) mg "cores_of_two" Toy.s_cores_of_two:=by
   dsimp only[L2.KOf];exact L2.tx_mk KX G (by k_is) (by k_is) (by k_is) (by k_is)
  have T9:L2.Tx (L2.KOf KX) mg "most_beside" Toy.s_most_beside:=by
   dsimp only[L2.KOf];exact L2.tx_mk KX G (by k_is) (by k_is) (by k_is) (by k_is)
  have T10:L2.Tx (L2.KOf KX) mg "most_free" Toy.s_most_free:=by
   dsimp only[L2.KOf];exact L2.tx_mk KX G (by k_is) (by k_is) (by k_is) (by k_is)
  have T11:L2.Tx (L2.KOf KX) mg "most_free_with" Toy.s_most_free_with:=by
   dsimp only[L2.KOf];exact L2.tx_mk KX G (by k_is) (by k_is) (by k_is) (by k_is)
  have T12:L2.Tx (L2.KOf KX) mg "_law_number" Toy.s_law_number:=by
   dsimp only[L2.KOf];exact L2.tx_mk KX G (by k_is) (by k_is) (by k_is) (by k_is)
  have T13:L2.Tx (L2.KOf KX) mg "_law_names" Toy.s_law_names:=by
   dsimp only[L2.KOf];exact L2.tx_mk KX G (by k_is) (by k_is) (by k_is) (by k_is)
  have T14:L2.Tx (L2.KOf KX) mg "_law_sets" Toy.s_law_sets:=by
   dsimp only[L2.KOf];exact L2.tx_mk KX G (by k_is) (by k_is) (by k_is) (by k_is)
  have T15:L2.Tx (L2.KOf KX) mg "_law_meet" Toy.s_law_meet:=by
   dsimp only[L2.KOf];exact L2.tx_mk KX G (by k_is) (by k_is) (by k_is) (by k_is)
  have T16:L2.Tx (L2.KOf KX) mg "_law_best" Toy.s_law_best:=by
   dsimp only[L2.KOf];exact L2.tx_mk KX G (by k_is) (by k_is) (by k_is) (by k_is)
  have T17:L2.Tx (L2.KOf KX) mg "_law_greatest" Toy.s_law_greatest:=by
   dsimp only[L2.KOf];exact L2.tx_mk KX G (by k_is) (by k_is) (by k_is) (by k_is)
  refine' Toy.fin KX G hmg B CD T1 T2 T3 T4 T5 T6 T7 T8 T9 T10 T11 T12 T13 T14 T15 T16 T17 ?a ?l ?c ?k
  (case a=>k_is);(case l=>k_is);(case c=>k_is);(case k=>k_is)
