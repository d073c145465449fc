import PyProof.Rows.All
import Wide.All
import OpenK.AllK
import Wide.FinOn
import PyProof.EqAt
import PyProof.EqKinds
import PyProof.TupleCall
import PyProof.StrBlockH
import PyProof.StrWalks
import PyProof.StrCalls
import PyProof.SetRoads
import PyProof.DictRoadsH
import Lean
import PySem.Challenge.RW_foreseehall_k55_whole_staying_and_judgin
open List (mem_append_right getElem?_eq_getElem mem_append_left length_map getD_eq_getElem?_getD getElem?_map mem_cons_of_mem mem_cons_self append_assoc length_set mem_of_getElem? map_cons size_toArray getElem?_set_ne length_append getElem?_set_self map_map length_cons set_set getElem_mem getElem?_append_left lookup_cons nodup_nil getElem?_append_right nil_append mem_cons not_mem_nil length_filter_le append_nil all_eq_true contains_iff_mem length_take flatten_cons any_eq_true length_range getElem?_eq_none length_singleton mem_range length_nil map_append map_nil perm_append_comm find?_cons take_of_length_le mem_map pairwise_map mem_of_getLast? getElem?_replicate length_drop ext_getElem? getElem_of_mem filter_sublist map_inj_right drop_eq_nil_of_le drop_eq_getElem_cons sum_cons mem_filter filter_cons exists_mem_of_ne_nil nodup_range length_pos_of_mem)
set_option Elab.async false
set_option linter.all false
set_option maxRecDepth 100000
set_option maxHeartbeats 4000000
set_option maxRecDepth 10000
abbrev Fg:=PySem.W.Frag
abbrev IC (i:Nat):PySem.Stmt:=(PySem.Challenge.pw_foreseehall_k55_whole_staying_and_judgin.main.body)[i]!
namespace L2
open PySem PySem.Spec PyProof.Rows
abbrev bL:=Sum Int Str
def iR:bL->Value->Bool
 | .inl k,v=>Value.isInt k v
 | .inr x,v=>Value.isStrOf x v
def B7 (w:World):bL->Int
 | .inl k=>hashInt k
 | .inr x=>hashStr w x
theorem wD:∀{k:bL} {v:Value},iR k v=true->(∃i t,k=Sum.inl i/\v=Value.int i t)\/(∃x t,k=Sum.inr x/\v=Value.str x t)
 | .inl i,v,h=>by
  obtain ⟨t,e⟩:=Value.isInt_shape (k:=i) (v:=v) h
  exact .inl ⟨i,t,rfl,e⟩
 | .inr x,v,h=>by
  obtain ⟨t,e⟩:=Value.isStrOf_shape (x:=x) (v:=v) h
  exact .inr ⟨x,t,rfl,e⟩
theorem rO (i:Int) (t:Tok):iR (.inl i) (.int i t)=true:=by simp [iR,Value.isInt]
theorem rN (x:Str) (t:Tok):iR (.inr x) (.str x t)=true:=by simp [iR,Value.isStrOf]
theorem B6 (a b:Int):decide ((Sum.inl a:bL)=Sum.inl b)=(a==b):=by
 by_cases e:a=b
 ·subst e;simp
 ·have h:¬(Sum.inl a:bL)=Sum.inl b:=fun q=>e (Sum.inl.inj q)
  rw [decide_eq_false h];exact (beq_eq_false_iff_ne.mpr e).symm
theorem B2 (a b:Str):decide ((Sum.inr a:bL)=Sum.inr b)=decide (a=b):=by
 by_cases e:a=b
 ·subst e;simp
 ·have h:¬(Sum.inr a:bL)=Sum.inr b:=fun q=>e (Sum.inr.inj q)
  rw [decide_eq_false h,decide_eq_false e]
theorem B5 (a:Int) (b:Str):decide ((Sum.inl a:bL)=Sum.inr b)=false:=decide_eq_false (fun q=>nomatch q)
theorem B3 (a:Str) (b:Int):decide ((Sum.inr a:bL)=Sum.inl b)=false:=decide_eq_false (fun q=>nomatch q)
def jI (prog:Program) (w:World):PySem.KeyKind prog w bL where
 is:=iR
 hash:=B7 w
 inj:=fun v a b ha hb=>by
  rcases wD ha with ⟨i,t,rfl,rfl⟩ | ⟨x,t,rfl,rfl⟩
  ·rcases wD hb with ⟨j,u,rfl,e⟩ | ⟨y,u,rfl,e⟩
   ·injection e with e1 _;rw [e1]
   ·exact nomatch e
  ·rcases wD hb with ⟨j,u,rfl,e⟩ | ⟨y,u,rfl,e⟩
   ·exact nomatch e
   ·injection e with e1 _;rw [e1]
 byValue:=fun k v h=>by
  rcases wD h with ⟨i,t,rfl,rfl⟩ | ⟨x,t,rfl,rfl⟩<;>rfl
 pyHash:=fun hv h=>by
  rcases wD hv with ⟨i,t,rfl,rfl⟩ | ⟨x,t,rfl,rfl⟩
  ·exact wpAny_pyHash_int h
  ·exact wpAny_pyHash_str h
 eqBool:=fun hu hv h=>by
  rcases wD hu with ⟨i,t,rfl,rfl⟩ | ⟨x,t,rfl,rfl⟩
  ·rcases wD hv with ⟨j,u,rfl,rfl⟩ | ⟨y,u,rfl,rfl⟩
   ·rw [B6] at h;exact wpAny_eqBool_int h
   ·rw [B5] at h;exact SeqAt.EqAt.int_str i t y u _ _ _ _ h
  ·rcases wD hv with ⟨j,u,rfl,rfl⟩ | ⟨y,u,rfl,rfl⟩
   ·rw [B3] at h;exact SeqAt.EqAt.str_int x t j u _ _ _ _ h
   ·rw [B2] at h;exact wpAny_eqBool_str h
 «strs»:=fun k x t v h=>by
  rcases wD h with ⟨i,u,rfl,e⟩ | ⟨y,u,rfl,e⟩
  ·exact nomatch e
  ·injection e with e1 _
   subst e1
   cases v<;>rfl
theorem mr (prog:Program) (w:World) (i:Int) (t:Tok):(jI prog w).is (.inl i) (.int i t)=true:=rO i t
theorem mq (prog:Program) (w:World) (x:Str) (t:Tok):(jI prog w).is (.inr x) (.str x t)=true:=rN x t
inductive V where
 | non | bl (b:Bool) | int (i:Int) | str (x:Str) | byt (b:Array UInt8) | flt (b:UInt64) | ref (a:Addr) | ty (n:String)
 deriving DecidableEq
def RelV:V->Value->Prop
 | .non,u=>u=Value.none
 | .bl b,u=>u=Value.bool b
 | .int i,u=>∃t,u=Value.int i t
 | .str x,u=>∃t,u=Value.str x t
 | .byt b,u=>∃t,u=Value.bytes b t
 | .flt b,u=>∃t,u=Value.float b t
 | .ref a,u=>u=Value.ref a
 | .ty n,u=>u=Value.type n
abbrev Vals:List V->List Value->Prop:=Paired RelV
theorem Vals.length {xs:List V} {us:List Value} (r:Vals xs us):xs.length=us.length:=Paired.length r
theorem Vals.get:∀{xs:List V} {us:List Value} {i:Nat} {x:V},Vals xs us->xs[i]?=some x->∃u,us[i]?=some u/\RelV x u
 | _,_,_,_,.nil,e=>by simp at e
 | _,_,0,_,.cons r _,e=>by simp at e;subst e;exact ⟨_,rfl,r⟩
 | _,_,i+1,x,.cons _ t,e=>by
  obtain ⟨u,h1,h2⟩:=Vals.get (i:=i) (x:=x) t (by simpa using e)
  exact ⟨u,by simpa using h1,h2⟩
theorem Vals.set {x:V} {u:Value} (r:RelV x u):∀{xs:List V} {us:List Value} (i:Nat),Vals xs us->Vals (xs.set i x) (us.set i u)
 | _,_,_,.nil=>.nil
 | _,_,0,.cons _ t=>.cons r t
 | _,_,i+1,.cons q t=>.cons q (Vals.set r i t)
theorem Vals.append:∀{xs ys:List V} {us ws:List Value},Vals xs us->Vals ys ws->Vals (xs++ys) (us++ws)
 | _,_,_,_,.nil,s=>s
 | _,_,_,_,.cons r t,s=>.cons r (Vals.append t s)
theorem Vals.take:∀{xs:List V} {us:List Value} (n:Nat),Vals xs us->Vals (xs.take n) (us.take n)
 | _,_,0,_=>.nil
 | _,_,_+1,.nil=>.nil
 | _,_,n+1,.cons r t=>.cons r (Vals.take n t)
theorem Vals.drop:∀{xs:List V} {us:List Value} (n:Nat),Vals xs us->Vals (xs.drop n) (us.drop n)
 | _,_,0,r=>r
 | _,_,_+1,.nil=>.nil
 | _,_,n+1,.cons _ t=>Vals.drop n t
def RelO:Option V->Option Value->Prop
 | some v,some u=>RelV v u
 | none,none=>True
 | _,_=>False
def KV {κ:Type}:List (κ×V)->List (κ×Value)->Prop:=Paired fun (p:κ×V) (q:κ×Value)=>p.1=q.1/\RelV p.2 q.2
def kV:bL->V
 | .inl i=>.int i
 | .inr x=>.str x
inductive HO where
 | lst (xs:List V)
 | tup (xs:List V)
 | dK (kvs:List (bL×V)) | dT (kvs:List (List bL×V))
 | set (S:Int->Bool) (n:Nat)
 | ins (C dx:Addr) (fs:List (Str×V))
 | own (x:Addr)
 | xd (fs:List (Str×V))
 | met (f x:Addr)
 | rng (lo hi:Int)
 | frz (o:Obj) (u:HO)
 | tbl (ps:Array Value)
 | ext (φ:Heap->Prop)
abbrev Hp:=Addr->Option HO
def bx (H:Hp) (a:Addr) (o:HO):Hp:=fun b=>if b=a then some o else H b
theorem dQ {H:Hp} {a:Addr} {o:HO}:bx H a o a=some o:=by unfold bx;rw [if_pos rfl]
theorem cQ {H:Hp} {a b:Addr} {o:HO} (h:b≠a):bx H a o b=H b:=by unfold bx;rw [if_neg h]
theorem En {H:Hp} {a b:Addr} {o u:HO} (h:H a=some o) (h':H b=some u) (d:o≠u):a≠b:=by
 intro e;subst e;rw [h] at h';exact d (Option.some.inj h')
theorem kf {H:Hp} {a b:Addr} {o:HO} (h:H a=some o) (h':H b=none):a≠b:=by
 intro e;subst e;rw [h] at h';cases h'
section
variable (P:Program) (w:World)
def ObjOk (H:Hp) (h:Heap) (a:Addr):HO->Prop
 | .lst xs=>xs.length<=sizeLine/\∃(its:List Value) (n:Nat),Vals xs its/\h.get? a=some { cls:=.type "list",data:=.seq its.toArray n }
 | .tup xs=>xs.length<=sizeLine/\∃its:List Value,Vals xs its/\IsTup h a its.toArray
 | .dK kvs=>kvs.length<=sizeLine/\(a==sysModules)=false/\∃vs,KV kvs vs/\h.DictOf (jI P w) a vs
 | .dT kvs=>kvs.length<=sizeLine/\(a==sysModules)=false/\∃xs:List (List bL×Addr×Value),
   Paired (fun (p:List bL×V) (q:List bL×Addr×Value)=>p.1=q.1/\H q.2.1=some (.tup (p.1.map kV))/\RelV p.2 q.2.2) kvs xs /\
   ∃o es ep,h.get? a=some o/\o.ExactDict/\o.data=.dict es ep/\es.toList=xs.map (entryOfKey (tupleKind (jI P w)))/\(xs.map (·.1)).Nodup
 | .set S n=>h.SetOf (intKind P w) a S n
 | .ins C dx fs=>H dx=some (.own a)/\fs.length<=1000/\dx≠a/\h.get? a=some (PySem.W.instObj C dx) /\
   ∃mA,h.Ns1 dx mA/\(∀f,RelO (fs.lookup f) (mA f))/\PySem.Within mA (fs.map (·.1))
 | .own _=>∃o,h.get? a=some o
 | .xd fs=>∃mA,h.Ns1 a mA/\∀f,RelO (fs.lookup f) (mA f)
 | .rng lo hi=>∃t u v,h.get? a=some { cls:=.type "range",data:=.fields #[.int lo t,.int hi u,.int 1 v] }
 | .frz o u=>h.get? a=some o/\ObjOk H h a u
 | .tbl ps=>h.get? a=some { cls:=.none,data:=.fields ps }
 | .met f x=>h.get? a=some (PySem.W.methodObj (.ref f) (.ref x))
 | .ext φ=>φ h/\(∃o,h.get? a=some o)/\∀h1 h2:Heap,φ h1->(∀o,h1.get? a=some o->h2.get? a=some o)->φ h2
def HOk (H:Hp) (h:Heap):Prop:=∀a o,H a=some o->ObjOk P w H h a o
end
section
variable {P:Program} {w:World} {H H':Hp} {h h':Heap} {a:Addr} {o:HO}
theorem ObjOk.lt (x:ObjOk P w H h a o):a<h.objs.size:=by
 cases o with
 | lst xs=>obtain ⟨_,_,_,_,e⟩:=x;exact Heap.lt_size e
 | tup xs=>obtain ⟨_,_,_,p⟩:=x;exact p.lt
 | dK kvs=>obtain ⟨_,_,_,_,o,_,_,e,_⟩:=x;exact Heap.lt_size e
 | dT kvs=>obtain ⟨_,_,_,_,o,_,_,e,_⟩:=x;exact Heap.lt_size e
 | set S n=>obtain ⟨o,_,_,_,e,_⟩:=x;exact Heap.lt_size e
 | ins C dx fs=>obtain ⟨_,_,_,e,_⟩:=x;exact Heap.lt_size e
 | own y=>obtain ⟨_,e⟩:=x;exact Heap.lt_size e
 | xd fs=>obtain ⟨_,⟨_,_,_,e,_⟩,_⟩:=x;exact Heap.lt_size e
 | rng lo hi=>obtain ⟨_,_,_,e⟩:=x;exact Heap.lt_size e
 | frz ob u=>obtain ⟨e,_⟩:=x;exact Heap.lt_size e
 | tbl ps=>exact Heap.lt_size (show h.get? a=some _ from x)
 | met f y=>exact Heap.lt_size (show h.get? a=some _ from x)
 | ext φ=>obtain ⟨_,⟨_,e⟩,_⟩:=x;exact Heap.lt_size e
theorem Paired.mapP {α β:Type} {F G:α->β->Prop}:∀{l₁:List α} {l₂:List β},Paired F l₁ l₂->(∀a b,F a b->G a b)->Paired G l₁ l₂
 | _,_,.nil,_=>.nil
 | _,_,.cons r t,f=>.cons (f _ _ r) (Paired.mapP t f)
theorem ObjOk.stay (x:ObjOk P w H h a o) (k:∀b u,(b=a\/H b=some (.own a))->h.get? b=some u->h'.get? b=some u)
  (ho:∀b,H b=some (.own a)->H' b=some (.own a)) (ht:∀b xs,H b=some (.tup xs)->H' b=some (.tup xs)):ObjOk P w H' h' a o:=by
 induction o with
 | lst xs=>obtain ⟨z,its,n,r,e⟩:=x;exact ⟨z,its,n,r,k _ _ (.inl rfl) e⟩
 | tup xs=>obtain ⟨z,its,r,ob,e,c⟩:=x;exact ⟨z,its,r,ob,k _ _ (.inl rfl) e,c⟩
 | dK kvs=>obtain ⟨z,y,vs,r,ob,es,ep,e,c⟩:=x;exact ⟨z,y,vs,r,ob,es,ep,k _ _ (.inl rfl) e,c⟩
 | dT kvs=>
  obtain ⟨z,y,xs,r,ob,es,ep,e,c⟩:=x;exact ⟨z,y,xs,Paired.mapP r fun p q z=>⟨z.1,ht _ _ z.2.1,z.2.2⟩,ob,es,ep,k _ _ (.inl rfl) e,c⟩
 | set S n=>obtain ⟨ob,es,ep,t,e,c⟩:=x;exact ⟨ob,es,ep,t,k _ _ (.inl rfl) e,c⟩
 | ins C dx fs=>
  obtain ⟨d,z,ne,e,mA,⟨od,es,ep,e2,c⟩,r⟩:=x;exact ⟨ho _ d,z,ne,k _ _ (.inl rfl) e,mA,⟨od,es,ep,k _ _ (.inr d) e2,c⟩,r⟩
 | own y=>obtain ⟨ob,e⟩:=x;exact ⟨ob,k _ _ (.inl rfl) e⟩
 | xd fs=>obtain ⟨mA,⟨od,es,ep,e,c⟩,r⟩:=x;exact ⟨mA,⟨od,es,ep,k _ _ (.inl rfl) e,c⟩,r⟩
 | rng lo hi=>obtain ⟨t,u,v,e⟩:=x;exact ⟨t,u,v,k _ _ (.inl rfl) e⟩
 | frz ob u ih=>obtain ⟨e,q⟩:=x;exact ⟨k _ _ (.inl rfl) e,ih q⟩
 | tbl ps=>
  have e:h.get? a=some { cls:=.none,data:=.fields ps }:=x
  show h'.get? a=some { cls:=.none,data:=.fields ps }
  exact k a _ (.inl rfl) e
 | met f y=>
  have e:h.get? a=some (PySem.W.methodObj (.ref f) (.ref y)):=x
  show h'.get? a=some (PySem.W.methodObj (.ref f) (.ref y))
  exact k a _ (.inl rfl) e
 | ext φ=>obtain ⟨p,⟨o,e⟩,st⟩:=x;exact ⟨st _ _ p fun o q=>k _ _ (.inl rfl) q,⟨o,k _ _ (.inl rfl) e⟩,st⟩
theorem HOk.lt (x:HOk P w H h) (e:H a=some o):a<h.objs.size:=(x a o e).lt
theorem HOk.fresh (x:HOk P w H h) (e:h.objs.size<=a):H a=none:=by
 cases q:H a with
 | none=>rfl
 | some u=>exact absurd (Nat.lt_of_lt_of_le (x.lt q) e) (Nat.lt_irrefl _)
theorem HOk.kept (x:HOk P w H h) (k:∀b u,h.get? b=some u->h'.get? b=some u):HOk P w H h':=fun a o e=>
 (x a o e).stay (fun b u _ q=>k b u q) (fun _ q=>q) fun _ _ q=>q
theorem HOk.laid (x:HOk P w H h) (k:∀b u,h.get? b=some u->h'.get? b=some u) (hp:h.objs.size<=a) (new:ObjOk P w (bx H a o) h' a o):HOk P w (bx H a o) h':=fun b u e=>by
 have hn:=x.fresh hp
 by_cases hb:b=a
 ·subst hb;rw [dQ] at e;cases e;exact new
 ·rw [cQ hb] at e
  exact (x b u e).stay (fun c v _ q=>k c v q) (fun c q=>by rw [cQ (kf q hn)];exact q) fun c xs q=>by rw [cQ (kf q hn)];exact q
end
def Rd (H:Hp) (a:Addr) (u:HO):Prop:=H a=some u\/∃o,H a=some (.frz o u)
theorem Rd.ok {P:Program} {w:World} {H:Hp} {h:Heap} {a:Addr} {u:HO} (r:Rd H a u) (x:HOk P w H h):ObjOk P w H h a u:=by
 rcases r with r | ⟨o,r⟩
 ·exact x a u r
 ·obtain ⟨_,q⟩:=x a _ r
  exact q
def EY:Option HO->Prop
 | some (.lst _)=>True
 | some (.dK _)=>True
 | some (.dT _)=>True
 | some (.set _ _)=>True
 | some (.ins _ _ _)=>True
 | some (.ext _)=>True
 | _=>False
section
variable {P:Program} {w:World} {H:Hp} {h h':Heap} {x e:Addr} {o':HO}
theorem HOk.write (ok:HOk P w H h) (mu:EY (H x)) (he:e=x\/H e=some (.own x)) (k:∀b u,b≠e->h.get? b=some u->h'.get? b=some u) (heo:∃u,h'.get? e=some u)
  (new:ObjOk P w (bx H x o') h' x o'):HOk P w (bx H x o') h':=fun b u q=>by
 have nown:∀c y,H c=some (.own y)->c≠x:=fun c y r z=>by subst z;rw [r] at mu;exact mu
 have ntup:∀c xs,H c=some (.tup xs)->c≠x:=fun c xs r z=>by subst z;rw [r] at mu;exact mu
 by_cases hb:b=x
 ·subst hb;rw [dQ] at q;cases q;exact new
 ·rw [cQ hb] at q
  by_cases hbe:b=e
  ·have q':H b=some (.own x):=by
    rcases he with z | z
    ·exact absurd (hbe.trans z) hb
    ·rw [hbe];exact z
   rw [q] at q';cases q'
   obtain ⟨v,hv⟩:=heo;exact ⟨v,by rw [hbe];exact hv⟩
  ·refine (ok b u q).stay (fun c v hc r=>k c v ?_ r) (fun c r=>by rw [cQ (nown c b r)];exact r) fun c xs r=>by rw [cQ (ntup c xs r)];exact r
   rcases hc with rfl | hc
   ·exact hbe
   ·rintro rfl
    rcases he with z | z
    ·exact nown c b hc z
    ·rw [hc] at z;cases z;exact hb rfl
end
structure Un (fs ex:List Addr) (H H':Hp) (h h':Heap):Prop where
 keep:∀b o,h.get? b=some o->H b=none->b∉fs->b∉ex->h'.get? b=some o
 slot:∀b o,h.get? b=some o->H b=none->b∈fs->b∉ex->∃sl,h'.get? b=some { o with slots:=sl }
 free:∀b o,h.get? b=some o->H b=none->b∉ex->H' b=none
 there:∀b o,h.get? b=some o->b∉ex->∃o',h'.get? b=some o'
 tups:∀b xs,H b=some (.tup xs)->H' b=some (.tup xs)
 frzs:∀b o u,H b=some (.frz o u)->H' b=some (.frz o u)
 tbls:∀b ps,H b=some (.tbl ps)->∃more,H' b=some (.tbl (ps++more))
section
variable {fs fs' ex ex':List Addr} {H H1 H2:Hp} {h h1 h2 h':Heap} {a x e:Addr} {o:HO}
theorem Un.any (u:Un fs ex H H1 h h1) {b:Addr} {ob:Obj} (q:h.get? b=some ob) (n:H b=none) (hx:b∉ex):∃sl,h1.get? b=some { ob with slots:=sl }:=by
 by_cases hb:b∈fs
 ·exact u.slot b ob q n hb hx
 ·exact ⟨ob.slots,u.keep b ob q n hb hx⟩
theorem Un.kept (k:∀b u,h.get? b=some u->h'.get? b=some u):Un fs ex H H h h':=
 ⟨fun b ob q _ _ _=>k b ob q,fun b ob q _ _ _=>⟨ob.slots,k b ob q⟩,fun _ _ _ n _=>n,fun b ob q _=>⟨ob,k b ob q⟩,fun _ _ q=>q,fun _ _ _ q=>q,fun _ ps q=>⟨#[],by rw [q];simp⟩⟩
theorem Un.refl:Un fs ex H H h h:=Un.kept fun _ _ q=>q
theorem Un.laid (k:∀b u,h.get? b=some u->h'.get? b=some u) (hp:h.objs.size<=a) (hn:H a=none):Un fs ex H (bx H a o) h h' where
 keep:=fun b u q _ _ _=>k b u q
 slot:=fun b u q _ _ _=>⟨u.slots,k b u q⟩
 free:=fun b u q n _=>by rw [cQ (Nat.ne_of_lt (Nat.lt_of_lt_of_le (Heap.lt_size q) hp))];exact n
 there:=fun b u q _=>⟨u,k b u q⟩
 tups:=fun b xs q=>by rw [cQ (kf q hn)];exact q
 frzs:=fun b u xs q=>by rw [cQ (kf q hn)];exact q
 tbls:=fun b ps q=>⟨#[],by rw [cQ (kf q hn),q];simp⟩
theorem Un.write (mu:EY (H x)) (he:e=x\/H e=some (.own x)) (k:∀b u,b≠e->h.get? b=some u->h'.get? b=some u) (heo:∃u,h'.get? e=some u):Un fs ex H (bx H x o) h h':=by
 have hx:∀b,H b=none->b≠x:=fun b n z=>by subst z;rw [n] at mu;exact mu
 have hb:∀b,H b=none->b≠e:=fun b n z=>by
  subst z;rcases he with r | r
  ·exact hx b n r
  ·rw [n] at r;cases r
 have hm:∀b u,H b=some u->¬EY (some u)->b≠x:=fun b u q nm z=>by subst z;rw [q] at mu;exact nm mu
 refine ⟨fun b u q n _ _=>k b u (hb b n) q,fun b u q n _ _=>⟨u.slots,k b u (hb b n) q⟩,fun b u q n _=>by rw [cQ (hx b n)];exact n,fun b u q _=>?_,
  fun b xs q=>by rw [cQ (hm b _ q fun z=>z)];exact q,fun b u xs q=>by rw [cQ (hm b _ q fun z=>z)];exact q,fun b ps q=>⟨#[],by rw [cQ (hm b _ q fun z=>z),q];simp⟩⟩
 by_cases hbe:b=e
 ·subst hbe;exact heo
 ·exact ⟨u,k b u hbe q⟩
end
def FZ (h:Heap) (H:Hp):List Addr:=(List.range h.objs.size).filter fun a=>(H a).isSome
def kE (h:Heap) (H:Hp):Heap:=PySem.W.hideAll h (FZ h H)
theorem rT (h:Heap) (H:Hp):(kE h H).objs.size=h.objs.size:=PySem.W.hideAll_size _ _
theorem vq {h:Heap} {H:Hp} {b:Addr} {o:Obj} (e:h.get? b=some o) (n:H b=none):(kE h H).get? b=some o:=
 PySem.W.hideAll_get _ e fun hm=>by
  have q:(H b).isSome=true:=(List.mem_filter.mp hm).2
  rw [n] at q;simp at q
theorem yc {h:Heap} {H:Hp} {b:Addr} {o:Obj} (e:(kE h H).get? b=some o):h.get? b=some o/\H b=none:=by
 have e':h.get? b=some o:=PySem.W.of_hideAll (FZ h H) e
 refine ⟨e',?_⟩
 cases q:H b with
 | none=>rfl
 | some x=>
  have hm:b∈FZ h H:=List.mem_filter.mpr ⟨List.mem_range.mpr (Heap.lt_size e'),by simp [q]⟩
  have z:(kE h H).get? b=none:=PySem.W.hideAll_none (FZ h H) hm
  rw [z] at e;cases e
def y1 (g h:Heap) (L:Addr):List (Addr×Obj):=(List.range h.objs.size).filterMap fun a=>if a=L\/(g.get? a).isSome=true then none else (h.get? a).map fun o=>(a,o)
def rest (g h:Heap) (L d:Addr):List (Addr×Obj):=(y1 g h L).filter fun p=>decide (p.1≠d)
structure Mod (K:Fg) (mg:Str->Option Value) (base:Heap):Prop where
 kin:K.In base
 glob:base.Ns mainGlobals mg
 blt:∃mb,base.Ns builtinsNs mb/\∀x:Str,x ≠ "__name__"->mb x=bootBuiltins x
 nolimit:base.NoLimit
structure Cx where
 prog:Program
 w:World
 K:Fg
 mg:Str->Option Value
 base:Heap
 A:Around
 N:List Str
 s₀:Shared
 H₀:Hp
 env:Env
 outer:List Env
 stack:List Env
 ex:List Addr
 fn:Str->Bool
 calm:Bool
 pn:List (Addr×Obj)
 xe:Value->Shared->Prop
def vB (l:List Env):List Addr:=l.filterMap (·.frame)
abbrev Cx.fs (X:Cx):List Addr:=vB X.outer
def CO (sc:Scope) (x:Str):Prop:=sc.names.lookup x=some .local\/sc.names.lookup x=some .cell\/sc.names.lookup x=some .free
def Loc (sc:Scope) (x:Str):Prop:=sc.names.lookup x=some .local\/sc.names.lookup x=some .cell
def Look (env:Env) (h:Heap) (m:Str->Option Value) (x:Str) (u:Value):Prop:=
 (env.kindOf x=some .local/\m x=some u)\/((env.kindOf x=some .cell\/env.kindOf x=some .free)/\∃c,env.cells.lookup x=some c/\h.IsCell c (some u))
structure Cx.Ok (X:Cx):Prop where
 mod:Mod X.K X.mg X.base
 kind:X.env.scope.kind=.function
 glob:X.env.globals=mainGlobals
 blt:X.env.builtins=builtinsNs
 above:X.s₀.heap.objs.size<=X.env.locals
 inj:∀x y c,X.env.cells.lookup x=some c->X.env.cells.lookup y=some c->x=y
 has:∀x,(X.env.kindOf x=some .cell\/X.env.kindOf x=some .free)->∃c,X.env.cells.lookup x=some c
 cab:∀x c,X.fn x=true->X.env.cells.lookup x=some c->X.s₀.heap.objs.size<=c
 hd:X.calm=true->X.A.handled=none
 frames:X.A.frames=some X.stack
 stk:X.stack=X.outer\/(X.stack=X.env::X.outer/\X.env.frame=some X.env.locals)
 exf:∀b∈X.ex,b≠X.env.locals/\∀x c,X.env.cells.lookup x=some c->c≠b
 bs:∀b o,X.base.get? b=some o->X.s₀.heap.get? b=some o/\X.H₀ b=none
 bsz:X.base.objs.size<=X.s₀.heap.objs.size
 noex:∀b o,X.base.get? b=some o->b∉X.ex
 exfs:∀b∈X.ex,b∉X.fs
 funs:X.s₀.heap.FunFrames X.base X.outer
 frf:∀b∈X.fs,X.H₀ b=none
structure Inv (X:Cx) (pins:List (Addr×Obj)) (σ:List (Option V)) (H:Hp) (s:Shared):Prop where
 ok:X.Ok
 os:s.os=X.s₀.os
 bare:AllBare s.gens
 base:Un X.fs X.ex X.H₀ H X.s₀.heap s.heap
 loc:∃m,s.heap.Ns X.env.locals m/\∀(i:Nat) (x:Str) (v:V),X.N[i]?=some x->σ[i]?=some (some v)->CO X.env.scope x->∃u,RelV v u/\Look X.env s.heap m x u
 cell:∀x c,X.env.cells.lookup x=some c->∃v,s.heap.IsCell c v
 free:H X.env.locals=none
 freeC:∀x c,X.env.cells.lookup x=some c->H c=none
 pin:∀p∈X.pn++pins,s.heap.get? p.1=some p.2/\H p.1=none/\p.1≠X.env.locals/\p.1∉X.fs/\∀v,p.2.data≠.cell v
 hok:HOk X.prog X.w H s.heap
 len:σ.length=X.N.length
section
variable {X:Cx} {pins:List (Addr×Obj)} {σ:List (Option V)} {H H':Hp} {s:Shared} {h':Heap}
theorem Cx.Ok.nofr (ok:X.Ok) {b:Addr} {o:Obj} (e:X.base.get? b=some o):b∉X.fs:=fun hb=>by
 have:=(ok.funs.mem hb).1
 rw [e] at this;cases this
theorem Inv.bs (I:Inv X pins σ H s):∀b o,X.base.get? b=some o->s.heap.get? b=some o/\H b=none:=fun b o e=>
 ⟨I.base.keep b o (I.ok.bs b o e).1 (I.ok.bs b o e).2 (I.ok.nofr e) (I.ok.noex b o e),I.base.free b o (I.ok.bs b o e).1 (I.ok.bs b o e).2 (I.ok.noex b o e)⟩
theorem Inv.bk (I:Inv X pins σ H s):∀b o,X.base.get? b=some o->s.heap.get? b=some o:=fun b o e=>(I.bs b o e).1
theorem Inv.mod (I:Inv X pins σ H s):Mod X.K X.mg X.base:=I.ok.mod
theorem Inv.kIn (I:Inv X pins σ H s):X.K.In s.heap:=I.ok.mod.kin.keeps I.bk
theorem Inv.lt (I:Inv X pins σ H s):X.env.locals<s.heap.objs.size:=let ⟨_,hn,_⟩:=I.loc;hn.lt
theorem Inv.sz (I:Inv X pins σ H s):X.s₀.heap.objs.size<=s.heap.objs.size:=Nat.le_trans I.ok.above (Nat.le_of_lt I.lt)
theorem Inv.nofs (I:Inv X pins σ H s) {a:Addr} (h:s.heap.objs.size<=a):a∉X.fs:=fun hb=>by
 obtain ⟨_,o,ho,_⟩:=I.ok.funs.mem hb;exact absurd (Nat.lt_of_lt_of_le (Heap.lt_size ho) (Nat.le_trans I.sz h)) (Nat.lt_irrefl _)
theorem Inv.cne (I:Inv X pins σ H s):∀x c,X.env.cells.lookup x=some c->c≠X.env.locals:=fun x c e z=>by
 obtain ⟨v,o,ho,hd⟩:=I.cell x c e;obtain ⟨m,⟨o',es,ep,ho',hd',_⟩,_⟩:=I.loc;rw [z,ho'] at ho;cases ho;rw [hd'] at hd;cases hd
theorem Inv.funs (I:Inv X pins σ H s):s.heap.FunFrames X.base X.outer:=by
 have all:∀(l:List Env),(∀b∈vB l,b∈X.fs)->X.s₀.heap.FunFrames X.base l->s.heap.FunFrames X.base l:=by
  intro l;induction l with
  | nil=>intro _ _;trivial
  | cons env r ih=>
   intro hs hl;obtain ⟨hk,⟨L,o,hf,hn,ho,hd⟩,hr⟩:=hl;have hL:L∈X.fs:=hs L (by unfold vB;rw [List.filterMap_cons,hf];exact mem_cons_self)
   obtain ⟨sl,e⟩:=I.base.slot L o ho (I.ok.frf L hL) hL fun z=>I.ok.exfs L z hL
   exact ⟨hk,⟨L,_,hf,hn,e,hd⟩,ih (fun b hb=>hs b (by unfold vB;rw [List.filterMap_cons,hf];exact mem_cons_of_mem _ hb)) hr⟩
 exact all X.outer (fun _ hb=>hb) I.ok.funs
theorem Inv.stack (I:Inv X pins σ H s):s.heap.FunFrames X.base X.stack:=by
 rcases I.ok.stk with e | ⟨e,hf⟩
 ·rw [e];exact I.funs
 ·rw [e]
  obtain ⟨m,hn,_⟩:=I.loc;refine .cons (by rw [I.ok.kind];decide) hf hn ?_ I.funs
  exact Heap.get?_none_of_le (Nat.le_trans I.ok.bsz I.ok.above)
theorem Inv.stkSub (I:Inv X pins σ H s):∀b∈vB X.stack,b∈X.env.locals::X.fs:=fun b hb=>by
 rcases I.ok.stk with e | ⟨e,hf⟩
 ·rw [e] at hb;exact mem_cons_of_mem _ hb
 ·rw [e] at hb
  unfold vB at hb;rw [List.filterMap_cons,hf] at hb;exact hb
theorem Inv.stkFree (I:Inv X pins σ H s):∀b∈vB X.stack,H b=none:=fun b hb=>by
 rcases List.mem_cons.mp (I.stkSub b hb) with e | hb
 ·rw [e];exact I.free
 ·obtain ⟨_,o,ho,_⟩:=I.ok.funs.mem hb
  exact I.base.free b o ho (I.ok.frf b hb) fun z=>I.ok.exfs b z hb
theorem Inv.step {g':Array GenState} {t':Nat} {d':Drawn} {ch:List Addr} (I:Inv X pins σ H s)
  (hch:∀b∈ch,(b∈X.ex\/X.s₀.heap.objs.size<=b)/\b≠X.env.locals/\(∀x c,X.env.cells.lookup x=some c->c≠b)/\∀p∈X.pn++pins,p.1≠b)
  (keep:∀b o,b≠X.env.locals->b∉X.fs->b∉ch->s.heap.get? b=some o->H b=none->h'.get? b=some o)
  (slot:∀b o,b≠X.env.locals->b∈X.fs->b∉ch->s.heap.get? b=some o->H b=none->∃sl,h'.get? b=some { o with slots:=sl }) (free:∀b o,b∉ch->s.heap.get? b=some o->H b=none->H' b=none)
  (there:∀b o,b∉ch->s.heap.get? b=some o->∃o',h'.get? b=some o')
  (tups:∀b xs,H b=some (.tup xs)->H' b=some (.tup xs)) (frzs:∀b o u,H b=some (.frz o u)->H' b=some (.frz o u)) (tbls:∀b ps,H b=some (.tbl ps)->∃more,H' b=some (.tbl (ps++more)))
  (ns:∀m,s.heap.Ns X.env.locals m->h'.Ns X.env.locals m) (hok:HOk X.prog X.w H' h') (hg:AllBare g') :
  Inv X pins σ H' { s with heap:=h',gens:=g',drawn:=d',toks:=t' }:=by
 have neL:∀b o,X.s₀.heap.get? b=some o->b≠X.env.locals:=fun b o e=>Nat.ne_of_lt (Nat.lt_of_lt_of_le (Heap.lt_size e) I.ok.above)
 have neC:∀b o,X.s₀.heap.get? b=some o->b∉X.ex->b∉ch:=fun b o e hx hb=>by
  rcases (hch b hb).1 with z | z
  ·exact hx z
  ·exact absurd (Nat.lt_of_lt_of_le (Heap.lt_size e) z) (Nat.lt_irrefl _)
 have cellK:∀x c,X.env.cells.lookup x=some c->∀v,s.heap.IsCell c v->h'.IsCell c v:=fun x c e v ⟨o,ho,hd⟩=>by
  have nch:c∉ch:=fun z=>(hch c z).2.2.1 x c e rfl
  by_cases hc:c∈X.fs
  ·obtain ⟨sl,q⟩:=slot c o (I.cne x c e) hc nch ho (I.freeC x c e)
   exact ⟨_,q,hd⟩
  ·exact ⟨o,keep c o (I.cne x c e) hc nch ho (I.freeC x c e),hd⟩
 refine ⟨I.ok,I.os,hg,⟨fun b o e n hb hx=>?_,fun b o e n hb hx=>?_,fun b o e n hx=>?_,fun b o e hx=>?_,fun b xs e=>tups b xs (I.base.tups b xs e),fun b o xs e=>frzs b o xs (I.base.frzs b o xs e),fun b ps e=>?_⟩,?_,fun x c e=>?_,?_,fun x c e=>?_,fun p hp=>?_,hok,I.len⟩
 ·exact keep b o (neL b o e) hb (neC b o e hx) (I.base.keep b o e n hb hx) (I.base.free b o e n hx)
 ·obtain ⟨sl,e1⟩:=I.base.slot b o e n hb hx
  obtain ⟨sl',e2⟩:=slot b _ (neL b o e) hb (neC b o e hx) e1 (I.base.free b o e n hx);exact ⟨sl',e2⟩
 ·obtain ⟨o',e1⟩:=I.base.there b o e hx
  exact free b o' (neC b o e hx) e1 (I.base.free b o e n hx)
 ·obtain ⟨o',e1⟩:=I.base.there b o e hx
  exact there b o' (neC b o e hx) e1
 ·obtain ⟨m1,e1⟩:=I.base.tbls b ps e
  obtain ⟨m2,e2⟩:=tbls b _ e1;exact ⟨m1++m2,by rw [e2,Array.append_assoc]⟩
 ·obtain ⟨m,hn,hl⟩:=I.loc
  refine ⟨m,ns m hn,fun i x v e1 e2 e3=>?_⟩
  obtain ⟨u,r,l⟩:=hl i x v e1 e2 e3;refine ⟨u,r,?_⟩
  rcases l with l | ⟨k,c,e,z⟩
  ·exact .inl l
  ·exact .inr ⟨k,c,e,cellK x c e _ z⟩
 ·obtain ⟨v,z⟩:=I.cell x c e
  exact ⟨v,cellK x c e v z⟩
 ·obtain ⟨m,⟨o,_,_,ho,_⟩,_⟩:=I.loc
  exact free _ o (fun z=>(hch _ z).2.1 rfl) ho I.free
 ·obtain ⟨v,o,ho,hd⟩:=I.cell x c e
  exact free c o (fun z=>(hch c z).2.2.1 x c e rfl) ho (I.freeC x c e)
 ·obtain ⟨e,n,ne,nf,d⟩:=I.pin p hp
  have nch:p.1∉ch:=fun z=>(hch p.1 z).2.2.2 p hp rfl
  exact ⟨keep p.1 p.2 ne nf nch e n,free p.1 p.2 nch e n,ne,nf,d⟩
theorem Inv.un {t':Nat} (I:Inv X pins σ H s) (u:Un X.fs [] H H' s.heap h') (hok:HOk X.prog X.w H' h'):Inv X pins σ H' { s with heap:=h',toks:=t' }:=by
 obtain ⟨m,⟨o,es,ep,ho,r⟩,_⟩:=id I.loc;obtain ⟨sl,hL⟩:=u.any ho I.free (by simp)
 exact I.step (g':=s.gens) (d':=s.drawn) (ch:=[]) (fun _ z=>nomatch z) (fun b o _ hb _ e n=>u.keep b o e n hb (by simp)) (fun b o _ hb _ e n=>u.slot b o e n hb (by simp)) (fun b o _ e n=>u.free b o e n (by simp)) (fun b o _ e=>u.there b o e (by simp)) u.tups u.frzs u.tbls (fun m' hm=>by
  obtain ⟨o',es',ep',ho',r'⟩:=hm;rw [ho] at ho';cases ho'
  exact ⟨_,es',ep',hL,r'⟩) hok I.bare
theorem Inv.call {g':Array GenState} {t':Nat} {d':Drawn} {ch:List Addr} (I:Inv X pins σ H s) (u:Un (vB X.stack) ch H H' s.heap h') (hok:HOk X.prog X.w H' h') (hg:AllBare g')
  (hch:∀b∈ch,(b∈X.ex\/X.s₀.heap.objs.size<=b)/\b≠X.env.locals/\(∀x c,X.env.cells.lookup x=some c->c≠b)/\∀p∈X.pn++pins,p.1≠b) :
  Inv X pins σ H' { s with heap:=h',gens:=g',drawn:=d',toks:=t' }:=by
 obtain ⟨m,⟨o,es,ep,ho,r⟩,_⟩:=id I.loc;obtain ⟨sl,hL⟩:=u.any ho I.free fun z=>(hch _ z).2.1 rfl
 exact I.step (ch:=ch) hch (fun b o hL hb hc e n=>u.keep b o e n (fun z=>(List.mem_cons.mp (I.stkSub b z)).elim hL hb) hc) (fun b o _ _ hc e n=>u.any e n hc) (fun b o hc e n=>u.free b o e n hc) (fun b o hc e=>u.there b o e hc) u.tups u.frzs u.tbls (fun m' hm=>by
  obtain ⟨o',es',ep',ho',r'⟩:=hm;rw [ho] at ho';cases ho'
  exact ⟨_,es',ep',hL,r'⟩) hok hg
theorem Inv.turned {t':Nat} {it:Addr} (I:Inv X pins σ H s) (k:∀b o,b≠it->s.heap.get? b=some o->h'.get? b=some o) (hn:H it=none) (hL:it≠X.env.locals)
  (h1:it∈X.ex\/X.s₀.heap.objs.size<=it) (h2:∀x c,X.env.cells.lookup x=some c->c≠it) (h3:∀p∈X.pn++pins,p.1≠it):Inv X pins σ H { s with heap:=h',toks:=t' }:=by
 have nit:∀b u,H b=some u->b≠it:=fun b u e z=>by rw [z,hn] at e;cases e
 refine I.step (g':=s.gens) (d':=s.drawn) (ch:=[it]) (fun b hb=>?_) (fun b o _ _ hc e _=>k b o (fun z=>hc (by simp [z])) e) (fun b o _ _ hc e _=>⟨o.slots,k b o (fun z=>hc (by simp [z])) e⟩) (fun _ _ _ _ n=>n)
  (fun b o hc e=>⟨o,k b o (fun z=>hc (by simp [z])) e⟩) (fun _ _ e=>e) (fun _ _ _ e=>e) (fun b ps e=>⟨#[],by rw [e];simp⟩) (fun m hm=>?_) (fun b u e=>?_) I.bare
 ·have e:b=it:=by simpa using hb
  subst e;exact ⟨h1,hL,h2,h3⟩
 ·obtain ⟨o,es,ep,ho,r⟩:=hm
  exact ⟨o,es,ep,k _ o (Ne.symm hL) ho,r⟩
 ·refine (I.hok b u e).stay (fun c v hc q=>k c v ?_ q) (fun _ q=>q) fun _ _ q=>q
  rcases hc with z | z
  ·rw [z];exact nit b u e
  ·exact nit c _ z
theorem Inv.tok (I:Inv X pins σ H s) (t:Nat):Inv X pins σ H { s with toks:=t }:=I.un (h':=s.heap) (t':=t) Un.refl I.hok
theorem Inv.kept {t':Nat} (I:Inv X pins σ H s) (k:∀b u,s.heap.get? b=some u->h'.get? b=some u):Inv X pins σ H { s with heap:=h',toks:=t' }:=I.un (Un.kept k) (I.hok.kept k)
theorem Inv.laid {a:Addr} {o:HO} {t':Nat} (I:Inv X pins σ H s) (k:∀b u,s.heap.get? b=some u->h'.get? b=some u) (hp:s.heap.objs.size<=a) (new:ObjOk X.prog X.w (bx H a o) h' a o) :
  Inv X pins σ (bx H a o) { s with heap:=h',toks:=t' }:=I.un (Un.laid k hp (I.hok.fresh hp)) (I.hok.laid k hp new)
theorem Inv.write {x e:Addr} {o:HO} {t':Nat} (I:Inv X pins σ H s) (mu:EY (H x)) (he:e=x\/H e=some (.own x)) (k:∀b u,b≠e->s.heap.get? b=some u->h'.get? b=some u) (heo:∃u,h'.get? e=some u)
  (new:ObjOk X.prog X.w (bx H x o) h' x o):Inv X pins σ (bx H x o) { s with heap:=h',toks:=t' }:=I.un (Un.write mu he k heo) (I.hok.write mu he k heo new)
theorem Inv.weak {σ':List (Option V)} (I:Inv X pins σ H s) (hl:σ'.length=σ.length) (w:∀(i:Nat) v,σ'[i]?=some (some v)->σ[i]?=some (some v)):Inv X pins σ' H s:=
 ⟨I.ok,I.os,I.bare,I.base,let ⟨m,hn,hl'⟩:=I.loc;⟨m,hn,fun i x v e1 e2 e3=>hl' i x v e1 (w i v e2) e3⟩,I.cell,I.free,I.freeC,I.pin,I.hok,hl.trans I.len⟩
theorem Inv.pins_of {pins':List (Addr×Obj)} (I:Inv X pins σ H s) (h:∀p∈pins',s.heap.get? p.1=some p.2/\H p.1=none/\p.1≠X.env.locals/\p.1∉X.fs/\∀v,p.2.data≠.cell v):Inv X pins' σ H s:=
 ⟨I.ok,I.os,I.bare,I.base,I.loc,I.cell,I.free,I.freeC,fun p hp=>(List.mem_append.mp hp).elim (fun z=>I.pin p (mem_append_left _ z)) (h p),I.hok,I.len⟩
theorem mm {N:List Str} (hN:N.Nodup) {i j:Nat} {x:Str} (a:N[i]?=some x) (b:N[j]?=some x):i=j:=by
 obtain ⟨h1,e1⟩:=List.getElem?_eq_some_iff.mp a
 obtain ⟨h2,e2⟩:=List.getElem?_eq_some_iff.mp b
 exact (List.getElem_inj hN).mp (e1.trans e2.symm)
theorem jO {M:Model} {A:Around} {E:Value->Shared->Prop} {i:Nat} {x:Str} {v:V} {u:Value} {Q:Unit->Shared->Prop} (I:Inv X pins σ H s) (hN:X.N.Nodup) (hi:X.N[i]?=some x) (hx:Loc X.env.scope x) (r:RelV v u)
  (h:∀s',Inv X pins (σ.set i (some v)) H s'->(∃a,Heap.SameBut a s.heap s'.heap/\(a=X.env.locals\/X.env.cells.lookup x=some a))->Q () s') (hf:X.fn x=true\/X.env.scope.names.lookup x=some .local:=by first | exact .inl rfl | exact .inr rfl | assumption):wpAny M A (storeName X.env x u) Q E s:=by
 obtain ⟨m,hn,hl⟩:=id I.loc;have hcls:(X.env.scope.kind==.class||(X.env.scope.kind==.module&&X.env.locals != X.env.globals))=false:=by rw [I.ok.kind];rfl
 have hiσ:i<σ.length:=by rw [I.len];exact (List.getElem?_eq_some_iff.mp hi).1
 have cne:=I.cne
 have tracked:∀{a:Addr} {h':Heap},(∃o,s.heap.get? a=some o/\H a=none)->Heap.SameBut a s.heap h'->HOk X.prog X.w H h':=fun {a h'} ha hs b ob e=>by
  obtain ⟨_,_,hfree⟩:=ha;refine (I.hok b ob e).stay (fun c w' hc q=>(hs.2 c ?_).trans q) (fun _ q=>q) fun _ _ q=>q
  rintro rfl
  rcases hc with rfl | hc
  ·rw [hfree] at e;cases e
  ·rw [hfree] at hc;cases hc
 rcases hx with hk | hk
 ·refine wpAny_storeName_local hk hn (fun h' hn' hs=>?_) hcls
  obtain ⟨oL,_,_,hoL,_⟩:=id hn;refine h _ ⟨I.ok,I.os,I.bare,⟨fun b o e n hb hx=>?_,fun b o e n hb hx=>?_,I.base.free,fun b o e hx=>?_,I.base.tups,I.base.frzs,I.base.tbls⟩,⟨_,hn',fun j y v' e1 e2 e3=>?_⟩,fun y c e=>?_,I.free,I.freeC,fun p hp=>?_,tracked ⟨oL,hoL,I.free⟩ hs,by simpa using I.len⟩ ⟨_,hs,.inl rfl⟩
  ·exact (hs.2 b (Nat.ne_of_lt (Nat.lt_of_lt_of_le (Heap.lt_size e) I.ok.above))).trans (I.base.keep b o e n hb hx)
  ·obtain ⟨sl,e1⟩:=I.base.slot b o e n hb hx
   exact ⟨sl,(hs.2 b (Nat.ne_of_lt (Nat.lt_of_lt_of_le (Heap.lt_size e) I.ok.above))).trans e1⟩
  ·obtain ⟨o',e1⟩:=I.base.there b o e hx
   exact ⟨o',(hs.2 b (Nat.ne_of_lt (Nat.lt_of_lt_of_le (Heap.lt_size e) I.ok.above))).trans e1⟩
  ·by_cases hj:j=i
   ·subst hj
    rw [hi] at e1;cases e1;rw [getElem?_set_self hiσ] at e2
    cases e2;exact ⟨u,r,.inl ⟨hk,by simp⟩⟩
   ·rw [getElem?_set_ne (Ne.symm hj)] at e2
    obtain ⟨u',r',q⟩:=hl j y v' e1 e2 e3
    refine ⟨u',r',?_⟩
    rcases q with ⟨k,e⟩ | ⟨k,c,e,z⟩
    ·refine .inl ⟨k,?_⟩
     have:y≠x:=fun e=>hj (mm hN e1 (e▸hi))
     simp [this,e]
    ·exact .inr ⟨k,c,e,z.sameBut hs (cne y c e)⟩
  ·obtain ⟨w',z⟩:=I.cell y c e
   exact ⟨w',z.sameBut hs (cne y c e)⟩
  ·obtain ⟨e,n,ne,nf,d⟩:=I.pin p hp
   exact ⟨(hs.2 p.1 ne).trans e,n,ne,nf,d⟩
 ·have hfn:X.fn x=true:=by
   rcases hf with z | z
   ·exact z
   ·rw [z] at hk;cases hk
  obtain ⟨c,hc⟩:=I.ok.has x (.inl hk);obtain ⟨w',z⟩:=I.cell x c hc;refine wpAny_storeName_cell I.ok.kind hk hc z (fun h' hc' hs=>?_)
  obtain ⟨oc,hoc,hocd⟩:=id z;refine h { s with heap:=h' } ⟨I.ok,I.os,I.bare,⟨fun b o e n hb hx=>?_,fun b o e n hb hx=>?_,I.base.free,fun b o e hx=>?_,I.base.tups,I.base.frzs,I.base.tbls⟩,⟨m,hn.sameBut hs (Ne.symm (cne x c hc)),fun j y v' e1 e2 e3=>?_⟩,fun y c' e=>?_,I.free,I.freeC,fun p hp=>?_,tracked ⟨oc,hoc,I.freeC x c hc⟩ hs,by simpa using I.len⟩ ⟨c,hs,.inr hc⟩
  ·exact (hs.2 b (Nat.ne_of_lt (Nat.lt_of_lt_of_le (Heap.lt_size e) (I.ok.cab x c hfn hc)))).trans (I.base.keep b o e n hb hx)
  ·obtain ⟨sl,e1⟩:=I.base.slot b o e n hb hx
   exact ⟨sl,(hs.2 b (Nat.ne_of_lt (Nat.lt_of_lt_of_le (Heap.lt_size e) (I.ok.cab x c hfn hc)))).trans e1⟩
  ·obtain ⟨o',e1⟩:=I.base.there b o e hx
   exact ⟨o',(hs.2 b (Nat.ne_of_lt (Nat.lt_of_lt_of_le (Heap.lt_size e) (I.ok.cab x c hfn hc)))).trans e1⟩
  ·by_cases hj:j=i
   ·subst hj
    rw [hi] at e1;cases e1;rw [getElem?_set_self hiσ] at e2
    cases e2;exact ⟨u,r,.inr ⟨.inl hk,c,hc,hc'⟩⟩
   ·rw [getElem?_set_ne (Ne.symm hj)] at e2
    obtain ⟨u',r',q⟩:=hl j y v' e1 e2 e3
    refine ⟨u',r',?_⟩
    rcases q with q | ⟨k,c',e,z'⟩
    ·exact .inl q
    ·refine .inr ⟨k,c',e,z'.sameBut hs ?_⟩
     rintro rfl
     exact hj (mm hN e1 (I.ok.inj _ _ _ e hc▸hi))
  ·by_cases hcc:c'=c
   ·subst hcc;exact ⟨_,hc'⟩
   ·obtain ⟨w2,z2⟩:=I.cell y c' e
    exact ⟨w2,z2.sameBut hs hcc⟩
  ·obtain ⟨e,n,ne,nf,d⟩:=I.pin p hp
   refine ⟨(hs.2 p.1 ?_).trans e,n,ne,nf,d⟩
   intro q;rw [q,hoc] at e;have q':oc=p.2:=Option.some.inj e
   exact d w' (by rw [<-q'];exact hocd)
theorem HA {M:Model} {A:Around} {E:Value->Shared->Prop} {i:Nat} {x:Str} {v:V} {u:Value} {Q:Unit->Shared->Prop} (I:Inv X pins σ H s) (hN:X.N.Nodup) (hi:X.N[i]?=some x) (hx:Loc X.env.scope x) (r:RelV v u)
  (h:∀s',Inv X pins (σ.set i (some v)) H s'->Q () s') (hf:X.fn x=true\/X.env.scope.names.lookup x=some .local:=by first | exact .inl rfl | exact .inr rfl | assumption):wpAny M A (storeName X.env x u) Q E s:=
 jO I hN hi hx r (fun s' I' _=>h s' I') hf
theorem Inv.call' {s':Shared} {ch:List Addr} (I:Inv X pins σ H s) (ho:s'.os=s.os) (u:Un (vB X.stack) ch H H' s.heap s'.heap) (hok:HOk X.prog X.w H' s'.heap) (hg:AllBare s'.gens)
  (hch:∀b∈ch,(b∈X.ex\/X.s₀.heap.objs.size<=b)/\b≠X.env.locals/\(∀x c,X.env.cells.lookup x=some c->c≠b)/\∀p∈X.pn++pins,p.1≠b):Inv X pins σ H' s':=by
 obtain ⟨h',g',d',t',o'⟩:=s'
 have e:o'=s.os:=ho
 subst e;exact I.call (g':=g') (t':=t') (d':=d') u hok hg hch
end
abbrev XK:=Value->Option Addr->Hp->Prop
abbrev St:=List (Option V)
abbrev VK:=V->Hp->Prop
abbrev TE:=St->Hp->VK->Prop
abbrev TT:=St->Hp->(Bool->Hp->Prop)->Prop
abbrev TA:=St->Hp->(List V->Hp->Prop)->Prop
structure gh where
 nx:St->Hp->Prop
 rt:VK
 bk:St->Hp->Prop:=fun _ _=>False
 ct:St->Hp->Prop:=fun _ _=>False
abbrev TS:=gh->St->Hp->Prop
def EP (X:Cx) (pins:List (Addr×Obj)) (σ:St) (Q:VK) (u:Value) (s':Shared):Prop:=∃v H',Inv X pins σ H' s'/\RelV v u/\Q v H'
def TP (X:Cx) (pins:List (Addr×Obj)) (σ:St) (Q:Bool->Hp->Prop) (b:Bool) (s':Shared):Prop:=∃H',Inv X pins σ H' s'/\Q b H'
def AP (X:Cx) (pins:List (Addr×Obj)) (σ:St) (Q:List V->Hp->Prop) (us:List Value) (s':Shared):Prop:=∃vs H',Inv X pins σ H' s'/\Vals vs us/\Q vs H'
def SP (X:Cx) (pins:List (Addr×Obj)) (D:gh) (f:Flow) (s':Shared):Prop:=
 match f with
 | .next=>∃σ' H',Inv X pins σ' H' s'/\D.nx σ' H'
 | .brk=>∃σ' H',Inv X pins σ' H' s'/\D.bk σ' H'
 | .cont=>∃σ' H',Inv X pins σ' H' s'/\D.ct σ' H'
 | .ret u=>∃v σ' H',Inv X pins σ' H' s'/\RelV v u/\D.rt v H'
def PE (X:Cx) (e:Expr) (t:TE):Prop:=
 ∀(pins:List (Addr×Obj)) (s:Shared) (σ:St) (H:Hp) (Q:VK),Inv X pins σ H s->t σ H Q->wpAny (model X.prog X.w) X.A (eval e X.env) (EP X pins σ Q) X.xe s
def PT (X:Cx) (e:Expr) (t:TT):Prop:=
 ∀(pins:List (Addr×Obj)) (s:Shared) (σ:St) (H:Hp) (Q:Bool->Hp->Prop),Inv X pins σ H s->t σ H Q->wpAny (model X.prog X.w) X.A (isTrue e X.env (eval e X.env)) (TP X pins σ Q) X.xe s
def PW (X:Cx) (e:Expr) (t:TT):Prop:=
 ∀(whole:Sem Value) (pins:List (Addr×Obj)) (s:Shared) (σ:St) (H:Hp) (Q:Bool->Hp->Prop),Inv X pins σ H s->t σ H Q->wpAny (model X.prog X.w) X.A (isTrue e X.env whole) (TP X pins σ Q) X.xe s
theorem PW.pt {X:Cx} {e:Expr} {t:TT} (h:PW X e t):PT X e t:=h _
def PA (X:Cx) (es:List Expr) (t:TA):Prop:=
 ∀(pos:Pos) (pins:List (Addr×Obj)) (s:Shared) (σ:St) (H:Hp) (Q:List V->Hp->Prop),Inv X pins σ H s->t σ H Q->wpAny (model X.prog X.w) X.A (spliced (backTo pos (starEach es X.env))) (AP X pins σ Q) X.xe s
def PS (X:Cx) (st:Stmt) (t:TS):Prop:=
 ∀(pins:List (Addr×Obj)) (s:Shared) (σ:St) (H:Hp) (D:gh),Inv X pins σ H s->t D σ H->wpAny (model X.prog X.w) X.A (exec st X.env) (SP X pins D) X.xe s
def PSs (X:Cx) (st:List Stmt) (t:TS):Prop:=
 ∀(pins:List (Addr×Obj)) (s:Shared) (σ:St) (H:Hp) (D:gh),Inv X pins σ H s->t D σ H->wpAny (model X.prog X.w) X.A (execs st X.env) (SP X pins D) X.xe s
theorem bw {α:Type} {t:Sem α} {Q Q':α->Shared->Prop} {M:Model} {A:Around} {E:Value->Shared->Prop} {s:Shared} (h:wpAny M A t Q E s) (hQ:∀a s,Q a s->Q' a s):wpAny M A t Q' E s:=wpAny_mono h hQ fun _ _ x=>x
section
variable {X:Cx}
def bh (i:Nat):TE:=fun σ H Q=>∃v,σ[i]?=some (some v)/\Q v H
def tC (v:V):TE:=fun _ H Q=>Q v H
theorem wQ {i:Nat} {x:Str} {pos:Pos} (hN:X.N[i]?=some x) (hv:CO X.env.scope x) (hd:(x==("__debug__":Str))=false:=by decide) (hcd:(x==("__classdict__":Str))=false:=by decide):PE X (.Name x pos) (bh i):=by
 intro pins s σ H Q I h;obtain ⟨v,e,h⟩:=h;obtain ⟨m,hn,hl⟩:=I.loc;obtain ⟨u,r,l⟩:=hl i x v hN e hv;have fin:EP X pins σ Q u s:=⟨v,H,I,r,h⟩
 rcases l with ⟨hk,hm⟩ | ⟨hk,c,hc,hcell⟩
 ·exact wpAny_Name (wpAny_loadName_local I.ok.kind hk hn hm fin) hd
 ·rcases hk with hk | hk
  ·exact wpAny_Name (wpAny_loadName_cell I.ok.kind hk hc hcell fin) hd
  ·exact wpAny_Name (wpAny_loadName_free I.ok.kind hk hc hcell fin hcd) hd
theorem uT {i j pos}:PE X (.Constant (.int i) j pos) (tC (.int i)):=fun _ _ _ H _ I h=>wpAny_Constant_int ⟨.int i,H,I.tok _,⟨_,rfl⟩,h⟩
theorem uX {b j pos}:PE X (.Constant (.bool b) j pos) (tC (.bl b)):=fun _ _ _ H _ I h=>Constant_bool ⟨.bl b,H,I,rfl,h⟩
theorem BB {j pos}:PE X (.Constant .none j pos) (tC .non):=fun _ _ _ H _ I h=>Constant_none ⟨.non,H,I,rfl,h⟩
theorem uR {x j pos}:PE X (.Constant (.str x) j pos) (tC (.str x)):=fun _ _ _ H _ I h=>Calls.Constant_str ⟨.str x,H,I.tok _,⟨_,rfl⟩,h⟩
def Gl (X:Cx) (x:Str):Prop:=X.env.kindOf x=some .globalImplicit
theorem Fm {E:Value->Shared->Prop} {pins:List (Addr×Obj)} {s:Shared} {σ:St} {H:Hp} {x:Str} {u:Value} {pos:Pos} {Q:Value->Shared->Prop} (I:Inv X pins σ H s) (hg:Gl X x) (hm:X.mg x=some u) (h:Q u s)
  (hd:(x==("__debug__":Str))=false:=by decide):wpAny (model X.prog X.w) X.A (eval (.Name x pos) X.env) Q E s:=
 Calls.Name_function_global I.ok.kind hg (Calls.loadGlobal_global (by rw [I.ok.glob];exact I.mod.glob.keeps I.bk) hm h) hd
theorem wu {E:Value->Shared->Prop} {pins:List (Addr×Obj)} {s:Shared} {σ:St} {H:Hp} {x:Str} {u:Value} {pos:Pos} {Q:Value->Shared->Prop} (I:Inv X pins σ H s) (hg:Gl X x) (hm:X.mg x=none) (hv:bootBuiltins x=some u) (h:Q u s)
  (hn:x ≠ "__name__":=by decide) (hd:(x==("__debug__":Str))=false:=by decide):wpAny (model X.prog X.w) X.A (eval (.Name x pos) X.env) Q E s:=by
 obtain ⟨mb,h1,h2⟩:=I.mod.blt;exact Calls.Name_function_global I.ok.kind hg (Calls.loadGlobal_builtin (by rw [I.ok.glob];exact I.mod.glob.keeps I.bk) hm (by rw [I.ok.blt];exact h1.keeps I.bk) ((h2 x hn).trans hv) h) hd
theorem xR {x:Str} {v:V} {u:Value} {pos:Pos} (hg:Gl X x) (hm:X.mg x=some u) (r:RelV v u) (hd:(x==("__debug__":Str))=false:=by decide):PE X (.Name x pos) (tC v):=
 fun _ _ _ H _ I h=>Fm I hg hm ⟨v,H,I,r,h⟩ hd
theorem xV {x:Str} {v:V} {u:Value} {pos:Pos} (hg:Gl X x) (hm:X.mg x=none) (hv:bootBuiltins x=some u) (r:RelV v u) (hn:x ≠ "__name__":=by decide) (hd:(x==("__debug__":Str))=false:=by decide):PE X (.Name x pos) (tC v):=
 fun _ _ _ H _ I h=>wu I hg hm hv ⟨v,H,I,r,h⟩ hn hd
variable {a b:Expr} {ta tb:TE} {pos:Pos}
def PC (X:Cx) (op:CmpOp) (a b:Expr) (t:TE):Prop:=
 ∀(pins:List (Addr×Obj)) (s:Shared) (σ:St) (H:Hp) (Q:VK),Inv X pins σ H s->t σ H Q ->
  wpAny (model X.prog X.w) X.A (eval a X.env) (fun v s₁=>wpAny (model X.prog X.w) X.A (eval b X.env) (fun u s₂=>wpAny (model X.prog X.w) X.A (compareOp op v u) (EP X pins σ Q) X.xe s₂) X.xe s₁) X.xe s
def tB (t:TE):TT:=fun σ H Q=>t σ H fun x H1=>∃c,x=.bl c/\Q c H1
theorem BC {op:CmpOp} {t:TE} (h:PC X op a b t) (h1:behindInMarks op b=false:=by first | exact nobehind _ (by decide) (by decide) | rfl):PE X (.Compare a [op] [b] pos) t:=fun pins s σ H Q I hw=>wpAny_Compare1 (h pins s σ H Q I hw) h1
theorem uG {op:CmpOp} {t:TE} (h:PC X op a b t) (h1:behindInMarks op b=false:=by first | exact nobehind _ (by decide) (by decide) | rfl):PT X (.Compare a [op] [b] pos) (tB t):=by
 intro pins s σ H Q I hw;refine wpAny_isTrue_Compare1 (bw (h pins s σ H _ I hw) fun v s1 h1=>bw h1 fun u s2 h2=>bw h2 fun c s3 ⟨x,H1,I1,r1,q1⟩=>?_) h1
 obtain ⟨d,rfl,q⟩:=q1
 cases r1;exact wpAny_truthy_bool ⟨H1,I1,q⟩
variable {tA tB':TT} {rest:List Expr}
def DN (t u:TT):TT:=fun σ H Q=>t σ H fun c H1=>if c=true then u σ H1 Q else Q false H1
def JV (t u:TT):TT:=fun σ H Q=>t σ H fun c H1=>if c=true then Q true H1 else u σ H1 Q
def DK (t:TT):TT:=fun σ H Q=>t σ H fun c H1=>Q (!c) H1
theorem xJ (ha:PT X a tA):PW X (.BoolOp .And [a] pos) tA:=by
 intro wh pins s σ H Q I h;refine isTrue_and (bw (ha pins s σ H Q I h) fun c s1 e=>?_)
 cases c with
 | true=>exact isTrue_and_nil e
 | false=>exact e
theorem Bs (ha:PT X a tA):PW X (.BoolOp .Or [a] pos) tA:=by
 intro wh pins s σ H Q I h;refine isTrue_or (bw (ha pins s σ H Q I h) fun c s1 e=>?_)
 cases c with
 | false=>exact isTrue_or_nil e
 | true=>exact e
theorem Bt (ha:PT X a tA) (hb:PW X (.BoolOp .And (b::rest) pos) tB'):PW X (.BoolOp .And (a::b::rest) pos) (DN tA tB'):=by
 intro wh pins s σ H Q I h;refine isTrue_and (bw (ha pins s σ H _ I h) fun c s1 ⟨H1,I1,q1⟩=>?_)
 cases c with
 | true=>exact hb wh pins s1 σ H1 Q I1 q1
 | false=>exact ⟨H1,I1,q1⟩
theorem D7 (ha:PT X a tA) (hb:PW X (.BoolOp .Or (b::rest) pos) tB'):PW X (.BoolOp .Or (a::b::rest) pos) (JV tA tB'):=by
 intro wh pins s σ H Q I h;refine isTrue_or (bw (ha pins s σ H _ I h) fun c s1 ⟨H1,I1,q1⟩=>?_)
 cases c with
 | true=>exact ⟨H1,I1,q1⟩
 | false=>exact hb wh pins s1 σ H1 Q I1 q1
theorem Bu (ha:PT X a tA):PT X (.UnaryOp .Not a pos) (DK tA):=by
 intro pins s σ H Q I h;exact isTrue_not (ha pins s σ H (fun c H1=>Q (!c) H1) I h)
def zy (ta tb:TE):TE:=fun σ H Q=>ta σ H fun x H1=>∃c,x=.bl c/\if c=true then tb σ H1 Q else Q (.bl false) H1
def zu (ta:TE):TE:=fun σ H Q=>ta σ H fun x H1=>∃c,x=.bl c/\Q (.bl (!c)) H1
theorem pe_one {op} {t:TE} (h:PE X a t):PE X (.BoolOp op [a] pos) t:=fun pins s σ H Q I hw=>BoolOp_one (h pins s σ H Q I hw)
theorem BE (ha:PE X a ta) (hb:PE X (.BoolOp .And (b::rest) pos) tb):PE X (.BoolOp .And (a::b::rest) pos) (zy ta tb):=by
 intro pins s σ H Q I h;refine BoolOp_and (bw (ha pins s σ H _ I h) fun v s1 ⟨x,H1,I1,r1,q1⟩=>?_)
 obtain ⟨c,rfl,q1⟩:=q1
 cases r1;refine wpAny_truthy_bool ?_
 cases c with
 | true=>exact hb pins s1 σ H1 Q I1 q1
 | false=>exact ⟨.bl false,H1,I1,rfl,q1⟩
theorem BA (ha:PE X a ta):PE X (.UnaryOp .Not a pos) (zu ta):=by
 intro pins s σ H Q I h;refine UnaryOp_ (bw (ha pins s σ H _ I h) fun v s1 ⟨x,H1,I1,r1,q1⟩=>?_)
 obtain ⟨c,rfl,q1⟩:=q1
 cases r1;exact not_of (wpAny_truthy_bool ⟨.bl (!c),H1,I1,rfl,q1⟩)
def JX (t:TT) (ta tb:TE):TE:=fun σ H Q=>t σ H fun c H1=>if c=true then ta σ H1 Q else tb σ H1 Q
theorem uU {c:Expr} (hc:PT X c tA) (ha:PE X a ta) (hb:PE X b tb):PE X (.IfExp c a b pos) (JX tA ta tb):=by
 intro pins s σ H Q I h;refine wpAny_IfExp (bw (hc pins s σ H _ I h) fun d s1 ⟨H1,I1,q1⟩=>?_)
 cases d with
 | true=>exact ha pins s1 σ H1 Q I1 q1
 | false=>exact hb pins s1 σ H1 Q I1 q1
end
def SqL (K:Fg) (H:Hp) (a:Addr) (xs:List V):Prop:=
 Rd H a (.lst xs) \/
  ∃(o:Obj) (its:Array Value) (n:Nat),K.lookup a=some o/\o.cls=.type "list"/\o.dict=none/\o.data=.seq its n/\its.size<=sizeLine/\Vals xs its.toList
def SqT (K:Fg) (H:Hp) (a:Addr) (xs:List V):Prop:=
 Rd H a (.tup xs) \/
  ∃(o:Obj) (its:Array Value) (n:Nat),K.lookup a=some o/\o.cls=.type "tuple"/\o.data=.seq its n/\its.size<=sizeLine/\Vals xs its.toList
def JD:Value->Option V
 | .none=>some .non
 | .bool b=>some (.bl b)
 | .int i _=>some (.int i)
 | .str x _=>some (.str x)
 | .bytes b _=>some (.byt b)
 | .float b _=>some (.flt b)
 | .ref a=>some (.ref a)
 | .type n=>some (.ty n)
 | _=>none
theorem RelV.abs {x:V} {u:Value} (r:RelV x u):JD u=some x:=by
 cases x with
 | non=>cases r;rfl
 | bl _=>cases r;rfl
 | int _=>obtain ⟨t,rfl⟩:=r;rfl
 | str _=>obtain ⟨t,rfl⟩:=r;rfl
 | byt _=>obtain ⟨t,rfl⟩:=r;rfl
 | flt _=>obtain ⟨t,rfl⟩:=r;rfl
 | ref _=>cases r;rfl
 | ty _=>cases r;rfl
theorem RelV.inj {x y:V} {u:Value} (r:RelV x u) (q:RelV y u):x=y:=Option.some.inj (r.abs.symm.trans q.abs)
theorem Vals.inj:∀{xs ys:List V} {us:List Value},Vals xs us->Vals ys us->xs=ys
 | _,_,_,.nil,.nil=>rfl
 | _,_,_,.cons r t,.cons r' t'=>by rw [r.inj r',Vals.inj t t']
section
variable {X:Cx} {pins:List (Addr×Obj)} {σ:St} {H:Hp} {s:Shared} {a:Addr} {xs ys:List V}
theorem SqL.of {K:Fg} (h:H a=some (.lst xs)):SqL K H a xs:=.inl (.inl h)
theorem SqT.of {K:Fg} (h:H a=some (.tup xs)):SqT K H a xs:=.inl (.inl h)
theorem Inv.list (I:Inv X pins σ H s) (h:SqL X.K H a xs):∃its:List Value,Vals xs its/\PlainL s.heap a its.toArray/\xs.length<=sizeLine:=by
 rcases h with h | ⟨o,its,n,hk,hc,hd,hs,hz,r⟩
 ·obtain ⟨z,its,n,r,e⟩:=h.ok I.hok
  exact ⟨its,r,⟨_,n,e,rfl,rfl,rfl⟩,z⟩
 ·refine ⟨its.toList,r,⟨o,n,I.kIn a o hk,hc,hd,by simpa using hs⟩,?_⟩
  have e:=r.length
  simp only [Array.length_toList] at e
  omega
theorem Inv.tuple (I:Inv X pins σ H s) (h:SqT X.K H a xs):∃its:List Value,Vals xs its/\IsTup s.heap a its.toArray/\xs.length<=sizeLine:=by
 rcases h with h | ⟨o,its,n,hk,hc,hs,hz,r⟩
 ·obtain ⟨z,its,r,p⟩:=h.ok I.hok
  exact ⟨its,r,p,z⟩
 ·refine ⟨its.toList,r,⟨o,I.kIn a o hk,hc,n,by simpa using hs⟩,?_⟩
  have e:=r.length
  simp only [Array.length_toList] at e
  omega
theorem Inv.list_inj (I:Inv X pins σ H s) (h:SqL X.K H a xs) (h':SqL X.K H a ys):xs=ys:=by
 obtain ⟨its,r,⟨o,n,e,_,_,d⟩,_⟩:=I.list h;obtain ⟨its',r',⟨o',n',e',_,_,d'⟩,_⟩:=I.list h'
 rw [e] at e';cases e'
 rw [d] at d';injection d' with d1 _
 have:its=its':=by simpa using congrArg Array.toList d1
 subst this;exact r.inj r'
theorem Inv.tuple_inj (I:Inv X pins σ H s) (h:SqT X.K H a xs) (h':SqT X.K H a ys):xs=ys:=by
 obtain ⟨its,r,⟨o,e,_,n,d⟩,_⟩:=I.tuple h;obtain ⟨its',r',⟨o',e',_,n',d'⟩,_⟩:=I.tuple h'
 rw [e] at e';cases e'
 rw [d] at d';injection d' with d1 _
 have:its=its':=by simpa using congrArg Array.toList d1
 subst this;exact r.inj r'
end
abbrev Cx.wish (X:Cx) (E:Value->Shared->Prop):Cx:={ X with xe:=E }
abbrev Cx.nox (X:Cx):Cx:=X.wish fun _ _=>False
theorem Cx.Ok.wish {X:Cx} (ok:X.Ok) (E:Value->Shared->Prop):(X.wish E).Ok:=
 ⟨ok.mod,ok.kind,ok.glob,ok.blt,ok.above,ok.inj,ok.has,ok.cab,ok.hd,ok.frames,ok.stk,ok.exf,ok.bs,ok.bsz,ok.noex,ok.exfs,ok.funs,ok.frf⟩
theorem Cx.Ok.unwish {X:Cx} {E:Value->Shared->Prop} (ok:(X.wish E).Ok):X.Ok:=
 ⟨ok.mod,ok.kind,ok.glob,ok.blt,ok.above,ok.inj,ok.has,ok.cab,ok.hd,ok.frames,ok.stk,ok.exf,ok.bs,ok.bsz,ok.noex,ok.exfs,ok.funs,ok.frf⟩
section
variable {X:Cx} {pins:List (Addr×Obj)} {σ:St} {H:Hp} {s:Shared} {E:Value->Shared->Prop}
theorem Inv.wish (I:Inv X pins σ H s) (E:Value->Shared->Prop):Inv (X.wish E) pins σ H s:=⟨I.ok.wish E,I.os,I.bare,I.base,I.loc,I.cell,I.free,I.freeC,I.pin,I.hok,I.len⟩
theorem Inv.unwish (I:Inv (X.wish E) pins σ H s):Inv X pins σ H s:=⟨I.ok.unwish,I.os,I.bare,I.base,I.loc,I.cell,I.free,I.freeC,I.pin,I.hok,I.len⟩
theorem SP.unwish {D:gh} {f:Flow} {s':Shared} (h:SP (X.wish E) pins D f s'):SP X pins D f s':=by
 cases f with
 | next=>obtain ⟨σ',H',I,q⟩:=h;exact ⟨σ',H',I.unwish,q⟩
 | brk=>obtain ⟨σ',H',I,q⟩:=h;exact ⟨σ',H',I.unwish,q⟩
 | cont=>obtain ⟨σ',H',I,q⟩:=h;exact ⟨σ',H',I.unwish,q⟩
 | ret u=>obtain ⟨v,σ',H',I,r,q⟩:=h;exact ⟨v,σ',H',I.unwish,r,q⟩
theorem PSs.nox {st:List Stmt} {t:TS} (h:PSs X.nox st t):PSs X st t:=fun pins s σ H D I hw=>
 wpAny_mono (h pins s σ H D (I.wish _) hw) (fun _ _ q=>q.unwish) fun _ _ z=>False.elim z
end
section
variable {X:Cx} {st:Stmt} {rest:List Stmt} {t u:TS} {e:Expr} {te:TE} {pos:Pos}
def pA:TS:=fun D σ H=>D.nx σ H
def fI (t u:TS):TS:=fun D σ H=>t { D with nx:=u D } σ H
theorem pP:PSs X [] pA:=fun _ _ σ H _ I h=>wpAny_execs_nil ⟨σ,H,I,h⟩
theorem qx (h1:PS X st t) (h2:PSs X rest u):PSs X (st::rest) (fI t u):=by
 intro pins s σ H D I h;refine wpAny_execs_cons (bw (h1 pins s σ H { D with nx:=u D } I h) fun f s1 q=>?_)
 cases f with
 | next=>
  obtain ⟨σ',H',I',q⟩:=q;exact h2 pins s1 σ' H' D I' q
 | ret v=>exact q
 | brk=>exact q
 | cont=>exact q
theorem zh (h1:PS X st t):PSs X [st] t:=by
 intro pins s σ H D I h;refine wpAny_execs_cons (bw (h1 pins s σ H D I h) fun f s1 q=>?_)
 cases f with
 | next=>exact wpAny_execs_nil q
 | ret v=>exact q
 | brk=>exact q
 | cont=>exact q
theorem Inv.quiet {pins:List (Addr×Obj)} {σ:St} {H:Hp} {s:Shared} (I:Inv X pins σ H s):interactive X.env=false:=by simp [interactive,I.ok.kind]
def jM (te:TE):TS:=fun D σ H=>te σ H fun _ H1=>D.nx σ H1
theorem Fo (he:PE X e te) (hs:swapsWith e none pos.line X.env=pure false:=by rfl):PS X (.Expr e pos) (jM te):=by
 intro pins s σ H D I h;exact wpAny_Expr_any (bw (he pins s σ H _ I h) fun v s1 ⟨x,H1,I1,r1,q1⟩=>⟨σ,H1,I1,q1⟩) I.quiet hs
def tR (te:TE):TS:=fun D σ H=>te σ H D.rt
theorem Fe (he:PE X e te):PS X (.Return (some e) pos) (tR te):=by
 intro pins s σ H D I h;exact wpAny_Return_some (bw (he pins s σ H _ I h) fun v s1 ⟨x,H1,I1,r1,q1⟩=>⟨x,σ,H1,I1,r1,q1⟩)
def w5 (c:TT) (t u:TS):TS:=fun D σ H=>c σ H fun b H1=>if b=true then t D σ H1 else u D σ H1
theorem zE {c:Expr} {a b:List Stmt} {tc:TT} (hc:PT X c tc) (ha:PSs X a t) (hb:PSs X b u):PS X (.If c a b pos) (w5 tc t u):=by
 intro pins s σ H D I h;refine wpAny_If (bw (hc pins s σ H _ I h) fun d s1 ⟨H1,I1,q1⟩=>?_)
 cases d with
 | true=>exact ha pins s1 σ H1 D I1 q1
 | false=>exact hb pins s1 σ H1 D I1 q1
end
abbrev TG:=V->St->Hp->(St->Hp->Prop)->Prop
abbrev CQ:=List V->St->Hp->(St->Hp->Prop)->Prop
def PG (X:Cx) (target:Expr) (t:TG):Prop:=
 ∀(pins:List (Addr×Obj)) (s:Shared) (σ:St) (H:Hp) (v:V) (u:Value) (Q:St->Hp->Prop),Inv X pins σ H s->RelV v u->t v σ H Q ->
  wpAny (model X.prog X.w) X.A (assign target X.env u) (fun _ s'=>∃σ' H',Inv X pins σ' H' s'/\Q σ' H') X.xe s
def Gz (X:Cx) (ts:List Expr) (t:CQ):Prop:=
 ∀(pins:List (Addr×Obj)) (s:Shared) (σ:St) (H:Hp) (vs:List V) (us:List Value) (Q:St->Hp->Prop),Inv X pins σ H s->Vals vs us->t vs σ H Q ->
  wpAny (model X.prog X.w) X.A (assignInOrder ((assignEach ts X.env).map (·.2)) us) (fun _ s'=>∃σ' H',Inv X pins σ' H' s'/\Q σ' H') X.xe s
abbrev CP:=V->V->V->Hp->(Hp->Prop)->Prop
def EV (X:Cx) (t:CP):Prop:=
 ∀(pins:List (Addr×Obj)) (s:Shared) (σ:St) (H:Hp) (o i v:V) (ov iv u:Value) (Q:Hp->Prop),Inv X pins σ H s->RelV o ov->RelV i iv->RelV v u->t o i v H Q ->
  wpAny (model X.prog X.w) X.A (setItem ov iv u) (fun _ s'=>∃H',Inv X pins σ H' s'/\Q H') X.xe s
abbrev Gx:=V->V->Hp->VK->Prop
def Ko (X:Cx) (op:Operator) (t:Gx):Prop:=
 ∀(pins:List (Addr×Obj)) (s:Shared) (σ:St) (H:Hp) (x y:V) (v u:Value) (Q:VK),Inv X pins σ H s->RelV x v->RelV y u->t x y H Q ->
  wpAny (model X.prog X.w) X.A (inplaceOp op v u) (EP X pins σ Q) X.xe s
section
variable {X:Cx} {pos:Pos}
def bR (i:Nat):TG:=fun v σ H Q=>Q (σ.set i (some v)) H
theorem sY {i:Nat} {x:Str} (hN:X.N.Nodup) (hi:X.N[i]?=some x) (hx:Loc X.env.scope x) (hf:X.fn x=true\/X.env.scope.names.lookup x=some .local:=by first | exact .inl rfl | exact .inr rfl | assumption):PG X (.Name x pos) (bR i):=by
 intro pins s σ H v u Q I r h;exact wpAny_assign_Name (HA I hN hi hx r (fun s' I'=>⟨_,H,I',h⟩) hf)
def Ct:CQ:=fun vs σ H Q=>vs=[]/\Q σ H
def mI (t:TG) (u:CQ):CQ:=fun vs σ H Q=>∃v r,vs=v::r/\t v σ H fun σ' H'=>u r σ' H' Q
theorem pT:Gz X [] Ct:=by
 intro pins s σ H vs us Q I r h;obtain ⟨e,h⟩:=h;subst e
 cases r;exact assignInOrder_nil ⟨σ,H,I,h⟩
theorem FM {e:Expr} {es:List Expr} {t:TG} {u:CQ} (h1:PG X e t) (h2:Gz X es u)
  (hs:(assignEach (e::es) X.env).map (·.2)=assign e X.env::(assignEach es X.env).map (·.2):=by rfl):Gz X (e::es) (mI t u):=by
 intro pins s σ H vs us Q I r h;obtain ⟨v,vr,e1,h⟩:=h;subst e1
 cases r with
 | cons r rr=>
  rw [hs];refine assignInOrder_cons (bw (h1 pins s σ H _ _ _ I r h) fun _ s1 ⟨σ1,H1,I1,q1⟩=>?_)
  exact h2 pins s1 σ1 H1 _ _ Q I1 rr q1
def Cs (K:Fg) (n:Nat) (t:CQ):TG:=fun v σ H Q=>∃a xs,v=.ref a/\SqT K H a xs/\xs.length=n/\t xs σ H Q
theorem uN {es:List Expr} {k:Nat} {t:CQ} {n:Nat} (hc:X.calm=true) (h:Gz X es t)
  (hn:(assignEach es X.env).length=n:=by rfl) (hst:(assignEach es X.env).findIdx? (·.1)=none:=by rfl):PG X (.Tuple es k pos) (Cs X.K n t):=by
 intro pins s σ H v u Q I r hw;obtain ⟨a,xs,e1,hq,hl,hw⟩:=hw;subst e1
 cases r;obtain ⟨its,rv,ht,hz⟩:=I.tuple hq;refine assign_Tuple_tuple (I.ok.hd hc) ht (by simp [hn,<-hl,rv.length]) hst fun h' hx=>?_
 have I1:Inv X pins σ H { s with heap:=h' }:=I.kept (t':=s.toks) fun b o e=>hx b o (Nat.ne_of_lt (Heap.lt_size e)) e
 exact h pins _ σ H xs _ Q I1 (by simpa using rv) hw
def gSub (to ti:TE) (t:CP):TG:=fun v σ H Q=>to σ H fun o H1=>ti σ H1 fun i H2=>t o i v H2 fun H3=>Q σ H3
theorem Bz {o i:Expr} {to ti:TE} {t:CP} (ho:PE X o to) (hi:PE X i ti) (hs:EV X t)
  (ha:∀v,assign (.Subscript o i pos) X.env v=(do
   let ov <-holding [v] (eval o X.env)
   let iv <-holding [v,ov] (eval i X.env)
   standAt pos
   holding [v,ov,iv] (setItem ov iv v)
   release [v,ov,iv] []):=by intro _;rfl):PG X (.Subscript o i pos) (gSub to ti t):=by
 intro pins s σ H v u Q I r h;rw [ha];refine wpAny_bind (wpAny_holding (bw (ho pins s σ H _ I h) fun ov s1 ⟨x,H1,I1,r1,q1⟩=>?_))
 refine wpAny_bind (wpAny_holding (bw (hi pins s1 σ H1 _ I1 q1) fun iv s2 ⟨y,H2,I2,r2,q2⟩=>?_))
 refine wpAny_bind (wpAny_standAt (wpAny_bind (wpAny_holding (bw (hs pins s2 σ H2 x y v ov iv u _ I2 r1 r2 r q2) fun _ s3 ⟨H3,I3,q3⟩=>?_))))
 exact wpAny_release ⟨σ,H3,I3,q3⟩
def gZ (te:TE) (g:TG):TS:=fun D σ H=>te σ H fun x H1=>g x σ H1 D.nx
theorem Bw {tg e:Expr} {te:TE} {g:TG} (he:PE X e te) (hg:PG X tg g) (hs:swapsWithSole [tg] e pos.line X.env=pure false:=by rfl) (hw:swappedStores [tg] e X.env=pure none:=by rfl)
  (h1:(assignEach [tg] X.env).map (·.2)=[assign tg X.env]:=by rfl):PS X (.Assign [tg] e pos) (gZ te g):=by
 intro pins s σ H D I h;refine wpAny_Assign_stores (bw (he pins s σ H _ I h) fun v s1 ⟨x,H1,I1,r1,q1⟩=>?_) hs hw
 rw [h1];exact bw (hg pins s1 σ H1 x v _ I1 r1 q1) fun _ s2 q=>q
theorem Di {i:Nat} {x:Str} {e:Expr} {te:TE} {pos':Pos} (hN:X.N.Nodup) (hi:X.N[i]?=some x) (hx:Loc X.env.scope x) (he:PE X e te) (hs:swapsWith e (some (.Name x pos')) pos.line X.env=pure false:=by rfl) (hf:X.fn x=true\/X.env.scope.names.lookup x=some .local:=by first | exact .inl rfl | exact .inr rfl | assumption) :
  PS X (.Assign [.Name x pos'] e pos) (gZ te (bR i)):=by
 intro pins s σ H D I h;refine wpAny_Assign_Name (bw (he pins s σ H _ I h) fun v s1 ⟨y,H1,I1,r1,q1⟩=>?_) hs
 exact HA I1 hN hi hx r1 (fun s2 I2=>⟨_,H1,I2,q1⟩) hf
def DM (i:Nat) (te:TE) (ti:Gx):TS:=fun D σ H=>∃x,σ[i]?=some (some x)/\te σ H fun y H1=>ti x y H1 fun z H2=>D.nx (σ.set i (some z)) H2
theorem Bv {i:Nat} {x:Str} {e:Expr} {te:TE} {op:Operator} {ti:Gx} {pos':Pos} (hN:X.N.Nodup) (hi:X.N[i]?=some x) (hx:Loc X.env.scope x) (he:PE X e te) (ho:Ko X op ti) (hf:X.fn x=true\/X.env.scope.names.lookup x=some .local:=by first | exact .inl rfl | exact .inr rfl | assumption) :
  PS X (.AugAssign (.Name x pos') op e pos) (DM i te ti):=by
 intro pins s σ H D I h;obtain ⟨v,e1,h⟩:=h;obtain ⟨m,hn,hl⟩:=I.loc;have vis:CO X.env.scope x:=by rcases hx with k | k;exact .inl k;exact .inr (.inl k)
 obtain ⟨u,r,l⟩:=hl i x v hi e1 vis;refine wpAny_AugAssign_Name ?_
 have go:wpAny (model X.prog X.w) X.A (eval e X.env) (fun w s₂=>wpAny (model X.prog X.w) X.A (inplaceOp op u w) (fun r s₃=>wpAny (model X.prog X.w) X.A (storeName X.env x r) (fun _=>SP X pins D .next) X.xe s₃) X.xe s₂) X.xe s:=by
  refine bw (he pins s σ H _ I h) fun w s1 ⟨y,H1,I1,r1,q1⟩=>?_
  refine bw (ho pins s1 σ H1 v y u w _ I1 r r1 q1) fun z s2 ⟨zv,H2,I2,r2,q2⟩=>?_
  exact HA I2 hN hi hx r2 (fun s3 I3=>⟨_,H2,I3,q2⟩) hf
 rcases l with ⟨hk,hm⟩ | ⟨hk,c,hc,hcell⟩
 ·exact wpAny_loadName_local I.ok.kind hk hn hm go
 ·rcases hk with hk | hk
  ·exact wpAny_loadName_cell I.ok.kind hk hc hcell go
  ·rcases hx with k | k
   ·have:X.env.scope.names.lookup x=some .free:=hk
    rw [k] at this;cases this
   ·have:X.env.scope.names.lookup x=some .free:=hk
    rw [k] at this;cases this
def Kh (f:Int->Int->Int):Gx:=fun x y H Q=>∃i j,x=.int i/\y=.int j/\Q (.int (f i j)) H
theorem Cd:Ko X .Add (Kh fun i j=>i+j):=by
 intro pins s σ H x y v u Q I r1 r2 h;obtain ⟨i,j,e1,e2,q⟩:=h;subst e1;subst e2;obtain ⟨t,rfl⟩:=r1;obtain ⟨t',rfl⟩:=r2;exact iadd_int ⟨.int _,H,I.tok _,⟨_,rfl⟩,q⟩
end
section
variable {X:Cx} {pos:Pos}
def Fj (c:TT) (tb:TS):TS:=fun D σ H=>∃W:Nat->St->Hp->Prop,(∃m,W m σ H)/\∀m σ H,W m σ H ->
 c σ H fun b H1=>if b=true then ∃N:St->Hp->Prop,(∀σ' H',N σ' H'->∃m',m'<m/\W m' σ' H')/\tb { D with nx:=N,ct:=N,bk:=D.nx } σ H1 else D.nx σ H1
theorem lV {c:Expr} {body:List Stmt} {tc:TT} {tb:TS} (hp:PassesOwn (model X.prog X.w) X.A X.env X.xe) (hc:PT X c tc) (hb:PSs X body tb):PS X (.While c body [] pos) (Fj tc tb):=by
 intro pins s σ H D I h;obtain ⟨W,⟨m0,w0⟩,turn⟩:=h;refine wpAny_While (codeAny_whileLoop (fun n s'=>∃σ' H',Inv X pins σ' H' s'/\W n σ' H') ?_ m0 ⟨σ,H,I,w0⟩)
 rintro n s1 ⟨σ1,H1,I1,w1⟩
 refine wpAny_passesOwn hp (bw (hc pins s1 σ1 H1 _ I1 (turn n σ1 H1 w1)) fun b s2 ⟨H2,I2,q2⟩=>?_)
 cases b with
 | true=>
  obtain ⟨N,hN,q2⟩:=q2;rw [if_pos rfl];refine wpAny_passesOwn hp (bw (hb pins s2 σ1 H2 _ I2 q2) fun f s3 q3=>?_)
  cases f with
  | next=>
   obtain ⟨σ3,H3,I3,n3⟩:=q3;obtain ⟨m',hm,w3⟩:=hN σ3 H3 n3;exact ⟨m',hm,σ3,H3,I3,w3⟩
  | cont=>
   obtain ⟨σ3,H3,I3,n3⟩:=q3;obtain ⟨m',hm,w3⟩:=hN σ3 H3 n3;exact ⟨m',hm,σ3,H3,I3,w3⟩
  | brk=>exact q3
  | ret v=>exact q3
 | false=>
  rw [if_neg Bool.false_ne_true];exact wpAny_execs_nil ⟨σ1,H2,I2,q2⟩
end
structure It where
 go:Nat->Hp->Prop
 yld:Nat->Hp->V->Hp->Prop
 stop:Nat->Hp->Prop
def jG (X:Cx) (pins:List (Addr×Obj)) (H:Hp) (b:Addr):Prop:=
 H b=none/\b≠X.env.locals/\b∉X.fs/\(b∈X.ex\/X.s₀.heap.objs.size<=b)/\(∀x c,X.env.cells.lookup x=some c->c≠b)/\∀p∈X.pn++pins,p.1≠b
theorem Inv.fpOk {X:Cx} {pins:List (Addr×Obj)} {σ:St} {H H':Hp} {s:Shared} {b:Addr} (I:Inv X pins σ H s) (hb:s.heap.objs.size<=b) (hn:H' b=none):jG X pins H' b:=by
 refine ⟨hn,Nat.ne_of_gt (Nat.lt_of_lt_of_le I.lt hb),I.nofs hb,.inr (Nat.le_trans I.sz hb),fun x c e z=>?_,fun p hp z=>?_⟩
 ·obtain ⟨v,q⟩:=I.cell x c e
  exact absurd (Nat.lt_of_lt_of_le q.lt (by rw [z];exact hb)) (Nat.lt_irrefl _)
 ·exact absurd (Nat.lt_of_lt_of_le (Heap.lt_size (I.pin p hp).1) (by rw [z];exact hb)) (Nat.lt_irrefl _)
structure sG (P:Program) (w:World) (K:Fg) (tg:Expr) (J:It) (fp:List Addr) (it:Addr) (tn:Nat->Heap->Prop):Prop where
 mem:it∈fp
 obj:∀i h,tn i h->∀b∈fp,∃o,h.get? b=some o/\∀v,o.data≠.cell v
 keep:∀i h h',tn i h->(∀b∈fp,∀o,h.get? b=some o->h'.get? b=some o)->tn i h'
 item:∀(X:Cx),X.prog=P->X.w=w->X.K=K->X.calm=true->∀(i:Nat) (pins:List (Addr×Obj)) (s:Shared) (σ:St) (H:Hp) (E:Value->Shared->Prop),Inv X pins σ H s->(∀b∈fp,jG X pins H b)->tn i s.heap->J.go i H ->
  wpAny (model P w) X.A (pyNext (.ref it)) (fun r s1=>∃u,r=some u /\
   wpAny (model P w) X.A (letOwnedTupleGo tg (.ref it) u) (fun _ s2=>∃x H',Inv X pins σ H' s2/\RelV x u/\J.yld i H x H'/\tn (i+1) s2.heap/\∀b∈fp,H' b=none) E s1) E s
 done:∀(X:Cx),X.prog=P->X.w=w->X.K=K->X.calm=true->∀(i:Nat) (pins:List (Addr×Obj)) (s:Shared) (σ:St) (H:Hp) (E:Value->Shared->Prop),Inv X pins σ H s->(∀b∈fp,jG X pins H b)->tn i s.heap->J.stop i H ->
  wpAny (model P w) X.A (pyNext (.ref it)) (fun r s1=>r=none/\Inv X pins σ H s1) E s
 self:∀(A:Around) (i:Nat) (s:Shared) (Q:Value->Shared->Prop) (E:Value->Shared->Prop),tn i s.heap->Q (.ref it) s->wpAny (model P w) A (pyIter (.ref it)) Q E s
abbrev TI:=St->Hp->(It->Hp->Prop)->Prop
def Kp (X:Cx) (pins:List (Addr×Obj)) (σ:St) (tg:Expr) (R:It->Hp->Prop) (itv:Value) (s2:Shared):Prop:=
 ∃(it:Addr) (fp:List Addr) (tn:Nat->Heap->Prop) (J:It) (H':Hp),itv=.ref it/\Inv X pins σ H' s2/\sG X.prog X.w X.K tg J fp it tn/\tn 0 s2.heap/\(∀b∈fp,jG X pins H' b)/\R J H'
def PI (X:Cx) (tg iter:Expr) (wi:TI):Prop:=
 ∀(pins:List (Addr×Obj)) (s:Shared) (σ:St) (H:Hp) (R:It->Hp->Prop),Inv X pins σ H s->wi σ H R ->
  wpAny (model X.prog X.w) X.A (eval iter X.env) (fun v s1=>wpAny (model X.prog X.w) X.A (pyIter v) (Kp X pins σ tg R) X.xe s1) X.xe s
theorem qg {M:Model} {A:Around} {E:Value->Shared->Prop} {s:Shared} {tg:Expr} {it:Addr} {u:Value} {o:Obj} {n:String} {vs:Array Value} {Q:Unit->Shared->Prop} (ho:s.heap.get? it=some o) (hc:o.cls=.type n) (hd:o.data=.fields vs)
  (hn:["enumerate", "zip", "dict_itemiterator", "dict_reverseitemiterator", "odict_iterator", "itertools.zip_longest", "itertools.pairwise"].contains n=false) (hQ:Q () s):wpAny M A (letOwnedTupleGo tg (.ref it) u) Q E s:=by
 unfold letOwnedTupleGo
 cases tg<;>first
  | exact wpAny_pure hQ
  | (cases u<;>first
      | exact wpAny_pure hQ
      | (refine wpAny_bind (wpAny_load ho ?_)
         rw [hc,hd];show wpAny M A (if (["enumerate", "zip", "dict_itemiterator", "dict_reverseitemiterator", "odict_iterator", "itertools.zip_longest", "itertools.pairwise"].contains n&&vs[0]?==some (rawInt _))=true then _ else _) Q E s
         rw [if_neg (by intro h;rw [hn,Bool.false_and] at h;cases h)]
         exact wpAny_pure hQ))
def CW (K:Fg) (a:Addr):It:=
 ⟨fun i H=>∃xs x,SqL K H a xs/\xs[i]?=some x,fun i H x H'=>H'=H/\∀xs,SqL K H a xs->xs[i]?=some x,fun i H=>∃xs,SqL K H a xs/\xs.length<=i⟩
def GD (K:Fg) (a:Addr):It:=
 ⟨fun i H=>∃xs x,SqT K H a xs/\xs[i]?=some x,fun i H x H'=>H'=H/\∀xs,SqT K H a xs->xs[i]?=some x,fun i H=>∃xs,SqT K H a xs/\xs.length<=i⟩
def CV (lo:Int) (n:Nat):It:=⟨fun i _=>i<n,fun i H x H'=>H'=H/\x=.int (lo+i),fun i _=>n<=i⟩
theorem qF {P:Program} {w:World} {K:Fg} {tg:Expr} (a it:Addr):sG P w K tg (CW K a) [it] it (fun i h=>h.IsListIter it a i) where
 mem:=by simp
 obj:=fun i h st b hb=>by
  have e:b=it:=by simpa using hb
  subst e;obtain ⟨o,e,c,d⟩:=st;exact ⟨o,e,fun v z=>by rw [d] at z;cases z⟩
 keep:=fun i h h' st k=>st.at fun o e=>k it (by simp) o e
 item:=by
  intro X hP hw hK hc i pins s σ H E I hf st hg;subst hP hw hK;obtain ⟨xs,x,hq,hx⟩:=hg;obtain ⟨its,rv,p,hz⟩:=I.list hq;obtain ⟨u,hu,ru⟩:=rv.get hx;obtain ⟨f0,f1,f2,f3,f4,f5⟩:=hf it (by simp)
  refine wpAny_pyNext_list_item st p.isList (x:=u) (by simpa using hu) fun h' st' sb=>?_
  have I1:Inv X pins σ H { s with heap:=h' }:=I.turned (t':=s.toks) (fun b o hb e=>(sb.2 b hb).trans e) f0 f1 f3 f4 f5
  obtain ⟨o,e,c,d⟩:=id st'
  exact ⟨u,rfl,qg (s:={ s with heap:=h' }) e c d (by decide) ⟨x,H,I1,ru,⟨rfl,fun ys hy=>by rw [I.list_inj hy hq];exact hx⟩,st',fun b hb=>(hf b hb).1⟩⟩
 done:=by
  intro X hP hw hK hc i pins s σ H E I hf st hg;subst hP hw hK;obtain ⟨xs,hq,hx⟩:=hg;obtain ⟨its,rv,p,hz⟩:=I.list hq;obtain ⟨f0,f1,f2,f3,f4,f5⟩:=hf it (by simp)
  have hl:=rv.length
  exact wpAny_pyNext_list_end (I.ok.hd hc) st p.isList (by simp;omega) fun h' eb=>⟨rfl,I.turned (t':=s.toks) (fun b o hb e=>eb b o hb e) f0 f1 f3 f4 f5⟩
 self:=fun _ _ _ _ _ st h=>wpAny_pyIter_listiter st h
theorem nN {P:Program} {w:World} {K:Fg} {tg:Expr} (a it:Addr):sG P w K tg (GD K a) [it] it (fun i h=>h.IsTupleIter it a i) where
 mem:=by simp
 obj:=fun i h st b hb=>by
  have e:b=it:=by simpa using hb
  subst e;obtain ⟨o,e,c,d⟩:=st;exact ⟨o,e,fun v z=>by rw [d] at z;cases z⟩
 keep:=fun i h h' st k=>st.at fun o e=>k it (by simp) o e
 item:=by
  intro X hP hw hK hc i pins s σ H E I hf st hg;subst hP hw hK;obtain ⟨xs,x,hq,hx⟩:=hg;obtain ⟨its,rv,p,hz⟩:=I.tuple hq;obtain ⟨u,hu,ru⟩:=rv.get hx;obtain ⟨f0,f1,f2,f3,f4,f5⟩:=hf it (by simp)
  refine wpAny_pyNext_tuple_item st (show s.heap.IsTuple a its.toArray from p) (x:=u) (by simpa using hu) fun h' st' sb=>?_
  have I1:Inv X pins σ H { s with heap:=h' }:=I.turned (t':=s.toks) (fun b o hb e=>(sb.2 b hb).trans e) f0 f1 f3 f4 f5
  obtain ⟨o,e,c,d⟩:=id st'
  exact ⟨u,rfl,qg (s:={ s with heap:=h' }) e c d (by decide) ⟨x,H,I1,ru,⟨rfl,fun ys hy=>by rw [I.tuple_inj hy hq];exact hx⟩,st',fun b hb=>(hf b hb).1⟩⟩
 done:=by
  intro X hP hw hK hc i pins s σ H E I hf st hg;subst hP hw hK;obtain ⟨xs,hq,hx⟩:=hg;obtain ⟨its,rv,p,hz⟩:=I.tuple hq;obtain ⟨f0,f1,f2,f3,f4,f5⟩:=hf it (by simp)
  have hl:=rv.length
  exact wpAny_pyNext_tuple_end (I.ok.hd hc) st (show s.heap.IsTuple a its.toArray from p) (by simp;omega) fun h' eb=>⟨rfl,I.turned (t':=s.toks) (fun b o hb e=>eb b o hb e) f0 f1 f3 f4 f5⟩
 self:=fun _ _ _ _ _ st h=>wpAny_pyIter_tupleiter st h
theorem nP {P:Program} {w:World} {K:Fg} {tg:Expr} (it:Addr) (lo:Int) (n:Nat):sG P w K tg (CV lo n) [it] it (fun i h=>IsRangeIter h it (lo+(i:Nat)*1) ((n:Int)-(i:Nat)) 1) where
 mem:=by simp
 obj:=fun i h st b hb=>by
  have e:b=it:=by simpa using hb
  subst e;exact ⟨_,st,fun v z=>by
   have z':Data.fields _=Data.cell v:=z
   cases z'⟩
 keep:=fun i h h' st k=>k it (by simp) _ st
 item:=by
  intro X hP hw hK hc i pins s σ H E I hf st hg;subst hP hw hK;obtain ⟨f0,f1,f2,f3,f4,f5⟩:=hf it (by simp)
  have W:=Walks.range (prog:=X.prog) (w:=X.w) (I.ok.hd hc) it lo 1 n
  refine W.item i s _ _ hg st fun v h' tk hv st' kk=>?_
  obtain ⟨t,rfl⟩:=hv;have I1:Inv X pins σ H { s with heap:=h',toks:=tk }:=I.turned (fun b o hb e=>kk b o (by simpa using hb) e) f0 f1 f3 f4 f5
  refine ⟨_,rfl,qg (s:={ s with heap:=h',toks:=tk }) (n := "range_iterator") st' rfl rfl (by decide) ⟨.int (lo+i),H,I1,⟨t,?_⟩,⟨rfl,rfl⟩,st',fun b hb=>(hf b hb).1⟩⟩
  rw [Int.mul_one]
 done:=by
  intro X hP hw hK hc i pins s σ H E I hf st hg;subst hP hw hK;obtain ⟨f0,f1,f2,f3,f4,f5⟩:=hf it (by simp)
  exact wpAny_pyNext_range_end (I.ok.hd hc) st (by have:n<=i:=hg;omega) fun h' eb=>⟨rfl,I.turned (t':=s.toks) (fun b o hb e=>eb b o hb e) f0 f1 f3 f4 f5⟩
 self:=fun _ _ _ _ _ st h=>wpAny_pyIter_rangeiter st h
section
variable {X:Cx} {tg:Expr}
def iZ (K:Fg) (tl:TE):TI:=fun σ H R=>tl σ H fun x H1=>∃a,x=.ref a/\(∃xs,SqL K H1 a xs)/\R (CW K a) H1
def Ew (K:Fg) (tl:TE):TI:=fun σ H R=>tl σ H fun x H1=>∃a,x=.ref a/\(∃xs,SqT K H1 a xs)/\R (GD K a) H1
theorem Fn {l:Expr} {tl:TE} (hl:PE X l tl):PI X tg l (iZ X.K tl):=by
 intro pins s σ H R I h;refine bw (hl pins s σ H _ I h) fun v s1 ⟨x,H1,I1,r1,q1⟩=>?_
 obtain ⟨a,e,⟨xs,hq⟩,q⟩:=q1;subst e
 cases r1;obtain ⟨its,rv,p,hz⟩:=I1.list hq;refine wpAny_pyIter_list p.isList ?_
 refine ⟨s1.heap.objs.size,[s1.heap.objs.size],_,_,H1,rfl,I1.kept (t':=s1.toks) fun b o e=>Heap.get?_push_of_some _ e,qF a _,⟨_,Heap.get?_push_size _ rfl,rfl,rfl⟩,fun b hb=>?_,q⟩
 have e:b=s1.heap.objs.size:=by simpa using hb
 subst e;exact I1.fpOk (Nat.le_refl _) (I1.hok.fresh (Nat.le_refl _))
theorem By {l:Expr} {tl:TE} (hl:PE X l tl):PI X tg l (Ew X.K tl):=by
 intro pins s σ H R I h;refine bw (hl pins s σ H _ I h) fun v s1 ⟨x,H1,I1,r1,q1⟩=>?_
 obtain ⟨a,e,⟨xs,hq⟩,q⟩:=q1;subst e
 cases r1;obtain ⟨its,rv,p,hz⟩:=I1.tuple hq;refine wpAny_pyIter_tuple (show s1.heap.IsTuple a its.toArray from p) ?_
 refine ⟨s1.heap.objs.size,[s1.heap.objs.size],_,_,H1,rfl,I1.kept (t':=s1.toks) fun b o e=>Heap.get?_push_of_some _ e,nN a _,⟨_,Heap.get?_push_size _ rfl,rfl,rfl⟩,fun b hb=>?_,q⟩
 have e:b=s1.heap.objs.size:=by simpa using hb
 subst e;exact I1.fpOk (Nat.le_refl _) (I1.hok.fresh (Nat.le_refl _))
theorem lP {pins:List (Addr×Obj)} {σ:St} {H:Hp} {s:Shared} {R:It->Hp->Prop} {E:Value->Shared->Prop} {lo hi:Int} {t u v:Tok} {tk:Nat} (I:Inv X pins σ H s) (h1:-(2 ^ 62)<=lo) (h2:lo<2 ^ 62) (h3:-(2 ^ 62)<=hi) (h4:hi<2 ^ 62)
  (q:R (CV lo (hi-lo).toNat) H):wpAny (model X.prog X.w) X.A (pyIter (.ref s.heap.objs.size)) (Kp X pins σ tg R) E { s with heap:=s.heap.push { cls:=.type "range",data:=.fields #[.int lo t,.int hi u,.int 1 v] },toks:=tk }:=by
 refine wpAny_pyIter_range (IsRange.new ..) (small_one h1 h2 h3 h4) ?_
 have I1:Inv X pins σ H { s with heap:=s.heap.push { cls:=.type "range",data:=.fields #[.int lo t,.int hi u,.int 1 v] },toks:=tk }:=I.kept fun b o e=>Heap.get?_push_of_some _ e
 refine ⟨(s.heap.push { cls:=.type "range",data:=.fields #[.int lo t,.int hi u,.int 1 v] }).objs.size,[(s.heap.push { cls:=.type "range",data:=.fields #[.int lo t,.int hi u,.int 1 v] }).objs.size],_,_,H,rfl,
  I1.kept (t':=tk) fun b o e=>Heap.get?_push_of_some _ e,nP _ lo (hi-lo).toNat,?_,fun b hb=>?_,q⟩
 ·have e1:lo+((0:Nat):Int)*1=lo:=by simp
  have e2:(((hi-lo).toNat:Nat):Int)-((0:Nat):Int)=Builtin.Range.rangeSize lo hi 1:=by rw [rangeSize_one];split<;>omega
  show IsRangeIter _ _ (lo+((0:Nat):Int)*1) ((((hi-lo).toNat:Nat):Int)-((0:Nat):Int)) 1
  rw [e1,e2];exact Heap.get?_push_size _ rfl
 ·have e:b=(s.heap.push { cls:=.type "range",data:=.fields #[.int lo t,.int hi u,.int 1 v] }).objs.size:=by simpa using hb
  subst e;exact I1.fpOk (Nat.le_refl _) (I1.hok.fresh (Nat.le_refl _))
def zM (ta:TA):TI:=fun σ H R=>ta σ H fun vs H1=>∃j:Int,vs=[.int j]/\-(2 ^ 62)<=j/\j<2 ^ 62/\R (CV 0 j.toNat) H1
def zL (ta:TA):TI:=fun σ H R=>ta σ H fun vs H1=>∃i j:Int,vs=[.int i,.int j]/\(-(2 ^ 62)<=i/\i<2 ^ 62/\-(2 ^ 62)<=j/\j<2 ^ 62)/\R (CV i (j-i).toNat) H1
theorem rf {a:Expr} {ta:TA} {p pos:Pos} (hg:Gl X "range") (hm:X.mg "range"=none) (ha:PA X [a] ta) (hs:starEach [a] X.env=[(false,eval a X.env)]:=by rfl):PI X tg (.Call (.Name "range" p) [a] [] pos) (zM ta):=by
 intro pins s σ H R I h;refine Call_ (wu I hg hm boot_range (PyProof.Rows.callWith_type1 (bw (ha pos pins s σ H _ I h) fun us s1 ⟨vs,H1,I1,r1,q1⟩=>?_) hs rfl))
 obtain ⟨j,e,q1,q2,q⟩:=q1;subst e
 cases r1 with
 | cons r rr=>
  cases rr;obtain ⟨t,rfl⟩:=r;exact call_range_1 (lP I1 (by omega) (by omega) q1 q2 (by simpa using q))
theorem rd {a b:Expr} {ta:TA} {p pos:Pos} (hg:Gl X "range") (hm:X.mg "range"=none) (ha:PA X [a,b] ta) (hs:starEach [a,b] X.env=[(false,eval a X.env),(false,eval b X.env)]:=by rfl) (hs2:starEach [b] X.env=[(false,eval b X.env)]:=by rfl) :
  PI X tg (.Call (.Name "range" p) [a,b] [] pos) (zL ta):=by
 intro pins s σ H R I h;refine Call_ (wu I hg hm boot_range (PyProof.Rows.callWith_type1 (bw (ha pos pins s σ H _ I h) fun us s1 ⟨vs,H1,I1,r1,q1⟩=>?_) (by rw [hs,hs2]) (by rw [hs2];rfl)))
 obtain ⟨i,j,e,⟨q1,q2,q3,q4⟩,q⟩:=q1;subst e
 cases r1 with
 | cons r rr=>
  cases rr with
  | cons r' rr=>
   cases rr;obtain ⟨t,rfl⟩:=r;obtain ⟨t',rfl⟩:=r'
   exact call_range_2 (lP I1 q1 q2 q3 q4 q)
def w6 (wi:TI) (g:TG) (tb:TS):TS:=fun D σ H=>wi σ H fun J H1=>∃W:Nat->Nat->St->Hp->Prop,(∃m,W 0 m σ H1)/\∀i m σ H,W i m σ H ->
 (J.stop i H/\D.nx σ H)\/(J.go i H/\∃N:St->Hp->Prop,(∀σ' H',N σ' H'->∃m',m'<m/\W (i+1) m' σ' H')/\∀x H',J.yld i H x H'->g x σ H' fun σ2 H2=>tb { D with nx:=N,ct:=N,bk:=D.nx } σ2 H2)
def Dh (fp:List Addr) (h:Heap):List (Addr×Obj):=fp.filterMap fun b=>(h.get? b).map fun o=>(b,o)
theorem FQ {fp:List Addr} {h:Heap} {b:Addr} {o:Obj} (hb:b∈fp) (e:h.get? b=some o):(b,o)∈Dh fp h:=List.mem_filterMap.mpr ⟨b,hb,by rw [e];rfl⟩
theorem rB {fp:List Addr} {h:Heap} {p:Addr×Obj} (hp:p∈Dh fp h):p.1∈fp/\h.get? p.1=some p.2:=by
 obtain ⟨b,hb,e⟩:=List.mem_filterMap.mp hp
 cases q:h.get? b with
 | none=>rw [q] at e;cases e
 | some o=>
  rw [q] at e;have e':(b,o)=p:=Option.some.inj e
  subst e'
  exact ⟨hb,q⟩
theorem Inv.pinned {pins:List (Addr×Obj)} {σ:St} {H:Hp} {s:Shared} {fp:List Addr} (I:Inv X pins σ H s) (hf:∀b∈fp,jG X pins H b) (ho:∀b∈fp,∃o,s.heap.get? b=some o/\∀v,o.data≠.cell v):Inv X (pins++Dh fp s.heap) σ H s:=
 I.pins_of fun p hp=>(List.mem_append.mp hp).elim (fun z=>I.pin p (mem_append_right _ z)) fun z=>by
  obtain ⟨hb,e⟩:=rB z;obtain ⟨f0,f1,f2,_⟩:=hf p.1 hb;obtain ⟨o,e',d⟩:=ho p.1 hb;rw [e] at e';cases e'
  exact ⟨e,f0,f1,f2,d⟩
theorem Inv.unpinned {pins pl:List (Addr×Obj)} {σ:St} {H:Hp} {s:Shared} (I:Inv X (pins++pl) σ H s):Inv X pins σ H s:=I.pins_of fun p hp=>I.pin p (mem_append_right _ (mem_append_left _ hp))
theorem Hj {iter:Expr} {body:List Stmt} {wi:TI} {g:TG} {tb:TS} {pos:Pos} (hp:PassesOwn (model X.prog X.w) X.A X.env X.xe) (hc:X.calm=true) (hi:PI X tg iter wi) (hg:PG X tg g) (hb:PSs X body tb)
  (hs:∀x,foldedSetIterable iter X.env x=pure x:=by intro _;rfl):PS X (.For tg iter body [] pos) (w6 wi g tb):=by
 intro pins s σ H D I h;refine wpAny_For (bw (hi pins s σ H _ I h) fun v s1 h1=>bw h1 fun itv s2 h2=>?_) hs
 obtain ⟨it,fp,tn,J,H2,e,I2,T,st2,f2,W,⟨m0,w0⟩,turn⟩:=h2;subst e;have stat:∀{H':Hp},(∀b∈fp,H' b=none)->∀b∈fp,jG X pins H' b:=fun hn b hb=>⟨hn b hb,(f2 b hb).2⟩
 refine codeAny_forLoop_any (fun n s'=>∃i σ' H',Inv X pins σ' H' s'/\tn i s'.heap/\(∀b∈fp,H' b=none)/\W i n σ' H') ?_ m0 ⟨0,σ,H2,I2,st2,fun b hb=>(f2 b hb).1,w0⟩
 rintro n s3 ⟨i,σ3,H3,I3,st3,fr3,w3⟩
 rcases turn i n σ3 H3 w3 with ⟨stop,qn⟩ | ⟨go,N,hN,step⟩
 ·refine wpAny_passesOwn hp (bw (T.done X rfl rfl rfl hc i pins s3 σ3 H3 X.xe I3 (stat fr3) st3 stop) fun r s4 ⟨hr,I4⟩=>?_)
  subst hr;exact wpAny_execs_nil ⟨σ3,H3,I4,qn⟩
 ·refine wpAny_passesOwn hp (bw (T.item X rfl rfl rfl hc i pins s3 σ3 H3 X.xe I3 (stat fr3) st3 go) fun r s4 ⟨u,hr,h4⟩=>?_)
  subst hr;refine wpAny_passesOwn hp (bw h4 fun _ s5 ⟨x,H5,I5,r5,y5,st5,fr5⟩=>?_)
  have I5':=I5.pinned (stat fr5) (T.obj _ _ st5)
  refine wpAny_passesOwn hp (bw (hg _ s5 σ3 H5 x u _ I5' r5 (step x H5 y5)) fun _ s6 ⟨σ6,H6,I6,q6⟩=>?_)
  refine wpAny_passesOwn hp (bw (hb _ s6 σ6 H6 _ I6 q6) fun f s7 q7=>?_)
  have again:∀{σ7:St} {H7:Hp},Inv X (pins++Dh fp s5.heap) σ7 H7 s7->N σ7 H7->∃m,m<n/\∃i σ' H',Inv X pins σ' H' s7/\tn i s7.heap/\(∀b∈fp,H' b=none)/\W i m σ' H':=fun {σ7 H7} I7 n7=>by
   obtain ⟨m',hm,w7⟩:=hN σ7 H7 n7;refine ⟨m',hm,i+1,σ7,H7,I7.unpinned,T.keep _ _ _ st5 fun b hb o e=>(I7.pin (b,o) (mem_append_right _ (mem_append_right _ (FQ hb e)))).1,fun b hb=>?_,w7⟩
   obtain ⟨o,e,d⟩:=T.obj _ _ st5 b hb;exact (I7.pin (b,o) (mem_append_right _ (mem_append_right _ (FQ hb e)))).2.1
  cases f with
  | next=>obtain ⟨σ7,H7,I7,n7⟩:=q7;exact again I7 n7
  | cont=>obtain ⟨σ7,H7,I7,n7⟩:=q7;exact again I7 n7
  | brk=>obtain ⟨σ7,H7,I7,q7⟩:=q7;exact ⟨σ7,H7,I7.unpinned,q7⟩
  | ret v=>obtain ⟨x7,σ7,H7,I7,r7,q7⟩:=q7;exact ⟨x7,σ7,H7,I7.unpinned,r7,q7⟩
end
abbrev R2:=V->V->Hp->VK->Prop
def OpR (X:Cx) (f:Value->Value->Sem Value) (r:R2):Prop:=
 ∀(pins:List (Addr×Obj)) (s:Shared) (σ:St) (H:Hp) (x y:V) (v u:Value) (Q:VK),Inv X pins σ H s->RelV x v->RelV y u->r x y H Q ->
  wpAny (model X.prog X.w) X.A (f v u) (EP X pins σ Q) X.xe s
def Km (X:Cx) (f:Value->Sem Value) (r:V->Hp->VK->Prop):Prop:=
 ∀(pins:List (Addr×Obj)) (s:Shared) (σ:St) (H:Hp) (x:V) (v:Value) (Q:VK),Inv X pins σ H s->RelV x v->r x H Q ->
  wpAny (model X.prog X.w) X.A (f v) (EP X pins σ Q) X.xe s
def CallR (X:Cx) (f:Value) (r:List V->Hp->VK->Prop):Prop:=
 ∀(pins:List (Addr×Obj)) (s:Shared) (σ:St) (H:Hp) (xs:List V) (us:List Value) (Q:VK),Inv X pins σ H s->Vals xs us->r xs H Q ->
  wpAny (model X.prog X.w) X.A (call f us) (EP X pins σ Q) X.xe s
def JE (X:Cx) (r:V->Hp->(Bool->Hp->Prop)->Prop):Prop:=
 ∀(pins:List (Addr×Obj)) (s:Shared) (σ:St) (H:Hp) (x:V) (v:Value) (Q:Bool->Hp->Prop),Inv X pins σ H s->RelV x v->r x H Q ->
  wpAny (model X.prog X.w) X.A (truthy v) (TP X pins σ Q) X.xe s
def wI (r:R2) (ta tb:TE):TE:=fun σ H Q=>ta σ H fun x H1=>tb σ H1 fun y H2=>r x y H2 Q
def JT (r:V->Hp->VK->Prop) (ta:TE):TE:=fun σ H Q=>ta σ H fun x H1=>r x H1 Q
def rI (C:Int->Int->Prop) (g:Int->Int->V):R2:=fun x y H Q=>∃i j,x=.int i/\y=.int j/\C i j/\Q (g i j) H
def pO (g:Int->Int->V):R2:=fun x y H Q=>∃i j,x=.int i/\y=.int j/\Q (g i j) H
section
variable {X:Cx} {a b c:Expr} {ta tb tc:TE} {pos:Pos}
theorem CL (ha:PE X a ta) (hb:PE X b tb) {pins:List (Addr×Obj)} {s:Shared} {σ:St} {H:Hp} {R:V->V->Hp->Prop} (I:Inv X pins σ H s)
  (h:ta σ H fun x H1=>tb σ H1 fun y H2=>R x y H2) {Q:Value->Shared->Prop} {f:Value->Value->Sem Value}
  (hf:∀v u s2 x y H2,Inv X pins σ H2 s2->RelV x v->RelV y u->R x y H2->wpAny (model X.prog X.w) X.A (f v u) Q X.xe s2) :
  wpAny (model X.prog X.w) X.A (eval a X.env) (fun v s₁=>wpAny (model X.prog X.w) X.A (eval b X.env) (fun u s₂=>wpAny (model X.prog X.w) X.A (f v u) Q X.xe s₂) X.xe s₁) X.xe s:=by
 refine bw (ha pins s σ H _ I h) fun v s1 ⟨x,H1,I1,r1,q1⟩=>?_
 refine bw (hb pins s1 σ H1 _ I1 q1) fun u s2 ⟨y,H2,I2,r2,q2⟩=>?_
 exact hf v u s2 x y H2 I2 r1 r2 q2
theorem iH {op:Operator} {r:R2} (ho:OpR X (binaryOp op) r) (ha:PE X a ta) (hb:PE X b tb):PE X (.BinOp a op b pos) (wI r ta tb):=by
 intro pins s σ H Q I h;exact wpAny_BinOp (CL ha hb I h fun v u s2 x y H2 I2 rx ry q=>ho pins s2 σ H2 x y v u Q I2 rx ry q)
theorem Ea {op:UnaryOp} {r:V->Hp->VK->Prop} (ho:Km X (unaryOp op) r) (ha:PE X a ta):PE X (.UnaryOp op a pos) (JT r ta):=by
 intro pins s σ H Q I h;exact UnaryOp_ (bw (ha pins s σ H _ I h) fun v s1 ⟨x,H1,I1,r1,q1⟩=>ho pins s1 σ H1 x v Q I1 r1 q1)
theorem Gf {f:Value->Value->Sem Value} {C:Int->Int->Prop} {g:Int->Int->Int}
  (rule:∀(i j:Int) (t u:Tok) (s:Shared) (Q:Value->Shared->Prop) (E:Value->Shared->Prop),C i j->Q (.int (g i j) s.toks) { s with toks:=s.toks+1 }->wpAny (model X.prog X.w) X.A (f (.int i t) (.int j u)) Q E s) :
  OpR X f (rI C fun i j=>.int (g i j)):=by
 intro pins s σ H x y v u Q I rx ry h;obtain ⟨i,j,rfl,rfl,hc,q⟩:=h;obtain ⟨t,rfl⟩:=rx;obtain ⟨t',rfl⟩:=ry;exact rule i j t t' s _ _ hc ⟨.int (g i j),H,I.tok _,⟨_,rfl⟩,q⟩
theorem Ed {f:Value->Value->Sem Value} {g:Int->Int->Int}
  (rule:∀(i j:Int) (t u:Tok) (s:Shared) (Q:Value->Shared->Prop) (E:Value->Shared->Prop),Q (.int (g i j) s.toks) { s with toks:=s.toks+1 }->wpAny (model X.prog X.w) X.A (f (.int i t) (.int j u)) Q E s) :
  OpR X f (pO fun i j=>.int (g i j)):=by
 intro pins s σ H x y v u Q I rx ry h;obtain ⟨i,j,rfl,rfl,q⟩:=h;obtain ⟨t,rfl⟩:=rx;obtain ⟨t',rfl⟩:=ry;exact rule i j t t' s _ _ ⟨.int (g i j),H,I.tok _,⟨_,rfl⟩,q⟩
theorem ya {f:Value->Value->Sem Value} {g:Int->Int->Bool}
  (rule:∀(i j:Int) (t u:Tok) (s:Shared) (Q:Value->Shared->Prop) (E:Value->Shared->Prop),Q (.bool (g i j)) s->wpAny (model X.prog X.w) X.A (f (.int i t) (.int j u)) Q E s) :
  OpR X f (pO fun i j=>.bl (g i j)):=by
 intro pins s σ H x y v u Q I rx ry h;obtain ⟨i,j,rfl,rfl,q⟩:=h;obtain ⟨t,rfl⟩:=rx;obtain ⟨t',rfl⟩:=ry;exact rule i j t t' s _ _ ⟨.bl (g i j),H,I,rfl,q⟩
def JQ (i j:Int):Prop:=0<j/\j<1073741824
def JP (i j:Int):Prop:=0<=j/\j<=1000000/\i.natAbs<2 ^ 64
def CMul (i j:Int):Prop:=(-(2 ^ 64)<i/\i<2 ^ 64)\/(-(2 ^ 64)<j/\j<2 ^ 64)
theorem CMul.ok {i j:Int} (h:CMul i j):IntMulOk i j:=by
 rcases h with ⟨h1,h2⟩ | ⟨h1,h2⟩
 ·exact .of_left (intBits_le_64 h1 h2)
 ·exact .of_right (intBits_le_64 h1 h2)
theorem BR:OpR X (binaryOp .Add) (pO fun i j=>.int (i+j)):=Ed fun _ _ _ _ _ _ _ q=>add_int q
theorem BJ:OpR X (binaryOp .Sub) (pO fun i j=>.int (i-j)):=Ed fun _ _ _ _ _ _ _ q=>sub_int q
theorem BM:OpR X (binaryOp .Mult) (rI CMul fun i j=>.int (i*j)):=Gf fun _ _ _ _ _ _ _ hc q=>mul_int q hc.ok
theorem xZ:OpR X (binaryOp .FloorDiv) (rI JQ fun i j=>.int (i / j)):=Gf fun i j _ _ _ _ _ hc q=>by
 have h1:(0:Int)<j:=hc.1
 have h2:j<1073741824:=hc.2
 exact floordiv_int (by omega) (by rw [Int.fdiv_eq_ediv_of_nonneg i (by omega)];exact q) (.inl (PyProof.noPylong_small (by omega)))
theorem BN:OpR X (binaryOp .Mod) (rI (fun _ j=>0<j) fun i j=>.int (i % j)):=Gf fun i j _ _ _ _ _ hc q=>by
 have h1:(0:Int)<j:=hc
 exact mod_int' (by omega) (by rw [Int.fmod_eq_emod_of_nonneg i (by omega)];exact q)
theorem BK:OpR X (binaryOp .Pow) (rI JP fun i j=>.int (i ^ j.toNat)):=Gf fun _ _ _ _ _ _ _ hc q=>pow_int_small hc.1 hc.2.1 hc.2.2 q
end
def scal:V->V->Bool
 | .non,.non=>true | .non,.int _=>true | .int _,.non=>true | .non,.bl _=>true | .bl _,.non=>true | .non,.str _=>true | .str _,.non=>true
 | .int _,.int _=>true | .bl _,.bl _=>true | .str _,.str _=>true | .byt _,.byt _=>true
 | .int _,.str _=>true | .str _,.int _=>true | .bl _,.str _=>true | .str _,.bl _=>true
 | _,_=>false
section
variable {X:Cx} {a b c:Expr} {ta tb tc:TE} {pos:Pos}
theorem Do {pins:List (Addr×Obj)} {σ:St} {H:Hp} {s:Shared} {Q:VK} {k k':Bool} (I:Inv X pins σ H s) (q:Q (.bl k) H) (e:k=k'):EP X pins σ Q (.bool k') s:=by
 subst e;exact ⟨.bl k,H,I,rfl,q⟩
theorem op_lt:OpR X (compareOp .Lt) (pO fun i j=>.bl (decide (i<j))):=ya fun _ _ _ _ _ _ _ q=>lt_int q
theorem Eb:OpR X (compareOp .LtE) (pO fun i j=>.bl (decide (i<=j))):=ya fun _ _ _ _ _ _ _ q=>le_int q
theorem Ec:OpR X (compareOp .Gt) (pO fun i j=>.bl (decide (j<i))):=ya fun _ _ _ _ _ _ _ q=>gt_int q
theorem op_ge:OpR X (compareOp .GtE) (pO fun i j=>.bl (decide (j<=i))):=ya fun _ _ _ _ _ _ _ q=>ge_int q
theorem rn:OpR X (compareOp .Lt) (fun x y H Q=>∃i j,x=.str i/\y=.str j/\Q (.bl (decide (i.cps.toList<j.cps.toList))) H):=by
 intro pins s σ H x y v u Q I rx ry h;obtain ⟨i,j,rfl,rfl,q⟩:=h;obtain ⟨t,rfl⟩:=rx;obtain ⟨t',rfl⟩:=ry;exact lt_str (Do I q rfl)
theorem BO:OpR X (compareOp .Is) (fun x y H Q=>y=.non/\Q (.bl (decide (x=.non))) H):=by
 intro pins s σ H x y v u Q I rx ry h;obtain ⟨rfl,q⟩:=h
 cases ry;refine is_none_gen (Do I q ?_)
 cases x<;>first
  | (cases rx;rfl)
  | (obtain ⟨t,rfl⟩:=rx;rfl)
theorem xX:OpR X (compareOp .IsNot) (fun x y H Q=>y=.non/\Q (.bl (!decide (x=.non))) H):=by
 intro pins s σ H x y v u Q I rx ry h;obtain ⟨rfl,q⟩:=h
 cases ry;refine isnot_none_gen (Do I q ?_)
 cases x<;>first
  | (cases rx;rfl)
  | (obtain ⟨t,rfl⟩:=rx;rfl)
theorem OpR.or {f:Value->Value->Sem Value} {r r':R2} (h:OpR X f r) (h':OpR X f r'):OpR X f (fun x y H Q=>r x y H Q\/r' x y H Q):=by
 intro pins s σ H x y v u Q I rx ry q;rcases q with q | q
 ·exact h pins s σ H x y v u Q I rx ry q
 ·exact h' pins s σ H x y v u Q I rx ry q
theorem xU {op:CmpOp} {r:R2} (ho:OpR X (compareOp op) r) (ha:PE X a ta) (hb:PE X b tb) (hm:behindInMarks op b=false):PE X (.Compare a [op] [b] pos) (wI r ta tb):=by
 intro pins s σ H Q I h;exact wpAny_Compare1 (CL ha hb I h fun v u s2 x y H2 I2 rx ry q=>ho pins s2 σ H2 x y v u Q I2 rx ry q) hm
def tQ (t:TE):TT:=fun σ H Q=>t σ H fun x H'=>∃k,x=.bl k/\Q k H'
theorem xK {op:CmpOp} {r:R2} (ho:OpR X (compareOp op) r) (ha:PE X a ta) (hb:PE X b tb) (hm:behindInMarks op b=false):PT X (.Compare a [op] [b] pos) (tQ (wI r ta tb)):=by
 intro pins s σ H Q I h;refine wpAny_isTrue_Compare1 (bw (ha pins s σ H _ I h) fun v s1 ⟨x,H1,I1,r1,q1⟩=>bw (hb pins s1 σ H1 _ I1 q1) fun u s2 ⟨y,H2,I2,r2,q2⟩=>
  bw (ho pins s2 σ H2 x y v u _ I2 r1 r2 q2) fun c s3 ⟨z,H3,I3,r3,k,e,q3⟩=>?_) hm
 subst e
 cases r3;exact wpAny_truthy_bool ⟨H3,I3,q3⟩
def Hl (r r':R2) (ta tb tc:TE):TE:=fun σ H Q=>ta σ H fun x H1=>tb σ H1 fun y H2=>r x y H2 fun z H3=>∃k,z=.bl k /\
 (if k=true then tc σ H3 fun w' H4=>r' y w' H4 Q else Q (.bl false) H3)
theorem uW {op op':CmpOp} {r r':R2} (ho:OpR X (compareOp op) r) (ho':OpR X (compareOp op') r') (ha:PE X a ta) (hb:PE X b tb) (hc:PE X c tc)
  (hm:lastMarks [op,op'] [b,c]=false:=by with_unfolding_all rfl):PE X (.Compare a [op,op'] [b,c] pos) (Hl r r' ta tb tc):=by
 intro pins s σ H Q I h;refine Compare_chain (bw (ha pins s σ H _ I h) fun v s1 ⟨x,H1,I1,r1,q1⟩=>chain_link (bw (hb pins s1 σ H1 _ I1 q1) fun u s2 ⟨y,H2,I2,r2,q2⟩=>
  bw (ho pins s2 σ H2 x y v u _ I2 r1 r2 q2) fun d s3 ⟨z,H3,I3,r3,k,e,q3⟩=>?_)) hm
 subst e
 cases r3;refine wpAny_truthy_bool ?_
 cases k with
 | false=>exact ite_ff ⟨.bl false,H3,I3,rfl,q3⟩
 | true=>exact ite_tt (chain_last (bw (hc pins s3 σ H3 _ I3 q3) fun w' s4 ⟨z',H4,I4,r4,q4⟩=>ho' pins s4 σ H4 y z' u w' Q I4 r2 r4 q4))
theorem uH {op op':CmpOp} {r r':R2} (ho:OpR X (compareOp op) r) (ho':OpR X (compareOp op') r') (ha:PE X a ta) (hb:PE X b tb) (hc:PE X c tc)
  (hm:lastMarks [op,op'] [b,c]=false:=by with_unfolding_all rfl):PT X (.Compare a [op,op'] [b,c] pos) (tQ (Hl r r' ta tb tc)):=by
 intro pins s σ H Q I h;refine isTrue_chain (bw (ha pins s σ H _ I h) fun v s1 ⟨x,H1,I1,r1,q1⟩=>test_link (bw (hb pins s1 σ H1 _ I1 q1) fun u s2 ⟨y,H2,I2,r2,q2⟩=>
  bw (ho pins s2 σ H2 x y v u _ I2 r1 r2 q2) fun d s3 ⟨z,H3,I3,r3,k,e,q3⟩=>?_)) hm
 subst e
 cases r3;refine wpAny_truthy_bool ?_
 cases k with
 | false=>
  obtain ⟨k',e',q'⟩:=q3
  cases e'
  exact ite_ff ⟨H3,I3,q'⟩
 | true=>
  refine ite_tt (test_last (bw (hc pins s3 σ H3 _ I3 q3) fun w' s4 ⟨z',H4,I4,r4,q4⟩=>bw (ho' pins s4 σ H4 y z' u w' _ I4 r2 r4 q4) fun d' s5 ⟨z2,H5,I5,r5,k2,e2,q5⟩=>?_))
  subst e2
  cases r5;exact wpAny_truthy_bool ⟨H5,I5,q5⟩
def y3 (K:Fg) (x:V) (H:Hp) (k:Bool):Prop:=
 match x with
 | .non=>k=false
 | .bl b=>k=b
 | .int i=>k=(i != 0)
 | .str y=>y.length<=sizeLine/\k=((y.length:Int) != 0)
 | .byt y=>y.size<=sizeLine/\k=((y.size:Int) != 0)
 | .ref p=>(∃xs,SqL K H p xs/\k=!xs.isEmpty)\/(∃xs,SqT K H p xs/\k=!xs.isEmpty)\/∃kvs,H p=some (.dK kvs)/\k=!kvs.isEmpty
 | _=>False
theorem oF {κ:Type} {kvs:List (κ×V)} {vs:List (κ×Value)} (r:KV kvs vs):(!vs.isEmpty)=!kvs.isEmpty:=by
 cases r<;>rfl
theorem iW {xs:List V} {its:List Value} (r:Vals xs its):(!its.toArray.isEmpty)=!xs.isEmpty:=by
 cases r<;>simp
theorem zb:(sizeLine:Nat)<2 ^ 63:=by rw [sizeLine_eq];decide
theorem Aq:JE X (fun x H Q=>∃k,y3 X.K x H k/\Q k H):=by
 intro pins s σ H x v Q I rx h;obtain ⟨k,e,q⟩:=h;have hl:=zb
 have hs:sizeLine=16777216:=sizeLine_eq
 cases x with
 | non=>
  cases rx;have e':k=false:=e
  subst e'
  exact truthy_none ⟨H,I,q⟩
 | bl b=>
  cases rx;have e':k=b:=e
  subst e'
  exact wpAny_truthy_bool ⟨H,I,q⟩
 | int i=>
  obtain ⟨t,rfl⟩:=rx;have e':k=(i != 0):=e
  subst e'
  exact PySem.P.truthy_int ⟨H,I,q⟩
 | str y=>
  obtain ⟨t,rfl⟩:=rx;obtain ⟨hy,e'⟩:y.length<=sizeLine/\k=((y.length:Int) != 0):=e
  subst e'
  exact PySem.P.truthy_str (by omega) ⟨H,I.tok _,q⟩
 | byt y=>
  obtain ⟨t,rfl⟩:=rx;obtain ⟨hy,e'⟩:y.size<=sizeLine/\k=((y.size:Int) != 0):=e
  subst e'
  exact PySem.W.truthy_bytes (by omega) ⟨H,I.tok _,q⟩
 | ref p=>
  cases rx;have e':(∃xs,SqL X.K H p xs/\k=!xs.isEmpty)\/(∃xs,SqT X.K H p xs/\k=!xs.isEmpty)\/∃kvs,H p=some (.dK kvs)/\k=!kvs.isEmpty:=e
  rcases e' with ⟨xs,hx,e'⟩ | ⟨xs,hx,e'⟩ | ⟨kvs,hx,e'⟩
  ·subst e'
   obtain ⟨its,r,pl,hz⟩:=I.list hx;have hlen:=r.length
   exact wpAny_truthy_list pl.isList (by simp only [size_toArray];omega) ⟨H,I.tok _,by rw [iW r];exact q⟩
  ·subst e'
   obtain ⟨its,r,pl,hz⟩:=I.tuple hx;have hlen:=r.length
   exact truthy_tuple pl (by simp only [size_toArray];omega) ⟨H,I.tok _,by rw [iW r];exact q⟩
  ·subst e'
   obtain ⟨hz,hS,vs,r,m⟩:kvs.length<=sizeLine/\(p==sysModules)=false/\∃vs,KV kvs vs/\s.heap.DictOf (jI X.prog X.w) p vs:=I.hok p _ hx
   have hlen:kvs.length=vs.length:=Paired.length r
   exact wpAny_truthy_dict hS m (by omega) ⟨H,I.tok _,by rw [oF r];exact q⟩
 | _=>exact (show False from e).elim
theorem lU (ha:PE X a ta) (he:∀whole,isTrue a X.env whole=(do let v <-whole;standAt a.pos;holding [v] (truthy v))) :
  PT X a (fun σ H Q=>ta σ H fun x H'=>∃k,y3 X.K x H' k/\Q k H'):=by
 intro pins s σ H Q I h;exact isTrue_plain (bw (ha pins s σ H _ I h) fun v s1 ⟨x,H1,I1,r1,q1⟩=>Aq pins s1 σ H1 x v Q I1 r1 q1) (he _)
theorem vals1 {x:V} {us:List Value} (r:Vals [x] us):∃u,us=[u]/\RelV x u:=by
 cases r with
 | cons r1 r2=>cases r2;exact ⟨_,rfl,r1⟩
theorem sy:CallR X (.type "int") (fun xs H Q=>(∃i,xs=[.int i]/\Q (.int i) H)\/∃k,xs=[.bl k]/\Q (.int (if k then 1 else 0)) H):=by
 intro pins s σ H xs us Q I r h;rcases h with ⟨i,rfl,q⟩ | ⟨k,rfl,q⟩
 ·obtain ⟨u,rfl,t,rfl⟩:=vals1 r
  exact call_int_int ⟨.int i,H,I,⟨_,rfl⟩,q⟩
 ·obtain ⟨u,rfl,r1⟩:=vals1 r
  cases r1;exact call_int_bool ⟨.int (if k then 1 else 0),H,I.tok _,⟨_,rfl⟩,q⟩
end
structure ObjM (h:Heap) (x dx C:Addr) (mA:Str->Option Value):Prop where
 obj:h.get? x=some (PySem.W.instObj C dx)
 ns:h.Ns1 dx mA
 ne:dx≠x
theorem rL {h:Heap} {dx:Addr} {mA:Str->Option Value} (n:h.Ns1 dx mA):∃od,h.get? dx=some od/\∀name,PySem.W.lookIn name od=some (mA name):=by
 obtain ⟨o,es,ep,ho,hd,hk,_,hm⟩:=n;refine ⟨o,ho,fun name=>?_⟩
 have e:=hm name
 unfold nsFind findBy at e;rw [<-Array.find?_toList] at e;unfold PySem.W.lookIn;rw [hd];dsimp only;split
 ·rename_i y q
  rw [q] at e;exact congrArg some e
 ·rename_i q
  rw [q] at e;have a:es.toList.any (·.refKey)=false:=by
   rw [List.any_eq_false];intro y hy;obtain ⟨z,t,hkey⟩:=hk y (Array.mem_toList_iff.mp hy);simp [DictEntry.refKey,hkey]
  have a':¬es.toList.any (·.refKey)=true:=by rw [a];exact Bool.false_ne_true
  rw [if_neg a'];exact congrArg some e
theorem ObjM.look {h:Heap} {x dx C:Addr} {mA:Str->Option Value} (I:ObjM h x dx C mA):∃od,PySem.W.InstAt h x (PySem.W.instObj C dx) C (some od)/\∀name,PySem.W.lookIn name od=some (mA name):=
 let ⟨od,ho,hl⟩:=rL I.ns
 ⟨od,⟨I.obj,rfl,rfl,ho⟩,hl⟩
theorem RelO.some_of {v:V} {o:Option Value} (r:RelO (some v) o):∃u,o=some u/\RelV v u:=by
 cases o with
 | none=>exact (show False from r).elim
 | some u=>exact ⟨u,rfl,r⟩
section
variable {P:Program} {w:World} {H H':Hp} {h h':Heap} {a C dx:Addr} {fs fs':List (Str×V)}
theorem yp (hok:HOk P w H h) (e:H a=some (.ins C dx fs)):∃mA,ObjM h a dx C mA/\(∀f,RelO (fs.lookup f) (mA f))/\PySem.Within mA (fs.map (·.1))/\fs.length<=1000/\H dx=some (.own a):=by
 obtain ⟨d,z,ne,ob,mA,n,r,q⟩:=(show ObjOk P w H h a (.ins C dx fs) from hok a _ e);exact ⟨mA,⟨ob,n,ne⟩,r,q,z,d⟩
end
structure Cls (K:Fg) (C:Addr):Prop where
 pg:PySem.W.plainGet K C Str.empty=true
 hd:PySem.W.hasDictIn K C=true
 po:PySem.W.plainOver K C=true
 sa:PySem.W.findIn K (.ref C) "__setattr__"=some (some (.builtin "object.__setattr__"))
theorem Cls.get {K:Fg} {C:Addr} (c:Cls K C) (f:Str):PySem.W.plainGet K C f=true:=c.pg
structure Con (K:Fg) (C:Addr) (f:Str) (v:V) (u:Value):Prop where
 at_:PySem.W.findIn K (.ref C) f=some (some u)
 rel:RelV v u
 get:PySem.W.specialIn K u "__get__"=some none
 cp:PySem.W.copiedNames.contains f=false
structure KH (K:Fg) (C:Addr) (m:Str) (f:Addr):Prop where
 at_:PySem.W.findIn K (.ref C) m=some (some (.ref f))
 fn:PySem.W.isFn K (.ref f)=true
 kp:PySem.W.keepIn K (.ref f)=true
section
variable {X:Cx} {pins:List (Addr×Obj)} {σ:St} {H:Hp} {s:Shared} {A:Around} {E:Value->Shared->Prop} {Q:Value->Shared->Prop} {c:Value} {b:Bool}
inductive iq (K:Fg) (H:Hp):V->Value->Prop where
 | non:iq K H .non (.type "NoneType")
 | bl (x:Bool):iq K H (.bl x) (.type "bool")
 | int (i:Int):iq K H (.int i) (.type "int")
 | str (x:Str):iq K H (.str x) (.type "str")
 | flt (x:UInt64):iq K H (.flt x) (.type "float")
 | lst {a:Addr} {xs:List V} (e:H a=some (.lst xs)):iq K H (.ref a) (.type "list")
 | frz {a:Addr} {o:Obj} {xs:List V} (e:H a=some (.frz o (.lst xs))):iq K H (.ref a) (.type "list")
 | tup {a:Addr} {xs:List V} (e:H a=some (.tup xs)):iq K H (.ref a) (.type "tuple")
 | dK {a:Addr} {kvs:List (bL×V)} (e:H a=some (.dK kvs)):iq K H (.ref a) (.type "dict")
 | dT {a:Addr} {kvs:List (List bL×V)} (e:H a=some (.dT kvs)):iq K H (.ref a) (.type "dict")
 | ins {a C dx:Addr} {fs:List (Str×V)} (e:H a=some (.ins C dx fs)) (cl:Cls K C) (ha:PySem.W.findIn K (.ref C) "__class__"=some (some (.builtin "object.__class__")))
   (hn:PySem.W.specialIn K (.builtin "object.__class__") "__get__"=some (some (.builtin "getset_descriptor.__get__"))) (htk:PySem.W.takesIn K (.builtin "object.__class__")=some true)
   (hm:PySem.W.mroIn K C (.type "object")=some true):iq K H (.ref a) (.ref C)
theorem Ai {x:V} {u t:Value} (I:Inv X pins σ H s) (rx:RelV x u) (ty:iq X.K H x t) (e:PySem.W.kitOne X.K t c=some b) (h:∀tk,Q (.bool b) { s with toks:=tk }) :
  wpAny (model X.prog X.w) A (call (.builtin "isinstance") [u,c]) Q E s:=by
 cases ty with
 | non=>cases (show u=Value.none from rx);exact PySem.W.kia_one PySem.W.kitx_none I.kIn True.intro e nofun h
 | bl y=>cases (show u=Value.bool y from rx);exact PySem.W.kia_one PySem.W.kitx_bool I.kIn True.intro e nofun h
 | int i=>obtain ⟨t,q⟩:=(show ∃t,u=Value.int i t from rx);cases q;exact PySem.W.kia_one PySem.W.kitx_int I.kIn True.intro e nofun h
 | str y=>obtain ⟨t,q⟩:=(show ∃t,u=Value.str y t from rx);cases q;exact PySem.W.kia_one PySem.W.kitx_str I.kIn True.intro e nofun h
 | flt y=>obtain ⟨t,q⟩:=(show ∃t,u=Value.float y t from rx);cases q;exact PySem.W.kia_one PySem.W.kitx_float I.kIn True.intro e nofun h
 | @lst a xs ea=>
  cases (show u=Value.ref a from rx)
  obtain ⟨_,_,n,_,h1⟩:=(show ObjOk X.prog X.w H s.heap a (.lst xs) from I.hok a _ ea);exact PySem.W.kia_one PySem.W.kitx_list I.kIn ⟨_,h1,rfl⟩ e nofun h
 | @frz a ob xs ea=>
  cases (show u=Value.ref a from rx)
  obtain ⟨_,_,_,n,_,h1⟩:=(show ObjOk X.prog X.w H s.heap a (.frz ob (.lst xs)) from I.hok a _ ea);exact PySem.W.kia_one PySem.W.kitx_list I.kIn ⟨_,h1,rfl⟩ e nofun h
 | @tup a xs ea=>
  cases (show u=Value.ref a from rx)
  obtain ⟨_,_,_,p⟩:=(show ObjOk X.prog X.w H s.heap a (.tup xs) from I.hok a _ ea);obtain ⟨o,h1,h2,_⟩:=p;exact PySem.W.kia_one PySem.W.kitx_tuple I.kIn ⟨o,h1,h2⟩ e nofun h
 | @dK a kvs ea=>
  cases (show u=Value.ref a from rx)
  obtain ⟨_,_,vs,_,p⟩:=(show ObjOk X.prog X.w H s.heap a (.dK kvs) from I.hok a _ ea);obtain ⟨o,es,ep,h1,h2,_⟩:=p;exact PySem.W.kia_one PySem.W.kitx_dict I.kIn ⟨o,h1,h2.1⟩ e nofun h
 | @dT a kvs ea=>
  cases (show u=Value.ref a from rx)
  obtain ⟨_,_,xs,_,o,es,ep,h1,h2,_⟩:=(show ObjOk X.prog X.w H s.heap a (.dT kvs) from I.hok a _ ea);exact PySem.W.kia_one PySem.W.kitx_dict I.kIn ⟨o,h1,h2.1⟩ e nofun h
 | @ins a C dx fs ea cl ha hn htk hm=>
  cases (show u=Value.ref a from rx)
  obtain ⟨mA,O,_⟩:=yp I.hok ea;obtain ⟨od,J,_⟩:=O.look;exact PySem.W.kia_one (PySem.W.kitx_own (cl.get _) cl.hd ha hn htk hm) I.kIn J e nofun h
end
structure Room (k:Nat) (A:Around):Prop where
 hd:A.handled=none
 dp:A.depth+3*k+5<recursionLimit
 un:A.units+16*k+200<cLine
theorem Room.mono {j k:Nat} {A:Around} (r:Room k A) (h:j<=k):Room j A:=⟨r.hd,by have:=r.dp;omega,by have:=r.un;omega⟩
theorem Room.deeper {k:Nat} {A:Around} (r:Room (k+1) A) (env:Env):Room k (A.deeper env):=
 ⟨r.hd,by have:=r.dp;show A.depth+1+3*k+5<_;omega,by have:=r.un;show A.units+3+16*k+200<_;omega⟩
theorem Room.depth {k:Nat} {A:Around} (r:Room k A):A.depth<recursionLimit:=by have:=r.dp;omega
theorem Room.units {k:Nat} {A:Around} (r:Room k A):A.units+64<cLine:=by have:=r.un;omega
def gY:TA:=fun _ H Q=>Q [] H
def cH (ta:TE) (tr:TA):TA:=fun σ H Q=>ta σ H fun x H1=>tr σ H1 fun xs H2=>Q (x::xs) H2
section
variable {X:Cx} {e:Expr} {es:List Expr} {te:TE} {t:TA} {pos:Pos}
theorem wx:PA X [] gY:=fun _ _ _ _ H Q I h=>Calls.spliced_nil ⟨[],H,I,.nil,h⟩
theorem o8 (ha:PE X e te) (hr:PA X es t) (hs:starEach (e::es) X.env=(false,eval e X.env)::starEach es X.env:=by rfl):PA X (e::es) (cH te t):=by
 intro pos pins s σ H Q I h;rw [hs];show wpAny _ _ (spliced ((false,eval e X.env)::backTo pos (starEach es X.env))) _ _ s
 refine Calls.spliced_cons (bw (ha pins s σ H _ I h) fun u s1 ⟨x,H1,I1,r1,q1⟩=>?_)
 exact bw (hr pos pins s1 σ H1 _ I1 q1) fun us s2 ⟨xs,H2,I2,r2,q2⟩=>⟨x::xs,H2,I2,.cons r1 r2,q2⟩
def Ar (t:TA):TE:=fun σ H Q=>t σ H fun xs H1=>xs.length<=sizeLine/\∀p,H1 p=none->Q (.ref p) (bx H1 p (.tup xs))
def Au (t:TA):TE:=fun σ H Q=>t σ H fun xs H1=>xs.length<=sizeLine/\∀p,H1 p=none->Q (.ref p) (bx H1 p (.lst xs))
theorem uQ {x1} (h:PA X es t):PE X (.Tuple es x1 pos) (Ar t):=by
 intro pins s σ H Q I hq;refine wpAny_Tuple_spliced (bw (h pos pins s σ H _ I hq) fun us s1 ⟨xs,H1,I1,r,z,q⟩=>⟨by rw [<-r.length];exact z,?_⟩)
 have hf:H1 s1.heap.objs.size=none:=I1.hok.fresh (Nat.le_refl _)
 refine ⟨.ref s1.heap.objs.size,bx H1 s1.heap.objs.size (.tup xs),I1.laid (t':=s1.toks) (fun b u e=>Heap.get?_push_of_some _ e) (Nat.le_refl _) ?_,rfl,q _ hf⟩
 exact ⟨z,us,r,⟨_,Heap.get?_push_size _ rfl,rfl,_,rfl⟩⟩
theorem uS (h:PA X es t):PE X (.List es pos) (Au t):=by
 intro pins s σ H Q I hq;refine wpAny_List_spliced (bw (h pos pins s σ H _ I hq) fun us s1 ⟨xs,H1,I1,r,z,q⟩=>⟨by rw [<-r.length];exact z,?_⟩)
 have hf:H1 s1.heap.objs.size=none:=I1.hok.fresh (Nat.le_refl _)
 refine ⟨.ref s1.heap.objs.size,bx H1 s1.heap.objs.size (.lst xs),I1.laid (t':=s1.toks) (fun b u e=>Heap.get?_push_of_some _ e) (Nat.le_refl _) ?_,rfl,q _ hf⟩
 exact ⟨z,us,0,r,Heap.get?_push_size _ rfl⟩
end
abbrev Sp:=List V->Hp->VK->XK->Prop
abbrev wj:=List Env->Hp->Shared->XK->Value->Shared->Prop
structure za (P:Program) (w:World) (K:Fg) (mg:Str->Option Value) (base:Heap) (A:Around) (outer:List Env) (s:Shared) (H:Hp):Prop where
 frames:A.frames=some outer
 mod:Mod K mg base
 bs:∀b o,base.get? b=some o->s.heap.get? b=some o/\H b=none
 bsz:base.objs.size<=s.heap.objs.size
 funs:s.heap.FunFrames base outer
 frf:∀b∈vB outer,H b=none
 hok:HOk P w H s.heap
 bare:AllBare s.gens
def CE (outer:List Env) (P:Program) (w:World) (H:Hp) (s:Shared) (Q:VK) (u:Value) (s':Shared):Prop:=
 ∃v H',s'.os=s.os/\AllBare s'.gens/\Un (vB outer) [] H H' s.heap s'.heap/\HOk P w H' s'.heap/\RelV v u/\Q v H'
def CR (CX:wj) (outer:List Env) (P:Program) (w:World) (H:Hp) (s:Shared) (Q:VK) (E:XK) (r:Result) (s':Shared):Prop:=
 match r with
 | .ok (.ret u)=>CE outer P w H s Q u s'
 | .ok _=>False
 | .error e=>CX outer H s E e s'
structure eD (P:Program) (w:World) (K:Fg) (mg:Str->Option Value) (base:Heap) (CX:wj) (k:Nat) (f:Addr) (fd:FuncData) (ps:List Str) (sp:Sp):Prop where
 len:∀vs H Q E,sp vs H Q E->vs.length=ps.length
 run:∀(A:Around) (outer:List Env) (s:Shared) (H:Hp) (args:Args) (us:List Value) (vs:List V) (Q:VK) (E:XK),Room k A->za P w K mg base A outer s H->BindsTo s fd args (ps.zip us)->Vals vs us->sp vs H Q E ->
  codeAny (model P w) A (.call (.ref f) args) (CR CX outer P w H s Q E) s
section
variable {X:Cx} {pins:List (Addr×Obj)} {σ:St} {H:Hp} {s s':Shared}
theorem Inv.env0 (I:Inv X pins σ H s):za X.prog X.w X.K X.mg X.base X.A X.stack s H:=
 ⟨I.ok.frames,I.ok.mod,I.bs,Nat.le_trans I.ok.bsz I.sz,I.stack,I.stkFree,I.hok,I.bare⟩
theorem Inv.after {Q:VK} {u:Value} (I:Inv X pins σ H s) (h:CE X.stack X.prog X.w H s Q u s'):EP X pins σ Q u s':=by
 obtain ⟨v,H',os,bare,un,hok,r,q⟩:=h;obtain ⟨hh,g,d,t,os'⟩:=s'
 obtain rfl:os'=s.os:=os
 exact ⟨v,H',I.call (h':=hh) (g':=g) (d':=d) (t':=t) (ch:=[]) un hok bare (fun b z=>absurd z (by simp)),r,q⟩
end
def lA (sp:Sp) (dvs:List V) (E:XK) (t:TA):TE:=fun σ H Q=>t σ H fun vs H1=>sp (vs++dvs) H1 Q E
def Binds (K:Fg) (fd:FuncData) (ps:List Str) (ds:List Value):Prop:=
 ∀(s:Shared) (us:List Value),K.In s.heap->(us++ds).length=ps.length->BindsTo s fd ⟨us,[]⟩ (ps.zip (us++ds))
theorem Binds.all {K:Fg} {fd:FuncData} {ps:List Str} (h:∀us:List Value,us.length=ps.length->bindArgs fd ⟨us,[]⟩=pure (ps.zip us)):Binds K fd ps []:=fun s us _ hl=>by
 rw [append_nil] at hl ⊢;exact .of_eq (h us hl)
def GG (CX:wj) (X:Cx) (E:XK):Prop:=∀(pins:List (Addr×Obj)) (σ:St) (H:Hp) (s:Shared) (e:Value) (s':Shared),Inv X pins σ H s->CX X.stack H s E e s'->X.xe e s'
section
variable {X:Cx} {CX:wj} {k:Nat} {f C:Addr} {fd:FuncData} {ps:List Str} {sp:Sp} {dvs:List V} {ds:List Value} {E:XK} {x m:Str} {p pos apos:Pos} {e o:Expr} {es:List Expr} {ta:TE} {t:TA}
theorem AF {pins:List (Addr×Obj)} {σ:St} {H:Hp} {s:Shared} {Q:VK} {us:List Value} {vs:List V} (F:eD X.prog X.w X.K X.mg X.base CX k f fd ps sp) (hr:Room k X.A) (hb:Binds X.K fd ps ds) (hd:Vals dvs ds) (hx:GG CX X E)
  (I:Inv X pins σ H s) (r:Vals vs us) (h:sp (vs++dvs) H Q E):wpAny (model X.prog X.w) X.A (call (.ref f) us) (EP X pins σ Q) X.xe s:=by
 have r2:Vals (vs++dvs) (us++ds):=r.append hd
 have hl:(us++ds).length=ps.length:=by rw [<-r2.length];exact F.len _ _ _ _ h
 refine wpAny_call (codeAny_mono (F.run X.A X.stack s H ⟨us,[]⟩ (us++ds) (vs++dvs) Q E hr I.env0 (hb s us I.kIn hl) r2 h) fun r s' hq=>?_)
 cases r with
 | error e=>exact hx pins σ H s e s' I hq
 | ok fl=>
  cases fl with
  | ret u=>exact I.after hq
  | next=>exact False.elim hq
  | brk=>exact False.elim hq
  | cont=>exact False.elim hq
theorem GZ (F:eD X.prog X.w X.K X.mg X.base CX k f fd ps sp) (hr:Room k X.A) (hg:Gl X x) (hm:X.mg x=some (.ref f)) (hk:PySem.W.keepIn X.K (.ref f)=true) (hb:Binds X.K fd ps ds) (hd:Vals dvs ds) (hx:GG CX X E)
  (ha:PA X (e::es) t) (hdb:(x==("__debug__":Str))=false:=by decide) (he:starEach (e::es) X.env=(false,eval e X.env)::starEach es X.env:=by rfl) (hpl:(backTo pos (starEach es X.env)).any (·.1)=false:=by rfl) :
  PE X (.Call (.Name x p) (e::es) [] pos) (lA sp dvs E t):=by
 intro pins s σ H Q I h;refine wpAny_Call_Name_kw (Fm I hg hm ?_ hdb)
 refine PySem.W.callWith_K (h₀:=X.base) I.ok.mod.kin hk (bw (ha pos pins s σ H _ I h) fun us s1 ⟨vs,H1,I1,r,q⟩=>⟨I1.kIn,?_⟩) he hpl
 exact AF F hr hb hd hx I1 r q
structure Mk (K:Fg) (C f:Addr):Prop where
 makes:PySem.W.makesIn K C=true
 init:PySem.W.findIn K (.ref C) "__init__"=some (some (.ref f))
 fn:PySem.W.isFn K (.ref f)=true
 kp:PySem.W.keepIn K (.ref C)=true
end
section
variable {X:Cx} {CX:wj} {k:Nat} {f C:Addr} {fd:FuncData} {ps ks:List Str} {sp:Sp} {E:XK} {x m:Str} {p pos apos kpos:Pos} {e o:Expr} {es:List Expr} {kws:List Keyword} {te ta:TE} {t tk:TA} {nm:Option Str}
structure JJ (K:Fg) (fd:FuncData) (ps ks:List Str) (g:List Value->List Value->List Value) (gV:List V->List V->List V):Prop where
 to:∀(s:Shared) (us ws:List Value),K.In s.heap->(g us ws).length=ps.length->BindsTo s fd ⟨us,ks.zip ws⟩ (ps.zip (g us ws))
 rel:∀{vs:List V} {us:List Value} {zs:List V} {ws:List Value},Vals vs us->Vals zs ws->Vals (gV vs zs) (g us ws)
variable {g:List Value->List Value->List Value} {gV:List V->List V->List V}
end
structure cy (N P:List Str) (sc:Scope):Prop where
 kind:sc.kind=.function
 co:sc.isCoroutine=false
 gen:sc.isGenerator=false
 nd:N.Nodup
 pre:N.take P.length=P
 par:∀x∈P,sc.names.lookup x=some .local\/sc.names.lookup x=some .cell
 nofree:∀y∈sc.names,y.2≠.free
theorem j7 {kindOf:Str->Option NameKind} {x:Str}:∀{binds:List (Str×Value)} {m:Str->Option Value},(∀v,(x,v)∉binds)->bindL kindOf binds m x=m x
 | [],_,_=>rfl
 | (n,v)::r,m,h=>by
  unfold bindL;rw [j7 fun w hw=>h w (mem_cons_of_mem _ hw)]
  split
  ·have:x≠n:=by rintro rfl;exact h v mem_cons_self
   simp [this]
  ·rfl
theorem j9 {kindOf:Str->Option NameKind} {x:Str}:∀{binds:List (Str×Value)} {m:Str->Option Value},(∀v,(x,v)∉binds)->bindC kindOf binds m x=m x
 | [],_,_=>rfl
 | (n,v)::r,m,h=>by
  unfold bindC;rw [j9 fun w hw=>h w (mem_cons_of_mem _ hw)]
  split
  ·rfl
  ·have:x≠n:=by rintro rfl;exact h v mem_cons_self
   simp [this]
theorem j8 {kindOf:Str->Option NameKind} {x:Str} {v:Value}:∀{P:List Str} {vs:List Value} {i:Nat} {m:Str->Option Value},P.Nodup->P[i]?=some x->vs[i]?=some v->kindOf x=some .local ->
  bindL kindOf (P.zip vs) m x=some v
 | [],_,_,_,_,h,_,_=>by simp at h
 | _::_,[],_,_,_,_,h,_=>by simp at h
 | p::P,w::vs,0,m,nd,h1,h2,hk=>by
  simp at h1 h2;subst h1;subst h2;show bindL kindOf ((p,w)::P.zip vs) m p=_
  unfold bindL;rw [j7 fun v hv=>(List.nodup_cons.mp nd).1 (List.of_mem_zip hv).1,if_pos hk]
  simp
 | p::P,w::vs,i+1,m,nd,h1,h2,hk=>by
  show bindL kindOf ((p,w)::P.zip vs) m x=_
  unfold bindL;exact j8 (i:=i) (List.nodup_cons.mp nd).2 (by simpa using h1) (by simpa using h2) hk
theorem ka {kindOf:Str->Option NameKind} {x:Str} {v:Value}:∀{P:List Str} {vs:List Value} {i:Nat} {m:Str->Option Value},P.Nodup->P[i]?=some x->vs[i]?=some v->kindOf x≠some .local ->
  bindC kindOf (P.zip vs) m x=some v
 | [],_,_,_,_,h,_,_=>by simp at h
 | _::_,[],_,_,_,_,h,_=>by simp at h
 | p::P,w::vs,0,m,nd,h1,h2,hk=>by
  simp at h1 h2;subst h1;subst h2;show bindC kindOf ((p,w)::P.zip vs) m p=_
  unfold bindC;rw [j9 fun v hv=>(List.nodup_cons.mp nd).1 (List.of_mem_zip hv).1,if_neg hk]
  simp
 | p::P,w::vs,i+1,m,nd,h1,h2,hk=>by
  show bindC kindOf ((p,w)::P.zip vs) m x=_
  unfold bindC;exact ka (i:=i) (List.nodup_cons.mp nd).2 (by simpa using h1) (by simpa using h2) hk
def start (N:List Str) (vs:List V):St:=vs.map some++List.replicate (N.length-vs.length) none
def nj (CX:wj) (P:Program) (w:World) (K:Fg) (mg:Str->Option Value) (base:Heap) (N:List Str) (qual:Str) (scope:Scope) (f:Addr) (cd:Value) (A:Around) (outer:List Env) (s:Shared) (H:Hp) (E:XK):Cx where
 prog:=P
 w:=w
 K:=K
 mg:=mg
 base:=base
 A:=A.deeper (envOfC qual scope s.heap.objs.size f cd)
 N:=N
 s₀:=s
 H₀:=H
 env:=envOfC qual scope s.heap.objs.size f cd
 outer:=outer
 stack:=envOfC qual scope s.heap.objs.size f cd::outer
 ex:=[]
 calm:=true
 fn:=fun _=>true
 pn:=[]
 xe:=fun e s'=>wpAny (model P w) (A.deeper (envOfC qual scope s.heap.objs.size f cd)) (leaving (envOfC qual scope s.heap.objs.size f cd) e) (fun _ s''=>CX outer H s E e s'') (fun e' s''=>CX outer H s E e' s'') s'
theorem nr {sc:Scope} {n:Nat} {x:Str} (h:sc.names.lookup x=some .cell):∃c,(cellsFrom n sc.names []).lookup x=some c:=by
 have q:=PySem.W.cellsFrom_some sc.names n [] (.inl h)
 exact Option.isSome_iff_exists.mp q
theorem rQ {CX:wj} {P:Program} {w:World} {K:Fg} {mg:Str->Option Value} {base:Heap} {N ps:List Str} {qual:Str} {scope:Scope} {f:Addr} {cd:Value} {A:Around} {outer:List Env} {s s1:Shared} {H:Hp} {E:XK} {us:List Value} {vs:List V}
  (S:cy N ps scope) (hd:A.handled=none) (e0:za P w K mg base A outer s H) (hl:vs.length=ps.length) (r:Vals vs us)
  (x:InCallC s s.heap.objs.size (bindL (envOfC qual scope s.heap.objs.size f cd).kindOf (ps.zip us) fun _=>none) (cellsFrom (s.heap.objs.size+1) scope.names []) (bindC (envOfC qual scope s.heap.objs.size f cd).kindOf (ps.zip us) fun _=>none) s1) :
  Inv (nj CX P w K mg base N qual scope f cd A outer s H E) [] (start N vs) H s1:=by
 have hpl:ps.length<=N.length:=by have:=congrArg List.length S.pre;rw [length_take] at this;omega
 obtain ⟨h1,tk,rfl,hk⟩:=x.done;have noA:∀b:Addr,b∉(nj CX P w K mg base N qual scope f cd A outer s H E).ex:=fun b z=>absurd (show b∈([]:List Addr) from z) (by simp)
 refine ⟨⟨e0.mod,S.kind,rfl,rfl,Nat.le_refl _,fun y z c h1 h2=>?_,fun y hy=>?_,fun y c _ h=>?_,fun _=>hd,Around.frames_deeper e0.frames,.inr ⟨rfl,rfl⟩,fun b z=>absurd z (noA b),e0.bs,e0.bsz,fun b _ _=>noA b,fun b z=>absurd z (noA b),e0.funs,e0.frf⟩,
  rfl,e0.bare,Un.kept hk,⟨_,x.toInCall.ns,fun i y v h1 h2 h3=>?_⟩,fun y c h=>⟨_,x.cell y c h⟩,e0.hok.fresh (Nat.le_refl _),fun y c h=>?_,fun p hp=>absurd (show p∈([]:List (Addr×Obj)) from hp) (by simp),e0.hok.kept hk,?_⟩
 ·exact name_of_addr x.apart (PySem.mem_of_lookup h1) (PySem.mem_of_lookup h2)
 ·have hy:scope.names.lookup y=some .cell\/scope.names.lookup y=some .free:=hy
  rcases hy with hy | hy
  ·exact nr hy
  ·exact absurd rfl (S.nofree _ (PySem.mem_of_lookup hy))
 ·exact Nat.le_of_lt (x.above y c (PySem.mem_of_lookup h))
 ·have hi:i<vs.length:=by
   unfold start at h2;by_cases hi:i<vs.length
   ·exact hi
   ·rw [getElem?_append_right (by simpa using hi)] at h2
    rw [getElem?_replicate] at h2;split at h2<;>cases h2
  have ha:vs[i]?=some v:=by
   unfold start at h2;rw [getElem?_append_left (by simpa using hi),getElem?_map] at h2
   cases e:vs[i]? with
   | none=>rw [e] at h2;cases h2
   | some a=>rw [e] at h2;cases h2;rfl
  obtain ⟨u,hu,rv⟩:=r.get ha;have hp:ps[i]?=some y:=by
   rw [<-S.pre,List.getElem?_take_of_lt (by omega)];exact h1
  have ndP:ps.Nodup:=by rw [<-S.pre];exact S.nd.sublist (List.take_sublist _ _)
  refine ⟨u,rv,?_⟩
  rcases S.par y (mem_of_getElem? hp) with k | k
  ·exact .inl ⟨k,j8 ndP hp hu k⟩
  ·obtain ⟨c,e⟩:=nr (n:=s.heap.objs.size+1) k
   refine .inr ⟨.inl k,c,e,?_⟩
   have q:=x.cell y c e
   rw [ka ndP hp hu (by show scope.names.lookup y≠_;rw [k];decide)] at q
   exact q
 ·exact e0.hok.fresh (Nat.le_of_lt (x.above y c (PySem.mem_of_lookup h)))
 ·unfold start
  show _=N.length
  rw [length_append,length_map,List.length_replicate];omega
theorem Ey {CX:wj} {P:Program} {w:World} {K:Fg} {mg:Str->Option Value} {base:Heap} {k:Nat} {f:Addr} {name qual:Str} {params:Arguments} {body:List Stmt} {scope:Scope} {dV kV doc pm cdv ct oc:Value} {an od:Option Addr}
  {osl:Array (Option Value)} {N ps:List Str} {sp:Sp} (lk:K.lookup f=some ⟨oc,od,.func (PySem.W.fnOf name qual params body scope dV kV doc pm an cdv ct),osl⟩) (hcd:PySem.W.codeIn K cdv qual=true) (S:cy N ps scope)
  (len:∀vs H Q E,sp vs H Q E->vs.length=ps.length)
  (hbody:∀(A:Around) (outer:List Env) (s:Shared) (H:Hp) (vs:List V) (Q:VK) (E:XK),Room k (A.deeper (envOfC qual scope s.heap.objs.size f cdv))->sp vs H Q E ->
   ∃t,PSs (nj CX P w K mg base N qual scope f cdv A outer s H E) body t/\t { nx:=fun _ H'=>Q .non H',rt:=Q } (start N vs) H) :
  eD P w K mg base CX (k+1) f (PySem.W.fnOf name qual params body scope dV kV doc pm an cdv ct) ps sp:=by
 refine ⟨len,fun A outer s H args us vs Q E hr e0 hb r hsp=>?_⟩
 have hl:=len _ _ _ _ hsp
 have KX:K.In s.heap:=e0.mod.kin.keeps fun b o e=>(e0.bs b o e).1
 have lim:s.heap.NoLimit:=e0.mod.nolimit.keeps fun b o e=>(e0.bs b o e).1
 have hkind:∀y∈ps.zip us,scope.names.lookup y.1=some .local\/(scope.names.lookup y.1=some .cell/\((cellsFrom (s.heap.objs.size+1) scope.names []).lookup y.1).isSome=true):=fun ⟨n,v⟩ hy=>by
  rcases S.par n (List.of_mem_zip hy).1 with q | q
  ·exact .inl q
  ·exact .inr ⟨q,PySem.W.cellsFrom_some _ _ _ (.inl q)⟩
 refine codeAny_call_function hr.depth (KX _ _ lk) rfl S.co S.gen rfl (PySem.W.codeRec_of KX hcd) (hb _ _ _ _ ?_)
 refine wpAny_newFunctionEnv_cells S.kind hkind fun env he s1 x=>?_
 subst he;refine ⟨lim.keeps x.toInCall.keep,codeAny_func ?_⟩
 obtain ⟨t,ht,hq⟩:=hbody A outer s H vs Q E (hr.deeper _) hsp;have I:Inv (nj CX P w K mg base N qual scope f cdv A outer s H E) [] (start N vs) H s1:=rQ S hr.hd e0 hl r x
 refine wpAny_mono (ht [] s1 (start N vs) H _ I hq) (fun fl s' hs=>?_) fun e s' hs=>hs
 have fin:∀{σ':St} {H':Hp} {v:V} {u:Value},Inv (nj CX P w K mg base N qual scope f cdv A outer s H E) [] σ' H' s'->RelV v u->Q v H'->CE outer P w H s Q u s':=
  fun {σ' H' v u} J rv q=>⟨v,H',J.os,J.bare,J.base,J.hok,rv,q⟩
 cases fl with
 | ret u=>
  obtain ⟨v,σ',H',J,rv,q⟩:=hs;exact fin J rv q
 | next=>
  obtain ⟨σ',H',J,q⟩:=hs;exact fin (v:=V.non) (u:=Value.none) J rfl q
 | brk=>
  obtain ⟨_,_,_,q⟩:=hs;exact False.elim q
 | cont=>
  obtain ⟨_,_,_,q⟩:=hs;exact False.elim q
section
variable {X:Cx} {x:Str} {p pos:Pos} {e:Expr} {es:List Expr} {t:TA} {id T:String} {r:List V->Hp->VK->Prop}
def zx (r:List V->Hp->VK->Prop) (t:TA):TE:=fun σ H Q=>t σ H fun vs H1=>r vs H1 Q
theorem FK (hc:CallR X (.builtin id) r) (hg:Gl X x) (hm:X.mg x=none) (hv:bootBuiltins x=some (.builtin id)) (ha:PA X (e::es) t) (hn:x ≠ "__name__":=by decide) (hdb:(x==("__debug__":Str))=false:=by decide)
  (he:starEach (e::es) X.env=(false,eval e X.env)::starEach es X.env:=by rfl) (hpl:(backTo pos (starEach es X.env)).any (·.1)=false:=by rfl):PE X (.Call (.Name x p) (e::es) [] pos) (zx r t):=by
 intro pins s σ H Q I h;refine wpAny_Call_Name_kw (wu I hg hm hv ?_ hn hdb)
 exact PyProof.Rows.callWith_builtin1 (bw (ha pos pins s σ H _ I h) fun us s1 ⟨vs,H1,I1,r1,q1⟩=>hc pins s1 σ H1 vs us Q I1 r1 q1) he hpl
theorem jQ (hc:CallR X (.type T) r) (hg:Gl X x) (hm:X.mg x=none) (hv:bootBuiltins x=some (.type T)) (ha:PA X (e::es) t) (hn:x ≠ "__name__":=by decide) (hdb:(x==("__debug__":Str))=false:=by decide)
  (he:starEach (e::es) X.env=(false,eval e X.env)::starEach es X.env:=by rfl) (hpl:(backTo pos (starEach es X.env)).any (·.1)=false:=by rfl):PE X (.Call (.Name x p) (e::es) [] pos) (zx r t):=by
 intro pins s σ H Q I h;refine wpAny_Call_Name_kw (wu I hg hm hv ?_ hn hdb)
 exact PyProof.Rows.callWith_type1 (bw (ha pos pins s σ H _ I h) fun us s1 ⟨vs,H1,I1,r1,q1⟩=>hc pins s1 σ H1 vs us Q I1 r1 q1) he hpl
end
end L2
namespace HT
open PySem PyProof.Rows
section
open PySem.SeqAt
open PySem.AutoSeq1 (wpAny_loadPart')
open PySem.MeetsSeq PySem.MeetsSeq2 PySem.MeetsSeq3
end
section
variable {prog:Program} {w:World} {A:Around} {E:Value->Shared->Prop} {s:Shared}
def sIx (n d:Nat):Option Int->Nat
 | none=>d
 | some v=>if v<0 then (v+(n:Int)).toNat else min v.toNat n
theorem sIx_none (n d:Nat):sIx n d none=d:=rfl
theorem sIx_nat (n d k:Nat):sIx n d (some (k:Int))=min k n:=by
 show (if (k:Int)<0 then ((k:Int)+(n:Int)).toNat else min (k:Int).toNat n)=min k n
 rw [if_neg (by omega),Int.toNat_natCast]
theorem AE (n d:Nat) (hd:d<=n) (o:Option Int):sIx n d o<=n:=by
 cases o with
 | none=>exact hd
 | some v=>
  show (if v<0 then (v+(n:Int)).toNat else min v.toNat n)<=n
  by_cases hv:v<0
  ·rw [if_pos hv];omega
  ·rw [if_neg hv];exact Nat.min_le_right _ _
theorem qm (v:Int) (n d:Nat):(if v<0 then max (v+(n:Int)) 0 else min v (n:Int))=((sIx n d (some v):Nat):Int):=by
 show (if v<0 then max (v+(n:Int)) 0 else min v (n:Int))=(((if v<0 then (v+(n:Int)).toNat else min v.toNat n):Nat):Int)
 by_cases hv:v<0
 ·simp only [if_pos hv];omega
 ·simp only [if_neg hv];omega
theorem o5 (lo hi:Option Int) (n:Nat):Builtin.Slice.sliceAdjust lo hi 1 (n:Int)=(((sIx n 0 lo:Nat):Int),((sIx n n hi:Nat):Int)):=by
 have h1:¬((1:Int)<0):=by omega
 unfold Builtin.Slice.sliceAdjust;simp only [h1,if_false]
 refine Prod.ext ?_ ?_
 ·cases lo with
  | none=>rfl
  | some v=>exact qm v n 0
 ·cases hi with
  | none=>rfl
  | some v=>exact qm v n n
theorem og (i j:Nat):Builtin.Slice.slicePlaces (i:Int) (j:Int) 1=j-i:=by
 unfold Builtin.Slice.slicePlaces;have h1:(1:Int)>0:=by omega
 simp only [h1,if_true,Int.ediv_one]
 split<;>omega
theorem iB {v:Value} {o:Option Int} {Q:Option Int->Shared->Prop} (p:IsPart v o) (h:Q o s):wpAny (model prog w) A (Builtin.Slice.slicePartIndex v) Q E s:=by
 cases p with
 | none=>exact slicePart_none h
 | int i t=>exact slicePart_int h
theorem gp {sl:Addr} {vl vu:Value} {lo hi:Option Int} {n:Nat} {Q:Int×Int×Nat->Shared->Prop} (hs:s.heap.IsSliceOf sl vl vu .none) (pl:IsPart vl lo) (pu:IsPart vu hi)
  (h:Q (((sIx n 0 lo:Nat):Int),1,sIx n n hi-sIx n 0 lo) s):wpAny (model prog w) A (Builtin.Slice.sliceApplied (.ref sl) (pure (n:Int))) Q E s:=by
 obtain ⟨os,hos,hcs,hds⟩:=id hs;unfold Builtin.Slice.sliceApplied Builtin.Slice.sliceFields;refine wpAny_bind (wpAny_bind (wpAny_field hos hds (x:=vl) rfl (wpAny_bind (wpAny_field hos hds (x:=vu) rfl (wpAny_bind (wpAny_field hos hds (x:=.none) rfl (wpAny_pure ?_)))))))
 refine wpAny_bind (slicePart_none ?_)
 show wpAny _ _ (if ((1:Int)==0)=true then _ else _) _ _ s
 rw [if_neg (by decide)]
 refine wpAny_bind (iB pl (wpAny_bind (iB pu (wpAny_bind (wpAny_pure ?_)))))
 show wpAny _ _ (match Builtin.Slice.sliceAdjust lo hi 1 (n:Int) with | (lo,hi)=>pure (lo,(1:Int),Builtin.Slice.slicePlaces lo hi 1)) _ _ s
 rw [o5 lo hi n];show wpAny _ _ (pure (((sIx n 0 lo:Nat):Int),(1:Int),Builtin.Slice.slicePlaces ((sIx n 0 lo:Nat):Int) ((sIx n n hi:Nat):Int) 1)) _ _ s
 rw [og];exact wpAny_pure h
theorem uM (xs:Array Value) (i k:Nat):((List.range k).filterMap fun (m:Nat)=>xs[((i:Int)+(m:Int)*1).toNat]?).toArray=((xs.toList.drop i).take k).toArray:=by
 have e:(fun (m:Nat)=>xs[((i:Int)+(m:Int)*1).toNat]?)=fun m=>xs[i+m]?:=by
  funext m
  have:((i:Int)+(m:Int)*1).toNat=i+m:=by omega
  rw [this]
 rw [e];have:=pick_run xs i k
 rw [List.filterMap_map] at this;have e2:((fun x=>xs[x]?)∘fun x=>i+x)=fun m=>xs[i+m]?:=rfl
 rw [e2] at this;rw [this]
theorem getItem_tuple_cut {t sl:Addr} {items:Array Value} {vl vu:Value} {lo hi:Option Int} {Q:Value->Shared->Prop} (ht:IsTup s.heap t items) (hs:s.heap.IsSliceOf sl vl vu .none) (pl:IsPart vl lo) (pu:IsPart vu hi)
  (hw:¬(sIx items.size 0 lo=0/\sIx items.size items.size hi=items.size))
  (h:Q (.ref s.heap.objs.size) { s with heap:=s.heap.push { cls:=.type "tuple",data:=.seq ((items.toList.drop (sIx items.size 0 lo)).take (sIx items.size items.size hi-sIx items.size 0 lo)).toArray } })
  (hsz:items.size<=sizeLine):wpAny (model prog w) A (getItem (.ref t) (.ref sl)) Q E s:=by
 have htake:sizeOk (.seq ((items.toList.drop (sIx items.size 0 lo)).take (sIx items.size items.size hi-sIx items.size 0 lo)).toArray):=by
  show ((items.toList.drop (sIx items.size 0 lo)).take (sIx items.size items.size hi-sIx items.size 0 lo)).toArray.size<=sizeLine
  rw [size_toArray,length_take,length_drop,Array.length_toList];omega
 have hj:sIx items.size items.size hi<=items.size:=AE _ _ (Nat.le_refl _) hi
 obtain ⟨os,hos,hcs,hds⟩:=id hs;have hTs:s.TypeIs (.ref sl) "slice":=⟨os,hos,hcs⟩
 unfold getItem;try with_reducible refine wpAny_holding ?_
 first | refine wpAny_bind (wpAny_pure ?_) | skip
 refine wpAny_bind (wpAny_sequenceKey ht.typeIs (by decide) ?_)
 refine wpAny_bind (wpAny_callSpecial?_slot (name:=Str.ofString "__getitem__") ht.typeIs PyProof.Rows.slot_tuple_getitem
  (wpAny_call_entry PyProof.Rows.slot_tuple_getitem ht.typeIs entry_tuple_getitem ?_ (args_tuple_getitem _ _)))
 show wpAny _ _ (Builtin.Tuple.tupleItemsOf (.ref t) >>= _) _ _ s
 refine wpAny_bind (tupleItemsOf_ ht ?_)
 refine wpAny_bind (wpAny_typeOf hTs ?_)
 rw [if_pos (by decide)]
 refine wpAny_bind (gp hs pl pu ?_)
 have hno:¬((((sIx items.size 0 lo:Nat):Int)==0&&(1:Int)==1&&(sIx items.size items.size hi-sIx items.size 0 lo)==items.size)=true):=by
  intro q;rw [Bool.and_eq_true,Bool.and_eq_true] at q;have q1:((sIx items.size 0 lo:Nat):Int)=0:=eq_of_beq q.1.1
  have q2:sIx items.size items.size hi-sIx items.size 0 lo=items.size:=eq_of_beq q.2
  exact hw ⟨by omega,by omega⟩
 show wpAny _ _ (if (((sIx items.size 0 lo:Nat):Int)==0&&(1:Int)==1&&(sIx items.size items.size hi-sIx items.size 0 lo)==items.size)=true then _ else _) _ _ s
 rw [if_neg hno,uM];first
  | exact wpAny_bind (m:=Builtin.Tuple.tupleExact _) (wpAny_newObj_type (wpAny_pure ⟨_,rfl,wpAny_pure h⟩) htake)
  | exact wpAny_bind (m:=Builtin.Tuple.tupleExact _) (wpAny_newObj_type (wpAny_bind (wpAny_pure (wpAny_pure ⟨_,rfl,wpAny_pure h⟩))) htake)
  | exact wpAny_bind (wpAny_bind (m:=Builtin.Tuple.tupleExact _) (wpAny_newObj_type (wpAny_pure (wpAny_pure ⟨_,rfl,wpAny_pure h⟩)) htake))
  | exact wpAny_bind (wpAny_bind (m:=Builtin.Tuple.tupleExact _) (wpAny_newObj_type (wpAny_pure ⟨_,rfl,wpAny_pure h⟩) htake))
end
end HT
namespace L2
open PySem PySem.Spec PyProof.Rows
abbrev TO:=St->Hp->(Option Int->Hp->Prop)->Prop
def PO (X:Cx) (e:Option Expr) (t:TO):Prop:=
 ∀(pins:List (Addr×Obj)) (s:Shared) (σ:St) (H:Hp) (Q:Option Int->Hp->Prop),Inv X pins σ H s->t σ H Q ->
  wpAny (model X.prog X.w) X.A (evalPart e X.env) (fun u s'=>∃o H',Inv X pins σ H' s'/\IsPart u o/\Q o H') X.xe s
def pz:TO:=fun _ H Q=>Q none H
def zt (t:TE):TO:=fun σ H Q=>t σ H fun x H1=>∃i,x=.int i/\Q (some i) H1
section
variable {X:Cx} {e:Expr} {te:TE} {lo hi:Option Expr} {tl th:TO} {pos p2:Pos}
theorem G4:PO X none pz:=by
 intro pins s σ H Q I h;rw [evalPart_none];exact wpAny_pure ⟨none,H,I,.none,h⟩
theorem G5 (h:PE X e te):PO X (some e) (zt te):=by
 intro pins s σ H Q I hw;rw [evalPart_some];refine bw (h pins s σ H _ I hw) fun u s1 ⟨x,H1,I1,r1,q1⟩=>?_
 obtain ⟨i,rfl,q⟩:=q1;obtain ⟨t,rfl⟩:=r1;exact ⟨some i,H1,I1,.int i t,q⟩
def JF (X:Cx) (r:V->Option Int->Option Int->Hp->VK->Prop):Prop:=
 ∀(pins:List (Addr×Obj)) (s:Shared) (σ:St) (H:Hp) (x:V) (v vl vu:Value) (lo hi:Option Int) (sl:Addr) (Q:VK),Inv X pins σ H s->RelV x v->s.heap.IsSliceOf sl vl vu .none->IsPart vl lo->IsPart vu hi->r x lo hi H Q ->
  ∃T id,typeLookup (.type T) "__getitem__"=pure (some (.builtin id))/\s.TypeIs v T/\wpAny (model X.prog X.w) X.A (getItem v (.ref sl)) (EP X pins σ Q) X.xe s
def JU (r:V->Option Int->Option Int->Hp->VK->Prop) (te:TE) (tl th:TO):TE:=fun σ H Q=>te σ H fun x H1=>tl σ H1 fun l H2=>th σ H2 fun u H3=>r x l u H3 Q
theorem Hv {r:V->Option Int->Option Int->Hp->VK->Prop} (hr:JF X r) (he:PE X e te) (hl:PO X lo tl) (hu:PO X hi th):PE X (.Subscript e (.Slice lo hi none p2) pos) (JU r te tl th):=by
 intro pins s σ H Q I h;refine Subscript_ (bw (he pins s σ H _ I h) fun v s1 ⟨x,H1,I1,r1,q1⟩=>?_)
 refine wpAny_Slice (bw (hl pins s1 σ H1 _ I1 q1) fun vl s2 ⟨l,H2,I2,pl,q2⟩=>bw (hu pins s2 σ H2 _ I2 q2) fun vu s3 ⟨u,H3,I3,pu,q3⟩=>?_)
 rw [evalPart_none];refine wpAny_pure ?_
 have I4:Inv X pins σ H3 { s3 with heap:=s3.heap.push { cls:=.type "slice",data:=.fields #[vl,vu,.none] } }:=I3.kept (t':=s3.toks) fun b ob q=>Heap.get?_push_of_some _ q
 obtain ⟨T,id,hT,ht,hg⟩:=hr pins { s3 with heap:=s3.heap.push { cls:=.type "slice",data:=.fields #[vl,vu,.none] } } σ H3 x v vl vu l u s3.heap.objs.size Q I4 r1 (Heap.IsSliceOf.new ..) pl pu q3
 show wpAny (model X.prog X.w) X.A (subscriptTail e (.Slice lo hi none p2) v (.ref s3.heap.objs.size)) (EP X pins σ Q) X.xe { s3 with heap:=s3.heap.push { cls:=.type "slice",data:=.fields #[vl,vu,.none] } }
 exact tail_any (ops:=[.ref s3.heap.objs.size,v]) ht hT hg (by with_unfolding_all rfl)
def jE (xs:List V) (lo hi:Option Int):List V:=(xs.drop (HT.sIx xs.length 0 lo)).take (HT.sIx xs.length xs.length hi-HT.sIx xs.length 0 lo)
theorem gT (xs:List V) (lo hi:Option Int):(jE xs lo hi).length<=xs.length:=by
 unfold jE;rw [length_take,length_drop];omega
def Bh (K:Fg):V->Option Int->Option Int->Hp->VK->Prop:=fun x lo hi H Q=>∃a xs,x=.ref a/\SqT K H a xs /\
 ¬(HT.sIx xs.length 0 lo=0/\HT.sIx xs.length xs.length hi=xs.length)/\∀p,H p=none->Q (.ref p) (bx H p (.tup (jE xs lo hi)))
theorem Ay:JF X (Bh X.K):=by
 intro pins s σ H x v vl vu lo hi sl Q I rx hs pl pu h;obtain ⟨a,xs,rfl,hx,hw,q⟩:=h
 cases rx;obtain ⟨its,r,ht,hz⟩:=I.tuple hx;have hlen:its.toArray.size=xs.length:=by rw [size_toArray];exact r.length.symm
 refine ⟨"tuple",_,PyProof.Rows.slot_tuple_getitem.lookup,ht.typeIs,?_⟩
 refine HT.getItem_tuple_cut ht hs pl pu (by rw [hlen];exact hw) ?_ (by rw [hlen];exact hz)
 rw [hlen];refine ⟨.ref s.heap.objs.size,_,I.laid (t':=s.toks) (o:=.tup (jE xs lo hi)) (fun b ob q=>Heap.get?_push_of_some _ q) (Nat.le_refl _) ?_,rfl,q _ (I.hok.fresh (Nat.le_refl _))⟩
 exact ⟨Nat.le_trans (gT xs lo hi) hz,_,(r.drop (HT.sIx xs.length 0 lo)).take (HT.sIx xs.length xs.length hi-HT.sIx xs.length 0 lo),IsTup.new _ _⟩
end
def eC (n:Nat) (i:Int):Option Nat:=if 0<=i then (if i<n then some i.toNat else none) else if -(n:Int)<=i then some (i+n).toNat else none
def eF {α:Type} (xs:List α) (i:Int):Option α:=(eC xs.length i).bind fun j=>xs[j]?
theorem qb {n:Nat} {i:Int} {j:Nat} (h:eC n i=some j):seqIndex? i n=some j/\j<n/\-(n:Int)<=i/\i<n:=by
 unfold eC at h;by_cases h0:0<=i
 ·rw [if_pos h0] at h
  by_cases h1:i<n
  ·rw [if_pos h1] at h
   have e:i.toNat=j:=Option.some.inj h
   exact ⟨by rw [seqIndex_of h0 h1,e],by omega,by omega,h1⟩
  ·rw [if_neg h1] at h;cases h
 ·rw [if_neg h0] at h
  by_cases h1:-(n:Int)<=i
  ·rw [if_pos h1] at h
   have e:(i+n).toNat=j:=Option.some.inj h
   exact ⟨by rw [seqIndex_neg (by omega) h1,e],by omega,h1,by omega⟩
  ·rw [if_neg h1] at h;cases h
theorem GM {α:Type} {xs:List α} {i:Int} {v:α} (h:eF xs i=some v):∃j,seqIndex? i xs.length=some j/\xs[j]?=some v/\j<xs.length/\-(xs.length:Int)<=i/\i<xs.length:=by
 unfold eF at h
 cases e:eC xs.length i with
 | none=>rw [e] at h;cases h
 | some j=>
  rw [e] at h;obtain ⟨h1,h2,h3,h4⟩:=qb e;exact ⟨j,h1,h,h2,h3,h4⟩
def Dq (b:Expr):Prop:=∀o i,subscripted b false o i=operate [o,i] (getItem o i)
def IxR (X:Cx) (r:R2):Prop:=
 ∀(value slice:Expr) (pins:List (Addr×Obj)) (s:Shared) (σ:St) (H:Hp) (x y:V) (v u:Value) (Q:VK),Inv X pins σ H s->RelV x v->RelV y u->r x y H Q ->
  subscripted slice false v u=operate [v,u] (getItem v u)->wpAny (model X.prog X.w) X.A (subscriptTail value slice v u) (EP X pins σ Q) X.xe s
def GA (X:Cx) (id:String) (r:V->List V->Hp->VK->Prop):Prop:=
 ∀(pins:List (Addr×Obj)) (s:Shared) (σ:St) (H:Hp) (x:V) (xs:List V) (v:Value) (us:List Value) (Q:VK),Inv X pins σ H s->RelV x v->Vals xs us->r x xs H Q ->
  wpAny (model X.prog X.w) X.A (call (.builtin id) (v::us)) (EP X pins σ Q) X.xe s
section
variable {X:Cx} {a b:Expr} {ta tb:TE} {pos:Pos}
theorem IxR.or {r r':R2} (h:IxR X r) (h':IxR X r'):IxR X (fun x y H Q=>r x y H Q\/r' x y H Q):=by
 intro value slice pins s σ H x y v u Q I rx ry q hs;rcases q with q | q
 ·exact h value slice pins s σ H x y v u Q I rx ry q hs
 ·exact h' value slice pins s σ H x y v u Q I rx ry q hs
theorem pU {r:R2} (hr:IxR X r) (ha:PE X a ta) (hb:PE X b tb) (hs:Dq b):PE X (.Subscript a b pos) (wI r ta tb):=by
 intro pins s σ H Q I h;exact Subscript_ (CL ha hb I h fun v u s2 x y H2 I2 rx ry q=>hr a b pins s2 σ H2 x y v u Q I2 rx ry q (hs _ _))
def D6 (K:Fg):R2:=fun x y H Q=>∃p xs i v,x=.ref p/\y=.int i/\SqL K H p xs/\eF xs i=some v/\Q v H
def D4 (K:Fg):R2:=fun x y H Q=>∃p xs i v,x=.ref p/\y=.int i/\SqT K H p xs/\eF xs i=some v/\Q v H
def D5:R2:=fun x y H Q=>∃z i c,x=.str z/\y=.int i/\z.length<=sizeLine/\eF z.cps.toList i=some c/\Q (.str ⟨#[c]⟩) H
theorem ix_list:IxR X (D6 X.K):=by
 intro value slice pins s σ H x y v u Q I rx ry h hs;obtain ⟨p,xs,i,z,rfl,rfl,hq,he,q⟩:=h
 cases rx;obtain ⟨t,rfl⟩:=ry;obtain ⟨its,r,pl,hz⟩:=I.list hq;obtain ⟨j,h1,h2,h3,h4,h5⟩:=GM he;obtain ⟨w,ew,rw'⟩:=r.get h2;have hl:=r.length
 have hn:=zb
 have fin:EP X pins σ Q w s:=⟨z,H,I,rw',q⟩
 by_cases h0:0<=i
 ·have hj:i.toNat=j:=by
   rw [seqIndex_of h0 h5] at h1;exact Option.some.inj h1
  exact item_listR pl.isList h0 (by omega) (by rw [hj];simpa using ew) fin hs
 ·have hj:(i+(its.toArray.size:Int)).toNat=j:=by
   rw [seqIndex_neg (by omega) h4] at h1
   rw [size_toArray,<-hl];exact Option.some.inj h1
  exact subscriptTail_builtinR (x:=w) pl.isList.typeIs slot_list_getitem.lookup
   (wpAny_getItem_list_neg (Q:=fun r s'=>r=w/\EP X pins σ Q r s') pl.isList (by omega) (by rw [size_toArray]<;>omega) (by omega) (by rw [hj];simpa using ew) ⟨rfl,fin⟩) hs
theorem ix_tup:IxR X (D4 X.K):=by
 intro value slice pins s σ H x y v u Q I rx ry h hs;obtain ⟨p,xs,i,z,rfl,rfl,hq,he,q⟩:=h
 cases rx;obtain ⟨t,rfl⟩:=ry;obtain ⟨its,r,pl,hz⟩:=I.tuple hq;obtain ⟨j,h1,h2,h3,h4,h5⟩:=GM he;obtain ⟨w,ew,rw'⟩:=r.get h2;have hl:=r.length
 have hn:=zb
 have fin:EP X pins σ Q w s:=⟨z,H,I,rw',q⟩
 exact subscriptTail_builtinR (x:=w) pl.typeIs slot_tuple_getitem.lookup
  (getItem_tuple (j:=j) (Q:=fun r s'=>r=w/\EP X pins σ Q r s') pl (by omega) (by omega) (by rw [size_toArray,<-hl];exact h1) (by simpa using ew) ⟨rfl,fin⟩) hs
theorem B8:IxR X D5:=by
 intro value slice pins s σ H x y v u Q I rx ry h hs;obtain ⟨z,i,c,rfl,rfl,hz,he,q⟩:=h;obtain ⟨t,rfl⟩:=rx;obtain ⟨t',rfl⟩:=ry;obtain ⟨j,h1,h2,h3,h4,h5⟩:=GM he;have hl:z.cps.toList.length=z.length:=by simp [Str.length]
 rw [hl] at h1 h4 h5
 have hn:=zb
 exact tail_any (typeIs_str s z t) slot_str_getitem.lookup (getItem_str (c:=c) (by
  have e1:decide (i < -(2 ^ 63:Int))=false:=decide_eq_false (by omega)
  have e2:decide (i≥2 ^ 63)=false:=decide_eq_false (by omega)
  rw [e1,e2,Bool.or_false]) (by rw [h1];simpa using h2) ⟨.str ⟨#[c]⟩,H,I.tok _,⟨_,rfl⟩,q⟩) hs
def Bk (K:Fg):R2:=fun x y H Q=>D6 K x y H Q\/D4 K x y H Q\/D5 x y H Q
theorem Fd:IxR X (Bk X.K):=ix_list.or (ix_tup.or B8)
theorem oz (its:List Value) (n j:Nat) (u:Value):Obj.mapSeq (·.setIfInBounds j u) { cls:=.type "list",data:=.seq its.toArray n }={ cls:=.type "list",data:=.seq (its.set j u).toArray n }:=by
 simp [Obj.mapSeq]
theorem Inv.lst {pins:List (Addr×Obj)} {σ:St} {H:Hp} {s:Shared} {p:Addr} {xs:List V} (I:Inv X pins σ H s) (h:H p=some (.lst xs)) :
  ∃(its:List Value) (n:Nat),Vals xs its/\s.heap.get? p=some { cls:=.type "list",data:=.seq its.toArray n }/\xs.length<=sizeLine:=by
 obtain ⟨z,its,n,r,e⟩:=I.hok p _ h;exact ⟨its,n,r,e,z⟩
theorem Inv.lstUpd {pins:List (Addr×Obj)} {σ:St} {H:Hp} {s:Shared} {p:Addr} {xs ys:List V} {its its':List Value} {n n':Nat} {f:Obj->Obj} (I:Inv X pins σ H s) (h:H p=some (.lst xs))
  (ho:s.heap.get? p=some { cls:=.type "list",data:=.seq its.toArray n }) (hf:f { cls:=.type "list",data:=.seq its.toArray n }={ cls:=.type "list",data:=.seq its'.toArray n' }) (r:Vals ys its') (hz:ys.length<=sizeLine) (t:Nat) :
  Inv X pins σ (bx H p (.lst ys)) { s with heap:=s.heap.update p f,toks:=t }:=by
 have e:(s.heap.update p f).get? p=some { cls:=.type "list",data:=.seq its'.toArray n' }:=by
  rw [Heap.get?_update_self f ho (by rw [hf]<;>rfl),hf]
 refine I.write (x:=p) (e:=p) (by rw [h];trivial) (.inl rfl) (fun b u hb q=>(Heap.get?_update_other _ _ (Ne.symm hb)).trans q) ⟨_,e⟩ ?_
 exact ⟨hz,its',n',r,e⟩
def uB:V->V->V->Hp->(Hp->Prop)->Prop:=fun o i v H Q=>∃p xs k j,o=.ref p/\i=.int k/\H p=some (.lst xs)/\eC xs.length k=some j/\Q (bx H p (.lst (xs.set j v)))
theorem ua:EV X uB:=by
 intro pins s σ H o i v ov iv u Q I ro ri rv h;obtain ⟨p,xs,k,j,rfl,rfl,hp,hj,q⟩:=h
 cases ro;obtain ⟨t,rfl⟩:=ri;obtain ⟨its,n,r,ho,hz⟩:=I.lst hp;obtain ⟨h1,h2,h3,h4⟩:=qb hj;have hl:=r.length
 have hn:=zb
 have I':Inv X pins σ (bx H p (.lst (xs.set j v))) { s with heap:=s.heap.update p (Obj.mapSeq (·.setIfInBounds j u)) }:=
  I.lstUpd hp ho (oz its n j u) (r.set rv j) (by rw [length_set];exact hz) s.toks
 by_cases h0:0<=k
 ·have hk:k.toNat=j:=by
   rw [seqIndex_of h0 h4] at h1;exact Option.some.inj h1
  exact PySem.W.ki_setAt ho h0 (by omega) (by rw [size_toArray,<-hl];exact h4) (by rw [hk];exact ⟨_,I',q⟩)
 ·have hk:(k+(its.toArray.size:Int)).toNat=j:=by
   rw [seqIndex_neg (by omega) h3] at h1
   rw [size_toArray,<-hl];exact Option.some.inj h1
  exact PySem.W.ki_setBack ho (by omega) (by rw [size_toArray,<-hl];exact h3) (by omega) (by rw [hk];exact ⟨_,I',q⟩)
theorem ki (lo hi:Option Int) (n:Nat):(sliceBounds lo hi none n).1=((HT.sIx n 0 lo:Nat):Int)/\(sliceBounds lo hi none n).2.1=((HT.sIx n n hi:Nat):Int)/\(sliceBounds lo hi none n).2.2=1:=by
 refine ⟨?_,?_,rfl⟩
 ·cases lo with
  | none=>simp [sliceBounds,HT.sIx]
  | some i=>
   simp only [sliceBounds,HT.sIx,Option.getD_none,show (1:Int)>0 by decide,if_true]
   by_cases h:i<0
   ·simp only [h,if_true]<;>omega
   ·simp only [h,if_false]<;>omega
 ·cases hi with
  | none=>simp [sliceBounds,HT.sIx]
  | some i=>
   simp only [sliceBounds,HT.sIx,Option.getD_none,show (1:Int)>0 by decide,if_true]
   by_cases h:i<0
   ·simp only [h,if_true]<;>omega
   ·simp only [h,if_false]<;>omega
theorem jl (its:List Value) (lo hi:Option Int):slicePick its.toArray lo hi none=((its.drop (HT.sIx its.length 0 lo)).take (HT.sIx its.length its.length hi-HT.sIx its.length 0 lo)).toArray:=by
 obtain ⟨h1,h2,h3⟩:=ki lo hi its.toArray.size;unfold slicePick;rw [h1,h2,h3];simp only [sliceRange_one,pick_run,size_toArray]<;>rfl
def Bi (K:Fg):V->Option Int->Option Int->Hp->VK->Prop:=fun x lo hi H Q=>∃a xs,x=.ref a/\SqL K H a xs/\∀p,H p=none->Q (.ref p) (bx H p (.lst (jE xs lo hi)))
theorem pD:JF X (Bi X.K):=by
 intro pins s σ H x v vl vu lo hi sl Q I rx hs pl pu h;obtain ⟨a,xs,rfl,hx,q⟩:=h
 cases rx;obtain ⟨its,r,ht,hz⟩:=I.list hx;have hlen:=r.length
 refine ⟨"list",_,slot_list_getitem.lookup,ht.isList.typeIs,?_⟩
 refine wpAny_getItem_list_slice ht.isList hs pl pu .none (by simp) ?_ (by rw [size_toArray]<;>omega)
 rw [jl,<-hlen];refine ⟨.ref s.heap.objs.size,_,I.laid (t':=s.toks) (o:=.lst (jE xs lo hi)) (fun b ob q=>Heap.get?_push_of_some _ q) (Nat.le_refl _) ?_,rfl,q _ (I.hok.fresh (Nat.le_refl _))⟩
 exact ⟨Nat.le_trans (gT xs lo hi) hz,_,0,(r.drop (HT.sIx xs.length 0 lo)).take (HT.sIx xs.length xs.length hi-HT.sIx xs.length 0 lo),Heap.get?_push_size _ rfl⟩
theorem call_len_seq:CallR X (.builtin "len") (fun xs H Q=>∃p ys,xs=[.ref p]/\(SqL X.K H p ys\/SqT X.K H p ys)/\Q (.int ys.length) H):=by
 intro pins s σ H xs us Q I r h;obtain ⟨p,ys,rfl,hq,q⟩:=h;obtain ⟨u,rfl,rx⟩:=vals1 r
 cases rx;have hn:=zb
 rcases hq with hq | hq
 ·obtain ⟨its,r',pl,hz⟩:=I.list hq
  have hlen:=r'.length
  exact Calls.call_len_list pl.isList (by simp only [size_toArray]<;>omega) ⟨.int ys.length,H,I.tok _,⟨s.toks+1,by rw [size_toArray,hlen]⟩,q⟩
 ·obtain ⟨its,r',pl,hz⟩:=I.tuple hq
  have hlen:=r'.length
  exact len_tuple pl (by simp only [size_toArray]<;>omega) ⟨.int ys.length,H,I.tok _,⟨s.toks+1,by rw [size_toArray,hlen]⟩,q⟩
theorem kQ:CallR X (.builtin "len") (fun xs H Q=>∃z,xs=[.str z]/\z.length<=sizeLine/\Q (.int z.length) H):=by
 intro pins s σ H xs us Q I r h;obtain ⟨z,rfl,hz,q⟩:=h;obtain ⟨u,rfl,t,rfl⟩:=vals1 r;have hn:=zb
 exact len_str (by omega) ⟨.int z.length,H,I.tok _,⟨_,rfl⟩,q⟩
theorem CallR.or {f:Value} {r r':List V->Hp->VK->Prop} (h:CallR X f r) (h':CallR X f r'):CallR X f (fun xs H Q=>r xs H Q\/r' xs H Q):=by
 intro pins s σ H xs us Q I rs q;rcases q with q | q
 ·exact h pins s σ H xs us Q I rs q
 ·exact h' pins s σ H xs us Q I rs q
theorem kP:CallR X (.type "list") (fun xs H Q=>∃p ys,xs=[.ref p]/\(SqL X.K H p ys\/SqT X.K H p ys)/\∀l,H l=none->Q (.ref l) (bx H l (.lst ys))):=by
 intro pins s σ H xs us Q I r h;obtain ⟨p,ys,rfl,hq,q⟩:=h;obtain ⟨u,rfl,rx⟩:=vals1 r
 cases rx;have fin:∀(its:List Value),Vals ys its->ys.length<=sizeLine->∀(h':Heap) (c':Nat),(∀b o',s.heap.get? b=some o'->h'.get? b=some o') ->
   h'.get? s.heap.objs.size=some { cls:=.type "list",dict:=none,data:=.seq its.toArray c',slots:=#[] }->EP X pins σ Q (.ref s.heap.objs.size) { s with heap:=h' }:=fun its r' hz h' c' kp e=>
  ⟨.ref s.heap.objs.size,_,I.laid (t':=s.toks) kp (Nat.le_refl _) (show ObjOk X.prog X.w _ h' _ (.lst ys) from ⟨hz,its,c',r',e⟩),rfl,q _ (I.hok.fresh (Nat.le_refl _))⟩
 rcases hq with hq | hq
 ·obtain ⟨its,r',pl,hz⟩:=I.list hq
  have hlen:=r'.length
  obtain ⟨o,ho,hc,n,hd⟩:=pl.isList;exact call_list_seq p (.inl rfl) ho hc hd (fun h' c' kp e=>fin its r' hz h' c' kp e) (by simp only [size_toArray]<;>omega)
 ·obtain ⟨its,r',pl,hz⟩:=I.tuple hq
  have hlen:=r'.length
  obtain ⟨o,ho,hc,n,hd⟩:=pl;exact call_list_seq p (.inr rfl) ho hc hd (fun h' c' kp e=>fin its r' hz h' c' kp e) (by simp only [size_toArray]<;>omega)
def Iy (K:Fg) (T:String) (x:V) (H:Hp):Prop:=match x with
 | .str _=>T = "str"
 | .int _=>T = "int"
 | .ref p=>(T = "list"/\∃xs,SqL K H p xs)\/(T = "tuple"/\∃o,K.lookup p=some o/\o.cls=.type "tuple"/\o.dict=none) \/
   (T = "dict"/\((∃kvs,H p=some (.dK kvs))\/∃kvs,H p=some (.dT kvs)))\/(T = "set"/\∃S n,H p=some (.set S n))
 | _=>False
theorem tM {pins:List (Addr×Obj)} {σ:St} {H:Hp} {s:Shared} {T:String} {x:V} {v:Value} (I:Inv X pins σ H s) (r:RelV x v) (ty:Iy X.K T x H) :
  s.TypeIs v T/\∀a,v=.ref a->∃ob,s.heap.get? a=some ob/\ob.dict=none:=by
 cases x with
 | str z=>
  obtain ⟨t,rfl⟩:=r
  cases (show T = "str" from ty)
  exact ⟨typeIs_str s z t,fun _ e=>nomatch e⟩
 | int i=>
  obtain ⟨t,rfl⟩:=r
  cases (show T = "int" from ty)
  exact ⟨typeIs_int s i t,fun _ e=>nomatch e⟩
 | ref p=>
  cases r;rcases ty with ⟨rfl,xs,hq⟩ | ⟨rfl,o,hk,hc,hd⟩ | ⟨rfl,hk⟩ | ⟨rfl,S,n,hk⟩
  ·obtain ⟨its,_,pl,_⟩:=I.list hq
   refine ⟨pl.isList.typeIs,fun a e=>?_⟩
   cases e;obtain ⟨o,n,e,c,hd,_⟩:=pl;exact ⟨o,e,hd⟩
  ·refine ⟨⟨o,I.kIn p o hk,hc⟩,fun a e=>?_⟩
   cases e;exact ⟨o,I.kIn _ o hk,hd⟩
  ·have z:∃o,s.heap.get? p=some o/\o.ExactDict:=by
    rcases hk with ⟨kvs,hk⟩ | ⟨kvs,hk⟩
    ·obtain ⟨_,_,_,_,o,_,_,e,ex,_⟩:=I.hok p _ hk
     exact ⟨o,e,ex⟩
    ·obtain ⟨_,_,_,_,o,_,_,e,ex,_⟩:=I.hok p _ hk
     exact ⟨o,e,ex⟩
   obtain ⟨o,e,ex⟩:=z;refine ⟨⟨o,e,ex.1⟩,fun a e2=>?_⟩
   cases e2;exact ⟨o,e,ex.2.1⟩
  ·obtain ⟨o,_,_,_,e,ex,_⟩:=I.hok p _ hk
   refine ⟨⟨o,e,ex.1⟩,fun a e2=>?_⟩
   cases e2;exact ⟨o,e,ex.2.1⟩
 | _=>exact False.elim ty
def DL (K:Fg) (T:String) (r:V->List V->Hp->VK->Prop) (to:TE):TE:=fun σ H Q=>to σ H fun x H1=>Iy K T x H1/\r x [] H1 Q
def Aw (K:Fg) (T:String) (r:V->List V->Hp->VK->Prop) (to:TE) (t:TA):TE:=fun σ H Q=>to σ H fun x H1=>Iy K T x H1/\t σ H1 fun xs H2=>r x xs H2 Q
variable {o e:Expr} {es:List Expr} {to:TE} {t:TA} {name:Str} {apos cpos:Pos} {T id:String} {r:V->List V->Hp->VK->Prop}
theorem BD (pa:PlainAttrs T) (slot:Slot T name id) (hty:typeOf (.builtin id)=pure (.type "method_descriptor")) (hm:GA X id r) (ho:PE X o to)
  (hbase:attributeBase o name X.env (eval o X.env)=eval o X.env:=by rfl) (hline:(apos.endLine==cpos.line)=true:=by rfl):PE X (.Call (.Attribute o name apos) [] [] cpos) (DL X.K T r to):=by
 intro pins s σ H Q I h;refine wpAny_Call_method0_late hbase hline (bw (ho pins s σ H _ I h) fun v s1 ⟨x,H1,I1,r1,ty,q1⟩=>?_)
 obtain ⟨h1,h2⟩:=tM I1 r1 ty;exact ⟨T,id,pa,slot,hty,h1,h2,Calls.callWith_builtin rfl (PySem.evalArgs_none (hm pins s1 σ H1 x [] v [] Q I1 r1 .nil q1))⟩
theorem lX (pa:PlainAttrs T) (slot:Slot T name id) (hty:typeOf (.builtin id)=pure (.type "method_descriptor")) (hm:GA X id r) (ho:PE X o to) (ha:PA X (e::es) t)
  (hbase:attributeBase o name X.env (eval o X.env)=eval o X.env:=by rfl)
  (hfew:((backTo cpos (starEach (e::es) X.env)).all (fun x=>!x.1)&&(backToKw cpos (keywordEach [] X.env)).all (fun x=>x.1.isSome)
   && decide ((e::es).length+([]:List Keyword).length+(if ([]:List Keyword).isEmpty then 0 else 1)<30))=true:=by rfl)
  (hline:(apos.endLine==cpos.line)=true:=by rfl) (hs:starEach (e::es) X.env=(false,eval e X.env)::starEach es X.env:=by rfl) (hplain:(backTo cpos (starEach es X.env)).any (·.1)=false:=by rfl) :
  PE X (.Call (.Attribute o name apos) (e::es) [] cpos) (Aw X.K T r to t):=by
 intro pins s σ H Q I h;refine wpAny_Call_method_late hbase hfew hline rfl (bw (ho pins s σ H _ I h) fun v s1 ⟨x,H1,I1,r1,ty,q1⟩=>?_)
 obtain ⟨h1,h2⟩:=tM I1 r1 ty;refine ⟨T,id,pa,slot,hty,h1,h2,?_⟩
 have hA:=ha cpos pins s1 σ H1 _ I1 q1
 rw [hs] at hA ⊢;refine Calls.callWith_builtin (by show (false||(backTo cpos (starEach es X.env)).any (·.1))=false;rw [hplain]<;>rfl) (Calls.evalArgs_plain ?_)
 exact bw hA fun us s2 ⟨vs,H2,I2,r2,q2⟩=>hm pins s2 σ H2 x vs v us Q I2 r1 r2 q2
end
def JI (X:Cx) (id:String) (r:V->List V->Hp->VK->Prop):Prop:=
 ∀(pins:List (Addr×Obj)) (s:Shared) (σ:St) (H:Hp) (x:V) (xs:List V) (v:Value) (us:List Value) (Q:VK),Inv X pins σ H s->RelV x v->Vals xs us->r x xs H Q ->
  wpAny (model X.prog X.w) X.A (call (.builtin id) (v::us)) (EP X pins σ Q) X.xe s
theorem Vals.one:∀{x:V} {us:List Value},Vals [x] us->∃u,us=[u]/\RelV x u
 | _,_,.cons r .nil=>⟨_,rfl,r⟩
theorem Vals.zero:∀{us:List Value},Vals [] us->us=[]
 | _,.nil=>rfl
theorem Vals.dropLast {xs:List V} {us:List Value} (h:Vals xs us):Vals xs.dropLast us.dropLast:=by
 induction h with
 | nil=>exact .nil
 | cons r t ih=>
  cases t with
  | nil=>exact .nil
  | cons q t'=>exact .cons r ih
theorem oJ {α:Type} (l:List α):l.eraseIdx (l.length-1)=l.dropLast:=by
 induction l with
 | nil=>rfl
 | cons a r ih=>
  cases r with
  | nil=>rfl
  | cons b r=>
   have e:(a::b::r).length-1=((b::r).length-1)+1:=by
    have h1:(a::b::r).length=r.length+2:=rfl
    have h2:(b::r).length=r.length+1:=rfl
    omega
   rw [e,List.eraseIdx_cons_succ,ih];all_goals rfl
section
variable {X:Cx} {pins:List (Addr×Obj)} {σ:St} {H:Hp} {s:Shared} {l b:Addr} {xs ys zs:List V}
theorem Inv.lset {its its':List Value} {n:Nat} {f:Array Value->Array Value} {t':Nat} (I:Inv X pins σ H s) (hH:H l=some (.lst xs))
  (e:s.heap.get? l=some { cls:=.type "list",data:=.seq its.toArray n }) (hf:f its.toArray=its'.toArray) (hv:Vals ys its') (hz:ys.length<=sizeLine) :
  Inv X pins σ (bx H l (.lst ys)) { s with heap:=s.heap.update l (Obj.mapSeq f),toks:=t' }:=by
 have q:=PySem.IsL.update e f
 rw [hf] at q;refine I.write (x:=l) (e:=l) (by rw [hH];exact trivial) (.inl rfl) (fun b' u hb hu=>(Heap.get?_update_other s.heap (Obj.mapSeq f) (Ne.symm hb)).trans hu) ⟨_,q⟩ ?_
 exact ⟨hz,its',_,hv,q⟩
theorem Inv.lnew {its:List Value} {t':Nat} (I:Inv X pins σ H s) (hv:Vals ys its) (hz:ys.length<=sizeLine) :
  Inv X pins σ (bx H s.heap.objs.size (.lst ys)) { s with heap:=s.heap.push { cls:=.type "list",data:=.seq its.toArray },toks:=t' }:=
 I.laid (fun _ _ q=>Heap.get?_push_of_some _ q) (Nat.le_refl _) ⟨hz,its,0,hv,Heap.get?_push_size _ rfl⟩
theorem Inv.fresh (I:Inv X pins σ H s):H s.heap.objs.size=none:=I.hok.fresh (Nat.le_refl _)
theorem Inv.lstM (I:Inv X pins σ H s) (hH:H l=some (.lst xs)):xs.length<=sizeLine/\∃(its:List Value) (n:Nat),Vals xs its/\xs.length=its.length/\s.heap.get? l=some { cls:=.type "list",data:=.seq its.toArray n }:=by
 obtain ⟨z,its,n,r,e⟩:=I.hok l _ hH;exact ⟨z,its,n,r,r.length,e⟩
theorem u5 {n:Nat} (h:n<=sizeLine):Builtin.List.listTooLong n=false:=by
 unfold Builtin.List.listTooLong;exact decide_eq_false (by omega)
end
section
variable {X:Cx}
def Fp:V->List V->Hp->VK->Prop:=fun x vs H Q=>∃l xs y,x=.ref l/\vs=[y]/\H l=some (.lst xs)/\xs.length<sizeLine/\Q .non (bx H l (.lst (xs++[y])))
theorem HS:JI X "list.append" Fp:=by
 intro pins s σ H x vs v us Q I rx rv h;obtain ⟨l,xs,y,rfl,rfl,hH,hz,q⟩:=h
 cases rx;obtain ⟨u,rfl,ru⟩:=rv.one;obtain ⟨z,its,n,r,hl,e⟩:=I.lstM hH;refine call_meets F.slot_list_append ⟨_,e,rfl⟩ F.entry_list_append (F.args_list_append_2 _ _) (PySem.list_append l its.toArray n u (by rw [size_toArray];omega)) ⟨e,?_⟩
 refine ⟨.non,_,I.lset (its':=its++[u]) hH e (by simp) (r.append (.cons ru .nil)) ?_,rfl,q⟩
 rw [length_append,length_singleton];omega
def D2:V->List V->Hp->VK->Prop:=fun x vs H Q=>∃l xs y,x=.ref l/\vs=[]/\H l=some (.lst xs)/\xs[xs.length-1]?=some y/\Q y (bx H l (.lst xs.dropLast))
theorem BV:JI X "list.pop" D2:=by
 intro pins s σ H x vs v us Q I rx rv h;obtain ⟨l,xs,y,rfl,rfl,hH,hy,q⟩:=h
 cases rx;have hus:=rv.zero
 subst hus;obtain ⟨z,its,n,r,hl,e⟩:=I.lstM hH;obtain ⟨u,hu,ru⟩:=r.get hy;have hy':its.toArray[its.toArray.size-1]?=some u:=by
  show its.toArray[its.length-1]?=some u
  rw [<-Array.getElem?_toList,<-hl];exact hu
 refine call_meets F.slot_list_pop ⟨_,e,rfl⟩ F.entry_list_pop (F.args_list_pop_1 _) (MeetsSeq.list_pop_last l its.toArray n u hy' (by rw [size_toArray];omega)) ⟨e,?_⟩
 refine ⟨y,_,I.lset (its':=its.dropLast) hH e ?_ r.dropLast ?_,ru,q⟩
 ·show its.toArray.eraseIdxIfInBounds (its.toArray.size-1)=its.dropLast.toArray
  rw [size_toArray,List.eraseIdxIfInBounds_toArray,oJ]
 ·rw [List.length_dropLast]
  omega
end
section
variable {prog:Program} {w:World} {A:Around} {E:Value->Shared->Prop} {s:Shared}
set_option maxRecDepth 100000 in
end
end L2
namespace Att
open PySem PySem.W PySem.Calls PyProof.Rows
theorem hV {P:Params} {h:Heap}:∀(ns:List Int) (vs:List Value),WellAll P h vs (ns.map WData.int)->IntsAre vs ns:=by
 intro ns;induction ns with
 | nil=>
  intro vs w;rw [map_nil] at w
  cases w;exact .nil
 | cons n ns ih=>
  intro vs w;rw [map_cons] at w
  cases w with
  | cons a b=>
   cases a;exact .cons _ _ (ih _ b)
theorem qJ {l:OpenLaw} {n:Nat} (hn:l.most=some n) {P:Params} {h:Heap} {args:List WData} {vals:List Value}
  (hpre:l.row.toRowW.claim.pre args=true) (hwl:WellAll P h vals args) :
  ∃a vs ns,vals=[Value.ref a]/\args=[WData.list (ns.map WData.int)]/\h.get? a=some { cls:=.type "list",data:=.seq vs.toArray }/\IntsAre vs ns/\ns.length<=n:=by
 have hsh:WShape.hasAll [] args [.list .int]=true:=(pre_splitW hpre).1
 have hc:l.pre.holds [] { args:=args }=true:=(pre_splitW hpre).2
 obtain ⟨d,r,rfl,h1,h2⟩:=hasAllW_cons hsh;obtain rfl:=hasAllW_nil h2
 obtain ⟨xs,rfl,h3⟩:=hasW_list h1;obtain ⟨ns,rfl⟩:=items_int h3;have hlen:ns.length<=n:=by
  unfold OpenLaw.pre at hc;have h4:(WTm.not (.lt (.lit (.int (n:Int))) (.len (.arg 0)))).holds [] { args:=[.list (ns.map .int)] }=true:=by
   have h4:=(holds_andW hc).1
   rw [hn] at h4;exact h4
  have h5:=condW_of h4 (w_not (w_lt w_lit (w_len_list (w_arg rfl))))
  rw [length_map] at h5;refine Nat.le_of_not_lt fun q=>?_
  have q':(n:Int)<((ns.length:Nat):Int):=by omega
  first
   | (rw [decide_eq_true q'] at h5;exact absurd h5 (by decide))
   | (simp at h5;omega)
 cases hwl with
 | cons w1 w2=>
  cases w2
  cases w1 with
  | list ho hall=>exact ⟨_,_,ns,rfl,rfl,ho,hV ns _ hall,hlen⟩
theorem qY (l:OpenLaw) (args:List WData):l.row.toRowW.claim.post args (.bool true) args=true:=
 postW_of (r:=l.row.toRowW) (X:=(true==true))
  (show WShape.has [] (.bool true) .bool=true by first | rfl | decide | simp [WShape.has,WShape.arms,WShape.armsAll])
  (show (WTm.eq .res (.lit (.bool true))).value [] { args:=args,res:=some (.bool true),after:=args }=some (.bool (true==true)) from w_eq_bool (w_res rfl) w_lit) rfl
theorem attach_call {l:OpenLaw} {n:Nat} {q:Program} {loose:List Str} {XP:(Str->Option Value)->Heap->Prop} {YP:World->Heap->Prop} {d:DefRec}
  (hn:l.most=some n) (hdf:d.params.defaults=[])
  (call:∀(w:World) (s₀ s₁:Shared) (mg mb:Str->Option Value) (fa:Addr) (o:Obj) (pm cd doc:Value) (a:Addr) (vs:List Value) (ns:List Int),
   Ground q loose [] XP w s₀ mg mb s₁.heap->YP w s₁.heap ->
   s₁.heap.get? fa=some o->o.data=.func (docDef d.name d.params d.body d.scope pm cd doc)->s₁.heap.CodeRec cd d.name->mg d.name=some (.ref fa) ->
   s₁.heap.get? a=some { cls:=.type "list",data:=.seq vs.toArray }->IntsAre vs ns->ns.length<=n->s₁.gens=#[] ->
   codeAny (model l.prog w) callerA (.call (.ref fa) ⟨[.ref a],[]⟩) (fun r s'=>r=.ok (.ret (.bool true))/\OldK s₁.heap s'.heap/\s'.os=s₁.os/\AllBare s'.gens) s₁) :
  WalkO q loose XP YP l.row.toRowW d [] (fun f vs=>PySem.call f vs):=by
 intro w s₀ s₁ mg mb G Y fa o pm cd doc dV kV ho hd hcd hD hmg hg args vals as hpre hlay hrd hwl hlo;obtain rfl:dV=.none:=Dflts.none hD hdf
 obtain rfl:kV=.none:=Dflts.noKw hD
 obtain ⟨a,vs,ns,rfl,rfl,hobj,hints,hlen⟩:=qJ hn hpre hwl;refine enter_call (codeAny_mono (call w s₀ s₁ mg mb fa o pm cd doc a vs ns G Y ho (fd_plain hd) hcd hmg hobj hints hlen hg) fun r s' hq=>?_)
 obtain ⟨rfl,h2,h3,h4⟩:=hq;exact ⟨.inl ⟨.bool true,.bool true,[],rfl,fun _=>rfl,.bool true,qY l _,fun _=>⟨List.Pairwise.nil,fun _ hm=>(nomatch hm)⟩⟩,h2,h3,h4⟩
end Att
namespace L2
open PySem PySem.Spec PyProof.Rows
theorem jK:∀{vs:List Value} {ns:List Int},IntsAre vs ns->Vals (ns.map V.int) vs
 | _,_,.nil=>.nil
 | _,_,.cons n t h=>.cons ⟨t,rfl⟩ (jK h)
def CU (H:Hp):Prop:=∀b,H b=none\/∃o xs,H b=some (.frz o (.lst xs))
theorem vg {P:Program} {w:World} {K:Fg} {mg mb:Str->Option Value} {CX:wj} {k:Nat} {fa a:Addr} {fd:FuncData} {x:Str} {sp:Sp} {s₁:Shared} {vs:List Value} {ns:List Int}
  (KX:K.In s₁.heap) (hns:s₁.heap.Ns mainGlobals mg) (hb:s₁.heap.Ns builtinsNs mb) (hbb:∀x:Str,x ≠ "__name__"->mb x=bootBuiltins x) (hlim:s₁.heap.NoLimit) (hg:s₁.gens=#[])
  (ha:s₁.heap.get? a=some { cls:=.type "list",data:=.seq vs.toArray }) (hi:IntsAre vs ns) (hl:ns.length<=sizeLine) (hr:Room k callerA)
  (F:∀base:Heap,K.In base->base.Ns mainGlobals mg->eD P w K mg base CX k fa fd [x] sp) (hbind:∀(s:Shared) (u:Value),BindsTo s fd ⟨[u],[]⟩ [(x,u)])
  (hsp:∀H:Hp,CU H->SqL K H a (ns.map V.int)->sp [.ref a] H (fun v _=>v=.bl true) fun _ _ _=>False)
  (hCX:∀H e s',CX [] H s₁ (fun _ _ _=>False) e s'->False) :
  codeAny (model P w) callerA (.call (.ref fa) ⟨[.ref a],[]⟩) (fun r s'=>r=.ok (.ret (.bool true))/\OldK s₁.heap s'.heap/\s'.os=s₁.os/\AllBare s'.gens) s₁:=by
 have rv:=jK hi
 have lenV:=hi.length
 have core:∀H:Hp,CU H->SqL K H a (ns.map V.int)->HOk P w H s₁.heap->(∀b,H b≠none->b=a)->(H a≠none->K.lookup a=none) ->
   codeAny (model P w) callerA (.call (.ref fa) ⟨[.ref a],[]⟩) (fun r s'=>r=.ok (.ret (.bool true))/\OldK s₁.heap s'.heap/\s'.os=s₁.os/\AllBare s'.gens) s₁:=by
  intro H hO hS hok hA hK;have base_of:∀{b:Addr} {o:Obj},s₁.heap.get? b=some o->H b=none->(kE s₁.heap H).get? b=some o:=fun e n=>vq e n
  have noA:∀{b:Addr} {o:Obj} {es:Array DictEntry} {ep:Nat},s₁.heap.get? b=some o->o.data=.dict es ep->H b=none:=fun {b o es ep} e d=>by
   cases q:H b with
   | none=>rfl
   | some u=>
    have e':b=a:=hA b (by rw [q];simp)
    subst e'
    rw [ha] at e;cases e;have d':Data.seq vs.toArray _=Data.dict es ep:=d
    cases d'
  have nsK:∀{b:Addr} {m:Str->Option Value},s₁.heap.Ns b m->(kE s₁.heap H).Ns b m:=fun {b m} ⟨o,es,ep,e,d,r⟩=>⟨o,es,ep,base_of e (noA e d),d,r⟩
  have hKb:K.In (kE s₁.heap H):=fun b o e=>base_of (KX b o e) (by
   cases q:H b with
   | none=>rfl
   | some u=>
    have e':b=a:=hA b (by rw [q];simp)
    subst e'
    rw [hK (by rw [q];simp)] at e;cases e)
  have hM:Mod K mg (kE s₁.heap H):=⟨hKb,nsK hns,⟨mb,nsK hb,hbb⟩,let ⟨mc,h1,h2⟩:=hlim;⟨mc,nsK h1,h2⟩⟩
  have e0:za P w K mg (kE s₁.heap H) callerA [] s₁ H:=⟨rfl,hM,fun b o e=>yc e,Nat.le_of_eq (rT _ _),trivial,fun b hb=>absurd (show b∈([]:List Addr) from hb) (by simp),hok,.of_eq hg⟩
  refine codeAny_mono ((F _ hKb (nsK hns)).run callerA [] s₁ H ⟨[.ref a],[]⟩ [.ref a] [.ref a] _ _ hr e0 (hbind s₁ (.ref a)) (.cons rfl .nil) (hsp H hO hS)) fun r s' h=>?_
  cases r with
  | error e=>exact (hCX H e s' h).elim
  | ok fl=>
   cases fl with
   | next=>exact False.elim h
   | brk=>exact False.elim h
   | cont=>exact False.elim h
   | ret u=>
    obtain ⟨v,H',os,bare,un,hok',r',q⟩:=h;have q':v=.bl true:=q
    subst q'
    obtain rfl:u=Value.bool true:=r'
    refine ⟨rfl,OldK.of_keep fun b o e=>?_,os,bare⟩
    cases q:H b with
    | none=>exact un.keep b o e q (by intro z;exact absurd (show b∈([]:List Addr) from z) (by simp)) (by simp)
    | some u=>
     rcases hO b with z | ⟨ob,xs,z⟩
     ·rw [q] at z;cases z
     ·have z2:=un.frzs b ob _ z
      obtain ⟨e1,_⟩:=hok b _ z;obtain ⟨e2,_⟩:=hok' b _ z2
      rw [e] at e1;cases e1;exact e2
 cases hk:K.lookup a with
 | some o=>
  have e:=KX a o hk
  rw [ha] at e
  cases e;refine core (fun _=>none) (fun _=>.inl rfl) (.inr ⟨_,vs.toArray,_,hk,rfl,rfl,rfl,by rw [size_toArray,lenV];exact hl,by simpa using rv⟩) (fun b u z=>by have z':(none:Option HO)=some u:=z;cases z') (fun b z=>absurd rfl z) fun z=>absurd rfl z
 | none=>
  refine core (fun b=>if b=a then some (.frz { cls:=.type "list",data:=.seq vs.toArray } (.lst (ns.map V.int))) else none) (fun b=>?_) (.inl (.inr ⟨{ cls:=.type "list",data:=.seq vs.toArray },if_pos rfl⟩)) (fun b u z=>?_) (fun b z=>?_) fun _=>hk
  ·by_cases hb:b=a
   ·exact .inr ⟨_,_,if_pos hb⟩
   ·exact .inl (if_neg hb)
  ·by_cases hb:b=a
   ·have z':=(if_pos hb).symm.trans z
    cases z'
    subst hb;exact ⟨ha,by rw [length_map];exact hl,vs,_,rv,ha⟩
   ·have z':=(if_neg hb).symm.trans z
    cases z'
  ·by_cases hb:b=a
   ·exact hb
   ·exact absurd (if_neg hb) z
theorem walk_of {l:PySem.W.OpenLaw} {n k:Nat} {q:Program} {loose:List Str} {XP:(Str->Option Value)->Heap->Prop} {YP:World->Heap->Prop} {d:DefRec} {K:Params->Fg} {CX:World->wj} {sp:World->Sp} {x:Str}
  (hn:l.most=some n) (hn2:n<=sizeLine) (hdf:d.params.defaults=[]) (hr:Room k callerA)
  (hY:∀(w:World) (h:Heap),YP w h->(K w.params).In h)
  (F:∀(w:World) (mg:Str->Option Value) (fa:Addr) (h:Heap),(K w.params).In h->h.Ns mainGlobals mg->mg d.name=some (.ref fa) ->
   ∃fd:FuncData,(∀(s:Shared) (u:Value),BindsTo s fd ⟨[u],[]⟩ [(x,u)]) /\
    ∀base:Heap,(K w.params).In base->base.Ns mainGlobals mg->eD l.prog w (K w.params) mg base (CX w) k fa fd [x] (sp w))
  (hsp:∀(w:World) (H:Hp) (a:Addr) (ns:List Int),ns.length<=n->CU H->SqL (K w.params) H a (ns.map V.int)->sp w [.ref a] H (fun v _=>v=.bl true) fun _ _ _=>False)
  (hCX:∀(w:World) (H:Hp) (s:Shared) (e:Value) (s':Shared),CX w [] H s (fun _ _ _=>False) e s'->False) :
  PySem.W.WalkO q loose XP YP l.row.toRowW d [] (fun f vs=>PySem.call f vs):=by
 refine Att.attach_call hn hdf fun w s₀ s₁ mg mb fa o pm cd doc a vs ns G Y ho hd hcd hmg hobj hints hlen hg=>?_
 have KX:=hY w _ Y
 obtain ⟨fd,hb,hF⟩:=F w mg fa _ KX G.T.g hmg;exact vg KX G.T.g G.T.b G.T.builtins G.T.nolimit hg hobj hints (Nat.le_trans hlen hn2) hr hF hb (fun H hO hS=>hsp w H a ns hlen hO hS) fun H e s'=>hCX w H s₁ e s'
def C5 (s:Stmt):Arguments:=match s with
 | .FunctionDef _ a _ _ _ _ _ _ _ _=>a
 | _=>{ posonlyargs:=[],args:=[],vararg:=none,kwonlyargs:=[],kw_defaults:=[],kwarg:=none,defaults:=[] }
def nK (s:Stmt):List Stmt:=match s with
 | .FunctionDef _ _ b _ _ _ _ _ _ _=>b
 | _=>[]
def fH (s:Stmt):Scope:=match s with
 | .FunctionDef _ _ _ _ _ _ sc _ _ _=>sc
 | _=>{ kind:=.function,names:=[],isGenerator:=false,isCoroutine:=false }
abbrev kX:wj:=fun _ _ _ _ _ _=>False
abbrev E0:XK:=fun _ _ _=>False
theorem uY {X:Cx}:GG kX X E0:=fun _ _ _ _ _ _ _ h=>h.elim
structure Fun (K:Fg) (x qual:Str) (st:Stmt) (f:Addr) (fd:FuncData):Prop where
 ex:∃(oc:Value) (od:Option Addr) (kV doc pm:Value) (an:Option Addr) (cdv ct:Value) (osl:Array (Option Value)),
  fd=PySem.W.fnOf x qual (C5 st) (nK st) (fH st) .none kV doc pm an cdv ct/\K.lookup f=some ⟨oc,od,.func fd,osl⟩/\PySem.W.codeIn K cdv qual=true
 kp:PySem.W.keepIn K (.ref f)=true
section
variable {P:Program} {w:World} {K:Fg} {mg:Str->Option Value} {base:Heap}
theorem Fun.ok {x qual:Str} {st:Stmt} {f:Addr} {fd:FuncData} {N ps:List Str} {k:Nat} {sp:Sp} (F:Fun K x qual st f fd) (S:cy N ps (fH st)) (len:∀vs H Q E,sp vs H Q E->vs.length=ps.length)
  (hbody:∀(cdv:Value) (A:Around) (outer:List Env) (s:Shared) (H:Hp) (vs:List V) (Q:VK) (E:XK),Room k (A.deeper (envOfC qual (fH st) s.heap.objs.size f cdv))->sp vs H Q E ->
   ∃t,PSs (nj kX P w K mg base N qual (fH st) f cdv A outer s H E).nox (nK st) t/\t { nx:=fun _ H'=>Q .non H',rt:=Q } (start N vs) H):eD P w K mg base kX (k+1) f fd ps sp:=by
 obtain ⟨oc,od,kV,doc,pm,an,cdv,ct,osl,rfl,lk,hcd⟩:=F.ex;refine Ey lk hcd S len fun A outer s H vs Q E hr hsp=>?_
 obtain ⟨t,h,q⟩:=hbody cdv A outer s H vs Q E hr hsp;exact ⟨t,h.nox,q⟩
theorem Fun.binds {x qual:Str} {st:Stmt} {f:Addr} {fd:FuncData} {ps:List Str} (F:Fun K x qual st f fd)
  (h:∀(kV doc pm:Value) (an:Option Addr) (cdv ct:Value) (us:List Value),us.length=ps.length->bindArgs (PySem.W.fnOf x qual (C5 st) (nK st) (fH st) .none kV doc pm an cdv ct) ⟨us,[]⟩=pure (ps.zip us)):Binds K fd ps []:=by
 obtain ⟨oc,od,kV,doc,pm,an,cdv,ct,osl,rfl,lk,hcd⟩:=F.ex;exact .all (h kV doc pm an cdv ct)
theorem Cw {x qual:Str} {st:Stmt} {f:Addr} {oc:Value} {od an:Option Addr} {osl:Array (Option Value)} {kV doc pm cdv ct:Value} (l:K.lookup f=some ⟨oc,od,.func (PySem.W.fnOf x qual (C5 st) (nK st) (fH st) .none kV doc pm an cdv ct),osl⟩)
  (c:PySem.W.codeIn K cdv qual=true) (k:PySem.W.keepIn K (.ref f)=true):Fun K x qual st f (PySem.W.fnOf x qual (C5 st) (nK st) (fH st) .none kV doc pm an cdv ct):=⟨⟨oc,od,kV,doc,pm,an,cdv,ct,osl,rfl,l,c⟩,k⟩
end
theorem jP {n:Nat} (h:n<=1000):n<sizeLine:=Nat.lt_of_le_of_lt h (by decide)
theorem iU {A B:Prop} (h:B):if false=true then A else B:=by
 rw [if_neg Bool.false_ne_true];exact h
theorem iT {A B:Prop} (h:A):if true=true then A else B:=by
 rw [if_pos rfl];exact h
def Same (H H':Hp):Prop:=∀b o,H b=some o->H' b=some o
theorem Same.refl (H:Hp):Same H H:=fun _ _ h=>h
theorem Same.trans {H H1 H2:Hp} (a:Same H H1) (b:Same H1 H2):Same H H2:=fun c o h=>b c o (a c o h)
theorem Same.free {H H':Hp} (e:Same H H') {l:Addr} (h:H' l=Option.none):H l=Option.none:=by
 cases q:H l with
 | none=>rfl
 | some o=>
  rw [e l o q] at h
  cases h
theorem Same.seq {K:Fg} {H H':Hp} {a:Addr} {xs:List V} (e:Same H H') (h:SqL K H a xs):SqL K H' a xs:=by
 rcases h with (h | ⟨o,h⟩) | h
 ·exact .inl (.inl (e _ _ h))
 ·exact .inl (.inr ⟨o,e _ _ h⟩)
 ·exact .inr h
section
variable {prog:Program} {w:World} {A:Around} {R:Result->Shared->Prop} {s:Shared}
abbrev y7:Value->Shared->Prop:=fun _ _=>False
theorem kO {elt target iter:Expr} {ifs:List Expr} {scope:Scope} {pos:Pos} {it acc:Value} {env:Env} (I:Nat->Shared->Prop)
  (turn:∀n s,I n s->wpAny (model prog w) A (pyNext it) (fun r s₁=>match r with
   | none=>R (.ok .next) s₁
   | some v=>wpAny (model prog w) A (letOwnedTupleGo target it v) (fun _ s₁'=>wpAny (model prog w) A (assign target env v) (fun _ s₂=>
     wpAny (model prog w) A (forIn ifs true fun c r=>if r=true then do let ok <-isTrue c env (eval c env);pure (ForInStep.yield ok) else pure (ForInStep.yield r)) (fun ok s₃=>
      if ok=true then wpAny (model prog w) A (eval elt env) (fun x s₄=>
       wpAny (model prog w) A (call (.builtin "list.append") [acc,x]) (fun _ s₅=>∃m,m<n/\I m s₅) y7 s₄) y7 s₃
      else ∃m,m<n/\I m s₃) y7 s₂) y7 s₁') y7 s₁) y7 s)
  (n:Nat) (h:I n s) :
  codeAny (model prog w) A (.compLoop (.ListComp elt [⟨target,iter,ifs,0⟩] scope pos) 0 it acc env) R s:=by
 refine codeAny_loop rfl I (fun n s hI=>?_) n h
 show wpAny _ A ((compTurn (.ListComp elt [⟨target,iter,ifs,0⟩] scope pos) 0 it acc env).onRaise (fun x=>do noteFrame x env;theTreesLotGoes x)) _ _ s
 refine wpAny_noted ?_
 rw [compTurn_list];have F:∀{Z:Value->Shared->Prop},∀(e:Value) (s:Shared),y7 e s->Z e s:=fun _ _ x=>x.elim
 refine wpAny_bind (wpAny_standAt (wpAny_bind (wpAny_mono (turn n s hI) (fun r s₁ h₁=>?_) F)))
 cases r with
 | none=>exact wpAny_pure h₁
 | some v=>
  refine wpAny_bind (wpAny_mono h₁ (fun _ s₁' h₁'=>?_) F)
  refine wpAny_bind (wpAny_mono h₁' (fun _ s₂ h₂=>wpAny_bind (wpAny_mono h₂ (fun ok s₃ h₃=>?_) F)) F)
  cases ok with
  | false=>exact wpAny_pure ⟨rfl,h₃⟩
  | true=>
   exact wpAny_bind (wpAny_bind (wpAny_mono h₃ (fun x s₄ h₄=>wpAny_bind (wpAny_mono h₄ (fun _ s₅ h₅=>wpAny_pure (wpAny_pure ⟨rfl,h₅⟩)) F)) F))
end
def cP (env:Env):List (Str×NameKind)->List (Str×Addr)->List (Str×Addr)
 | [],acc=>acc
 | (n,k)::r,acc=>if k==.free then cP env r ((n,(env.cells.lookup n).getD 0)::acc) else cP env r acc
theorem HH {env:Env}:∀(names:List (Str×NameKind)) (acc:List (Str×Addr)),(∀n,(n,NameKind.free)∈names->∃c,env.cells.lookup n=some c) ->
  (forIn names acc fun (x:Str×NameKind) (cs:List (Str×Addr))=>(match x with | (name,kind)=>if kind==.free then (do let a <-cellOf env name;pure (ForInStep.yield ((name,a)::cs))) else pure (ForInStep.yield cs):Sem (ForInStep (List (Str×Addr)))))=(pure (cP env names acc):Sem (List (Str×Addr)))
 | [],acc,_=>by rw [List.forIn_nil];rfl
 | (n,k)::r,acc,h=>by
  rw [List.forIn_cons];unfold cP;by_cases hk:(k==.free)=true
  ·simp only [hk,if_true]
   have hk':k=.free:=by simpa using hk
   obtain ⟨c,hc⟩:=h n (by rw [hk'];exact mem_cons_self)
   have e:cellOf env n=pure c:=by unfold cellOf;rw [hc]
   rw [e,hc];exact HH r ((n,c)::acc) fun n' hn=>h n' (mem_cons_of_mem _ hn)
  ·rw [if_neg hk]
   simp only [hk]
   exact HH r acc fun n' hn=>h n' (mem_cons_of_mem _ hn)
theorem gf {env:Env} {scope:Scope} (h:∀n,(n,NameKind.free)∈scope.names->∃c,env.cells.lookup n=some c):closureFor scope env=pure (cP env scope.names []):=by
 have:=HH (env:=env) scope.names [] h
 unfold closureFor;rw [show (pure (cP env scope.names []):Sem (List (Str×Addr)))=(pure (cP env scope.names []) >>= fun x=>pure x) from rfl,<-this]
theorem Ib {env:Env} {x:Str} {c:Addr}:∀{names:List (Str×NameKind)} {acc:List (Str×Addr)},(∀n,(n,NameKind.free)∈names->∃c,env.cells.lookup n=some c)->(cP env names acc).lookup x=some c->env.cells.lookup x=some c\/acc.lookup x=some c
 | [],_,_,e=>.inr e
 | (n,k)::r,acc,h,e=>by
  unfold cP at e;have h':∀n',(n',NameKind.free)∈r->∃c,env.cells.lookup n'=some c:=fun n' hn=>h n' (mem_cons_of_mem _ hn)
  by_cases hk:(k==.free)=true
  ·rw [if_pos hk] at e
   rcases Ib h' e with q | q
   ·exact .inl q
   ·rw [lookup_cons] at q
    have hk':k=.free:=by simpa using hk
    obtain ⟨c',hc⟩:=h n (by rw [hk'];exact mem_cons_self)
    cases hx:x==n with
    | true=>
     rw [hx,hc] at q
     cases q;rw [eq_of_beq hx];exact .inl hc
    | false=>
     rw [hx] at q;exact .inr q
  ·rw [if_neg hk] at e
   exact Ib h' e
theorem Dc {env:Env} {x:Str}:∀{names:List (Str×NameKind)} {acc:List (Str×Addr)},(x,NameKind.free)∈names\/(acc.lookup x).isSome=true->((cP env names acc).lookup x).isSome=true
 | [],_,h=>h.elim nofun id
 | (n,k)::r,acc,h=>by
  unfold cP;by_cases hk:(k==.free)=true
  ·rw [if_pos hk]
   refine Dc (names:=r) ?_
   rcases h with h | h
   ·rcases List.mem_cons.mp h with e | h
    ·cases e
     exact .inr (by rw [lookup_cons];simp)
    ·exact .inl h
   ·right
    rw [lookup_cons]
    cases hx:x==n with
    | true=>rfl
    | false=>exact h
  ·rw [if_neg hk]
   refine Dc (names:=r) ?_
   rcases h with h | h
   ·rcases List.mem_cons.mp h with e | h
    ·cases e
     exact absurd rfl hk
    ·exact .inl h
   ·exact .inr h
theorem DC {x:Str} {c:Addr}:∀{names:List (Str×NameKind)} {n:Nat} {acc:List (Str×Addr)},(cellsFrom n names acc).lookup x=some c->((x,NameKind.cell)∈names/\n<=c)\/acc.lookup x=some c
 | [],_,_,e=>.inr e
 | (y,k)::r,n,acc,e=>by
  unfold cellsFrom at e;by_cases hk:(k==.cell)=true
  ·rw [if_pos hk] at e
   have hk':k=.cell:=by simpa using hk
   rcases DC e with ⟨q,l⟩ | q
   ·exact .inl ⟨mem_cons_of_mem _ q,by omega⟩
   ·rw [lookup_cons] at q
    cases hx:x==y with
    | true=>
     rw [hx] at q
     cases q;exact .inl ⟨by rw [eq_of_beq hx,hk'];exact mem_cons_self,Nat.le_refl _⟩
    | false=>
     rw [hx] at q;exact .inr q
  ·rw [if_neg hk] at e
   rcases DC e with ⟨q,l⟩ | q
   ·exact .inl ⟨mem_cons_of_mem _ q,l⟩
   ·exact .inr q
theorem Io {x y:Str} {c:Addr}:∀{names:List (Str×NameKind)} {n:Nat} {acc:List (Str×Addr)},(∀z d,acc.lookup z=some d->d<n)->(∀x y d,acc.lookup x=some d->acc.lookup y=some d->x=y) ->
  (cellsFrom n names acc).lookup x=some c->(cellsFrom n names acc).lookup y=some c->x=y
 | [],_,_,_,hi,e,e'=>hi _ _ _ e e'
 | (z,k)::r,n,acc,hl,hi,e,e'=>by
  unfold cellsFrom at e e'
  by_cases hk:(k==.cell)=true
  ·rw [if_pos hk] at e e'
   refine Io (names:=r) (n:=n+1) (acc:=(z,n)::acc) (fun a d q=>?_) (fun a b d q q'=>?_) e e'
   ·rw [lookup_cons] at q
    cases hx:a==z with
    | true=>rw [hx] at q;cases q;exact Nat.lt_succ_self _
    | false=>rw [hx] at q;exact Nat.lt_succ_of_lt (hl a d q)
   ·rw [lookup_cons] at q q'
    cases hx:a==z with
    | true=>
     rw [hx] at q
     cases q
     cases hy:b==z with
     | true=>rw [eq_of_beq hx,eq_of_beq hy]
     | false=>rw [hy] at q';exact absurd (hl b n q') (Nat.lt_irrefl _)
    | false=>
     rw [hx] at q
     cases hy:b==z with
     | true=>rw [hy] at q';cases q';exact absurd (hl a n q) (Nat.lt_irrefl _)
     | false=>rw [hy] at q';exact hi a b d q q'
  ·rw [if_neg hk] at e e'
   exact Io hl hi e e'
theorem HI {env:Env} {x:Str} {c:Addr}:∀{names:List (Str×NameKind)} {acc:List (Str×Addr)},(cP env names acc).lookup x=some c->(x,NameKind.free)∈names\/acc.lookup x=some c
 | [],_,e=>.inr e
 | (n,k)::r,acc,e=>by
  unfold cP at e;by_cases hk:(k==.free)=true
  ·rw [if_pos hk] at e
   have hk':k=.free:=by simpa using hk
   rcases HI e with q | q
   ·exact .inl (mem_cons_of_mem _ q)
   ·rw [lookup_cons] at q
    cases hx:x==n with
    | true=>rw [eq_of_beq hx,hk'];exact .inl mem_cons_self
    | false=>rw [hx] at q;exact .inr q
  ·rw [if_neg hk] at e
   rcases HI e with q | q
   ·exact .inl (mem_cons_of_mem _ q)
   ·exact .inr q
theorem FU {x:Str}:∀{names:List (Str×NameKind)} {n:Nat} {acc:List (Str×Addr)},(x,NameKind.cell)∈names\/(acc.lookup x).isSome=true->((cellsFrom n names acc).lookup x).isSome=true
 | [],_,_,h=>h.elim nofun id
 | (y,k)::r,n,acc,h=>by
  unfold cellsFrom;by_cases hk:(k==.cell)=true
  ·rw [if_pos hk]
   refine FU (names:=r) ?_
   rcases h with h | h
   ·rcases List.mem_cons.mp h with e | h
    ·cases e
     exact .inr (by rw [lookup_cons];simp)
    ·exact .inl h
   ·right
    rw [lookup_cons]
    cases hx:x==y with
    | true=>rfl
    | false=>exact h
  ·rw [if_neg hk]
   refine FU (names:=r) ?_
   rcases h with h | h
   ·rcases List.mem_cons.mp h with e | h
    ·cases e
     exact absurd rfl hk
    ·exact .inl h
   ·exact .inr h
theorem FT {x:Str}:∀{names:List (Str×NameKind)} {n:Nat} {acc:List (Str×Addr)},(x,NameKind.cell)∉names->(cellsFrom n names acc).lookup x=acc.lookup x
 | [],_,_,_=>rfl
 | (y,k)::r,n,acc,h=>by
  unfold cellsFrom;have hr:(x,NameKind.cell)∉r:=fun z=>h (mem_cons_of_mem _ z)
  by_cases hk:(k==.cell)=true
  ·rw [if_pos hk,FT hr,lookup_cons]
   have hk':k=.cell:=by simpa using hk
   cases hx:x==y with
   | true=>exact absurd (by rw [eq_of_beq hx,hk'];exact mem_cons_self) h
   | false=>rfl
  ·rw [if_neg hk]
   exact FT hr
theorem FV {x:Str} {c:Addr}:∀{names:List (Str×NameKind)} {n:Nat} {acc:List (Str×Addr)},(x,NameKind.cell)∈names->(cellsFrom n names acc).lookup x=some c->(cellsFrom n names []).lookup x=some c
 | [],_,_,h,_=>nomatch h
 | (y,k)::r,n,acc,h,e=>by
  unfold cellsFrom at e ⊢
  by_cases hk:(k==.cell)=true
  ·rw [if_pos hk] at e ⊢
   by_cases hr:(x,NameKind.cell)∈r
   ·have:∀{acc acc':List (Str×Addr)},(cellsFrom (n+1) r acc).lookup x=some c->(cellsFrom (n+1) r acc').lookup x=some c:=fun {a a'} q=>by
     have q0:=FV hr q
     have hs:=FU (n:=n+1) (acc:=a') (.inl hr)
     obtain ⟨c',hc'⟩:=Option.isSome_iff_exists.mp hs;have q1:=FV hr hc'
     rw [q0] at q1
     cases q1;exact hc'
    exact this e
   ·rw [FT hr] at e ⊢
    rw [lookup_cons] at e ⊢
    cases hx:x==y with
    | true=>rw [hx] at e;exact e
    | false=>
     rcases List.mem_cons.mp h with z | z
     ·cases z
      simp at hx
     ·exact absurd z hr
  ·rw [if_neg hk] at e ⊢
   rcases List.mem_cons.mp h with z | z
   ·cases z
    exact absurd rfl hk
   ·exact FV z e
def blk (X:Cx) (scope:Scope) (cells:List (Str×Addr)) (C:Addr) (s₀:Shared) (H₀:Hp) (ex:List Addr):Cx where
 prog:=X.prog
 w:=X.w
 K:=X.K
 mg:=X.mg
 base:=X.base
 A:=X.A
 N:=X.N
 s₀:=s₀
 H₀:=H₀
 env:={ scope:=relabel scope X.env,locals:=C,globals:=X.env.globals,cells:=cells,qual:=X.env.qual,func:=none,code:=X.env.code,frame:=X.env.frame,builtins:=X.env.builtins }
 outer:=X.stack
 stack:=X.stack
 ex:=ex
 fn:=fun x=>scope.names.any fun y=>y.1==x&&y.2==.cell
 calm:=X.calm
 pn:=[]
 xe:=fun _ _=>False
structure dG (N:List Str) (is:List Nat) (osc scope:Scope):Prop where
 kind:scope.kind=.function
 free:∀n,(n,NameKind.free)∈scope.names->osc.names.lookup n=some .cell\/osc.names.lookup n=some .free
 own:∀(i:Nat) (x:Str),N[i]?=some x->(x,NameKind.local)∈scope.names\/(x,NameKind.cell)∈scope.names->i∈is
 loc:∀x∈scope.names,x.2=.local->scope.names.lookup x.1=some .local
 one:∀n,(n,NameKind.free)∈scope.names->(n,NameKind.cell)∉scope.names
def bc (is:List Nat) (σ:St):St:=σ.mapIdx fun i v=>if i∈is then none else v
theorem zm (is:List Nat) (σ:St):(bc is σ).length=σ.length:=by unfold bc;simp
theorem FA {is:List Nat} {σ:St} {i:Nat} {v:V} (h:(bc is σ)[i]?=some (some v)):i∉is/\σ[i]?=some (some v):=by
 unfold bc at h;rw [List.getElem?_mapIdx] at h
 cases e:σ[i]? with
 | none=>rw [e] at h;cases h
 | some o=>
  rw [e] at h;simp only [Option.map_some,Option.some.injEq] at h
  by_cases hi:i∈is
  ·rw [if_pos hi] at h;cases h
  ·rw [if_neg hi] at h;exact ⟨hi,by rw [h]⟩
def GB (σ0 σ2:St):Prop:=σ2.length=σ0.length/\∀(i:Nat) v,σ0[i]?=some (some v)->σ2[i]?=some (some v)
theorem iP {x:Str} {k:NameKind} {l:List (Str×NameKind)} (h:l.lookup x=some k):(x,k)∈l:=PySem.mem_of_lookup h
theorem C9 {scope:Scope} {env:Env} {x:Str} {k:NameKind} (h:(relabel scope env).names.lookup x=some k) :
  (x,k)∈scope.names\/((x,NameKind.free)∈scope.names/\k=.cell):=by
 have h:=iP h
 unfold relabel at h;obtain ⟨⟨n,k'⟩,hm,e⟩:=List.mem_map.mp h;dsimp only at e;by_cases hc:(k'==NameKind.free&&env.scope.kind==.function&&env.kindOf n==some .cell)=true
 ·rw [if_pos hc] at e
  cases e;have:k'=.free:=by
   simp only [Bool.and_eq_true,beq_iff_eq] at hc
   exact hc.1.1
  exact .inr ⟨this▸hm,rfl⟩
 ·rw [if_neg hc] at e
  cases e;exact .inl hm
def kd (X:Cx) (scope:Scope) (C:Addr):List (Str×Addr):=cellsFrom (C+1) scope.names (cP X.env scope.names [])
section
variable {X:Cx} {pins:List (Addr×Obj)} {σ:St} {H:Hp} {s:Shared} {scope:Scope} {is:List Nat}
theorem Inv.freeCells (I:Inv X pins σ H s) (S:dG X.N is X.env.scope scope):∀n,(n,NameKind.free)∈scope.names->∃c,X.env.cells.lookup n=some c:=fun n hn=>
 I.ok.has n (S.free n hn)
theorem Inv.blkOld (I:Inv X pins σ H s) (S:dG X.N is X.env.scope scope) {x:Str} {c:Addr} (h:(cP X.env scope.names []).lookup x=some c):X.env.cells.lookup x=some c:=by
 rcases Ib (I.freeCells S) h with q | q
 ·exact q
 ·cases q
theorem Inv.block {fp:List Addr} {t':Nat} (I:Inv X pins σ H s) (S:dG X.N is X.env.scope scope) (hf:∀b∈fp,jG X pins H b) (hfs:∀b∈fp,b<s.heap.objs.size) :
  Inv (blk X scope (kd X scope (s.heap.objs.size+1)) (s.heap.objs.size+1) s H fp) [] (bc is σ) (bx H s.heap.objs.size (.lst []))
   { s with heap:=pushCells ((s.heap.push { cls:=.type "list",data:=.seq ([]:List Value).toArray }).push { cls:=.type "dict",data:=.dict #[] }) scope.names,toks:=t' }:=by
 generalize hC:s.heap.objs.size+1=C
 have hDn:H s.heap.objs.size=none:=I.hok.fresh (Nat.le_refl _)
 have s1:(s.heap.push { cls:=.type "list",data:=.seq ([]:List Value).toArray }).objs.size=C:=by rw [Heap.size_push,hC]
 have kept:∀b o,s.heap.get? b=some o->(pushCells ((s.heap.push { cls:=.type "list",data:=.seq ([]:List Value).toArray }).push { cls:=.type "dict",data:=.dict #[] }) scope.names).get? b=some o:=
  fun b o e=>pushCells_keeps _ _ b o (Heap.get?_push_of_some _ (Heap.get?_push_of_some _ e))
 have cellsL:∀x c,(kd X scope C).lookup x=some c->((x,NameKind.cell)∈scope.names/\C+1<=c)\/X.env.cells.lookup x=some c:=fun x c e=>by
  rcases DC e with q | q
  ·exact .inl q
  ·exact .inr (I.blkOld S q)
 have oldLt:∀x c,X.env.cells.lookup x=some c->c<s.heap.objs.size:=fun x c e=>by
  obtain ⟨v,q⟩:=I.cell x c e;exact q.lt
 have cok:CellsOk (pushCells ((s.heap.push { cls:=.type "list",data:=.seq ([]:List Value).toArray }).push { cls:=.type "dict",data:=.dict #[] }) scope.names) (C+1)
   (cellsFrom (C+1) scope.names []):=by
  have:=cellsFrom_ok scope.names ((s.heap.push { cls:=.type "list",data:=.seq ([]:List Value).toArray }).push { cls:=.type "dict",data:=.dict #[] }) (C+1) [] ⟨fun _ _ hm=>(nomatch hm),List.Pairwise.nil⟩ (by rw [Heap.size_push,s1];exact Nat.le_refl _)
  rw [Heap.size_push,s1] at this;exact this
 have lt1:∀{b:Nat},b<s.heap.objs.size->b≠C:=fun {b} h e=>by subst e;rw [<-hC] at h;exact absurd (Nat.lt_of_succ_lt h) (Nat.lt_irrefl _)
 have hDle:s.heap.objs.size<=C:=by rw [<-hC];exact Nat.le_succ _
 have cellAt:∀x c,(kd X scope C).lookup x=some c->(C<c/\(pushCells ((s.heap.push { cls:=.type "list",data:=.seq ([]:List Value).toArray }).push { cls:=.type "dict",data:=.dict #[] }) scope.names).IsCell c none)\/X.env.cells.lookup x=some c:=fun x c e=>by
  rcases cellsL x c e with ⟨q1,q2⟩ | q
  ·exact .inl ⟨q2,(cok.empty x c (PySem.mem_of_lookup (FV q1 e))).1⟩
  ·exact .inr q
 refine ⟨⟨I.ok.mod,S.kind,I.ok.glob,I.ok.blt,hDle,?_,?_,?_,I.ok.hd,I.ok.frames,.inl rfl,?_,I.bs,Nat.le_trans I.ok.bsz I.sz,?_,?_,I.stack,I.stkFree⟩,rfl,I.bare,?_,?_,?_,?_,?_,fun p hp=>absurd (show p∈([]:List (Addr×Obj)) from hp) (by simp),?_,(zm _ _).trans I.len⟩
 ·-- inj
  intro x y c hx hy;refine Io (fun z d q=>?_) (fun a b d q q'=>I.ok.inj a b d (I.blkOld S q) (I.blkOld S q')) hx hy
  exact Nat.lt_succ_of_lt (Nat.lt_of_lt_of_le (oldLt z d (I.blkOld S q)) hDle)
 ·-- has
  intro x hx;have q:((kd X scope C).lookup x).isSome=true:=by
   refine FU ?_
   have hx:(relabel scope X.env).names.lookup x=some .cell\/(relabel scope X.env).names.lookup x=some .free:=hx
   rcases hx with hx | hx
   ·rcases C9 hx with z | ⟨z,_⟩
    ·exact .inl z
    ·exact .inr (Dc (.inl z))
   ·rcases C9 hx with z | ⟨z,_⟩
    ·exact .inr (Dc (.inl z))
    ·exact .inr (Dc (.inl z))
  exact Option.isSome_iff_exists.mp q
 ·-- cab
  intro x c hx e;have hx:(scope.names.any fun y=>y.1==x&&y.2==NameKind.cell)=true:=hx
  obtain ⟨y,hy,hz⟩:=List.any_eq_true.mp hx;simp only [Bool.and_eq_true,beq_iff_eq] at hz
  have hm:(x,NameKind.cell)∈scope.names:=by rw [<-hz.1,<-hz.2];exact hy
  rcases DC e with ⟨_,q⟩ | q
  ·exact Nat.le_trans hDle (Nat.le_of_succ_le q)
  ·rcases HI q with z | z
   ·exact absurd hm (S.one x z)
   ·cases z
 ·-- exf
  intro b hb;obtain ⟨f0,f1,f2,f3,f4,f5⟩:=hf b hb;refine ⟨lt1 (hfs b hb),fun x c e z=>?_⟩
  rcases cellsL x c e with ⟨_,q⟩ | q
  ·subst z
   exact absurd (Nat.lt_of_lt_of_le (hfs _ hb) hDle) (Nat.not_lt.mpr (Nat.le_of_succ_le q))
  ·exact f4 x c q z
 ·-- noex
  intro b o e hb;obtain ⟨f0,f1,f2,f3,f4,f5⟩:=hf b hb;rcases f3 with z | z
  ·exact I.ok.noex b o e z
  ·exact absurd (Nat.lt_of_lt_of_le (Heap.lt_size e) (Nat.le_trans I.ok.bsz z)) (Nat.lt_irrefl _)
 ·-- exfs
  intro b hb z;obtain ⟨f0,f1,f2,f3,f4,f5⟩:=hf b hb;rcases List.mem_cons.mp (I.stkSub b z) with e | e
  ·exact f1 e
  ·exact f2 e
 ·-- base
  exact Un.laid kept (Nat.le_refl _) hDn
 ·-- loc
  refine ⟨fun _=>none,?_,fun i x v e1 e2 e3=>?_⟩
  ·have:=(Heap.Ns.new (s.heap.push { cls:=.type "list",data:=.seq ([]:List Value).toArray }) (.type "dict")).keeps (pushCells_keeps scope.names _)
   rw [s1] at this;exact this
  ·obtain ⟨hni,e2'⟩:=FA e2
   obtain ⟨m,hn,hl⟩:=id I.loc;have hfree:(x,NameKind.free)∈scope.names:=by
    have e3:(relabel scope X.env).names.lookup x=some .local\/(relabel scope X.env).names.lookup x=some .cell\/(relabel scope X.env).names.lookup x=some .free:=e3
    rcases e3 with z | z | z
    ·rcases C9 z with y | ⟨y,_⟩
     ·exact absurd (S.own i x e1 (.inl y)) hni
     ·exact y
    ·rcases C9 z with y | ⟨y,_⟩
     ·exact absurd (S.own i x e1 (.inr y)) hni
     ·exact y
    ·rcases C9 z with y | ⟨y,_⟩
     ·exact y
     ·exact y
   have hk:=S.free x hfree
   obtain ⟨u,r,l⟩:=hl i x v e1 e2' (.inr hk)
   refine ⟨u,r,?_⟩
   rcases l with ⟨k,_⟩ | ⟨k,c,e,z⟩
   ·have k:X.env.scope.names.lookup x=some .local:=k
    rcases hk with q | q<;>(rw [q] at k;cases k)
   ·refine .inr ⟨?_,c,?_,z.keeps kept⟩
    ·have e3:(relabel scope X.env).names.lookup x=some .local\/(relabel scope X.env).names.lookup x=some .cell\/(relabel scope X.env).names.lookup x=some .free:=e3
     rcases e3 with y | y | y
     ·rcases C9 y with y' | ⟨_,y'⟩
      ·exact absurd (S.own i x e1 (.inl y')) hni
      ·cases y'
     ·exact .inl y
     ·exact .inr y
    ·have q:=Dc (env:=X.env) (acc:=[]) (.inl hfree)
     obtain ⟨c',hc'⟩:=Option.isSome_iff_exists.mp q;have:=I.blkOld S hc'
     rw [e] at this
     cases this;show (kd X scope C).lookup x=some c
     unfold kd;rw [FT (S.one x hfree)];exact hc'
 ·-- cell
  intro x c e;rcases cellAt x c e with ⟨_,q⟩ | q
  ·exact ⟨_,q⟩
  ·obtain ⟨v,z⟩:=I.cell x c q
   exact ⟨v,z.keeps kept⟩
 ·-- free
  show bx H s.heap.objs.size (.lst []) C=none
  rw [cQ (by rw [<-hC];exact Nat.ne_of_gt (Nat.lt_succ_self _))]
  exact I.hok.fresh hDle
 ·-- freeC
  intro x c e;show bx H s.heap.objs.size (.lst []) c=none
  rcases cellAt x c e with ⟨q,_⟩ | q
  ·have hc:s.heap.objs.size<c:=Nat.lt_of_le_of_lt hDle q
   rw [cQ (Nat.ne_of_gt hc)];exact I.hok.fresh (Nat.le_of_lt hc)
  ·rw [cQ (Nat.ne_of_lt (oldLt x c q))]
   exact I.freeC x c q
 ·-- hok
  exact I.hok.laid kept (Nat.le_refl _) ⟨Nat.zero_le _,[],0,.nil,pushCells_keeps _ _ _ _ (Heap.get?_push_of_some _ (Heap.get?_push_size _ rfl))⟩
end
section
variable {M:Model} {A:Around} {E:Value->Shared->Prop} {s:Shared}
theorem jy {scope:Scope} {globals:Addr} {cl:List (Str×Addr)} {qual:Str} {env:Env} {Q:Env->Shared->Prop}
  (hQ:Q (newEnv scope s.heap.objs.size globals (cellsFrom (s.heap.objs.size+1) scope.names cl) qual none .none (some env) builtinsNs) { s with heap:=pushCells (s.heap.push { cls:=.type "dict",data:=.dict #[] }) scope.names }) :
  wpAny M A (newFunctionEnv scope globals cl [] qual none .none (some env)) Q E s:=by
 simp only [newFunctionEnv,Option.isSome_some,if_true]
 refine wpAny_bind (wpAny_alloc ?_)
 refine wpAny_bind (wpAny_layCells _ (fun name kind cells=>by cases hkc:kind==NameKind.cell<;>simp [hkc]) _ _ _ _ ?_)
 rw [show ({ s with heap:=s.heap.push { cls:=.type "dict",data:=.dict #[] } }:Shared).heap.objs.size=s.heap.objs.size+1 from Heap.size_push ..]
 rw [List.forIn_nil];exact wpAny_bind (wpAny_pure (wpAny_pure hQ))
end
def PF (X:Cx) (ifs:List Expr) (t:TT):Prop:=
 ∀(pins:List (Addr×Obj)) (s:Shared) (σ:St) (H:Hp) (Q:Bool->Hp->Prop),Inv X pins σ H s->t σ H Q ->
  wpAny (model X.prog X.w) X.A (forIn ifs true fun c r=>if r=true then do let ok <-isTrue c X.env (eval c X.env);pure (ForInStep.yield ok) else pure (ForInStep.yield r)) (TP X pins σ Q) X.xe s
def pv:TT:=fun _ H Q=>Q true H
theorem uP {X:Cx}:PF X [] pv:=fun pins s σ H Q I h=>wpAny_tests_nil ⟨H,I,h⟩
theorem uO {X:Cx} {c:Expr} {t:TT} (h:PT X c t):PF X [c] t:=fun pins s σ H Q I q=>wpAny_tests_one (h pins s σ H Q I q)
def fS (is:List Nat) (wi:TI) (g:TG) (tc:TT) (te:TE):TE:=fun σ H Q=>wi σ H fun J H1=>∀D,H1 D=none->∃W:Nat->Nat->List V->Hp->Prop,(∃m,W 0 m [] (bx H1 D (.lst [])))/\∀k m ys H,W k m ys H ->
 H D=some (.lst ys)/\((J.stop k H/\Q (.ref D) H)\/(J.go k H/\ys.length<sizeLine/\∀x H',J.yld k H x H'->g x (bc is σ) H' fun σ2 H2=>GB (bc is σ) σ2/\tc σ2 H2 fun b H3=>
  if b=true then te σ2 H3 fun v H4=>H4 D=some (.lst ys)/\∃m',m'<m/\W (k+1) m' (ys++[v]) (bx H4 D (.lst (ys++[v]))) else ∃m',m'<m/\W (k+1) m' ys H3))
section
variable {X:Cx} {scope:Scope} {is:List Nat} {tg iter elt:Expr} {ifs:List Expr} {wi:TI} {g:TG} {tc:TT} {te:TE} {pos:Pos}
theorem j4 {pins:List (Addr×Obj)} {s:Shared} {σ:St} {H:Hp} {Q:VK} {RR:Value->Addr->Result->Shared->Prop} (S:dG X.N is X.env.scope scope) (hcalm:X.calm=true) (hi:PI X tg iter wi)
  (hg:∀cells C s₀ H₀ ex,PG (blk X scope cells C s₀ H₀ ex) tg g) (hc:∀cells C s₀ H₀ ex,PF (blk X scope cells C s₀ H₀ ex) ifs tc) (he:∀cells C s₀ H₀ ex,PE (blk X scope cells C s₀ H₀ ex) elt te)
  (I:Inv X pins σ H s) (h:fS is wi g tc te σ H Q)
  (hRR:∀D C s' H' m,Inv X pins σ H' s'->s'.heap.Ns C m->Q (.ref D) H'->H' C=none->C≠X.env.locals->X.s₀.heap.objs.size<=C->(∀x c,X.env.cells.lookup x=some c->c≠C)->(∀p∈X.pn++pins,p.1≠C)->RR (.ref D) C (.ok .next) s') :
  wpAny (model X.prog X.w) X.A (eval iter X.env) (fun x s₁=>wpAny (model X.prog X.w) X.A (pyIter x) (fun it s₂=>wpAny (model X.prog X.w) X.A (newList []) (fun acc s₃=>
   wpAny (model X.prog X.w) X.A (newFunctionEnv scope X.env.globals (cP X.env scope.names []) [] X.env.qual none .none (some X.env)) (fun cenv s₄=>
    codeAny (model X.prog X.w) X.A (.compStart (.ListComp elt [⟨tg,iter,ifs,0⟩] scope pos) 0 it acc { cenv with scope:=relabel scope X.env }) (RR acc cenv.locals) s₄) X.xe s₃) X.xe s₂) X.xe s₁) X.xe s:=by
 refine bw (hi pins s σ H _ I h) fun v s1 h1=>bw h1 fun itv s2 h2=>?_
 obtain ⟨it,fp,tn,J,H2,e,I2,T,st2,f2,hW⟩:=h2;subst e;obtain ⟨W,⟨m0,w0⟩,turn⟩:=hW s2.heap.objs.size (I2.hok.fresh (Nat.le_refl _));refine wpAny_newObj_type (jy ?_)
 have s1:(s2.heap.push { cls:=.type "list",dict:=none,data:=.seq ([]:List Value).toArray }).objs.size=s2.heap.objs.size+1:=by rw [Heap.size_push]
 dsimp only;rw [s1];have hfs:∀b∈fp,b<s2.heap.objs.size:=fun b hb=>by
  obtain ⟨o,e,_⟩:=T.obj 0 _ st2 b hb;exact Heap.lt_size e
 have I4:=I2.block (t':=s2.toks) S f2 hfs
 generalize hCC:s2.heap.objs.size+1=C at I4 ⊢
 have hDC:s2.heap.objs.size<C:=by rw [<-hCC];exact Nat.lt_succ_self _
 have Hg:=hg (kd X scope C) C s2 H2 fp
 have Hc:=hc (kd X scope C) C s2 H2 fp
 have He:=he (kd X scope C) C s2 H2 fp
 have Ha:=HS (X:=blk X scope (kd X scope C) C s2 H2 fp)
 have hYcell:∀x c,(blk X scope (kd X scope C) C s2 H2 fp).env.cells.lookup x=some c->s2.heap.objs.size<=c\/X.env.cells.lookup x=some c:=fun x c e=>by
  have e:(cellsFrom (C+1) scope.names (cP X.env scope.names [])).lookup x=some c:=e
  rcases DC e with ⟨_,q⟩ | q
  ·exact .inl (Nat.le_trans (Nat.le_of_lt hDC) (Nat.le_of_succ_le q))
  ·exact .inr (I2.blkOld S q)
 have FY:∀{H':Hp},(∀b∈fp,H' b=none)->∀b∈fp,jG (blk X scope (kd X scope C) C s2 H2 fp) [] H' b:=fun {H'} hn b hb=>by
  obtain ⟨f0,f1,f3,f4,f5,f6⟩:=f2 b hb;refine ⟨hn b hb,Nat.ne_of_lt (Nat.lt_trans (hfs b hb) hDC),fun z=>?_,.inl hb,fun x c e z=>?_,fun p hp=>absurd (show p∈([]:List (Addr×Obj)) from hp) (by simp)⟩
  ·rcases List.mem_cons.mp (I2.stkSub b z) with e | e
   ·exact f1 e
   ·exact f3 e
  ·rcases hYcell x c e with q | q
   ·rw [z] at q
    exact absurd (Nat.lt_of_lt_of_le (hfs b hb) q) (Nat.lt_irrefl _)
   ·exact f5 x c q z
 have hCx:∀x c,X.env.cells.lookup x=some c->c≠C:=fun x c e z=>by
  obtain ⟨v,q⟩:=I2.cell x c e;have:=q.lt
  rw [z] at this;exact absurd (Nat.lt_trans this hDC) (Nat.lt_irrefl _)
 have hCp:∀p∈X.pn++pins,p.1≠C:=fun p hp z=>by
  have:=Heap.lt_size (I2.pin p hp).1
  rw [z] at this;exact absurd (Nat.lt_trans this hDC) (Nat.lt_irrefl _)
 have out:∀{σ':St} {H':Hp} {s':Shared},Inv (blk X scope (kd X scope C) C s2 H2 fp) [] σ' H' s'->Inv X pins σ H' s':=fun {σ' H' s'} J=>
  I2.call' (ch:=fp) J.os J.base J.hok J.bare fun b hb=>by
   obtain ⟨f0,f1,f3,f4,f5,f6⟩:=f2 b hb;exact ⟨f4,f1,f5,f6⟩
 have loop:∀s₃:Shared,s₃={ s2 with heap:=pushCells ((s2.heap.push { cls:=.type "list",data:=.seq ([]:List Value).toArray }).push { cls:=.type "dict",data:=.dict #[] }) scope.names } ->
   codeAny (model X.prog X.w) X.A (.compLoop (.ListComp elt [⟨tg,iter,ifs,0⟩] scope pos) 0 (.ref it) (.ref s2.heap.objs.size) (blk X scope (kd X scope C) C s2 H2 fp).env) (RR (.ref s2.heap.objs.size) C) s₃:=by
  rintro s₃ rfl
  refine kO (fun n s'=>∃k ys H',Inv (blk X scope (kd X scope C) C s2 H2 fp) [] (bc is σ) H' s'/\tn k s'.heap/\(∀b∈fp,H' b=none)/\W k n ys H') ?_ m0
   ⟨0,[],_,I4,T.keep 0 _ _ st2 fun b _ o e=>pushCells_keeps _ _ b o (Heap.get?_push_of_some _ (Heap.get?_push_of_some _ e)),fun b hb=>by rw [cQ (Nat.ne_of_lt (hfs b hb))];exact (f2 b hb).1,w0⟩
  rintro n s3 ⟨k,ys,H3,I3,st3,fr3,w3⟩
  obtain ⟨hD3,hcase⟩:=turn k n ys H3 w3;rcases hcase with ⟨stop,qn⟩ | ⟨go,hlen,step⟩
  ·refine bw (T.done (blk X scope (kd X scope C) C s2 H2 fp) rfl rfl rfl hcalm k [] s3 (bc is σ) H3 y7 I3 (FY fr3) st3 stop) fun r s4 ⟨hr,I4⟩=>?_
   subst hr;obtain ⟨m,hn,_⟩:=id I4.loc;exact hRR _ C s4 H3 m (out I4) hn qn I4.free (fun z=>Nat.lt_irrefl _ (Nat.lt_trans (Nat.lt_of_lt_of_eq hDC z) I2.lt)) (Nat.le_trans I2.sz (Nat.le_of_lt hDC)) hCx hCp
  ·refine bw (T.item (blk X scope (kd X scope C) C s2 H2 fp) rfl rfl rfl hcalm k [] s3 (bc is σ) H3 y7 I3 (FY fr3) st3 go) fun r s4 ⟨u,hr,h4⟩=>?_
   subst hr;refine bw h4 fun _ s5 ⟨x,H5,I5,r5,y5,st5,fr5⟩=>?_
   have I5':=I5.pinned (FY fr5) (T.obj _ _ st5)
   refine bw (Hg _ s5 (bc is σ) H5 x u _ I5' r5 (step x H5 y5)) fun _ s6 ⟨σ6,H6,I6,le6,q6⟩=>?_
   refine bw (Hc _ s6 σ6 H6 _ I6 q6) fun ok s7 ⟨H7,I7,q7⟩=>?_
   have again:∀{H8:Hp} {s8:Shared} {ys':List V},Inv (blk X scope (kd X scope C) C s2 H2 fp) ([]++Dh fp s5.heap) σ6 H8 s8->(∃m',m'<n/\W (k+1) m' ys' H8) ->
     ∃m,m<n/\∃k ys H',Inv (blk X scope (kd X scope C) C s2 H2 fp) [] (bc is σ) H' s8/\tn k s8.heap/\(∀b∈fp,H' b=none)/\W k m ys H':=fun {H8 s8 ys'} I8 ⟨m',hm,w8⟩=>by
    refine ⟨m',hm,k+1,ys',H8,(I8.weak le6.1.symm le6.2).unpinned,T.keep _ _ _ st5 fun b hb o e=>(I8.pin (b,o) (mem_append_right _ (mem_append_right _ (FQ hb e)))).1,fun b hb=>?_,w8⟩
    obtain ⟨o,e,d⟩:=T.obj _ _ st5 b hb;exact (I8.pin (b,o) (mem_append_right _ (mem_append_right _ (FQ hb e)))).2.1
   cases ok with
   | false=>
    rw [if_neg Bool.false_ne_true] at q7;exact again I7 q7
   | true=>
    rw [if_pos rfl] at q7;refine bw (He _ s7 σ6 H7 _ I7 q7) fun y s8 ⟨v8,H8,I8,r8,q8⟩=>?_
    obtain ⟨hD8,q8⟩:=q8;refine bw (Ha _ s8 σ6 H8 (.ref s2.heap.objs.size) [v8] (.ref s2.heap.objs.size) [y] (fun _ H9=>∃m',m'<n/\W (k+1) m' (ys++[v8]) H9) I8 rfl (.cons r8 .nil) ⟨_,ys,v8,rfl,rfl,hD8,hlen,q8⟩) fun _ s9 ⟨_,H9,I9,_,q9⟩=>?_
    exact again I9 q9
 exact codeAny_compStart_list (loop _ rfl) (T.self X.A 0 _ _ _ (T.keep 0 _ _ st2 fun b _ o e=>pushCells_keeps _ _ b o (Heap.get?_push_of_some _ (Heap.get?_push_of_some _ e))) (loop _ rfl))
theorem G0 (S:dG X.N is X.env.scope scope) (hcalm:X.calm=true) (hi:PI X tg iter wi)
  (hg:∀cells C s₀ H₀ ex,PG (blk X scope cells C s₀ H₀ ex) tg g) (hc:∀cells C s₀ H₀ ex,PF (blk X scope cells C s₀ H₀ ex) ifs tc) (he:∀cells C s₀ H₀ ex,PE (blk X scope cells C s₀ H₀ ex) elt te)
  (hs:∀x,foldedSetIterable iter X.env x=pure x:=by intro _;rfl):PE X (.ListComp elt [⟨tg,iter,ifs,0⟩] scope pos) (fS is wi g tc te):=by
 intro pins s σ H Q I h;rw [eval_ListComp];refine wpAny_comprehension_free (use:=none) rfl hs (gf (I.freeCells S)) S.kind S.loc (j4 (RR:=fun acc C=>compPost (model X.prog X.w) X.A X.xe none (EP X pins σ Q) acc C) S hcalm hi hg hc he I h ?_)
 intro D C s' H' m I' hn q n1 n2 n3 n4 n5
 refine ⟨m,hn,fun h' hs'=>?_⟩
 exact ⟨.ref D,H',I'.turned (t':=s'.toks) (fun b o hb e=>(hs'.2 b hb).trans e) n1 n2 (.inr n3) n4 n5,rfl,q⟩
theorem Ii {i:Nat} {y:Str} {pos' spos:Pos} (hN:X.N.Nodup) (hy:X.N[i]?=some y) (hl:X.env.scope.names.lookup y=some .local) (S:dG X.N is X.env.scope scope) (hcalm:X.calm=true) (hi:PI X tg iter wi)
  (hg:∀cells C s₀ H₀ ex,PG (blk X scope cells C s₀ H₀ ex) tg g) (hc:∀cells C s₀ H₀ ex,PF (blk X scope cells C s₀ H₀ ex) ifs tc) (he:∀cells C s₀ H₀ ex,PE (blk X scope cells C s₀ H₀ ex) elt te)
  (hsw:swapsWith (.ListComp elt [⟨tg,iter,ifs,0⟩] scope pos) (some (.Name y pos')) spos.line X.env=pure true)
  (hs:∀x,foldedSetIterable iter X.env x=pure x:=by intro _;rfl):PS X (.Assign [.Name y pos'] (.ListComp elt [⟨tg,iter,ifs,0⟩] scope pos) spos) (fun D σ H=>fS is wi g tc te σ H fun v H'=>D.nx (σ.set i (some v)) H'):=by
 intro pins s σ H Ds I h;rw [exec_Assign_Name_used _ _ _ _ hsw];refine wpAny_bind (wpAny_standAt (wpAny_bind ?_))
 show wpAny _ X.A (do let _ <-comprehension (.ListComp elt [⟨tg,iter,ifs,0⟩] scope pos) scope X.env _ (newList []) false (eval iter X.env) (some (assign (.Name y pos') X.env))) _ _ s
 refine wpAny_bind (wpAny_mono (wpAny_comprehension_free (use:=some (assign (.Name y pos') X.env)) (Q:=fun _ s'=>SP X pins Ds .next s') rfl hs (gf (I.freeCells S)) S.kind S.loc
  (j4 (RR:=fun acc C=>compPost (model X.prog X.w) X.A X.xe (some (assign (.Name y pos') X.env)) (fun _ s'=>SP X pins Ds .next s') acc C) S hcalm hi hg hc he I h ?_)) (fun _ s' hq=>wpAny_pure (wpAny_pure hq)) fun _ _ e=>e)
 intro D C s' H' m I' hn q n1 n2 n3 n4 n5
 show wpAny _ X.A (assign (.Name y pos') X.env (.ref D)) _ _ _
 refine wpAny_assign_Name (jO (v:=.ref D) I' hN hy (.inl hl) rfl (fun s'' I'' hch=>?_) (.inr hl))
 obtain ⟨a,hsb,ha⟩:=hch;have hCa:C≠a:=by
  rcases ha with e | e
  ·rw [e];exact n2
  ·exact (n4 y a e).symm
 refine ⟨m,hn.sameBut hsb hCa,fun h' hs'=>?_⟩
 exact ⟨_,H',I''.turned (t':=s''.toks) (fun b o hb e=>(hs'.2 b hb).trans e) n1 n2 (.inr n3) n4 n5,q⟩
end
end L2
namespace T
open PySem PySem.Spec L2
open PyProof.Rows hiding St
abbrev D:=PyData
inductive Rep (K:Fg) (H:Hp):V->D->Prop where
 | non:Rep K H .non .none
 | bl (b:Bool):Rep K H (.bl b) (.bool b)
 | int (i:Int):Rep K H (.int i) (.int i)
 | str (x:Str):Rep K H (.str x) (.str x)
 | lst {p:Addr} {vs:List V} {ds:List D}:SqL K H p vs->vs.length=ds.length->(∀(i:Nat) v d,vs[i]?=some v->ds[i]?=some d->Rep K H v d)->Rep K H (.ref p) (.list ds)
 | tup {p:Addr} {vs:List V} {ds:List D}:SqT K H p vs->vs.length=ds.length->(∀(i:Nat) v d,vs[i]?=some v->ds[i]?=some d->Rep K H v d)->Rep K H (.ref p) (.tuple ds)
theorem gW {K:Fg} {H H':Hp} {a:Addr} {xs:List V} (e:Same H H') (h:SqT K H a xs):SqT K H' a xs:=by
 rcases h with (h | ⟨o,h⟩) | h
 ·exact .inl (.inl (e _ _ h))
 ·exact .inl (.inr ⟨o,e _ _ h⟩)
 ·exact .inr h
theorem Rep.mono {K:Fg} {H H':Hp} {v:V} {d:D} (e:Same H H') (h:Rep K H v d):Rep K H' v d:=by
 induction h with
 | non=>exact .non
 | bl b=>exact .bl b
 | int i=>exact .int i
 | str x=>exact .str x
 | lst hs hl _ ih=>exact .lst (e.seq hs) hl ih
 | tup hs hl _ ih=>exact .tup (gW e hs) hl ih
def Reps (K:Fg) (H:Hp) (vs:List V) (ds:List D):Prop:=vs.length=ds.length/\∀(i:Nat) v d,vs[i]?=some v->ds[i]?=some d->Rep K H v d
def bX (H:Hp) (O:List Addr):Hp:=fun a=>if a∈O then none else H a
theorem hid_le {H:Hp} {O:List Addr}:Same (bX H O) H:=fun b o h=>by
 unfold bX at h;split at h
 ·cases h
 ·exact h
theorem wm {H:Hp} {O:List Addr} {a:Addr} {o:HO} (h:H a=some o) (n:a∉O):bX H O a=some o:=by
 unfold bX;rw [if_neg n];exact h
theorem qw {H H':Hp} {O O':List Addr} (e:Same H H') (h:∀a∈O',a∈O\/H a=none):Same (bX H O) (bX H' O'):=fun b o q=>by
 unfold bX at q ⊢
 split at q
 ·cases q
 ·rename_i hn
  have hb:b∉O':=fun z=>(h b z).elim hn fun z=>by rw [z] at q;cases q
  rw [if_neg hb];exact e b o q
theorem GV {H:Hp} {O:List Addr} {p:Addr} {o:HO} (h:p∈O):bX (bx H p o) O=bX H O:=by
 funext b
 unfold bX;split
 ·rfl
 ·rename_i hb
  exact cQ fun e=>hb (e▸h)
theorem GU {H:Hp}:bX H []=H:=by
 funext b;unfold bX;simp
theorem gG {H:Hp} {p:Addr} {o:HO} (h:H p=none):Same H (bx H p o):=fun b u e=>by
 rw [cQ (kf e h)];exact e
inductive Sh where
 | view | leaf | lst (s:Sh) | tup (ss:List Sh)
def Sh.isView:Sh->Bool
 | .view=>true
 | _=>false
inductive Own (K:Fg) (O:List Addr) (H:Hp):Sh->List Addr->V->D->Prop where
 | view {v d}:Rep K H v d->Own K O H .view [] v d
 | leaf {v d}:Rep K (bX H O) v d->Own K O H .leaf [] v d
 | lst {s:Sh} {p:Addr} {vs:List V} {ds:List D} {Fs:List (List Addr)}:s.isView=false->H p=some (.lst vs)->vs.length=ds.length->Fs.length=ds.length->(p::Fs.flatten).Nodup ->
   (∀(i:Nat) v d F,vs[i]?=some v->ds[i]?=some d->Fs[i]?=some F->Own K O H s F v d)->Own K O H (.lst s) (p::Fs.flatten) (.ref p) (.list ds)
 | tup {ss:List Sh} {p:Addr} {vs:List V} {ds:List D} {Fs:List (List Addr)}:(∀s∈ss,s.isView=false)->H p=some (.tup vs)->p∉O->vs.length=ds.length->Fs.length=ds.length->ss.length=ds.length->Fs.flatten.Nodup ->
   (∀(i:Nat) v d F s,vs[i]?=some v->ds[i]?=some d->Fs[i]?=some F->ss[i]?=some s->Own K O H s F v d)->Own K O H (.tup ss) Fs.flatten (.ref p) (.tuple ds)
theorem Own.mono {K:Fg} {O O':List Addr} {H H':Hp} {s:Sh} {G:List Addr} {v:V} {d:D} (h:Own K O H s G v d) (e:Same H H') (hO:∀a∈O',a∈O\/H a=none):Own K O' H' s G v d:=by
 induction h with
 | view r=>exact .view (r.mono e)
 | leaf r=>exact .leaf (r.mono (qw e hO))
 | lst hv hp hl hf nd _ ih=>exact .lst hv (e _ _ hp) hl hf nd fun i v d F h1 h2 h3=>ih i v d F h1 h2 h3
 | tup hv hp hn hl hf hs nd _ ih=>exact .tup hv (e _ _ hp) (fun z=>(hO _ z).elim hn fun z=>by rw [z] at hp;cases hp) hl hf hs nd fun i v d F s h1 h2 h3 h4=>ih i v d F s h1 h2 h3 h4
theorem Own.rep {K:Fg} {O:List Addr} {H:Hp} {s:Sh} {G:List Addr} {v:V} {d:D} (h:Own K O H s G v d):Rep K H v d:=by
 induction h with
 | view r=>exact r
 | leaf r=>exact r.mono hid_le
 | lst hv hp hl hf _ q ih=>
  refine .lst (.of hp) hl fun i v d h1 h2=>?_
  rename_i Fs _;obtain ⟨F,hF⟩:∃F,Fs[i]?=some F:=by
   have:=(List.getElem?_eq_some_iff.mp h2).1
   exact ⟨Fs[i]'(by omega),getElem?_eq_getElem _⟩
  exact ih i v d F h1 h2 hF
 | tup hv hp hn hl hf hs _ q ih=>
  refine .tup (.of hp) hl fun i v d h1 h2=>?_
  rename_i ss _ _ _ Fs _;have hi:=(List.getElem?_eq_some_iff.mp h2).1
  exact ih i v d (Fs[i]'(by omega)) (ss[i]'(by omega)) h1 h2 (getElem?_eq_getElem _) (getElem?_eq_getElem _)
theorem nI {Fs:List (List Addr)} {i:Nat} {F:List Addr} {a:Addr} (h:Fs[i]?=some F) (ha:a∈F):a∈Fs.flatten:=List.mem_flatten.mpr ⟨F,mem_of_getElem? h,ha⟩
theorem Own.freeze {K:Fg} {O O':List Addr} {H:Hp} {s:Sh} {G:List Addr} {v:V} {d:D} (h:Own K O H s G v d) (hs:s.isView=false) (h1:∀a∈O',a∈O) (h2:∀a∈G,a∉O'):Rep K (bX H O') v d:=by
 induction h with
 | view r=>cases hs
 | leaf r=>exact r.mono (qw (Same.refl _) fun a z=>.inl (h1 a z))
 | lst hv hp hl hf _ q ih=>
  refine .lst (.of (wm hp (h2 _ mem_cons_self))) hl fun i v d e1 e2=>?_
  rename_i Fs _;obtain ⟨F,hF⟩:∃F,Fs[i]?=some F:=by
   have:=(List.getElem?_eq_some_iff.mp e2).1
   exact ⟨Fs[i]'(by omega),getElem?_eq_getElem _⟩
  exact ih i v d F e1 e2 hF hv fun a ha=>h2 a (mem_cons_of_mem _ (nI hF ha))
 | tup hv hp hn hl hf hs' _ q ih=>
  refine .tup (.of (wm hp fun z=>hn (h1 _ z))) hl fun i v d e1 e2=>?_
  rename_i ss _ _ _ Fs _;have hi:=(List.getElem?_eq_some_iff.mp e2).1
  have e3:Fs[i]?=some (Fs[i]'(by omega)):=getElem?_eq_getElem _
  exact ih i v d _ (ss[i]'(by omega)) e1 e2 e3 (getElem?_eq_getElem _) (hv _ (getElem_mem _)) fun a ha=>h2 a (nI e3 ha)
theorem Own.mut {K:Fg} {O:List Addr} {H:Hp} {s:Sh} {G:List Addr} {v:V} {d:D} {p:Addr} {o:HO} {xs:List V} (h:Own K O H s G v d) (hs:s.isView=false) (hp:p∈O) (hg:p∉G) (hl:H p=some (.lst xs)):Own K O (bx H p o) s G v d:=by
 induction h with
 | view r=>cases hs
 | leaf r=>refine .leaf ?_;rw [GV hp];exact r
 | lst hv hq hl' hf nd q ih=>
  refine .lst hv ?_ hl' hf nd fun i v d F e1 e2 e3=>ih i v d F e1 e2 e3 hv fun z=>hg (mem_cons_of_mem _ (nI e3 z))
  rw [cQ (fun z=>hg (by rw [<-z];exact mem_cons_self))]
  exact hq
 | tup hv hq hn hl' hf hs' nd q ih=>
  refine .tup hv ?_ hn hl' hf hs' nd fun i v d F s e1 e2 e3 e4=>ih i v d F s e1 e2 e3 e4 (hv _ (mem_of_getElem? e4)) fun z=>hg (nI e3 z)
  rw [cQ (fun z=>by rw [z,hl] at hq;cases hq)]
  exact hq
inductive Sc:V->D->Prop where
 | non:Sc .non .none
 | bl (b:Bool):Sc (.bl b) (.bool b)
 | int (i:Int):Sc (.int i) (.int i)
 | str (x:Str):Sc (.str x) (.str x)
theorem Sc.rep {K:Fg} {H:Hp} {v:V} {d:D} (h:Sc v d):Rep K H v d:=by cases h<;>constructor
def bD:D->Bool
 | .list _=>false
 | .tuple _=>false
 | .dict _=>false
 | _=>true
theorem Rep.sc {K:Fg} {H:Hp} {v:V} {d:D} (h:Rep K H v d) (s:bD d=true):Sc v d:=by
 cases h with
 | non=>exact .non
 | bl b=>exact .bl b
 | int i=>exact .int i
 | str x=>exact .str x
 | lst _ _ _=>cases s
 | tup _ _ _=>cases s
structure PV where
 s:Sh
 d:D
abbrev Ev:=List (Option PV)
inductive Out (α:Type) where
 | ok (a:α) (e:Ev)
 | er (c:Str) (e:Ev)
 | no
def Out.bind {α β:Type} (x:Out α) (k:α->Ev->Out β):Out β:=match x with
 | .ok a e=>k a e
 | .er c e=>.er c e
 | .no=>.no
structure EnvOk (K:Fg) (He:Hp) (O:List Addr) (Fs:List (List Addr)) (H:Hp) (σ:St) (Γ:Ev):Prop where
 len1:σ.length=Γ.length
 len2:Fs.length=Γ.length
 same:Same He H
 nd:(O++Fs.flatten).Nodup
 inH:∀a∈O++Fs.flatten,H a≠none
 fresh:∀a∈Fs.flatten,He a=none
 slot:∀(i:Nat) (p:PV),Γ[i]?=some (some p)->p.s.isView=false/\∃v F,σ[i]?=some (some v)/\Fs[i]?=some F/\Own K (O++Fs.flatten) H p.s F v p.d
section
variable {K:Fg} {He H H':Hp} {O O' G:List Addr} {Fs:List (List Addr)} {σ:St} {Γ:Ev}
theorem EnvOk.grow (h:EnvOk K He O Fs H σ Γ) (e:Same H H'):EnvOk K He O Fs H' σ Γ:=
 ⟨h.len1,h.len2,h.same.trans e,h.nd,fun a ha z=>h.inH a ha (e.free z),h.fresh,fun i p q=>let ⟨a,v,F,b,c,d⟩:=h.slot i p q;⟨a,v,F,b,c,d.mono e fun _ z=>.inl z⟩⟩
theorem EnvOk.drop (h:EnvOk K He O Fs H σ Γ) (hs:∀a∈O',a∈O) (nd:O'.Nodup):EnvOk K He O' Fs H σ Γ:=by
 obtain ⟨n1,n2,n3⟩:=List.nodup_append.mp h.nd;refine ⟨h.len1,h.len2,h.same,List.nodup_append.mpr ⟨nd,n2,fun a ha b hb=>n3 a (hs a ha) b hb⟩,fun a ha=>h.inH a ?_,h.fresh,fun i p q=>let ⟨a,v,F,b,c,d⟩:=h.slot i p q;⟨a,v,F,b,c,d.mono (Same.refl _) fun a z=>.inl ?_⟩⟩
 ·rcases List.mem_append.mp ha with z | z
  ·exact mem_append_left _ (hs a z)
  ·exact mem_append_right _ z
 ·rcases List.mem_append.mp z with z | z
  ·exact mem_append_left _ (hs a z)
  ·exact mem_append_right _ z
theorem EnvOk.dropL (h:EnvOk K He (G++O) Fs H σ Γ):EnvOk K He O Fs H σ Γ:=h.drop (fun a z=>mem_append_right _ z) (List.nodup_append.mp (List.nodup_append.mp h.nd).1).2.1
theorem EnvOk.hide (h:EnvOk K He O Fs H σ Γ) (e:Same H H') (nd:G.Nodup) (hn:∀a∈G,H a=none) (hi:∀a∈G,H' a≠none):EnvOk K He (G++O) Fs H' σ Γ:=by
 refine ⟨h.len1,h.len2,h.same.trans e,?_,fun a ha=>?_,h.fresh,fun i p q=>let ⟨a,v,F,b,c,d⟩:=h.slot i p q;⟨a,v,F,b,c,d.mono e fun a z=>?_⟩⟩
 ·rw [append_assoc]
  exact List.nodup_append.mpr ⟨nd,h.nd,fun a ha b hb z=>h.inH b hb (by rw [<-z];exact hn a ha)⟩
 ·rw [append_assoc] at ha
  rcases List.mem_append.mp ha with z | z
  ·exact hi a z
  ·exact fun q=>h.inH a z (e.free q)
 ·rw [append_assoc] at z
  rcases List.mem_append.mp z with z | z
  ·exact .inr (hn a z)
  ·exact .inl z
end
structure Aft (K:Fg) (He:Hp) (O:List Addr) (Fs:List (List Addr)) (H:Hp) (σ:St) (Γ':Ev) (p:PV) (v:V) (H':Hp) (G:List Addr) (Fs':List (List Addr)):Prop where
 same:Same H H'
 env:EnvOk K He (G++O) Fs' H' σ Γ'
 new:∀a∈G++Fs'.flatten,a∈Fs.flatten\/H a=none
 own:Own K (G++O++Fs'.flatten) H' p.s G v p.d
abbrev XW:=Str->St->Hp->Prop
abbrev F1:=Ev->Out PV
def tE (K:Fg) (W:XW) (f:F1):TE:=fun σ H Q=>∃He O Fs Γ,EnvOk K He O Fs H σ Γ/\match f Γ with
 | .ok p Γ'=>∀v H' G Fs',Aft K He O Fs H σ Γ' p v H' G Fs'->Q v H'
 | .er c Γ'=>∀H' Fs',Same H H'->EnvOk K He O Fs' H' σ Γ'->W c σ H'
 | .no=>False
def Wants (K:Fg) (W:XW) (He:Hp) (O:List Addr) (Fs:List (List Addr)) (H:Hp) (σ:St) (Q:VK) (o:Out PV):Prop:=match o with
 | .ok p Γ'=>∀v H' G Fs',Aft K He O Fs H σ Γ' p v H' G Fs'->Q v H'
 | .er c Γ'=>∀H' Fs',Same H H'->EnvOk K He O Fs' H' σ Γ'->W c σ H'
 | .no=>False
section
variable {K:Fg} {W:XW} {He H:Hp} {O:List Addr} {Fs:List (List Addr)} {σ:St} {Γ Γ':Ev} {Q:VK}
theorem Wants.scal {H2:Hp} {O2:List Addr} {Fs2:List (List Addr)} {v:V} {d:D} (h:Wants K W He O Fs H σ Q (.ok ⟨.leaf,d⟩ Γ')) (s:Sc v d) (e:Same H H2) (E:EnvOk K He O2 Fs2 H2 σ Γ')
  (hO:∀a∈O,a∈O2) (nd:O.Nodup) (new:∀a∈Fs2.flatten,a∈Fs.flatten\/H a=none):Q v H2:=
 h v H2 [] Fs2 ⟨e,by rw [nil_append];exact E.drop hO nd,by rw [nil_append];exact new,.leaf s.rep⟩
theorem EnvOk.ndO (E:EnvOk K He O Fs H σ Γ):O.Nodup:=(List.nodup_append.mp E.nd).1
end
def aV {β:Type} (f:F1) (k:PV->Ev->Out β):Ev->Out β:=fun Γ=>(f Γ).bind k
section
variable {K:Fg} {W:XW} {σ:St} {H:Hp} {Q:VK} {fa fb:F1}
theorem wz {k:PV->F1} {R:VK} (h:tE K W (aV fa k) σ H Q)
  (hk:∀He O Fs Γ1 p v H1 G Fs1,O.Nodup->Aft K He O Fs H σ Γ1 p v H1 G Fs1->Wants K W He O Fs H σ Q (k p Γ1)->R v H1):tE K W fa σ H R:=by
 obtain ⟨He,O,Fs,Γ,E,h⟩:=h;refine ⟨He,O,Fs,Γ,E,?_⟩
 unfold aV at h
 cases e:fa Γ with
 | ok p Γ1=>
  rw [e] at h;exact fun v H' G Fs' A=>hk He O Fs Γ1 p v H' G Fs' E.ndO A h
 | er c Γ1=>
  rw [e] at h;exact h
 | no=>
  rw [e] at h;exact h
theorem C4 {k:PV->PV->F1} {R:V->V->Hp->Prop} (h:tE K W (aV fa fun p=>aV fb fun q=>k p q) σ H Q)
  (hk:∀He O Fs Γ2 p q v u H1 H2 G1 G2 Fs2,O.Nodup->Same H H1->Same H1 H2->EnvOk K He (G2++(G1++O)) Fs2 H2 σ Γ2->(∀a∈G2++(G1++Fs2.flatten),a∈Fs.flatten\/H a=none) ->
   Own K (G2++(G1++O)++Fs2.flatten) H2 p.s G1 v p.d->Own K (G2++(G1++O)++Fs2.flatten) H2 q.s G2 u q.d->Wants K W He O Fs H σ Q (k p q Γ2)->R v u H2) :
  tE K W fa σ H fun v H1=>tE K W fb σ H1 fun u H2=>R v u H2:=by
 refine wz (k:=fun p=>aV fb fun q=>k p q) h fun He O Fs Γ1 p v H1 G1 Fs1 nd A1 h1=>?_
 refine ⟨He,G1++O,Fs1,Γ1,A1.env,?_⟩
 unfold aV at h1
 cases e:fb Γ1 with
 | ok q Γ2=>
  rw [e] at h1;intro u H2 G2 Fs2 A2;have new:∀a∈G2++(G1++Fs2.flatten),a∈Fs.flatten\/H a=none:=fun a ha=>by
   have up:a∈G1++Fs1.flatten->a∈Fs.flatten\/H a=none:=A1.new a
   rcases List.mem_append.mp ha with z | z
   ·rcases A2.new a (mem_append_left _ z) with y | y
    ·exact up (mem_append_right _ y)
    ·exact .inr (A1.same.free y)
   ·rcases List.mem_append.mp z with z | z
    ·exact up (mem_append_left _ z)
    ·rcases A2.new a (mem_append_right _ z) with y | y
     ·exact up (mem_append_right _ y)
     ·exact .inr (A1.same.free y)
  refine hk He O Fs Γ2 p q v u H1 H2 G1 G2 Fs2 nd A1.same A2.same A2.env new (A1.own.mono A2.same fun a ha=>?_) A2.own h1
  rcases List.mem_append.mp ha with z | z
  ·rcases List.mem_append.mp z with z | z
   ·rcases A2.new a (mem_append_left _ z) with y | y
    ·exact .inl (mem_append_right _ y)
    ·exact .inr y
   ·exact .inl (mem_append_left _ z)
  ·rcases A2.new a (mem_append_right _ z) with y | y
   ·exact .inl (mem_append_right _ y)
   ·exact .inr y
 | er c Γ2=>
  rw [e] at h1;intro H2 Fs2 hs E2;exact h1 H2 Fs2 (A1.same.trans hs) E2.dropL
 | no=>
  rw [e] at h1;exact h1
end
section
variable {X:Cx} {e:Expr}
theorem aY {t t':TE} (h:PE X e t) (i:∀σ H Q,t' σ H Q->t σ H Q):PE X e t':=fun pins s σ H Q I q=>h pins s σ H Q I (i σ H Q q)
theorem qq {t t':TT} (h:PT X e t) (i:∀σ H Q,t' σ H Q->t σ H Q):PT X e t':=fun pins s σ H Q I q=>h pins s σ H Q I (i σ H Q q)
theorem zU {t t':TT} (h:PW X e t) (i:∀σ H Q,t' σ H Q->t σ H Q):PW X e t':=fun whole pins s σ H Q I q=>h whole pins s σ H Q I (i σ H Q q)
theorem zV {es:List Expr} {t t':TA} (h:PA X es t) (i:∀σ H Q,t' σ H Q->t σ H Q):PA X es t':=fun pos pins s σ H Q I q=>h pos pins s σ H Q I (i σ H Q q)
theorem eo {st:Stmt} {t t':TS} (h:PS X st t) (i:∀D σ H,t' D σ H->t D σ H):PS X st t':=fun pins s σ H D I q=>h pins s σ H D I (i D σ H q)
theorem wa {st:List Stmt} {t t':TS} (h:PSs X st t) (i:∀D σ H,t' D σ H->t D σ H):PSs X st t':=fun pins s σ H D I q=>h pins s σ H D I (i D σ H q)
theorem EW {es:List Expr} {t t':TT} (h:PF X es t) (i:∀σ H Q,t' σ H Q->t σ H Q):PF X es t':=fun pins s σ H Q I q=>h pins s σ H Q I (i σ H Q q)
end
theorem Im {h:Heap}:∀{vs:List V} {its:List Value} {ds:List D},Vals vs its->vs.length=ds.length->(∀(i:Nat) v d,vs[i]?=some v->ds[i]?=some d->∀u,RelV v u->∃as,Reads h u d as)->∃as,ReadsAll h its ds as
 | _,_,[],.nil,_,_=>⟨_,.nil⟩
 | _,_,d::ds,.cons (a:=v) (b:=u) r t,hl,h=>by
  obtain ⟨as,ra⟩:=h 0 v d rfl rfl u r;obtain ⟨bs,rb⟩:=Im t (by simpa using hl) fun i v d h1 h2=>h (i+1) v d (by simpa using h1) (by simpa using h2)
  exact ⟨_,.cons ra rb⟩
 | _,_,[],.cons _ _,hl,_=>by simp at hl
 | _,_,_::_,.nil,hl,_=>by simp at hl
theorem Rep.reads {X:Cx} {pins:List (Addr×Obj)} {σ:St} {H:Hp} {s:Shared} {x:V} {d:D} (I:Inv X pins σ H s) (r:Rep X.K H x d):∀u,RelV x u->∃as,Reads s.heap u d as:=by
 induction r with
 | non=>rintro u rfl;exact ⟨_,.none⟩
 | bl b=>rintro u rfl;exact ⟨_,.bool b⟩
 | int i=>rintro u ⟨t,rfl⟩;exact ⟨_,.int i t⟩
 | str x=>rintro u ⟨t,rfl⟩;exact ⟨_,.str x t⟩
 | lst hq hl _ ih=>
  rintro u rfl
  obtain ⟨its,rv,⟨o,n,e1,e2,e3,e4⟩,_⟩:=I.list hq;obtain ⟨as,ra⟩:=Im rv hl ih;exact ⟨_,.list e1 e2 e4 (by simpa using ra)⟩
 | tup hq hl _ ih=>
  rintro u rfl
  obtain ⟨its,rv,⟨o,e1,e2,n,e4⟩,_⟩:=I.tuple hq;obtain ⟨as,ra⟩:=Im rv hl ih;exact ⟨_,.tuple e1 e2 e4 (by simpa using ra)⟩
theorem o9 {α:Type} {F G:List α}:∀{Fs:List (List α)} {i:Nat},Fs[i]?=some F->(F++(Fs.set i G).flatten).Perm (G++Fs.flatten)
 | [],_,h=>by simp at h
 | A::r,0,h=>by
  simp at h
  subst h;simp only [List.set_cons_zero,flatten_cons]
  rw [<-append_assoc,<-append_assoc];exact List.Perm.append_right _ perm_append_comm
 | A::r,i+1,h=>by
  have ih:=o9 (G:=G) (Fs:=r) (i:=i) (by simpa using h)
  simp only [List.set_cons_succ,flatten_cons]
  calc (F++(A++(r.set i G).flatten)).Perm (A++(F++(r.set i G).flatten)):=by
        rw [<-append_assoc,<-append_assoc];exact List.Perm.append_right _ perm_append_comm
    _ |>.Perm (A++(G++r.flatten)):=List.Perm.append_left _ ih
    _ |>.Perm (G++(A++r.flatten)):=by
        rw [<-append_assoc,<-append_assoc];exact List.Perm.append_right _ perm_append_comm
section
variable {K:Fg} {He H:Hp} {O G:List Addr} {Fs:List (List Addr)} {σ:St} {Γ:Ev}
theorem EnvOk.lt (E:EnvOk K He O Fs H σ Γ) {i:Nat} (h:i<Γ.length):∃F,Fs[i]?=some F:=⟨Fs[i]'(by rw [E.len2];exact h),getElem?_eq_getElem _⟩
theorem EnvOk.move {i:Nat} {p:PV} (E:EnvOk K He O Fs H σ Γ) (h:Γ[i]?=some (some p)) :
  p.s.isView=false/\∃v F,σ[i]?=some (some v)/\EnvOk K He (F++O) (Fs.set i []) H σ (Γ.set i none)/\Own K (F++O++(Fs.set i []).flatten) H p.s F v p.d/\(∀a∈F++(Fs.set i []).flatten,a∈Fs.flatten):=by
 obtain ⟨hv,v,F,h1,h2,h3⟩:=E.slot i p h;have pm:(F++(Fs.set i []).flatten).Perm Fs.flatten:=by simpa using o9 (G:=[]) h2
 have pm2:(F++O++(Fs.set i []).flatten).Perm (O++Fs.flatten):=by
  rw [append_assoc]
  calc (F++(O++(Fs.set i []).flatten)).Perm (O++(F++(Fs.set i []).flatten)):=by
        rw [<-append_assoc,<-append_assoc];exact List.Perm.append_right _ perm_append_comm
    _ |>.Perm (O++Fs.flatten):=List.Perm.append_left _ pm
 refine ⟨hv,v,F,h1,⟨by rw [length_set];exact E.len1,by rw [length_set,length_set];exact E.len2,E.same,pm2.nodup_iff.mpr E.nd,fun a ha=>E.inH a (pm2.mem_iff.mp ha),fun a ha=>E.fresh a (pm.mem_iff.mp (mem_append_right _ ha)),fun j q hq=>?_⟩,h3.mono (Same.refl _) fun a ha=>.inl (pm2.mem_iff.mp ha),fun a ha=>pm.mem_iff.mp ha⟩
 by_cases hj:j=i
 ·subst hj
  rw [List.getElem?_set] at hq;split at hq
  ·split at hq<;>cases hq
  ·rename_i z
   exact absurd rfl z
 ·rw [getElem?_set_ne (Ne.symm hj)] at hq
  obtain ⟨w1,v',F',e1,e2,e3⟩:=E.slot j q hq;exact ⟨w1,v',F',e1,by rw [getElem?_set_ne (Ne.symm hj)];exact e2,e3.mono (Same.refl _) fun a ha=>.inl (pm2.mem_iff.mp ha)⟩
theorem EnvOk.put {i:Nat} {p:PV} {v:V} (E:EnvOk K He (G++O) Fs H σ Γ) (ho:Own K (G++O++Fs.flatten) H p.s G v p.d) (hv:p.s.isView=false) (hn:∀a∈G,He a=none) (hi:i<Γ.length) :
  EnvOk K He O (Fs.set i G) H (σ.set i (some v)) (Γ.set i (some p)):=by
 obtain ⟨F,hF⟩:=E.lt hi;have pm:=o9 (G:=G) hF
 have nd:=E.nd
 rw [append_assoc] at nd;have sub:∀a∈O++(Fs.set i G).flatten,a∈G++O++Fs.flatten:=fun a ha=>by
  rw [append_assoc];rcases List.mem_append.mp ha with z | z
  ·exact mem_append_right _ (mem_append_left _ z)
  ·rcases List.mem_append.mp (pm.mem_iff.mp (mem_append_right _ z)) with y | y
   ·exact mem_append_left _ y
   ·exact mem_append_right _ (mem_append_right _ y)
 refine ⟨by rw [length_set,length_set];exact E.len1,by rw [length_set,length_set];exact E.len2,E.same,?_,fun a ha=>E.inH a (sub a ha),fun a ha=>?_,fun j q hq=>?_⟩
 ·have p1:(O++(F++(Fs.set i G).flatten)).Perm (G++(O++Fs.flatten)):=by
   calc (O++(F++(Fs.set i G).flatten)).Perm (O++(G++Fs.flatten)):=List.Perm.append_left _ pm
     _ |>.Perm (G++(O++Fs.flatten)):=by
       rw [<-append_assoc,<-append_assoc];exact List.Perm.append_right _ perm_append_comm
  have p2:=p1.nodup_iff.mpr nd
  refine p2.sublist ?_
  exact List.Sublist.append_left (List.sublist_append_right _ _) _
 ·rcases List.mem_append.mp (pm.mem_iff.mp (mem_append_right _ ha)) with y | y
  ·exact hn a y
  ·exact E.fresh a y
 ·by_cases hj:j=i
  ·subst hj
   rw [getElem?_set_self hi] at hq
   cases hq;refine ⟨hv,v,G,?_,?_,ho.mono (Same.refl _) fun a ha=>.inl (sub a ha)⟩
   ·rw [getElem?_set_self (by rw [E.len1];exact hi)]
   ·rw [getElem?_set_self (by rw [E.len2];exact hi)]
  ·rw [getElem?_set_ne (Ne.symm hj)] at hq
   obtain ⟨w1,v',F',e1,e2,e3⟩:=E.slot j q hq;exact ⟨w1,v',F',by rw [getElem?_set_ne (Ne.symm hj)];exact e1,by rw [getElem?_set_ne (Ne.symm hj)];exact e2,e3.mono (Same.refl _) fun a ha=>.inl (sub a ha)⟩
theorem Aft.freshG {Γ':Ev} {p:PV} {v:V} {H':Hp} {Fs':List (List Addr)} (E:EnvOk K He O Fs H σ Γ) (A:Aft K He O Fs H σ Γ' p v H' G Fs'):∀a∈G,He a=none:=fun a ha=>by
 rcases A.new a (mem_append_left _ ha) with z | z
 ·exact E.fresh a z
 ·exact E.same.free z
end
def ae (i:Nat):F1:=fun Γ=>match Γ[i]? with
 | some (some p)=>(match p.s with
  | .leaf=>.ok ⟨.leaf,p.d⟩ Γ
  | _=>.ok ⟨.view,p.d⟩ Γ)
 | _=>.no
def b9 (i:Nat):F1:=fun Γ=>match Γ[i]? with
 | some (some p)=>.ok p (Γ.set i none)
 | _=>.no
def eK (d:D):F1:=fun Γ=>.ok ⟨.leaf,d⟩ Γ
section
variable {X:Cx} {W:XW} {i:Nat} {e:Expr} {pos:Pos}
theorem AJ {K:Fg} {σ:St} {H:Hp} {Q:VK} (h:tE K W (ae i) σ H Q):bh i σ H Q:=by
 obtain ⟨He,O,Fs,Γ,E,h⟩:=h;unfold ae at h
 cases e:Γ[i]? with
 | none=>rw [e] at h;exact h.elim
 | some o=>
  rw [e] at h
  cases o with
  | none=>exact h.elim
  | some p=>
   obtain ⟨hv,v,F,h1,h2,h3⟩:=E.slot i p e;obtain ⟨s,d⟩:=p;have new:∀a∈[]++Fs.flatten,a∈Fs.flatten\/H a=none:=fun a ha=>.inl (by simpa using ha)
   cases s with
   | leaf=>
    cases h3 with
    | leaf r=>exact ⟨v,h1,h v H [] Fs ⟨Same.refl _,by simpa using E,new,.leaf r⟩⟩
   | view=>cases hv
   | lst s=>exact ⟨v,h1,h v H [] Fs ⟨Same.refl _,by simpa using E,new,.view h3.rep⟩⟩
   | tup ss=>exact ⟨v,h1,h v H [] Fs ⟨Same.refl _,by simpa using E,new,.view h3.rep⟩⟩
theorem xt {K:Fg} {σ:St} {H:Hp} {Q:VK} (h:tE K W (b9 i) σ H Q):bh i σ H Q:=by
 obtain ⟨He,O,Fs,Γ,E,h⟩:=h;unfold b9 at h
 cases e:Γ[i]? with
 | none=>rw [e] at h;exact h.elim
 | some o=>
  rw [e] at h
  cases o with
  | none=>exact h.elim
  | some p=>
   obtain ⟨hv,v,F,h1,E',o',sub⟩:=E.move e;exact ⟨v,h1,h v H F (Fs.set i []) ⟨Same.refl _,E',fun a ha=>.inl (sub a ha),o'⟩⟩
theorem CH (h:PE X e (bh i)):PE X e (tE X.K W (ae i)):=aY h fun _ _ _=>AJ
theorem yK (h:PE X e (bh i)):PE X e (tE X.K W (b9 i)):=aY h fun _ _ _=>xt
theorem uo {K:Fg} {σ:St} {H:Hp} {Q:VK} {v:V} {d:D} (hs:∀H,Rep K H v d) (h:tE K W (eK d) σ H Q):Q v H:=by
 obtain ⟨He,O,Fs,Γ,E,h⟩:=h;exact h v H [] Fs ⟨Same.refl _,by simpa using E,fun a ha=>.inl (by simpa using ha),.leaf (hs _)⟩
theorem yL {x:Str} {v:V} {u:Value} {d:D} (hg:Gl X x) (hm:X.mg x=some u) (r:RelV v u) (hr:∀H,Rep X.K H v d) (hd:(x==("__debug__":Str))=false:=by decide):PE X (.Name x pos) (tE X.K W (eK d)):=
 aY (xR hg hm r hd) fun _ _ _=>uo hr
end
def aA (g:D->D->Option D) (fa fb:F1):F1:=aV fa fun p=>aV fb fun q=>fun Γ=>match g p.d q.d with
 | some d=>.ok ⟨.leaf,d⟩ Γ
 | none=>.no
def GOp (K:Fg) (r:R2) (g:D->D->Option D):Prop:=∀x y H Q a b d,Rep K H x a->Rep K H y b->g a b=some d->(∀v,Sc v d->Q v H)->r x y H Q
section
variable {K:Fg} {W:XW} {σ:St} {H:Hp} {Q:VK} {fa fb:F1} {r:R2} {g:D->D->Option D}
theorem gL (hg:GOp K r g) (h:tE K W (aA g fa fb) σ H Q):wI r (tE K W fa) (tE K W fb) σ H Q:=by
 refine C4 h ?_
 intro He O Fs Γ2 p q v u H1 H2 G1 G2 Fs2 nd s1 s2 E new o1 o2 w
 cases e:g p.d q.d with
 | none=>rw [e] at w;exact w.elim
 | some d=>
  rw [e] at w;exact hg v u H2 Q p.d q.d d o1.rep o2.rep e fun z s=>w.scal s (s1.trans s2) E (fun a ha=>mem_append_right _ (mem_append_right _ ha)) nd fun a ha=>new a (mem_append_right _ (mem_append_right _ ha))
end
theorem GOp.or {K:Fg} {r r':R2} {g g':D->D->Option D} (h:GOp K r g) (h':GOp K r' g'):GOp K (fun x y H Q=>r x y H Q\/r' x y H Q) (fun a b=>(g a b).or (g' a b)):=by
 intro x y H Q a b d ra rb e k;have e:(g a b).or (g' a b)=some d:=e
 cases e1:g a b with
 | some z=>rw [e1] at e;cases e;exact .inl (h x y H Q a b _ ra rb e1 k)
 | none=>rw [e1] at e;exact .inr (h' x y H Q a b d ra rb (by simpa using e) k)
def gI (C:Int->Int->Bool) (f:Int->Int->D):D->D->Option D
 | .int i,.int j=>if C i j then some (f i j) else none
 | _,_=>none
theorem qf {K:Fg} {C:Int->Int->Prop} {C':Int->Int->Bool} {g:Int->Int->V} {f:Int->Int->D} (hC:∀i j,C' i j=true->C i j) (hs:∀i j,Sc (g i j) (f i j)):GOp K (rI C g) (gI C' f):=by
 intro x y H Q a b d ra rb e k
 cases ra<;>cases rb<;>simp only [gI] at e<;>try cases e
 rename_i i j;split at e
 ·rename_i c
  cases e;exact ⟨i,j,rfl,rfl,hC i j c,k _ (hs i j)⟩
 ·cases e
def zQ (f:Int->Int->D):D->D->Option D
 | .int i,.int j=>some (f i j)
 | _,_=>none
theorem C1 {K:Fg} {g:Int->Int->V} {f:Int->Int->D} (hs:∀i j,Sc (g i j) (f i j)):GOp K (pO g) (zQ f):=by
 intro x y H Q a b d ra rb e k
 cases ra<;>cases rb<;>simp only [zQ] at e<;>try cases e
 rename_i i j;exact ⟨i,j,rfl,rfl,k _ (hs i j)⟩
abbrev gSub:=zQ fun i j=>.int (i-j)
abbrev aS:=zQ fun i j=>.int (i+j)
def sD (i j:Int):Bool:=(decide (-(2 ^ 64)<i)&&decide (i<2 ^ 64))||(decide (-(2 ^ 64)<j)&&decide (j<2 ^ 64))
abbrev hZ:=gI sD fun i j=>.int (i*j)
def yW (_ j:Int):Bool:=decide (0<j)&&decide (j<1073741824)
abbrev vz:=gI yW fun i j=>.int (i / j)
def yV (_ j:Int):Bool:=decide (0<j)
abbrev fo:=gI yV fun i j=>.int (i % j)
def yU (i j:Int):Bool:=decide (0<=j)&&decide (j<=1000000)&&decide (i.natAbs<2 ^ 64)
abbrev yz:=gI yU fun i j=>.int (i ^ j.toNat)
mutual
def Sh.same:Sh->Sh->Bool
 | .view,.view=>true
 | .leaf,.leaf=>true
 | .lst a,.lst b=>Sh.same a b
 | .tup as,.tup bs=>Sh.sameL as bs
 | _,_=>false
def Sh.sameL:List Sh->List Sh->Bool
 | [],[]=>true
 | a::as,b::bs=>Sh.same a b&&Sh.sameL as bs
 | _,_=>false
end
mutual
theorem Sh.same_eq:∀{a b:Sh},Sh.same a b=true->a=b
 | .view,.view,_=>rfl
 | .leaf,.leaf,_=>rfl
 | .lst a,.lst b,h=>by rw [Sh.same_eq (a:=a) (b:=b) (by simpa [Sh.same] using h)]
 | .tup as,.tup bs,h=>by rw [Sh.sameL_eq (as:=as) (bs:=bs) (by simpa [Sh.same] using h)]
 | .view,.leaf,h=>by simp [Sh.same] at h
 | .view,.lst _,h=>by simp [Sh.same] at h
 | .view,.tup _,h=>by simp [Sh.same] at h
 | .leaf,.view,h=>by simp [Sh.same] at h
 | .leaf,.lst _,h=>by simp [Sh.same] at h
 | .leaf,.tup _,h=>by simp [Sh.same] at h
 | .lst _,.view,h=>by simp [Sh.same] at h
 | .lst _,.leaf,h=>by simp [Sh.same] at h
 | .lst _,.tup _,h=>by simp [Sh.same] at h
 | .tup _,.view,h=>by simp [Sh.same] at h
 | .tup _,.leaf,h=>by simp [Sh.same] at h
 | .tup _,.lst _,h=>by simp [Sh.same] at h
theorem Sh.sameL_eq:∀{as bs:List Sh},Sh.sameL as bs=true->as=bs
 | [],[],_=>rfl
 | a::as,b::bs,h=>by
  have h:Sh.same a b=true/\Sh.sameL as bs=true:=by simpa [Sh.sameL] using h
  rw [Sh.same_eq h.1,Sh.sameL_eq h.2]
 | [],_::_,h=>by simp [Sh.sameL] at h
 | _::_,[],h=>by simp [Sh.sameL] at h
end
def coer (s:Sh) (p:PV):Bool:=match s with
 | .leaf=>!p.s.isView||bD p.d
 | .view=>false
 | s=>Sh.same s p.s
def aP (s:Sh) (G:List Addr):List Addr:=match s with
 | .leaf=>[]
 | _=>G
theorem HR {s:Sh} {G:List Addr} {a:Addr} (h:a∈aP s G):a∈G:=by
 unfold aP at h;split at h
 ·simp at h
 ·exact h
theorem Own.coer {K:Fg} {O O':List Addr} {H:Hp} {s:Sh} {p:PV} {G:List Addr} {v:V} (h:Own K O H p.s G v p.d) (c:coer s p=true) (h1:∀a∈O',a∈O) (h2:∀a∈G,a∈O'->a∈aP s G):Own K O' H s (aP s G) v p.d:=by
 cases s with
 | view=>simp [T.coer] at c
 | leaf=>
  show Own K O' H .leaf [] v p.d
  have c:(!p.s.isView||bD p.d)=true:=c
  cases hv:p.s.isView with
  | false=>exact .leaf (h.freeze hv h1 fun a ha z=>by simpa [aP] using h2 a ha z)
  | true=>
   rw [hv] at c;exact .leaf (h.rep.sc (by simpa using c)).rep
 | lst s=>
  have e:Sh.lst s=p.s:=Sh.same_eq c
  show Own K O' H (.lst s) G v p.d
  rw [e];exact h.mono (Same.refl _) fun a ha=>.inl (h1 a ha)
 | tup ss=>
  have e:Sh.tup ss=p.s:=Sh.same_eq c
  show Own K O' H (.tup ss) G v p.d
  rw [e];exact h.mono (Same.refl _) fun a ha=>.inl (h1 a ha)
open PySem.SeqAt in
def df:D->D->Option D:=fun a b=>if shaped a&&shaped b then some (.bool (PyData.eqv a b)) else none
open PySem.SeqAt in
def mG:D->D->Option D:=fun a b=>if shaped a&&shaped b then some (.bool (!PyData.eqv a b)) else none
open PySem.SeqAt in
def qX (K:Fg) (neg:Bool):R2:=fun x y H Q=>∃a b,Rep K H x a/\Rep K H y b/\shaped a=true/\shaped b=true/\Q (.bl (if neg then !PyData.eqv a b else PyData.eqv a b)) H
section
variable {X:Cx}
theorem BQ (hu:X.A.units+64<cLine):OpR X (compareOp .Eq) (qX X.K false):=by
 intro pins s σ H x y v u Q I rx ry h;obtain ⟨a,b,ra,rb,sa,sb,q⟩:=h;obtain ⟨as,r1⟩:=ra.reads I v rx;obtain ⟨bs,r2⟩:=rb.reads I u ry;exact SeqAt.compareEq_shaped r1 r2 sa sb hu ⟨.bl _,H,I,rfl,q⟩
theorem BL (hu:X.A.units+64<cLine):OpR X (compareOp .NotEq) (qX X.K true):=by
 intro pins s σ H x y v u Q I rx ry h;obtain ⟨a,b,ra,rb,sa,sb,q⟩:=h;obtain ⟨as,r1⟩:=ra.reads I v rx;obtain ⟨bs,r2⟩:=rb.reads I u ry;exact SeqAt.compareNe_shaped r1 r2 sa sb hu ⟨.bl _,H,I,rfl,q⟩
end
theorem Co {K:Fg}:GOp K (qX K false) df:=by
 intro x y H Q a b d ra rb e k;unfold df at e;split at e
 ·rename_i c
  cases e;simp only [Bool.and_eq_true] at c
  exact ⟨a,b,ra,rb,c.1,c.2,k _ (.bl _)⟩
 ·cases e
theorem Cj {K:Fg}:GOp K (qX K true) mG:=by
 intro x y H Q a b d ra rb e k;unfold mG at e;split at e
 ·rename_i c
  cases e;simp only [Bool.and_eq_true] at c
  exact ⟨a,b,ra,rb,c.1,c.2,k _ (.bl _)⟩
 ·cases e
def Cu:D->D->Option D
 | .str i,.str j=>some (.bool (decide (i.cps.toList<j.cps.toList)))
 | _,_=>none
abbrev Jr:=zQ fun i j=>.bool (decide (i<j))
abbrev i2:D->D->Option D:=fun a b=>(Jr a b).or (Cu a b)
abbrev zP:=zQ fun i j=>.bool (decide (i<=j))
abbrev nJ:=zQ fun i j=>.bool (decide (j<i))
abbrev KB:=zQ fun i j=>.bool (decide (j<=i))
theorem yu {K:Fg}:GOp K (fun x y H Q=>∃i j,x=.str i/\y=.str j/\Q (.bl (decide (i.cps.toList<j.cps.toList))) H) Cu:=by
 intro x y H Q a b d ra rb e k
 cases ra<;>cases rb<;>simp only [Cu] at e<;>try cases e
 rename_i i j;exact ⟨i,j,rfl,rfl,k _ (.bl _)⟩
theorem Cm {K:Fg}:GOp K (fun x y H Q=>pO (fun i j=>.bl (decide (i<j))) x y H Q\/∃i j,x=.str i/\y=.str j/\Q (.bl (decide (i.cps.toList<j.cps.toList))) H) i2:=
 (C1 fun _ _=>.bl _).or yu
open PySem.SeqAt in
def bj (neg:Bool):D->D->Option D
 | a,.list xs=>if shaped a&&shaped (.list xs) then some (.bool (if neg then !xs.any fun y=>PyData.eqv y a else xs.any fun y=>PyData.eqv y a)) else none
 | a,.tuple xs=>if shaped a&&shaped (.tuple xs) then some (.bool (if neg then !xs.any fun y=>PyData.eqv y a else xs.any fun y=>PyData.eqv y a)) else none
 | _,_=>none
def uC (K:Fg) (neg:Bool):R2:=fun x y H Q=>∃a b d,Rep K H x a/\Rep K H y b/\bj neg a b=some (.bool d)/\Q (.bl d) H
theorem vw {K:Fg} {neg:Bool}:GOp K (uC K neg) (bj neg):=by
 intro x y H Q a b d ra rb e k;have:∃c,d=.bool c:=by
  cases b<;>simp only [bj] at e<;>(try cases e)<;>(split at e<;>cases e<;>exact ⟨_,rfl⟩)
 obtain ⟨c,rfl⟩:=this;exact ⟨a,b,c,ra,rb,e,k _ (.bl c)⟩
theorem FP {d:D} {xs:List D} (h:SeqAt.shaped d=true) (e:d=.list xs\/d=.tuple xs):PyData.canLayAll0 xs=true/\PyData.depthAll xs+1<=64:=by
 have h1:=SeqAt.canLay_of_shaped h
 have h2:=SeqAt.depth_of_shaped h
 rcases e with e | e<;>subst e<;>exact ⟨by simpa [PyData.canLay0] using h1,by simpa [PyData.depth] using h2⟩
section
variable {X:Cx}
theorem BP (hu:X.A.units+64<cLine):OpR X (compareOp .In) (uC X.K false):=by
 intro pins s σ H x y v u Q I rx ry h;obtain ⟨a,b,d,ra,rb,e,q⟩:=h;obtain ⟨as,r1⟩:=ra.reads I v rx;obtain ⟨bs,r2⟩:=rb.reads I u ry
 cases b<;>simp only [bj] at e<;>try cases e
 all_goals
  split at e
  ·rename_i c
   simp only [Bool.and_eq_true] at c
   simp only [Option.some.injEq,PyData.bool.injEq] at e
   subst e;first
    | (obtain ⟨p1,p2⟩:=FP c.2 (.inl rfl)
       exact SeqAt.in_list_reads r2 r1 p1 (SeqAt.canLay_of_shaped c.1) (Nat.lt_of_le_of_lt (by have:=Nat.min_le_left (PyData.depthAll ‹_›) a.depth;omega) hu) ⟨.bl _,H,I,rfl,q⟩)
    | (obtain ⟨p1,p2⟩:=FP c.2 (.inr rfl)
       exact SeqAt.in_tuple_reads r2 r1 p1 (SeqAt.canLay_of_shaped c.1) (Nat.lt_of_le_of_lt (by have:=Nat.min_le_left (PyData.depthAll ‹_›) a.depth;omega) hu) ⟨.bl _,H,I,rfl,q⟩)
  ·cases e
theorem rj (hu:X.A.units+64<cLine):OpR X (compareOp .NotIn) (uC X.K true):=by
 intro pins s σ H x y v u Q I rx ry h;obtain ⟨a,b,d,ra,rb,e,q⟩:=h;obtain ⟨as,r1⟩:=ra.reads I v rx;obtain ⟨bs,r2⟩:=rb.reads I u ry
 cases b<;>simp only [bj] at e<;>try cases e
 all_goals
  split at e
  ·rename_i c
   simp only [Bool.and_eq_true] at c
   simp only [Option.some.injEq,PyData.bool.injEq] at e
   subst e;first
    | (obtain ⟨p1,p2⟩:=FP c.2 (.inl rfl)
       exact SeqAt.notIn_list_reads r2 r1 p1 (SeqAt.canLay_of_shaped c.1) (Nat.lt_of_le_of_lt (by have:=Nat.min_le_left (PyData.depthAll ‹_›) a.depth;omega) hu) ⟨.bl _,H,I,rfl,q⟩)
    | (obtain ⟨p1,p2⟩:=FP c.2 (.inr rfl)
       exact SeqAt.notIn_tuple_reads r2 r1 p1 (SeqAt.canLay_of_shaped c.1) (Nat.lt_of_le_of_lt (by have:=Nat.min_le_left (PyData.depthAll ‹_›) a.depth;omega) hu) ⟨.bl _,H,I,rfl,q⟩)
  ·cases e
end
def WantsB (K:Fg) (W:XW) (He:Hp) (O:List Addr) (Fs:List (List Addr)) (H:Hp) (σ:St) (Q:Bool->Hp->Prop) (o:Out Bool):Prop:=match o with
 | .ok b Γ'=>∀H' Fs',Same H H'->EnvOk K He O Fs' H' σ Γ'->(∀a∈Fs'.flatten,a∈Fs.flatten\/H a=none)->Q b H'
 | .er c Γ'=>∀H' Fs',Same H H'->EnvOk K He O Fs' H' σ Γ'->W c σ H'
 | .no=>False
abbrev FB:=Ev->Out Bool
def tT (K:Fg) (W:XW) (f:FB):TT:=fun σ H Q=>∃He O Fs Γ,EnvOk K He O Fs H σ Γ/\WantsB K W He O Fs H σ Q (f Γ)
section
variable {K:Fg} {W:XW} {He H H1:Hp} {O:List Addr} {Fs Fs1:List (List Addr)} {σ:St} {Γ Γ':Ev} {Q:VK} {QB:Bool->Hp->Prop}
theorem Wants.after {o:Out PV} (h:Wants K W He O Fs H σ Q o) (s:Same H H1) (n:∀a∈Fs1.flatten,a∈Fs.flatten\/H a=none):Wants K W He O Fs1 H1 σ Q o:=by
 cases o with
 | ok p Γ'=>exact fun v H' G Fs' A=>h v H' G Fs' ⟨s.trans A.same,A.env,fun a ha=>(A.new a ha).elim (n a) fun z=>.inr (s.free z),A.own⟩
 | er c Γ'=>exact fun H' Fs' e E=>h H' Fs' (s.trans e) E
 | no=>exact h
theorem WantsB.after {o:Out Bool} (h:WantsB K W He O Fs H σ QB o) (s:Same H H1) (n:∀a∈Fs1.flatten,a∈Fs.flatten\/H a=none):WantsB K W He O Fs1 H1 σ QB o:=by
 cases o with
 | ok p Γ'=>exact fun H' Fs' e E n'=>h H' Fs' (s.trans e) E fun a ha=>(n' a ha).elim (n a) fun z=>.inr (s.free z)
 | er c Γ'=>exact fun H' Fs' e E=>h H' Fs' (s.trans e) E
 | no=>exact h
theorem Aft.go {p:PV} {v:V} {G:List Addr} (A:Aft K He O Fs H σ Γ' p v H1 G Fs1):EnvOk K He O Fs1 H1 σ Γ':=A.env.dropL
theorem Aft.newF {p:PV} {v:V} {G:List Addr} (A:Aft K He O Fs H σ Γ' p v H1 G Fs1):∀a∈Fs1.flatten,a∈Fs.flatten\/H a=none:=fun a ha=>A.new a (mem_append_right _ ha)
end
section
variable {K:Fg} {W:XW} {σ:St} {H:Hp} {Q:VK} {QB:Bool->Hp->Prop} {fa fb fc:F1} {ga gb:FB}
def aM (g:D->Option Bool) (f:F1):FB:=fun Γ=>(f Γ).bind fun p Γ'=>match g p.d with
 | some b=>.ok b Γ'
 | none=>.no
theorem pB {g:D->Option Bool} {R:VK} (h:tT K W (aM g fa) σ H QB) (hR:∀v d b H1,Rep K H1 v d->g d=some b->QB b H1->R v H1):tE K W fa σ H R:=by
 obtain ⟨He,O,Fs,Γ,E,h⟩:=h;refine ⟨He,O,Fs,Γ,E,?_⟩
 unfold aM at h
 cases e:fa Γ with
 | ok p Γ'=>
  rw [e] at h;intro v H' G Fs' A
  have h:WantsB K W He O Fs H σ QB (match g p.d with | some b=>.ok b Γ' | none=>.no):=h
  cases e2:g p.d with
  | some b=>
   rw [e2] at h;exact hR v p.d b H' A.own.rep e2 (h H' Fs' A.same A.go A.newF)
  | none=>rw [e2] at h;exact h.elim
 | er c Γ'=>rw [e] at h;exact h
 | no=>rw [e] at h;exact h
def ao:D->Option Bool
 | .bool b=>some b
 | _=>none
theorem pJ {t:TE} (hi:∀Q,tE K W fa σ H Q->t σ H Q) (h:tT K W (aM ao fa) σ H QB):tQ t σ H QB:=by
 refine hi _ (pB h fun v d b H1 r e q=>?_)
 cases r<;>simp only [ao] at e<;>try cases e
 exact ⟨_,rfl,q⟩
def bG:D->Option Bool
 | .none=>some false
 | .bool b=>some b
 | .int i=>some (i != 0)
 | .str x=>if x.length<=sizeLine then some ((x.length:Int) != 0) else none
 | .list xs=>some (!xs.isEmpty)
 | .tuple xs=>some (!xs.isEmpty)
 | .dict _=>none
theorem AL (h:tT K W (aM bG fa) σ H QB):tE K W fa σ H fun x H'=>∃k,y3 K x H' k/\QB k H':=by
 refine pB h fun v d b H1 r e q=>?_
 cases r with
 | non=>cases e;exact ⟨_,rfl,q⟩
 | bl c=>cases e;exact ⟨_,rfl,q⟩
 | int i=>cases e;exact ⟨_,rfl,q⟩
 | str x=>
  simp only [bG] at e
  split at e
  ·rename_i z;cases e;exact ⟨_,⟨z,rfl⟩,q⟩
  ·cases e
 | @lst p vs ds hq hl _=>
  cases e;exact ⟨_,.inl ⟨vs,hq,by cases vs<;>cases ds<;>simp_all⟩,q⟩
 | @tup p vs ds hq hl _=>
  cases e;exact ⟨_,.inr (.inl ⟨vs,hq,by cases vs<;>cases ds<;>simp_all⟩),q⟩
def gC (a b:FB):FB:=fun Γ=>(a Γ).bind fun c Γ'=>if c then b Γ' else .ok false Γ'
def jj (a b:FB):FB:=fun Γ=>(a Γ).bind fun c Γ'=>if c then .ok true Γ' else b Γ'
def dC (a:FB):FB:=fun Γ=>(a Γ).bind fun c Γ'=>.ok (!c) Γ'
theorem Hn {k:Bool->Ev->Out Bool} {R:Bool->Hp->Prop} (h:tT K W (fun Γ=>(ga Γ).bind k) σ H QB)
  (hk:∀(He:Hp) (O:List Addr) Γ1 b H1 Fs1,Same H H1->EnvOk K He O Fs1 H1 σ Γ1->WantsB K W He O Fs1 H1 σ QB (k b Γ1)->R b H1):tT K W ga σ H R:=by
 obtain ⟨He,O,Fs,Γ,E,h⟩:=h;have h:WantsB K W He O Fs H σ QB ((ga Γ).bind k):=h
 refine ⟨He,O,Fs,Γ,E,?_⟩
 cases e:ga Γ with
 | ok b Γ1=>rw [e] at h;exact fun H' Fs' s E' n=>hk He O Γ1 b H' Fs' s E' (WantsB.after (o:=k b Γ1) h s n)
 | er c Γ1=>rw [e] at h;exact h
 | no=>rw [e] at h;exact h
theorem WantsB.now {He:Hp} {O:List Addr} {Fs:List (List Addr)} {Γ:Ev} {b:Bool} (h:WantsB K W He O Fs H σ QB (.ok b Γ)) (E:EnvOk K He O Fs H σ Γ):QB b H:=h H Fs (Same.refl _) E fun _ z=>.inl z
theorem xH (h:tT K W (gC ga gb) σ H QB):DN (tT K W ga) (tT K W gb) σ H QB:=by
 refine Hn h fun He O Γ1 b H1 Fs1 s E w=>?_
 cases b with
 | true=>exact iT ⟨He,O,Fs1,Γ1,E,w⟩
 | false=>exact iU (WantsB.now w E)
theorem A9 (h:tT K W (jj ga gb) σ H QB):JV (tT K W ga) (tT K W gb) σ H QB:=by
 refine Hn h fun He O Γ1 b H1 Fs1 s E w=>?_
 cases b with
 | false=>exact iU ⟨He,O,Fs1,Γ1,E,w⟩
 | true=>exact iT (WantsB.now w E)
theorem xG (h:tT K W (dC ga) σ H QB):DK (tT K W ga) σ H QB:=Hn h fun He O Γ1 b H1 Fs1 s E w=>WantsB.now w E
def gz (fa fb:F1):F1:=aV fa fun p Γ=>match p.d with
 | .bool true=>fb Γ
 | .bool false=>.ok ⟨.leaf,.bool false⟩ Γ
 | _=>.no
def yE (fa:F1):F1:=aV fa fun p Γ=>match p.d with
 | .bool b=>.ok ⟨.leaf,.bool (!b)⟩ Γ
 | _=>.no
theorem Bb (h:tE K W (gz fa fb) σ H Q):zy (tE K W fa) (tE K W fb) σ H Q:=by
 refine wz h fun He O Fs Γ1 p v H1 G Fs1 nd A w=>?_
 have r:=A.own.rep
 obtain ⟨s,d⟩:=p
 cases r with
 | bl b=>
  cases b with
  | true=>exact ⟨true,rfl,iT ⟨He,O,Fs1,Γ1,A.go,Wants.after w A.same A.newF⟩⟩
  | false=>exact ⟨false,rfl,iU (Wants.scal w (.bl false) A.same A.env (fun a ha=>mem_append_right _ ha) nd A.newF)⟩
 | _=>exact w.elim
theorem AR (h:tE K W (yE fa) σ H Q):zu (tE K W fa) σ H Q:=by
 refine wz h fun He O Fs Γ1 p v H1 G Fs1 nd A w=>?_
 have r:=A.own.rep
 obtain ⟨s,d⟩:=p
 cases r with
 | bl b=>exact ⟨b,rfl,Wants.scal w (.bl _) A.same A.env (fun a ha=>mem_append_right _ ha) nd A.newF⟩
 | _=>exact w.elim
def yG (c:FB) (fa fb:F1):F1:=fun Γ=>(c Γ).bind fun b Γ'=>if b then fa Γ' else fb Γ'
theorem DX (h:tE K W (yG ga fa fb) σ H Q):JX (tT K W ga) (tE K W fa) (tE K W fb) σ H Q:=by
 obtain ⟨He,O,Fs,Γ,E,h⟩:=h;refine ⟨He,O,Fs,Γ,E,?_⟩
 unfold yG at h
 cases e:ga Γ with
 | ok b Γ1=>
  rw [e] at h;intro H' Fs' s E' n
  have h':=Wants.after (o:=if b then fa Γ1 else fb Γ1) h s n
  cases b with
  | true=>exact iT ⟨He,O,Fs',Γ1,E',h'⟩
  | false=>exact iU ⟨He,O,Fs',Γ1,E',h'⟩
 | er c Γ1=>rw [e] at h;exact h
 | no=>rw [e] at h;exact h
def sV (g g':D->D->Option D) (fa fb fc:F1):F1:=aV fa fun p=>aV fb fun q=>fun Γ=>match g p.d q.d with
 | some (.bool true)=>if bD q.d then (fc Γ).bind fun z Γ'=>(match g' q.d z.d with | some d=>.ok ⟨.leaf,d⟩ Γ' | none=>.no) else .no
 | some (.bool false)=>.ok ⟨.leaf,.bool false⟩ Γ
 | _=>.no
theorem lO {r r':R2} {g g':D->D->Option D} (hg:GOp K r g) (hg':GOp K r' g') (h:tE K W (sV g g' fa fb fc) σ H Q):Hl r r' (tE K W fa) (tE K W fb) (tE K W fc) σ H Q:=by
 refine C4 h ?_
 intro He O Fs Γ2 p q v u H1 H2 G1 G2 Fs2 nd s1 s2 E new o1 o2 w;have sub:∀a∈O,a∈G2++(G1++O):=fun a ha=>mem_append_right _ (mem_append_right _ ha)
 have newF:∀a∈Fs2.flatten,a∈Fs.flatten\/H a=none:=fun a ha=>new a (mem_append_right _ (mem_append_right _ ha))
 cases e:g p.d q.d with
 | none=>rw [e] at w;exact w.elim
 | some d=>
  rw [e] at w;refine hg v u H2 _ p.d q.d d o1.rep o2.rep e fun z s=>?_
  cases s with
  | bl b=>
   cases b with
   | false=>exact ⟨false,rfl,iU (Wants.scal w (.bl false) (s1.trans s2) E sub nd newF)⟩
   | true=>
    refine ⟨true,rfl,iT ?_⟩
    have w:Wants K W He O Fs H σ Q (if bD q.d then (fc Γ2).bind fun z Γ'=>(match g' q.d z.d with | some d=>.ok ⟨.leaf,d⟩ Γ' | none=>.no) else .no):=w
    cases hs:bD q.d with
    | false=>rw [hs] at w;exact w.elim
    | true=>
     rw [hs] at w;have w:Wants K W He O Fs H σ Q ((fc Γ2).bind fun z Γ'=>(match g' q.d z.d with | some d=>.ok ⟨.leaf,d⟩ Γ' | none=>.no)):=w
     have su:=o2.rep.sc hs
     refine ⟨He,O,Fs2,Γ2,E.drop sub nd,?_⟩
     cases e3:fc Γ2 with
     | ok p3 Γ3=>
      rw [e3] at w;intro v3 H3 G3 Fs3 A3;have w:Wants K W He O Fs H σ Q (match g' q.d p3.d with | some d=>.ok ⟨.leaf,d⟩ Γ3 | none=>.no):=w
      cases e4:g' q.d p3.d with
      | none=>rw [e4] at w;exact w.elim
      | some d4=>
       rw [e4] at w;exact hg' u v3 H3 Q q.d p3.d d4 su.rep A3.own.rep e4 fun z s=>Wants.scal w s ((s1.trans s2).trans A3.same) A3.env (fun a ha=>mem_append_right _ ha) nd fun a ha=>(A3.new a (mem_append_right _ ha)).elim (newF a) fun z=>.inr ((s1.trans s2).free z)
     | er c Γ3=>
      rw [e3] at w;exact fun H' Fs' s E'=>w H' Fs' ((s1.trans s2).trans s) E'
     | no=>rw [e3] at w;exact w
  | non=>exact w.elim
  | int i=>exact w.elim
  | str x=>exact w.elim
end
structure AftL (K:Fg) (He:Hp) (O:List Addr) (Fs:List (List Addr)) (H:Hp) (σ:St) (Γ':Ev) (ps:List PV) (vs:List V) (H':Hp) (Gs Fs':List (List Addr)):Prop where
 same:Same H H'
 len1:vs.length=ps.length
 len2:Gs.length=ps.length
 env:EnvOk K He (Gs.flatten++O) Fs' H' σ Γ'
 new:∀a∈Gs.flatten++Fs'.flatten,a∈Fs.flatten\/H a=none
 own:∀(i:Nat) v p G,vs[i]?=some v->ps[i]?=some p->Gs[i]?=some G->Own K (Gs.flatten++O++Fs'.flatten) H' p.s G v p.d
abbrev FL:=Ev->Out (List PV)
def vY (K:Fg) (W:XW) (He:Hp) (O:List Addr) (Fs:List (List Addr)) (H:Hp) (σ:St) (Q:List V->Hp->Prop) (o:Out (List PV)):Prop:=match o with
 | .ok ps Γ'=>∀vs H' Gs Fs',AftL K He O Fs H σ Γ' ps vs H' Gs Fs'->Q vs H'
 | .er c Γ'=>∀H' Fs',Same H H'->EnvOk K He O Fs' H' σ Γ'->W c σ H'
 | .no=>False
def tA (K:Fg) (W:XW) (f:FL):TA:=fun σ H Q=>∃He O Fs Γ,EnvOk K He O Fs H σ Γ/\vY K W He O Fs H σ Q (f Γ)
def af:FL:=fun Γ=>.ok [] Γ
def ab (fa:F1) (fl:FL):FL:=fun Γ=>(fa Γ).bind fun p Γ1=>(fl Γ1).bind fun ps Γ2=>.ok (p::ps) Γ2
section
variable {K:Fg} {W:XW} {σ:St} {H:Hp} {Q:VK} {QL:List V->Hp->Prop} {fa fb:F1} {fl:FL}
theorem AS (h:tA K W af σ H QL):gY σ H QL:=by
 obtain ⟨He,O,Fs,Γ,E,h⟩:=h;exact h [] H [] Fs ⟨Same.refl _,rfl,rfl,by simpa using E,fun a ha=>.inl (by simpa using ha),fun i v p G e=>by simp at e⟩
theorem lW {α:Type} (A B C:List α):(A++(B++C)).Perm (B++(A++C)):=by
 rw [<-append_assoc,<-append_assoc];exact List.Perm.append_right _ perm_append_comm
theorem EnvOk.perm {He H:Hp} {O O':List Addr} {Fs:List (List Addr)} {Γ:Ev} (E:EnvOk K He O Fs H σ Γ) (p:O'.Perm O):EnvOk K He O' Fs H σ Γ:=E.drop (fun a ha=>p.mem_iff.mp ha) (p.nodup_iff.mpr E.ndO)
theorem Own.perm {H:Hp} {O O':List Addr} {s:Sh} {G:List Addr} {v:V} {d:D} (h:Own K O H s G v d) (p:∀a∈O',a∈O):Own K O' H s G v d:=h.mono (Same.refl _) fun a ha=>.inl (p a ha)
theorem xE (h:tA K W (ab fa fl) σ H QL):cH (tE K W fa) (tA K W fl) σ H QL:=by
 obtain ⟨He,O,Fs,Γ,E,h⟩:=h;refine ⟨He,O,Fs,Γ,E,?_⟩
 unfold ab at h
 cases e:fa Γ with
 | ok p Γ1=>
  rw [e] at h;intro v H1 G1 Fs1 A1;refine ⟨He,G1++O,Fs1,Γ1,A1.env,?_⟩
  have h:vY K W He O Fs H σ QL ((fl Γ1).bind fun ps Γ2=>.ok (p::ps) Γ2):=h
  cases e2:fl Γ1 with
  | ok ps Γ2=>
   rw [e2] at h;intro vs H2 Gs Fs2 A2;have pm:((G1::Gs).flatten++O).Perm (Gs.flatten++(G1++O)):=by
    rw [flatten_cons,append_assoc];exact lW _ _ _
   refine h (v::vs) H2 (G1::Gs) Fs2 ⟨A1.same.trans A2.same,by simp [A2.len1],by simp [A2.len2],A2.env.perm pm,fun a ha=>?_,fun i u q G h1 h2 h3=>?_⟩
   ·rcases List.mem_append.mp ha with z | z
    ·rw [flatten_cons] at z
     rcases List.mem_append.mp z with z | z
     ·exact A1.new a (mem_append_left _ z)
     ·exact (A2.new a (mem_append_left _ z)).elim (fun y=>A1.new a (mem_append_right _ y)) fun y=>.inr (A1.same.free y)
    ·exact (A2.new a (mem_append_right _ z)).elim (fun y=>A1.new a (mem_append_right _ y)) fun y=>.inr (A1.same.free y)
   ·have sub:∀a∈(G1::Gs).flatten++O++Fs2.flatten,a∈Gs.flatten++(G1++O)++Fs2.flatten:=fun a ha=>by
     rcases List.mem_append.mp ha with z | z
     ·exact mem_append_left _ (pm.mem_iff.mp z)
     ·exact mem_append_right _ z
    cases i with
    | zero=>
     simp at h1 h2 h3
     subst h1 h2 h3;refine (A1.own.mono A2.same fun a ha=>?_).perm sub
     rcases List.mem_append.mp ha with z | z
     ·rcases List.mem_append.mp z with z | z
      ·exact (A2.new a (mem_append_left _ z)).elim (fun y=>.inl (mem_append_right _ y)) .inr
      ·exact .inl (mem_append_left _ z)
     ·exact (A2.new a (mem_append_right _ z)).elim (fun y=>.inl (mem_append_right _ y)) .inr
    | succ i=>
     simp at h1 h2 h3
     exact (A2.own i u q G h1 h2 h3).perm sub
  | er c Γ2=>
   rw [e2] at h;exact fun H2 Fs2 s E2=>h H2 Fs2 (A1.same.trans s) E2.dropL
  | no=>rw [e2] at h;exact h
 | er c Γ1=>rw [e] at h;exact h
 | no=>rw [e] at h;exact h
theorem AftL.reps {He:Hp} {O:List Addr} {Fs Gs Fs':List (List Addr)} {Γ':Ev} {ps:List PV} {vs:List V} {H':Hp} (A:AftL K He O Fs H σ Γ' ps vs H' Gs Fs'):Reps K H' vs (ps.map (·.d)):=by
 refine ⟨by rw [length_map];exact A.len1,fun i v d h1 h2=>?_⟩
 rw [getElem?_map] at h2
 cases e:ps[i]? with
 | none=>rw [e] at h2;cases h2
 | some p=>
  rw [e] at h2
  cases h2;have hi:=(List.getElem?_eq_some_iff.mp e).1
  exact (A.own i v p (Gs[i]'(by rw [A.len2];exact hi)) h1 e (getElem?_eq_getElem _)).rep
def bI (g:List D->Option D) (fl:FL):F1:=fun Γ=>(fl Γ).bind fun ps Γ'=>match g (ps.map (·.d)) with
 | some d=>.ok ⟨.leaf,d⟩ Γ'
 | none=>.no
def GCall (K:Fg) (r:List V->Hp->VK->Prop) (g:List D->Option D):Prop:=∀vs H Q ds d,Reps K H vs ds->g ds=some d->(∀v,Sc v d->Q v H)->r vs H Q
theorem uu {r:List V->Hp->VK->Prop} {g:List D->Option D} (hg:GCall K r g) (h:tE K W (bI g fl) σ H Q):zx r (tA K W fl) σ H Q:=by
 obtain ⟨He,O,Fs,Γ,E,h⟩:=h;refine ⟨He,O,Fs,Γ,E,?_⟩
 unfold bI at h
 cases e:fl Γ with
 | ok ps Γ'=>
  rw [e] at h;intro vs H' Gs Fs' A
  have h:Wants K W He O Fs H σ Q (match g (ps.map (·.d)) with | some d=>.ok ⟨.leaf,d⟩ Γ' | none=>.no):=h
  cases e2:g (ps.map (·.d)) with
  | none=>rw [e2] at h;exact h.elim
  | some d=>
   rw [e2] at h;exact hg vs H' Q _ d A.reps e2 fun v s=>Wants.scal h s A.same A.env (fun a ha=>mem_append_right _ ha) E.ndO fun a ha=>A.new a (mem_append_right _ ha)
 | er c Γ'=>rw [e] at h;exact h
 | no=>rw [e] at h;exact h
theorem GCall.or {r r':List V->Hp->VK->Prop} {g g':List D->Option D} (h:GCall K r g) (h':GCall K r' g'):GCall K (fun xs H Q=>r xs H Q\/r' xs H Q) (fun ds=>(g ds).or (g' ds)):=by
 intro vs H Q ds d rs e k;have e:(g ds).or (g' ds)=some d:=e
 cases e1:g ds with
 | some z=>rw [e1] at e;cases e;exact .inl (h vs H Q ds _ rs e1 k)
 | none=>rw [e1] at e;exact .inr (h' vs H Q ds d rs (by simpa using e) k)
theorem Reps.one {vs:List V} {d:D} (h:Reps K H vs [d]):∃v,vs=[v]/\Rep K H v d:=by
 obtain ⟨hl,h⟩:=h;match vs,hl with
 | [v],_=>exact ⟨v,rfl,h 0 v d rfl rfl⟩
theorem Reps.two {vs:List V} {d e:D} (h:Reps K H vs [d,e]):∃v u,vs=[v,u]/\Rep K H v d/\Rep K H u e:=by
 obtain ⟨hl,h⟩:=h;match vs,hl with
 | [v,u],_=>exact ⟨v,u,rfl,h 0 v d rfl rfl,h 1 u e rfl rfl⟩
end
def zO:List D->Option D
 | [.list xs]=>some (.int xs.length)
 | [.tuple xs]=>some (.int xs.length)
 | _=>none
def vy:List D->Option D
 | [.str x]=>if x.length<=sizeLine then some (.int x.length) else none
 | _=>none
abbrev bB:List D->Option D:=fun ds=>(zO ds).or (vy ds)
theorem Cq {K:Fg}:GCall K (fun xs H Q=>(∃p ys,xs=[.ref p]/\(SqL K H p ys\/SqT K H p ys)/\Q (.int ys.length) H)\/∃z,xs=[.str z]/\z.length<=sizeLine/\Q (.int z.length) H) bB:=by
 refine GCall.or (g:=zO) (g':=vy) (r:=fun xs H Q=>∃p ys,xs=[.ref p]/\(SqL K H p ys\/SqT K H p ys)/\Q (.int ys.length) H) (r':=fun xs H Q=>∃z,xs=[.str z]/\z.length<=sizeLine/\Q (.int z.length) H) ?_ ?_
 ·intro vs H Q ds d rs e k
  match ds,e with
  | [.list xs],e=>
   obtain ⟨v,rfl,r⟩:=rs.one
   cases e
   cases r with
   | @lst p us _ hq hl _=>exact ⟨p,us,rfl,.inl hq,by rw [hl];exact k _ (.int _)⟩
  | [.tuple xs],e=>
   obtain ⟨v,rfl,r⟩:=rs.one
   cases e
   cases r with
   | @tup p us _ hq hl _=>exact ⟨p,us,rfl,.inr hq,by rw [hl];exact k _ (.int _)⟩
 ·intro vs H Q ds d rs e k
  match ds,e with
  | [.str x],e=>
   obtain ⟨v,rfl,r⟩:=rs.one;simp only [vy] at e
   split at e
   ·rename_i z
    cases e
    cases r;exact ⟨x,rfl,z,k _ (.int _)⟩
   ·cases e
def oG:List D->Option D
 | [.int i]=>some (.int i)
 | [.bool b]=>some (.int (if b then 1 else 0))
 | _=>none
theorem Cr {K:Fg}:GCall K (fun xs H Q=>(∃i,xs=[.int i]/\Q (.int i) H)\/∃k,xs=[.bl k]/\Q (.int (if k then 1 else 0)) H) oG:=by
 intro vs H Q ds d rs e k;match ds,e with
 | [.int i],e=>
  obtain ⟨v,rfl,r⟩:=rs.one
  cases e;cases r;exact .inl ⟨i,rfl,k _ (.int _)⟩
 | [.bool b],e=>
  obtain ⟨v,rfl,r⟩:=rs.one
  cases e;cases r;exact .inr ⟨b,rfl,k _ (.int _)⟩
def KA:List D->Option D
 | [.int i,.int j]=>some (.int (if j>i then j else i))
 | _=>none
def sU:List D->Option (List Bool)
 | []=>some []
 | .bool b::r=>(sU r).map (b :: ·)
 | _=>none
theorem jh:∀{ds:List D} {bs:List Bool},sU ds=some bs->ds=bs.map PyData.bool
 | [],bs,h=>by cases h;rfl
 | .bool b::r,bs,h=>by
  simp only [sU] at h
  cases e:sU r with
  | none=>rw [e] at h;cases h
  | some cs=>rw [e] at h;cases h;rw [jh e];rfl
 | .none::_,_,h=>by cases h
 | .int _::_,_,h=>by cases h
 | .str _::_,_,h=>by cases h
 | .list _::_,_,h=>by cases h
 | .tuple _::_,_,h=>by cases h
 | .dict _::_,_,h=>by cases h
def cw (any:Bool):List D->Option D
 | [.list xs]=>(sU xs).map fun bs=>.bool (if any then bs.any id else bs.all id)
 | _=>none
theorem iG {K:Fg} {H:Hp}:∀{vs:List V} {bs:List Bool},Reps K H vs (bs.map PyData.bool)->vs=bs.map V.bl
 | [],[],_=>rfl
 | v::vs,b::bs,⟨hl,h⟩=>by
  have r:=h 0 v (.bool b) rfl rfl
  cases r;rw [iG (bs:=bs) (vs:=vs) ⟨by simpa using hl,fun i v d h1 h2=>h (i+1) v d (by simpa using h1) (by simpa using h2)⟩]
  rfl
 | [],_::_,⟨hl,_⟩=>by simp at hl
 | _::_,[],⟨hl,_⟩=>by simp at hl
def Bo (K:Fg) (any:Bool):List V->Hp->VK->Prop:=fun xs H Q=>∃(p:Addr) (bs:List Bool),xs=[.ref p]/\SqL K H p (bs.map V.bl)/\Q (.bl (if any then bs.any id else bs.all id)) H
theorem vx {K:Fg} {any:Bool}:GCall K (Bo K any) (cw any):=by
 intro vs H Q ds d rs e k;match ds,e with
 | [.list xs],e=>
  obtain ⟨v,rfl,r⟩:=rs.one;simp only [cw] at e
  cases eb:sU xs with
  | none=>rw [eb] at e;cases e
  | some bs=>
   rw [eb] at e
   cases e;have:=jh eb
   subst this
   cases r with
   | @lst p us _ hq hl hr=>
    have:=iG ⟨hl,hr⟩
    subst this;exact ⟨p,bs,rfl,hq,k _ (.bl _)⟩
section
variable {X:Cx}
theorem j5 {bs:List Bool}:∀{its:List Value},Vals (bs.map V.bl) its->its=bs.map Value.bool:=by
 induction bs with
 | nil=>intro its h;cases h;rfl
 | cons b bs ih=>
  intro its h
  cases h with
  | cons r t=>
   cases (show _=Value.bool b from r)
   rw [ih t];rfl
theorem qV (bs:List Bool):(List.range bs.length).all (fun i=>bs.getD i false)=bs.all id:=by
 rw [Bool.eq_iff_iff,all_eq_true,all_eq_true];constructor
 ·intro h b hb
  obtain ⟨i,hi,e⟩:=List.mem_iff_getElem.mp hb;have:=h i (List.mem_range.mpr hi)
  rw [getD_eq_getElem?_getD,getElem?_eq_getElem hi] at this;rw [<-e];simpa using this
 ·intro h i hi
  have hi:=List.mem_range.mp hi
  rw [getD_eq_getElem?_getD,getElem?_eq_getElem hi];exact h _ (getElem_mem hi)
theorem qU (bs:List Bool):(List.range bs.length).any (fun i=>bs.getD i false)=bs.any id:=by
 rw [Bool.eq_iff_iff,any_eq_true,any_eq_true];constructor
 ·rintro ⟨i,hi,h⟩
  have hi:=List.mem_range.mp hi
  rw [getD_eq_getElem?_getD,getElem?_eq_getElem hi] at h;exact ⟨_,getElem_mem hi,h⟩
 ·rintro ⟨b,hb,h⟩
  obtain ⟨i,hi,e⟩:=List.mem_iff_getElem.mp hb;refine ⟨i,List.mem_range.mpr hi,?_⟩
  rw [getD_eq_getElem?_getD,getElem?_eq_getElem hi,e];exact h
theorem gJ {prog:Program} {w:World} {A:Around} {bs:List Bool}:TruthOf prog w A (fun i v=>(bs.map Value.bool).toArray[i]?=some v) (fun i=>bs.getD i false):=by
 intro i v s Q E hP hQ;simp only [List.getElem?_toArray,getElem?_map] at hP
 cases e:bs[i]? with
 | none=>rw [e] at hP;cases hP
 | some b=>
  rw [e] at hP
  cases hP;have hQ:Q (bs.getD i false) s:=hQ
  rw [getD_eq_getElem?_getD,e] at hQ;exact wpAny_truthy_bool hQ
theorem sC (hc:X.calm=true):CallR X (.builtin "all") (Bo X.K false):=by
 intro pins s σ H vs us Q I rv h;obtain ⟨p,bs,rfl,hq,q⟩:=h;obtain ⟨u,rfl,ru⟩:=vals1 rv
 cases ru;obtain ⟨its,rv,pl,hz⟩:=I.list hq;have:=j5 rv
 subst this;have hd:=I.ok.hd hc
 refine call_all_walk (wpAny_pyIter_list pl.isList ?_)
 have ne:p≠s.heap.objs.size:=by
  obtain ⟨o,n,e,_⟩:=pl;exact Nat.ne_of_lt (Heap.lt_size e)
 refine ⟨s.heap.objs.size,_,_,_,_,_,fun i=>bs.getD i false,rfl,Walks.list (prog:=X.prog) (w:=X.w) (A:=X.A.in1) hd s.heap.objs.size p ne (bs.map Value.bool).toArray,⟨⟨_,Heap.get?_push_size _ rfl,rfl,rfl⟩,pl.isList.at fun o e=>Heap.get?_push_of_some _ e⟩,gJ,fun h' tk hk=>?_⟩
 refine ⟨.bl _,H,I.kept (h':=h') (t':=tk) fun b o e=>hk b o (fun z=>?_) (Heap.get?_push_of_some _ e),rfl,?_⟩
 ·have z:b=s.heap.objs.size:=by simpa using z
  exact absurd (Heap.lt_size e) (by rw [z];exact Nat.lt_irrefl _)
 ·rw [size_toArray,length_map,qV]
  exact q
theorem sA (hc:X.calm=true):CallR X (.builtin "any") (Bo X.K true):=by
 intro pins s σ H vs us Q I rv h;obtain ⟨p,bs,rfl,hq,q⟩:=h;obtain ⟨u,rfl,ru⟩:=vals1 rv
 cases ru;obtain ⟨its,rv,pl,hz⟩:=I.list hq;have:=j5 rv
 subst this;have hd:=I.ok.hd hc
 refine call_any_walk (wpAny_pyIter_list pl.isList ?_)
 have ne:p≠s.heap.objs.size:=by
  obtain ⟨o,n,e,_⟩:=pl;exact Nat.ne_of_lt (Heap.lt_size e)
 refine ⟨s.heap.objs.size,_,_,_,_,_,fun i=>bs.getD i false,rfl,Walks.list (prog:=X.prog) (w:=X.w) (A:=X.A.in1) hd s.heap.objs.size p ne (bs.map Value.bool).toArray,⟨⟨_,Heap.get?_push_size _ rfl,rfl,rfl⟩,pl.isList.at fun o e=>Heap.get?_push_of_some _ e⟩,gJ,fun h' tk hk=>?_⟩
 refine ⟨.bl _,H,I.kept (h':=h') (t':=tk) fun b o e=>hk b o (fun z=>?_) (Heap.get?_push_of_some _ e),rfl,?_⟩
 ·have z:b=s.heap.objs.size:=by simpa using z
  exact absurd (Heap.lt_size e) (by rw [z];exact Nat.lt_irrefl _)
 ·rw [size_toArray,length_map,qU]
  exact q
end
def nF (s:Sh) (j:Nat) (d:D):Option Sh:=match s with
 | .leaf=>some .leaf
 | .view=>some (if bD d then .leaf else .view)
 | .lst s=>some s
 | .tup ss=>ss[j]?
def ah (fa fb:F1):F1:=aV fa fun p=>aV fb fun q=>fun Γ=>match q.d with
 | .int i=>(match p.d with
  | .list ds=>(match eC ds.length i with
   | some j=>(match ds[j]? with
    | some d=>(match nF p.s j d with
     | some s=>.ok ⟨s,d⟩ Γ
     | none=>.no)
    | none=>.no)
   | none=>.no)
  | .tuple ds=>(match eC ds.length i with
   | some j=>(match ds[j]? with
    | some d=>(match nF p.s j d with
     | some s=>.ok ⟨s,d⟩ Γ
     | none=>.no)
    | none=>.no)
   | none=>.no)
  | .str z=>if z.length<=sizeLine then (match eF z.cps.toList i with
   | some c=>.ok ⟨.leaf,.str ⟨#[c]⟩⟩ Γ
   | none=>.no) else .no
  | _=>.no)
 | _=>.no
theorem Own.item {K:Fg} {O:List Addr} {H:Hp} {s s':Sh} {G:List Addr} {p:Addr} {ds:List D} {j:Nat} {d:D} (h:Own K O H s G (.ref p) (.list ds)) (hd:ds[j]?=some d) (hs:nF s j d=some s') :
  ∃vs v G',SqL K H p vs/\vs.length=ds.length/\vs[j]?=some v/\(∀a∈G',a∈G)/\G'.Nodup/\Own K O H s' G' v d:=by
 have hi:=(List.getElem?_eq_some_iff.mp hd).1
 cases h with
 | view r=>
  cases r with
  | @lst _ vs _ hq hl hr=>
   have hv:vs[j]?=some (vs[j]'(by omega)):=getElem?_eq_getElem _
   have r':=hr j _ d hv hd
   simp only [nF,Option.some.injEq] at hs
   cases e:bD d with
   | true=>
    rw [e] at hs
    cases hs;exact ⟨vs,_,[],hq,hl,hv,(fun _ z=>nomatch z),nodup_nil,.leaf (r'.sc e).rep⟩
   | false=>
    rw [e] at hs
    cases hs;exact ⟨vs,_,[],hq,hl,hv,(fun _ z=>nomatch z),nodup_nil,.view r'⟩
 | leaf r=>
  cases r with
  | @lst _ vs _ hq hl hr=>
   have hv:vs[j]?=some (vs[j]'(by omega)):=getElem?_eq_getElem _
   cases hs;exact ⟨vs,_,[],hid_le.seq hq,hl,hv,(fun _ z=>nomatch z),nodup_nil,.leaf (hr j _ d hv hd)⟩
 | @lst s₀ _ vs _ Fs hv hp hl hf nd hr=>
  have hv':vs[j]?=some (vs[j]'(by omega)):=getElem?_eq_getElem _
  have hF:Fs[j]?=some (Fs[j]'(by omega)):=getElem?_eq_getElem _
  cases hs;refine ⟨vs,_,_,.of hp,hl,hv',fun a ha=>mem_cons_of_mem _ (nI hF ha),?_,hr j _ d _ hv' hd hF⟩
  exact ((List.nodup_cons.mp nd).2).sublist (List.sublist_flatten_of_mem (mem_of_getElem? hF))
theorem Own.itemT {K:Fg} {O:List Addr} {H:Hp} {s s':Sh} {G:List Addr} {p:Addr} {ds:List D} {j:Nat} {d:D} (h:Own K O H s G (.ref p) (.tuple ds)) (hd:ds[j]?=some d) (hs:nF s j d=some s') :
  ∃vs v G',SqT K H p vs/\vs.length=ds.length/\vs[j]?=some v/\(∀a∈G',a∈G)/\G'.Nodup/\Own K O H s' G' v d:=by
 have hi:=(List.getElem?_eq_some_iff.mp hd).1
 cases h with
 | view r=>
  cases r with
  | @tup _ vs _ hq hl hr=>
   have hv:vs[j]?=some (vs[j]'(by omega)):=getElem?_eq_getElem _
   have r':=hr j _ d hv hd
   simp only [nF,Option.some.injEq] at hs
   cases e:bD d with
   | true=>
    rw [e] at hs
    cases hs;exact ⟨vs,_,[],hq,hl,hv,(fun _ z=>nomatch z),nodup_nil,.leaf (r'.sc e).rep⟩
   | false=>
    rw [e] at hs
    cases hs;exact ⟨vs,_,[],hq,hl,hv,(fun _ z=>nomatch z),nodup_nil,.view r'⟩
 | leaf r=>
  cases r with
  | @tup _ vs _ hq hl hr=>
   have hv:vs[j]?=some (vs[j]'(by omega)):=getElem?_eq_getElem _
   cases hs;exact ⟨vs,_,[],gW hid_le hq,hl,hv,(fun _ z=>nomatch z),nodup_nil,.leaf (hr j _ d hv hd)⟩
 | @tup ss _ vs _ Fs hv hp hn hl hf hl2 nd hr=>
  have hv':vs[j]?=some (vs[j]'(by omega)):=getElem?_eq_getElem _
  have hF:Fs[j]?=some (Fs[j]'(by omega)):=getElem?_eq_getElem _
  have hs:ss[j]?=some s':=hs
  refine ⟨vs,_,_,.of hp,hl,hv',fun a ha=>nI hF ha,?_,hr j _ d _ _ hv' hd hF hs⟩
  exact nd.sublist (List.sublist_flatten_of_mem (mem_of_getElem? hF))
theorem Wants.part {K:Fg} {W:XW} {σ:St} {He H H2:Hp} {O G G':List Addr} {Fs Fs2:List (List Addr)} {Γ':Ev} {Q:VK} {s:Sh} {v:V} {d:D} (h:Wants K W He O Fs H σ Q (.ok ⟨s,d⟩ Γ')) (e:Same H H2)
  (E:EnvOk K He (G++O) Fs2 H2 σ Γ') (sub:∀a∈G',a∈G) (nd:G'.Nodup) (new:∀a∈G++Fs2.flatten,a∈Fs.flatten\/H a=none) (o:Own K (G++O++Fs2.flatten) H2 s G' v d):Q v H2:=by
 have sub2:∀a∈G'++O,a∈G++O:=fun a ha=>by
  rcases List.mem_append.mp ha with z | z
  ·exact mem_append_left _ (sub a z)
  ·exact mem_append_right _ z
 obtain ⟨n1,n2,n3⟩:=List.nodup_append.mp E.ndO;refine h v H2 G' Fs2 ⟨e,E.drop sub2 (List.nodup_append.mpr ⟨nd,n2,fun a ha b hb=>n3 a (sub a ha) b hb⟩),fun a ha=>new a ?_,o.perm fun a ha=>?_⟩
 ·rcases List.mem_append.mp ha with z | z
  ·exact mem_append_left _ (sub a z)
  ·exact mem_append_right _ z
 ·rcases List.mem_append.mp ha with z | z
  ·exact mem_append_left _ (sub2 a z)
  ·exact mem_append_right _ z
theorem GI {α β:Type} {xs:List α} {ys:List β} {i:Int} {j:Nat} {v:α} (hl:xs.length=ys.length) (h:eC ys.length i=some j) (hv:xs[j]?=some v):eF xs i=some v:=by
 unfold eF;rw [hl,h];exact hv
section
variable {K:Fg} {W:XW} {σ:St} {H:Hp} {Q:VK} {fa fb:F1}
theorem AY (h:tE K W (ah fa fb) σ H Q):wI (Bk K) (tE K W fa) (tE K W fb) σ H Q:=by
 refine C4 h ?_
 intro He O Fs Γ2 p q v u H1 H2 G1 G2 Fs2 nd s1 s2 E new o1 o2 w;obtain ⟨ps,pd⟩:=p;obtain ⟨qs,qd⟩:=q;have ri:=o2.rep
 cases qd<;>try exact w.elim
 rename_i i
 cases ri;have E':EnvOk K He ((G2++G1)++O) Fs2 H2 σ Γ2:=by rw [append_assoc];exact E
 have new':∀a∈(G2++G1)++Fs2.flatten,a∈Fs.flatten\/H a=none:=fun a ha=>new a (by rw [<-append_assoc];exact ha)
 have o1':Own K ((G2++G1)++O++Fs2.flatten) H2 ps G1 v pd:=o1.perm fun a ha=>by rw [append_assoc G2] at ha;exact ha
 have rp:=o1.rep
 cases pd with
 | list ds=>
  obtain ⟨p0,rfl⟩:∃p0,v=.ref p0:=by cases rp;exact ⟨_,rfl⟩
  have w:Wants K W He O Fs H σ Q (match eC ds.length i with | some j=>(match ds[j]? with | some d=>(match nF ps j d with | some s=>.ok ⟨s,d⟩ Γ2 | none=>.no) | none=>.no) | none=>.no):=w
  cases e1:eC ds.length i with
  | none=>rw [e1] at w;exact w.elim
  | some j=>
   rw [e1] at w;have w:Wants K W He O Fs H σ Q (match ds[j]? with | some d=>(match nF ps j d with | some s=>.ok ⟨s,d⟩ Γ2 | none=>.no) | none=>.no):=w
   cases e2:ds[j]? with
   | none=>rw [e2] at w;exact w.elim
   | some d=>
    rw [e2] at w;have w:Wants K W He O Fs H σ Q (match nF ps j d with | some s=>.ok ⟨s,d⟩ Γ2 | none=>.no):=w
    cases e3:nF ps j d with
    | none=>rw [e3] at w;exact w.elim
    | some s=>
     rw [e3] at w;obtain ⟨vs,v',G',h1,h2,h3,h4,h5,h6⟩:=o1'.item e2 e3
     exact .inl ⟨p0,vs,i,v',rfl,rfl,h1,GI h2 e1 h3,Wants.part w (s1.trans s2) E' (fun a ha=>mem_append_right _ (h4 a ha)) h5 new' h6⟩
 | tuple ds=>
  obtain ⟨p0,rfl⟩:∃p0,v=.ref p0:=by cases rp;exact ⟨_,rfl⟩
  have w:Wants K W He O Fs H σ Q (match eC ds.length i with | some j=>(match ds[j]? with | some d=>(match nF ps j d with | some s=>.ok ⟨s,d⟩ Γ2 | none=>.no) | none=>.no) | none=>.no):=w
  cases e1:eC ds.length i with
  | none=>rw [e1] at w;exact w.elim
  | some j=>
   rw [e1] at w;have w:Wants K W He O Fs H σ Q (match ds[j]? with | some d=>(match nF ps j d with | some s=>.ok ⟨s,d⟩ Γ2 | none=>.no) | none=>.no):=w
   cases e2:ds[j]? with
   | none=>rw [e2] at w;exact w.elim
   | some d=>
    rw [e2] at w;have w:Wants K W He O Fs H σ Q (match nF ps j d with | some s=>.ok ⟨s,d⟩ Γ2 | none=>.no):=w
    cases e3:nF ps j d with
    | none=>rw [e3] at w;exact w.elim
    | some s=>
     rw [e3] at w;obtain ⟨vs,v',G',h1,h2,h3,h4,h5,h6⟩:=o1'.itemT e2 e3
     exact .inr (.inl ⟨p0,vs,i,v',rfl,rfl,h1,GI h2 e1 h3,Wants.part w (s1.trans s2) E' (fun a ha=>mem_append_right _ (h4 a ha)) h5 new' h6⟩)
 | str z=>
  cases rp;have w:Wants K W He O Fs H σ Q (if z.length<=sizeLine then (match eF z.cps.toList i with | some c=>.ok ⟨.leaf,.str ⟨#[c]⟩⟩ Γ2 | none=>.no) else .no):=w
  by_cases hz:z.length<=sizeLine
  ·rw [if_pos hz] at w
   cases e1:eF z.cps.toList i with
   | none=>rw [e1] at w;exact w.elim
   | some c=>
    rw [e1] at w;exact .inr (.inr ⟨z,i,c,rfl,rfl,hz,e1,Wants.scal w (.str _) (s1.trans s2) E (fun a ha=>mem_append_right _ (mem_append_right _ ha)) nd fun a ha=>new a (mem_append_right _ (mem_append_right _ ha))⟩)
  ·rw [if_neg hz] at w
   exact w.elim
 | none=>exact w.elim
 | bool b=>exact w.elim
 | int k=>exact w.elim
 | dict k=>exact w.elim
end
theorem mz (s:Sh):∀Gs:List (List Addr),((Gs.map (aP s)).flatten).Sublist Gs.flatten
 | []=>List.Sublist.refl _
 | G::Gs=>by
  simp only [map_cons,flatten_cons]
  refine List.Sublist.append ?_ (mz s Gs)
  unfold aP;split
  ·exact List.nil_sublist _
  ·exact List.Sublist.refl _
theorem jU:∀Gs:List (List Addr),(Gs.map (aP .leaf)).flatten=[]
 | []=>rfl
 | _::Gs=>by simp only [map_cons,flatten_cons,jU Gs];rfl
section
variable {K:Fg} {W:XW} {σ:St} {He H H':Hp} {O:List Addr} {Fs Fs' Gs:List (List Addr)} {Γ':Ev} {ps:List PV} {vs:List V} {Q:VK}
theorem AftL.newList {s:Sh} {p:Addr} (A:AftL K He O Fs H σ Γ' ps vs H' Gs Fs') (hs:s.isView=false) (hc:ps.all (T.coer s)=true) (hp:H' p=none) :
  Aft K He O Fs H σ Γ' ⟨.lst s,.list (ps.map (·.d))⟩ (.ref p) (bx H' p (.lst vs)) (p::(Gs.map (aP s)).flatten) Fs':=by
 obtain ⟨n1,n2,n3⟩:=List.nodup_append.mp A.env.ndO;obtain ⟨m1,m2,m3⟩:=List.nodup_append.mp A.env.nd;have hsub:=mz s Gs
 have E1:EnvOk K He ((Gs.map (aP s)).flatten++O) Fs' H' σ Γ':=A.env.drop (fun a ha=>by
   rcases List.mem_append.mp ha with z | z
   ·exact mem_append_left _ (hsub.subset z)
   ·exact mem_append_right _ z) (List.nodup_append.mpr ⟨n1.sublist hsub,n2,fun a ha b hb=>n3 a (hsub.subset ha) b hb⟩)
 have E2:=E1.hide (G:=[p]) (gG (o:=.lst vs) hp) (by simp) (fun a ha=>by simp at ha;rw [ha];exact hp) (fun a ha=>by simp at ha;rw [ha,dQ];exact Option.some_ne_none _)
 have pn:∀{a},a∈Gs.flatten++O++Fs'.flatten->a≠p:=fun {a} ha z=>A.env.inH a ha (by rw [z];exact hp)
 refine ⟨A.same.trans (gG hp),E2,fun a ha=>?_,?_⟩
 ·rcases List.mem_append.mp ha with z | z
  ·rcases List.mem_cons.mp z with z | z
   ·rw [z];exact .inr (A.same.free hp)
   ·exact A.new a (mem_append_left _ (hsub.subset z))
  ·exact A.new a (mem_append_right _ z)
 ·refine .lst hs dQ (by rw [length_map];exact A.len1) (by rw [length_map,length_map];exact A.len2) ?_ fun i v d F h1 h2 h3=>?_
  ·refine List.nodup_cons.mpr ⟨fun z=>pn (mem_append_left _ (mem_append_left _ (hsub.subset z))) rfl,n1.sublist hsub⟩
  ·rw [getElem?_map] at h2 h3
   cases e2:ps[i]? with
   | none=>rw [e2] at h2;cases h2
   | some q=>
    cases e3:Gs[i]? with
    | none=>rw [e3] at h3;cases h3
    | some G=>
     rw [e2] at h2;rw [e3] at h3
     cases h2
     cases h3;have cq:T.coer s q=true:=List.all_eq_true.mp hc q (mem_of_getElem? e2)
     have o1:=(A.own i v q G h1 e2 e3).mono (O':=p::(Gs.flatten++O++Fs'.flatten)) (gG (o:=.lst vs) hp) fun a ha=>by
      rcases List.mem_cons.mp ha with z | z
      ·rw [z];exact .inr hp
      ·exact .inl z
     refine o1.coer cq (fun a ha=>?_) fun a ha hO=>?_
     ·rw [append_assoc] at ha
      rcases List.mem_append.mp ha with z | z
      ·rcases List.mem_cons.mp z with z | z
       ·rw [z];exact mem_cons_self
       ·exact mem_cons_of_mem _ (mem_append_left _ (mem_append_left _ (hsub.subset z)))
      ·rcases List.mem_append.mp z with z | z
       ·exact mem_cons_of_mem _ (mem_append_left _ (mem_append_right _ z))
       ·exact mem_cons_of_mem _ (mem_append_right _ z)
     ·have hG:a∈Gs.flatten:=nI e3 ha
      cases s with
      | leaf=>
       rw [jU] at hO;exfalso
       rw [append_assoc] at hO;rcases List.mem_append.mp hO with z | z
       ·have z:a=p:=by simpa using z
        exact pn (mem_append_left _ (mem_append_left _ hG)) z
       ·rcases List.mem_append.mp z with z | z
        ·exact n3 a hG a z rfl
        ·exact m3 a (mem_append_left _ hG) a z rfl
      | view=>cases hs
      | lst s=>exact ha
      | tup ss=>exact ha
def aU (s:Sh) (fl:FL):F1:=fun Γ=>(fl Γ).bind fun ps Γ'=>if !s.isView&&ps.all (T.coer s)&&decide (ps.length<=sizeLine) then .ok ⟨.lst s,.list (ps.map (·.d))⟩ Γ' else .no
theorem xw {s:Sh} {fl:FL} (h:tE K W (aU s fl) σ H Q):Au (tA K W fl) σ H Q:=by
 obtain ⟨He,O,Fs,Γ,E,h⟩:=h;refine ⟨He,O,Fs,Γ,E,?_⟩
 unfold aU at h
 cases e:fl Γ with
 | ok ps Γ'=>
  rw [e] at h;intro vs H' Gs Fs' A
  have h:Wants K W He O Fs H σ Q (if (!s.isView&&ps.all (T.coer s)&&decide (ps.length<=sizeLine))=true then .ok ⟨.lst s,.list (ps.map (·.d))⟩ Γ' else .no):=h
  by_cases hc:(!s.isView&&ps.all (T.coer s)&&decide (ps.length<=sizeLine))=true
  ·rw [if_pos hc] at h
   simp only [Bool.and_eq_true,decide_eq_true_eq,Bool.not_eq_true'] at hc
   exact ⟨by rw [A.len1];exact hc.2,fun p hp=>h _ _ _ _ (A.newList hc.1.1 hc.1.2 hp)⟩
  ·rw [if_neg hc] at h
   exact h.elim
 | er c Γ'=>rw [e] at h;exact h
 | no=>rw [e] at h;exact h
def wH (p:PV):Sh:=if p.s.isView then .leaf else p.s
def tok (p:PV):Bool:=!p.s.isView||bD p.d
theorem AftL.newTup {p:Addr} (A:AftL K He O Fs H σ Γ' ps vs H' Gs Fs') (hc:ps.all tok=true) (hp:H' p=none) :
  Aft K He O Fs H σ Γ' ⟨.tup (ps.map wH),.tuple (ps.map (·.d))⟩ (.ref p) (bx H' p (.tup vs)) Gs.flatten Fs':=by
 obtain ⟨n1,n2,n3⟩:=List.nodup_append.mp A.env.ndO;have pn:p∉Gs.flatten++O++Fs'.flatten:=fun ha=>A.env.inH p ha hp
 refine ⟨A.same.trans (gG hp),A.env.grow (gG hp),A.new,?_⟩
 refine .tup (fun s hs=>?_) dQ pn (by rw [length_map];exact A.len1) (by rw [length_map];exact A.len2) (by rw [length_map,length_map]) n1 fun i v d F s h1 h2 h3 h4=>?_
 ·obtain ⟨q,_,rfl⟩:=List.mem_map.mp hs
  unfold wH;split
  ·rfl
  ·rename_i z;simpa using z
 ·rw [getElem?_map] at h2 h4
  cases e2:ps[i]? with
  | none=>rw [e2] at h2;cases h2
  | some q=>
   rw [e2] at h2 h4
   cases h2
   cases h4;have cq:tok q=true:=List.all_eq_true.mp hc q (mem_of_getElem? e2)
   have o1:=(A.own i v q F h1 e2 h3).mono (O':=Gs.flatten++O++Fs'.flatten) (gG (o:=.tup vs) hp) fun a ha=>.inl ha
   unfold wH
   cases hv:q.s.isView with
   | false=>exact o1
   | true=>
    unfold tok at cq;rw [hv] at cq;obtain ⟨s,d⟩:=q
    cases s with
    | view=>
     cases o1 with
     | view r=>exact .leaf (r.sc (by simpa using cq)).rep
    | _=>cases hv
def bE (fl:FL):F1:=fun Γ=>(fl Γ).bind fun ps Γ'=>if ps.all tok&&decide (ps.length<=sizeLine) then .ok ⟨.tup (ps.map wH),.tuple (ps.map (·.d))⟩ Γ' else .no
theorem AK {fl:FL} (h:tE K W (bE fl) σ H Q):Ar (tA K W fl) σ H Q:=by
 obtain ⟨He,O,Fs,Γ,E,h⟩:=h;refine ⟨He,O,Fs,Γ,E,?_⟩
 unfold bE at h
 cases e:fl Γ with
 | ok ps Γ'=>
  rw [e] at h;intro vs H' Gs Fs' A
  have h:Wants K W He O Fs H σ Q (if (ps.all tok&&decide (ps.length<=sizeLine))=true then .ok ⟨.tup (ps.map wH),.tuple (ps.map (·.d))⟩ Γ' else .no):=h
  by_cases hc:(ps.all tok&&decide (ps.length<=sizeLine))=true
  ·rw [if_pos hc] at h
   simp only [Bool.and_eq_true,decide_eq_true_eq] at hc
   exact ⟨by rw [A.len1];exact hc.2,fun p hp=>h _ _ _ _ (A.newTup hc.1 hp)⟩
  ·rw [if_neg hc] at h
   exact h.elim
 | er c Γ'=>rw [e] at h;exact h
 | no=>rw [e] at h;exact h
end
def dv (p:PV) (ds:List D):Bool:=!p.s.isView||ds.all bD
theorem Own.items {K:Fg} {O O':List Addr} {H:Hp} {s:Sh} {G:List Addr} {v:V} {ds:List D} (h:Own K O H s G v (.list ds)) (hc:dv ⟨s,.list ds⟩ ds=true) (h1:∀a∈O',a∈O) (h2:∀a∈G,a∉O') :
  ∃p vs,v=.ref p/\SqL K H p vs/\(s.isView=false->SqL K (bX H O') p vs)/\Reps K (bX H O') vs ds:=by
 have hr:=h.rep
 cases hv:s.isView with
 | false=>
  have r:=h.freeze hv h1 h2
  cases r with
  | @lst p vs _ hq hl hr=>exact ⟨p,vs,rfl,hid_le.seq hq,fun _=>hq,hl,hr⟩
 | true=>
  unfold dv at hc;have hc:ds.all bD=true:=by simpa [hv] using hc
  cases hr with
  | @lst p vs _ hq hl hr=>exact ⟨p,vs,rfl,hq,nofun,hl,fun i v d e1 e2=>((hr i v d e1 e2).sc (List.all_eq_true.mp hc d (mem_of_getElem? e2))).rep⟩
theorem Own.itemsT {K:Fg} {O O':List Addr} {H:Hp} {s:Sh} {G:List Addr} {v:V} {ds:List D} (h:Own K O H s G v (.tuple ds)) (hc:dv ⟨s,.tuple ds⟩ ds=true) (h1:∀a∈O',a∈O) (h2:∀a∈G,a∉O') :
  ∃p vs,v=.ref p/\SqT K H p vs/\(s.isView=false->SqT K (bX H O') p vs)/\Reps K (bX H O') vs ds:=by
 have hr:=h.rep
 cases hv:s.isView with
 | false=>
  have r:=h.freeze hv h1 h2
  cases r with
  | @tup p vs _ hq hl hr=>exact ⟨p,vs,rfl,gW hid_le hq,fun _=>hq,hl,hr⟩
 | true=>
  unfold dv at hc;have hc:ds.all bD=true:=by simpa [hv] using hc
  cases hr with
  | @tup p vs _ hq hl hr=>exact ⟨p,vs,rfl,hq,nofun,hl,fun i v d e1 e2=>((hr i v d e1 e2).sc (List.all_eq_true.mp hc d (mem_of_getElem? e2))).rep⟩
theorem FJ {K:Fg} {σ:St} {He H H1:Hp} {O:List Addr} {Fs Fs1:List (List Addr)} {Γ1:Ev} {vs:List V} {ds:List D} {p:Addr} (E:EnvOk K He O Fs1 H1 σ Γ1) (s:Same H H1) (n:∀a∈Fs1.flatten,a∈Fs.flatten\/H a=none)
  (hr:Reps K (bX H1 (O++Fs1.flatten)) vs ds) (hp:H1 p=none):Aft K He O Fs H σ Γ1 ⟨.lst .leaf,.list ds⟩ (.ref p) (bx H1 p (.lst vs)) [p] Fs1:=by
 have E2:=E.hide (G:=[p]) (gG (o:=.lst vs) hp) (by simp) (fun a ha=>by simp at ha;rw [ha];exact hp) (fun a ha=>by simp at ha;rw [ha,dQ];exact Option.some_ne_none _)
 refine ⟨s.trans (gG hp),E2,fun a ha=>?_,?_⟩
 ·rcases List.mem_append.mp ha with z | z
  ·have z:a=p:=by simpa using z
   rw [z];exact .inr (s.free hp)
  ·exact n a z
 ·have fl:(List.replicate ds.length ([]:List Addr)).flatten=[]:=by simp
  have:[p]=p::(List.replicate ds.length ([]:List Addr)).flatten:=by rw [fl]
  rw [this];refine .lst rfl dQ hr.1 (by simp) (by rw [fl];simp) fun i v d F h1 h2 h3=>?_
  rw [getElem?_replicate] at h3;split at h3
  ·cases h3
   refine .leaf ((hr.2 i v d h1 h2).mono (qw (gG hp) fun a ha=>?_))
   rw [fl] at ha;rcases List.mem_append.mp ha with z | z
   ·rcases List.mem_append.mp z with z | z
    ·have z:a=p:=by simpa using z
     rw [z];exact .inr hp
    ·exact .inl (mem_append_left _ z)
   ·exact .inl (mem_append_right _ z)
  ·cases h3
def zf (fa:F1):F1:=aV fa fun p Γ=>match p.d with
 | .list ds=>if dv p ds then .ok ⟨.lst .leaf,.list ds⟩ Γ else .no
 | .tuple ds=>if dv p ds then .ok ⟨.lst .leaf,.list ds⟩ Γ else .no
 | _=>.no
section
variable {K:Fg} {W:XW} {σ:St} {H:Hp} {Q:VK} {fa fb:F1}
theorem Aft.disj {He H1:Hp} {O G:List Addr} {Fs Fs1:List (List Addr)} {Γ1:Ev} {p:PV} {v:V} (A:Aft K He O Fs H σ Γ1 p v H1 G Fs1):∀a∈G,a∉O++Fs1.flatten:=fun a ha z=>by
 have nd:=A.env.nd
 rw [append_assoc] at nd;exact (List.nodup_append.mp nd).2.2 a ha a z rfl
theorem kh {G O F:List Addr}:∀a∈O++F,a∈G++O++F:=fun a ha=>by
 rw [append_assoc];exact mem_append_right _ ha
theorem qR (h:tE K W (zf fa) σ H Q):zx (fun xs H Q=>∃p ys,xs=[.ref p]/\(SqL K H p ys\/SqT K H p ys)/\∀l,H l=none->Q (.ref l) (bx H l (.lst ys))) (tA K W (ab fa af)) σ H Q:=by
 have h1:tE K W fa σ H fun x H1=>∃p ys,x=.ref p/\(SqL K H1 p ys\/SqT K H1 p ys)/\∀l,H1 l=none->Q (.ref l) (bx H1 l (.lst ys)):=by
  refine wz h fun He O Fs Γ1 p v H1 G Fs1 nd A w=>?_
  obtain ⟨s,d⟩:=p
  cases d with
  | list ds=>
   have w:Wants K W He O Fs H σ Q (if dv ⟨s,.list ds⟩ ds then .ok ⟨.lst .leaf,.list ds⟩ Γ1 else .no):=w
   cases hc:dv ⟨s,.list ds⟩ ds with
   | false=>rw [hc] at w;exact w.elim
   | true=>
    rw [hc] at w;obtain ⟨p,vs,rfl,hq,_,hr⟩:=A.own.items (O':=O++Fs1.flatten) hc kh A.disj
    exact ⟨p,vs,rfl,.inl hq,fun l hl=>w _ _ _ _ (FJ A.go A.same A.newF hr hl)⟩
  | tuple ds=>
   have w:Wants K W He O Fs H σ Q (if dv ⟨s,.tuple ds⟩ ds then .ok ⟨.lst .leaf,.list ds⟩ Γ1 else .no):=w
   cases hc:dv ⟨s,.tuple ds⟩ ds with
   | false=>rw [hc] at w;exact w.elim
   | true=>
    rw [hc] at w;obtain ⟨p,vs,rfl,hq,_,hr⟩:=A.own.itemsT (O':=O++Fs1.flatten) hc kh A.disj
    exact ⟨p,vs,rfl,.inr hq,fun l hl=>w _ _ _ _ (FJ A.go A.same A.newF hr hl)⟩
  | _=>exact w.elim
 obtain ⟨He,O,Fs,Γ,E,h1⟩:=h1;refine ⟨He,O,Fs,Γ,E,?_⟩
 unfold ab af
 cases e:fa Γ with
 | ok p Γ'=>
  rw [e] at h1;intro vs H' Gs Fs' A
  match vs,Gs,A.len1,A.len2 with
  | [v],[G],_,_=>
   have A':Aft K He O Fs H σ Γ' p v H' G Fs':=⟨A.same,by simpa using A.env,by simpa using A.new,by simpa using A.own 0 v p G rfl rfl rfl⟩
   obtain ⟨q,ys,rfl,h2,h3⟩:=h1 v H' G Fs' A'
   exact ⟨q,ys,rfl,h2,h3⟩
 | er c Γ'=>rw [e] at h1;exact h1
 | no=>rw [e] at h1;exact h1
end
structure we (J:It) (P:Hp->Prop) (vs:List V):Prop where
 go:∀(i:Nat) H v,P H->vs[i]?=some v->J.go i H/\∀x H',J.yld i H x H'->H'=H/\x=v
 stop:∀H,P H->J.stop vs.length H
theorem yo {K:Fg} {a:Addr} {vs:List V}:we (CW K a) (fun H=>SqL K H a vs) vs:=
 ⟨fun i H v hp hv=>⟨⟨vs,v,hp,hv⟩,fun x H' ⟨e,q⟩=>⟨e,Option.some.inj ((q vs hp).symm.trans hv)⟩⟩,fun H hp=>⟨vs,hp,Nat.le_refl _⟩⟩
theorem Cb {K:Fg} {a:Addr} {vs:List V}:we (GD K a) (fun H=>SqT K H a vs) vs:=
 ⟨fun i H v hp hv=>⟨⟨vs,v,hp,hv⟩,fun x H' ⟨e,q⟩=>⟨e,Option.some.inj ((q vs hp).symm.trans hv)⟩⟩,fun H hp=>⟨vs,hp,Nat.le_refl _⟩⟩
def fj (lo:Int) (n:Nat):List V:=(List.range n).map fun i=>.int (lo+(i:Nat))
def cg (lo:Int) (n:Nat):List D:=(List.range n).map fun i=>.int (lo+(i:Nat))
theorem vi {lo:Int} {n:Nat}:we (CV lo n) (fun _=>True) (fj lo n):=by
 refine ⟨fun i H v _ hv=>?_,fun H _=>?_⟩
 ·unfold fj at hv
  rw [getElem?_map] at hv
  cases e:(List.range n)[i]? with
  | none=>rw [e] at hv;cases hv
  | some k=>
   rw [e] at hv;obtain ⟨h1,h2⟩:=List.getElem?_eq_some_iff.mp e
   simp at h1 h2
   subst h2
   cases hv;exact ⟨h1,fun x H' ⟨q1,q2⟩=>⟨q1,q2⟩⟩
 ·show n<=(fj lo n).length
  simp [fj]
theorem Hy {K:Fg} {H:Hp} {lo:Int} {n:Nat}:Reps K H (fj lo n) (cg lo n):=by
 refine ⟨by simp [fj,cg],fun i v d h1 h2=>?_⟩
 unfold fj at h1;unfold cg at h2;rw [getElem?_map] at h1 h2
 cases e:(List.range n)[i]? with
 | none=>rw [e] at h1;cases h1
 | some k=>
  rw [e] at h1 h2
  cases h1
  cases h2;exact .int _
structure JK where
 ds:List D
 st:Bool
abbrev FI:=Ev->Out JK
def Dj (K:Fg) (W:XW) (He:Hp) (O:List Addr) (Fs:List (List Addr)) (H:Hp) (σ:St) (R:It->Hp->Prop) (o:Out JK):Prop:=match o with
 | .ok t Γ'=>∀J H' Fs' vs P,Same H H'->EnvOk K He O Fs' H' σ Γ'->(∀a∈Fs'.flatten,a∈Fs.flatten\/H a=none)->we J P vs->P H'->(∀H2,Same H' H2->P H2)->(t.st=true->∀H2,Same (bX H' Fs'.flatten) H2->P H2) ->
   Reps K (bX H' (O++Fs'.flatten)) vs t.ds->R J H'
 | .er c Γ'=>∀H' Fs',Same H H'->EnvOk K He O Fs' H' σ Γ'->W c σ H'
 | .no=>False
def tI (K:Fg) (W:XW) (f:FI):TI:=fun σ H R=>∃He O Fs Γ,EnvOk K He O Fs H σ Γ/\Dj K W He O Fs H σ R (f Γ)
theorem nC {X:Cx} {tg iter:Expr} {t t':TI} (h:PI X tg iter t) (i:∀σ H R,t' σ H R->t σ H R):PI X tg iter t':=fun pins s σ H R I q=>h pins s σ H R I (i σ H R q)
def aL (fa:F1):FI:=fun Γ=>(fa Γ).bind fun p Γ'=>match p.d with
 | .list ds=>if dv p ds then .ok ⟨ds,!p.s.isView⟩ Γ' else .no
 | _=>.no
def eR (fa:F1):FI:=fun Γ=>(fa Γ).bind fun p Γ'=>match p.d with
 | .tuple ds=>if dv p ds then .ok ⟨ds,!p.s.isView⟩ Γ' else .no
 | _=>.no
section
variable {K:Fg} {W:XW} {σ:St} {H:Hp} {R:It->Hp->Prop} {fa fb:F1}
theorem sub_hid {H:Hp} {O F:List Addr}:Same (bX H (O++F)) (bX H F):=qw (Same.refl _) fun a ha=>.inl (mem_append_right _ ha)
theorem xB (h:tI K W (aL fa) σ H R):iZ K (tE K W fa) σ H R:=by
 obtain ⟨He,O,Fs,Γ,E,h⟩:=h;refine ⟨He,O,Fs,Γ,E,?_⟩
 unfold aL at h
 cases e:fa Γ with
 | ok p Γ1=>
  rw [e] at h;intro v H1 G Fs1 A;obtain ⟨s,d⟩:=p
  cases d with
  | list ds=>
   have h:Dj K W He O Fs H σ R (if dv ⟨s,.list ds⟩ ds then .ok ⟨ds,!s.isView⟩ Γ1 else .no):=h
   cases hc:dv ⟨s,.list ds⟩ ds with
   | false=>rw [hc] at h;exact h.elim
   | true=>
    rw [hc] at h;obtain ⟨p,vs,rfl,hq,hst,hr⟩:=A.own.items (O':=O++Fs1.flatten) hc kh A.disj
    exact ⟨p,rfl,⟨vs,hq⟩,h (CW K p) H1 Fs1 vs (fun H=>SqL K H p vs) A.same A.go A.newF yo hq (fun H2 s2=>s2.seq hq) (fun ht H2 s2=>s2.seq (sub_hid.seq (hst (by simpa using ht)))) hr⟩
  | _=>exact h.elim
 | er c Γ'=>rw [e] at h;exact h
 | no=>rw [e] at h;exact h
theorem xA (h:tI K W (eR fa) σ H R):Ew K (tE K W fa) σ H R:=by
 obtain ⟨He,O,Fs,Γ,E,h⟩:=h;refine ⟨He,O,Fs,Γ,E,?_⟩
 unfold eR at h
 cases e:fa Γ with
 | ok p Γ1=>
  rw [e] at h;intro v H1 G Fs1 A;obtain ⟨s,d⟩:=p
  cases d with
  | tuple ds=>
   have h:Dj K W He O Fs H σ R (if dv ⟨s,.tuple ds⟩ ds then .ok ⟨ds,!s.isView⟩ Γ1 else .no):=h
   cases hc:dv ⟨s,.tuple ds⟩ ds with
   | false=>rw [hc] at h;exact h.elim
   | true=>
    rw [hc] at h;obtain ⟨p,vs,rfl,hq,hst,hr⟩:=A.own.itemsT (O':=O++Fs1.flatten) hc kh A.disj
    exact ⟨p,rfl,⟨vs,hq⟩,h (GD K p) H1 Fs1 vs (fun H=>SqT K H p vs) A.same A.go A.newF Cb hq (fun H2 s2=>gW s2 hq) (fun ht H2 s2=>gW s2 (gW sub_hid (hst (by simpa using ht)))) hr⟩
  | _=>exact h.elim
 | er c Γ'=>rw [e] at h;exact h
 | no=>rw [e] at h;exact h
def dq (j:Int):Bool:=decide (-(2 ^ 62)<=j)&&decide (j<2 ^ 62)
def jt:List D->Option Int
 | [.int j]=>if dq j then some j else none
 | _=>none
def qO:List D->Option (Int×Int)
 | [.int i,.int j]=>if dq i&&dq j then some (i,j) else none
 | _=>none
theorem pG {ds:List D} {j:Int} (h:jt ds=some j):ds=[.int j]/\-(2 ^ 62)<=j/\j<2 ^ 62:=by
 unfold jt at h;split at h
 ·split at h
  ·rename_i hc
   cases h;simp only [dq,Bool.and_eq_true,decide_eq_true_eq] at hc
   exact ⟨rfl,hc.1,hc.2⟩
  ·cases h
 ·cases h
theorem xm {ds:List D} {i j:Int} (h:qO ds=some (i,j)):ds=[.int i,.int j]/\(-(2 ^ 62)<=i/\i<2 ^ 62/\-(2 ^ 62)<=j/\j<2 ^ 62):=by
 unfold qO at h;split at h
 ·split at h
  ·rename_i hc
   cases h;simp only [dq,Bool.and_eq_true,decide_eq_true_eq] at hc
   exact ⟨rfl,hc.1.1,hc.1.2,hc.2.1,hc.2.2⟩
  ·cases h
 ·cases h
def gQ (fl:FL):FI:=fun Γ=>(fl Γ).bind fun ps Γ'=>match jt (ps.map (·.d)) with
 | some j=>.ok ⟨cg 0 j.toNat,true⟩ Γ'
 | none=>.no
def yr (fl:FL):FI:=fun Γ=>(fl Γ).bind fun ps Γ'=>match qO (ps.map (·.d)) with
 | some (i,j)=>.ok ⟨cg i (j-i).toNat,true⟩ Γ'
 | none=>.no
theorem A5 {fl:FL} (h:tI K W (gQ fl) σ H R):zM (tA K W fl) σ H R:=by
 obtain ⟨He,O,Fs,Γ,E,h⟩:=h;refine ⟨He,O,Fs,Γ,E,?_⟩
 unfold gQ at h
 cases e:fl Γ with
 | ok ps Γ1=>
  rw [e] at h;intro vs H1 Gs Fs1 A;have h:Dj K W He O Fs H σ R (match jt (ps.map (·.d)) with | some j=>.ok ⟨cg 0 j.toNat,true⟩ Γ1 | none=>.no):=h
  have rs:=A.reps
  cases e1:jt (ps.map (·.d)) with
  | none=>rw [e1] at h;exact h.elim
  | some j=>
   rw [e1] at h;obtain ⟨e2,h1,h2⟩:=pG e1;rw [e2] at rs;obtain ⟨v,rfl,r⟩:=rs.one
   cases r;exact ⟨j,rfl,h1,h2,h (CV 0 j.toNat) H1 Fs1 (fj 0 j.toNat) (fun _=>True) A.same A.env.dropL (fun a ha=>A.new a (mem_append_right _ ha)) vi trivial (fun _ _=>trivial) (fun _ _ _=>trivial) Hy⟩
 | er c Γ'=>rw [e] at h;exact h
 | no=>rw [e] at h;exact h
theorem AZ {fl:FL} (h:tI K W (yr fl) σ H R):zL (tA K W fl) σ H R:=by
 obtain ⟨He,O,Fs,Γ,E,h⟩:=h;refine ⟨He,O,Fs,Γ,E,?_⟩
 unfold yr at h
 cases e:fl Γ with
 | ok ps Γ1=>
  rw [e] at h;intro vs H1 Gs Fs1 A;have h:Dj K W He O Fs H σ R (match qO (ps.map (·.d)) with | some (i,j)=>.ok ⟨cg i (j-i).toNat,true⟩ Γ1 | none=>.no):=h
  have rs:=A.reps
  cases e1:qO (ps.map (·.d)) with
  | none=>rw [e1] at h;exact h.elim
  | some ij=>
   obtain ⟨i,j⟩:=ij;rw [e1] at h;obtain ⟨e2,hb⟩:=xm e1;rw [e2] at rs;obtain ⟨v,u,rfl,r,r'⟩:=rs.two
   cases r
   cases r'
   exact ⟨i,j,rfl,hb,h (CV i (j-i).toNat) H1 Fs1 (fj i (j-i).toNat) (fun _=>True) A.same A.env.dropL (fun a ha=>A.new a (mem_append_right _ ha)) vi trivial (fun _ _=>trivial) (fun _ _ _=>trivial) Hy⟩
 | er c Γ'=>rw [e] at h;exact h
 | no=>rw [e] at h;exact h
end
def qu (i:Nat) (fc:FB) (fe:F1) (s:Sh):List D->Ev->List D->Out (List D)
 | [],Γ,acc=>.ok acc Γ
 | d::r,Γ,acc=>match fc (Γ.set i (some ⟨.leaf,d⟩)) with
  | .ok true Γ1=>(match fe Γ1 with
   | .ok p Γ2=>if T.coer s p&&decide (acc.length<sizeLine) then qu i fc fe s r (Γ2.set i none) (acc++[p.d]) else .no
   | _=>.no)
  | .ok false Γ1=>if acc.length<sizeLine then qu i fc fe s r (Γ1.set i none) acc else .no
  | _=>.no
def aw (s:Sh) (i:Nat) (fi:FI) (fc:FB) (fe:F1):F1:=fun Γ=>(fi Γ).bind fun t Γ1=>match qu i fc fe s t.ds (Γ1.set i none) [] with
 | .ok ds Γ2=>if !s.isView&&decide (i<Γ1.length) then .ok ⟨.lst s,.list ds⟩ (Γ2.set i (Γ1.getD i none)) else .no
 | _=>.no
abbrev W0:XW:=fun _ _ _=>False
section
variable {K:Fg} {He H H1 H2:Hp} {O G:List Addr} {Fs Fs1 Fs2:List (List Addr)} {σ:St} {Γ Γ1 Γ2:Ev}
theorem Ho {is:List Nat} {σ:St} {j:Nat} (h:j∉is):(bc is σ)[j]?=σ[j]?:=by
 unfold bc;rw [List.getElem?_mapIdx]
 cases σ[j]? with
 | none=>rfl
 | some o=>simp [h]
theorem FO {Γ:Ev} {i j:Nat} {p:PV} (h:(Γ.set i none)[j]?=some (some p)):j≠i/\Γ[j]?=some (some p):=by
 by_cases hj:j=i
 ·subst hj
  rw [List.getElem?_set] at h;split at h
  ·split at h<;>cases h
  ·rename_i z;exact absurd rfl z
 ·rw [getElem?_set_ne (Ne.symm hj)] at h
  exact ⟨hj,h⟩
theorem EnvOk.shut {i:Nat} (E:EnvOk K He O Fs H σ Γ) (hi:i<Γ.length) :
  ∃F,Fs[i]?=some F/\EnvOk K He (F++O) (Fs.set i []) H (bc [i] σ) (Γ.set i none)/\∀a,a∈F++(Fs.set i []).flatten↔a∈Fs.flatten:=by
 obtain ⟨F,hF⟩:=E.lt hi;have pm:(F++(Fs.set i []).flatten).Perm Fs.flatten:=by simpa using o9 (G:=[]) hF
 have pm2:(F++O++(Fs.set i []).flatten).Perm (O++Fs.flatten):=by
  rw [append_assoc];exact (lW _ _ _).trans (List.Perm.append_left _ pm)
 refine ⟨F,hF,⟨by rw [zm,length_set];exact E.len1,by rw [length_set,length_set];exact E.len2,E.same,pm2.nodup_iff.mpr E.nd,fun a ha=>E.inH a (pm2.mem_iff.mp ha),fun a ha=>E.fresh a (pm.mem_iff.mp (mem_append_right _ ha)),fun j q hq=>?_⟩,fun a=>pm.mem_iff⟩
 obtain ⟨hj,hq⟩:=FO hq;obtain ⟨w1,v',F',e1,e2,e3⟩:=E.slot j q hq;exact ⟨w1,v',F',by rw [Ho (by simpa using hj)];exact e1,by rw [getElem?_set_ne (Ne.symm hj)];exact e2,e3.mono (Same.refl _) fun a ha=>.inl (pm2.mem_iff.mp ha)⟩
theorem EnvOk.forget {i:Nat} {x:Option V} (E:EnvOk K He O Fs H ((bc [i] σ).set i x) Γ) (hi:i<Γ.length):EnvOk K He O (Fs.set i []) H (bc [i] σ) (Γ.set i none):=by
 obtain ⟨F,hF⟩:=E.lt hi;have pm:(F++(Fs.set i []).flatten).Perm Fs.flatten:=by simpa using o9 (G:=[]) hF
 have sub:∀a∈O++(Fs.set i []).flatten,a∈O++Fs.flatten:=fun a ha=>by
  rcases List.mem_append.mp ha with z | z
  ·exact mem_append_left _ z
  ·exact mem_append_right _ (pm.mem_iff.mp (mem_append_right _ z))
 have l1:=E.len1
 rw [length_set] at l1;obtain ⟨n1,n2,n3⟩:=List.nodup_append.mp E.nd;have n4:((Fs.set i []).flatten).Nodup:=(List.nodup_append.mp (pm.nodup_iff.mpr n2)).2.1
 refine ⟨by rw [length_set];exact l1,by rw [length_set,length_set];exact E.len2,E.same,List.nodup_append.mpr ⟨n1,n4,fun a ha b hb=>n3 a ha b (pm.mem_iff.mp (mem_append_right _ hb))⟩,fun a ha=>E.inH a (sub a ha),fun a ha=>E.fresh a (pm.mem_iff.mp (mem_append_right _ ha)),fun j q hq=>?_⟩
 obtain ⟨hj,hq⟩:=FO hq;obtain ⟨w1,v',F',e1,e2,e3⟩:=E.slot j q hq;rw [getElem?_set_ne (Ne.symm hj)] at e1;exact ⟨w1,v',F',e1,by rw [getElem?_set_ne (Ne.symm hj)];exact e2,e3.mono (Same.refl _) fun a ha=>.inl (sub a ha)⟩
theorem EnvOk.reopen {i:Nat} {F:List Addr} (E1:EnvOk K He O Fs1 H1 σ Γ1) (hF:Fs1[i]?=some F) (E2:EnvOk K He (G++(F++O)) Fs2 H2 (bc [i] σ) Γ2) (hl:Γ2.length=Γ1.length) (s:Same H1 H2)
  (hn:Γ2[i]?=some none) (hF2:Fs2[i]?=some []) (new:∀a∈G++Fs2.flatten,a∈Fs1.flatten\/H1 a=none):EnvOk K He (G++O) (Fs2.set i F) H2 σ (Γ2.set i (Γ1.getD i none)):=by
 have pm:((Fs2.set i F).flatten).Perm (F++Fs2.flatten):=by simpa using o9 (G:=F) hF2
 have pm2:(G++O++(Fs2.set i F).flatten).Perm (G++(F++O)++Fs2.flatten):=by
  refine (List.Perm.append_left _ pm).trans ?_
  rw [append_assoc,append_assoc];refine List.Perm.append_left _ ?_
  rw [append_assoc];exact lW _ _ _
 have hi:i<Γ2.length:=(List.getElem?_eq_some_iff.mp hn).1
 refine ⟨by rw [length_set,hl];exact E1.len1,by rw [length_set,length_set];exact E2.len2,E2.same,pm2.nodup_iff.mpr E2.nd,fun a ha=>E2.inH a (pm2.mem_iff.mp ha),fun a ha=>?_,fun j q hq=>?_⟩
 ·rcases List.mem_append.mp (pm.mem_iff.mp ha) with z | z
  ·exact E1.fresh a (nI hF z)
  ·exact E2.fresh a z
 ·by_cases hj:j=i
  ·subst hj
   rw [getElem?_set_self hi] at hq;have hq:Γ1.getD j none=some q:=Option.some.inj hq
   rw [getD_eq_getElem?_getD] at hq;have hq':Γ1[j]?=some (some q):=by
    cases e:Γ1[j]? with
    | none=>rw [e] at hq;cases hq
    | some o=>rw [e] at hq;simp only [Option.getD_some] at hq;rw [hq]
   obtain ⟨w1,v',F',e1,e2,e3⟩:=E1.slot j q hq'
   rw [hF] at e2
   cases e2;refine ⟨w1,v',F,e1,getElem?_set_self (by rw [E2.len2];exact hi),e3.mono s fun a ha=>?_⟩
   rcases List.mem_append.mp ha with z | z
   ·rcases List.mem_append.mp z with z | z
    ·exact (new a (mem_append_left _ z)).elim (fun y=>.inl (mem_append_right _ y)) .inr
    ·exact .inl (mem_append_left _ z)
   ·rcases List.mem_append.mp (pm.mem_iff.mp z) with y | y
    ·exact .inl (mem_append_right _ (nI hF y))
    ·exact (new a (mem_append_right _ y)).elim (fun y=>.inl (mem_append_right _ y)) .inr
  ·rw [getElem?_set_ne (Ne.symm hj)] at hq
   obtain ⟨w1,v',F',e1,e2,e3⟩:=E2.slot j q hq;rw [Ho (by simpa using hj)] at e1
   exact ⟨w1,v',F',e1,by rw [getElem?_set_ne (Ne.symm hj)];exact e2,e3.mono (Same.refl _) fun a ha=>.inl (pm2.mem_iff.mp ha)⟩
theorem EnvOk.mutO {p:Addr} {o:HO} {xs:List V} (E:EnvOk K He O Fs H σ Γ) (hp:p∈O) (hl:H p=some (.lst xs)) (hn:He p=none):EnvOk K He O Fs (bx H p o) σ Γ:=by
 obtain ⟨n1,n2,n3⟩:=List.nodup_append.mp E.nd;refine ⟨E.len1,E.len2,fun b u e=>?_,E.nd,fun a ha=>?_,E.fresh,fun j q hq=>?_⟩
 ·rw [cQ (kf e hn)]
  exact E.same b u e
 ·by_cases h:a=p
  ·rw [h,dQ];exact Option.some_ne_none _
  ·rw [cQ h];exact E.inH a ha
 ·obtain ⟨w1,v',F',e1,e2,e3⟩:=E.slot j q hq
  exact ⟨w1,v',F',e1,e2,e3.mut w1 (mem_append_left _ hp) (fun z=>n3 p hp p (nI e2 z) rfl) hl⟩
end
structure JM (K:Fg) (He:Hp) (O F:List Addr) (Fs1:List (List Addr)) (H1:Hp) (σ:St) (i:Nat) (s:Sh) (A0:Addr) (n:Nat) (ys:List V) (H:Hp) (Γk:Ev) (Fk Gs:List (List Addr)) (acc:List D):Prop where
 env:EnvOk K He (A0::Gs.flatten++(F++O)) Fk H (bc [i] σ) Γk
 same:Same H1 H
 at_:H A0=some (.lst ys)
 new:∀a∈Gs.flatten++Fk.flatten,a∈Fs1.flatten\/H1 a=none
 l1:ys.length=acc.length
 l2:Gs.length=acc.length
 own:∀(j:Nat) v d G,ys[j]?=some v->acc[j]?=some d->Gs[j]?=some G->Own K (A0::Gs.flatten++(F++O)++Fk.flatten) H s G v d
 noneG:Γk[i]?=some none
 noneF:Fk[i]?=some []
 len:Γk.length=n
theorem wY {α:Type} (Gs:List (List α)) (G:List α):(Gs++[G]).flatten=Gs.flatten++G:=by simp
section
variable {K:Fg} {W:XW} {σ:St} {H:Hp} {Q:VK} {fe:F1} {fc:FB} {fi:FI} {s:Sh} {i:Nat}
theorem G6 (h:tE K W (aw s i fi fc fe) σ H Q):fS [i] (tI K W fi) (bR i) (tT K W0 fc) (tE K W0 fe) σ H Q:=by
 obtain ⟨He,O,Fs,Γ,E,h⟩:=h;refine ⟨He,O,Fs,Γ,E,?_⟩
 unfold aw at h
 cases e:fi Γ with
 | er c Γ'=>rw [e] at h;exact h
 | no=>rw [e] at h;exact h
 | ok t Γ1=>
  rw [e] at h;intro J H1 Fs1 vs P s1 E1 n1 it hP hP1 _ hr A0 hD;have h:Wants K W He O Fs H σ Q (match qu i fc fe s t.ds (Γ1.set i none) [] with | .ok ds Γ2=>if !s.isView&&decide (i<Γ1.length) then .ok ⟨.lst s,.list ds⟩ (Γ2.set i (Γ1.getD i none)) else .no | _=>.no):=h
  cases eg:qu i fc fe s t.ds (Γ1.set i none) [] with
  | er c Γ'=>rw [eg] at h;exact h.elim
  | no=>rw [eg] at h;exact h.elim
  | ok ds' Γ2=>
   rw [eg] at h;have h:Wants K W He O Fs H σ Q (if (!s.isView&&decide (i<Γ1.length))=true then .ok ⟨.lst s,.list ds'⟩ (Γ2.set i (Γ1.getD i none)) else .no):=h
   by_cases hc:(!s.isView&&decide (i<Γ1.length))=true
   case neg=>rw [if_neg hc] at h;exact h.elim
   rw [if_pos hc] at h;simp only [Bool.and_eq_true,decide_eq_true_eq,Bool.not_eq_true'] at hc
   obtain ⟨hsv,hi⟩:=hc;obtain ⟨F,hF,E0,hmem⟩:=E1.shut hi;have hHeD:He A0=none:=E1.same.free hD
   have E0':EnvOk K He (A0::([]:List (List Addr)).flatten++(F++O)) (Fs1.set i []) (bx H1 A0 (.lst [])) (bc [i] σ) (Γ1.set i none):=
    E0.hide (G:=[A0]) (gG hD) (by simp) (fun a ha=>by simp at ha;rw [ha];exact hD) (fun a ha=>by simp at ha;rw [ha,dQ];exact Option.some_ne_none _)
   refine ⟨fun k m ys H'=>m=vs.length-k/\k<=vs.length/\∃Γk Fk Gs acc,JM K He O F Fs1 H1 σ i s A0 Γ1.length ys H' Γk Fk Gs acc/\qu i fc fe s (t.ds.drop k) Γk acc=.ok ds' Γ2,⟨vs.length,by simp,Nat.zero_le _,Γ1.set i none,Fs1.set i [],[],[],⟨E0',gG hD,dQ,fun a ha=>.inl ((hmem a).mp (mem_append_right _ (by simpa using ha))),rfl,rfl,fun j v d G h1=>by simp at h1,getElem?_set_self hi,getElem?_set_self (by rw [E1.len2];exact hi),by rw [length_set]⟩,by simpa using eg⟩,?_⟩
   rintro k m ys H' ⟨rfl,hk,Γk,Fk,Gs,acc,g,eg'⟩
   refine ⟨g.at_,?_⟩
   have hPk:P H':=hP1 H' g.same
   have hlen:vs.length=t.ds.length:=hr.1
   by_cases hlt:k<vs.length
   case neg=>
    have hke:k=vs.length:=by omega
    left
    have:t.ds.drop k=[]:=drop_eq_nil_of_le (by omega)
    rw [this] at eg';have eg'':(Out.ok acc Γk:Out (List D))=.ok ds' Γ2:=eg'
    injection eg'' with e1 e2
    subst e1;subst e2;refine ⟨by rw [hke];exact it.stop H' hPk,?_⟩
    have E3:EnvOk K He ((A0::Gs.flatten)++O) (Fk.set i F) H' σ (Γk.set i (Γ1.getD i none)):=
     EnvOk.reopen (G:=A0::Gs.flatten) E1 hF g.env g.len g.same g.noneG g.noneF fun a ha=>by
      rcases List.mem_append.mp ha with z | z
      ·rcases List.mem_cons.mp z with z | z
       ·rw [z];exact .inr hD
       ·exact g.new a (mem_append_left _ z)
      ·exact g.new a (mem_append_right _ z)
    have pmF:((Fk.set i F).flatten).Perm (F++Fk.flatten):=by simpa using o9 (G:=F) g.noneF
    obtain ⟨n1',_,n3'⟩:=List.nodup_append.mp g.env.ndO;refine h (.ref A0) H' (A0::Gs.flatten) (Fk.set i F) ⟨s1.trans g.same,E3,fun a ha=>?_,?_⟩
    ·have up:a∈Fs1.flatten\/H1 a=none->a∈Fs.flatten\/H a=none:=fun z=>z.elim (n1 a) fun y=>.inr (s1.free y)
     rcases List.mem_append.mp ha with z | z
     ·rcases List.mem_cons.mp z with z | z
      ·exact up (.inr (by rw [z];exact hD))
      ·exact up (g.new a (mem_append_left _ z))
     ·rcases List.mem_append.mp (pmF.mem_iff.mp z) with y | y
      ·exact up (.inl (nI hF y))
      ·exact up (g.new a (mem_append_right _ y))
    ·refine .lst hsv g.at_ g.l1 g.l2 n1' fun j v d G h1 h2 h3=>(g.own j v d G h1 h2 h3).perm fun a ha=>?_
     rw [append_assoc] at ha ⊢;rcases List.mem_append.mp ha with z | z
     ·exact mem_append_left _ z
     ·refine mem_append_right _ ?_
      rcases List.mem_append.mp z with z | z
      ·exact mem_append_left _ (mem_append_right _ z)
      ·rcases List.mem_append.mp (pmF.mem_iff.mp z) with y | y
       ·exact mem_append_left _ (mem_append_left _ y)
       ·exact mem_append_right _ y
   case pos=>
    right
    have hv:vs[k]?=some vs[k]:=getElem?_eq_getElem hlt
    have hkd:k<t.ds.length:=by omega
    have hd:t.ds[k]?=some t.ds[k]:=getElem?_eq_getElem hkd
    have hdr:t.ds.drop k=t.ds[k]::t.ds.drop (k+1):=drop_eq_getElem_cons hkd
    rw [hdr] at eg';generalize hdk:t.ds[k]=d at hd eg'
    generalize hvk:vs[k]=v at hv
    obtain ⟨hgo,hyld⟩:=it.go k H' v hPk hv
    simp only [qu] at eg'
    have hik:i<Γk.length:=by rw [g.len];exact hi
    have rep:Rep K (bX H' (A0::Gs.flatten++(F++O)++Fk.flatten)) v d:=(hr.2 k v d hv hd).mono (qw g.same fun a ha=>by
     rcases List.mem_append.mp ha with z | z
     ·rcases List.mem_append.mp z with z | z
      ·rcases List.mem_cons.mp z with z | z
       ·rw [z];exact .inr hD
       ·exact (g.new a (mem_append_left _ z)).elim (fun y=>.inl (mem_append_right _ y)) .inr
      ·rcases List.mem_append.mp z with z | z
       ·exact .inl (mem_append_right _ (nI hF z))
       ·exact .inl (mem_append_left _ z)
     ·exact (g.new a (mem_append_right _ z)).elim (fun y=>.inl (mem_append_right _ y)) .inr)
    have Ep:EnvOk K He (A0::Gs.flatten++(F++O)) (Fk.set i []) H' ((bc [i] σ).set i (some v)) (Γk.set i (some ⟨.leaf,d⟩)):=
     EnvOk.put (G:=[]) (p:=⟨.leaf,d⟩) (v:=v) g.env (.leaf rep) rfl (fun a ha=>by simp at ha) hik
    have hsl:ys.length<sizeLine:=by
     rw [g.l1]
     cases ec:fc (Γk.set i (some ⟨.leaf,d⟩)) with
     | no=>rw [ec] at eg';cases eg'
     | er c Γ'=>rw [ec] at eg';cases eg'
     | ok b Γa=>
      rw [ec] at eg'
      cases b with
      | false=>
       dsimp only at eg'
       split at eg'
       ·assumption
       ·cases eg'
      | true=>
       dsimp only at eg'
       split at eg'
       ·split at eg'
        ·rename_i z
         simp only [Bool.and_eq_true,decide_eq_true_eq] at z
         exact z.2
        ·cases eg'
       ·cases eg'
    refine ⟨hgo,hsl,fun x Hx hx=>?_⟩
    obtain ⟨rfl,rfl⟩:=hyld x Hx hx;show GB (bc [i] σ) ((bc [i] σ).set i (some x))/\_
    refine ⟨⟨by rw [length_set],fun j u hj=>?_⟩,?_⟩
    ·have:=(FA hj).1
     rw [getElem?_set_ne (by simp at this;exact fun z=>this z.symm)]
     exact hj
    refine ⟨He,_,_,_,Ep,?_⟩
    cases ec:fc (Γk.set i (some ⟨.leaf,d⟩)) with
    | no=>rw [ec] at eg';cases eg'
    | er c Γ'=>rw [ec] at eg';cases eg'
    | ok b Γa=>
     rw [ec] at eg';intro H3 Fs3 s3 E3 n3;have lena:Γa.length=Γ1.length:=by
      have:=E3.len1
      rw [length_set,zm,E1.len1] at this;exact this.symm
     have n3':∀a∈Fs3.flatten,a∈Fs1.flatten\/H1 a=none:=fun a ha=>(n3 a ha).elim (fun z=>by
      have pm:((Fk.set i []).flatten).Perm Fk.flatten:=by simpa using o9 (G:=[]) g.noneF
      exact g.new a (mem_append_right _ (pm.mem_iff.mp z))) fun z=>.inr (g.same.free z)
     cases b with
     | false=>
      dsimp only at eg'
      split at eg'
      case isFalse=>cases eg'
      refine iU ⟨vs.length-(k+1),by omega,rfl,hlt,Γa.set i none,Fs3.set i [],Gs,acc,⟨E3.forget (by rw [lena];exact hi),g.same.trans s3,s3 _ _ g.at_,fun a ha=>?_,g.l1,g.l2,fun j v d G h1 h2 h3=>(g.own j v d G h1 h2 h3).mono s3 fun a ha=>?_,getElem?_set_self (by rw [lena];exact hi),getElem?_set_self (by rw [E3.len2,lena];exact hi),by rw [length_set];exact lena⟩,eg'⟩
      ·rcases List.mem_append.mp ha with z | z
       ·exact g.new a (mem_append_left _ z)
       ·obtain ⟨F3,hF3⟩:=E3.lt (i:=i) (by rw [lena];exact hi)
        have pm:(F3++(Fs3.set i []).flatten).Perm Fs3.flatten:=by simpa using o9 (G:=[]) hF3
        exact n3' a (pm.mem_iff.mp (mem_append_right _ z))
      ·rcases List.mem_append.mp ha with z | z
       ·exact .inl (mem_append_left _ z)
       ·obtain ⟨F3,hF3⟩:=E3.lt (i:=i) (by rw [lena];exact hi)
        have pm:(F3++(Fs3.set i []).flatten).Perm Fs3.flatten:=by simpa using o9 (G:=[]) hF3
        have pm2:((Fk.set i []).flatten).Perm Fk.flatten:=by simpa using o9 (G:=[]) g.noneF
        exact (n3 a (pm.mem_iff.mp (mem_append_right _ z))).elim (fun y=>.inl (mem_append_right _ (pm2.mem_iff.mp y))) .inr
     | true=>
      refine iT ⟨He,_,_,_,E3,?_⟩
      dsimp only at eg'
      cases ee:fe Γa with
      | no=>rw [ee] at eg';cases eg'
      | er c Γ'=>rw [ee] at eg';cases eg'
      | ok p Γb=>
       rw [ee] at eg';dsimp only at eg'
       split at eg'
       case isFalse=>cases eg'
       rename_i hco;simp only [Bool.and_eq_true,decide_eq_true_eq] at hco
       obtain ⟨hco,_⟩:=hco;intro u H4 G Fs4 A4;have lenb:Γb.length=Γ1.length:=by
        have:=A4.env.len1
        rw [length_set,zm,E1.len1] at this;exact this.symm
       have hib:i<Γb.length:=by rw [lenb];exact hi
       have at4:H4 A0=some (.lst ys):=A4.same _ _ (s3 _ _ g.at_)
       have s14:Same H1 H4:=(g.same.trans s3).trans A4.same
       have pmk:((Fk.set i []).flatten).Perm Fk.flatten:=by simpa using o9 (G:=[]) g.noneF
       obtain ⟨F4,hF4⟩:=A4.env.lt hib;have pm4:(F4++(Fs4.set i []).flatten).Perm Fs4.flatten:=by simpa using o9 (G:=[]) hF4
       have new4:∀a∈G++Fs4.flatten,a∈Fs1.flatten\/H1 a=none:=fun a ha=>(A4.new a ha).elim (n3' a) fun z=>.inr ((g.same.trans s3).free z)
       have hG':∀a∈aP s G,a∈G:=fun a ha=>HR ha
       obtain ⟨k1,k2,k3⟩:=List.nodup_append.mp A4.env.ndO;have ndk:(aP s G).Nodup:=by
        cases s<;>first | exact nodup_nil | exact k1
       have pmO:(A0::(Gs++[aP s G]).flatten++(F++O)).Perm (aP s G++(A0::Gs.flatten++(F++O))):=by
        rw [wY];show (A0::((Gs.flatten++aP s G)++(F++O))).Perm _
        refine List.Perm.trans ?_ List.perm_middle.symm
        refine List.Perm.cons _ ?_
        rw [append_assoc];exact lW _ _ _
       have E5:EnvOk K He (aP s G++(A0::Gs.flatten++(F++O))) Fs4 H4 ((bc [i] σ).set i (some x)) Γb:=A4.env.drop (fun a ha=>by
        rcases List.mem_append.mp ha with z | z
        ·exact mem_append_left _ (hG' a z)
        ·exact mem_append_right _ z) (List.nodup_append.mpr ⟨ndk,k2,fun a ha b hb=>k3 a (hG' a ha) b hb⟩)
       have E6:=(E5.perm pmO).forget hib
       have hDin:A0∈A0::(Gs++[aP s G]).flatten++(F++O):=mem_cons_self
       have E7:=E6.mutO (o:=.lst (ys++[u])) hDin at4 hHeD
       have subH:∀a∈A0::(Gs++[aP s G]).flatten++(F++O)++(Fs4.set i []).flatten,a∈G++(A0::Gs.flatten++(F++O))++Fs4.flatten:=fun a ha=>by
        rcases List.mem_append.mp ha with z | z
        ·rcases List.mem_append.mp (pmO.mem_iff.mp z) with y | y
         ·exact mem_append_left _ (mem_append_left _ (hG' a y))
         ·exact mem_append_left _ (mem_append_right _ y)
        ·exact mem_append_right _ (pm4.mem_iff.mp (mem_append_right _ z))
       have Dnot:∀{j:Nat} {Gj:List Addr},Gs[j]?=some Gj->A0∉Gj:=fun {j Gj} hj z=>by
        have nd:=g.env.ndO
        exact (List.nodup_cons.mp nd).1 (mem_append_left _ (nI hj z))
       refine ⟨at4,vs.length-(k+1),by omega,rfl,hlt,Γb.set i none,Fs4.set i [],Gs++[aP s G],acc++[p.d],⟨E7,fun b o hb=>?_,dQ,fun a ha=>?_,by simp [g.l1],by simp [g.l2],fun j w d' G' h1 h2 h3=>?_,getElem?_set_self hib,getElem?_set_self (by rw [A4.env.len2];exact hib),by rw [length_set];exact lenb⟩,eg'⟩
       ·rw [cQ (kf hb hD)]
        exact s14 b o hb
       ·rcases List.mem_append.mp ha with z | z
        ·rw [wY] at z
         rcases List.mem_append.mp z with z | z
         ·exact g.new a (mem_append_left _ z)
         ·exact new4 a (mem_append_left _ (hG' a z))
        ·exact new4 a (mem_append_right _ (pm4.mem_iff.mp (mem_append_right _ z)))
       ·by_cases hj:j<ys.length
        ·rw [getElem?_append_left hj] at h1
         rw [getElem?_append_left (by rw [<-g.l1];exact hj)] at h2
         rw [getElem?_append_left (by rw [g.l2,<-g.l1];exact hj)] at h3
         have o1:=g.own j w d' G' h1 h2 h3
         have o2:=o1.mono (O':=A0::(Gs++[aP s G]).flatten++(F++O)++(Fs4.set i []).flatten) (s3.trans A4.same) fun a ha=>by
          have up:a∈G++Fs4.flatten->a∈A0::Gs.flatten++(F++O)++Fk.flatten\/Hx a=none:=fun z=>(A4.new a z).elim (fun y=>(n3 a y).elim (fun y=>.inl (mem_append_right _ (pmk.mem_iff.mp y))) .inr) fun y=>.inr (s3.free y)
          rcases List.mem_append.mp (subH a ha) with z | z
          ·rcases List.mem_append.mp z with z | z
           ·exact up (mem_append_left _ z)
           ·exact .inl (mem_append_left _ z)
          ·exact up (mem_append_right _ z)
         exact o2.mut hsv (mem_append_left _ hDin) (Dnot h3) at4
        ·have hj':j=ys.length:=by
          have:=(List.getElem?_eq_some_iff.mp h1).1
          rw [length_append,length_singleton] at this;omega
         subst hj'
         rw [getElem?_append_right (Nat.le_refl _),Nat.sub_self] at h1;rw [getElem?_append_right (by rw [g.l1];exact Nat.le_refl _),show ys.length-acc.length=0 by rw [g.l1];exact Nat.sub_self _] at h2
         rw [getElem?_append_right (by rw [g.l2,g.l1];exact Nat.le_refl _),show ys.length-Gs.length=0 by rw [g.l2,g.l1];exact Nat.sub_self _] at h3
         cases h1
         cases h2
         cases h3;have o3:=A4.own.coer (s:=s) (O':=A0::(Gs++[aP s G]).flatten++(F++O)++(Fs4.set i []).flatten) hco subH fun a ha hO=>by
          cases s with
          | leaf=>
           exfalso
           have hO':a∈(A0::Gs.flatten++(F++O))++(Fs4.set i []).flatten:=by
            rw [wY] at hO;simpa [aP] using hO
           rcases List.mem_append.mp hO' with z | z
           ·exact k3 a ha a z rfl
           ·have nd:=A4.env.nd
            exact (List.nodup_append.mp nd).2.2 a (mem_append_left _ ha) a (pm4.mem_iff.mp (mem_append_right _ z)) rfl
          | view=>cases hsv
          | lst s=>exact ha
          | tup ss=>exact ha
         refine o3.mut hsv (mem_append_left _ hDin) (fun z=>?_) at4
         exact k3 A0 (hG' A0 z) A0 mem_cons_self rfl
end
inductive fO where
 | nx (e:Ev) | bk (e:Ev) | ct (e:Ev) | rt (p:PV) | er (c:Str) (e:Ev) | no
abbrev FS:=Ev->fO
structure RetOk (K:Fg) (He:Hp) (O:List Addr) (p:PV) (v:V) (H':Hp) (G:List Addr):Prop where
 same:Same He H'
 fresh:∀a∈G,He a=none
 inH:∀a∈G,H' a≠none
 nd:G.Nodup
 own:Own K (G++O) H' p.s G v p.d
 nv:p.s.isView=false
def o7 (K:Fg) (W:XW) (He:Hp) (O:List Addr) (D:gh):fO->Prop
 | .nx Γ'=>∀σ' H' Fs',EnvOk K He O Fs' H' σ' Γ'->D.nx σ' H'
 | .bk Γ'=>∀σ' H' Fs',EnvOk K He O Fs' H' σ' Γ'->D.bk σ' H'
 | .ct Γ'=>∀σ' H' Fs',EnvOk K He O Fs' H' σ' Γ'->D.ct σ' H'
 | .rt p=>∀v H' G,RetOk K He O p v H' G->D.rt v H'
 | .er c Γ'=>∀σ' H' Fs',EnvOk K He O Fs' H' σ' Γ'->W c σ' H'
 | .no=>False
def tS (K:Fg) (W:XW) (g:FS):TS:=fun D σ H=>∃He O Fs Γ,EnvOk K He O Fs H σ Γ/\o7 K W He O D (g Γ)
def aG:FS:=fun Γ=>.nx Γ
def ak (g1 g2:FS):FS:=fun Γ=>match g1 Γ with
 | .nx Γ'=>g2 Γ'
 | o=>o
def iF (f:F1) (k:PV->Ev->fO):FS:=fun Γ=>match f Γ with
 | .ok p Γ'=>k p Γ'
 | .er c Γ'=>.er c Γ'
 | .no=>.no
def bW (c:FB) (a b:FS):FS:=fun Γ=>match c Γ with
 | .ok t Γ'=>if t then a Γ' else b Γ'
 | .er c Γ'=>.er c Γ'
 | .no=>.no
section
variable {K:Fg} {W:XW} {σ:St} {H:Hp} {D:gh} {fa fb:F1} {ga gb:FB} {g1 g2:FS}
theorem xr (h:tS K W aG D σ H):pA D σ H:=by
 obtain ⟨He,O,Fs,Γ,E,h⟩:=h;exact h σ H Fs E
theorem AN (h:tS K W (ak g1 g2) D σ H):fI (tS K W g1) (tS K W g2) D σ H:=by
 obtain ⟨He,O,Fs,Γ,E,h⟩:=h;refine ⟨He,O,Fs,Γ,E,?_⟩
 unfold ak at h
 cases e:g1 Γ with
 | nx Γ'=>rw [e] at h;exact fun σ' H' Fs' E'=>⟨He,O,Fs',Γ',E',h⟩
 | bk Γ'=>rw [e] at h;exact h
 | ct Γ'=>rw [e] at h;exact h
 | rt p=>rw [e] at h;exact h
 | er c Γ'=>rw [e] at h;exact h
 | no=>rw [e] at h;exact h
theorem iA {k:PV->Ev->fO} {R:VK} (h:tS K W (iF fa k) D σ H)
  (hk:∀He O Fs Γ1 p v H1 G Fs1,EnvOk K He O Fs H σ Γ1\/True->(∀a∈G,He a=none)->Aft K He O Fs H σ Γ1 p v H1 G Fs1->o7 K W He O D (k p Γ1)->R v H1):tE K W fa σ H R:=by
 obtain ⟨He,O,Fs,Γ,E,h⟩:=h;refine ⟨He,O,Fs,Γ,E,?_⟩
 unfold iF at h
 cases e:fa Γ with
 | ok p Γ1=>rw [e] at h;exact fun v H' G Fs' A=>hk He O Fs Γ1 p v H' G Fs' (.inr trivial) (A.freshG E) A h
 | er c Γ1=>rw [e] at h;exact fun H' Fs' s E'=>h σ H' Fs' E'
 | no=>rw [e] at h;exact h
theorem AX (h:tS K W (bW ga g1 g2) D σ H):w5 (tT K W ga) (tS K W g1) (tS K W g2) D σ H:=by
 obtain ⟨He,O,Fs,Γ,E,h⟩:=h;refine ⟨He,O,Fs,Γ,E,?_⟩
 unfold bW at h
 cases e:ga Γ with
 | ok b Γ1=>
  rw [e] at h;intro H' Fs' s E' n
  cases b with
  | true=>exact iT ⟨He,O,Fs',Γ1,E',h⟩
  | false=>exact iU ⟨He,O,Fs',Γ1,E',h⟩
 | er c Γ1=>rw [e] at h;exact fun H' Fs' s E'=>h σ H' Fs' E'
 | no=>rw [e] at h;exact h
def aF (f:F1):FS:=iF f fun p _=>if p.s.isView then (if bD p.d then .rt ⟨.leaf,p.d⟩ else .no) else .rt p
theorem AQ (h:tS K W (aF fa) D σ H):tR (tE K W fa) D σ H:=by
 refine iA h fun He O Fs Γ1 p v H1 G Fs1 _ fr A w=>?_
 obtain ⟨n1,n2,n3⟩:=List.nodup_append.mp A.env.ndO;have inH:∀a∈G,H1 a≠none:=fun a ha=>A.env.inH a (mem_append_left _ (mem_append_left _ ha))
 cases hv:p.s.isView with
 | false=>
  have w:o7 K W He O D (.rt p):=by simpa [hv] using w
  exact w v H1 G ⟨A.env.same,fr,inH,n1,A.own.perm fun a ha=>mem_append_left _ ha,hv⟩
 | true=>
  cases hs:bD p.d with
  | false=>rw [hv,hs] at w;exact w.elim
  | true=>
   have w:o7 K W He O D (.rt ⟨.leaf,p.d⟩):=by simpa [hv,hs] using w
   exact w v H1 [] ⟨A.env.same,(fun _ z=>nomatch z),(fun _ z=>nomatch z),nodup_nil,.leaf (A.own.rep.sc hs).rep,rfl⟩
def aB (own:Bool) (i:Nat) (f:F1):FS:=iF f fun p Γ=>if i<Γ.length then (if own&&!p.s.isView then .nx (Γ.set i (some p)) else if T.coer .leaf p then .nx (Γ.set i (some ⟨.leaf,p.d⟩)) else .no) else .no
theorem uk {own:Bool} {i:Nat} (h:tS K W (aB own i fa) D σ H):gZ (tE K W fa) (bR i) D σ H:=by
 refine iA h fun He O Fs Γ1 p v H1 G Fs1 _ fr A w=>?_
 show D.nx (σ.set i (some v)) H1
 have w:o7 K W He O D (if i<Γ1.length then (if own&&!p.s.isView then .nx (Γ1.set i (some p)) else if T.coer .leaf p then .nx (Γ1.set i (some ⟨.leaf,p.d⟩)) else .no) else .no):=w
 by_cases hi:i<Γ1.length
 case neg=>rw [if_neg hi] at w;exact w.elim
 rw [if_pos hi] at w
 cases ho:(own&&!p.s.isView) with
 | true=>
  rw [ho] at w;have hv:p.s.isView=false:=by
   simp only [Bool.and_eq_true,Bool.not_eq_true'] at ho
   exact ho.2
  exact w _ H1 _ (EnvOk.put A.env A.own hv fr hi)
 | false=>
  rw [ho] at w
  cases hc:T.coer .leaf p with
  | false=>rw [hc] at w;exact w.elim
  | true=>
   rw [hc] at w;have o:=A.own.coer (s:=.leaf) (O':=O++Fs1.flatten) hc kh fun a ha z=>absurd z (A.disj a ha)
   exact w _ H1 _ (EnvOk.put (G:=[]) (p:=⟨.leaf,p.d⟩) (v:=v) A.go o rfl (fun a ha=>by simp at ha) hi)
def bq (f:F1):FS:=iF f fun _ Γ=>.nx Γ
theorem xD (h:tS K W (bq fa) D σ H):jM (tE K W fa) D σ H:=
 iA h fun He O Fs Γ1 p v H1 G Fs1 _ fr A w=>w σ H1 Fs1 A.go
theorem zj {α:Type} {l:List α} {i:Nat} {x:α} (h:l[i]?=some x):l.set i x=l:=by
 apply ext_getElem?
 intro j;by_cases hj:j=i
 ·subst hj
  rw [getElem?_set_self (List.getElem?_eq_some_iff.mp h).1,h]
 ·rw [getElem?_set_ne (Ne.symm hj)]
def yZ (i:Nat) (p:PV) (Γ:Ev):fO:=match Γ[i]? with
 | some (some ⟨.lst s,.list ds⟩)=>if T.coer s p&&decide (ds.length<sizeLine) then .nx (Γ.set i (some ⟨.lst s,.list (ds++[p.d])⟩)) else .no
 | _=>.no
def C2:Option (Option PV)->Bool
 | some (some ⟨.lst _,.list _⟩)=>true
 | _=>false
def eE (i:Nat) (f:F1):FS:=fun Γ=>if C2 Γ[i]? then iF f (yZ i) Γ else .no
theorem yY {He H:Hp} {O G:List Addr} {Fs:List (List Addr)} {Γ:Ev} {i:Nat} {s:Sh} {ds:List PySem.PyData} {p:PV} {v:V} (E:EnvOk K He (G++O) Fs H σ Γ) (o:Own K (G++O++Fs.flatten) H p.s G v p.d) (fr:∀a∈G,He a=none)
  (h:Γ[i]?=some (some ⟨.lst s,.list ds⟩)) (hc:T.coer s p=true) :
  ∃l vs,σ[i]?=some (some (.ref l))/\H l=some (.lst vs)/\vs.length=ds.length/\∃Fs',EnvOk K He O Fs' (bx H l (.lst (vs++[v]))) σ (Γ.set i (some ⟨.lst s,.list (ds++[p.d])⟩)):=by
 obtain ⟨hv,u,F,h1,E1,o1,sub⟩:=E.move h;have hi:i<Γ.length:=(List.getElem?_eq_some_iff.mp h).1
 cases o1 with
 | @lst _ l vs _ Fs0 hsv hp hl hf nd q=>
  refine ⟨l,vs,h1,hp,hl,Fs.set i (l::(Fs0++[aP s G]).flatten),?_⟩
  have hlF:l∈Fs.flatten:=sub l (mem_append_left _ mem_cons_self)
  have hHe:He l=none:=E.fresh l hlF
  have hG':∀a∈aP s G,a∈G:=fun a ha=>HR ha
  obtain ⟨k1,k2,k3⟩:=List.nodup_append.mp E1.ndO;obtain ⟨g1,g2,g3⟩:=List.nodup_append.mp k2;have ndk:(aP s G).Nodup:=by
   cases s<;>first | exact nodup_nil | exact g1
  have pmO:((l::(Fs0++[aP s G]).flatten)++O).Perm ((l::Fs0.flatten)++(aP s G++O)):=by
   rw [wY];show (l::((Fs0.flatten++aP s G)++O)).Perm (l::(Fs0.flatten++(aP s G++O)))
   rw [append_assoc]
  have E2:EnvOk K He ((l::Fs0.flatten)++(aP s G++O)) (Fs.set i []) H σ (Γ.set i none):=E1.drop (fun a ha=>by
   rcases List.mem_append.mp ha with z | z
   ·exact mem_append_left _ z
   ·refine mem_append_right _ ?_
    rcases List.mem_append.mp z with z | z
    ·exact mem_append_left _ (hG' a z)
    ·exact mem_append_right _ z) (List.nodup_append.mpr ⟨k1,List.nodup_append.mpr ⟨ndk,g2,fun a ha b hb=>g3 a (hG' a ha) b hb⟩,fun a ha b hb=>k3 a ha b (by
     rcases List.mem_append.mp hb with z | z
     ·exact mem_append_left _ (hG' b z)
     ·exact mem_append_right _ z)⟩)
  have E3:=E2.perm pmO
  have hlin:l∈(l::(Fs0++[aP s G]).flatten)++O:=mem_cons_self
  have E4:=E3.mutO (o:=.lst (vs++[v])) hlin hp hHe
  have lnG:l∉G:=fun z=>k3 l mem_cons_self l (mem_append_left _ z) rfl
  have subH:∀a∈(l::(Fs0++[aP s G]).flatten)++O++(Fs.set i []).flatten,a∈(l::Fs0.flatten)++(G++O)++(Fs.set i []).flatten:=fun a ha=>by
   rcases List.mem_append.mp ha with z | z
   ·refine mem_append_left _ ?_
    rcases List.mem_append.mp (pmO.mem_iff.mp z) with y | y
    ·exact mem_append_left _ y
    ·refine mem_append_right _ ?_
     rcases List.mem_append.mp y with y | y
     ·exact mem_append_left _ (hG' a y)
     ·exact mem_append_right _ y
   ·exact mem_append_right _ z
  have ownL:Own K ((l::(Fs0++[aP s G]).flatten)++O++(Fs.set i []).flatten) (bx H l (.lst (vs++[v]))) (.lst s) (l::(Fs0++[aP s G]).flatten) (.ref l) (.list (ds++[p.d])):=by
   refine .lst hsv dQ (by simp [hl]) (by simp [hf]) ?_ fun j w d' G' e1 e2 e3=>?_
   ·have nd2:=E3.ndO
    exact (List.nodup_append.mp nd2).1
   ·by_cases hj:j<vs.length
    ·rw [getElem?_append_left hj] at e1
     rw [getElem?_append_left (by omega)] at e2
     rw [getElem?_append_left (by omega)] at e3
     exact ((q j w d' G' e1 e2 e3).perm subH).mut hsv (mem_append_left _ hlin) (fun z=>(List.nodup_cons.mp nd).1 (nI e3 z)) hp
    ·have hj':j=vs.length:=by
      have:=(List.getElem?_eq_some_iff.mp e1).1
      rw [length_append,length_singleton] at this;omega
     subst hj'
     rw [getElem?_append_right (Nat.le_refl _),Nat.sub_self] at e1;rw [getElem?_append_right (by omega),show vs.length-ds.length=0 by omega] at e2
     rw [getElem?_append_right (by omega),show vs.length-Fs0.length=0 by omega] at e3
     cases e1
     cases e2
     cases e3;have osub:∀a∈(l::(Fs0++[aP s G]).flatten)++O++(Fs.set i []).flatten,a∈G++O++Fs.flatten:=fun a ha=>by
      rcases List.mem_append.mp (subH a ha) with z | z
      ·rcases List.mem_append.mp z with z | z
       ·exact mem_append_right _ (sub a (mem_append_left _ z))
       ·exact mem_append_left _ z
      ·exact mem_append_right _ (sub a (mem_append_right _ z))
     have o3:=o.coer (s:=s) hc osub fun a ha hO=>by
      cases s with
      | leaf=>
       exfalso
       rw [wY] at hO;have hO':a∈(l::Fs0.flatten)++O++(Fs.set i []).flatten:=by simpa [aP] using hO
       have ndE:=E.nd
       rw [append_assoc] at ndE;have dis:=(List.nodup_append.mp ndE).2.2
       rcases List.mem_append.mp hO' with z | z
       ·rcases List.mem_append.mp z with z | z
        ·exact dis a ha a (mem_append_right _ (sub a (mem_append_left _ z))) rfl
        ·exact dis a ha a (mem_append_left _ z) rfl
       ·exact dis a ha a (mem_append_right _ (sub a (mem_append_right _ z))) rfl
      | view=>cases hsv
      | lst s=>exact ha
      | tup ss=>exact ha
     exact o3.mut hsv (mem_append_left _ hlin) (fun z=>lnG (hG' l z)) hp
  have fin:=EnvOk.put (i:=i) (p:=⟨.lst s,.list (ds++[p.d])⟩) (v:=.ref l) E4 ownL rfl (fun a ha=>?_) (by rw [length_set];exact hi)
  ·rw [set_set,set_set,zj h1] at fin
   exact fin
  ·rcases List.mem_cons.mp ha with z | z
   ·rw [z];exact hHe
   ·rw [wY] at z
    rcases List.mem_append.mp z with z | z
    ·exact E.fresh a (sub a (mem_append_left _ (mem_cons_of_mem _ z)))
    ·exact fr a (hG' a z)
theorem Fi {QL:List V->Hp->Prop} (h1:tE K W fa σ H fun v H'=>QL [v] H'):tA K W (ab fa af) σ H QL:=by
 obtain ⟨He,O,Fs,Γ,E,h1⟩:=h1;refine ⟨He,O,Fs,Γ,E,?_⟩
 unfold ab af
 cases e:fa Γ with
 | ok p Γ'=>
  rw [e] at h1;intro vs H' Gs Fs' A
  match vs,Gs,A.len1,A.len2 with
  | [v],[G],_,_=>exact h1 v H' G Fs' ⟨A.same,by simpa using A.env,by simpa using A.new,by simpa using A.own 0 v p G rfl rfl rfl⟩
 | er c Γ'=>rw [e] at h1;exact h1
 | no=>rw [e] at h1;exact h1
theorem rP {o:Option (Option PV)} (h:C2 o=true):∃s ds,o=some (some ⟨.lst s,.list ds⟩):=by
 unfold C2 at h;split at h
 ·exact ⟨_,_,rfl⟩
 ·cases h
theorem EnvOk.ownL {He H:Hp} {O:List Addr} {Fs:List (List Addr)} {Γ:Ev} {i:Nat} {s:Sh} {ds:List PySem.PyData} (E:EnvOk K He O Fs H σ Γ) (h:Γ[i]?=some (some ⟨.lst s,.list ds⟩)):∃l vs,σ[i]?=some (some (.ref l))/\H l=some (.lst vs)/\vs.length=ds.length:=by
 obtain ⟨hv,v,F,h1,h2,h3⟩:=E.slot i _ h
 cases h3 with
 | @lst _ l vs _ Fs0 hsv hp hl hf nd q=>exact ⟨l,vs,h1,hp,hl⟩
theorem qS {i:Nat} (h:tS K W (eE i fa) D σ H):jM (Aw K "list" Fp (bh i) (tA K W (ab fa af))) D σ H:=by
 obtain ⟨He,O,Fs,Γ,E,h⟩:=h;unfold eE at h
 cases ho:C2 Γ[i]? with
 | false=>rw [ho] at h;exact h.elim
 | true=>
  rw [ho] at h;obtain ⟨s,ds,e0⟩:=rP ho;obtain ⟨l,vs,h1,h2,h3⟩:=E.ownL e0;refine ⟨.ref l,h1,.inl ⟨rfl,vs,.of h2⟩,Fi (iA (D:=D) ⟨He,O,Fs,Γ,E,h⟩ fun He O Fs Γ1 p v H1 G Fs1 _ fr A w=>?_)⟩
  unfold yZ at w;split at w
  ·rename_i s1 ds1 e1
   cases hc:(T.coer s1 p&&decide (ds1.length<sizeLine)) with
   | false=>rw [hc] at w;exact w.elim
   | true=>
    rw [hc] at w;simp only [Bool.and_eq_true,decide_eq_true_eq] at hc
    obtain ⟨l1,vs1,q1,q2,q3,Fs',E'⟩:=yY A.env A.own fr e1 hc.1;rw [h1] at q1
    cases q1;exact ⟨l,vs1,v,rfl,rfl,q2,by rw [q3];exact hc.2,w σ _ Fs' E'⟩
  ·exact w.elim
def bF (i:Nat) (body:FS):List PySem.PyData->Ev->fO
 | [],Γ=>.nx Γ
 | d::r,Γ=>if i<Γ.length then (match body (Γ.set i (some ⟨.leaf,d⟩)) with
  | .nx Γ'=>bF i body r Γ'
  | .ct Γ'=>bF i body r Γ'
  | .bk Γ'=>.nx Γ'
  | .rt p=>.rt p
  | .er c Γ'=>.er c Γ'
  | .no=>.no) else .no
def dA (i:Nat) (fi:FI) (body:FS):FS:=fun Γ=>match fi Γ with
 | .ok t Γ1=>if t.st then bF i body t.ds Γ1 else .no
 | .er c Γ1=>.er c Γ1
 | .no=>.no
theorem EnvOk.rebase {He H:Hp} {O:List Addr} {Fs:List (List Addr)} {Γ:Ev} (E:EnvOk K He O Fs H σ Γ):EnvOk K (bX H Fs.flatten) O Fs H σ Γ/\Same He (bX H Fs.flatten):=
 ⟨⟨E.len1,E.len2,hid_le,E.nd,E.inH,fun a ha=>by unfold bX;rw [if_pos ha],E.slot⟩,fun b o e=>wm (E.same b o e) fun z=>by have:=E.fresh b z;rw [e] at this;cases this⟩
theorem EnvOk.unbase {He He' H:Hp} {O:List Addr} {Fs:List (List Addr)} {Γ:Ev} (E:EnvOk K He' O Fs H σ Γ) (s:Same He He'):EnvOk K He O Fs H σ Γ:=
 ⟨E.len1,E.len2,s.trans E.same,E.nd,E.inH,fun a ha=>s.free (E.fresh a ha),E.slot⟩
theorem RetOk.unbase {He He' H:Hp} {O G:List Addr} {p:PV} {v:V} (r:RetOk K He' O p v H G) (s:Same He He'):RetOk K He O p v H G:=
 ⟨s.trans r.same,fun a ha=>s.free (r.fresh a ha),r.inH,r.nd,r.own,r.nv⟩
theorem A6 {i:Nat} {fi:FI} {body:FS} (h:tS K W (dA i fi body) D σ H):w6 (tI K W fi) (bR i) (tS K W body) D σ H:=by
 obtain ⟨He,O,Fs,Γ,E,h⟩:=h;refine ⟨He,O,Fs,Γ,E,?_⟩
 unfold dA at h
 cases e:fi Γ with
 | er c Γ1=>rw [e] at h;exact fun H' Fs' s E'=>h σ H' Fs' E'
 | no=>rw [e] at h;exact h
 | ok t Γ1=>
  rw [e] at h;intro J H1 Fs1 vs P s1 E1 n1 it hP hP1 hst hr;have h:o7 K W He O D (if t.st then bF i body t.ds Γ1 else .no):=h
  cases ht:t.st with
  | false=>rw [ht] at h;exact h.elim
  | true=>
   rw [ht] at h;have h:o7 K W He O D (bF i body t.ds Γ1):=h
   obtain ⟨E1',sHe⟩:=E1.rebase;have hlen:vs.length=t.ds.length:=hr.1
   refine ⟨fun k m σ' H'=>m=vs.length-k/\k<=vs.length/\∃Γk Fk,EnvOk K (bX H1 Fs1.flatten) O Fk H' σ' Γk/\o7 K W He O D (bF i body (t.ds.drop k) Γk),⟨vs.length,by simp,Nat.zero_le _,Γ1,Fs1,E1',by simpa using h⟩,?_⟩
   rintro k m σ' H' ⟨rfl,hk,Γk,Fk,Ek,hw⟩
   have hPk:P H':=hst ht H' Ek.same
   by_cases hlt:k<vs.length
   case neg=>
    left
    have hke:k=vs.length:=by omega
    have:t.ds.drop k=[]:=drop_eq_nil_of_le (by omega)
    rw [this] at hw;exact ⟨by rw [hke];exact it.stop H' hPk,hw σ' H' Fk (Ek.unbase sHe)⟩
   case pos=>
    right
    have hv:vs[k]?=some vs[k]:=getElem?_eq_getElem hlt
    have hkd:k<t.ds.length:=by omega
    have hd:t.ds[k]?=some t.ds[k]:=getElem?_eq_getElem hkd
    have hdr:t.ds.drop k=t.ds[k]::t.ds.drop (k+1):=drop_eq_getElem_cons hkd
    rw [hdr] at hw;generalize hdk:t.ds[k]=d at hd hw
    generalize hvk:vs[k]=v at hv
    obtain ⟨hgo,hyld⟩:=it.go k H' v hPk hv
    simp only [bF] at hw
    by_cases hi:i<Γk.length
    case neg=>rw [if_neg hi] at hw;exact hw.elim
    rw [if_pos hi] at hw;have rep:Rep K (bX H' (O++Fk.flatten)) v d:=by
     refine (hr.2 k v d hv hd).mono fun b o hb=>?_
     have hb1:bX H1 Fs1.flatten b=some o:=sub_hid b o hb
     have hbO:b∉O:=fun z=>by
      unfold bX at hb;rw [if_pos (mem_append_left _ z)] at hb
      cases hb
     have hbF:b∉Fk.flatten:=fun z=>by
      have:=Ek.fresh b z
      rw [hb1] at this
      cases this
     exact wm (Ek.same b o hb1) fun z=>(List.mem_append.mp z).elim hbO hbF
    have Ep:EnvOk K (bX H1 Fs1.flatten) O (Fk.set i []) H' (σ'.set i (some v)) (Γk.set i (some ⟨.leaf,d⟩)):=
     EnvOk.put (G:=[]) (p:=⟨.leaf,d⟩) (v:=v) Ek (.leaf rep) rfl (fun a ha=>by simp at ha) hi
    refine ⟨hgo,fun σ2 H2=>∃Γk Fk,EnvOk K (bX H1 Fs1.flatten) O Fk H2 σ2 Γk/\o7 K W He O D (bF i body (t.ds.drop (k+1)) Γk),fun σ2 H2 q=>⟨vs.length-(k+1),by omega,rfl,hlt,q⟩,fun x Hx hx=>?_⟩
    obtain ⟨rfl,rfl⟩:=hyld x Hx hx;show tS K W body _ (σ'.set i (some x)) Hx
    refine ⟨bX H1 Fs1.flatten,O,_,_,Ep,?_⟩
    cases eb:body (Γk.set i (some ⟨.leaf,d⟩)) with
    | nx Γ'=>rw [eb] at hw;exact fun σ2 H2 F2 E2=>⟨Γ',F2,E2,hw⟩
    | ct Γ'=>rw [eb] at hw;exact fun σ2 H2 F2 E2=>⟨Γ',F2,E2,hw⟩
    | bk Γ'=>rw [eb] at hw;exact fun σ2 H2 F2 E2=>hw σ2 H2 F2 (E2.unbase sHe)
    | rt p=>rw [eb] at hw;exact fun u H2 G r=>hw u H2 G (r.unbase sHe)
    | er c Γ'=>rw [eb] at hw;exact fun σ2 H2 F2 E2=>hw σ2 H2 F2 (E2.unbase sHe)
    | no=>rw [eb] at hw;exact hw
end
inductive Res where
 | ok (p:PV) | er (c:Str) | no
def qI (K:Fg) (n:Nat) (den:List PySem.PyData->Res):Sp:=fun vs H Q _=>vs.length=n/\∃O ds,O.Nodup/\(∀a∈O,H a≠none)/\Reps K (bX H O) vs ds/\match den ds with
 | .ok p=>∀v H' G,RetOk K H O p v H' G->Q v H'
 | .er _=>False
 | .no=>False
def aH (n:Nat) (ds:List PySem.PyData):Ev:=ds.map (fun d=>some ⟨.leaf,d⟩)++List.replicate (n-ds.length) none
def aC (n:Nat) (g:FS) (ds:List PySem.PyData):Res:=match g (aH n ds) with
 | .nx _=>.ok ⟨.leaf,.none⟩
 | .rt p=>.ok p
 | .er c _=>.er c
 | _=>.no
section
variable {P:Program} {w:World} {K:Fg} {mg:Str->Option Value} {base:Heap}
theorem jY {N:List Str} {H:Hp} {O:List Addr} {vs:List V} {ds:List PySem.PyData} (hn:vs.length<=N.length) (nd:O.Nodup) (inH:∀a∈O,H a≠none) (rs:Reps K (bX H O) vs ds) :
  EnvOk K H O (List.replicate N.length []) H (L2.start N vs) (aH N.length ds):=by
 have fl:(List.replicate N.length ([]:List Addr)).flatten=[]:=by simp
 have hl:=rs.1
 refine ⟨by simp [L2.start,aH,hl],by simp [aH];omega,Same.refl _,by rw [fl];simpa using nd,by rw [fl];simpa using inH,fun a ha=>by rw [fl] at ha;simp at ha,fun i p hp=>?_⟩
 unfold aH at hp;by_cases hi:i<ds.length
 ·rw [getElem?_append_left (by simpa using hi),getElem?_map,getElem?_eq_getElem hi] at hp
  cases hp;refine ⟨rfl,vs[i]'(by omega),[],?_,?_,?_⟩
  ·unfold L2.start
   rw [getElem?_append_left (by simp;omega),getElem?_map,getElem?_eq_getElem (by omega)]
   rfl
  ·rw [getElem?_replicate,if_pos (by omega)]
  ·refine .leaf ?_
   rw [fl,append_nil];exact rs.2 i _ _ (getElem?_eq_getElem _) (getElem?_eq_getElem hi)
 ·rw [getElem?_append_right (by simpa using hi),getElem?_replicate] at hp
  split at hp<;>cases hp
theorem Cy {x qual:Str} {st:Stmt} {f:Addr} {fd:FuncData} {N ps:List Str} {k:Nat} {g:FS} (F:Fun K x qual st f fd) (S:cy N ps (fH st))
  (hb:∀(cdv:Value) (A:Around) (outer:List Env) (s:Shared) (H:Hp) (E:XK),Room k (A.deeper (envOfC qual (fH st) s.heap.objs.size f cdv)) ->
   PSs (nj kX P w K mg base N qual (fH st) f cdv A outer s H E).nox (nK st) (tS K W0 g)):eD P w K mg base kX (k+1) f fd ps (qI K ps.length (aC N.length g)):=by
 have hpl:ps.length<=N.length:=by have:=congrArg List.length S.pre;rw [length_take] at this;omega
 refine F.ok S (fun vs H Q E h=>h.1) (fun cdv A outer s H vs Q E hr h=>⟨_,hb cdv A outer s H E hr,?_⟩)
 obtain ⟨hl,O,ds,nd,inH,rs,w⟩:=h;refine ⟨H,O,List.replicate N.length [],aH N.length ds,jY (by omega) nd inH rs,?_⟩
 unfold aC at w
 cases e:g (aH N.length ds) with
 | nx Γ'=>
  rw [e] at w;exact fun σ' H' Fs' E'=>w .non H' [] ⟨E'.same,(fun _ z=>nomatch z),(fun _ z=>nomatch z),nodup_nil,.leaf .non,rfl⟩
 | rt p=>rw [e] at w;exact w
 | bk Γ'=>rw [e] at w;exact w.elim
 | ct Γ'=>rw [e] at w;exact w.elim
 | er c Γ'=>rw [e] at w;exact w.elim
 | no=>rw [e] at w;exact w.elim
end
def ag (n:Nat) (den:List PySem.PyData->Res) (fl:FL):F1:=fun Γ=>(fl Γ).bind fun ps Γ'=>if ps.length=n then (match den (ps.map (·.d)) with
 | .ok p=>if ps.all (T.coer .leaf) then .ok p Γ' else if bD p.d then .ok ⟨.leaf,p.d⟩ Γ' else .ok ⟨.view,p.d⟩ Γ'
 | _=>.no) else .no
section
variable {K:Fg} {W:XW} {σ:St} {H:Hp} {Q:VK} {fl:FL}
theorem xF {n:Nat} {den:List PySem.PyData->Res} {E:XK} (h:tE K W (ag n den fl) σ H Q):lA (qI K n den) [] E (tA K W fl) σ H Q:=by
 obtain ⟨He,O,Fs,Γ,E0,h⟩:=h;refine ⟨He,O,Fs,Γ,E0,?_⟩
 unfold ag at h
 cases e:fl Γ with
 | er c Γ'=>rw [e] at h;exact h
 | no=>rw [e] at h;exact h
 | ok ps Γ1=>
  rw [e] at h;intro vs H1 Gs Fs1 A;have h:Wants K W He O Fs H σ Q (if ps.length=n then (match den (ps.map (·.d)) with | .ok p=>if ps.all (T.coer .leaf) then .ok p Γ1 else if bD p.d then .ok ⟨.leaf,p.d⟩ Γ1 else .ok ⟨.view,p.d⟩ Γ1 | _=>.no) else .no):=h
  by_cases hn:ps.length=n
  case neg=>rw [if_neg hn] at h;exact h.elim
  rw [if_pos hn] at h;have hl:(vs++[]).length=n:=by rw [append_nil,A.len1];exact hn
  cases ed:den (ps.map (·.d)) with
  | er c=>rw [ed] at h;exact h.elim
  | no=>rw [ed] at h;exact h.elim
  | ok p=>
   rw [ed] at h;have h:Wants K W He O Fs H σ Q (if ps.all (T.coer .leaf) then .ok p Γ1 else if bD p.d then .ok ⟨.leaf,p.d⟩ Γ1 else .ok ⟨.view,p.d⟩ Γ1):=h
   obtain ⟨n1,n2,n3⟩:=List.nodup_append.mp A.env.nd;obtain ⟨m1,m2,m3⟩:=List.nodup_append.mp n1;have newF:∀a∈Fs1.flatten,a∈Fs.flatten\/H a=none:=fun a ha=>A.new a (mem_append_right _ ha)
   cases hc:ps.all (T.coer .leaf) with
   | true=>
    rw [hc] at h;have h:Wants K W He O Fs H σ Q (.ok p Γ1):=h
    refine ⟨hl,O++Fs1.flatten,ps.map (·.d),A.env.dropL.nd,A.env.dropL.inH,?_,?_⟩
    ·rw [append_nil]
     refine ⟨A.reps.1,fun i v d h1 h2=>?_⟩
     rw [getElem?_map] at h2
     cases e2:ps[i]? with
     | none=>rw [e2] at h2;cases h2
     | some q=>
      rw [e2] at h2
      cases h2;have hi:=(List.getElem?_eq_some_iff.mp e2).1
      have e3:Gs[i]?=some (Gs[i]'(by rw [A.len2];exact hi)):=getElem?_eq_getElem _
      have o:=A.own i v q _ h1 e2 e3
      have o2:=o.coer (s:=.leaf) (O':=O++Fs1.flatten) (List.all_eq_true.mp hc q (mem_of_getElem? e2)) kh fun a ha z=>by
       exfalso
       have hG:=nI e3 ha
       rcases List.mem_append.mp z with y | y
       ·exact m3 a hG a y rfl
       ·exact n3 a (mem_append_left _ hG) a y rfl
      cases o2 with
      | leaf r=>exact r
    ·rw [ed]
     intro v H2 G r;refine h v H2 G Fs1 ⟨A.same.trans r.same,A.env.dropL.hide r.same r.nd r.fresh r.inH,fun a ha=>?_,by rw [append_assoc];exact r.own⟩
     rcases List.mem_append.mp ha with z | z
     ·exact .inr (A.same.free (r.fresh a z))
     ·exact newF a z
   | false=>
    rw [hc] at h;have h:Wants K W He O Fs H σ Q (if bD p.d then .ok ⟨.leaf,p.d⟩ Γ1 else .ok ⟨.view,p.d⟩ Γ1):=h
    refine ⟨hl,[],ps.map (·.d),nodup_nil,(fun _ z=>nomatch z),by rw [append_nil,GU];exact A.reps,?_⟩
    rw [ed];intro v H2 G r
    cases hs:bD p.d with
    | true=>
     rw [hs] at h;exact Wants.scal h (r.own.rep.sc hs) (A.same.trans r.same) (A.env.dropL.grow r.same) (fun a ha=>ha) E0.ndO newF
    | false=>
     rw [hs] at h;have h:Wants K W He O Fs H σ Q (.ok ⟨.view,p.d⟩ Γ1):=h
     exact h v H2 [] Fs1 ⟨A.same.trans r.same,by simpa using A.env.dropL.grow r.same,by simpa using newF,.view r.own.rep⟩
end
theorem zT:bootBuiltins "len"=some (.builtin "len"):=by decide +kernel
theorem ET:bootBuiltins "all"=some (.builtin "all"):=by decide +kernel
theorem ER:bootBuiltins "any"=some (.builtin "any"):=by decide +kernel
theorem EN:bootBuiltins "min"=some (.builtin "min"):=by decide +kernel
theorem ny:bootBuiltins "sorted"=some (.builtin "sorted"):=by decide +kernel
theorem kR:bootBuiltins "isinstance"=some (.builtin "isinstance"):=by decide +kernel
theorem EO:bootBuiltins "int"=some (.type "int"):=by decide +kernel
theorem vU:bootBuiltins "list"=some (.type "list"):=by decide +kernel
theorem yX:bootBuiltins "tuple"=some (.type "tuple"):=by decide +kernel
theorem EM:bootBuiltins "str"=some (.type "str"):=by decide +kernel
section
variable {X:Cx} {W:XW} {a b c e:Expr} {es:List Expr} {pos:Pos} {fa fb fc:F1} {fl:FL} {ga gb:FB} {g1 g2:FS}
theorem CI {op:CmpOp} {r:R2} {g:PySem.PyData->PySem.PyData->Option PySem.PyData} (ho:OpR X (compareOp op) r) (hg:GOp X.K r g) (ha:PE X a (tE X.K W fa)) (hb:PE X b (tE X.K W fb)) (hm:behindInMarks op b=false:=by with_unfolding_all rfl) :
  PE X (.Compare a [op] [b] pos) (tE X.K W (aA g fa fb)):=aY (xU ho ha hb hm) fun _ _ _=>gL hg
theorem CC {op:CmpOp} {r:R2} {g:PySem.PyData->PySem.PyData->Option PySem.PyData} (ho:OpR X (compareOp op) r) (hg:GOp X.K r g) (ha:PE X a (tE X.K W fa)) (hb:PE X b (tE X.K W fb)) (hm:behindInMarks op b=false:=by with_unfolding_all rfl) :
  PT X (.Compare a [op] [b] pos) (tT X.K W (aM ao (aA g fa fb))):=qq (xK ho ha hb hm) fun σ H QB=>pJ fun Q=>gL hg
theorem vP {op op':CmpOp} {r r':R2} {g g':PySem.PyData->PySem.PyData->Option PySem.PyData} (ho:OpR X (compareOp op) r) (hg:GOp X.K r g) (ho':OpR X (compareOp op') r') (hg':GOp X.K r' g') (ha:PE X a (tE X.K W fa)) (hb:PE X b (tE X.K W fb)) (hc:PE X c (tE X.K W fc))
  (hm:lastMarks [op,op'] [b,c]=false:=by with_unfolding_all rfl):PE X (.Compare a [op,op'] [b,c] pos) (tE X.K W (sV g g' fa fb fc)):=aY (uW ho ho' ha hb hc hm) fun _ _ _=>lO hg hg'
theorem vG {op op':CmpOp} {r r':R2} {g g':PySem.PyData->PySem.PyData->Option PySem.PyData} (ho:OpR X (compareOp op) r) (hg:GOp X.K r g) (ho':OpR X (compareOp op') r') (hg':GOp X.K r' g') (ha:PE X a (tE X.K W fa)) (hb:PE X b (tE X.K W fb)) (hc:PE X c (tE X.K W fc))
  (hm:lastMarks [op,op'] [b,c]=false:=by with_unfolding_all rfl):PT X (.Compare a [op,op'] [b,c] pos) (tT X.K W (aM ao (sV g g' fa fb fc))):=qq (uH ho ho' ha hb hc hm) fun σ H QB=>pJ fun Q=>lO hg hg'
theorem da_nil:PA X [] (tA X.K W af):=zV wx fun _ _ _=>AS
theorem da_cons (ha:PE X e (tE X.K W fa)) (hr:PA X es (tA X.K W fl)) (hs:starEach (e::es) X.env=(false,eval e X.env)::starEach es X.env:=by rfl):PA X (e::es) (tA X.K W (ab fa fl)):=zV (o8 ha hr hs) fun _ _ _=>xE
theorem vQ {x:Str} {id:String} {r:List V->Hp->VK->Prop} {g:List PySem.PyData->Option PySem.PyData} {p:Pos} (hc:CallR X (.builtin id) r) (hg:GCall X.K r g) (hv:bootBuiltins x=some (.builtin id)) (hm:X.mg x=none) (ha:PA X (e::es) (tA X.K W fl)) (hG:Gl X x:=by rfl)
  (hn:x ≠ "__name__":=by decide) (hdb:(x==("__debug__":Str))=false:=by decide) (he:starEach (e::es) X.env=(false,eval e X.env)::starEach es X.env:=by rfl) (hpl:(backTo pos (starEach es X.env)).any (·.1)=false:=by rfl) :
  PE X (.Call (.Name x p) (e::es) [] pos) (tE X.K W (bI g fl)):=aY (FK hc hG hm hv ha hn hdb he hpl) fun _ _ _=>uu hg
theorem EG {x:Str} {id:String} {r:List V->Hp->VK->Prop} {g:List PySem.PyData->Option PySem.PyData} {p:Pos} (hc:CallR X (.type id) r) (hg:GCall X.K r g) (hv:bootBuiltins x=some (.type id)) (hm:X.mg x=none) (ha:PA X (e::es) (tA X.K W fl)) (hG:Gl X x:=by rfl)
  (hn:x ≠ "__name__":=by decide) (hdb:(x==("__debug__":Str))=false:=by decide) (he:starEach (e::es) X.env=(false,eval e X.env)::starEach es X.env:=by rfl) (hpl:(backTo pos (starEach es X.env)).any (·.1)=false:=by rfl) :
  PE X (.Call (.Name x p) (e::es) [] pos) (tE X.K W (bI g fl)):=aY (jQ hc hG hm hv ha hn hdb he hpl) fun _ _ _=>uu hg
theorem sg {p:Pos} (hm:X.mg "list"=none) (ha:PE X e (tE X.K W fa)) (hG:Gl X "list":=by rfl) (hs:starEach [e] X.env=[(false,eval e X.env)]:=by rfl) :
  PE X (.Call (.Name "list" p) [e] [] pos) (tE X.K W (zf fa)):=aY (jQ kP hG hm vU (da_cons ha da_nil hs) (by decide) (by decide) hs rfl) fun _ _ _=>qR
theorem yN {f:Addr} {fd:FuncData} {ps:List Str} {k n:Nat} {den:List PySem.PyData->Res} {x:Str} {p:Pos} (F:eD X.prog X.w X.K X.mg X.base kX k f fd ps (qI X.K n den)) (hr:Room k X.A) (hm:X.mg x=some (.ref f)) (hk:PySem.W.keepIn X.K (.ref f)=true)
  (hb:Binds X.K fd ps []) (ha:PA X (e::es) (tA X.K W fl)) (hg:Gl X x:=by rfl) (hdb:(x==("__debug__":Str))=false:=by decide) (he:starEach (e::es) X.env=(false,eval e X.env)::starEach es X.env:=by rfl)
  (hpl:(backTo pos (starEach es X.env)).any (·.1)=false:=by rfl):PE X (.Call (.Name x p) (e::es) [] pos) (tE X.K W (ag n den fl)):=aY (GZ F hr hg hm hk hb .nil uY ha hdb he hpl) fun _ _ _=>xF
theorem EF {tg:Expr} {p:Pos} (hm:X.mg "range"=none) (ha:PA X [a] (tA X.K W fl)) (hg:Gl X "range":=by rfl) (hs:starEach [a] X.env=[(false,eval a X.env)]:=by rfl):PI X tg (.Call (.Name "range" p) [a] [] pos) (tI X.K W (gQ fl)):=nC (rf hg hm ha hs) fun _ _ _=>A5
theorem ED {tg:Expr} {p:Pos} (hm:X.mg "range"=none) (ha:PA X [a,b] (tA X.K W fl)) (hg:Gl X "range":=by rfl) (hs:starEach [a,b] X.env=[(false,eval a X.env),(false,eval b X.env)]:=by rfl) (hs2:starEach [b] X.env=[(false,eval b X.env)]:=by rfl) :
  PI X tg (.Call (.Name "range" p) [a,b] [] pos) (tI X.K W (yr fl)):=nC (rd hg hm ha hs hs2) fun _ _ _=>AZ
def aI:FB:=fun Γ=>.ok true Γ
theorem yM {scope:Scope} {x:Str} {px:Pos} {iter elt:Expr} {ifs:List Expr} {fi:FI} {fe:F1} {fc:FB} (s:Sh) (i:Nat) (S:dG X.N [i] X.env.scope scope) (hN:X.N.Nodup) (hi':PI X (.Name x px) iter (tI X.K W fi))
  (hc:∀cells C s₀ H₀ ex,PF (blk X scope cells C s₀ H₀ ex) ifs (tT X.K W0 fc)) (he:∀cells C s₀ H₀ ex,PE (blk X scope cells C s₀ H₀ ex) elt (tE X.K W0 fe))
  (hcalm:X.calm=true:=by rfl) (hx:X.N[i]?=some x:=by rfl) (hl:∀cells C s₀ H₀ ex,Loc (blk X scope cells C s₀ H₀ ex).env.scope x:=by first | exact fun _ _ _ _ _=>Or.inl rfl | exact fun _ _ _ _ _=>Or.inr rfl)
  (hf:∀cells C s₀ H₀ ex,(blk X scope cells C s₀ H₀ ex).fn x=true\/(blk X scope cells C s₀ H₀ ex).env.scope.names.lookup x=some .local:=by first | exact fun _ _ _ _ _=>Or.inr rfl | exact fun _ _ _ _ _=>Or.inl rfl)
  (hs:∀x,foldedSetIterable iter X.env x=pure x:=by intro _;rfl):PE X (.ListComp elt [⟨.Name x px,iter,ifs,0⟩] scope pos) (tE X.K W (aw s i fi fc fe)):=
 aY (G0 S hcalm hi' (fun cells C s₀ H₀ ex=>sY (X:=blk X scope cells C s₀ H₀ ex) (i:=i) hN hx (hl cells C s₀ H₀ ex) (hf cells C s₀ H₀ ex)) hc he hs) fun _ _ _=>G6
theorem CD (own:Bool) (i:Nat) {x:Str} {pos':Pos} (hN:X.N.Nodup) (ha:PE X a (tE X.K W fa)) (hi:X.N[i]?=some x:=by rfl) (hx:Loc X.env.scope x:=by first | exact Or.inl rfl | exact Or.inr rfl) (hs:swapsWith a (some (.Name x pos')) pos.line X.env=pure false:=by rfl)
  (hf:X.fn x=true\/X.env.scope.names.lookup x=some .local:=by first | exact .inl rfl | exact .inr rfl):PS X (.Assign [.Name x pos'] a pos) (tS X.K W (aB own i fa)):=eo (Di hN hi hx ha hs hf) fun _ _ _=>uk
theorem oK (own:Bool) (j:Nat) {scope:Scope} {x y:Str} {px pos' spos:Pos} {iter elt:Expr} {ifs:List Expr} {fi:FI} {fe:F1} {fc:FB} (s:Sh) (i:Nat) (S:dG X.N [i] X.env.scope scope) (hN:X.N.Nodup) (hi':PI X (.Name x px) iter (tI X.K W fi))
  (hc:∀cells C s₀ H₀ ex,PF (blk X scope cells C s₀ H₀ ex) ifs (tT X.K W0 fc)) (he:∀cells C s₀ H₀ ex,PE (blk X scope cells C s₀ H₀ ex) elt (tE X.K W0 fe))
  (hsw:swapsWith (.ListComp elt [⟨.Name x px,iter,ifs,0⟩] scope pos) (some (.Name y pos')) spos.line X.env=pure true:=by rfl)
  (hy:X.N[j]?=some y:=by rfl) (hly:X.env.scope.names.lookup y=some .local:=by rfl)
  (hcalm:X.calm=true:=by rfl) (hx:X.N[i]?=some x:=by rfl) (hl:∀cells C s₀ H₀ ex,Loc (blk X scope cells C s₀ H₀ ex).env.scope x:=by first | exact fun _ _ _ _ _=>Or.inl rfl | exact fun _ _ _ _ _=>Or.inr rfl)
  (hf:∀cells C s₀ H₀ ex,(blk X scope cells C s₀ H₀ ex).fn x=true\/(blk X scope cells C s₀ H₀ ex).env.scope.names.lookup x=some .local:=by first | exact fun _ _ _ _ _=>Or.inr rfl | exact fun _ _ _ _ _=>Or.inl rfl)
  (hs:∀x,foldedSetIterable iter X.env x=pure x:=by intro _;rfl):PS X (.Assign [.Name y pos'] (.ListComp elt [⟨.Name x px,iter,ifs,0⟩] scope pos) spos) (tS X.K W (aB own j (aw s i fi fc fe))):=
 eo (Ii hN hy hly S hcalm hi' (fun cells C s₀ H₀ ex=>sY (X:=blk X scope cells C s₀ H₀ ex) (i:=i) hN hx (hl cells C s₀ H₀ ex) (hf cells C s₀ H₀ ex)) hc he hsw hs) fun D σ H h=>by
  have h2:gZ (tE X.K W (aw s i fi fc fe)) (bR j) D σ H:=uk h
  exact G6 h2
theorem rV (i:Nat) {x:Str} {p apos cpos:Pos} (ha:PE X a (tE X.K W fa)) (hN:X.N[i]?=some x:=by rfl) (hv:CO X.env.scope x:=by first | exact Or.inl rfl | exact Or.inr (Or.inl rfl) | exact Or.inr (Or.inr rfl)) (hd:(x==("__debug__":Str))=false:=by decide)
  (hcd:(x==("__classdict__":Str))=false:=by decide) (hs:starEach [a] X.env=[(false,eval a X.env)]:=by rfl)
  (hbase:attributeBase (.Name x p) "append" X.env (eval (.Name x p) X.env)=eval (.Name x p) X.env:=by rfl) (hline:(apos.endLine==cpos.line)=true:=by rfl)
  (hfew:((backTo cpos (starEach [a] X.env)).all (fun x=>!x.1)&&(backToKw cpos (keywordEach [] X.env)).all (fun x=>x.1.isSome)
   && decide ([a].length+([]:List Keyword).length+(if ([]:List Keyword).isEmpty then 0 else 1)<30))=true:=by rfl)
  (hsw:swapsWith (.Call (.Attribute (.Name x p) "append" apos) [a] [] cpos) none pos.line X.env=pure false:=by rfl) :
  PS X (.Expr (.Call (.Attribute (.Name x p) "append" apos) [a] [] cpos) pos) (tS X.K W (eE i fa)):=
 eo (Fo (lX PySem.F.plainAttrs_list PySem.F.slot_list_append PySem.F.type_list_append HS (wQ hN hv hd hcd) (da_cons ha da_nil hs) hbase hfew hline hs rfl) hsw) fun _ _ _=>qS
theorem CF (i:Nat) {x:Str} {px:Pos} {iter:Expr} {body:List Stmt} {fi:FI} {g:FS} (hp:PassesOwn (model X.prog X.w) X.A X.env X.xe) (hN:X.N.Nodup) (hi':PI X (.Name x px) iter (tI X.K W fi)) (hb:PSs X body (tS X.K W g)) (hcalm:X.calm=true:=by rfl)
  (hx:X.N[i]?=some x:=by rfl) (hl:Loc X.env.scope x:=by first | exact Or.inl rfl | exact Or.inr rfl) (hf:X.fn x=true\/X.env.scope.names.lookup x=some .local:=by first | exact .inl rfl | exact .inr rfl)
  (hs:∀x,foldedSetIterable iter X.env x=pure x:=by intro _;rfl):PS X (.For (.Name x px) iter body [] pos) (tS X.K W (dA i fi g)):=
 eo (Hj hp hcalm hi' (sY hN hx hl hf) hb hs) fun _ _ _=>A6
end
structure Cp (X:Cx) (N gl:List Str) (vs cs ls lo gs:List Nat):Prop where
 hN:X.N=N
 nd:N.Nodup
 nm:∀x∈N,(x==("__debug__":Str))=false/\(x==("__classdict__":Str))=false
 ng:∀x∈gl,(x==("__debug__":Str))=false/\x ≠ "__name__"
 vis:∀(i:Nat) x,N[i]?=some x->vs.contains i=true->CO X.env.scope x
 cel:∀(i:Nat) x,N[i]?=some x->cs.contains i=true->X.env.scope.names.lookup x=some .cell\/X.env.scope.names.lookup x=some .free
 loc:∀(i:Nat) x,N[i]?=some x->ls.contains i=true->Loc X.env.scope x/\(X.fn x=true\/X.env.scope.names.lookup x=some .local)
 loo:∀(i:Nat) x,N[i]?=some x->lo.contains i=true->X.env.scope.names.lookup x=some .local
 glb:∀(j:Nat) x,gl[j]?=some x->gs.contains j=true->Gl X x
 calm:X.calm=true
 kind:X.env.scope.kind=.function
def ze (sc:Scope) (ks:List NameKind) (o:Option Str):Bool:=match o with
 | some x=>(match sc.names.lookup x with
  | some k=>ks.any fun z=>decide (z=k)
  | none=>false)
 | none=>true
def j3 (N gl:List Str) (vs cs ls lo gs:List Nat) (sc:Scope):Bool:=
 decide (sc.kind=.function)&&(vs.all fun i=>ze sc [.local,.cell,.free] N[i]?)&&(cs.all fun i=>ze sc [.cell,.free] N[i]?)&&(ls.all fun i=>ze sc [.local,.cell] N[i]?)&&(lo.all fun i=>ze sc [.local] N[i]?)&&(gs.all fun j=>ze sc [.globalImplicit] gl[j]?)
def u9 (N gl:List Str):Bool:=decide N.Nodup&&(N.all fun x=>!(x==("__debug__":Str))&&!(x==("__classdict__":Str)))&&(gl.all fun x=>!(x==("__debug__":Str))&&!decide (x = "__name__"))
theorem C8 {sc:Scope} {ks:List NameKind} {x:Str} (h:ze sc ks (some x)=true):∃k∈ks,sc.names.lookup x=some k:=by
 unfold ze at h;simp only at h
 split at h
 ·rename_i k e
  simp only [any_eq_true,decide_eq_true_eq] at h
  obtain ⟨z,hz,rfl⟩:=h;exact ⟨z,hz,e⟩
 ·cases h
theorem Dk {P:Nat->Bool} {l:List Nat} {i:Nat} (h:l.all P=true) (hi:l.contains i=true):P i=true:=by
 rw [all_eq_true] at h;exact h i (by simpa using hi)
structure KJ (N gl:List Str) (vs cs ls lo gs:List Nat) (sc:Scope):Prop where
 kind:sc.kind=.function
 vis:∀(i:Nat) x,N[i]?=some x->vs.contains i=true->CO sc x
 cel:∀(i:Nat) x,N[i]?=some x->cs.contains i=true->sc.names.lookup x=some .cell\/sc.names.lookup x=some .free
 loc:∀(i:Nat) x,N[i]?=some x->ls.contains i=true->Loc sc x
 loo:∀(i:Nat) x,N[i]?=some x->lo.contains i=true->sc.names.lookup x=some .local
 glb:∀(j:Nat) x,gl[j]?=some x->gs.contains j=true->sc.names.lookup x=some .globalImplicit
theorem G9 {N gl:List Str} {vs cs ls lo gs:List Nat} {sc:Scope} (h:j3 N gl vs cs ls lo gs sc=true):KJ N gl vs cs ls lo gs sc:=by
 unfold j3 at h;simp only [Bool.and_eq_true,decide_eq_true_eq] at h
 obtain ⟨⟨⟨⟨⟨h0,h1⟩,h2⟩,h3⟩,h4⟩,h5⟩:=h;refine ⟨h0,fun i x e hi=>?_,fun i x e hi=>?_,fun i x e hi=>?_,fun i x e hi=>?_,fun i x e hi=>?_⟩
 ·have q:=Dk h1 hi
  rw [e] at q;obtain ⟨k,hk,q⟩:=C8 q;simp only [mem_cons,not_mem_nil,or_false] at hk
  rcases hk with rfl | rfl | rfl
  ·exact .inl q
  ·exact .inr (.inl q)
  ·exact .inr (.inr q)
 ·have q:=Dk h2 hi
  rw [e] at q;obtain ⟨k,hk,q⟩:=C8 q;simp only [mem_cons,not_mem_nil,or_false] at hk
  rcases hk with rfl | rfl
  ·exact .inl q
  ·exact .inr q
 ·have q:=Dk h3 hi
  rw [e] at q;obtain ⟨k,hk,q⟩:=C8 q;simp only [mem_cons,not_mem_nil,or_false] at hk
  rcases hk with rfl | rfl
  ·exact .inl q
  ·exact .inr q
 ·have q:=Dk h4 hi
  rw [e] at q;obtain ⟨k,hk,q⟩:=C8 q;simp only [mem_cons,not_mem_nil,or_false] at hk
  rw [hk] at q;exact q
 ·have q:=Dk h5 hi
  rw [e] at q;obtain ⟨k,hk,q⟩:=C8 q;simp only [mem_cons,not_mem_nil,or_false] at hk
  rw [hk] at q;exact q
theorem u7 {N gl:List Str} (h:u9 N gl=true):N.Nodup/\(∀x∈N,(x==("__debug__":Str))=false/\(x==("__classdict__":Str))=false)/\∀x∈gl,(x==("__debug__":Str))=false/\x ≠ "__name__":=by
 unfold u9 at h;simp only [Bool.and_eq_true,decide_eq_true_eq,all_eq_true,Bool.not_eq_true',decide_eq_false_iff_not] at h
 exact ⟨h.1.1,h.1.2,h.2⟩
theorem Cp.fn {P:Program} {w:World} {K:Fg} {mg:Str->Option Value} {base:Heap} {N gl:List Str} {vs cs ls lo gs:List Nat} {qual:Str} {sc:Scope} {f:Addr} {cd:Value} {A:Around} {outer:List Env} {s:Shared} {H:Hp} {E:XK}
  (h:j3 N gl vs cs ls lo gs sc=true) (h':u9 N gl=true):Cp (nj kX P w K mg base N qual sc f cd A outer s H E).nox N gl vs cs ls lo gs:=by
 obtain ⟨a,b,c⟩:=u7 h'
 have q:=G9 h
 exact ⟨rfl,a,b,c,q.vis,q.cel,fun i x e hi=>⟨q.loc i x e hi,.inl rfl⟩,q.loo,q.glb,rfl,q.kind⟩
theorem zz {env:Env} {x:Str} {k:NameKind}:∀{names:List (Str×NameKind)},names.lookup x=some k ->
  (names.map fun (n,k)=>if (k==NameKind.free&&env.scope.kind==.function&&env.kindOf n==some .cell) then (n,NameKind.cell) else (n,k)).lookup x=some k \/
  (k=.free/\(names.map fun (n,k)=>if (k==NameKind.free&&env.scope.kind==.function&&env.kindOf n==some .cell) then (n,NameKind.cell) else (n,k)).lookup x=some .cell)
 | [],h=>by simp at h
 | (n,k')::r,h=>by
  have ih:=@zz env x k r
  rw [map_cons];show List.lookup x ((if (k'==NameKind.free&&env.scope.kind==.function&&env.kindOf n==some .cell)=true then (n,NameKind.cell) else (n,k'))::_)=_\/_/\List.lookup x ((if (k'==NameKind.free&&env.scope.kind==.function&&env.kindOf n==some .cell)=true then (n,NameKind.cell) else (n,k'))::_)=_
  by_cases hc:(k'==NameKind.free&&env.scope.kind==.function&&env.kindOf n==some .cell)=true
  ·rw [if_pos hc]
   cases hx:x==n with
   | true=>
    simp only [lookup_cons,hx] at h ⊢
    cases h;simp only [Bool.and_eq_true,beq_iff_eq] at hc
    exact .inr ⟨hc.1.1,trivial⟩
   | false=>
    simp only [lookup_cons,hx] at h ⊢
    exact ih h
  ·rw [if_neg hc]
   cases hx:x==n with
   | true=>
    simp only [lookup_cons,hx] at h ⊢
    cases h;exact .inl rfl
   | false=>
    simp only [lookup_cons,hx] at h ⊢
    exact ih h
theorem wR {scope:Scope} {env:Env} {x:Str} {k:NameKind} (h:scope.names.lookup x=some k):(relabel scope env).names.lookup x=some k\/(k=.free/\(relabel scope env).names.lookup x=some .cell):=zz h
theorem Cp.blk {X:Cx} {N gl:List Str} {vs cs ls lo gs vs' cs' ls' lo' gs':List Nat} {scope:Scope} (S:Cp X N gl vs cs ls lo gs) (h:j3 N gl vs' cs' ls' lo' gs' scope=true) (cells C s₀ H₀ ex) :
  Cp (blk X scope cells C s₀ H₀ ex) N gl vs' cs' ls' lo' gs':=by
 have q:=G9 h
 refine ⟨S.hN,S.nd,S.nm,S.ng,fun i x e hi=>?_,fun i x e hi=>?_,fun i x e hi=>?_,fun i x e hi=>?_,fun i x e hi=>?_,S.calm,q.kind⟩
 ·show CO (relabel scope X.env) x
  rcases q.vis i x e hi with z | z | z
  ·rcases wR (env:=X.env) z with y | ⟨y,_⟩
   ·exact .inl y
   ·cases y
  ·rcases wR (env:=X.env) z with y | ⟨y,_⟩
   ·exact .inr (.inl y)
   ·cases y
  ·rcases wR (env:=X.env) z with y | ⟨_,y⟩
   ·exact .inr (.inr y)
   ·exact .inr (.inl y)
 ·show (relabel scope X.env).names.lookup x=some .cell\/(relabel scope X.env).names.lookup x=some .free
  rcases q.cel i x e hi with z | z
  ·rcases wR (env:=X.env) z with y | ⟨y,_⟩
   ·exact .inl y
   ·cases y
  ·rcases wR (env:=X.env) z with y | ⟨_,y⟩
   ·exact .inr y
   ·exact .inl y
 ·show Loc (relabel scope X.env) x/\((scope.names.any fun y=>y.1==x&&y.2==.cell)=true\/(relabel scope X.env).names.lookup x=some .local)
  rcases q.loc i x e hi with z | z
  ·rcases wR (env:=X.env) z with y | ⟨y,_⟩
   ·exact ⟨.inl y,.inr y⟩
   ·cases y
  ·rcases wR (env:=X.env) z with y | ⟨y,_⟩
   ·refine ⟨.inr y,.inl ?_⟩
    rw [any_eq_true];exact ⟨(x,.cell),iP z,by simp⟩
   ·cases y
 ·show (relabel scope X.env).names.lookup x=some .local
  rcases wR (env:=X.env) (q.loo i x e hi) with y | ⟨y,_⟩
  ·exact y
  ·cases y
 ·show (relabel scope X.env).names.lookup x=some .globalImplicit
  rcases wR (env:=X.env) (q.glb i x e hi) with y | ⟨y,_⟩
  ·exact y
  ·cases y
def jf (N:List Str) (i:Nat) (cs:List Nat) (sc:Scope):Bool:=
 decide (sc.kind=.function)&&(sc.names.all fun p=>!decide (p.2=.free)||cs.any fun j=>decide (N[j]?=some p.1)) &&
 ((List.range N.length).all fun j=>j==i||(sc.names.all fun p=>!decide (some p.1=N[j]?)||(!decide (p.2=.local)&&!decide (p.2=.cell)))) &&
 (sc.names.all fun p=>!decide (p.2=.local)||decide (sc.names.lookup p.1=some .local)) &&
 (sc.names.all fun p=>!decide (p.2=.free)||sc.names.all fun q=>!decide (q.1=p.1)||!decide (q.2=.cell))
theorem Hq {X:Cx} {N gl:List Str} {vs cs ls lo gs:List Nat} {scope:Scope} {i:Nat} (S:Cp X N gl vs cs ls lo gs) (h:jf N i cs scope=true):dG X.N [i] X.env.scope scope:=by
 unfold jf at h;simp only [Bool.and_eq_true,decide_eq_true_eq,all_eq_true,Bool.or_eq_true,Bool.not_eq_true',decide_eq_false_iff_not,any_eq_true,mem_range,beq_iff_eq] at h
 obtain ⟨⟨⟨⟨h0,h1⟩,h2⟩,h3⟩,h4⟩:=h;refine ⟨h0,fun n hn=>?_,fun j x e hj=>?_,fun x hx e=>?_,fun n hn hc=>?_⟩
 ·rcases h1 _ hn with z | ⟨j,hj,e⟩
  ·exact absurd rfl z
  ·exact S.cel j n e (by simpa using hj)
 ·rw [S.hN] at e
  rcases h2 j (List.getElem?_eq_some_iff.mp e).1 with z | z
  ·rw [z];exact List.mem_singleton.mpr rfl
  ·exfalso
   rcases hj with y | y
   ·rcases z _ y with w | w
    ·exact w e.symm
    ·exact w.1 rfl
   ·rcases z _ y with w | w
    ·exact w e.symm
    ·exact w.2 rfl
 ·rcases h3 x hx with z | z
  ·exact absurd e z
  ·exact z
 ·rcases h4 _ hn with z | z
  ·exact z rfl
  ·rcases z _ hc with w | w
   ·exact w rfl
   ·exact w rfl
structure Fx (X Y:Cx):Prop where
 prog:Y.prog=X.prog
 w:Y.w=X.w
 K:Y.K=X.K
 mg:Y.mg=X.mg
 base:Y.base=X.base
 A:Y.A=X.A
def Rm (X:Cx):Prop:=X.A.units+64<cLine
def wN (X:Cx) (x:Str) (n:Nat) (den:List PySem.PyData->Res):Prop:=∃(k:Nat) (f:Addr) (fd:FuncData) (ps:List Str),eD X.prog X.w X.K X.mg X.base kX k f fd ps (qI X.K n den)/\Room k X.A/\X.mg x=some (.ref f)/\PySem.W.keepIn X.K (.ref f)=true/\Binds X.K fd ps []
def Con (X:Cx) (x:Str) (d:PySem.PyData):Prop:=∃u v,X.mg x=some u/\RelV v u/\∀H,Rep X.K H v d
section
variable {X Y:Cx} {x:Str} {m:Nat} {d:PySem.PyData}
theorem Fx.n (F:Fx X Y) (h:X.mg x=none):Y.mg x=none:=by rw [F.mg];exact h
end
section
variable {X:Cx} {N gl:List Str} {vs cs ls lo gs:List Nat} {W:XW} {a b c e:Expr} {es:List Expr} {pos p:Pos} {fa fb fc:F1} {fl:FL} {ga gb:FB} {g1 g2:FS}
theorem cv (S:Cp X N gl vs cs ls lo gs) (i:Nat) {x:Str} (hN:N[i]?=some x) (hv:vs.contains i=true):PE X (.Name x pos) (tE X.K W (ae i)):=by
 have m:=S.nm x (mem_of_getElem? hN)
 exact CH (wQ (by rw [S.hN];exact hN) (S.vis i x hN hv) m.1 m.2)
theorem cm (S:Cp X N gl vs cs ls lo gs) (i:Nat) {x:Str} (hN:N[i]?=some x) (hv:vs.contains i=true):PE X (.Name x pos) (tE X.K W (b9 i)):=by
 have m:=S.nm x (mem_of_getElem? hN)
 exact yK (wQ (by rw [S.hN];exact hN) (S.vis i x hN hv) m.1 m.2)
theorem Cp.g (S:Cp X N gl vs cs ls lo gs) {j:Nat} {x:Str} (hj:gl[j]?=some x) (hg:gs.contains j=true):Gl X x/\(x==("__debug__":Str))=false/\x ≠ "__name__":=
 ⟨S.glb j x hj hg,S.ng x (mem_of_getElem? hj)⟩
def D3:R2:=fun x y H Q=>pO (fun i j=>.bl (decide (i<j))) x y H Q\/∃i j,x=.str i/\y=.str j/\Q (.bl (decide (i.cps.toList<j.cps.toList))) H
theorem Ee:OpR X (compareOp .Lt) D3:=op_lt.or rn
def Cv:PySem.PyData->PySem.PyData->Option PySem.PyData
 | .str i,.str j=>some (.bool (!decide (i.cps.toList<j.cps.toList)))
 | _,_=>none
abbrev oH:PySem.PyData->PySem.PyData->Option PySem.PyData:=fun a b=>(KB a b).or (Cv a b)
def Bm:R2:=fun x y H Q=>pO (fun i j=>.bl (decide (j<=i))) x y H Q\/∃i j,x=.str i/\y=.str j/\Q (.bl (!decide (i.cps.toList<j.cps.toList))) H
theorem rq:OpR X (compareOp .GtE) (fun x y H Q=>∃i j,x=.str i/\y=.str j/\Q (.bl (!decide (i.cps.toList<j.cps.toList))) H):=by
 intro pins s σ H x y v u Q I rx ry h;obtain ⟨i,j,rfl,rfl,q⟩:=h;obtain ⟨t,rfl⟩:=rx;obtain ⟨t',rfl⟩:=ry;exact PySem.P.ge_str (Do I q rfl)
theorem Ef:OpR X (compareOp .GtE) Bm:=op_ge.or rq
theorem yw {K:Fg}:GOp K (fun x y H Q=>∃i j,x=.str i/\y=.str j/\Q (.bl (!decide (i.cps.toList<j.cps.toList))) H) Cv:=by
 intro x y H Q a b d ra rb e k
 cases ra<;>cases rb<;>simp only [Cv] at e<;>try cases e
 rename_i i j;exact ⟨i,j,rfl,rfl,k _ (.bl _)⟩
theorem Cn {K:Fg}:GOp K Bm oH:=(C1 fun _ _=>.bl _).or yw
structure Ck (X:Cx) (op:CmpOp) (r:R2) (g:PySem.PyData->PySem.PyData->Option PySem.PyData):Prop where
 o:OpR X (compareOp op) r
 g:GOp X.K r g
theorem lS (R:Rm X):Ck X .Lt D3 i2:=⟨Ee,Cm⟩
theorem Bq (R:Rm X):Ck X .LtE (pO fun i j=>.bl (decide (i<=j))) zP:=⟨Eb,C1 fun _ _=>.bl _⟩
theorem uF (R:Rm X):Ck X .Gt (pO fun i j=>.bl (decide (j<i))) nJ:=⟨Ec,C1 fun _ _=>.bl _⟩
theorem Ji (R:Rm X):Ck X .GtE Bm oH:=⟨Ef,Cn⟩
theorem fm (R:Rm X):Ck X .Eq (qX X.K false) df:=⟨BQ R,Co⟩
theorem Bp (R:Rm X):Ck X .NotEq (qX X.K true) mG:=⟨BL R,Cj⟩
theorem dB (R:Rm X):Ck X .In (uC X.K false) (bj false):=⟨BP R,vw⟩
theorem sZ (R:Rm X):Ck X .NotIn (uC X.K true) (bj true):=⟨rj R,vw⟩
theorem ct {op:CmpOp} {r:R2} {g:PySem.PyData->PySem.PyData->Option PySem.PyData} (k:Ck X op r g) (ha:PE X a (tE X.K W fa)) (hb:PE X b (tE X.K W fb)) (hm:behindInMarks op b=false):PT X (.Compare a [op] [b] pos) (tT X.K W (aM ao (aA g fa fb))):=CC k.o k.g ha hb hm
theorem cc {x:Str} {n:Nat} {den:List PySem.PyData->Res} (S:Cp X N gl vs cs ls lo gs) (j:Nat) (hj:gl[j]?=some x) (hg:gs.contains j=true) (C:wN X x n den) (ha:PA X (e::es) (tA X.K W fl)) (he:starEach (e::es) X.env=(false,eval e X.env)::starEach es X.env) (hpl:(backTo pos (starEach es X.env)).any (·.1)=false) :
  PE X (.Call (.Name x p) (e::es) [] pos) (tE X.K W (ag n den fl)):=by
 obtain ⟨k,f,fd,ps,F,hr,hm,hk,hb⟩:=C;exact yN F hr hm hk hb ha (S.g hj hg).1 (S.g hj hg).2.1 he hpl
abbrev sQ (X:Cx) (N gl:List Str) (vs cs ls lo gs:List Nat) (R:Cx->Prop):Prop:=∀Y:Cx,Cp Y N gl vs cs ls lo gs->Fx X Y->R Y
theorem co {scope:Scope} {x:Str} {px:Pos} {iter elt:Expr} {ifs:List Expr} {fi:FI} {fe:F1} {fc:FB} {vs' cs' lo' gs':List Nat} (S:Cp X N gl vs cs ls lo gs) (s:Sh) (i:Nat) (hx:N[i]?=some x) (h1:jf N i cs scope=true) (h2:j3 N gl vs' cs' [i] lo' gs' scope=true)
  (hi':PI X (.Name x px) iter (tI X.K W fi)) (hc:sQ X N gl vs' cs' [i] lo' gs' fun Y=>PF Y ifs (tT Y.K W0 fc)) (he:sQ X N gl vs' cs' [i] lo' gs' fun Y=>PE Y elt (tE Y.K W0 fe)) (hs:∀x,foldedSetIterable iter X.env x=pure x) :
  PE X (.ListComp elt [⟨.Name x px,iter,ifs,0⟩] scope pos) (tE X.K W (aw s i fi fc fe)):=by
 have B:=fun cells C s₀ H₀ ex=>S.blk h2 cells C s₀ H₀ ex
 have L:=fun cells C s₀ H₀ ex=>(B cells C s₀ H₀ ex).loc i x hx (by simp)
 exact yM (X:=X) s i (Hq S h1) (by rw [S.hN];exact S.nd) hi' (fun cells C s₀ H₀ ex=>hc _ (B cells C s₀ H₀ ex) ⟨rfl,rfl,rfl,rfl,rfl,rfl⟩) (fun cells C s₀ H₀ ex=>he _ (B cells C s₀ H₀ ex) ⟨rfl,rfl,rfl,rfl,rfl,rfl⟩)
  S.calm (by rw [S.hN];exact hx) (fun cells C s₀ H₀ ex=>(L cells C s₀ H₀ ex).1) (fun cells C s₀ H₀ ex=>(L cells C s₀ H₀ ex).2) hs
theorem Ij {elt:Expr} {gens:List Comprehension} {scope:Scope} {y:Str} {pos':Pos} {line:Nat} (hk:X.env.scope.kind=.function) (hy:X.env.scope.names.lookup y=some .local) (hl:(pos'.line==pos.line)=true)
  (hn:(scope.names.any fun (n,k)=>n==y&&(k==NameKind.local||k==NameKind.cell))=false):swapsWith (.ListComp elt gens scope pos) (some (.Name y pos')) line X.env=pure true:=by
 have e1:(X.env.blockKind==ScopeKind.function)=true:=by unfold Env.blockKind;rw [hk];rfl
 have e2:(X.env.kindOf y==some NameKind.local)=true:=by unfold Env.kindOf;rw [hy];rfl
 show (pure (X.env.blockKind==.function&&X.env.kindOf y==some .local&&pos'.line==pos.line&&!(scope.names.any fun (n,k)=>n==y&&(k==NameKind.local||k==NameKind.cell))):Sem Bool)=pure true
 rw [e1,e2,hl,hn];rfl
theorem cs_append (S:Cp X N gl vs cs ls lo gs) (i:Nat) {x:Str} {apos cpos:Pos} (hi:N[i]?=some x) (hv:vs.contains i=true) (ha:PE X a (tE X.K W fa)) (hs:starEach [a] X.env=[(false,eval a X.env)])
  (hbase:attributeBase (.Name x p) "append" X.env (eval (.Name x p) X.env)=eval (.Name x p) X.env) (hline:(apos.endLine==cpos.line)=true)
  (hfew:((backTo cpos (starEach [a] X.env)).all (fun x=>!x.1)&&(backToKw cpos (keywordEach [] X.env)).all (fun x=>x.1.isSome)
   && decide ([a].length+([]:List Keyword).length+(if ([]:List Keyword).isEmpty then 0 else 1)<30))=true)
  (hsw:swapsWith (.Call (.Attribute (.Name x p) "append" apos) [a] [] cpos) none pos.line X.env=pure false) :
  PS X (.Expr (.Call (.Attribute (.Name x p) "append" apos) [a] [] cpos) pos) (tS X.K W (eE i fa)):=
 rV i ha (by rw [S.hN];exact hi) (S.vis i x hi hv) (S.nm x (mem_of_getElem? hi)).1 (S.nm x (mem_of_getElem? hi)).2 hs hbase hline hfew hsw
end
def eU (g:PySem.PyData->Option PySem.PyData) (fa:F1):F1:=aV fa fun p Γ=>match g p.d with
 | some d=>.ok ⟨.leaf,d⟩ Γ
 | none=>.no
def cz:PySem.PyData->Option PySem.PyData
 | .int i=>some (.int (-i))
 | _=>none
def KE (fa fb:F1):F1:=aV fa fun p=>aV fb fun q=>fun Γ=>match p.s,p.d,q.d with
 | .lst .leaf,.list ds,.int k=>if dq k&&decide (ds.length*k.toNat<=sizeLine) then .ok ⟨.lst .leaf,.list (List.replicate k.toNat ds).flatten⟩ Γ else .no
 | _,_,_=>.no
def sJ:Option (Option PV)->Bool
 | some (some ⟨.lst .leaf,.list _⟩)=>true
 | _=>false
def AB (i:Nat) (p q:PV) (Γ:Ev):fO:=match Γ[i]? with
 | some (some ⟨.lst .leaf,.list ds⟩)=>(match q.d with
  | .int k=>(match eC ds.length k with
   | some j=>if T.coer .leaf p then .nx (Γ.set i (some ⟨.lst .leaf,.list (ds.set j p.d)⟩)) else .no
   | none=>.no)
  | _=>.no)
 | _=>.no
def fT (i:Nat) (fv fk:F1):FS:=fun Γ=>if sJ Γ[i]? then iF fv (fun p=>iF fk (AB i p)) Γ else .no
def ID (i:Nat) (g:FS):FS:=fun Γ=>match Γ[i]? with
 | some (some p)=>g (Γ.set i (some ⟨.leaf,p.d⟩))
 | _=>.no
section
variable {K:Fg} {W:XW} {σ:St} {H:Hp} {Q:VK} {D:gh} {fa fb:F1} {fl:FL}
theorem DV {r:V->Hp->VK->Prop} {g:PySem.PyData->Option PySem.PyData} (hg:∀x H Q a d,Rep K H x a->g a=some d->(∀v,Sc v d->Q v H)->r x H Q) (h:tE K W (eU g fa) σ H Q):JT r (tE K W fa) σ H Q:=by
 refine wz h fun He O Fs Γ1 p v H1 G Fs1 nd A h1=>?_
 cases e:g p.d with
 | none=>rw [e] at h1;exact h1.elim
 | some d=>
  rw [e] at h1;exact hg v H1 Q p.d d A.own.rep e fun u hu=>Wants.scal h1 hu A.same A.env.dropL (fun a ha=>ha) nd fun a ha=>A.new a (mem_append_right _ ha)
theorem HN:∀{Fs:List (List Addr)},(∀F∈Fs,F=[])->Fs.flatten=[]
 | [],_=>rfl
 | F::r,h=>by rw [flatten_cons,h F mem_cons_self,HN fun G hG=>h G (mem_cons_of_mem _ hG)];rfl
theorem Own.leaves {O:List Addr} {G:List Addr} {v:V} {ds:List PySem.PyData} (h:Own K O H (.lst .leaf) G v (.list ds)):∃l vs,v=.ref l/\G=[l]/\H l=some (.lst vs)/\vs.length=ds.length/\∀(j:Nat) u d,vs[j]?=some u->ds[j]?=some d->Rep K (bX H O) u d:=by
 cases h with
 | @lst _ l vs _ Fs hsv hp hl hf nd q=>
  have hF:∀F∈Fs,F=[]:=fun F hF=>by
   obtain ⟨j,hj,e⟩:=getElem_of_mem hF;have o:=q j (vs[j]'(by omega)) (ds[j]'(by omega)) F (getElem?_eq_getElem _) (getElem?_eq_getElem _) (by rw [getElem?_eq_getElem hj,e])
   cases o;rfl
  refine ⟨l,vs,rfl,by rw [HN hF],hp,hl,fun j u d h1 h2=>?_⟩
  have hj:=(List.getElem?_eq_some_iff.mp h2).1
  have o:=q j u d (Fs[j]'(by omega)) h1 h2 (getElem?_eq_getElem _)
  generalize Fs[j]'(by omega)=F at o
  cases o with
  | leaf r=>exact r
theorem Own.mkLeaves {O:List Addr} {l:Addr} {vs:List V} {ds:List PySem.PyData} (hp:H l=some (.lst vs)) (hl:vs.length=ds.length) (q:∀(j:Nat) u d,vs[j]?=some u->ds[j]?=some d->Rep K (bX H O) u d):Own K O H (.lst .leaf) [l] (.ref l) (.list ds):=by
 have hF:(List.replicate ds.length ([]:List Addr)).flatten=[]:=HN fun F hF=>(List.mem_replicate.mp hF).2
 have o:Own K O H (.lst .leaf) (l::(List.replicate ds.length ([]:List Addr)).flatten) (.ref l) (.list ds):=by
  refine .lst rfl hp hl (by simp) (by rw [hF];simp) fun j u d F h1 h2 h3=>?_
  have:F=[]:=(List.mem_replicate.mp (mem_of_getElem? h3)).2
  subst this;exact .leaf (q j u d h1 h2)
 rw [hF] at o;exact o
theorem As {k:PV->PV->Ev->fO} {R:V->V->Hp->Prop} (h:tS K W (iF fa fun p=>iF fb (k p)) D σ H)
  (hk:∀He O Γ2 p q v u H1 H2 G1 G2 Fs2,O.Nodup->Same H H1->Same H1 H2->EnvOk K He (G2++(G1++O)) Fs2 H2 σ Γ2->(∀a∈G2++G1,He a=none) ->
   Own K (G2++(G1++O)++Fs2.flatten) H2 p.s G1 v p.d->Own K (G2++(G1++O)++Fs2.flatten) H2 q.s G2 u q.d->o7 K W He O D (k p q Γ2)->R v u H2) :
  tE K W fa σ H fun v H1=>tE K W fb σ H1 fun u H2=>R v u H2:=by
 refine iA h fun He O Fs Γ1 p v H1 G1 Fs1 _ fr A1 h1=>?_
 refine ⟨He,G1++O,Fs1,Γ1,A1.env,?_⟩
 unfold iF at h1;have nd:O.Nodup:=(List.nodup_append.mp A1.env.ndO).2.1
 cases e:fb Γ1 with
 | ok q Γ2=>
  rw [e] at h1;intro u H2 G2 Fs2 A2;refine hk He O Γ2 p q v u H1 H2 G1 G2 Fs2 nd A1.same A2.same A2.env (fun a ha=>?_) (A1.own.mono A2.same fun a ha=>?_) A2.own h1
  ·rcases List.mem_append.mp ha with z | z
   ·exact A2.freshG A1.env a z
   ·exact fr a z
  ·rcases List.mem_append.mp ha with z | z
   ·rcases List.mem_append.mp z with z | z
    ·rcases A2.new a (mem_append_left _ z) with y | y
     ·exact .inl (mem_append_right _ y)
     ·exact .inr y
    ·exact .inl (mem_append_left _ z)
   ·rcases A2.new a (mem_append_right _ z) with y | y
    ·exact .inl (mem_append_right _ y)
    ·exact .inr y
 | er c Γ2=>
  rw [e] at h1;intro H2 Fs2 hs E2;exact h1 σ H2 Fs2 E2.dropL
 | no=>
  rw [e] at h1;exact h1
theorem w9 {Q':VK} (h:tE K W fa σ H Q) (hq:∀v H',Q v H'->Q' v H'):tE K W fa σ H Q':=by
 obtain ⟨He,O,Fs,Γ,E,h⟩:=h;refine ⟨He,O,Fs,Γ,E,?_⟩
 cases e:fa Γ with
 | ok p Γ'=>rw [e] at h;exact fun v H' G Fs' A=>hq v H' (h v H' G Fs' A)
 | er c Γ'=>rw [e] at h;exact h
 | no=>rw [e] at h;exact h
theorem EnvOk.chg {He:Hp} {O:List Addr} {Fs:List (List Addr)} {Γ:Ev} {i:Nat} {ds:List PySem.PyData} (E:EnvOk K He O Fs H σ Γ) (h:Γ[i]?=some (some ⟨.lst .leaf,.list ds⟩)) :
  ∃l vs,σ[i]?=some (some (.ref l))/\H l=some (.lst vs)/\vs.length=ds.length/\(∀(j:Nat) u d,vs[j]?=some u->ds[j]?=some d->Rep K (bX H (O++Fs.flatten)) u d) /\
   ∀(vs':List V) (ds':List PySem.PyData),vs'.length=ds'.length->(∀(j:Nat) u d,vs'[j]?=some u->ds'[j]?=some d->Rep K (bX H (O++Fs.flatten)) u d)->∃Fs',EnvOk K He O Fs' (bx H l (.lst vs')) σ (Γ.set i (some ⟨.lst .leaf,.list ds'⟩)):=by
 obtain ⟨hv,v,F,h1,E1,o1,sub⟩:=E.move h;have hi:i<Γ.length:=(List.getElem?_eq_some_iff.mp h).1
 obtain ⟨_,v0,F0,h10,h20,o0⟩:=E.slot i _ h;obtain ⟨l,vs,rfl,rfl,hp,hl,hr⟩:=o1.leaves;obtain ⟨l',vs',e0,e1,hp',hl',hr'⟩:=o0.leaves;rw [h1] at h10
 cases h10
 cases e0;rw [hp] at hp'
 cases hp'
 refine ⟨l,vs,h1,hp,hl,hr',fun ws ds' hw q=>?_⟩
 have hlF:l∈Fs.flatten:=sub l (mem_append_left _ (List.mem_singleton.mpr rfl))
 have hHe:He l=none:=E.fresh l hlF
 have E4:=E1.mutO (o:=.lst ws) (mem_append_left _ (List.mem_singleton.mpr rfl)) hp hHe
 have ownL:Own K ([l]++O++(Fs.set i []).flatten) (bx H l (.lst ws)) (.lst .leaf) [l] (.ref l) (.list ds'):=by
  refine Own.mkLeaves dQ hw fun j u d a1 a2=>?_
  rw [GV (mem_append_left _ (mem_append_left _ (List.mem_singleton.mpr rfl)))];refine (q j u d a1 a2).mono (qw (Same.refl _) fun a ha=>.inl ?_)
  rcases List.mem_append.mp ha with z | z
  ·rcases List.mem_append.mp z with z | z
   ·rw [List.mem_singleton.mp z];exact mem_append_right _ hlF
   ·exact mem_append_left _ z
  ·exact mem_append_right _ (sub a (mem_append_right _ z))
 have fin:=EnvOk.put (i:=i) (p:=⟨.lst .leaf,.list ds'⟩) (v:=.ref l) E4 ownL rfl (fun a ha=>by rw [List.mem_singleton.mp ha];exact hHe) (by rw [length_set];exact hi)
 rw [set_set,set_set,zj h1] at fin;exact ⟨_,fin⟩
theorem Ig {o:Option (Option PV)} (h:sJ o=true):∃ds,o=some (some ⟨.lst .leaf,.list ds⟩):=by
 unfold sJ at h;split at h
 ·exact ⟨_,rfl⟩
 ·cases h
theorem xq {i:Nat} (h:tS K W (fT i fa fb) D σ H):gZ (tE K W fa) (L2.gSub (bh i) (tE K W fb) uB) D σ H:=by
 obtain ⟨He,O,Fs,Γ,E,h⟩:=h;unfold fT at h
 cases ho:sJ Γ[i]? with
 | false=>rw [ho] at h;exact h.elim
 | true=>
  rw [ho] at h;obtain ⟨ds,e0⟩:=Ig ho;obtain ⟨l,vs,h1,h2,h3,_,_⟩:=E.chg e0;refine w9 (As (D:=D) (R:=fun v u H2=>uB (.ref l) u v H2 fun H3=>D.nx σ H3) ⟨He,O,Fs,Γ,E,h⟩ fun He O Γ2 p q v u H1 H2 G1 G2 Fs2 nd s1 s2 E2 fr o1 o2 w=>?_) fun v H' q=>⟨.ref l,h1,q⟩
  unfold AB at w;split at w
  ·rename_i ds1 e1
   split at w
   ·rename_i k ek
    split at w
    ·rename_i j ej
     cases hc:T.coer .leaf p with
     | false=>rw [hc] at w;exact w.elim
     | true=>
      rw [hc] at w;have E3:EnvOk K He O Fs2 H2 σ Γ2:=E2.drop (fun a ha=>mem_append_right _ (mem_append_right _ ha)) nd
      obtain ⟨l1,vs1,q1,q2,q3,q4,q5⟩:=E3.chg e1;rw [h1] at q1
      cases q1;have hu:=o2.rep
      rw [ek] at hu
      cases hu;have ov:Own K (O++Fs2.flatten) H2 .leaf [] v p.d:=by
       refine o1.coer (s:=.leaf) hc (fun a ha=>?_) fun a ha z=>?_
       ·rcases List.mem_append.mp ha with z | z
        ·exact mem_append_left _ (mem_append_right _ (mem_append_right _ z))
        ·exact mem_append_right _ z
       ·exfalso
        have ndE:=E2.nd
        rw [append_assoc] at ndE;have n2:=(List.nodup_append.mp ndE).2.1
        rw [append_assoc] at n2;exact (List.nodup_append.mp n2).2.2 a ha a z rfl
      cases ov with
      | leaf rv=>
       have ixl:eC vs1.length k=some j:=by rw [q3];exact ej
       obtain ⟨Fs',E4⟩:=q5 (vs1.set j v) (ds1.set j p.d) (by rw [length_set,length_set,q3]) fun m x d a1 a2=>by
        by_cases hm:m=j
        ·subst hm
         rw [List.getElem?_set] at a1 a2
         rw [if_pos rfl] at a1 a2
         split at a1
         ·split at a2
          ·cases a1;cases a2;exact rv
          ·cases a2
         ·cases a1
        ·rw [getElem?_set_ne (Ne.symm hm)] at a1 a2
         exact q4 m x d a1 a2
       exact ⟨l,vs1,k,j,rfl,rfl,q2,ixl,w σ _ Fs' E4⟩
    ·exact w.elim
   ·exact w.elim
  ·exact w.elim
end
section
variable {X:Cx}
theorem Ap:Km X (unaryOp .USub) (fun x H Q=>∃i,x=.int i/\Q (.int (-i)) H):=by
 intro pins s σ H x v Q I rx h;obtain ⟨i,rfl,q⟩:=h;obtain ⟨t,rfl⟩:=rx;exact neg_int ⟨.int (-i),H,I.tok _,⟨_,rfl⟩,q⟩
end
section
variable {X:Cx}
variable {N gl:List Str} {vs cs ls lo gs:List Nat} {W:XW} {a b c e:Expr} {es:List Expr} {pos p:Pos} {fa fb fc:F1} {fl:FL} {g:FS}
theorem cs_setI (S:Cp X N gl vs cs ls lo gs) (i:Nat) {x:Str} {px pos':Pos} (hi:N[i]?=some x) (hv:vs.contains i=true) (ha:PE X a (tE X.K W fa)) (hb:PE X b (tE X.K W fb))
  (hs:swapsWithSole [.Subscript (.Name x px) b pos'] a pos.line X.env=pure false) (hw:swappedStores [.Subscript (.Name x px) b pos'] a X.env=pure none)
  (h1:(assignEach [.Subscript (.Name x px) b pos'] X.env).map (·.2)=[assign (.Subscript (.Name x px) b pos') X.env])
  (has:∀v,assign (.Subscript (.Name x px) b pos') X.env v=(do
   let ov <-holding [v] (eval (.Name x px) X.env)
   let iv <-holding [v,ov] (eval b X.env)
   standAt pos'
   holding [v,ov,iv] (setItem ov iv v)
   release [v,ov,iv] [])):PS X (.Assign [.Subscript (.Name x px) b pos'] a pos) (tS X.K W (fT i fa fb)):=by
 have m:=S.nm x (mem_of_getElem? hi)
 exact eo (Bw ha (Bz (wQ (by rw [S.hN];exact hi) (S.vis i x hi hv) m.1 m.2) hb ua has) hs hw h1) fun _ _ _=>xq
end
def zd:Expr->Bool
 | .Starred ..=>true
 | _=>false
theorem dw {e:Expr} {es:List Expr} {env:Env} (h:zd e=false):starEach (e::es) env=(false,eval e env)::starEach es env:=by
 cases e<;>first | rfl | cases h
theorem fR {a:Expr} {env:Env} (h:zd a=false):starEach [a] env=[(false,eval a env)]:=dw h
theorem lB {a b:Expr} {env:Env} (h:zd a=false) (h2:zd b=false):starEach [a,b] env=[(false,eval a env),(false,eval b env)]:=by rw [dw h,fR h2]
def DefOk (P:Program) (w:World) (K:Fg) (mg:Str->Option Value) (base:Heap) (j:Nat) (x:Str) (n:Nat) (den:List PySem.PyData->Res):Prop:=
 ∃(f:Addr) (fd:FuncData) (ps:List Str),eD P w K mg base kX j f fd ps (qI K n den)/\mg x=some (.ref f)/\PySem.W.keepIn K (.ref f)=true/\Binds K fd ps []
def gj (K:Fg) (mg:Str->Option Value) (x:Str) (d:PySem.PyData):Prop:=∃u v,mg x=some u/\RelV v u/\∀H,Rep K H v d
theorem DefOk.cal {X:Cx} {j k n:Nat} {x:Str} {den:List PySem.PyData->Res} (h:DefOk X.prog X.w X.K X.mg X.base j x n den) (hr:Room k X.A) (hj:decide (j<=k)=true):wN X x n den:=by
 obtain ⟨f,fd,ps,F,a,b,c⟩:=h;exact ⟨j,f,fd,ps,F,hr.mono (of_decide_eq_true hj),a,b,c⟩
def Iz:PySem.PyData->V
 | .none=>.non
 | .bool b=>.bl b
 | .int i=>.int i
 | .str x=>.str x
 | _=>.non
def sx:List Value->List PySem.PyData->Bool
 | .int i _::r,.int j::ds=>decide (i=j)&&sx r ds
 | .str x _::r,.str y::ds=>decide (x=y)&&sx r ds
 | [],[]=>true
 | _,_=>false
theorem GO:∀{us:List Value} {ds:List PySem.PyData},sx us ds=true->Vals (ds.map Iz) us/\∀d∈ds,Sc (Iz d) d
 | [],[],_=>⟨.nil,fun d hd=>(nomatch hd)⟩
 | .int i t::r,.int j::ds,h=>by
  simp only [sx,Bool.and_eq_true,decide_eq_true_eq] at h
  obtain ⟨rfl,h⟩:=h;obtain ⟨a,b⟩:=GO h;refine ⟨.cons ⟨t,rfl⟩ a,fun d hd=>?_⟩
  rcases List.mem_cons.mp hd with z | z
  ·rw [z];exact .int i
  ·exact b d z
 | .str i t::r,.str j::ds,h=>by
  simp only [sx,Bool.and_eq_true,decide_eq_true_eq] at h
  obtain ⟨rfl,h⟩:=h;obtain ⟨a,b⟩:=GO h;refine ⟨.cons ⟨t,rfl⟩ a,fun d hd=>?_⟩
  rcases List.mem_cons.mp hd with z | z
  ·rw [z];exact .str i
  ·exact b d z
def CK (its:Array Value) (ds:List PySem.PyData):Bool:=decide (its.size<=sizeLine)&&sx its.toList ds
theorem yP {K:Fg} {mg:Str->Option Value} {x:Str} {a:Addr} {dd:Option Addr} {its:Array Value} {n:Nat} {sl:Array (Option Value)} {ds:List PySem.PyData} (hm:mg x=some (.ref a)) (l:K.lookup a=some ⟨.type "tuple",dd,.seq its n,sl⟩) (h:CK its ds=true):gj K mg x (.tuple ds):=by
 unfold CK at h;simp only [Bool.and_eq_true,decide_eq_true_eq] at h
 obtain ⟨v,s⟩:=GO h.2;refine ⟨.ref a,.ref a,hm,rfl,fun H=>.tup (vs:=ds.map Iz) (.inr ⟨_,its,n,l,rfl,rfl,h.1,v⟩) (by simp) fun i v d h1 h2=>?_⟩
 rw [getElem?_map,h2] at h1
 cases h1;exact (s d (mem_of_getElem? h2)).rep
theorem yR {K:Fg} {mg:Str->Option Value} {x:Str} {i:Int} {t:Tok} (hm:mg x=some (.int i t)):gj K mg x (.int i):=⟨.int i t,.int i,hm,⟨t,rfl⟩,fun H=>.int i⟩
theorem B0 {K:Fg} {m:List PySem.PyData->Res} {H:Hp} {a:Addr} {ns:List Int} {E:XK} (h:m [.list (ns.map .int)]=.ok ⟨.leaf,.bool true⟩) (hS:SqL K H a (ns.map V.int)):qI K 1 m [.ref a] H (fun v _=>v=.bl true) E:=by
 refine ⟨rfl,[],[.list (ns.map .int)],nodup_nil,(fun _ z=>nomatch z),⟨rfl,fun i v d h1 h2=>?_⟩,?_⟩
 ·rw [GU]
  match i,h1,h2 with
  | 0,h1,h2=>
   cases h1
   cases h2;refine .lst hS (by simp) fun i v d h1 h2=>?_
   rw [getElem?_map] at h1 h2
   cases e:ns[i]? with
   | none=>rw [e] at h1;cases h1
   | some z=>
    rw [e] at h1 h2
    cases h1
    cases h2;exact .int z
  | i+1,h1,h2=>simp at h1
 ·rw [h]
  intro v H' G r
  have o:=r.own.rep
  cases o;rfl
end T
namespace TQ
open PySem PySem.Spec L2 T
open PyProof.Rows hiding St
structure Q (p:Prop):Prop where
 p:p
section
variable {X:Cx} {N gl:List Str} {vs cs ls lo gs:List Nat} {W:XW} {a b c e:Expr} {es:List Expr} {pos p:Pos} {fa fb fc:F1} {fl:FL} {ga gb:FB} {g1 g2 g:FS}
theorem w_cv (S:Cp X N gl vs cs ls lo gs) (i:Nat) {x:Str} (hN:N[i]?=some x) (hv:vs.contains i=true):Q (PE X (.Name x pos) (tE X.K W (ae i))):=⟨T.cv S i hN hv⟩
theorem kg (S:Cp X N gl vs cs ls lo gs) (i:Nat) {x:Str} (hN:N[i]?=some x) (hv:vs.contains i=true):Q (PE X (.Name x pos) (tE X.K W (b9 i))):=⟨T.cm S i hN hv⟩
theorem dU (S:Cp X N gl vs cs ls lo gs) (j:Nat) {x:Str} {d:PySem.PyData} (hj:gl[j]?=some x) (hg:gs.contains j=true) (h:Con X x d):Q (PE X (.Name x pos) (tE X.K W (eK d))):=⟨by
 obtain ⟨u,v,h1,h2,h3⟩:=h;have q:=S.g hj hg
 exact yL q.1 h1 h2 h3 q.2.1⟩
theorem w_de_int {j:Int} {k pos}:Q (PE X (.Constant (.int j) k pos) (tE X.K W (eK (.int j)))):=⟨aY uT fun _ _ _=>uo fun _=>.int j⟩
theorem pb {j:Bool} {k pos}:Q (PE X (.Constant (.bool j) k pos) (tE X.K W (eK (.bool j)))):=⟨aY uX fun _ _ _=>uo fun _=>.bl j⟩
theorem pe {k pos}:Q (PE X (.Constant .none k pos) (tE X.K W (eK .none))):=⟨aY BB fun _ _ _=>uo fun _=>.non⟩
theorem gk {j:Str} {k pos}:Q (PE X (.Constant (.str j) k pos) (tE X.K W (eK (.str j)))):=⟨aY uR fun _ _ _=>uo fun _=>.str j⟩
theorem sN (ha:Q (PE X a (tE X.K W fa))) (hb:Q (PE X b (tE X.K W fb))):Q (PE X (.BinOp a .Add b pos) (tE X.K W (aA aS fa fb))):=⟨have ha:=ha.p;have hb:=hb.p;aY (iH BR ha hb) fun _ _ _=>gL (C1 fun _ _=>.int _)⟩
theorem HZ (ha:Q (PE X a (tE X.K W fa))) (hb:Q (PE X b (tE X.K W fb))):Q (PE X (.BinOp a .Sub b pos) (tE X.K W (aA gSub fa fb))):=⟨have ha:=ha.p;have hb:=hb.p;aY (iH BJ ha hb) fun _ _ _=>gL (C1 fun _ _=>.int _)⟩
theorem Dz (ha:Q (PE X a (tE X.K W fa))) (hb:Q (PE X b (tE X.K W fb))):Q (PE X (.BinOp a .Mult b pos) (tE X.K W (aA hZ fa fb))):=⟨have ha:=ha.p;have hb:=hb.p;aY (iH BM ha hb) fun _ _ _=>gL (qf (fun i j h=>by
 simp only [sD,Bool.or_eq_true,Bool.and_eq_true,decide_eq_true_eq] at h
 exact h) fun _ _=>.int _)⟩
theorem lg (ha:Q (PE X a (tE X.K W fa))) (hb:Q (PE X b (tE X.K W fb))):Q (PE X (.BinOp a .FloorDiv b pos) (tE X.K W (aA vz fa fb))):=⟨have ha:=ha.p;have hb:=hb.p;aY (iH xZ ha hb) fun _ _ _=>gL (qf (fun i j h=>by
 simp only [yW,Bool.and_eq_true,decide_eq_true_eq] at h
 exact h) fun _ _=>.int _)⟩
theorem zl (ha:Q (PE X a (tE X.K W fa))) (hb:Q (PE X b (tE X.K W fb))):Q (PE X (.BinOp a .Mod b pos) (tE X.K W (aA fo fa fb))):=⟨have ha:=ha.p;have hb:=hb.p;aY (iH BN ha hb) fun _ _ _=>gL (qf (fun i j h=>by
 simp only [yV,decide_eq_true_eq] at h
 exact h) fun _ _=>.int _)⟩
theorem tx (ha:Q (PE X a (tE X.K W fa))) (hb:Q (PE X b (tE X.K W fb))):Q (PE X (.BinOp a .Pow b pos) (tE X.K W (aA yz fa fb))):=⟨have ha:=ha.p;have hb:=hb.p;aY (iH BK ha hb) fun _ _ _=>gL (qf (fun i j h=>by
 simp only [yU,Bool.and_eq_true,decide_eq_true_eq] at h
 exact ⟨h.1.1,h.1.2,h.2⟩) fun _ _=>.int _)⟩
theorem Ae (ha:Q (PE X a (tE X.K W fa))):Q (PE X (.UnaryOp .USub a pos) (tE X.K W (eU cz fa))):=⟨have ha:=ha.p;aY (Ea Ap ha) fun _ _ _=>DV fun x H Q a d r e k=>by
 cases r<;>simp only [cz] at e<;>cases e
 exact ⟨_,rfl,k _ (.int _)⟩⟩
theorem tF (ha:Q (PE X a (tE X.K W fa))):Q (PE X (.UnaryOp .Not a pos) (tE X.K W (yE fa))):=⟨have ha:=ha.p;aY (BA ha) fun _ _ _=>AR⟩
theorem Iv {op:CmpOp} {r:R2} {g:PySem.PyData->PySem.PyData->Option PySem.PyData} (k:Ck X op r g) (ha:Q (PE X a (tE X.K W fa))) (hb:Q (PE X b (tE X.K W fb))) (hm:behindInMarks op b=false):Q (PE X (.Compare a [op] [b] pos) (tE X.K W (aA g fa fb))):=⟨have ha:=ha.p;have hb:=hb.p;CI k.o k.g ha hb hm⟩
theorem zr {op op':CmpOp} {r r':R2} {g g':PySem.PyData->PySem.PyData->Option PySem.PyData} (k:Ck X op r g) (k':Ck X op' r' g') (ha:Q (PE X a (tE X.K W fa))) (hb:Q (PE X b (tE X.K W fb))) (hc:Q (PE X c (tE X.K W fc))) (hm:lastMarks [op,op'] [b,c]=false):Q (PE X (.Compare a [op,op'] [b,c] pos) (tE X.K W (sV g g' fa fb fc))):=⟨have ha:=ha.p;have hb:=hb.p;have hc:=hc.p;vP k.o k.g k'.o k'.g ha hb hc hm⟩
theorem Ag {op} (h:Q (PE X a (tE X.K W fa))):Q (PE X (.BoolOp op [a] pos) (tE X.K W fa)):=⟨L2.pe_one h.p⟩
theorem zk (ha:Q (PE X a (tE X.K W fa))) (hb:Q (PE X (.BoolOp .And (b::es) pos) (tE X.K W fb))):Q (PE X (.BoolOp .And (a::b::es) pos) (tE X.K W (gz fa fb))):=⟨have ha:=ha.p;have hb:=hb.p;aY (BE ha hb) fun _ _ _=>Bb⟩
theorem Fz (hc:Q (PT X c (tT X.K W ga))) (ha:Q (PE X a (tE X.K W fa))) (hb:Q (PE X b (tE X.K W fb))):Q (PE X (.IfExp c a b pos) (tE X.K W (yG ga fa fb))):=⟨have hc:=hc.p;have ha:=ha.p;have hb:=hb.p;aY (uU hc ha hb) fun _ _ _=>DX⟩
theorem w_de_idx (ha:Q (PE X a (tE X.K W fa))) (hb:Q (PE X b (tE X.K W fb))) (hs:Dq b):Q (PE X (.Subscript a b pos) (tE X.K W (ah fa fb))):=⟨have ha:=ha.p;have hb:=hb.p;aY (pU Fd ha hb hs) fun _ _ _=>AY⟩
theorem ke (s:Sh) (h:Q (PA X es (tA X.K W fl))):Q (PE X (.List es pos) (tE X.K W (aU s fl))):=⟨have h:=h.p;aY (uS h) fun _ _ _=>xw⟩
theorem iu {x1} (h:Q (PA X es (tA X.K W fl))):Q (PE X (.Tuple es x1 pos) (tE X.K W (bE fl))):=⟨have h:=h.p;aY (uQ h) fun _ _ _=>AK⟩
theorem sM :Q (PA X [] (tA X.K W af)):=⟨T.da_nil ⟩
theorem jJ (ha:Q (PE X e (tE X.K W fa))) (hr:Q (PA X es (tA X.K W fl))) (hs:starEach (e::es) X.env=(false,eval e X.env)::starEach es X.env):Q (PA X (e::es) (tA X.K W (ab fa fl))):=⟨T.da_cons ha.p hr.p hs⟩
theorem Iu {scope:Scope} {x:Str} {px:Pos} {iter elt:Expr} {ifs:List Expr} {fi:FI} {fe:F1} {fc:FB} {vs' cs' lo' gs':List Nat} (S:Cp X N gl vs cs ls lo gs) (s:Sh) (i:Nat) (hx:N[i]?=some x) (h1:jf N i cs scope=true) (h2:j3 N gl vs' cs' [i] lo' gs' scope=true) (hi':Q (PI X (.Name x px) iter (tI X.K W fi))) (hc:sQ X N gl vs' cs' [i] lo' gs' fun Y=>Q (PF Y ifs (tT Y.K W0 fc))) (he:sQ X N gl vs' cs' [i] lo' gs' fun Y=>Q (PE Y elt (tE Y.K W0 fe))) (hs:∀x,foldedSetIterable iter X.env x=pure x):Q (PE X (.ListComp elt [⟨.Name x px,iter,ifs,0⟩] scope pos) (tE X.K W (aw s i fi fc fe))):=⟨T.co S s i hx h1 h2 hi'.p (fun Y S F=>(hc Y S F).p) (fun Y S F=>(he Y S F).p) hs⟩
theorem zp {scope:Scope} {x y:Str} {px pos' spos:Pos} {iter elt:Expr} {ifs:List Expr} {fi:FI} {fe:F1} {fc:FB} {vs' cs' lo' gs':List Nat} (S:Cp X N gl vs cs ls lo gs) (own:Bool) (j:Nat) (s:Sh) (i:Nat) (hy:N[j]?=some y) (hyl:lo.contains j=true) (hx:N[i]?=some x) (hsl:(pos'.line==pos.line)=true) (hsn:(scope.names.any fun (n,k)=>n==y&&(k==NameKind.local||k==NameKind.cell))=false) (h1:jf N i cs scope=true) (h2:j3 N gl vs' cs' [i] lo' gs' scope=true) (hi':Q (PI X (.Name x px) iter (tI X.K W fi))) (hc:sQ X N gl vs' cs' [i] lo' gs' fun Y=>Q (PF Y ifs (tT Y.K W0 fc))) (he:sQ X N gl vs' cs' [i] lo' gs' fun Y=>Q (PE Y elt (tE Y.K W0 fe))) (hs:∀x,foldedSetIterable iter X.env x=pure x):Q (PS X (.Assign [.Name y pos'] (.ListComp elt [⟨.Name x px,iter,ifs,0⟩] scope pos) spos) (tS X.K W (aB own j (aw s i fi fc fe)))):=⟨by
 have hi':=hi'.p
 have hc:=fun Y S F=>(hc Y S F).p
 have he:=fun Y S F=>(he Y S F).p
 have B:=fun cells C s₀ H₀ ex=>S.blk h2 cells C s₀ H₀ ex
 have L:=fun cells C s₀ H₀ ex=>(B cells C s₀ H₀ ex).loc i x hx (by simp)
 exact oK (X:=X) own j s i (Hq S h1) (by rw [S.hN];exact S.nd) hi' (fun cells C s₀ H₀ ex=>hc _ (B cells C s₀ H₀ ex) ⟨rfl,rfl,rfl,rfl,rfl,rfl⟩) (fun cells C s₀ H₀ ex=>he _ (B cells C s₀ H₀ ex) ⟨rfl,rfl,rfl,rfl,rfl,rfl⟩)
  (Ij S.kind (S.loo j y hy hyl) hsl hsn) (by rw [S.hN];exact hy) (S.loo j y hy hyl) S.calm (by rw [S.hN];exact hx) (fun cells C s₀ H₀ ex=>(L cells C s₀ H₀ ex).1) (fun cells C s₀ H₀ ex=>(L cells C s₀ H₀ ex).2) hs⟩
theorem tK (S:Cp X N gl vs cs ls lo gs) (j:Nat) (hj:gl[j]?=some ("len":Str)) (hg:gs.contains j=true) (hm:X.mg "len"=none) (ha:Q (PA X (e::es) (tA X.K W fl))) (he:starEach (e::es) X.env=(false,eval e X.env)::starEach es X.env) (hpl:(backTo pos (starEach es X.env)).any (·.1)=false):Q (PE X (.Call (.Name "len" p) (e::es) [] pos) (tE X.K W (bI bB fl))):=⟨have ha:=ha.p;vQ (call_len_seq.or kQ) Cq zT hm ha (S.g hj hg).1 (S.g hj hg).2.2 (S.g hj hg).2.1 he hpl⟩
theorem sL (S:Cp X N gl vs cs ls lo gs) (j:Nat) (hj:gl[j]?=some ("all":Str)) (hg:gs.contains j=true) (hm:X.mg "all"=none) (ha:Q (PA X (e::es) (tA X.K W fl))) (he:starEach (e::es) X.env=(false,eval e X.env)::starEach es X.env) (hpl:(backTo pos (starEach es X.env)).any (·.1)=false):Q (PE X (.Call (.Name "all" p) (e::es) [] pos) (tE X.K W (bI (cw false) fl))):=⟨have ha:=ha.p;vQ (sC S.calm) vx ET hm ha (S.g hj hg).1 (S.g hj hg).2.2 (S.g hj hg).2.1 he hpl⟩
theorem HY (S:Cp X N gl vs cs ls lo gs) (j:Nat) (hj:gl[j]?=some ("any":Str)) (hg:gs.contains j=true) (hm:X.mg "any"=none) (ha:Q (PA X (e::es) (tA X.K W fl))) (he:starEach (e::es) X.env=(false,eval e X.env)::starEach es X.env) (hpl:(backTo pos (starEach es X.env)).any (·.1)=false):Q (PE X (.Call (.Name "any" p) (e::es) [] pos) (tE X.K W (bI (cw true) fl))):=⟨have ha:=ha.p;vQ (sA S.calm) vx ER hm ha (S.g hj hg).1 (S.g hj hg).2.2 (S.g hj hg).2.1 he hpl⟩
theorem tL (S:Cp X N gl vs cs ls lo gs) (j:Nat) (hj:gl[j]?=some ("int":Str)) (hg:gs.contains j=true) (hm:X.mg "int"=none) (ha:Q (PA X (e::es) (tA X.K W fl))) (he:starEach (e::es) X.env=(false,eval e X.env)::starEach es X.env) (hpl:(backTo pos (starEach es X.env)).any (·.1)=false):Q (PE X (.Call (.Name "int" p) (e::es) [] pos) (tE X.K W (bI oG fl))):=⟨have ha:=ha.p;EG sy Cr EO hm ha (S.g hj hg).1 (S.g hj hg).2.2 (S.g hj hg).2.1 he hpl⟩
theorem w_cb_list (S:Cp X N gl vs cs ls lo gs) (j:Nat) (hj:gl[j]?=some ("list":Str)) (hg:gs.contains j=true) (hm:X.mg "list"=none) (ha:Q (PE X e (tE X.K W fa))) (hs:starEach [e] X.env=[(false,eval e X.env)]):Q (PE X (.Call (.Name "list" p) [e] [] pos) (tE X.K W (zf fa))):=⟨have ha:=ha.p;sg hm ha (S.g hj hg).1 hs⟩
theorem Iw {x:Str} {n:Nat} {den:List PySem.PyData->Res} (S:Cp X N gl vs cs ls lo gs) (j:Nat) (hj:gl[j]?=some x) (hg:gs.contains j=true) (C:wN X x n den) (ha:Q (PA X (e::es) (tA X.K W fl))) (he:starEach (e::es) X.env=(false,eval e X.env)::starEach es X.env) (hpl:(backTo pos (starEach es X.env)).any (·.1)=false):Q (PE X (.Call (.Name x p) (e::es) [] pos) (tE X.K W (ag n den fl))):=⟨T.cc S j hj hg C ha.p he hpl⟩
theorem lj {tg:Expr} (S:Cp X N gl vs cs ls lo gs) (j:Nat) (hj:gl[j]?=some ("range":Str)) (hg:gs.contains j=true) (hm:X.mg "range"=none) (ha:Q (PA X [a] (tA X.K W fl))) (hs:starEach [a] X.env=[(false,eval a X.env)]):Q (PI X tg (.Call (.Name "range" p) [a] [] pos) (tI X.K W (gQ fl))):=⟨have ha:=ha.p;EF hm ha (S.g hj hg).1 hs⟩
theorem zq {tg:Expr} (S:Cp X N gl vs cs ls lo gs) (j:Nat) (hj:gl[j]?=some ("range":Str)) (hg:gs.contains j=true) (hm:X.mg "range"=none) (ha:Q (PA X [a,b] (tA X.K W fl))) (hs:starEach [a,b] X.env=[(false,eval a X.env),(false,eval b X.env)]) (hs2:starEach [b] X.env=[(false,eval b X.env)]):Q (PI X tg (.Call (.Name "range" p) [a,b] [] pos) (tI X.K W (yr fl))):=⟨have ha:=ha.p;ED hm ha (S.g hj hg).1 hs hs2⟩
theorem w_di_seq {tg:Expr} (ha:Q (PE X a (tE X.K W fa))):Q (PI X tg a (tI X.K W (aL fa))):=⟨have ha:=ha.p;nC (Fn ha) fun _ _ _=>xB⟩
theorem Ir {op:CmpOp} {r:R2} {g:PySem.PyData->PySem.PyData->Option PySem.PyData} (k:Ck X op r g) (ha:Q (PE X a (tE X.K W fa))) (hb:Q (PE X b (tE X.K W fb))) (hm:behindInMarks op b=false):Q (PT X (.Compare a [op] [b] pos) (tT X.K W (aM ao (aA g fa fb)))):=⟨T.ct k ha.p hb.p hm⟩
theorem DE {op op':CmpOp} {r r':R2} {g g':PySem.PyData->PySem.PyData->Option PySem.PyData} (k:Ck X op r g) (k':Ck X op' r' g') (ha:Q (PE X a (tE X.K W fa))) (hb:Q (PE X b (tE X.K W fb))) (hc:Q (PE X c (tE X.K W fc))) (hm:lastMarks [op,op'] [b,c]=false):Q (PT X (.Compare a [op,op'] [b,c] pos) (tT X.K W (aM ao (sV g g' fa fb fc)))):=⟨have ha:=ha.p;have hb:=hb.p;have hc:=hc.p;vG k.o k.g k'.o k'.g ha hb hc hm⟩
theorem qy (ha:Q (PT X a (tT X.K W ga))):Q (PT X (.UnaryOp .Not a pos) (tT X.K W (dC ga))):=⟨have ha:=ha.p;qq (Bu ha) fun _ _ _=>xG⟩
theorem HW (ha:Q (PT X a (tT X.K W ga))):Q (PW X (.BoolOp .And [a] pos) (tT X.K W ga)):=⟨have ha:=ha.p;xJ ha⟩
theorem Af (ha:Q (PT X a (tT X.K W ga))):Q (PW X (.BoolOp .Or [a] pos) (tT X.K W ga)):=⟨have ha:=ha.p;Bs ha⟩
theorem Ia (ha:Q (PT X a (tT X.K W ga))) (hb:Q (PW X (.BoolOp .And (b::es) pos) (tT X.K W gb))):Q (PW X (.BoolOp .And (a::b::es) pos) (tT X.K W (gC ga gb))):=⟨have ha:=ha.p;have hb:=hb.p;zU (Bt ha hb) fun _ _ _=>xH⟩
theorem tj (ha:Q (PT X a (tT X.K W ga))) (hb:Q (PW X (.BoolOp .Or (b::es) pos) (tT X.K W gb))):Q (PW X (.BoolOp .Or (a::b::es) pos) (tT X.K W (jj ga gb))):=⟨have ha:=ha.p;have hb:=hb.p;zU (D7 ha hb) fun _ _ _=>A9⟩
theorem wt (h:Q (PW X a (tT X.K W ga))):Q (PT X a (tT X.K W ga)):=⟨L2.PW.pt h.p⟩
theorem jH (ha:Q (PE X a (tE X.K W fa))) (he:∀whole,isTrue a X.env whole=(do let v <-whole;standAt a.pos;holding [v] (truthy v))):Q (PT X a (tT X.K W (aM bG fa))):=⟨have ha:=ha.p;qq (lU ha he) fun _ _ _=>AL⟩
theorem eu :Q (PSs X [] (tS X.K W aG)):=⟨wa pP fun _ _ _=>xr⟩
theorem eY {st:Stmt} (h1:Q (PS X st (tS X.K W g1))):Q (PSs X [st] (tS X.K W g1)):=⟨have h1:=h1.p;zh h1⟩
theorem ba {st:Stmt} {rest:List Stmt} (h1:Q (PS X st (tS X.K W g1))) (h2:Q (PSs X rest (tS X.K W g2))):Q (PSs X (st::rest) (tS X.K W (ak g1 g2))):=⟨have h1:=h1.p;have h2:=h2.p;wa (qx h1 h2) fun _ _ _=>AN⟩
theorem tw (ha:Q (PE X a (tE X.K W fa))):Q (PS X (.Return (some a) pos) (tS X.K W (aF fa))):=⟨have ha:=ha.p;eo (Fe ha) fun _ _ _=>AQ⟩
theorem et {A B:List Stmt} (hc:Q (PT X c (tT X.K W ga))) (ha:Q (PSs X A (tS X.K W g1))) (hb:Q (PSs X B (tS X.K W g2))):Q (PS X (.If c A B pos) (tS X.K W (bW ga g1 g2))):=⟨have hc:=hc.p;have ha:=ha.p;have hb:=hb.p;eo (zE hc ha hb) fun _ _ _=>AX⟩
theorem wX (S:Cp X N gl vs cs ls lo gs) (i:Nat) {x:Str} {px:Pos} {iter:Expr} {body:List Stmt} {fi:FI} {g:FS} (hx:N[i]?=some x) (hl:ls.contains i=true) (hp:PassesOwn (model X.prog X.w) X.A X.env X.xe) (hi':Q (PI X (.Name x px) iter (tI X.K W fi))) (hb:Q (PSs X body (tS X.K W g))) (hs:∀x,foldedSetIterable iter X.env x=pure x):Q (PS X (.For (.Name x px) iter body [] pos) (tS X.K W (dA i fi g))):=⟨have hi':=hi'.p;have hb:=hb.p;CF i hp (by rw [S.hN];exact S.nd) hi' hb S.calm (by rw [S.hN];exact hx) (S.loc i x hx hl).1 (S.loc i x hx hl).2 hs⟩
theorem tG (S:Cp X N gl vs cs ls lo gs) (own:Bool) (i:Nat) {x:Str} {pos':Pos} (hi:N[i]?=some x) (hl:ls.contains i=true) (hs:swapsWith a (some (.Name x pos')) pos.line X.env=pure false) (ha:Q (PE X a (tE X.K W fa))):Q (PS X (.Assign [.Name x pos'] a pos) (tS X.K W (aB own i fa))):=⟨have ha:=ha.p;CD own i (by rw [S.hN];exact S.nd) ha (by rw [S.hN];exact hi) (S.loc i x hi hl).1 hs (S.loc i x hi hl).2⟩
theorem qA (S:Cp X N gl vs cs ls lo gs) (i:Nat) {x:Str} {px pos':Pos} (hi:N[i]?=some x) (hv:vs.contains i=true) (ha:Q (PE X a (tE X.K W fa))) (hb:Q (PE X b (tE X.K W fb))) (hs:swapsWithSole [.Subscript (.Name x px) b pos'] a pos.line X.env=pure false) (hw:swappedStores [.Subscript (.Name x px) b pos'] a X.env=pure none) (h1:(assignEach [.Subscript (.Name x px) b pos'] X.env).map (·.2)=[assign (.Subscript (.Name x px) b pos') X.env]) (has:∀v,assign (.Subscript (.Name x px) b pos') X.env v=(do
   let ov <-holding [v] (eval (.Name x px) X.env)
   let iv <-holding [v,ov] (eval b X.env)
   standAt pos'
   holding [v,ov,iv] (setItem ov iv v)
   release [v,ov,iv] [])):Q (PS X (.Assign [.Subscript (.Name x px) b pos'] a pos) (tS X.K W (fT i fa fb))):=⟨T.cs_setI S i hi hv ha.p hb.p hs hw h1 has⟩
theorem Ah (S:Cp X N gl vs cs ls lo gs) (i:Nat) {x:Str} {apos cpos:Pos} (hi:N[i]?=some x) (hv:vs.contains i=true) (ha:Q (PE X a (tE X.K W fa))) (hs:starEach [a] X.env=[(false,eval a X.env)]) (hbase:attributeBase (.Name x p) "append" X.env (eval (.Name x p) X.env)=eval (.Name x p) X.env) (hline:(apos.endLine==cpos.line)=true) (hfew:((backTo cpos (starEach [a] X.env)).all (fun x=>!x.1)&&(backToKw cpos (keywordEach [] X.env)).all (fun x=>x.1.isSome)
   && decide ([a].length+([]:List Keyword).length+(if ([]:List Keyword).isEmpty then 0 else 1)<30))=true) (hsw:swapsWith (.Call (.Attribute (.Name x p) "append" apos) [a] [] cpos) none pos.line X.env=pure false):Q (PS X (.Expr (.Call (.Attribute (.Name x p) "append" apos) [a] [] cpos) pos) (tS X.K W (eE i fa))):=⟨T.cs_append S i hi hv ha.p hs hbase hline hfew hsw⟩
theorem w_df_nil :Q (PF X [] (tT X.K W0 aI)):=⟨EW uP fun σ H Q h=>by
 obtain ⟨He,O,Fs,Γ,E,h⟩:=h;exact h H Fs (Same.refl _) E fun _ z=>.inl z⟩
theorem wC (h:Q (PT X c (tT X.K W0 ga))):Q (PF X [c] (tT X.K W0 ga)):=⟨have h:=h.p;uO h⟩
end
end TQ
namespace T
open PySem PySem.Spec L2
open PyProof.Rows hiding St
def sO:FS:=fun _=>.no
section
variable {X:Cx} {W:XW} {e:Expr} {fa:F1} {pos:Pos}
theorem ds_drop (ha:PE X e (tE X.K W fa)) (hs:swapsWith e none pos.line X.env=pure false):PS X (.Expr e pos) (tS X.K W (bq fa)):=eo (Fo ha hs) fun _ _ _=>xD
end
def wG:PySem.PyData->String
 | .none => "NoneType"
 | .bool _ => "bool"
 | .int _ => "int"
 | .str _ => "str"
 | .list _ => "list"
 | .tuple _ => "tuple"
 | .dict _ => "dict"
def mC (t c:String):Bool:=t==c||(t == "bool"&&c == "int")
def kinds:List String:=["bool", "int", "str", "list", "tuple"]
theorem yl {K:Fg} {c:String} (hc:c∈kinds):∀t∈["NoneType", "bool", "int", "str", "list", "tuple"],PySem.W.kitOne K (.type t) (.type c)=some (mC t c):=by
 intro t ht;unfold kinds at hc;simp only [mem_cons,not_mem_nil,or_false] at hc ht
 rcases hc with rfl | rfl | rfl | rfl | rfl<;>rcases ht with rfl | rfl | rfl | rfl | rfl | rfl<;>kernel_rfl
section
variable {X:Cx} {pins:List (Addr×Obj)} {σ:St} {H:Hp} {s:Shared} {A:Around} {E:Value->Shared->Prop} {Q:Value->Shared->Prop} {c:Value} {b:Bool}
theorem oE {x:V} {u:Value} {d:PySem.PyData} (I:Inv X pins σ H s) (rx:RelV x u) (r:Rep X.K H x d) (e:PySem.W.kitOne X.K (.type (wG d)) c=some b) (h:∀tk,Q (.bool b) { s with toks:=tk }) :
  wpAny (model X.prog X.w) A (call (.builtin "isinstance") [u,c]) Q E s:=by
 cases r with
 | non=>exact Ai I rx .non e h
 | bl y=>exact Ai I rx (.bl y) e h
 | int i=>exact Ai I rx (.int i) e h
 | str y=>exact Ai I rx (.str y) e h
 | @lst p vs ds hs hl q=>
  rcases hs with (z | ⟨o,z⟩) | ⟨o,its,n,hk,hc,hd,hz,_⟩
  ·exact Ai I rx (.lst z) e h
  ·exact Ai I rx (.frz z) e h
  ·cases (show u=Value.ref p from rx)
   exact PySem.W.kia_one PySem.W.kitx_list I.kIn ⟨o,I.kIn _ o hk,hc⟩ e nofun h
 | @tup p vs ds hs hl q=>
  rcases hs with (z | ⟨o,z⟩) | ⟨o,its,n,hk,hc,hd,hz,_⟩
  ·exact Ai I rx (.tup z) e h
  ·cases (show u=Value.ref p from rx)
   obtain ⟨_,_,_,n,p1,h1,h2,_⟩:=(show ObjOk X.prog X.w H s.heap p (.frz o (.tup vs)) from I.hok p _ z);exact PySem.W.kia_one PySem.W.kitx_tuple I.kIn ⟨p1,h1,h2⟩ e nofun h
  ·cases (show u=Value.ref p from rx)
   exact PySem.W.kia_one PySem.W.kitx_tuple I.kIn ⟨o,I.kIn _ o hk,hc⟩ e nofun h
end
def Bl (K:Fg) (c:String):List V->Hp->VK->Prop:=fun xs H Q=>∃x d,xs=[x,.ty c]/\Rep K H x d/\Q (.bl (mC (wG d) c)) H
theorem vT {X:Cx} {c:String} (hc:c∈kinds):CallR X (.builtin "isinstance") (Bl X.K c):=by
 intro pins s σ H xs us Q I rv h;obtain ⟨x,d,rfl,r,q⟩:=h;match us,rv with
 | [u,t],.cons r1 (.cons r2 .nil)=>
  cases (show t=Value.type c from r2)
  have ht:wG d∈["NoneType", "bool", "int", "str", "list", "tuple"]:=by cases r<;>simp [wG]
  exact oE I r1 r (yl hc _ ht) fun tk=>⟨.bl _,H,I.tok tk,rfl,q⟩
def vE (c:String) (fa:F1):F1:=aV fa fun p Γ=>.ok ⟨.leaf,.bool (mC (wG p.d) c)⟩ Γ
theorem AV {K:Fg} {W:XW} {σ:St} {H:Hp} {Q:VK} {fa:F1} {c:String} (h:tE K W (vE c fa) σ H Q):zx (Bl K c) (cH (tE K W fa) (cH (tC (.ty c)) gY)) σ H Q:=by
 show tE K W fa σ H fun x H1=>Bl K c [x,.ty c] H1 Q
 refine wz h fun He O Fs Γ1 p v H1 G Fs1 nd A w=>?_
 exact ⟨v,p.d,rfl,A.own.rep,Wants.scal w (.bl _) A.same A.env.dropL (fun a ha=>ha) nd fun a ha=>A.new a (mem_append_right _ ha)⟩
def qv (c:FB) (g:FS):Nat->Ev->fO
 | 0,_=>.no
 | n+1,Γ=>match c Γ with
  | .ok true Γ1=>(match g Γ1 with
   | .nx Γ2=>qv c g n Γ2
   | .ct Γ2=>qv c g n Γ2
   | .bk Γ2=>.nx Γ2
   | .rt p=>.rt p
   | .er e Γ2=>.er e Γ2
   | .no=>.no)
  | .ok false Γ1=>.nx Γ1
  | .er e Γ1=>.er e Γ1
  | .no=>.no
def nM (n:Nat) (c:FB) (g:FS):FS:=qv c g n
section
variable {K:Fg} {W:XW} {σ:St} {H:Hp} {Q:VK} {D:gh} {fa fb:F1} {fl:FL}
theorem ui {n:Nat} {c:FB} {g:FS} (h:tS K W (nM n c g) D σ H):Fj (tT K W c) (tS K W g) D σ H:=by
 obtain ⟨He,O,Fs,Γ,E,h⟩:=h;refine ⟨fun m σ' H'=>∃Γk Fk,EnvOk K He O Fk H' σ' Γk/\o7 K W He O D (qv c g m Γk),⟨n,Γ,Fs,E,h⟩,?_⟩
 rintro m σ' H' ⟨Γk,Fk,Ek,hw⟩
 cases m with
 | zero=>exact hw.elim
 | succ m=>
  refine ⟨He,O,Fk,Γk,Ek,?_⟩
  rw [qv] at hw
  cases e:c Γk with
  | er x Γ1=>rw [e] at hw;exact fun H2 Fs2 s E2=>hw σ' H2 Fs2 E2
  | no=>rw [e] at hw;exact hw
  | ok b Γ1=>
   rw [e] at hw;intro H2 Fs2 s2 E2 n2
   cases b with
   | false=>rw [if_neg Bool.false_ne_true];exact hw σ' H2 Fs2 E2
   | true=>
    rw [if_pos rfl];refine ⟨fun σ3 H3=>∃Γ3 F3,EnvOk K He O F3 H3 σ3 Γ3/\o7 K W He O D (qv c g m Γ3),fun σ3 H3 q=>⟨m,Nat.lt_succ_self _,q⟩,He,O,Fs2,Γ1,E2,?_⟩
    have hw:o7 K W He O D (match g Γ1 with | .nx Γ2=>qv c g m Γ2 | .ct Γ2=>qv c g m Γ2 | .bk Γ2=>.nx Γ2 | .rt p=>.rt p | .er e Γ2=>.er e Γ2 | .no=>.no):=hw
    cases eb:g Γ1 with
    | nx Γ'=>rw [eb] at hw;exact fun σ2 H2 F2 E2=>⟨Γ',F2,E2,hw⟩
    | ct Γ'=>rw [eb] at hw;exact fun σ2 H2 F2 E2=>⟨Γ',F2,E2,hw⟩
    | bk Γ'=>rw [eb] at hw;exact fun σ2 H2 F2 E2=>hw σ2 H2 F2 E2
    | rt p=>rw [eb] at hw;exact fun u H2 G r=>hw u H2 G r
    | er x Γ'=>rw [eb] at hw;exact fun σ2 H2 F2 E2=>hw σ2 H2 F2 E2
    | no=>rw [eb] at hw;exact hw
theorem EnvOk.chgF {He:Hp} {O:List Addr} {Fs:List (List Addr)} {Γ:Ev} {i:Nat} {ds:List PySem.PyData} (E:EnvOk K He O Fs H σ Γ) (h:Γ[i]?=some (some ⟨.lst .leaf,.list ds⟩)) :
  ∃l vs,σ[i]?=some (some (.ref l))/\H l=some (.lst vs)/\vs.length=ds.length/\(∀(j:Nat) u d,vs[j]?=some u->ds[j]?=some d->Rep K (bX H (O++Fs.flatten)) u d) /\
   ∀(vs':List V) (ds':List PySem.PyData),vs'.length=ds'.length->(∀(j:Nat) u d,vs'[j]?=some u->ds'[j]?=some d->Rep K (bX H (O++Fs.flatten)) u d)->EnvOk K He O Fs (bx H l (.lst vs')) σ (Γ.set i (some ⟨.lst .leaf,.list ds'⟩)):=by
 obtain ⟨hv,v,F,h1,E1,o1,sub⟩:=E.move h;have hi:i<Γ.length:=(List.getElem?_eq_some_iff.mp h).1
 obtain ⟨_,v0,F0,h10,h20,o0⟩:=E.slot i _ h;obtain ⟨l,vs,rfl,rfl,hp,hl,hr⟩:=o1.leaves;obtain ⟨l',vs',e0,e1,hp',hl',hr'⟩:=o0.leaves;rw [h1] at h10
 cases h10
 cases e0;rw [hp] at hp'
 cases hp'
 refine ⟨l,vs,h1,hp,hl,hr',fun ws ds' hw q=>?_⟩
 have hlF:l∈Fs.flatten:=sub l (mem_append_left _ (List.mem_singleton.mpr rfl))
 have hHe:He l=none:=E.fresh l hlF
 have E4:=E1.mutO (o:=.lst ws) (mem_append_left _ (List.mem_singleton.mpr rfl)) hp hHe
 have ownL:Own K ([l]++O++(Fs.set i []).flatten) (bx H l (.lst ws)) (.lst .leaf) [l] (.ref l) (.list ds'):=by
  refine Own.mkLeaves dQ hw fun j u d a1 a2=>?_
  rw [GV (mem_append_left _ (mem_append_left _ (List.mem_singleton.mpr rfl)))];refine (q j u d a1 a2).mono (qw (Same.refl _) fun a ha=>.inl ?_)
  rcases List.mem_append.mp ha with z | z
  ·rcases List.mem_append.mp z with z | z
   ·rw [List.mem_singleton.mp z];exact mem_append_right _ hlF
   ·exact mem_append_left _ z
  ·exact mem_append_right _ (sub a (mem_append_right _ z))
 have fin:=EnvOk.put (i:=i) (p:=⟨.lst .leaf,.list ds'⟩) (v:=.ref l) E4 ownL rfl (fun a ha=>by rw [List.mem_singleton.mp ha];exact hHe) (by rw [length_set];exact hi)
 rw [set_set,set_set,zj h1] at fin;rw [e1] at h20;rw [zj h20] at fin;exact fin
end
def uz (K:Fg):List V->Hp->VK->Prop:=fun xs H Q=>∃(p:Addr) (ns:List Int),xs=[.ref p]/\SqL K H p (ns.map V.int)/\ns.length<64/\∀l,H l=none->Q (.ref l) (bx H l (.lst ((PySem.W.sortI ns).map V.int)))
theorem GW:∀{ns:List Int} {us:List Value},Vals (ns.map V.int) us->IntsAre us ns
 | [],_,.nil=>.nil
 | n::ns,_,.cons r t=>by
  obtain ⟨tk,rfl⟩:=(show ∃t,_=Value.int n t from r)
  exact .cons _ _ (GW t)
theorem HG:∀{ns:List Int} {us:List Value},IntsAre us ns->Vals (ns.map V.int) us
 | _,_,.nil=>.nil
 | _,_,.cons _ _ t=>.cons ⟨_,rfl⟩ (HG t)
theorem oX {X:Cx}:CallR X (.builtin "sorted") (uz X.K):=by
 intro pins s σ H xs us Q I rv h;obtain ⟨p,ns,rfl,hS,h64,q⟩:=h;obtain ⟨u,rfl,ru⟩:=rv.one
 cases ru;obtain ⟨its,r,pl,hz⟩:=I.list hS;have hI:=GW r
 have hl:its.length=ns.length:=by rw [<-r.length,length_map]
 refine sorted_ints pl.isList hI (by omega) fun out ns' a1 a2 a3=>?_
 have e:=PySem.W.eq_sortI a2 a3
 subst e;obtain ⟨n,ho⟩:=sortedAll_at s.heap its out;have hlen:(PySem.W.sortI ns).length=ns.length:=(PySem.W.sortI_perm ns).length_eq
 have hb:=jP (n:=ns.length) (by omega)
 refine ⟨.ref (s.heap.objs.size+1),bx H (s.heap.objs.size+1) (.lst ((PySem.W.sortI ns).map V.int)),I.laid (t':=s.toks) (fun b o e=>sortedAll_old e) (Nat.le_succ _) ⟨by rw [length_map,hlen];omega,out.toList,n,HG a1,by simpa [seqObj] using ho⟩,rfl,q _ (I.hok.fresh (Nat.le_succ _))⟩
theorem pf:∀{xs:List V} {us:List Value},xs.length=us.length->(∀(i:Nat) x u,xs[i]?=some x->us[i]?=some u->RelV x u)->Vals xs us
 | [],[],_,_=>.nil
 | x::xs,u::us,hl,h=>.cons (h 0 x u rfl rfl) (pf (by simpa using hl) fun i x u a b=>h (i+1) x u (by simpa using a) (by simpa using b))
 | [],_::_,hl,_=>by simp at hl
 | _::_,[],hl,_=>by simp at hl
def JW (ta:TA):TE:=fun σ H Q=>ta σ H fun vs H1=>∃j:Int,vs=[.int j]/\-(2 ^ 62)<=j/\j<=sizeLine/\∀l,H1 l=none->Q (.ref l) (bx H1 l (.lst (fj 0 j.toNat)))
theorem kx {X:Cx} {a:Expr} {ta:TA} {p p2 pos pos2:Pos} (hg:Gl X "list") (hm:X.mg "list"=none) (hg2:Gl X "range") (hm2:X.mg "range"=none) (hc:X.calm=true) (ha:PA X [a] ta) (hs:starEach [a] X.env=[(false,eval a X.env)])
  (hs1:starEach [.Call (.Name "range" p2) [a] [] pos2] X.env=[(false,eval (.Call (.Name "range" p2) [a] [] pos2) X.env)]):PE X (.Call (.Name "list" p) [.Call (.Name "range" p2) [a] [] pos2] [] pos) (JW ta):=by
 intro pins s σ H Q I h;refine Call_ (wu I hg hm vU (PyProof.Rows.callWith_type1 ?_ hs1 rfl))
 rw [hs1];show wpAny _ _ (spliced ((false,eval (.Call (.Name "range" p2) [a] [] pos2) X.env)::[])) _ _ s
 refine Calls.spliced_cons (Call_ (wu I hg2 hm2 boot_range (PyProof.Rows.callWith_type1 (bw (ha pos2 pins s σ H _ I h) fun us s1 ⟨vs,H1,I1,r1,q1⟩=>?_) hs rfl)))
 obtain ⟨j,e,q1,q2,q⟩:=q1;subst e;obtain ⟨u,rfl,ru⟩:=r1.one;obtain ⟨t,rfl⟩:=(show ∃t,u=Value.int j t from ru)
 refine call_range_1 (Calls.spliced_nil ?_)
 have hz:(sizeLine:Int)<2 ^ 62:=by decide
 refine call_list_range (n:=j.toNat) (I.ok.hd hc) (IsRange.new ..) (small_one (by omega) (by omega) q1 (by omega)) (by rw [rangeSize_one];split<;>omega) (by have:(sizeLine:Nat)=2 ^ 24:=rfl;omega) fun h' tk acc' c' hk ho hacc=>?_
 have I2:Inv X pins σ H1 { s1 with heap:=s1.heap.push { cls:=.type "range",data:=.fields #[.int 0 s1.toks,.int j t,.int 1 (s1.toks+1)] },toks:=s1.toks+1+1 }:=I1.kept fun b o e=>Heap.get?_push_of_some _ e
 have hv:Vals (fj 0 j.toNat) acc'.toList:=by
  refine pf (by have:=hacc.1;simp only [Array.length_toList,fj,length_map,length_range];omega) fun i x u e1 e2=>?_
  obtain ⟨t2,rfl⟩:=hacc.2 i u (by rw [<-Array.getElem?_toList];exact e2)
  unfold fj at e1;rw [getElem?_map] at e1
  cases e3:(List.range j.toNat)[i]? with
  | none=>rw [e3] at e1;cases e1
  | some k=>
   rw [e3] at e1;obtain ⟨k1,k2⟩:=List.getElem?_eq_some_iff.mp e3
   simp at k2
   subst k2
   cases e1;exact ⟨t2,by simp⟩
 refine ⟨.ref _,bx H1 _ (.lst (fj 0 j.toNat)),I2.laid (t':=tk) (fun b o e=>hk b o e) (Nat.le_refl _) ⟨?_,acc'.toList,c',hv,by simpa using ho⟩,rfl,q _ (I2.hok.fresh (Nat.le_refl _))⟩
 simp only [fj,length_map,length_range]
 omega
section
variable {K:Fg} {W:XW} {σ:St} {H:Hp} {Q:VK} {fa:F1} {fl:FL}
theorem AftL.newSc {He:Hp} {O:List Addr} {Fs Gs Fs1:List (List Addr)} {Γ1:Ev} {ps:List PV} {us:List V} {H1:Hp} {l:Addr} {vs:List V} {ds:List PySem.PyData} (A:AftL K He O Fs H σ Γ1 ps us H1 Gs Fs1) (nd:O.Nodup) (hl:H1 l=none) (hv:vs.length=ds.length) (hs:∀(i:Nat) v d,vs[i]?=some v->ds[i]?=some d->Sc v d) :
  Aft K He O Fs H σ Γ1 ⟨.lst .leaf,.list ds⟩ (.ref l) (bx H1 l (.lst vs)) [l] Fs1:=by
 refine ⟨A.same.trans (gG hl),A.env.dropL.hide (gG hl) (by simp) (by simpa using hl) (fun a ha=>by rw [List.mem_singleton.mp ha,dQ];exact Option.some_ne_none _),fun a ha=>?_,?_⟩
 ·rcases List.mem_append.mp ha with z | z
  ·rw [List.mem_singleton.mp z];exact .inr (A.same.free hl)
  ·exact A.new a (mem_append_right _ z)
 ·exact Own.mkLeaves dQ hv fun j u d e1 e2=>(hs j u d e1 e2).rep
def yF (fl:FL):F1:=fun Γ=>(fl Γ).bind fun ps Γ'=>match jt (ps.map (·.d)) with
 | some j=>if j<=sizeLine then .ok ⟨.lst .leaf,.list (cg 0 j.toNat)⟩ Γ' else .no
 | none=>.no
theorem DY (h:tE K W (yF fl) σ H Q):JW (tA K W fl) σ H Q:=by
 obtain ⟨He,O,Fs,Γ,E,h⟩:=h;refine ⟨He,O,Fs,Γ,E,?_⟩
 unfold yF at h
 cases e:fl Γ with
 | er c Γ'=>rw [e] at h;exact h
 | no=>rw [e] at h;exact h
 | ok ps Γ1=>
  rw [e] at h;intro vs H1 Gs Fs1 A;have h:Wants K W He O Fs H σ Q (match jt (ps.map (·.d)) with | some j=>if j<=sizeLine then .ok ⟨.lst .leaf,.list (cg 0 j.toNat)⟩ Γ1 else .no | none=>.no):=h
  cases er:jt (ps.map (·.d)) with
  | none=>rw [er] at h;exact h.elim
  | some j=>
   rw [er] at h;obtain ⟨e1,e2,e3⟩:=pG er;have r:=A.reps
   rw [e1] at r;have h:Wants K W He O Fs H σ Q (if j<=sizeLine then .ok ⟨.lst .leaf,.list (cg 0 j.toNat)⟩ Γ1 else .no):=h
   by_cases hj:j<=sizeLine
   ·rw [if_pos hj] at h
    have hv:vs=[.int j]:=by
     have hl:=r.1
     match vs,hl with
     | [v],_=>
      have q:=r.2 0 v (.int j) rfl rfl
      cases q;rfl
    refine ⟨j,hv,e2,hj,fun l hl=>h _ _ _ _ (A.newSc E.ndO hl (by simp [fj,cg]) fun i v d a1 a2=>?_)⟩
    have q:=Hy (K:=K) (H:=H1) (lo:=0) (n:=j.toNat)
    refine (q.2 i v d a1 a2).sc ?_
    unfold cg at a2;rw [getElem?_map] at a2
    cases e3:(List.range j.toNat)[i]? with
    | none=>rw [e3] at a2;cases a2
    | some k=>rw [e3] at a2;cases a2;rfl
   ·rw [if_neg hj] at h;exact h.elim
def sI:List PySem.PyData->Option (List Int)
 | []=>some []
 | .int i::r=>(sI r).map (i :: ·)
 | _=>none
theorem HQ:∀{ds:List PySem.PyData} {ns:List Int},sI ds=some ns->ds=ns.map .int
 | [],ns,h=>by cases h;rfl
 | .int i::r,ns,h=>by
  unfold sI at h
  cases e:sI r with
  | none=>rw [e] at h;cases h
  | some ms=>rw [e] at h;cases h;rw [HQ e];rfl
 | .none::_,_,h=>by cases h
 | .bool _::_,_,h=>by cases h
 | .str _::_,_,h=>by cases h
 | .list _::_,_,h=>by cases h
 | .tuple _::_,_,h=>by cases h
 | .dict _::_,_,h=>by cases h
end
theorem Inv.turnedL {X:Cx} {pins:List (Addr×Obj)} {σ:St} {H:Hp} {s:Shared} {h':Heap} {t':Nat} {fp:List Addr} (I:L2.Inv X pins σ H s) (k:∀b o,b∉fp->s.heap.get? b=some o->h'.get? b=some o) (hf:∀b∈fp,jG X pins H b):L2.Inv X pins σ H { s with heap:=h',toks:=t' }:=by
 have nit:∀b u,H b=some u->b∉fp:=fun b u e z=>by have:=(hf b z).1;rw [e] at this;cases this
 have hL:X.env.locals∉fp:=fun z=>(hf _ z).2.1 rfl
 refine I.step (g':=s.gens) (d':=s.drawn) (ch:=fp) (fun b hb=>?_) (fun b o _ _ hc e _=>k b o hc e) (fun b o _ _ hc e _=>⟨o.slots,k b o hc e⟩) (fun _ _ _ _ n=>n)
  (fun b o hc e=>⟨o,k b o hc e⟩) (fun _ _ e=>e) (fun _ _ _ e=>e) (fun b ps e=>⟨#[],by rw [e];simp⟩) (fun m hm=>?_) (fun b u e=>?_) I.bare
 ·obtain ⟨f0,f1,f2,f3,f4,f5⟩:=hf b hb
  exact ⟨f3,f1,f4,f5⟩
 ·obtain ⟨o,es,ep,ho,r⟩:=hm
  exact ⟨o,es,ep,k _ o hL ho,r⟩
 ·refine (I.hok b u e).stay (fun c v hc q=>k c v ?_ q) (fun _ q=>q) fun _ _ q=>q
  rcases hc with z | z
  ·rw [z];exact nit b u e
  ·exact nit c _ z
theorem Inv.turnedT {X:Cx} {pins:List (Addr×Obj)} {σ:St} {H:Hp} {s:Shared} {h':Heap} {t':Nat} {fp:List Addr} {T:Addr} {xs:List V} (I:L2.Inv X pins σ H s) (k:∀b o,b∉fp->s.heap.get? b=some o->h'.get? b=some o) (hf:∀b∈fp,jG X pins H b) (hT:s.heap.objs.size<=T)
  (new:ObjOk X.prog X.w (bx H T (.tup xs)) h' T (.tup xs)):L2.Inv X pins σ (bx H T (.tup xs)) { s with heap:=h',toks:=t' }:=by
 have hTn:H T=none:=I.hok.fresh hT
 have nit:∀b u,H b=some u->b∉fp:=fun b u e z=>by have:=(hf b z).1;rw [e] at this;cases this
 have up:∀b u,H b=some u->bx H T (.tup xs) b=some u:=fun b u e=>by rw [cQ (kf e hTn)];exact e
 have hL:X.env.locals∉fp:=fun z=>(hf _ z).2.1 rfl
 refine I.step (g':=s.gens) (d':=s.drawn) (ch:=fp) (fun b hb=>?_) (fun b o _ _ hc e _=>k b o hc e) (fun b o _ _ hc e _=>⟨o.slots,k b o hc e⟩) (fun b o _ e n=>by rw [cQ (Nat.ne_of_lt (Nat.lt_of_lt_of_le (Heap.lt_size e) hT))];exact n)
  (fun b o hc e=>⟨o,k b o hc e⟩) (fun b _ e=>up b _ e) (fun b _ _ e=>up b _ e) (fun b ps e=>⟨#[],by rw [up b _ e];simp⟩) (fun m hm=>?_) (fun b u e=>?_) I.bare
 ·obtain ⟨f0,f1,f2,f3,f4,f5⟩:=hf b hb
  exact ⟨f3,f1,f4,f5⟩
 ·obtain ⟨o,es,ep,ho,r⟩:=hm
  exact ⟨o,es,ep,k _ o hL ho,r⟩
 ·by_cases hb:b=T
  ·subst hb
   rw [dQ] at e
   cases e;exact new
  ·rw [cQ hb] at e
   refine (I.hok b u e).stay (fun c v hc q=>k c v ?_ q) (fun c q=>up c _ q) fun c _ q=>up c _ q
   rcases hc with z | z
   ·rw [z];exact nit b u e
   ·exact nit c _ z
def JL (K:Fg) (a:Addr):It:=
 ⟨fun i H=>∃xs x,SqL K H a xs/\xs[i]?=some x,fun i H x H'=>∃T v,x=.ref T/\H T=none/\H'=bx H T (.tup [.int i,v])/\∀xs,SqL K H a xs->xs[i]?=some v,fun i H=>∃xs,SqL K H a xs/\xs.length<=i⟩
theorem qG {P:Program} {w:World} {K:Fg} {elts:List Expr} {k:Nat} {pos:Pos} (a e it:Addr) (hei:e≠it) (hae:a≠e) (hai:a≠it) :
  sG P w K (.Tuple elts k pos) (JL K a) [e,it] e (fun i h=>(∃old,IsEnum h e it i old)/\h.IsListIter it a i) where
 mem:=by simp
 obj:=fun i h st b hb=>by
  obtain ⟨⟨old,he⟩,o,e1,c,d⟩:=st;simp only [mem_cons,not_mem_nil,or_false] at hb
  rcases hb with rfl | rfl
  ·exact ⟨_,he,fun v z=>by
    have z':Data.fields _=Data.cell v:=z
    cases z'⟩
  ·exact ⟨o,e1,fun v z=>by rw [d] at z;cases z⟩
 keep:=fun i h h' st kk=>by
  obtain ⟨⟨old,he⟩,hit⟩:=st;exact ⟨⟨old,kk e (by simp) _ he⟩,hit.at fun o q=>kk it (by simp) o q⟩
 item:=by
  intro X hP hw hK hc i pins s σ H E I hf st hg;subst hP hw hK;obtain ⟨xs,x,hq,hx⟩:=hg;obtain ⟨its,rv,p,hz⟩:=I.list hq;obtain ⟨u,hu,ru⟩:=rv.get hx;have W:=WalksT.enumerate (prog:=X.prog) (w:=X.w) (A:=X.A) (I.ok.hd hc) e it a hei hae hai its.toArray
  have hil:i<its.toArray.size:=by
   have:=(List.getElem?_eq_some_iff.mp hu).1
   simpa using this
  refine W.item i s _ _ hil ⟨st.1,st.2,p.isList⟩ fun T vals h' tk hv hT hTT hMid kk=>?_
  obtain ⟨t,y,hy,rfl⟩:=hv;have ey:y=u:=by
   rw [List.getElem?_toArray,hu] at hy;exact (Option.some.inj hy).symm
  subst ey;refine ⟨.ref T,rfl,W.go elts k pos i T _ _ _ hMid fun h2 st2 kk2=>?_⟩
  have hTn:H T=none:=I.hok.fresh hT
  have hTw:T∉[e,it]:=W.apart i T _ hMid
  have kAll:∀b o,b∉[e,it]->s.heap.get? b=some o->h2.get? b=some o:=fun b o hb q=>kk2 b o hb (kk b o hb q)
  have I1:L2.Inv X pins σ H { s with heap:=h2,toks:=tk }:=Inv.turnedL I kAll hf
  have tT:h2.IsTuple T #[.int i t,y]:=by
   obtain ⟨o,q1,q2⟩:=hTT;exact ⟨o,kk2 T o hTw q1,q2⟩
  have hvs:Vals [.int (i:Int),x] [.int i t,y]:=.cons (show RelV (.int (i:Int)) (.int i t) from ⟨t,rfl⟩) (.cons ru .nil)
  have I3:L2.Inv X pins σ (bx H T (.tup [.int i,x])) { s with heap:=h2,toks:=tk }:=Inv.turnedT (t':=tk) I kAll hf hT ⟨by show 2<=sizeLine;decide,[.int i t,y],hvs,(show IsTup h2 T _ from tT)⟩
  refine ⟨.ref T,bx H T (.tup [.int i,x]),I3,rfl,⟨T,x,rfl,hTn,rfl,fun ys hy=>by rw [I.list_inj hy hq];exact hx⟩,⟨st2.1,st2.2.1⟩,fun b hb=>?_⟩
  have hbT:b≠T:=fun z=>by rw [z] at hb;exact hTw hb
  rw [cQ hbT];exact (hf b hb).1
 done:=by
  intro X hP hw hK hc i pins s σ H E I hf st hg;subst hP hw hK;obtain ⟨xs,hq,hx⟩:=hg;obtain ⟨its,rv,p,hz⟩:=I.list hq;have hl:=rv.length
  obtain ⟨⟨old,he⟩,hit⟩:=st;refine wpAny_pyNext_enum_end (I.ok.hd hc) he hit p.isList (Array.getElem?_eq_none (by simp;omega)) fun h' hk=>⟨rfl,Inv.turnedL (t':=s.toks) I (fun b o hb q=>hk b o (fun z=>hb (by simp [z])) q) hf⟩
 self:=fun _ _ _ _ _ st h=>by
  obtain ⟨⟨old,he⟩,hit⟩:=st;exact wpAny_pyIter_enum he h
def vp (K:Fg) (ta:TA):TI:=fun σ H R=>ta σ H fun vs H1=>∃a,vs=[.ref a]/\(∃xs,SqL K H1 a xs)/\R (JL K a) H1
theorem pS {X:Cx} {elts:List Expr} {kt:Nat} {ptg:Pos} {l:Expr} {ta:TA} {p pos:Pos} (hg:Gl X "enumerate") (hm:X.mg "enumerate"=none) (ha:PA X [l] ta) (hs:starEach [l] X.env=[(false,eval l X.env)]) :
  PI X (.Tuple elts kt ptg) (.Call (.Name "enumerate" p) [l] [] pos) (vp X.K ta):=by
 intro pins s σ H R I h;refine Call_ (wu I hg hm boot_enumerate (PyProof.Rows.callWith_type1 (bw (ha pos pins s σ H _ I h) fun us s1 ⟨vs,H1,I1,r1,q1⟩=>?_) hs rfl))
 obtain ⟨a,e,⟨xs,hq⟩,q⟩:=q1;subst e;obtain ⟨u,rfl,ru⟩:=r1.one
 cases ru;obtain ⟨its,rv,pl,hz⟩:=I1.list hq;refine call_enumerate_list pl.isList fun h' he hit hsz hk=>?_
 have ha1:a<s1.heap.objs.size:=by
  obtain ⟨o,q1,_⟩:=pl.isList;exact Heap.lt_size q1
 refine wpAny_pyIter_enum (s:={ s1 with heap:=h' }) he ?_
 have I2:L2.Inv X pins σ H1 { s1 with heap:=h' }:=I1.kept (t':=s1.toks) hk
 refine ⟨s1.heap.objs.size+1,[s1.heap.objs.size+1,s1.heap.objs.size],_,JL X.K a,H1,rfl,I2,qG a _ _ (Nat.succ_ne_self _) (Nat.ne_of_lt (Nat.lt_succ_of_lt ha1)) (Nat.ne_of_lt ha1),⟨⟨_,he⟩,hit⟩,fun b hb=>?_,q⟩
 simp only [mem_cons,not_mem_nil,or_false] at hb
 have hb2:s1.heap.objs.size<=b:=by
  rcases hb with z | z
  ·rw [z];exact Nat.le_succ _
  ·rw [z];exact Nat.le_refl _
 have f:=I1.fpOk hb2 (I1.hok.fresh hb2)
 exact f
def sX (i j:Nat) (fc:FB) (fe:F1) (s:Sh):Nat->List PySem.PyData->Ev->List PySem.PyData->Out (List PySem.PyData)
 | _,[],Γ,acc=>.ok acc Γ
 | k,d::r,Γ,acc=>match fc ((Γ.set i (some ⟨.leaf,.int (k:Nat)⟩)).set j (some ⟨.leaf,d⟩)) with
  | .ok true Γ1=>(match fe Γ1 with
   | .ok p Γ2=>if T.coer s p&&decide (acc.length<sizeLine) then sX i j fc fe s (k+1) r ((Γ2.set i none).set j none) (acc++[p.d]) else .no
   | _=>.no)
  | .ok false Γ1=>if acc.length<sizeLine then sX i j fc fe s (k+1) r ((Γ1.set i none).set j none) acc else .no
  | _=>.no
def wo:Option (Option PV)->Bool
 | some none=>true
 | _=>false
def zY (s:Sh) (i j:Nat) (fa:F1) (fc:FB) (fe:F1):F1:=fun Γ=>(aL fa Γ).bind fun t Γ1=>if wo Γ1[i]?&&wo Γ1[j]?&&!s.isView then (match sX i j fc fe s 0 t.ds Γ1 [] with
 | .ok ds Γ2=>.ok ⟨.lst s,.list ds⟩ Γ2
 | _=>.no) else .no
theorem iV {o:Option (Option PV)} (h:wo o=true):o=some none:=by
 unfold wo at h;split at h
 ·rfl
 ·cases h
section
variable {K:Fg} {He H H1 H2:Hp} {O G:List Addr} {Fs Fs1 Fs2:List (List Addr)} {σ:St} {Γ Γ1 Γ2:Ev}
theorem ub {Γ:Ev} {i j m:Nat} {p:PV} (h:((Γ.set i none).set j none)[m]?=some (some p)):m≠i/\m≠j/\Γ[m]?=some (some p):=by
 obtain ⟨h1,h2⟩:=FO h;obtain ⟨h3,h4⟩:=FO h2;exact ⟨h3,h1,h4⟩
theorem EnvOk.forget2 {i j:Nat} {x y:Option V} (E:EnvOk K He O Fs H (((bc [i,j] σ).set i x).set j y) Γ):EnvOk K He O Fs H (bc [i,j] σ) ((Γ.set i none).set j none):=by
 refine ⟨by have:=E.len1;simpa using this,by have:=E.len2;simpa using this,E.same,E.nd,E.inH,E.fresh,fun m q hq=>?_⟩
 obtain ⟨h1,h2,h3⟩:=ub hq;obtain ⟨w1,v',F',e1,e2,e3⟩:=E.slot m q h3;rw [getElem?_set_ne (Ne.symm h2),getElem?_set_ne (Ne.symm h1)] at e1;exact ⟨w1,v',F',e1,e2,e3⟩
theorem EnvOk.blank2 {i j:Nat} (E:EnvOk K He O Fs H σ Γ) (hi:Γ[i]?=some none) (hj:Γ[j]?=some none):EnvOk K He O Fs H (bc [i,j] σ) Γ:=by
 refine ⟨by rw [zm];exact E.len1,E.len2,E.same,E.nd,E.inH,E.fresh,fun m q hq=>?_⟩
 obtain ⟨w1,v',F',e1,e2,e3⟩:=E.slot m q hq;refine ⟨w1,v',F',?_,e2,e3⟩
 rw [Ho (fun z=>?_)]
 ·exact e1
 ·simp only [mem_cons,not_mem_nil,or_false] at z
  rcases z with z | z
  ·rw [z,hi] at hq;cases hq
  ·rw [z,hj] at hq;cases hq
theorem EnvOk.unblank2 {i j:Nat} (E:EnvOk K He O Fs H (bc [i,j] σ) Γ):EnvOk K He O Fs H σ Γ:=by
 refine ⟨by have:=E.len1;rw [zm] at this;exact this,E.len2,E.same,E.nd,E.inH,E.fresh,fun m q hq=>?_⟩
 obtain ⟨w1,v',F',e1,e2,e3⟩:=E.slot m q hq;exact ⟨w1,v',F',(FA e1).2,e2,e3⟩
theorem mK {i:Nat} {a:Addr} (hi:i<Fs.length) (h:a∈(Fs.set i []).flatten):a∈Fs.flatten:=by
 have hF:Fs[i]?=some (Fs[i]'hi):=getElem?_eq_getElem _
 have:=(o9 (G:=[]) hF).mem_iff.mp (mem_append_right _ h)
 simpa using this
structure E9 (K:Fg) (He:Hp) (O:List Addr) (Fs1:List (List Addr)) (H1:Hp) (σ:St) (i j:Nat) (s:Sh) (A0:Addr) (n:Nat) (ys:List V) (H:Hp) (Γk:Ev) (Fk Gs:List (List Addr)) (acc:List PySem.PyData):Prop where
 env:EnvOk K He (A0::Gs.flatten++O) Fk H (bc [i,j] σ) Γk
 same:Same H1 H
 at_:H A0=some (.lst ys)
 new:∀a∈Gs.flatten++Fk.flatten,a∈Fs1.flatten\/H1 a=none
 l1:ys.length=acc.length
 l2:Gs.length=acc.length
 own:∀(m:Nat) v d G,ys[m]?=some v->acc[m]?=some d->Gs[m]?=some G->Own K (A0::Gs.flatten++O++Fk.flatten) H s G v d
 len:Γk.length=n
end
section
variable {K:Fg} {W:XW} {σ:St} {H:Hp} {Q:VK} {fa fe:F1} {fc:FB} {s:Sh} {i j:Nat}
theorem ur (hij:i≠j) (h:tE K W (zY s i j fa fc fe) σ H Q):fS [i,j] (vp K (tA K W (ab fa af))) (Cs K 2 (mI (bR i) (mI (bR j) Ct))) (tT K W0 fc) (tE K W0 fe) σ H Q:=by
 obtain ⟨He,O,Fs,Γ,E,h⟩:=h;refine Fi ⟨He,O,Fs,Γ,E,?_⟩
 unfold zY aL at h
 cases e:fa Γ with
 | er c Γ1=>rw [e] at h;exact h
 | no=>rw [e] at h;exact h
 | ok p Γ1=>
  rw [e] at h;intro v H1 G Fs1 A;obtain ⟨sp,d⟩:=p
  cases d with
  | list ds=>
   have h:Wants K W He O Fs H σ Q ((if dv ⟨sp,.list ds⟩ ds then Out.ok (⟨ds,!sp.isView⟩:JK) Γ1 else .no).bind fun t Γ1=>if wo Γ1[i]?&&wo Γ1[j]?&&!s.isView then (match sX i j fc fe s 0 t.ds Γ1 [] with | .ok ds Γ2=>.ok ⟨.lst s,.list ds⟩ Γ2 | _=>.no) else .no):=h
   cases hc:dv ⟨sp,.list ds⟩ ds with
   | false=>rw [hc] at h;exact h.elim
   | true=>
    rw [hc] at h;have h:Wants K W He O Fs H σ Q (if wo Γ1[i]?&&wo Γ1[j]?&&!s.isView then (match sX i j fc fe s 0 ds Γ1 [] with | .ok ds Γ2=>.ok ⟨.lst s,.list ds⟩ Γ2 | _=>.no) else .no):=h
    by_cases hn:(wo Γ1[i]?&&wo Γ1[j]?&&!s.isView)=true
    case neg=>rw [if_neg hn] at h;exact h.elim
    rw [if_pos hn] at h;simp only [Bool.and_eq_true,Bool.not_eq_true'] at hn
    obtain ⟨⟨hni,hnj⟩,hsv⟩:=hn;have hni:=iV hni
    have hnj:=iV hnj
    cases eg:sX i j fc fe s 0 ds Γ1 [] with
    | er c Γ'=>rw [eg] at h;exact h.elim
    | no=>rw [eg] at h;exact h.elim
    | ok ds' Γ2=>
     rw [eg] at h;have h:Wants K W He O Fs H σ Q (.ok ⟨.lst s,.list ds'⟩ Γ2):=h
     obtain ⟨p,vs,rfl,hq,hst,hr⟩:=A.own.items (O':=O++Fs1.flatten) hc kh A.disj
     have E1:=A.go
     have hlen:vs.length=ds.length:=hr.1
     have hi:i<Γ1.length:=(List.getElem?_eq_some_iff.mp hni).1
     have hj:j<Γ1.length:=(List.getElem?_eq_some_iff.mp hnj).1
     refine ⟨p,rfl,⟨vs,hq⟩,fun A0 hD=>?_⟩
     have hHeD:He A0=none:=E1.same.free hD
     have E0':EnvOk K He (A0::([]:List (List Addr)).flatten++O) Fs1 (bx H1 A0 (.lst [])) (bc [i,j] σ) Γ1:=
      (E1.blank2 hni hnj).hide (G:=[A0]) (gG hD) (by simp) (fun a ha=>by simp at ha;rw [ha];exact hD) (fun a ha=>by simp at ha;rw [ha,dQ];exact Option.some_ne_none _)
     refine ⟨fun k m ys H'=>m=vs.length-k/\k<=vs.length/\∃Γk Fk Gs acc,E9 K He O Fs1 H1 σ i j s A0 Γ1.length ys H' Γk Fk Gs acc/\sX i j fc fe s k (ds.drop k) Γk acc=.ok ds' Γ2,⟨vs.length,by simp,Nat.zero_le _,Γ1,Fs1,[],[],⟨E0',gG hD,dQ,fun a ha=>.inl (by simpa using ha),rfl,rfl,fun m v d G h1=>by simp at h1,rfl⟩,by simpa using eg⟩,?_⟩
     rintro k m ys H' ⟨rfl,hk,Γk,Fk,Gs,acc,g,eg'⟩
     refine ⟨g.at_,?_⟩
     have hPk:SqL K H' p vs:=g.same.seq hq
     by_cases hlt:k<vs.length
     case neg=>
      left
      have:ds.drop k=[]:=drop_eq_nil_of_le (by omega)
      rw [this] at eg';have eg'':(Out.ok acc Γk:Out (List PySem.PyData))=.ok ds' Γ2:=eg'
      injection eg'' with e1 e2
      subst e1;subst e2;refine ⟨⟨vs,hPk,by omega⟩,?_⟩
      obtain ⟨n1',_,n3'⟩:=List.nodup_append.mp g.env.ndO;refine h (.ref A0) H' (A0::Gs.flatten) Fk ⟨A.same.trans g.same,g.env.unblank2,fun a ha=>?_,?_⟩
      ·have up:a∈Fs1.flatten\/H1 a=none->a∈Fs.flatten\/H a=none:=fun z=>z.elim (fun y=>A.newF a y) fun y=>.inr (A.same.free y)
       rcases List.mem_append.mp ha with z | z
       ·rcases List.mem_cons.mp z with z | z
        ·exact up (.inr (by rw [z];exact hD))
        ·exact up (g.new a (mem_append_left _ z))
       ·exact up (g.new a (mem_append_right _ z))
      ·exact .lst hsv g.at_ g.l1 g.l2 n1' fun m v d G h1 h2 h3=>g.own m v d G h1 h2 h3
     case pos=>
      right
      have hv:vs[k]?=some vs[k]:=getElem?_eq_getElem hlt
      have hkd:k<ds.length:=by omega
      have hd:ds[k]?=some ds[k]:=getElem?_eq_getElem hkd
      have hdr:ds.drop k=ds[k]::ds.drop (k+1):=drop_eq_getElem_cons hkd
      rw [hdr] at eg';generalize hdk:ds[k]=d at hd eg'
      generalize hvk:vs[k]=v at hv
      simp only [sX] at eg'
      have hik:i<Γk.length:=by rw [g.len];exact hi
      have hjk:j<Γk.length:=by rw [g.len];exact hj
      have hsl:ys.length<sizeLine:=by
       rw [g.l1]
       cases ec:fc ((Γk.set i (some ⟨.leaf,.int (k:Nat)⟩)).set j (some ⟨.leaf,d⟩)) with
       | no=>rw [ec] at eg';cases eg'
       | er c Γ'=>rw [ec] at eg';cases eg'
       | ok b Γa=>
        rw [ec] at eg'
        cases b with
        | false=>
         dsimp only at eg'
         split at eg'
         ·assumption
         ·cases eg'
        | true=>
         dsimp only at eg'
         split at eg'
         ·split at eg'
          ·rename_i z
           simp only [Bool.and_eq_true,decide_eq_true_eq] at z
           exact z.2
          ·cases eg'
         ·cases eg'
      refine ⟨⟨vs,v,hPk,hv⟩,hsl,?_⟩
      rintro x Hx ⟨T,v',rfl,hTn,rfl,hv'⟩
      have ev:v'=v:=Option.some.inj ((hv' vs hPk).symm.trans hv)
      subst ev;refine ⟨T,[.int k,v'],rfl,.of dQ,rfl,.int k,[v'],rfl,v',[],rfl,rfl,?_⟩
      have sT:Same H' (bx H' T (.tup [.int k,v'])):=gG hTn
      have Eg:=g.env.grow sT
      have rep:Rep K (bX (bx H' T (.tup [.int k,v'])) (A0::Gs.flatten++O++Fk.flatten)) v' d:=(hr.2 k v' d hv hd).mono (qw (g.same.trans sT) fun a ha=>by
       rcases List.mem_append.mp ha with z | z
       ·rcases List.mem_append.mp z with z | z
        ·rcases List.mem_cons.mp z with z | z
         ·rw [z];exact .inr hD
         ·exact (g.new a (mem_append_left _ z)).elim (fun y=>.inl (mem_append_right _ y)) .inr
        ·exact .inl (mem_append_left _ z)
       ·exact (g.new a (mem_append_right _ z)).elim (fun y=>.inl (mem_append_right _ y)) .inr)
      have lF:Fk.length=Γk.length:=g.env.len2
      have Ep:=EnvOk.put (G:=[]) (i:=i) (p:=⟨.leaf,.int (k:Nat)⟩) (v:=.int k) Eg (.leaf (.int _)) rfl (fun a ha=>by simp at ha) hik
      have fk:∀a∈(Fk.set i []).flatten,a∈Fk.flatten:=fun a ha=>mK (by omega) ha
      have Eq:=EnvOk.put (G:=[]) (i:=j) (p:=⟨.leaf,d⟩) (v:=v') Ep (.leaf (rep.mono (qw (Same.refl _) fun a ha=>.inl (by
       rcases List.mem_append.mp ha with z | z
       ·exact mem_append_left _ z
       ·exact mem_append_right _ (fk a z))))) rfl (fun a ha=>by simp at ha) (by rw [length_set];exact hjk)
      have fkk:∀a∈((Fk.set i []).set j []).flatten,a∈Fk.flatten:=fun a ha=>fk a (mK (by rw [length_set];omega) ha)
      refine ⟨⟨by rw [length_set,length_set],fun m u hm=>?_⟩,?_⟩
      ·have:=(FA hm).1
       simp only [mem_cons,not_mem_nil,or_false,not_or] at this
       rw [getElem?_set_ne (Ne.symm this.2),getElem?_set_ne (Ne.symm this.1)];exact hm
      refine ⟨He,_,_,_,Eq,?_⟩
      cases ec:fc ((Γk.set i (some ⟨.leaf,.int (k:Nat)⟩)).set j (some ⟨.leaf,d⟩)) with
      | no=>rw [ec] at eg';cases eg'
      | er c Γ'=>rw [ec] at eg';cases eg'
      | ok b Γa=>
       rw [ec] at eg';intro H3 Fs3 s3' E3 n3
       have s3:Same H' H3:=sT.trans s3'
       have lena:Γa.length=Γ1.length:=by
        have:=E3.len1
        rw [length_set,length_set,zm,E1.len1] at this;exact this.symm
       have n3':∀a∈Fs3.flatten,a∈Fs1.flatten\/H1 a=none:=fun a ha=>(n3 a ha).elim (fun z=>g.new a (mem_append_right _ (fkk a z))) fun z=>.inr (g.same.free (sT.free z))
       have n3k:∀a∈Fs3.flatten,a∈Fk.flatten\/H' a=none:=fun a ha=>(n3 a ha).elim (fun z=>.inl (fkk a z)) fun z=>.inr (sT.free z)
       cases b with
       | false=>
        dsimp only at eg'
        split at eg'
        case isFalse=>cases eg'
        refine iU ⟨vs.length-(k+1),by omega,rfl,hlt,(Γa.set i none).set j none,Fs3,Gs,acc,⟨E3.forget2,g.same.trans s3,s3 _ _ g.at_,fun a ha=>?_,g.l1,g.l2,fun m v d G h1 h2 h3=>(g.own m v d G h1 h2 h3).mono s3 fun a ha=>?_,by rw [length_set,length_set];exact lena⟩,eg'⟩
        ·rcases List.mem_append.mp ha with z | z
         ·exact g.new a (mem_append_left _ z)
         ·exact n3' a z
        ·rcases List.mem_append.mp ha with z | z
         ·exact .inl (mem_append_left _ z)
         ·exact (n3k a z).elim (fun y=>.inl (mem_append_right _ y)) .inr
       | true=>
        refine iT ⟨He,_,_,_,E3,?_⟩
        dsimp only at eg'
        cases ee:fe Γa with
        | no=>rw [ee] at eg';cases eg'
        | er c Γ'=>rw [ee] at eg';cases eg'
        | ok p Γb=>
         rw [ee] at eg';dsimp only at eg'
         split at eg'
         case isFalse=>cases eg'
         rename_i hco;simp only [Bool.and_eq_true,decide_eq_true_eq] at hco
         obtain ⟨hco,_⟩:=hco;intro u H4 G Fs4 A4;have lenb:Γb.length=Γ1.length:=by
          have:=A4.env.len1
          rw [length_set,length_set,zm,E1.len1] at this;exact this.symm
         have at4:H4 A0=some (.lst ys):=A4.same _ _ (s3 _ _ g.at_)
         have s14:Same H1 H4:=(g.same.trans s3).trans A4.same
         have new4:∀a∈G++Fs4.flatten,a∈Fs1.flatten\/H1 a=none:=fun a ha=>(A4.new a ha).elim (n3' a) fun z=>.inr ((g.same.trans s3).free z)
         have hG':∀a∈aP s G,a∈G:=fun a ha=>HR ha
         obtain ⟨k1,k2,k3⟩:=List.nodup_append.mp A4.env.ndO;have ndk:(aP s G).Nodup:=by
          cases s<;>first | exact nodup_nil | exact k1
         have pmO:(A0::(Gs++[aP s G]).flatten++O).Perm (aP s G++(A0::Gs.flatten++O)):=by
          rw [wY];show (A0::((Gs.flatten++aP s G)++O)).Perm _
          refine List.Perm.trans ?_ List.perm_middle.symm
          refine List.Perm.cons _ ?_
          rw [append_assoc];exact lW _ _ _
         have E5:EnvOk K He (aP s G++(A0::Gs.flatten++O)) Fs4 H4 (((bc [i,j] σ).set i (some (.int k))).set j (some v')) Γb:=A4.env.drop (fun a ha=>by
          rcases List.mem_append.mp ha with z | z
          ·exact mem_append_left _ (hG' a z)
          ·exact mem_append_right _ z) (List.nodup_append.mpr ⟨ndk,k2,fun a ha b hb=>k3 a (hG' a ha) b hb⟩)
         have E6:=(E5.perm pmO).forget2
         have hDin:A0∈A0::(Gs++[aP s G]).flatten++O:=mem_cons_self
         have E7:=E6.mutO (o:=.lst (ys++[u])) hDin at4 hHeD
         have subH:∀a∈A0::(Gs++[aP s G]).flatten++O++Fs4.flatten,a∈G++(A0::Gs.flatten++O)++Fs4.flatten:=fun a ha=>by
          rcases List.mem_append.mp ha with z | z
          ·rcases List.mem_append.mp (pmO.mem_iff.mp z) with y | y
           ·exact mem_append_left _ (mem_append_left _ (hG' a y))
           ·exact mem_append_left _ (mem_append_right _ y)
          ·exact mem_append_right _ z
         have Dnot:∀{m:Nat} {Gj:List Addr},Gs[m]?=some Gj->A0∉Gj:=fun {m Gj} hj z=>by
          have nd:=g.env.ndO
          exact (List.nodup_cons.mp nd).1 (mem_append_left _ (nI hj z))
         refine ⟨at4,vs.length-(k+1),by omega,rfl,hlt,(Γb.set i none).set j none,Fs4,Gs++[aP s G],acc++[p.d],⟨E7,fun b o hb=>?_,dQ,fun a ha=>?_,by simp [g.l1],by simp [g.l2],fun m w d' G' h1 h2 h3=>?_,by rw [length_set,length_set];exact lenb⟩,eg'⟩
         ·rw [cQ (kf hb hD)]
          exact s14 b o hb
         ·rcases List.mem_append.mp ha with z | z
          ·rw [wY] at z
           rcases List.mem_append.mp z with z | z
           ·exact g.new a (mem_append_left _ z)
           ·exact new4 a (mem_append_left _ (hG' a z))
          ·exact new4 a (mem_append_right _ z)
         ·by_cases hm:m<ys.length
          ·rw [getElem?_append_left hm] at h1
           rw [getElem?_append_left (by rw [<-g.l1];exact hm)] at h2
           rw [getElem?_append_left (by rw [g.l2,<-g.l1];exact hm)] at h3
           have o1:=g.own m w d' G' h1 h2 h3
           have o2:=o1.mono (O':=A0::(Gs++[aP s G]).flatten++O++Fs4.flatten) (s3.trans A4.same) fun a ha=>by
            have up:a∈G++Fs4.flatten->a∈A0::Gs.flatten++O++Fk.flatten\/H' a=none:=fun z=>(A4.new a z).elim (fun y=>(n3k a y).elim (fun y=>.inl (mem_append_right _ y)) .inr) fun y=>.inr (s3.free y)
            rcases List.mem_append.mp (subH a ha) with z | z
            ·rcases List.mem_append.mp z with z | z
             ·exact up (mem_append_left _ z)
             ·exact .inl (mem_append_left _ z)
            ·exact up (mem_append_right _ z)
           exact o2.mut hsv (mem_append_left _ hDin) (Dnot h3) at4
          ·have hm':m=ys.length:=by
            have:=(List.getElem?_eq_some_iff.mp h1).1
            rw [length_append,length_singleton] at this;omega
           subst hm'
           rw [getElem?_append_right (Nat.le_refl _),Nat.sub_self] at h1;rw [getElem?_append_right (by rw [g.l1];exact Nat.le_refl _),show ys.length-acc.length=0 by rw [g.l1];exact Nat.sub_self _] at h2
           rw [getElem?_append_right (by rw [g.l2,g.l1];exact Nat.le_refl _),show ys.length-Gs.length=0 by rw [g.l2,g.l1];exact Nat.sub_self _] at h3
           cases h1
           cases h2
           cases h3;have o3:=A4.own.coer (s:=s) (O':=A0::(Gs++[aP s G]).flatten++O++Fs4.flatten) hco subH fun a ha hO=>by
            cases s with
            | leaf=>
             exfalso
             have hO':a∈(A0::Gs.flatten++O)++Fs4.flatten:=by
              rw [wY] at hO;simpa [aP] using hO
             rcases List.mem_append.mp hO' with z | z
             ·exact k3 a ha a z rfl
             ·have nd:=A4.env.nd
              exact (List.nodup_append.mp nd).2.2 a (mem_append_left _ ha) a z rfl
            | view=>cases hsv
            | lst s=>exact ha
            | tup ss=>exact ha
           refine o3.mut hsv (mem_append_left _ hDin) (fun z=>?_) at4
           exact k3 A0 (hG' A0 z) A0 mem_cons_self rfl
  | _=>exact h.elim
end
def Dm (N:List Str) (is:List Nat) (cs:List Nat) (sc:Scope):Bool:=
 decide (sc.kind=.function)&&(sc.names.all fun p=>!decide (p.2=.free)||cs.any fun j=>decide (N[j]?=some p.1)) &&
 ((List.range N.length).all fun j=>is.contains j||(sc.names.all fun p=>!decide (some p.1=N[j]?)||(!decide (p.2=.local)&&!decide (p.2=.cell)))) &&
 (sc.names.all fun p=>!decide (p.2=.local)||decide (sc.names.lookup p.1=some .local)) &&
 (sc.names.all fun p=>!decide (p.2=.free)||sc.names.all fun q=>!decide (q.1=p.1)||!decide (q.2=.cell))
theorem HJ {X:Cx} {N gl:List Str} {vs cs ls lo gs is:List Nat} {scope:Scope} (S:Cp X N gl vs cs ls lo gs) (h:Dm N is cs scope=true):dG X.N is X.env.scope scope:=by
 unfold Dm at h;simp only [Bool.and_eq_true,decide_eq_true_eq,all_eq_true,Bool.or_eq_true,Bool.not_eq_true',decide_eq_false_iff_not,any_eq_true,mem_range] at h
 obtain ⟨⟨⟨⟨h0,h1⟩,h2⟩,h3⟩,h4⟩:=h;refine ⟨h0,fun n hn=>?_,fun j x e hj=>?_,fun x hx e=>?_,fun n hn hc=>?_⟩
 ·rcases h1 _ hn with z | ⟨j,hj,e⟩
  ·exact absurd rfl z
  ·exact S.cel j n e (by simpa using hj)
 ·rw [S.hN] at e
  rcases h2 j (List.getElem?_eq_some_iff.mp e).1 with z | z
  ·simpa using z
  ·exfalso
   rcases hj with y | y
   ·rcases z _ y with w | w
    ·exact w e.symm
    ·exact w.1 rfl
   ·rcases z _ y with w | w
    ·exact w e.symm
    ·exact w.2 rfl
 ·rcases h3 x hx with z | z
  ·exact absurd e z
  ·exact z
 ·rcases h4 _ hn with z | z
  ·exact z rfl
  ·rcases z _ hc with w | w
   ·exact w rfl
   ·exact w rfl
end T
namespace TQ
open PySem PySem.Spec L2 T
open PyProof.Rows hiding St
section
variable {X:Cx} {N gl:List Str} {vs cs ls lo gs:List Nat} {W:XW} {a b c e:Expr} {es:List Expr} {pos p:Pos} {fa fb fc:F1} {fl:FL} {ga gb:FB} {g1 g2 g:FS}
theorem wq {st:Stmt}:Q (PS X st (tS X.K W sO)):=⟨fun pins s σ H D I h=>by
 obtain ⟨He,O,Fs,Γ,E,h⟩:=h;exact h.elim⟩
theorem nH (ha:Q (PE X e (tE X.K W fa))) (hs:swapsWith e none pos.line X.env=pure false):Q (PS X (.Expr e pos) (tS X.K W (bq fa))):=⟨T.ds_drop ha.p hs⟩
theorem lq {X:Cx} {N gl:List Str} {vs cs ls lo gs:List Nat} {W:XW} {a:Expr} {pos p p2:Pos} {fa:F1} {c:String} {x:Str} (S:Cp X N gl vs cs ls lo gs) (j k:Nat) (hj:gl[j]?=some ("isinstance":Str)) (hg:gs.contains j=true) (hk:gl[k]?=some x) (hg2:gs.contains k=true) (hc:kinds.contains c=true) (hv:bootBuiltins x=some (.type c)) (hm:X.mg "isinstance"=none) (hm2:X.mg x=none) (ha:Q (PE X a (tE X.K W fa))) (hs:starEach [a,.Name x p2] X.env=(false,eval a X.env)::starEach [.Name x p2] X.env) (hs2:starEach [.Name x p2] X.env=(false,eval (.Name x p2) X.env)::starEach [] X.env) (hpl:(backTo pos (starEach [.Name x p2] X.env)).any (·.1)=false):Q (PE X (.Call (.Name "isinstance" p) [a,.Name x p2] [] pos) (tE X.K W (vE c fa))):=⟨have ha:=ha.p;aY (FK (vT (by simpa using hc)) (S.g hj hg).1 hm kR (o8 ha (o8 (xV (v:=.ty c) (S.g hk hg2).1 hm2 hv rfl (S.g hk hg2).2.2 (S.g hk hg2).2.1) wx hs2) hs) (S.g hj hg).2.2 (S.g hj hg).2.1 hs hpl) fun _ _ _=>AV⟩
theorem eI {p2 pos2:Pos} (S:Cp X N gl vs cs ls lo gs) (j k:Nat) (hj:gl[j]?=some ("list":Str)) (hg:gs.contains j=true) (hm:X.mg "list"=none) (hk:gl[k]?=some ("range":Str)) (hg2:gs.contains k=true) (hm2:X.mg "range"=none) (ha:Q (PA X [a] (tA X.K W fl))) (hs:starEach [a] X.env=[(false,eval a X.env)]) (hs1:starEach [.Call (.Name "range" p2) [a] [] pos2] X.env=[(false,eval (.Call (.Name "range" p2) [a] [] pos2) X.env)]):Q (PE X (.Call (.Name "list" p) [.Call (.Name "range" p2) [a] [] pos2] [] pos) (tE X.K W (yF fl))):=⟨have ha:=ha.p;aY (kx (S.g hj hg).1 hm (S.g hk hg2).1 hm2 S.calm ha hs hs1) fun _ _ _=>DY⟩
theorem FR (n:Nat) {body:List Stmt} (hp:PassesOwn (model X.prog X.w) X.A X.env X.xe) (hc:Q (PT X c (tT X.K W ga))) (hb:Q (PSs X body (tS X.K W g))):Q (PS X (.While c body [] pos) (tS X.K W (nM n ga g))):=⟨have hc:=hc.p;have hb:=hb.p;eo (lV hp hc hb) fun _ _ _=>ui⟩
theorem DF {scope:Scope} {x y:Str} {px py pt cpos:Pos} {kt:Nat} {elt:Expr} {ifs:List Expr} {fe:F1} {fc:FB} {vs' cs' lo' gs':List Nat} (S:Cp X N gl vs cs ls lo gs) (s:Sh) (i j k:Nat) (hij:(i != j)=true) (hx:N[i]?=some x) (hy:N[j]?=some y) (hk:gl[k]?=some ("enumerate":Str)) (hg:gs.contains k=true) (hm:X.mg "enumerate"=none) (h1:Dm N [i,j] cs scope=true) (h2:j3 N gl vs' cs' [i,j] lo' gs' scope=true) (ha:Q (PE X a (tE X.K W fa))) (hs1:starEach [a] X.env=[(false,eval a X.env)]) (hc:sQ X N gl vs' cs' [i,j] lo' gs' fun Y=>Q (PF Y ifs (tT Y.K W0 fc))) (he:sQ X N gl vs' cs' [i,j] lo' gs' fun Y=>Q (PE Y elt (tE Y.K W0 fe))) (hs:∀x,foldedSetIterable (.Call (.Name "enumerate" p) [a] [] cpos) X.env x=pure x):Q (PE X (.ListComp elt [⟨.Tuple [.Name x px,.Name y py] kt pt,.Call (.Name "enumerate" p) [a] [] cpos,ifs,0⟩] scope pos) (tE X.K W (zY s i j fa fc fe))):=⟨by
 have ha:=ha.p
 have hc:=fun Y S F=>(hc Y S F).p
 have he:=fun Y S F=>(he Y S F).p
 have B:=fun cells C s₀ H₀ ex=>S.blk h2 cells C s₀ H₀ ex
 have L:=fun cells C s₀ H₀ ex=>(B cells C s₀ H₀ ex).loc i x hx (by simp)
 have L2':=fun cells C s₀ H₀ ex=>(B cells C s₀ H₀ ex).loc j y hy (by simp)
 have hN:X.N.Nodup:=by rw [S.hN];exact S.nd
 exact aY (G0 (HJ S h1) S.calm (pS (S.g hk hg).1 hm (da_cons ha da_nil hs1) hs1)
  (fun cells C s₀ H₀ ex=>uN (X:=blk X scope cells C s₀ H₀ ex) S.calm (FM (sY (X:=blk X scope cells C s₀ H₀ ex) (i:=i) hN (by show X.N[i]?=_;rw [S.hN];exact hx) (L cells C s₀ H₀ ex).1 (L cells C s₀ H₀ ex).2) (FM (sY (X:=blk X scope cells C s₀ H₀ ex) (i:=j) hN (by show X.N[j]?=_;rw [S.hN];exact hy) (L2' cells C s₀ H₀ ex).1 (L2' cells C s₀ H₀ ex).2) pT)))
  (fun cells C s₀ H₀ ex=>hc _ (B cells C s₀ H₀ ex) ⟨rfl,rfl,rfl,rfl,rfl,rfl⟩) (fun cells C s₀ H₀ ex=>he _ (B cells C s₀ H₀ ex) ⟨rfl,rfl,rfl,rfl,rfl,rfl⟩) hs) fun _ _ _=>ur (by simpa using hij)⟩
end
end TQ
namespace L2
open PySem PySem.Spec PyProof.Rows
section
variable {κ:Type} [DecidableEq κ]
def dy (kvs:List (κ×V)) (k:κ):Option V:=(kvs.find? fun kv=>decide (kv.1=k)).map (·.2)
def eB (kvs:List (κ×V)) (k:κ) (v:V):List (κ×V):=
 if (kvs.any fun kv=>decide (kv.1=k))=true then kvs.map (fun kv=>if kv.1=k then (kv.1,v) else kv) else kvs++[(k,v)]
theorem Dx {p:κ×V} {r:List (κ×V)} {k:κ} (e:p.1=k):dy (p::r) k=some p.2:=by simp [dy,find?_cons,e]
theorem Dw {p:κ×V} {r:List (κ×V)} {k:κ} (e:¬p.1=k):dy (p::r) k=dy r k:=by simp [dy,find?_cons,e]
theorem HD (k:κ):∀kvs:List (κ×V),(kvs.any fun kv=>decide (kv.1=k))=(dy kvs k).isSome
 | []=>rfl
 | p::r=>by
  rw [List.any_cons];by_cases e:p.1=k
  ·simp only [Dx e,decide_eq_true e,Bool.true_or,Option.isSome_some]
  ·rw [Dw e,decide_eq_false e,Bool.false_or];exact HD k r
theorem Il (kvs:List (κ×V)) (k:κ) (v:V):(eB kvs k v).length<=kvs.length+1:=by
 unfold eB;split
 ·rw [length_map];omega
 ·rw [length_append,length_cons,length_nil];omega
theorem lT {kvs:List (κ×V)} {k:κ} (v:V) (h:dy kvs k=none):eB kvs k v=kvs++[(k,v)]:=by
 unfold eB;rw [HD,h];exact if_neg (by decide)
theorem RelO.isSome_eq {o:Option V} {u:Option Value} (r:RelO o u):o.isSome=u.isSome:=by
 cases o with
 | none=>cases u with
  | none=>rfl
  | some _=>exact (show False from r).elim
 | some _=>cases u with
  | none=>exact (show False from r).elim
  | some _=>rfl
theorem KV.val {kvs:List (κ×V)} {vs:List (κ×Value)} (r:KV kvs vs) (k:κ):RelO (dy kvs k) (valueAt vs k):=by
 unfold KV at r;induction r with
 | nil=>exact True.intro
 | @cons p q ps qs h t ih=>
  obtain ⟨h1,h2⟩:=h;by_cases e:p.1=k
  ·have e':q.1=k:=h1.symm.trans e
   have b:valueAt (q::qs) k=some q.2:=by simp [valueAt,find?_cons,e']
   rw [Dx e,b];exact h2
  ·have e':¬q.1=k:=fun z=>e (h1.trans z)
   have b:valueAt (q::qs) k=valueAt qs k:=by simp [valueAt,find?_cons,e']
   rw [Dw e,b];exact ih
theorem KV.any {kvs:List (κ×V)} {vs:List (κ×Value)} (r:KV kvs vs) (k:κ):(kvs.any fun kv=>decide (kv.1=k))=vs.any fun kv=>decide (kv.1=k):=by
 unfold KV at r;induction r with
 | nil=>rfl
 | cons h t ih=>rw [List.any_cons,List.any_cons,ih,h.1]
theorem KV.repl {kvs:List (κ×V)} {vs:List (κ×Value)} (r:KV kvs vs) (k:κ) {y:V} {u:Value} (ry:RelV y u) :
  KV (kvs.map fun kv=>if kv.1=k then (kv.1,y) else kv) (vs.map fun kv=>if kv.1=k then (kv.1,u) else kv):=by
 unfold KV at r ⊢
 induction r with
 | nil=>exact .nil
 | @cons p q ps qs h t ih=>
  rw [map_cons,map_cons];refine .cons ?_ ih
  obtain ⟨h1,h2⟩:=h;by_cases e:p.1=k
  ·rw [if_pos e,if_pos (h1.symm.trans e)];exact ⟨h1,ry⟩
  ·rw [if_neg e,if_neg (fun z=>e (h1.trans z))];exact ⟨h1,h2⟩
theorem KV.put {kvs:List (κ×V)} {vs:List (κ×Value)} (r:KV kvs vs) (k:κ) {y:V} {u:Value} (ry:RelV y u):KV (eB kvs k y) (stored vs k u):=by
 unfold eB stored;rw [r.any k];by_cases e:(vs.any fun kv=>decide (kv.1=k))=true
 ·rw [if_pos e,if_pos e];exact r.repl k ry
 ·rw [if_neg e,if_neg e];exact Paired.snoc r ⟨rfl,ry⟩
theorem KV.length {kvs:List (κ×V)} {vs:List (κ×Value)} (r:KV kvs vs):kvs.length=vs.length:=Paired.length r
end
theorem jV {P:Program} {w:World} {k:bL} {u:Value} (r:RelV (kV k) u):(jI P w).is k u=true:=by
 cases k with
 | inl i=>obtain ⟨t,e⟩:=(show ∃t,u=Value.int i t from r);subst e;exact mr P w i t
 | inr x=>obtain ⟨t,e⟩:=(show ∃t,u=Value.str x t from r);subst e;exact mq P w x t
theorem jW {P:Program} {w:World}:∀{ks:List bL} {us:List Value},Vals (ks.map kV) us->ItemsAre (jI P w) ks us
 | [],_,r=>by rw [map_nil] at r;cases r;exact .nil
 | k::ks,_,r=>by
  rw [map_cons] at r
  cases r with
  | cons h t=>exact .cons (jV h) (jW t)
abbrev KT (H:Hp):List (List bL×V)->List (List bL×Addr×Value)->Prop:=Paired fun p q=>p.1=q.1/\H q.2.1=some (.tup (p.1.map kV))/\RelV p.2 q.2.2
theorem KT.val {H:Hp} {kvs:List (List bL×V)} {xs:List (List bL×Addr×Value)} (r:KT H kvs xs) (k:List bL):RelO (dy kvs k) ((atKey xs k).map (·.2)):=by
 induction r with
 | nil=>exact True.intro
 | @cons p q ps qs h t ih=>
  obtain ⟨h1,_,h2⟩:=h;by_cases e:p.1=k
  ·have e':q.1=k:=h1.symm.trans e
   have b:atKey (q::qs) k=some q.2:=by simp [atKey,find?_cons,e']
   rw [Dx e,b];exact h2
  ·have e':¬q.1=k:=fun z=>e (h1.trans z)
   have b:atKey (q::qs) k=atKey qs k:=by simp [atKey,find?_cons,e']
   rw [Dw e,b];exact ih
theorem KT.repl {H:Hp} {kvs:List (List bL×V)} {xs:List (List bL×Addr×Value)} (r:KT H kvs xs) (k:List bL) {y:V} {u:Value} (ry:RelV y u) :
  KT H (kvs.map fun kv=>if kv.1=k then (kv.1,y) else kv) (xs.map (putAt k u)):=by
 induction r with
 | nil=>exact .nil
 | @cons p q ps qs h t ih=>
  rw [map_cons,map_cons];refine .cons ?_ ih
  obtain ⟨h1,h2,h3⟩:=h;unfold putAt;by_cases e:p.1=k
  ·rw [if_pos e,if_pos (h1.symm.trans e)];exact ⟨h1,h2,ry⟩
  ·rw [if_neg e,if_neg (fun z=>e (h1.trans z))];exact ⟨h1,h2,h3⟩
theorem KT.put {H:Hp} {kvs:List (List bL×V)} {xs:List (List bL×Addr×Value)} (r:KT H kvs xs) (k:List bL) {b:Addr} {y:V} {u:Value} (hb:H b=some (.tup (k.map kV))) (ry:RelV y u) :
  KT H (eB kvs k y) (storedH xs k b u):=by
 have e:(kvs.any fun kv=>decide (kv.1=k))=(atKey xs k).isSome:=by
  rw [HD,(r.val k).isSome_eq,Option.isSome_map]
 unfold eB storedH;rw [e];by_cases q:(atKey xs k).isSome=true
 ·rw [if_pos q,if_pos q];exact r.repl k ry
 ·rw [if_neg q,if_neg q];exact Paired.snoc r ⟨rfl,hb,ry⟩
theorem KT.keeps {H H':Hp} {kvs:List (List bL×V)} {xs:List (List bL×Addr×Value)} (r:KT H kvs xs) (ht:∀b ys,H b=some (.tup ys)->H' b=some (.tup ys)):KT H' kvs xs:=
 Paired.mapP r fun _ _ z=>⟨z.1,ht _ _ z.2.1,z.2.2⟩
section
variable {P:Program} {w:World} {H:Hp} {h:Heap} {a:Addr}
theorem zA {u:HO} (ok:HOk P w H h) (e:Rd H a u):ObjOk P w H h a u:=e.ok ok
theorem mP {kvs:List (bL×V)} (ok:HOk P w H h) (e:Rd H a (.dK kvs)):kvs.length<=sizeLine/\(a==sysModules)=false/\∃vs,KV kvs vs/\h.DictOf (jI P w) a vs:=
 show ObjOk P w H h a (.dK kvs) from zA ok e
theorem vH {kvs:List (bL×V)} (ok:HOk P w H h) (e:H a=some (.dK kvs)):kvs.length<=sizeLine/\(a==sysModules)=false/\∃vs,KV kvs vs/\h.DictOf (jI P w) a vs:=mP ok (.inl e)
theorem Dp {ks:List bL} (ok:HOk P w H h) (e:H a=some (.tup (ks.map kV))):(tupleKind (jI P w)).is h ks a:=by
 obtain ⟨_,its,r,o,h1,h2,n,h3⟩:=(show ObjOk P w H h a (.tup (ks.map kV)) from ok a _ e);exact ⟨o,its.toArray,n,h1,h2,h3,by simpa using jW r⟩
theorem mO {kvs:List (List bL×V)} (ok:HOk P w H h) (e:Rd H a (.dT kvs)):kvs.length<=sizeLine/\(a==sysModules)=false /\
  ∃xs,KT H kvs xs/\h.DictOfH (tupleKind (jI P w)) a xs:=by
 obtain ⟨z,y,xs,r,o,es,ep,h1,h2,h3,h4,h5⟩:=(show ObjOk P w H h a (.dT kvs) from zA ok e);refine ⟨z,y,xs,r,o,es,ep,h1,h2,h3,h4,fun x hx=>?_,h5⟩
 have all:∀{l:List (List bL×V)} {m:List (List bL×Addr×Value)},KT H l m->∀x∈m,(tupleKind (jI P w)).is h x.1 x.2.1:=by
  intro l m q;induction q with
  | nil=>intro x hx;exact nomatch hx
  | @cons p q ps qs hq t ih=>
   intro x hx;rcases List.mem_cons.mp hx with e | hx
   ·subst e
    exact Dp ok (by rw [<-hq.1];exact hq.2.1)
   ·exact ih x hx
 exact all r x hx
theorem EB {kvs:List (List bL×V)} (ok:HOk P w H h) (e:H a=some (.dT kvs)):kvs.length<=sizeLine/\(a==sysModules)=false /\
  ∃xs,KT H kvs xs/\h.DictOfH (tupleKind (jI P w)) a xs:=mO ok (.inl e)
end
def DGet (H:Hp) (a:Addr) (y:V) (r:Option V):Prop:=
 (∃kvs k,Rd H a (.dK kvs)/\y=kV k/\r=dy kvs k)\/∃kvs k b,Rd H a (.dT kvs)/\y=.ref b/\H b=some (.tup (k.map kV))/\r=dy kvs k
def DPut (H:Hp) (a:Addr) (y v:V) (H':Hp):Prop:=
 (∃kvs k,H a=some (.dK kvs)/\y=kV k/\kvs.length<sizeLine/\H'=bx H a (.dK (eB kvs k v))) \/
 ∃kvs k b,H a=some (.dT kvs)/\y=.ref b/\H b=some (.tup (k.map kV))/\kvs.length<sizeLine/\H'=bx H a (.dT (eB kvs k v))
theorem DGet.k {H:Hp} {a:Addr} {kvs:List (bL×V)} {k:bL} (e:H a=some (.dK kvs)):DGet H a (kV k) (dy kvs k):=.inl ⟨kvs,k,.inl e,rfl,rfl⟩
theorem DPut.k {H:Hp} {a:Addr} {kvs:List (bL×V)} {k:bL} {v:V} (e:H a=some (.dK kvs)) (hl:kvs.length<sizeLine):DPut H a (kV k) v (bx H a (.dK (eB kvs k v))):=.inl ⟨kvs,k,e,rfl,hl,rfl⟩
section
variable {X:Cx} {pins:List (Addr×Obj)} {σ:St} {H:Hp} {s:Shared} {a:Addr} {y v:V} {u r:Value} {o:Option V} {A:Around} {E:Value->Shared->Prop}
theorem Inv.big (I:Inv X pins σ H s):sysModules<s.heap.objs.size:=by
 have h:mainGlobals<s.heap.objs.size:=(I.mod.glob.keeps I.bk).lt
 exact Nat.lt_trans (by decide) h
theorem sv {Q:Value->Shared->Prop} (hu:A.units+1<cLine) (I:Inv X pins σ H s) (g:DGet H a y (some v)) (ry:RelV y u) (h:∀w' s',Inv X pins σ H s'->RelV v w'->Q w' s') :
  wpAny (model X.prog X.w) A (getItem (.ref a) u) Q E s:=by
 rcases g with ⟨kvs,k,e,ey,l⟩ | ⟨kvs,k,b,e,ey,eb,l⟩
 ·subst ey
  obtain ⟨z,hd,vs,rel,dd⟩:=mP I.hok e;obtain ⟨w',hw,rw'⟩:=RelO.some_of (v:=v) (o:=valueAt vs k) (by rw [l];exact rel.val k)
  exact wpAny_getItem_of (jV ry) dd.mapOf hw (h w' _ (I.tok _) rw')
 ·subst ey
  cases (show u=Value.ref b from ry)
  obtain ⟨z,hd,xs,rel,dd⟩:=mO I.hok e;obtain ⟨w',hw,rw'⟩:=RelO.some_of (v:=v) (o:=(atKey xs k).map (·.2)) (by rw [l];exact rel.val k)
  obtain ⟨p,hp,hp2⟩:=Option.map_eq_some_iff.mp hw;refine wpAny_getItem_heap (tupleKind_room_in1 hu) (Dp I.hok eb) dd hp ?_
  rw [hp2];exact h w' _ (I.tok _) rw'
theorem JA {Q:Value->Shared->Prop} (hu:A.units+1<cLine) (I:Inv X pins σ H s) (g:DGet H a y o) (ry:RelV y u) (h:∀s',Inv X pins σ H s'->Q (.bool o.isSome) s') :
  wpAny (model X.prog X.w) A (compareOp .In u (.ref a)) Q E s:=by
 rcases g with ⟨kvs,k,e,ey,l⟩ | ⟨kvs,k,b,e,ey,eb,l⟩
 ·subst ey
  obtain ⟨z,hd,vs,rel,dd⟩:=mP I.hok e;refine wpAny_in_of (jV ry) hd dd.mapOf ?_
  rw [<-(rel.val k).isSome_eq,<-l];exact h _ (I.tok _)
 ·subst ey
  cases (show u=Value.ref b from ry)
  obtain ⟨z,hd,xs,rel,dd⟩:=mO I.hok e;refine wpAny_in_heap (tupleKind_room_in1 hu) (Dp I.hok eb) hd dd ?_
  have q:=(rel.val k).isSome_eq
  rw [Option.isSome_map] at q;rw [<-q,<-l];exact h _ (I.tok _)
theorem yO {Q:Value->Shared->Prop} (hu:A.units+1<cLine) (I:Inv X pins σ H s) (g:DGet H a y o) (ry:RelV y u) (h:∀s',Inv X pins σ H s'->Q (.bool (!o.isSome)) s') :
  wpAny (model X.prog X.w) A (compareOp .NotIn u (.ref a)) Q E s:=by
 rcases g with ⟨kvs,k,e,ey,l⟩ | ⟨kvs,k,b,e,ey,eb,l⟩
 ·subst ey
  obtain ⟨z,hd,vs,rel,dd⟩:=mP I.hok e;refine wpAny_notIn_of (jV ry) hd dd.mapOf ?_
  rw [<-(rel.val k).isSome_eq,<-l];exact h _ (I.tok _)
 ·subst ey
  cases (show u=Value.ref b from ry)
  obtain ⟨z,hd,xs,rel,dd⟩:=mO I.hok e;refine wpAny_notIn_heap (tupleKind_room_in1 hu) (Dp I.hok eb) hd dd ?_
  have q:=(rel.val k).isSome_eq
  rw [Option.isSome_map] at q;rw [<-q,<-l];exact h _ (I.tok _)
theorem GT {h':Heap} {t':Nat} {ob:HO} (I:Inv X pins σ H s) (mu:EY (H a)) (hs:Heap.SameBut a s.heap h') (he:∃q,h'.get? a=some q) (new:ObjOk X.prog X.w (bx H a ob) h' a ob) :
  Inv X pins σ (bx H a ob) { s with heap:=h',toks:=t' }:=
 I.write (x:=a) (e:=a) mu (.inl rfl) (fun b q hb z=>(hs.2 b hb).trans z) he new
theorem vI {P:Program} {w:World} {H':Hp} {h':Heap} {kvs:List (bL×V)} {vs:List (bL×Value)} (z:kvs.length<=sizeLine) (hd:(a==sysModules)=false) (rel:KV kvs vs) (dd:h'.DictOf (jI P w) a vs) :
  ObjOk P w H' h' a (.dK kvs):=⟨z,hd,vs,rel,dd⟩
theorem sj {H':Hp} {Q:Unit->Shared->Prop} (hu:A.units+1<cLine) (I:Inv X pins σ H s) (g:DPut H a y v H') (ry:RelV y u) (rv:RelV v r) (h:∀s',Inv X pins σ H' s'->Q () s') :
  wpAny (model X.prog X.w) A (setItem (.ref a) u r) Q E s:=by
 rcases g with ⟨kvs,k,e,ey,l,eH⟩ | ⟨kvs,k,b,e,ey,eb,l,eH⟩
 ·subst ey eH
  obtain ⟨z,hd,vs,rel,dd⟩:=vH I.hok e;have hz:vs.length<=sizeLine:=by rw [<-rel.length];exact z
  have hl:(eB kvs k v).length<=sizeLine:=by have:=Il kvs k v;omega
  refine wpAny_setItem_pairs (hsz:=hz) (jV ry) dd fun h' dd' hs=>h _ ?_
  have he:∃q,h'.get? a=some q:=let ⟨q,_,_,hq,_⟩:=dd';⟨q,hq⟩
  exact GT I (by rw [e];exact True.intro) hs he (vI hl hd (rel.put k rv) dd')
 ·subst ey eH
  cases (show u=Value.ref b from ry)
  obtain ⟨z,hd,xs,rel,dd⟩:=EB I.hok e;have hz:xs.length<=sizeLine:=by rw [<-Paired.length rel];exact z
  have hl:(eB kvs k v).length<=sizeLine:=by have:=Il kvs k v;omega
  refine wpAny_setItem_heap (hsz:=hz) (tupleKind_room_in1 hu) (Dp I.hok eb) dd fun h' dd' hs=>h _ ?_
  obtain ⟨q,es,ep,hq,h2,h3,h4,_,h5⟩:=dd'
  refine GT I (by rw [e];exact True.intro) hs ⟨q,hq⟩ ⟨hl,hd,_,(rel.put k eb rv).keeps fun c ys ec=>?_,q,es,ep,hq,h2,h3,h4,h5⟩
  rw [cQ (En ec e nofun)];exact ec
end
def EX (i:Expr):Prop:=∀ov iv,subscripted i false ov iv=operate [ov,iv] (getItem ov iv)
theorem xb {prog:Program} {w:World} {A:Around} {E:Value->Shared->Prop} {s:Shared} {env:Env} {value slice:Expr} {pos:Pos} {T id:String} {Q:Value->Shared->Prop}
  (hl:typeLookup (.type T) "__getitem__"=pure (some (.builtin id))) (hs:EX slice)
  (h:wpAny (model prog w) A (eval value env) (fun o s₁=>wpAny (model prog w) A (eval slice env) (fun i s₂=>s₂.TypeIs o T/\wpAny (model prog w) A (getItem o i) Q E s₂) E s₁) E s) :
  wpAny (model prog w) A (eval (.Subscript value slice pos) env) Q E s:=by
 refine Subscript_ (wpAny_mono h (fun o s₁ h₁=>wpAny_mono h₁ (fun i s₂ h₂=>?_) fun _ _ x=>x) fun _ _ x=>x)
 obtain ⟨hT,h₂⟩:=h₂;unfold subscriptTail;refine wpAny_bind ?_
 rw [getitemInPython_of_ne hT.not_modules];refine wpAny_bind (wpAny_specialOf hT hl ?_)
 have fin:wpAny (model prog w) A (subscripted slice false o i) (fun r s₃=>wpAny (model prog w) A (letTemporaryGo value o r >>= fun _=>pure r) Q E s₃) E s₂:=by
  rw [hs o i];exact wpAny_operating (wpAny_mono h₂ (fun r s₃ h₃=>wpAny_bind (wpAny_letTemporaryGo (wpAny_pure h₃))) fun _ _ x=>x)
 first
  | exact wpAny_pure (wpAny_bind fin)
  | exact wpAny_bind (wpAny_pure (wpAny_bind fin))
  | exact wpAny_bind fin
theorem mR {X:Cx} {pins:List (Addr×Obj)} {σ:St} {H:Hp} {s:Shared} {a:Addr} {y:V} {o:Option V} (I:Inv X pins σ H s) (g:DGet H a y o):s.TypeIs (.ref a) "dict":=by
 rcases g with ⟨kvs,k,e,_,_⟩ | ⟨kvs,k,b,e,_,_,_⟩
 ·obtain ⟨_,_,vs,_,dd⟩:=mP I.hok e
  exact dd.typeIs
 ·obtain ⟨_,_,xs,_,dd⟩:=mO I.hok e
  exact dd.typeIs
def tV (td ty:TE):TE:=fun σ H Q=>td σ H fun x H1=>ty σ H1 fun y H2=>∃a v,x=.ref a/\DGet H2 a y (some v)/\Q v H2
def Av (ty td:TE):TE:=fun σ H Q=>ty σ H fun y H1=>td σ H1 fun x H2=>∃a o,x=.ref a/\DGet H2 a y o/\Q (.bl o.isSome) H2
def HE (ty td:TE):TE:=fun σ H Q=>ty σ H fun y H1=>td σ H1 fun x H2=>∃a o,x=.ref a/\DGet H2 a y o/\Q (.bl (!o.isSome)) H2
def pF (td ty tv:TE):TS:=fun D σ H=>tv σ H fun v H1=>td σ H1 fun x H2=>ty σ H2 fun y H3=>∃a H4,x=.ref a/\DPut H3 a y v H4/\D.nx σ H4
section
variable {X:Cx} {o i e value:Expr} {pos pos' tpos:Pos} {td ty tv:TE}
theorem xT (hu:X.A.units+1<cLine) (ho:PE X o td) (hi:PE X i ty) (hs:EX i):PE X (.Subscript o i pos) (tV td ty):=by
 intro pins s σ H Q I h;refine xb PySem.F.slot_dict_getitem.lookup hs (bw (ho pins s σ H _ I h) fun u s1 ⟨x,H1,I1,rx,q1⟩=>bw (hi pins s1 σ H1 _ I1 q1) fun iv s2 ⟨y,H2,I2,ry,a,v,ex,g,q2⟩=>?_)
 subst ex;obtain rfl:u=Value.ref a:=rx
 exact ⟨mR I2 g,sv hu I2 g ry fun w' s3 I3 rw'=>⟨v,H2,I3,rw',q2⟩⟩
theorem BG (hu:X.A.units+1<cLine) (hi:PE X i ty) (ho:PE X o td):PC X .In i o (Av ty td):=by
 intro pins s σ H Q I h;refine bw (hi pins s σ H _ I h) fun iv s1 ⟨y,H1,I1,ry,q1⟩=>bw (ho pins s1 σ H1 _ I1 q1) fun u s2 ⟨x,H2,I2,rx,a,ov,ex,g,q2⟩=>?_
 subst ex;obtain rfl:u=Value.ref a:=rx
 exact JA hu I2 g ry fun s3 I3=>⟨.bl ov.isSome,H2,I3,rfl,q2⟩
theorem rh (hu:X.A.units+1<cLine) (hi:PE X i ty) (ho:PE X o td):PC X .NotIn i o (HE ty td):=by
 intro pins s σ H Q I h;refine bw (hi pins s σ H _ I h) fun iv s1 ⟨y,H1,I1,ry,q1⟩=>bw (ho pins s1 σ H1 _ I1 q1) fun u s2 ⟨x,H2,I2,rx,a,ov,ex,g,q2⟩=>?_
 subst ex;obtain rfl:u=Value.ref a:=rx
 exact yO hu I2 g ry fun s3 I3=>⟨.bl (!ov.isSome),H2,I3,rfl,q2⟩
theorem pQ (hu:X.A.units+1<cLine) (ho:PE X o td) (hi:PE X i ty) (hv:PE X value tv) (hs:swapsWith value (some (.Subscript o i pos')) pos.line X.env=pure false) :
  PS X (.Assign [.Subscript o i pos'] value pos) (pF td ty tv):=by
 intro pins s σ H D I h;refine wpAny_Assign_Subscript (bw (hv pins s σ H _ I h) fun r s1 ⟨v,H1,I1,rv,q1⟩=>bw (ho pins s1 σ H1 _ I1 q1) fun u s2 ⟨x,H2,I2,rx,q2⟩=>bw (hi pins s2 σ H2 _ I2 q2) fun iv s3 ⟨y,H3,I3,ry,a,H4,ex,g,q3⟩=>?_) hs
 subst ex;obtain rfl:u=Value.ref a:=rx
 exact sj hu I3 g ry rv fun s4 I4=>⟨σ,H4,I4,q3⟩
end
theorem mQ {P:Program} {w:World} {H:Hp} (h:Heap) (hb:sysModules<h.objs.size):ObjOk P w H (h.push { cls:=.type "dict",data:=.dict #[] }) h.objs.size (.dK []):=
 ⟨Nat.zero_le _,beq_eq_false_iff_ne.mpr (Ne.symm (Nat.ne_of_lt hb)),[],.nil,Heap.DictOf.new h⟩
def tU:TE:=fun _ H Q=>∀p,H p=none->Q (.ref p) (bx H p (.dK []))
section
variable {X:Cx} {pos:Pos}
theorem uV:PE X (.Dict [] [] pos) tU:=fun pins s σ H Q I h=>
 wpAny_Dict_empty ⟨.ref s.heap.objs.size,_,I.laid (a:=s.heap.objs.size) (o:=.dK []) (t':=s.toks) (fun _ _ q=>Heap.get?_push_of_some _ q) (Nat.le_refl _) (mQ s.heap I.big),rfl,h _ (I.hok.fresh (Nat.le_refl _))⟩
end
def Hm:List (TE×TE)->St->Hp->(List (V×V)->Hp->Prop)->Prop
 | [],_,H,Q=>Q [] H
 | (tk,tv)::r,σ,H,Q=>tk σ H fun x H1=>tv σ H1 fun y H2=>Hm r σ H2 fun ps H3=>Q ((x,y)::ps) H3
abbrev VV:List (V×V)->List (Value×Value)->Prop:=Paired fun p q=>RelV p.1 q.1/\RelV p.2 q.2
def Gy (X:Cx) (pos:Pos) (keys:List (Option Expr)) (values:List Expr) (trs:List (TE×TE)):Prop:=
 ∀(pins:List (Addr×Obj)) (s:Shared) (σ:St) (H:Hp) (Q:List (V×V)->Hp->Prop),Inv X pins σ H s->Hm trs σ H Q ->
  wpAny (model X.prog X.w) X.A (evalPairs (pairTrees keys values X.env pos)) (fun vs s'=>∃ps H',Inv X pins σ H' s'/\VV ps vs/\Q ps H') X.xe s
theorem xM {X:Cx} {pos:Pos}:Gy X pos [] [] []:=fun pins s σ H Q I h=>pairTrees_nil_walk ⟨[],H,I,.nil,h⟩
theorem uI {X:Cx} {pos:Pos} {k v:Expr} {ks:List (Option Expr)} {vs:List Expr} {tk tv:TE} {trs:List (TE×TE)} (hk:PE X k tk) (hv:PE X v tv) (hr:Gy X pos ks vs trs) :
  Gy X pos (some k::ks) (v::vs) ((tk,tv)::trs):=fun pins s σ H Q I h=>
 pairTrees_cons_walk (bw (hk pins s σ H _ I h) fun u s1 ⟨x,H1,I1,rx,q1⟩=>bw (hv pins s1 σ H1 _ I1 q1) fun w2 s2 ⟨y,H2,I2,ry,q2⟩=>
  bw (hr pins s2 σ H2 _ I2 q2) fun ws s3 ⟨ps,H3,I3,rel,q3⟩=>⟨(x,y)::ps,H3,I3,.cons ⟨rx,ry⟩ rel,q3⟩)
def Aa (kvs more:List (bL×V)):List (bL×V):=more.foldl (fun acc kv=>eB acc kv.1 kv.2) kvs
theorem KV.merge:∀{more:List (bL×V)} {rs:List (bL×Value)} {kvs:List (bL×V)} {vs:List (bL×Value)},KV more rs->KV kvs vs->KV (Aa kvs more) (merged vs rs):=by
 intro more rs kvs vs r;unfold KV at r;induction r generalizing kvs vs with
 | nil=>intro q;exact q
 | @cons p q ps qs h t ih=>
  intro r0;have e:KV (eB kvs p.1 p.2) (stored vs q.1 q.2):=by
   have:=r0.put p.1 h.2
   rw [<-h.1];exact this
  exact ih e
theorem fx:∀(more kvs:List (bL×V)),(Aa kvs more).length<=kvs.length+more.length
 | [],kvs=>by show kvs.length<=kvs.length+0;omega
 | p::r,kvs=>by
  have h1:=fx r (eB kvs p.1 p.2)
  have h2:=Il kvs p.1 p.2
  show (Aa (eB kvs p.1 p.2) r).length<=_
  rw [length_cons];omega
theorem jg {P:Program} {w:World}:∀{kvs:List (bL×V)} {ws:List (Value×Value)},VV (kvs.map fun kv=>(kV kv.1,kv.2)) ws->∃rs,Carries (jI P w) ws rs/\KV kvs rs
 | [],_,r=>by rw [map_nil] at r;cases r;exact ⟨[],True.intro,.nil⟩
 | p::kvs,_,r=>by
  rw [map_cons] at r
  cases r with
  | @cons a b as bs h t=>
   obtain ⟨rs,c,q⟩:=jg (P:=P) (w:=w) t
   obtain ⟨b1,b2⟩:=b;exact ⟨(p.1,b2)::rs,⟨jV h.1,rfl,c⟩,.cons ⟨rfl,h.2⟩ q⟩
def zw (trs:List (TE×TE)):TE:=fun σ H Q=>∀p,H p=none->Hm trs σ (bx H p (.dK [])) fun ps H2=>H2 p=some (.dK [])/\∃kvs:List (bL×V),ps=kvs.map (fun kv=>(kV kv.1,kv.2))/\kvs.length<=15/\Q (.ref p) (bx H2 p (.dK (Aa [] kvs)))
theorem xS {X:Cx} {pos:Pos} {keys:List (Option Expr)} {values:List Expr} {trs:List (TE×TE)} (h:Gy X pos keys values trs) (hall:keys.all (·.isSome)=true) (hl:keys.length=values.length) (h0:keys≠[])
  (h15:keys.length<=15):PE X (.Dict keys values pos) (zw trs):=by
 intro pins s σ H Q I q;have hn:=I.hok.fresh (Nat.le_refl s.heap.objs.size)
 have I1:=I.laid (a:=s.heap.objs.size) (o:=.dK []) (h':=s.heap.push { cls:=.type "dict",data:=.dict #[] }) (t':=s.toks) (fun _ _ q=>Heap.get?_push_of_some _ q) (Nat.le_refl _) (mQ s.heap I.big)
 refine wpAny_Dict_walk (knd:=jI X.prog X.w) hall hl h0 h15 (bw (h pins _ σ _ _ I1 (q _ hn)) fun ws s2 ⟨ps,H2,I2,rel,e,kvs,ep,lk,q2⟩=>?_)
 subst ep;obtain ⟨rs,c,rk⟩:=jg (P:=X.prog) (w:=X.w) rel
 obtain ⟨z,hd,vs0,r0,dd⟩:=vH I2.hok e
 cases r0;refine ⟨rs,c,dd,fun h' dd' hs=>⟨.ref s.heap.objs.size,_,?_,rfl,q2⟩⟩
 have hz:(Aa [] kvs).length<=sizeLine:=by
  have h1:=fx kvs []
  rw [length_nil] at h1;rw [sizeLine_eq];omega
 have he:∃q,h'.get? s.heap.objs.size=some q:=let ⟨q,_,_,hq,_⟩:=dd';⟨q,hq⟩
 exact GT I2 (by rw [e];exact True.intro) hs he (vI hz hd (rk.merge .nil) dd')
end L2
namespace T
open PySem PySem.Spec L2
open PyProof.Rows hiding St
def cM (ns:List Int) (v:V):List (bL×V):=ns.map fun n=>((Sum.inl n:bL),v)
def uA:List V->Hp->VK->Prop:=fun xs H Q=>∃(p:Addr) (ns:List Int) (v:V),xs=[.ref p]/\H p=some (.dK (cM ns v))/\ns.length<64/\∀l,H l=none->Q (.ref l) (bx H l (.lst ((PySem.W.sortI ns).map V.int)))
theorem jX {P:Program} {w:World}:∀{ns:List Int} {v:V} {vs:List (bL×Value)} {us:List Value},KV (cM ns v) vs->us.length=ns.length->(∀(j:Nat) u,us[j]?=some u->∃k x,vs[j]?=some (k,x)/\(jI P w).is k u=true)->IntsAre us ns
 | [],_,_,[],.nil,_,_=>.nil
 | n::ns,v,_,u::us,.cons r t,hl,h=>by
  obtain ⟨k,x,e,hk⟩:=h 0 u rfl
  cases e;have rk:(Sum.inl n:bL)=k:=r.1
  have hs:∃t,u=Value.int n t:=by
   rcases wD (show iR _ u=true from hk) with ⟨i,t,e1,e2⟩ | ⟨y,t,e1,e2⟩
   ·rw [<-rk] at e1
    injection e1 with e1
    exact ⟨t,by rw [e2,e1]⟩
   ·rw [<-rk] at e1
    cases e1
  obtain ⟨t',rfl⟩:=hs;exact .cons _ _ (jX t (by simpa using hl) fun j u e=>h (j+1) u (by simpa using e))
 | [],_,_,_::_,_,hl,_=>by simp at hl
 | _::_,_,_,[],_,hl,_=>by simp at hl
theorem oY {X:Cx} (hc:X.calm=true):CallR X (.builtin "sorted") uA:=by
 intro pins s σ H xs us Q I rv h;obtain ⟨p,ns,v,rfl,hS,h64,q⟩:=h;obtain ⟨u,rfl,ru⟩:=rv.one
 cases ru;obtain ⟨hz,lo,vs,r,hD⟩:=vH I.hok hS;obtain ⟨ep,hat⟩:=hD.dictAt;have hl:vs.length=ns.length:=by rw [<-r.length];simp [cM]
 have hb:=jP (n:=ns.length) (by omega)
 refine Calls.call_function_entry kind_sorted plain_sorted entry_sorted (args_sorted1 _) ?_
 unfold Builtin.«sorted»
 refine wpAny_bind (m:=checkCount "sorted" 1 1 _) (wpAny_pure ?_)
 refine wpAny_bind (PySem.W.kdu_collect (PySem.W.kdl_dict (knd:=jI X.prog X.w) (kvs:=vs) (ep:=ep) lo) (I.ok.hd hc) hat (by rw [hl];omega) fun h' tk acc hk hacc=>?_)
 have hla:acc.toList.length=ns.length:=by rw [Array.length_toList,hacc.1,hl]
 have hI:IntsAre acc.toList ns:=jX (P:=X.prog) (w:=X.w) r hla fun j u e=>hacc.2 j u (by rw [<-Array.getElem?_toList];exact e)
 refine wpAny_bind (wpAny_newList ?_ (by rw [hla];omega))
 have hoL:(h'.push { cls:=.type "list",data:=.seq acc.toList.toArray }).get? h'.objs.size=some (seqObj "list" acc.toList.toArray 0):=Heap.get?_push_size _ rfl
 refine wpAny_bind (wpAny_holding (wpAny_call_entry slot_list_sort ⟨_,hoL,rfl⟩ entry_list_sort (list_sort_tree hoL hI (by rw [hla];exact h64) fun out ns' a1 a2 a3=>⟨_,rfl,?_⟩) (args_list_sort _)))
 have e:=PySem.W.eq_sortI a2 a3
 subst e;have hlen:(PySem.W.sortI ns).length=ns.length:=(PySem.W.sortI_perm ns).length_eq
 obtain ⟨n,ho⟩:=sortedHeap_at (out:=out) hoL
 have I1:L2.Inv X pins σ H { s with heap:=h',toks:=tk }:=I.kept (t':=tk) hk
 have kk:∀b o,h'.get? b=some o->(sortedHeap (h'.push { cls:=.type "list",data:=.seq acc.toList.toArray }) h'.objs.size acc.toList out).get? b=some o:=fun b o e=>by
  have hlt:=Heap.lt_size e
  rw [sortedHeap_old (Nat.ne_of_lt hlt) (by rw [Heap.size_push];exact Nat.lt_succ_of_lt hlt)]
  exact Heap.get?_push_of_some _ e
 exact wpAny_pure ⟨_,rfl,.ref h'.objs.size,bx H h'.objs.size (.lst ((PySem.W.sortI ns).map V.int)),I1.laid (t':=tk) kk (Nat.le_refl _) ⟨by rw [length_map,hlen];omega,out.toList,n,HG a1,by simpa [seqObj] using ho⟩,rfl,q _ (I1.hok.fresh (Nat.le_refl _))⟩
def nL:PySem.PyData->Bool
 | .none=>true
 | _=>false
def b6 (neg:Bool):PySem.PyData->PySem.PyData->Option PySem.PyData
 | a,.none=>some (.bool (if neg then !nL a else nL a))
 | _,_=>none
theorem ml {K:Fg} {H:Hp} {x:V} {a:PySem.PyData} (r:Rep K H x a):decide (x=V.non)=nL a:=by
 cases r<;>simp [nL]
theorem yv {K:Fg}:GOp K (fun x y H Q=>y=.non/\Q (.bl (decide (x=.non))) H) (b6 false):=by
 intro x y H Q a b d ra rb e k
 cases rb<;>simp only [b6] at e<;>try cases e
 exact ⟨rfl,by rw [ml ra];exact k _ (.bl _)⟩
theorem vt {K:Fg}:GOp K (fun x y H Q=>y=.non/\Q (.bl (!decide (x=.non))) H) (b6 true):=by
 intro x y H Q a b d ra rb e k
 cases rb<;>simp only [b6] at e<;>try cases e
 exact ⟨rfl,by rw [ml ra];exact k _ (.bl _)⟩
theorem xI {X:Cx} (R:Rm X):Ck X .Is (fun x y H Q=>y=.non/\Q (.bl (decide (x=.non))) H) (b6 false):=⟨BO,yv⟩
theorem Dt {X:Cx} (R:Rm X):Ck X .IsNot (fun x y H Q=>y=.non/\Q (.bl (!decide (x=.non))) H) (b6 true):=⟨xX,vt⟩
def Ki:PySem.PyData->PySem.PyData->Option PySem.PyData
 | .str i,.str j=>if i.length+j.length<=sizeLine then some (.str (i++j)) else none
 | _,_=>none
def ia (fa fb:F1):F1:=aV fa fun p=>aV fb fun q=>fun Γ=>match p.d,q.d with
 | .list xs,.list ys=>if dv p xs&&dv q ys&&decide (xs.length+ys.length<=sizeLine) then .ok ⟨.lst .leaf,.list (xs++ys)⟩ Γ else .no
 | _,_=>.no
def Kl (fa fb:F1):F1:=aV fa fun p=>aV fb fun q=>fun Γ=>match p.d,q.d with
 | .tuple xs,.tuple ys=>if !p.s.isView&&dv q ys&&!xs.isEmpty&&decide (xs.length+ys.length<=sizeLine) then .ok ⟨.leaf,.tuple (xs++ys)⟩ Γ else .no
 | _,_=>.no
def yD (fa fb:F1):F1:=aV fa fun p=>aV fb fun q=>fun Γ=>match p.d,q.d with
 | .tuple xs,.int k=>if !p.s.isView&&decide (1<=k)&&decide (k<=xs.length) then .ok ⟨.leaf,.tuple (xs.drop k.toNat)⟩ Γ else .no
 | _,_=>.no
def uE (K:Fg):R2:=fun x y H Q=>∃l b xs zs,x=.ref l/\y=.ref b/\SqL K H l xs/\SqL K H b zs/\xs.length+zs.length<=sizeLine/\∀p,H p=none->Q (.ref p) (bx H p (.lst (xs++zs)))
theorem yT {prog:Program} {w:World} {A:Around} {E:Value->Shared->Prop} {s:Shared} {l b:Addr} {vs ws:List Value} {Q:Value->Shared->Prop} (hl:s.heap.IsList l vs.toArray) (hb:s.heap.IsList b ws.toArray) (hz:vs.length+ws.length<=sizeLine)
  (h:Q (.ref s.heap.objs.size) { s with heap:=s.heap.push { cls:=.type "list",data:=.seq (vs++ws).toArray } }):wpAny (model prog w) A (binaryOp .Add (.ref l) (.ref b)) Q E s:=by
 obtain ⟨⟨cls,dd,data,sl⟩,ho,hc,n,hd⟩:=id hl;obtain ⟨⟨cls2,dd2,data2,sl2⟩,ho2,hc2,n2,hd2⟩:=id hb;simp only at hc hd hc2 hd2
 subst hc hd hc2 hd2;have e:vs.toArray++ws.toArray=(vs++ws).toArray:=by simp
 rw [<-e] at h;exact concat_meets ⟨_,ho,rfl⟩ ⟨_,ho2,rfl⟩ noFill_list_add seq_list_add PySem.F.slot_list_add PySem.F.entry_list_add (PySem.F.args_list_add_2 _ _) (list_addW l b vs.toArray ws.toArray n n2 dd dd2 sl sl2 (by simpa using hz)) ⟨ho,ho2,h⟩
theorem x2 {X:Cx}:OpR X (binaryOp .Add) (uE X.K):=by
 intro pins s σ H x y v u Q I rx ry h;obtain ⟨l,b,xs,zs,rfl,rfl,hH,hB,hz,q⟩:=h
 cases rx
 cases ry;obtain ⟨its,r,pl,z⟩:=I.list hH;obtain ⟨its2,r2,pl2,z2⟩:=I.list hB;refine yT pl.isList pl2.isList (by rw [<-r.length,<-r2.length];exact hz) ?_
 exact ⟨.ref _,_,I.lnew (t':=s.toks) (r.append r2) (by rw [length_append];exact hz),rfl,q _ I.fresh⟩
section
variable {K:Fg} {W:XW} {σ:St} {H:Hp} {Q:VK} {D:gh} {fa fb:F1} {fl:FL}
theorem Reps.app {vs ws:List V} {ds es:List PySem.PyData} (h:Reps K H vs ds) (h':Reps K H ws es):Reps K H (vs++ws) (ds++es):=by
 refine ⟨by rw [length_append,length_append,h.1,h'.1],fun i v d e1 e2=>?_⟩
 by_cases hi:i<vs.length
 ·rw [getElem?_append_left hi] at e1
  rw [getElem?_append_left (by rw [<-h.1];exact hi)] at e2
  exact h.2 i v d e1 e2
 ·rw [getElem?_append_right (by omega)] at e1
  rw [getElem?_append_right (by rw [<-h.1];omega),<-h.1] at e2
  exact h'.2 _ v d e1 e2
theorem Reps.drop {vs:List V} {ds:List PySem.PyData} (k:Nat) (h:Reps K H vs ds):Reps K H (vs.drop k) (ds.drop k):=by
 refine ⟨by rw [length_drop,length_drop,h.1],fun i v d e1 e2=>?_⟩
 rw [List.getElem?_drop] at e1 e2
 exact h.2 _ v d e1 e2
theorem CG {G2 G1 O F:List Addr} (nd:(G2++(G1++O)++F).Nodup):(∀a∈G1,a∉O++F)/\(∀a∈G2,a∉O++F):=by
 rw [append_assoc,append_assoc] at nd;obtain ⟨_,n2,n3⟩:=List.nodup_append.mp nd;obtain ⟨_,_,n4⟩:=List.nodup_append.mp n2;exact ⟨fun a ha z=>n4 a ha a z rfl,fun a ha z=>n3 a ha a (mem_append_right _ z) rfl⟩
theorem xc {G2 G1 O F:List Addr}:∀a∈O++F,a∈G2++(G1++O)++F:=fun a ha=>by
 rcases List.mem_append.mp ha with z | z
 ·exact mem_append_left _ (mem_append_right _ (mem_append_right _ z))
 ·exact mem_append_right _ z
theorem yk {He H1:Hp} {O:List Addr} {Fs Fs1:List (List Addr)} {Γ1:Ev} {vs:List V} {ds:List PySem.PyData} {p:Addr} (E:EnvOk K He O Fs1 H1 σ Γ1) (s:Same H H1) (n:∀a∈Fs1.flatten,a∈Fs.flatten\/H a=none)
  (hr:Reps K (bX H1 (O++Fs1.flatten)) vs ds) (hp:H1 p=none):Aft K He O Fs H σ Γ1 ⟨.leaf,.tuple ds⟩ (.ref p) (bx H1 p (.tup vs)) [] Fs1:=by
 refine ⟨s.trans (gG hp),by rw [nil_append];exact E.grow (gG hp),by rw [nil_append];exact n,.leaf ?_⟩
 rw [nil_append];have hn:p∉O++Fs1.flatten:=fun z=>E.inH p z hp
 exact .tup (.of (wm dQ hn)) hr.1 fun i v d h1 h2=>(hr.2 i v d h1 h2).mono (qw (gG hp) fun a ha=>.inl ha)
theorem pY {He H1:Hp} {O:List Addr} {Fs Fs1:List (List Addr)} {Γ1:Ev} {v:V} {d:PySem.PyData} (E:EnvOk K He O Fs1 H1 σ Γ1) (s:Same H H1) (n:∀a∈Fs1.flatten,a∈Fs.flatten\/H a=none)
  (hr:Rep K (bX H1 (O++Fs1.flatten)) v d):Aft K He O Fs H σ Γ1 ⟨.leaf,d⟩ v H1 [] Fs1:=
 ⟨s,by rw [nil_append];exact E,by rw [nil_append];exact n,.leaf (by rw [nil_append];exact hr)⟩
theorem A8 (h:tE K W (ia fa fb) σ H Q):wI (uE K) (tE K W fa) (tE K W fb) σ H Q:=by
 refine C4 (R:=fun v u H2=>uE K v u H2 Q) h fun He O Fs Γ2 p q v u H1 H2 G1 G2 Fs2 nd s1 s2 E new o1 o2 w=>?_
 obtain ⟨s,d⟩:=p;obtain ⟨s',d'⟩:=q;dsimp only at w o1 o2
 split at w
 ·rename_i xs ys
  cases hc:(dv ⟨s,.list xs⟩ xs&&dv ⟨s',.list ys⟩ ys&&decide (xs.length+ys.length<=sizeLine)) with
  | false=>rw [hc] at w;exact w.elim
  | true=>
   rw [hc] at w;simp only [Bool.and_eq_true,decide_eq_true_eq] at hc
   obtain ⟨⟨h1,h2⟩,h3⟩:=hc;obtain ⟨d1,d2⟩:=CG E.nd;obtain ⟨p1,vs,rfl,q1,_,r1⟩:=o1.items (O':=O++Fs2.flatten) h1 xc d1
   obtain ⟨p2,ws,rfl,q2,_,r2⟩:=o2.items (O':=O++Fs2.flatten) h2 xc d2
   refine ⟨p1,p2,vs,ws,rfl,rfl,q1,q2,by rw [r1.1,r2.1];exact h3,fun p' hp'=>w _ _ _ _ (FJ (E.drop (fun a ha=>mem_append_right _ (mem_append_right _ ha)) nd) (s1.trans s2) (fun a ha=>new a (mem_append_right _ (mem_append_right _ ha))) (r1.app r2) hp')⟩
 ·exact w.elim
theorem AM (h:tE K W (yD fa fb) σ H Q):JU (Bh K) (tE K W fa) (zt (tE K W fb)) pz σ H Q:=by
 refine C4 (R:=fun v u H2=>∃i,u=.int i/\Bh K v (some i) none H2 Q) h fun He O Fs Γ2 p q v u H1 H2 G1 G2 Fs2 nd s1 s2 E new o1 o2 w=>?_
 obtain ⟨s,d⟩:=p;obtain ⟨s',d'⟩:=q;dsimp only at w o1 o2
 split at w
 ·rename_i xs k
  cases hc:(!s.isView&&decide (1<=k)&&decide (k<=xs.length)) with
  | false=>rw [hc] at w;exact w.elim
  | true=>
   rw [hc] at w;simp only [Bool.and_eq_true,decide_eq_true_eq,Bool.not_eq_true'] at hc
   obtain ⟨⟨h1,h2⟩,h3⟩:=hc;obtain ⟨d1,d2⟩:=CG E.nd;have E1:=E.drop (fun a ha=>mem_append_right _ (mem_append_right _ ha)) nd
   have nw:∀a∈Fs2.flatten,a∈Fs.flatten\/H a=none:=fun a ha=>new a (mem_append_right _ (mem_append_right _ ha))
   have r1:=o1.freeze (O':=O++Fs2.flatten) h1 xc d1
   have ru:=o2.rep
   cases ru;refine ⟨k,rfl,?_⟩
   cases r1 with
   | @tup a vs _ hq hl hr=>
    have ek:k=((k.toNat:Nat):Int):=by omega
    refine ⟨a,vs,rfl,gW hid_le hq,fun z=>?_,fun p' hp'=>?_⟩
    ·have z1:=z.1
     rw [ek,HT.sIx_nat] at z1;omega
    ·have ec:jE vs (some k) none=vs.drop k.toNat:=by
      unfold jE;rw [ek,HT.sIx_nat,HT.sIx_none,Int.toNat_natCast,take_of_length_le (by rw [length_drop];omega)]
      rw [Nat.min_eq_left (by omega)]
     rw [ec];exact w _ _ _ _ (yk E1 (s1.trans s2) nw (Reps.drop k.toNat ⟨hl,hr⟩) hp')
 ·exact w.elim
end
theorem qP {K:Fg} {H:Hp} {ws:List V} {ns:List Int} (h:Reps K H ws (ns.map .int)):ws=ns.map V.int:=by
 obtain ⟨hwl,hw⟩:=h;apply ext_getElem?
 intro i;by_cases hi:i<ws.length
 ·have hi2:i<ns.length:=by rw [length_map] at hwl;omega
  have q:=hw i (ws[i]'hi) (.int (ns[i]'hi2)) (getElem?_eq_getElem _) (by rw [getElem?_map,getElem?_eq_getElem hi2];rfl)
  rw [getElem?_eq_getElem hi,getElem?_map,getElem?_eq_getElem hi2];generalize ws[i]'hi=u at q
  cases q;rfl
 ·rw [getElem?_eq_none (by omega),getElem?_eq_none (by rw [length_map] at hwl ⊢;omega)]
def cu (k:Str):List (Str×Int)->Option Int
 | []=>none
 | (x,i)::r=>if k=x then some i else cu k r
def tP (a:Addr) (es:Array DictEntry) (tab:List (Str×Int)):Bool:=!(a==sysModules)&&KTD.rowsLook KTD.flatLooks es.toList (tab.map fun p=>(p.1,.int p.2))
def qt (K:Fg) (mg:Str->Option Value) (x:Str) (tab:List (Str×Int)):Prop:=∃a es ep,mg x=some (.ref a)/\K.lookup a=some ⟨.type "dict",none,.dict es ep,#[]⟩/\tP a es tab=true
def CY (X:Cx) (x:Str) (tab:List (Str×Int)):Prop:=qt X.K X.mg x tab
theorem yQ {K:Fg} {mg:Str->Option Value} {x:Str} {a:Addr} {es:Array DictEntry} {ep:Nat} {tab:List (Str×Int)} (hm:mg x=some (.ref a)) (l:K.lookup a=some ⟨.type "dict",none,.dict es ep,#[]⟩) (h:tP a es tab=true):qt K mg x tab:=⟨a,es,ep,hm,l,h⟩
def tN (tab:List (Str×Int)):List (Str×KTD.Dat):=(tab.map fun p=>(p.1,PySem.PyData.int p.2)).map fun p=>(p.1,KTD.Dat.flat p.2)
theorem lz {K:Fg} {h:Heap} {a:Addr} {es:Array DictEntry} {ep:Nat} {tab:List (Str×Int)} (hk:K.In h) (l:K.lookup a=some ⟨.type "dict",none,.dict es ep,#[]⟩) (hb:tP a es tab=true):KTD.Here h h a (tN tab):=by
 unfold tP at hb;simp only [Bool.and_eq_true,Bool.not_eq_true'] at hb
 refine ⟨KTD.TabOf.text ⟨hb.1,_,es,ep,hk a _ l,⟨rfl,rfl,rfl⟩,rfl,KTD.rows_of_look (fun d v z=>KTD.flat_of_looks z) hb.2⟩,fun b o z=>z⟩
theorem HB (k:Str):∀tab:List (Str×Int),KTD.datumAt k (tN tab)=(cu k tab).map fun i=>KTD.Dat.flat (.int i)
 | []=>rfl
 | (x,i)::r=>by
  have ih:=HB k r
  unfold tN at ih ⊢
  simp only [map_cons,KTD.datumAt,cu]
  by_cases e:k=x
  ·simp [e]
  ·simp [e]
   simpa using ih
theorem mM {h:Heap} {k:Str} {P:Value->Prop} {i:Int} (hp:∀t,P (.int i t)):∀tab:List (Str×Int),cu k tab=some i->KTD.EachL h k P (tN tab)
 | [],_=>trivial
 | [(x,j)],e=>fun hx=>by
  simp only [cu,hx,if_true,Option.some.injEq] at e
  subst e;exact hp
 | (x,j)::q::r,e=>by
  show (if decide (k=x)=true then KTD.Opened h P (.flat (.int j)) else KTD.EachL h k P (tN (q::r)))
  by_cases hx:k=x
  ·rw [if_pos (decide_eq_true hx)]
   rw [cu,if_pos hx] at e
   cases e;exact hp
  ·rw [if_neg (by simp [hx])]
   rw [cu,if_neg hx] at e;exact mM hp (q::r) e
def vF (neg:Bool) (tab:List (Str×Int)) (fa:F1):F1:=aV fa fun p Γ=>match p.d with
 | .str k=>.ok ⟨.leaf,.bool (if neg then !(cu k tab).isSome else (cu k tab).isSome)⟩ Γ
 | _=>.no
def qj (tab:List (Str×Int)) (fa:F1):F1:=aV fa fun p Γ=>match p.d with
 | .str k=>(match cu k tab with
  | some i=>.ok ⟨.leaf,.int i⟩ Γ
  | none=>.no)
 | _=>.no
section
variable {K:Fg} {W:XW} {σ:St} {H:Hp} {Q:VK} {fa:F1}
theorem AW {neg:Bool} {tab:List (Str×Int)} (h:tE K W (vF neg tab fa) σ H Q):tE K W fa σ H fun x H1=>∃k,x=.str k/\Q (.bl (if neg then !(cu k tab).isSome else (cu k tab).isSome)) H1:=by
 refine wz h fun He O Fs Γ1 p v H1 G Fs1 nd A w=>?_
 obtain ⟨s,d⟩:=p;have r:=A.own.rep
 cases r with
 | str k=>exact ⟨k,rfl,Wants.scal w (.bl _) A.same A.env (fun a ha=>mem_append_right _ ha) nd A.newF⟩
 | _=>exact w.elim
theorem xC {tab:List (Str×Int)} (h:tE K W (qj tab fa) σ H Q):tE K W fa σ H fun x H1=>∃k i,x=.str k/\cu k tab=some i/\Q (.int i) H1:=by
 refine wz h fun He O Fs Γ1 p v H1 G Fs1 nd A w=>?_
 obtain ⟨s,d⟩:=p;have r:=A.own.rep
 cases r with
 | str k=>
  have w:Wants K W He O Fs H σ Q (match cu k tab with | some i=>.ok ⟨.leaf,.int i⟩ Γ1 | none=>.no):=w
  cases e:cu k tab with
  | none=>rw [e] at w;exact w.elim
  | some i=>
   rw [e] at w;exact ⟨k,i,rfl,e,Wants.scal w (.int _) A.same A.env (fun a ha=>mem_append_right _ ha) nd A.newF⟩
 | _=>exact w.elim
end
section
variable {X:Cx} {N gl:List Str} {vs cs ls lo gs:List Nat} {W:XW} {a b c e:Expr} {es:List Expr} {pos p:Pos} {fa fb fc:F1} {fl:FL} {g:FS}
theorem BF {x:Str} {tab:List (Str×Int)} (S:Cp X N gl vs cs ls lo gs) (j:Nat) (hj:gl[j]?=some x) (hg:gs.contains j=true) (Tb:CY X x tab) (ha:PE X a (tE X.K W fa)):PC X .In a (.Name x p) (tE X.K W (vF false tab fa)):=by
 intro pins s σ H Q I h;obtain ⟨d,es,ep,hm,l,hb⟩:=Tb;refine bw (ha pins s σ H _ I (AW h)) fun v s1 ⟨y,H1,I1,r1,k,ey,q⟩=>?_
 subst ey;obtain ⟨t,rfl⟩:=r1;refine Fm I1 (S.g hj hg).1 hm ?_ (S.g hj hg).2.1
 refine KTD.in_text (lz I1.kIn l hb) ?_
 refine ⟨.bl _,H1,I1.tok _,?_,q⟩
 rw [<-KTD.isSome_datumAt,HB,Option.isSome_map];rfl
end
def yq (i:Nat) (q:PV) (Γ:Ev):Out PV:=match Γ[i]?,q.d with
 | some (some ⟨.lst .leaf,.list ds⟩),.int k=>(match eC ds.length k with
  | some j=>(match ds[j]? with
   | some d=>.ok ⟨.leaf,d⟩ Γ
   | none=>.no)
  | none=>.no)
 | _,_=>.no
def cx (i:Nat) (fb:F1):F1:=fun Γ=>if sJ Γ[i]? then (fb Γ).bind (yq i) else .no
section
variable {K:Fg} {W:XW} {σ:St} {H:Hp} {Q:VK} {D:gh} {fa fb:F1} {fl:FL}
theorem xy {i:Nat} (h:tE K W (cx i fb) σ H Q):wI (Bk K) (bh i) (tE K W fb) σ H Q:=by
 obtain ⟨He,O,Fs,Γ,E,h⟩:=h;unfold cx at h
 cases ho:sJ Γ[i]? with
 | false=>rw [ho] at h;exact h.elim
 | true=>
  rw [ho] at h;obtain ⟨ds,e0⟩:=Ig ho;obtain ⟨l,vs,h1,h2,h3,_,_⟩:=E.chgF e0;refine ⟨.ref l,h1,?_⟩
  refine wz (k:=yq i) ⟨He,O,Fs,Γ,E,h⟩ fun He O Fs Γ1 q u H1 G Fs1 nd A w=>?_
  unfold yq at w;split at w
  ·rename_i ds1 k e1 e2
   obtain ⟨l1,vs1,q1,q2,q3,q4,_⟩:=A.go.chgF e1;rw [h1] at q1
   cases q1;have r:=A.own.rep
   rw [e2] at r
   cases r
   cases hj:eC ds1.length k with
   | none=>rw [hj] at w;exact w.elim
   | some j=>
    rw [hj] at w;have w:Wants K W He O Fs H σ Q (match ds1[j]? with | some d=>.ok ⟨.leaf,d⟩ Γ1 | none=>.no):=w
    cases hd:ds1[j]? with
    | none=>rw [hd] at w;exact w.elim
    | some d=>
     rw [hd] at w;have hjl:j<vs1.length:=by rw [q3];exact (List.getElem?_eq_some_iff.mp hd).1
     have hv:vs1[j]?=some (vs1[j]'hjl):=getElem?_eq_getElem _
     refine .inl ⟨l,vs1,k,vs1[j]'hjl,rfl,rfl,.of q2,GI q3 hj hv,?_⟩
     exact w _ _ _ _ (pY A.go A.same A.newF (q4 j _ d hv hd))
  ·exact w.elim
def oI (p:PV):Bool:=match p with
 | ⟨.lst .leaf,.list ds⟩=>ds.all bD
 | _=>false
def zX (n:Nat) (den:List PySem.PyData->Res) (fl:FL):F1:=fun Γ=>(fl Γ).bind fun ps Γ'=>if ps.length=n then (match den (ps.map (·.d)) with
 | .ok p=>if oI p then .ok p Γ' else .no
 | _=>.no) else .no
theorem uv {n:Nat} {den:List PySem.PyData->Res} {E:XK} (h:tE K W (zX n den fl) σ H Q):lA (qI K n den) [] E (tA K W fl) σ H Q:=by
 obtain ⟨He,O,Fs,Γ,E0,h⟩:=h;refine ⟨He,O,Fs,Γ,E0,?_⟩
 unfold zX at h
 cases e:fl Γ with
 | er c Γ'=>rw [e] at h;exact h
 | no=>rw [e] at h;exact h
 | ok ps Γ1=>
  rw [e] at h;intro vs H1 Gs Fs1 A;have h:Wants K W He O Fs H σ Q (if ps.length=n then (match den (ps.map (·.d)) with | .ok p=>if oI p then .ok p Γ1 else .no | _=>.no) else .no):=h
  by_cases hn:ps.length=n
  case neg=>rw [if_neg hn] at h;exact h.elim
  rw [if_pos hn] at h;have hl:(vs++[]).length=n:=by rw [append_nil,A.len1];exact hn
  cases ed:den (ps.map (·.d)) with
  | er c=>rw [ed] at h;exact h.elim
  | no=>rw [ed] at h;exact h.elim
  | ok p=>
   rw [ed] at h;have h:Wants K W He O Fs H σ Q (if oI p then .ok p Γ1 else .no):=h
   have newF:∀a∈Fs1.flatten,a∈Fs.flatten\/H a=none:=fun a ha=>A.new a (mem_append_right _ ha)
   cases hc:oI p with
   | false=>rw [hc] at h;exact h.elim
   | true=>
    rw [hc] at h;have h:Wants K W He O Fs H σ Q (.ok p Γ1):=h
    refine ⟨hl,[],ps.map (·.d),nodup_nil,(fun _ z=>nomatch z),by rw [append_nil,GU];exact A.reps,?_⟩
    rw [ed];intro v H2 G r;unfold oI at hc;split at hc
    ·rename_i ds
     obtain ⟨l,us,rfl,rfl,hp,hul,hr⟩:=r.own.leaves;refine h (.ref l) H2 [l] Fs1 ⟨A.same.trans r.same,A.env.dropL.hide r.same r.nd r.fresh r.inH,fun a ha=>?_,Own.mkLeaves hp hul fun j u d e1 e2=>((hr j u d e1 e2).sc (List.all_eq_true.mp hc d (mem_of_getElem? e2))).rep⟩
     rcases List.mem_append.mp ha with z | z
     ·exact .inr (A.same.free (r.fresh a z))
     ·exact newF a z
    ·cases hc
def vV (i:Nat) (a:Int) (p:PV) (Γ:Ev):fO:=match p.d with
 | .int b=>if i<Γ.length then .nx (Γ.set i (some ⟨.leaf,.int (a+b)⟩)) else .no
 | _=>.no
def gK (i:Nat) (f:F1):FS:=fun Γ=>match Γ[i]? with
 | some (some ⟨.leaf,.int a⟩)=>iF f (vV i a) Γ
 | _=>.no
theorem Ba {i:Nat} (h:tS K W (gK i fa) D σ H):DM i (tE K W fa) (Kh fun i j=>i+j) D σ H:=by
 obtain ⟨He,O,Fs,Γ,E,h⟩:=h;unfold gK at h;split at h
 ·rename_i a e0
  obtain ⟨_,v,F,h1,h2,h3⟩:=E.slot i _ e0;have r:=h3.rep
  cases r;refine ⟨.int a,h1,?_⟩
  refine iA (D:=D) (k:=vV i a) ⟨He,O,Fs,Γ,E,h⟩ fun He O Fs Γ1 p u H1 G Fs1 _ fr A w=>?_
  unfold vV at w;split at w
  ·rename_i b eb
   have r:=A.own.rep
   rw [eb] at r
   cases r;by_cases hi:i<Γ1.length
   ·rw [if_pos hi] at w
    exact ⟨a,b,rfl,rfl,w _ _ _ (EnvOk.put (G:=[]) (p:=⟨.leaf,.int (a+b)⟩) (v:=.int (a+b)) A.go (.leaf (.int _)) rfl (fun a ha=>by simp at ha) hi)⟩
   ·rw [if_neg hi] at w;exact w.elim
  ·exact w.elim
 ·exact h.elim
def yB (i:Nat) (p:PV) (Γ:Ev):fO:=match Γ[i]?,p.d with
 | some (some ⟨.lst .leaf,.list ds⟩),.tuple es=>if dv p es&&decide (ds.length+es.length<=sizeLine) then .nx (Γ.set i (some ⟨.lst .leaf,.list (ds++es)⟩)) else .no
 | some (some ⟨.lst .leaf,.list ds⟩),.list es=>if dv p es&&decide (ds.length+es.length<=sizeLine) then .nx (Γ.set i (some ⟨.lst .leaf,.list (ds++es)⟩)) else .no
 | _,_=>.no
def gv (i:Nat) (f:F1):FS:=fun Γ=>if sJ Γ[i]? then iF f (yB i) Γ else .no
def Bn (K:Fg):V->List V->Hp->VK->Prop:=fun x vs H Q=>∃l b xs zs,x=.ref l/\vs=[.ref b]/\H l=some (.lst xs)/\(SqL K H b zs\/SqT K H b zs)/\xs.length+zs.length<=sizeLine/\Q .non (bx H l (.lst (xs++zs)))
theorem A7 {i:Nat} (h:tS K W (gv i fa) D σ H):jM (Aw K "list" (Bn K) (bh i) (tA K W (ab fa af))) D σ H:=by
 obtain ⟨He,O,Fs,Γ,E,h⟩:=h;unfold gv at h
 cases ho:sJ Γ[i]? with
 | false=>rw [ho] at h;exact h.elim
 | true=>
  rw [ho] at h;obtain ⟨ds,e0⟩:=Ig ho;obtain ⟨l,vs,h1,h2,h3,_,_⟩:=E.chgF e0;refine ⟨.ref l,h1,.inl ⟨rfl,vs,.of h2⟩,Fi (iA (D:=D) ⟨He,O,Fs,Γ,E,h⟩ fun He O Fs Γ1 p v H1 G Fs1 _ fr A w=>?_)⟩
  obtain ⟨s,d⟩:=p;have fin:∀(ds1 es:List PySem.PyData) (b:Addr) (ws:List V),Γ1[i]?=some (some ⟨.lst .leaf,.list ds1⟩)->v=.ref b->(SqL K H1 b ws\/SqT K H1 b ws)->Reps K (bX H1 (O++Fs1.flatten)) ws es->ds1.length+es.length<=sizeLine ->
    o7 K W He O D (.nx (Γ1.set i (some ⟨.lst .leaf,.list (ds1++es)⟩)))->Bn K (.ref l) [v] H1 (fun _ H2=>D.nx σ H2):=fun ds1 es b ws e1 hv hq hr hz w=>by
   obtain ⟨l1,vs1,q1,q2,q3,q4,q5⟩:=A.go.chgF e1;rw [h1] at q1
   cases q1;subst hv;refine ⟨l,b,vs1,ws,rfl,rfl,q2,hq,by rw [q3,hr.1];exact hz,w σ _ _ (q5 (vs1++ws) (ds1++es) (by rw [length_append,length_append,q3,hr.1]) ?_)⟩
   exact (Reps.app ⟨q3,q4⟩ hr).2
  unfold yB at w;split at w
  ·rename_i ds1 es e1 e2
   dsimp only at e2;subst e2
   cases hc:(dv ⟨s,.tuple es⟩ es&&decide (ds1.length+es.length<=sizeLine)) with
   | false=>rw [hc] at w;exact w.elim
   | true=>
    rw [hc] at w;simp only [Bool.and_eq_true,decide_eq_true_eq] at hc
    obtain ⟨b,ws,rfl,hq,_,hr⟩:=A.own.itemsT (O':=O++Fs1.flatten) hc.1 kh A.disj
    exact fin ds1 es b ws e1 rfl (.inr hq) hr hc.2 w
  ·rename_i ds1 es e1 e2
   dsimp only at e2;subst e2
   cases hc:(dv ⟨s,.list es⟩ es&&decide (ds1.length+es.length<=sizeLine)) with
   | false=>rw [hc] at w;exact w.elim
   | true=>
    rw [hc] at w;simp only [Bool.and_eq_true,decide_eq_true_eq] at hc
    obtain ⟨b,ws,rfl,hq,_,hr⟩:=A.own.items (O':=O++Fs1.flatten) hc.1 kh A.disj
    exact fin ds1 es b ws e1 rfl (.inl hq) hr hc.2 w
  ·exact w.elim
end
theorem Jt {l b:Addr} {xs ys:Array Value} {n m:Nat} {d2:Option Addr} {s2:Array (Option Value)} (h0:¬(!xs.isEmpty&&Builtin.List.listTooLong (xs.size+ys.size))=true) (h1:xs.size<=sizeLine) (h2:(xs++ys).size<=sizeLine+1) :
  Meets (Builtin.«list.extend» ⟨[.ref l,.ref b],[]⟩) (fun _ R s=>s.heap.get? l=some ⟨.type "list",none,.seq xs n,#[]⟩/\s.heap.get? b=some ⟨.type "tuple",d2,.seq ys m,s2⟩ /\
   R (.ok (.ret Value.none)) { s with heap:=s.heap.update l (Obj.mapSeq fun x=>x++ys),toks:=s.toks }):=
 .of_wp fun prog w A R s h=>by
  obtain ⟨hp,g,d,tk,os⟩:=s;obtain ⟨hl,hb,h⟩:=h;have f1:=AutoSeq1.idx_int
  have f2:=AutoSeq1.sub_tuple_tuple
  have f3:=AutoSeq1.sub_list_list
  have f4:=AutoSeq1.sub_tuple_list
  have f5:=AutoSeq1.sub_list_tuple
  wp_walk using (wpAny_updateSeq hl rfl (hz:=h1) (_hz':=h2)),AutoSeq1.wpAny_loadPart' hl,AutoSeq1.wpAny_loadPart' hb
  exact ⟨_,rfl,h⟩
theorem Ju {l b:Addr} {xs ys:Array Value} {n m:Nat} {d2:Option Addr} {s2:Array (Option Value)} (h0:¬(!xs.isEmpty&&Builtin.List.listTooLong (xs.size+ys.size))=true) (h1:xs.size<=sizeLine) (h2:(xs++ys).size<=sizeLine+1) :
  Meets (Builtin.«list.extend» ⟨[.ref l,.ref b],[]⟩) (fun _ R s=>s.heap.get? l=some ⟨.type "list",none,.seq xs n,#[]⟩/\s.heap.get? b=some ⟨.type "list",d2,.seq ys m,s2⟩ /\
   R (.ok (.ret Value.none)) { s with heap:=s.heap.update l (Obj.mapSeq fun x=>x++ys),toks:=s.toks }):=
 .of_wp fun prog w A R s h=>by
  obtain ⟨hp,g,d,tk,os⟩:=s;obtain ⟨hl,hb,h⟩:=h;have f1:=AutoSeq1.idx_int
  have f2:=AutoSeq1.sub_tuple_tuple
  have f3:=AutoSeq1.sub_list_list
  have f4:=AutoSeq1.sub_tuple_list
  have f5:=AutoSeq1.sub_list_tuple
  wp_walk using (wpAny_updateSeq hl rfl (hz:=h1) (_hz':=h2)),AutoSeq1.wpAny_loadPart' hl,AutoSeq1.wpAny_loadPart' hb
  exact ⟨_,rfl,h⟩
theorem BW {X:Cx}:JI X "list.extend" (Bn X.K):=by
 intro pins s σ H x vs v us Q I rx rv h;obtain ⟨l,b,xs,zs,rfl,rfl,hH,hB,hz,q⟩:=h
 cases rx;obtain ⟨u,rfl,ru⟩:=rv.one
 cases ru;obtain ⟨z,its,n,r,hl,e⟩:=I.lstM hH;have fin:∀its2:List Value,Vals zs its2->its.toArray.size+its2.toArray.size<=sizeLine/\(its.toArray++its2.toArray).size<=sizeLine+1/\its.toArray.size<=sizeLine/\¬(!its.toArray.isEmpty&&Builtin.List.listTooLong (its.toArray.size+its2.toArray.size))=true /\
   EP X pins σ Q Value.none { s with heap:=s.heap.update l (Obj.mapSeq fun x=>x++its2.toArray),toks:=s.toks }:=fun its2 r2=>by
  have h1:its.toArray.size+its2.toArray.size<=sizeLine:=by rw [size_toArray,size_toArray,<-r.length,<-r2.length];exact hz
  refine ⟨h1,by rw [Array.size_append];omega,by omega,?_,?_⟩
  ·rw [u5 h1,Bool.and_false]
   exact Bool.false_ne_true
  ·exact ⟨.non,_,I.lset (its':=its++its2) hH e (by simp) (r.append r2) (by rw [length_append];exact hz),rfl,q⟩
 rcases hB with hB | hB
 ·obtain ⟨its2,r2,⟨⟨c2,d2,dat2,s2⟩,n2,e2,ec,ed,es⟩,_⟩:=I.list hB
  simp only at ec es
  subst ec es;obtain ⟨f1,f2,f3,f4,f5⟩:=fin its2 r2;exact call_meets F.slot_list_extend ⟨_,e,rfl⟩ F.entry_list_extend (F.args_list_extend_2 _ _) (Ju f4 f3 f2) ⟨e,e2,f5⟩
 ·obtain ⟨its2,r2,⟨⟨c2,d2,dat2,s2⟩,e2,ec,n2,es⟩,_⟩:=I.tuple hB
  simp only at ec es
  subst ec es;obtain ⟨f1,f2,f3,f4,f5⟩:=fin its2 r2;exact call_meets F.slot_list_extend ⟨_,e,rfl⟩ F.entry_list_extend (F.args_list_extend_2 _ _) (Jt f4 f3 f2) ⟨e,e2,f5⟩
section
variable {X:Cx} {N gl:List Str} {vs cs ls lo gs:List Nat} {W:XW} {a b c e:Expr} {es:List Expr} {pos p:Pos} {fa fb fc:F1} {fl:FL} {g:FS}
theorem cs_extend (S:Cp X N gl vs cs ls lo gs) (i:Nat) {x:Str} {apos cpos:Pos} (hi:N[i]?=some x) (hv:vs.contains i=true) (ha:PE X a (tE X.K W fa)) (hs:starEach [a] X.env=[(false,eval a X.env)])
  (hbase:attributeBase (.Name x p) "extend" X.env (eval (.Name x p) X.env)=eval (.Name x p) X.env) (hline:(apos.endLine==cpos.line)=true)
  (hfew:((backTo cpos (starEach [a] X.env)).all (fun x=>!x.1)&&(backToKw cpos (keywordEach [] X.env)).all (fun x=>x.1.isSome)
   && decide ([a].length+([]:List Keyword).length+(if ([]:List Keyword).isEmpty then 0 else 1)<30))=true)
  (hsw:swapsWith (.Call (.Attribute (.Name x p) "extend" apos) [a] [] cpos) none pos.line X.env=pure false) :
  PS X (.Expr (.Call (.Attribute (.Name x p) "extend" apos) [a] [] cpos) pos) (tS X.K W (gv i fa)):=by
 have m:=S.nm x (mem_of_getElem? hi)
 exact eo (Fo (lX PySem.F.plainAttrs_list PySem.F.slot_list_extend PySem.F.type_list_extend BW (wQ (by rw [S.hN];exact hi) (S.vis i x hi hv) m.1 m.2) (da_cons ha da_nil hs) hbase hfew hline hs rfl) hsw) fun _ _ _=>A7
theorem Ez {P:Program} {w:World} {K:Fg} {mg:Str->Option Value} {base:Heap} {k:Nat} {f:Addr} {fd:FuncData} {ps:List Str}:eD P w K mg base kX k f fd ps (qI K ps.length fun _=>.no):=
 ⟨fun vs H Q E h=>h.1,fun A outer s H args us vs Q E hr he hb hv h=>by
  obtain ⟨_,_,_,_,_,_,w⟩:=h;exact w.elim⟩
end
end T
namespace TQ
open PySem PySem.Spec L2 T
open PyProof.Rows hiding St
section
variable {X:Cx} {N gl:List Str} {vs cs ls lo gs:List Nat} {W:XW} {a b c e:Expr} {es:List Expr} {pos p:Pos} {fa fb fc:F1} {fl:FL} {ga gb:FB} {g1 g2 g:FS}
theorem Dy (ha:Q (PE X a (tE X.K W fa))) (hb:Q (PE X b (tE X.K W fb))):Q (PE X (.BinOp a .Add b pos) (tE X.K W (ia fa fb))):=⟨have ha:=ha.p;have hb:=hb.p;aY (iH x2 ha hb) fun _ _ _=>A8⟩
theorem tH {p2:Pos} (ha:Q (PE X a (tE X.K W fa))) (hb:Q (PE X b (tE X.K W fb))):Q (PE X (.Subscript a (.Slice (some b) none none p2) pos) (tE X.K W (yD fa fb))):=⟨have ha:=ha.p;have hb:=hb.p;aY (Hv Ay ha (G5 hb) G4) fun _ _ _=>AM⟩
theorem iy {x:Str} {tab:List (Str×Int)} (S:Cp X N gl vs cs ls lo gs) (j:Nat) (hj:gl[j]?=some x) (hg:gs.contains j=true) (Tb:CY X x tab) (ha:Q (PE X a (tE X.K W fa))):Q (PE X (.Compare a [.In] [.Name x p] pos) (tE X.K W (vF false tab fa))):=⟨have ha:=ha.p;BC (BF S j hj hg Tb ha) rfl⟩
theorem qC {x:Str} {tab:List (Str×Int)} (S:Cp X N gl vs cs ls lo gs) (j:Nat) (hj:gl[j]?=some x) (hg:gs.contains j=true) (Tb:CY X x tab) (ha:Q (PE X a (tE X.K W fa))) (hs:Dq a):Q (PE X (.Subscript (.Name x p) a pos) (tE X.K W (qj tab fa))):=⟨by
 have ha:=ha.p
 intro pins s σ H Q I h;obtain ⟨d,es,ep,hm,l,hb⟩:=Tb;refine Subscript_ (Fm I (S.g hj hg).1 hm ?_ (S.g hj hg).2.1)
 refine bw (ha pins s σ H _ I (xC h)) fun v s1 ⟨y,H1,I1,r1,k,i,ey,e,q⟩=>?_
 subst ey;obtain ⟨t,rfl⟩:=r1;refine KTD.item_text (lz I1.kIn l hb) ?_ (mM (fun t'=>⟨.int i,H1,I1.tok _,⟨_,rfl⟩,q⟩) tab e) (hs _ _)
 rw [<-KTD.isSome_datumAt,HB,e];rfl⟩
theorem FE (S:Cp X N gl vs cs ls lo gs) (i:Nat) {x:Str} (hi:N[i]?=some x) (hv:vs.contains i=true) (hb:Q (PE X b (tE X.K W fb))) (hs:Dq b):Q (PE X (.Subscript (.Name x p) b pos) (tE X.K W (cx i fb))):=⟨by
 have hb:=hb.p
 have m:=S.nm x (mem_of_getElem? hi)
 exact aY (pU Fd (wQ (by rw [S.hN];exact hi) (S.vis i x hi hv) m.1 m.2) hb hs) fun _ _ _=>xy⟩
theorem Am {x:Str} {n:Nat} {den:List PySem.PyData->Res} (S:Cp X N gl vs cs ls lo gs) (j:Nat) (hj:gl[j]?=some x) (hg:gs.contains j=true) (C:wN X x n den) (ha:Q (PA X (e::es) (tA X.K W fl))) (he:starEach (e::es) X.env=(false,eval e X.env)::starEach es X.env) (hpl:(backTo pos (starEach es X.env)).any (·.1)=false):Q (PE X (.Call (.Name x p) (e::es) [] pos) (tE X.K W (zX n den fl))):=⟨by
 have ha:=ha.p
 obtain ⟨k,f,fd,ps,F,hr,hm,hk,hb⟩:=C;exact aY (GZ F hr (S.g hj hg).1 hm hk hb .nil uY ha (S.g hj hg).2.1 he hpl) fun _ _ _=>uv⟩
theorem lh (S:Cp X N gl vs cs ls lo gs) (i:Nat) {x:Str} {pos':Pos} (hi:N[i]?=some x) (hl:ls.contains i=true) (ha:Q (PE X a (tE X.K W fa))):Q (PS X (.AugAssign (.Name x pos') .Add a pos) (tS X.K W (gK i fa))):=⟨have ha:=ha.p;eo (Bv (by rw [S.hN];exact S.nd) (by rw [S.hN];exact hi) (S.loc i x hi hl).1 ha Cd (S.loc i x hi hl).2) fun _ _ _=>Ba⟩
theorem gH (S:Cp X N gl vs cs ls lo gs) (i:Nat) {x:Str} {apos cpos:Pos} (hi:N[i]?=some x) (hv:vs.contains i=true) (ha:Q (PE X a (tE X.K W fa))) (hs:starEach [a] X.env=[(false,eval a X.env)]) (hbase:attributeBase (.Name x p) "extend" X.env (eval (.Name x p) X.env)=eval (.Name x p) X.env) (hline:(apos.endLine==cpos.line)=true) (hfew:((backTo cpos (starEach [a] X.env)).all (fun x=>!x.1)&&(backToKw cpos (keywordEach [] X.env)).all (fun x=>x.1.isSome)
   && decide ([a].length+([]:List Keyword).length+(if ([]:List Keyword).isEmpty then 0 else 1)<30))=true) (hsw:swapsWith (.Call (.Attribute (.Name x p) "extend" apos) [a] [] cpos) none pos.line X.env=pure false):Q (PS X (.Expr (.Call (.Attribute (.Name x p) "extend" apos) [a] [] cpos) pos) (tS X.K W (gv i fa))):=⟨T.cs_extend S i hi hv ha.p hs hbase hline hfew hsw⟩
theorem la {tg:Expr} (ha:Q (PE X a (tE X.K W fa))):Q (PI X tg a (tI X.K W (eR fa))):=⟨have ha:=ha.p;nC (By ha) fun _ _ _=>xA⟩
end
end TQ
namespace T
open PySem PySem.Spec L2
open PyProof.Rows hiding St
def mH (neg:Bool):PySem.PyData->PySem.PyData->Option PySem.PyData
 | .bool a,.bool b=>some (.bool (if neg then a != b else a==b))
 | _,_=>none
theorem xY {X:Cx}:OpR X (compareOp .IsNot) (fun x y H Q=>∃a b,x=.bl a/\y=.bl b/\Q (.bl (a != b)) H):=by
 intro pins s σ H x y v u Q I rx ry h;obtain ⟨a,b,rfl,rfl,q⟩:=h
 cases rx
 cases ry;exact isnot_bool (Do I q rfl)
theorem vv {K:Fg}:GOp K (fun x y H Q=>∃a b,x=.bl a/\y=.bl b/\Q (.bl (a != b)) H) (mH true):=by
 intro x y H Q a b d ra rb e k
 cases ra<;>cases rb<;>simp only [mH] at e<;>try cases e
 exact ⟨_,_,rfl,rfl,k _ (.bl _)⟩
theorem Br {X:Cx} (R:Rm X):Ck X .IsNot (fun x y H Q=>∃a b,x=.bl a/\y=.bl b/\Q (.bl (a != b)) H) (mH true):=⟨xY,vv⟩
def Js (neg:Bool):PySem.PyData->PySem.PyData->Option PySem.PyData
 | .str i,.str j=>some (.bool (if neg then !(!(Builtin.Str.occurrences j i 0 j.length 1).isEmpty) else !(Builtin.Str.occurrences j i 0 j.length 1).isEmpty))
 | _,_=>none
def Ex:PySem.PyData->PySem.PyData->Option PySem.PyData
 | .str z,.int k=>if z.length<=sizeLine then some (.str (Txt.slice z none (some k))) else none
 | _,_=>none
def GC (x:Str):It where
 go:=fun i _=>i<x.cps.size
 yld:=fun i H v H'=>H'=H/\∃c,x.cps[i]?=some c/\v=.str ⟨#[c]⟩
 stop:=fun i _=>x.cps.size<=i
theorem qE {P:Program} {w:World} {K:Fg} {tg:Expr} (it:Addr) (x:Str) (t:Tok):sG P w K tg (GC x) [it] it (fun i h=>h.IsStrIter it "str_ascii_iterator" x t i) where
 mem:=by simp
 obj:=fun i h st b hb=>by
  have e:b=it:=by simpa using hb
  subst e;obtain ⟨o,ho,hc,hd⟩:=st;exact ⟨o,ho,fun v z=>by rw [hd] at z;cases z⟩
 keep:=fun i h h' st k=>let ⟨o,ho,r⟩:=st;⟨o,k it (by simp) o ho,r⟩
 item:=by
  intro X hP hw hK hc i pins s σ H E I hf st hg;subst hP hw hK;obtain ⟨f0,f1,f2,f3,f4,f5⟩:=hf it (by simp)
  have W:=Walks.strAscii (prog:=X.prog) (w:=X.w) (I.ok.hd hc) it x t
  refine W.item i s _ _ hg st fun v h' tk hv st' kk=>?_
  obtain ⟨c,u,hx,rfl⟩:=hv;have I1:Inv X pins σ H { s with heap:=h',toks:=tk }:=I.turned (fun b o hb e=>kk b o (by simpa using hb) e) f0 f1 f3 f4 f5
  obtain ⟨o,ho,oc,od⟩:=id st'
  exact ⟨_,rfl,qg (s:={ s with heap:=h',toks:=tk }) (n := "str_ascii_iterator") ho oc od (by decide) ⟨.str ⟨#[c]⟩,H,I1,⟨u,rfl⟩,⟨rfl,c,hx,rfl⟩,st',fun b hb=>(hf b hb).1⟩⟩
 done:=by
  intro X hP hw hK hc i pins s σ H E I hf st hg;subst hP hw hK;obtain ⟨f0,f1,f2,f3,f4,f5⟩:=hf it (by simp)
  exact wpAny_pyNext_ascii_end (I.ok.hd hc) st (by have:x.cps.size<=i:=hg;simp;omega) fun h' eb=>⟨rfl,I.turned (t':=s.toks) (fun b o hb e=>eb b o hb e) f0 f1 f3 f4 f5⟩
 self:=fun _ _ _ _ _ st h=>wpAny_pyIter_striter_ascii st h
def vo (x:Str):TI:=fun σ H R=>R (GC x) H
theorem xP {X:Cx} {tg:Expr} {x:Str} {j:Nat} {pos:Pos} (ha:x.cps.all (·<128)=true):PI X tg (.Constant (.str x) j pos) (vo x):=by
 intro pins s σ H R I h;refine Calls.Constant_str ?_
 refine wpAny_pyIter_ascii ha ?_
 have I1:=I.tok (s.toks+1)
 refine ⟨s.heap.objs.size,[s.heap.objs.size],_,_,H,rfl,I1.kept (t':=s.toks+1) fun b o e=>Heap.get?_push_of_some _ e,qE _ x _,⟨_,Heap.get?_push_size _ rfl,rfl,rfl⟩,fun b hb=>?_,h⟩
 have e:b=s.heap.objs.size:=by simpa using hb
 subst e;exact I1.fpOk (Nat.le_refl _) (I1.hok.fresh (Nat.le_refl _))
def zS (x:Str):List V:=x.cps.toList.map fun c=>.str ⟨#[c]⟩
def EJ (x:Str):List PySem.PyData:=x.cps.toList.map fun c=>.str ⟨#[c]⟩
theorem yn {x:Str}:we (GC x) (fun _=>True) (zS x):=by
 refine ⟨fun i H v _ hv=>?_,fun H _=>?_⟩
 ·unfold zS at hv
  rw [getElem?_map,Array.getElem?_toList] at hv
  cases e:x.cps[i]? with
  | none=>rw [e] at hv;cases hv
  | some c=>
   rw [e] at hv
   cases hv;refine ⟨(Array.getElem?_eq_some_iff.mp e).1,fun y H' ⟨h1,c',h2,h3⟩=>⟨h1,?_⟩⟩
   rw [e] at h2
   cases h2;exact h3
 ·show x.cps.size<=(zS x).length
  unfold zS;rw [length_map,Array.length_toList];exact Nat.le_refl _
theorem xp {K:Fg} {H:Hp} {x:Str}:Reps K H (zS x) (EJ x):=by
 refine ⟨by simp [zS,EJ],fun i v d h1 h2=>?_⟩
 unfold zS at h1;unfold EJ at h2;rw [getElem?_map] at h1 h2
 cases e:x.cps.toList[i]? with
 | none=>rw [e] at h1;cases h1
 | some c=>
  rw [e] at h1 h2
  cases h1
  cases h2;exact .str _
def iY (x:Str):FI:=fun Γ=>.ok ⟨EJ x,true⟩ Γ
theorem uq {K:Fg} {W:XW} {σ:St} {H:Hp} {R:It->Hp->Prop} {x:Str} (h:tI K W (iY x) σ H R):vo x σ H R:=by
 obtain ⟨He,O,Fs,Γ,E,h⟩:=h;exact h (GC x) H Fs (zS x) (fun _=>True) (Same.refl _) E (fun a ha=>.inl ha) yn trivial (fun _ _=>trivial) (fun _ _ _=>trivial) xp
def pN:V->List V->Hp->VK->Prop:=fun x xs H Q=>∃(i j:Str) (k:Nat) (rest:List Nat),x=.str i/\xs=[.str j]/\Builtin.Str.occurrences i j 0 i.length 1=k::rest/\Q (.int k) H
theorem rH {X:Cx}:GA X "str.index" pN:=by
 intro pins s σ H x xs v us Q I rx rv h;obtain ⟨i,j,k,rest,rfl,rfl,ho,q⟩:=h;obtain ⟨t,rfl⟩:=rx;obtain ⟨u,rfl,ru⟩:=rv.one;obtain ⟨t',rfl⟩:=ru;exact SC.index ho ⟨.int k,H,I.tok _,⟨_,rfl⟩,q⟩
def fZ (x:Str):List PySem.PyData->Option PySem.PyData
 | [.str j]=>match Builtin.Str.occurrences x j 0 x.length 1 with
  | k::_=>some (.int k)
  | []=>none
 | _=>none
theorem yy {K:Fg} {x:Str}:GCall K (fun xs H Q=>pN (.str x) xs H Q) (fZ x):=by
 intro vs H Q ds d rs e k;unfold fZ at e;split at e
 ·rename_i j
  obtain ⟨v,rfl,r⟩:=rs.one
  cases r;split at e
  ·rename_i k' rest ho
   cases e;exact ⟨x,j,k',rest,rfl,rfl,ho,k _ (.int _)⟩
  ·cases e
 ·cases e
theorem xx {K:Fg} {W:XW} {σ:St} {H:Hp} {Q:VK} {x:Str} {fl:FL} (h:tE K W (bI (fZ x) fl) σ H Q):Aw K "str" pN (tC (.str x)) (tA K W fl) σ H Q:=
 ⟨rfl,uu yy h⟩
theorem ce_idxS {X:Cx} {W:XW} {x:Str} {j:Nat} {p apos cpos:Pos} {e:Expr} {fe:F1} (ha:PE X e (tE X.K W fe)) (hs:starEach [e] X.env=[(false,eval e X.env)]) (hline:(apos.endLine==cpos.line)=true) :
  PE X (.Call (.Attribute (.Constant (.str x) j p) "index" apos) [e] [] cpos) (tE X.K W (bI (fZ x) (ab fe af))):=
 aY (lX (T := "str") (r:=pN) F.plainAttrs_str F.slot_str_index F.type_str_index rH uR (da_cons ha da_nil hs) rfl (by rw [hs];rfl) hline hs rfl) fun _ _ _=>xx
end T
namespace TQ
open PySem PySem.Spec L2 T
open PyProof.Rows hiding St
theorem qz {X:Cx} {W:XW} {tg:Expr} {x:Str} {j:Nat} {pos:Pos} (ha:x.cps.all (·<128)=true):Q (PI X tg (.Constant (.str x) j pos) (tI X.K W (iY x))):=⟨nC (xP ha) fun _ _ _=>uq⟩
theorem qB {X:Cx} {W:XW} {x:Str} {j:Nat} {p apos cpos:Pos} {e:Expr} {fe:F1} (ha:Q (PE X e (tE X.K W fe))) (hs:starEach [e] X.env=[(false,eval e X.env)]) (hline:(apos.endLine==cpos.line)=true) :
  Q (PE X (.Call (.Attribute (.Constant (.str x) j p) "index" apos) [e] [] cpos) (tE X.K W (bI (fZ x) (ab fe af)))):=⟨T.ce_idxS ha.p hs hline⟩
end TQ
namespace T
open PySem PySem.Spec L2
open PyProof.Rows hiding St
def putN:List Nat->List PV->Ev->Option Ev
 | [],[],Γ=>some Γ
 | i::is,p::ps,Γ=>if decide (i<Γ.length)&&!p.s.isView then putN is ps (Γ.set i (some p)) else none
 | _,_,_=>none
end T
namespace TQ
open PySem PySem.Spec L2 T
open PyProof.Rows hiding St
variable {X:Cx} {N gl:List Str} {vs cs ls lo gs:List Nat} {W:XW} {a:Expr} {pos:Pos} {fa:F1}
end TQ
namespace T
open PySem PySem.Spec L2
open PyProof.Rows hiding St
def cutD (xs:List PySem.PyData) (lo hi:Option Int):List PySem.PyData:=(xs.drop (HT.sIx xs.length 0 lo)).take (HT.sIx xs.length xs.length hi-HT.sIx xs.length 0 lo)
theorem Reps.take {K:Fg} {H:Hp} {vs:List V} {ds:List PySem.PyData} (k:Nat) (h:Reps K H vs ds):Reps K H (vs.take k) (ds.take k):=by
 refine ⟨by rw [length_take,length_take,h.1],fun i v d e1 e2=>?_⟩
 by_cases hi:i<k
 ·rw [List.getElem?_take,if_pos hi] at e1 e2
  exact h.2 _ v d e1 e2
 ·rw [List.getElem?_take,if_neg hi] at e1
  cases e1
theorem Reps.cut {K:Fg} {H:Hp} {vs:List V} {ds:List PySem.PyData} (lo hi:Option Int) (h:Reps K H vs ds):Reps K H (jE vs lo hi) (cutD ds lo hi):=by
 unfold jE cutD;rw [h.1];exact (h.drop _).take _
def dN (g:Int->Option Int×Option Int) (fa fb:F1):F1:=aV fa fun p=>aV fb fun q=>fun Γ=>match p.d,q.d with
 | .list xs,.int k=>if dv p xs then .ok ⟨.lst .leaf,.list (cutD xs (g k).1 (g k).2)⟩ Γ else .no
 | _,_=>.no
section
variable {K:Fg} {W:XW} {σ:St} {H:Hp} {Q:VK} {fa fb:F1}
theorem uj {g:Int->Option Int×Option Int} (h:tE K W (dN g fa fb) σ H Q):tE K W fa σ H fun v H1=>tE K W fb σ H1 fun u H2=>∃k,u=.int k/\Bi K v (g k).1 (g k).2 H2 Q:=by
 refine C4 (R:=fun v u H2=>∃k,u=.int k/\Bi K v (g k).1 (g k).2 H2 Q) h fun He O Fs Γ2 p q v u H1 H2 G1 G2 Fs2 nd s1 s2 E new o1 o2 w=>?_
 obtain ⟨s,d⟩:=p;obtain ⟨s',d'⟩:=q;dsimp only at w o1 o2
 split at w
 ·rename_i xs k
  cases hc:dv ⟨s,.list xs⟩ xs with
  | false=>rw [hc] at w;exact w.elim
  | true=>
   rw [hc] at w;obtain ⟨d1,d2⟩:=CG E.nd;obtain ⟨p1,vs,rfl,q1,_,r1⟩:=o1.items (O':=O++Fs2.flatten) hc xc d1
   have ru:=o2.rep
   cases ru;exact ⟨k,rfl,p1,vs,rfl,q1,fun p' hp'=>w _ _ _ _ (FJ (E.drop (fun a ha=>mem_append_right _ (mem_append_right _ ha)) nd) (s1.trans s2) (fun a ha=>new a (mem_append_right _ (mem_append_right _ ha))) (r1.cut _ _) hp')⟩
 ·exact w.elim
end
end T
namespace TQ
open PySem PySem.Spec L2 T
open PyProof.Rows hiding St
variable {X:Cx} {W:XW} {a b:Expr} {fa fb:F1} {p2 pos:Pos}
theorem HV (ha:Q (PE X a (tE X.K W fa))) (hb:Q (PE X b (tE X.K W fb))):Q (PE X (.Subscript a (.Slice none (some b) none p2) pos) (tE X.K W (dN (fun k=>(none,some k)) fa fb))):=⟨have ha:=ha.p;have hb:=hb.p;aY (Hv pD ha G4 (G5 hb)) fun _ _ _=>uj⟩
theorem ll (ha:Q (PE X a (tE X.K W fa))) (hb:Q (PE X b (tE X.K W fb))):Q (PE X (.Subscript a (.Slice (some b) none none p2) pos) (tE X.K W (dN (fun k=>(some k,none)) fa fb))):=⟨have ha:=ha.p;have hb:=hb.p;aY (Hv pD ha (G5 hb) G4) fun _ _ _=>uj⟩
end TQ
namespace T
open PySem PySem.Spec L2
open PyProof.Rows hiding St
def Bj (K:Fg):V->List V->Hp->VK->Prop:=fun x xs H Q=>∃(l:Addr) (ns:List Int) (k:Int) (j:Nat),x=.ref l/\xs=[.int k]/\SqL K H l (ns.map V.int)/\ns[j]?=some k/\(∀m,m<j->ns[m]?≠some k)/\Q (.int j) H
theorem qe:∀{us:List Value} {ns:List Int} {m:Nat} {u:Value} {k:Int},IntsAre us ns->us[m]?=some u->isInt k u=true->ns[m]?=some k
 | _,_,_,_,_,.nil,h,_=>by simp at h
 | _,_,0,_,_,.cons n t r,h,e=>by
  simp at h
  subst h;simp [isInt] at e
  simp [e]
 | _,_,m+1,_,_,.cons n t r,h,e=>by
  simp only [List.getElem?_cons_succ] at h ⊢
  exact qe r h e
theorem mE:∀{us:List Value} {ns:List Int} {m:Nat} {u:Value} {k:Int},IntsAre us ns->us[m]?=some u->ns[m]?=some k->isInt k u=true
 | _,_,_,_,_,.nil,h,_=>by simp at h
 | _,_,0,_,_,.cons n t r,h,e=>by
  simp at h e
  subst h e;simp [isInt]
 | _,_,m+1,_,_,.cons n t r,h,e=>by
  simp only [List.getElem?_cons_succ] at h e
  exact mE r h e
theorem rJ {X:Cx}:GA X "list.index" (Bj X.K):=by
 intro pins s σ H x xs v us Q I rx rv h;obtain ⟨l,ns,k,j,rfl,rfl,hS,hj,hno,q⟩:=h
 cases rx;obtain ⟨u,rfl,ru⟩:=rv.one;obtain ⟨t,rfl⟩:=ru;obtain ⟨its,r,pl,hz⟩:=I.list hS;have hI:=GW r
 have hl:its.length=ns.length:=by rw [<-r.length,length_map]
 have hjl:j<its.toArray.size:=by rw [size_toArray,hl];exact (List.getElem?_eq_some_iff.mp hj).1
 obtain ⟨o,n,ho,hc,hd,hdt⟩:=pl;obtain ⟨ocls,odict,odata,oslots⟩:=o;simp only at hc hd hdt
 subst hc hd hdt;have hsm:(j:Int)<2 ^ 63-1:=by
  rw [length_map] at hz;have h1:sizeLine<2 ^ 62:=by decide
  have:=(List.getElem?_eq_some_iff.mp hj).1
  omega
 refine call_meets F.slot_list_index ⟨_,ho,rfl⟩ F.entry_list_index (F.args_list_index_2 _ _) (SeqAt.list_indexAt l its.toArray n none oslots (.int k t) (isInt k) j hjl hsm ?_ fun m hm hmj=>?_) ⟨ho,fun y hy=>?_,⟨.int j,H,I.tok _,⟨_,rfl⟩,q⟩⟩
 ·exact mE hI (m:=j) (u:=its.toArray[j]) (by simp at hjl ⊢) hj
 ·cases e:isInt k its.toArray[m] with
  | false=>rfl
  | true=>exact absurd (qe hI (m:=m) (u:=its.toArray[m]) (by simp at hm ⊢) e) (hno m hmj)
 ·exact (eq_isInt k t hI y (by simpa using hy)).at _ _
def mD:Option (Option PV)->Bool
 | some (some ⟨.leaf,.list _⟩)=>true
 | _=>false
theorem vj {o:Option (Option PV)} (h:mD o=true):∃ds,o=some (some ⟨.leaf,.list ds⟩):=by
 unfold mD at h;split at h
 ·exact ⟨_,rfl⟩
 ·cases h
def zK (k:Int):List Int->Option Nat
 | []=>none
 | n::r=>if n=k then some 0 else (zK k r).map (·+1)
theorem Hh {k:Int}:∀{ns:List Int} {j:Nat},zK k ns=some j->ns[j]?=some k/\∀m,m<j->ns[m]?≠some k
 | [],_,h=>by cases h
 | n::r,j,h=>by
  unfold zK at h;by_cases e:n=k
  ·rw [if_pos e] at h
   cases h;exact ⟨by simp [e],fun m hm=>by omega⟩
  ·rw [if_neg e] at h
   cases hr:zK k r with
   | none=>rw [hr] at h;cases h
   | some j'=>
    rw [hr] at h
    cases h;obtain ⟨h1,h2⟩:=Hh hr;refine ⟨by simpa using h1,fun m hm=>?_⟩
    cases m with
    | zero=>simpa using e
    | succ m=>simpa using h2 m (by have:m+1<j'+1:=hm;omega)
def ym (i:Nat) (q:PV):Ev->Out PV:=fun Γ=>match Γ[i]?,q.d with
 | some (some ⟨.leaf,.list ds⟩),.int k=>(match sI ds with
  | some ns=>(match zK k ns with
   | some j=>.ok ⟨.leaf,.int (j:Nat)⟩ Γ
   | none=>.no)
  | none=>.no)
 | _,_=>.no
def mN (i:Nat) (fb:F1):F1:=fun Γ=>if mD Γ[i]? then (fb Γ).bind (ym i) else .no
section
variable {K:Fg} {W:XW} {σ:St} {H:Hp} {Q:VK} {fb:F1}
theorem pX {He:Hp} {O:List Addr} {Fs:List (List Addr)} {Γ:Ev} {i:Nat} {ds:List PySem.PyData} (E:EnvOk K He O Fs H σ Γ) (h:Γ[i]?=some (some ⟨.leaf,.list ds⟩)):∃l vs,σ[i]?=some (some (.ref l))/\SqL K H l vs/\Reps K H vs ds:=by
 obtain ⟨_,v,F,h1,_,o⟩:=E.slot i _ h;have r:=o.rep
 cases r with
 | @lst a vs _ hq hl hr=>exact ⟨a,vs,h1,hq,hl,hr⟩
theorem AU {i:Nat} (h:tE K W (mN i fb) σ H Q):Aw K "list" (Bj K) (bh i) (tA K W (ab fb af)) σ H Q:=by
 obtain ⟨He,O,Fs,Γ,E,h⟩:=h;unfold mN at h
 cases ho:mD Γ[i]? with
 | false=>rw [ho] at h;exact h.elim
 | true=>
  rw [ho] at h;obtain ⟨ds,e0⟩:=vj ho;obtain ⟨l,vs,h1,h2,h3⟩:=pX E e0;refine ⟨.ref l,h1,.inl ⟨rfl,vs,h2⟩,Fi ?_⟩
  refine wz (k:=ym i) ⟨He,O,Fs,Γ,E,h⟩ fun He O Fs Γ1 q u H1 G Fs1 nd A w=>?_
  unfold ym at w;split at w
  ·rename_i ds1 k e1 e2
   obtain ⟨l1,vs1,q1,q2,q3⟩:=pX A.go e1;rw [h1] at q1
   cases q1;have r:=A.own.rep
   rw [e2] at r
   cases r
   cases hi:sI ds1 with
   | none=>rw [hi] at w;exact w.elim
   | some ns=>
    rw [hi] at w;dsimp only at w
    cases hj:zK k ns with
    | none=>rw [hj] at w;exact w.elim
    | some j=>
     rw [hj] at w;rw [HQ hi] at q3;have ev:=qP q3
     subst ev;obtain ⟨a1,a2⟩:=Hh hj;exact ⟨l,ns,k,j,rfl,rfl,q2,a1,a2,w _ _ _ _ (pY A.go A.same A.newF (.int _))⟩
  ·exact w.elim
end
section
variable {X:Cx} {N gl:List Str} {vs cs ls lo gs:List Nat} {W:XW} {e:Expr} {fe:F1} {p:Pos}
theorem ce_ixN (S:Cp X N gl vs cs ls lo gs) (i:Nat) {x:Str} {apos cpos:Pos} (hi:N[i]?=some x) (hv:vs.contains i=true) (ha:PE X e (tE X.K W fe)) (hbase:attributeBase (.Name x p) "index" X.env (eval (.Name x p) X.env)=eval (.Name x p) X.env) (hs:starEach [e] X.env=[(false,eval e X.env)]) (hline:(apos.endLine==cpos.line)=true) :
  PE X (.Call (.Attribute (.Name x p) "index" apos) [e] [] cpos) (tE X.K W (mN i fe)):=by
 have m:=S.nm x (mem_of_getElem? hi)
 exact aY (lX (T := "list") (r:=Bj X.K) F.plainAttrs_list F.slot_list_index F.type_list_index rJ (wQ (by rw [S.hN];exact hi) (S.vis i x hi hv) m.1 m.2) (da_cons ha da_nil hs) hbase (by rw [hs];rfl) hline hs rfl) fun _ _ _=>AU
end
end T
namespace TQ
open PySem PySem.Spec L2 T
open PyProof.Rows hiding St
variable {X:Cx} {N gl:List Str} {vs cs ls lo gs:List Nat} {W:XW} {e a:Expr} {fe fa:F1} {p pos:Pos}
theorem tJ (S:Cp X N gl vs cs ls lo gs) (i:Nat) {x:Str} {apos cpos:Pos} (hi:N[i]?=some x) (hv:vs.contains i=true) (ha:Q (PE X e (tE X.K W fe))) (hbase:attributeBase (.Name x p) "index" X.env (eval (.Name x p) X.env)=eval (.Name x p) X.env) (hs:starEach [e] X.env=[(false,eval e X.env)]) (hline:(apos.endLine==cpos.line)=true) :
  Q (PE X (.Call (.Attribute (.Name x p) "index" apos) [e] [] cpos) (tE X.K W (mN i fe))):=⟨T.ce_ixN S i hi hv ha.p hbase hs hline⟩
variable {X:Cx} {N gl:List Str} {vs cs ls lo gs:List Nat} {W:XW} {a:Expr} {pos p:Pos} {fa:F1}
variable {X:Cx} {N gl:List Str} {vs cs ls lo gs:List Nat} {W:XW} {a:Expr} {pos p:Pos} {fa:F1}
end TQ
namespace T
open PySem PySem.Spec L2
open PyProof.Rows hiding St
theorem Dv:(1000:Nat)<=sizeLine:=by decide
theorem Ik {i:Nat} {fc:FB} {fe:F1} {s:Sh} {c:D->Bool} {f:D->PV} {Γ:Ev} (hΓ:Γ.set i none=Γ):∀(r acc:List D),(∀d∈r,fc (Γ.set i (some ⟨.leaf,d⟩))=.ok (c d) (Γ.set i (some ⟨.leaf,d⟩))) ->
  (∀d∈r,c d=true->fe (Γ.set i (some ⟨.leaf,d⟩))=.ok (f d) (Γ.set i (some ⟨.leaf,d⟩))/\coer s (f d)=true)->acc.length+r.length<=sizeLine->qu i fc fe s r Γ acc=.ok (acc++((r.filter c).map fun d=>(f d).d)) Γ
 | [],acc,_,_,_=>by simp [qu]
 | d::r,acc,hc,he,hl=>by
  have h1:=hc d mem_cons_self
  have hl1:acc.length<sizeLine:=by simp at hl;omega
  have back:(Γ.set i (some ⟨.leaf,d⟩)).set i none=Γ:=by rw [set_set];exact hΓ
  rw [qu,h1]
  cases hcd:c d with
  | false=>
   dsimp only;rw [if_pos hl1,back,Ik hΓ r acc (fun d hd=>hc d (mem_cons_of_mem _ hd)) (fun d hd=>he d (mem_cons_of_mem _ hd)) (by simp at hl;omega)]
   rw [List.filter_cons_of_neg (by rw [hcd];exact Bool.false_ne_true)]
  | true=>
   obtain ⟨h2,h3⟩:=he d mem_cons_self hcd;dsimp only;rw [h2];dsimp only;rw [h3,decide_eq_true hl1,Bool.and_self,if_pos rfl,back,Ik hΓ r (acc++[(f d).d]) (fun d hd=>hc d (mem_cons_of_mem _ hd)) (fun d hd=>he d (mem_cons_of_mem _ hd)) (by simp at hl ⊢;omega)]
   rw [List.filter_cons_of_pos hcd,map_cons,append_assoc];rfl
theorem i5 {s:Sh} {i:Nat} {fi:FI} {fc:FB} {fe:F1} {c:D->Bool} {f:D->PV} {ds:List D} {st:Bool} {Γ:Ev} (hi:fi Γ=.ok ⟨ds,st⟩ Γ) (hl:i<Γ.length) (hs:s.isView=false) (hn:ds.length<=1000)
  (hc:∀d∈ds,fc (Γ.set i (some ⟨.leaf,d⟩))=.ok (c d) (Γ.set i (some ⟨.leaf,d⟩))) (he:∀d∈ds,c d=true->fe (Γ.set i (some ⟨.leaf,d⟩))=.ok (f d) (Γ.set i (some ⟨.leaf,d⟩))/\coer s (f d)=true) :
  aw s i fi fc fe Γ=.ok ⟨.lst s,.list ((ds.filter c).map fun d=>(f d).d)⟩ Γ:=by
 have hb:=Dv
 unfold aw;rw [hi];unfold Out.bind;dsimp only;rw [Ik (c:=c) (f:=f) (by rw [set_set]) ds [] (fun d hd=>by rw [set_set];exact hc d hd) (fun d hd=>by rw [set_set];exact he d hd) (by simp;omega)]
 dsimp only;rw [hs,decide_eq_true hl];simp only [Bool.not_false,Bool.and_self,if_true,nil_append,set_set]
 have:Γ.set i (Γ.getD i none)=Γ:=by
  apply zj
  rw [getD_eq_getElem?_getD,getElem?_eq_getElem hl];rfl
 rw [this]
theorem C6 {s:Sh} {i:Nat} {fi:FI} {fe:F1} {f:D->PV} {ds:List D} {st:Bool} {Γ:Ev} (hi:fi Γ=.ok ⟨ds,st⟩ Γ) (hl:i<Γ.length) (hs:s.isView=false) (hn:ds.length<=1000)
  (he:∀d∈ds,fe (Γ.set i (some ⟨.leaf,d⟩))=.ok (f d) (Γ.set i (some ⟨.leaf,d⟩))/\coer s (f d)=true) :
  aw s i fi aI fe Γ=.ok ⟨.lst s,.list (ds.map fun d=>(f d).d)⟩ Γ:=by
 rw [i5 (fc:=aI) (c:=fun _=>true) (f:=f) hi hl hs hn (fun d hd=>rfl) fun d hd _=>he d hd,List.filter_eq_self.mpr fun _ _=>rfl]
theorem Ht {P:Nat->Ev->Prop} {i:Nat} {body:FS}:∀(ds:List D) (n:Nat) (Γ:Ev),P n Γ->(∀k d Γ,d∈ds->n<=k->k<n+ds.length->P k Γ->i<Γ.length/\∃Γ',body (Γ.set i (some ⟨.leaf,d⟩))=.nx Γ'/\P (k+1) Γ')->∃Γ',bF i body ds Γ=.nx Γ'/\P (n+ds.length) Γ'
 | [],n,Γ,h,_=>⟨Γ,rfl,h⟩
 | d::r,n,Γ,h,st=>by
  obtain ⟨hi,Γ1,e1,h1⟩:=st n d Γ mem_cons_self (Nat.le_refl _) (by simp) h
  obtain ⟨Γ2,e2,h2⟩:=Ht r (n+1) Γ1 h1 fun k d Γ hd a b c=>st k d Γ (mem_cons_of_mem _ hd) (by omega) (by simp;omega) c
  refine ⟨Γ2,?_,?_⟩
  ·rw [bF,if_pos hi,e1]
   exact e2
  ·rw [length_cons,show n+(r.length+1)=n+1+r.length by omega]
   exact h2
theorem Hu {any:Bool} {α:Type} {xs:List α} {f:α->Bool}:sU (xs.map fun x=>.bool (f x))=some (xs.map f):=by
 induction xs with
 | nil=>rfl
 | cons x r ih=>rw [map_cons,sU,ih];rfl
theorem wV {α:Type} {xs:List α} {f:α->Bool}:cw false [.list (xs.map fun x=>.bool (f x))]=some (.bool (xs.all f)):=by
 show Option.map _ (sU _)=_
 rw [Hu (any:=false)];simp [List.all_map]
section
variable {Γ Γ1 Γ2:Ev} {fa fb fc:F1} {fl:FL} {p q:PV} {ps:List PV} {d e:D} {s s' s2:Sh} {i j n:Nat}
theorem ay (h:Γ[i]?=some (some ⟨.leaf,d⟩)):ae i Γ=.ok ⟨.leaf,d⟩ Γ:=by unfold ae;rw [h]
theorem DG (h:Γ[i]?=some (some ⟨.lst s,d⟩)):ae i Γ=.ok ⟨.view,d⟩ Γ:=by unfold ae;rw [h]
theorem CZ (h:Γ[i]?=some (some p)):b9 i Γ=.ok p (Γ.set i none):=by unfold b9;rw [h]
theorem bg:eK d Γ=.ok ⟨.leaf,d⟩ Γ:=rfl
theorem aT {g:D->D->Option D} (ha:fa Γ=.ok p Γ1) (hb:fb Γ1=.ok q Γ2) (hg:g p.d q.d=some d):aA g fa fb Γ=.ok ⟨.leaf,d⟩ Γ2:=by
 unfold aA aV;rw [ha];simp only [Out.bind];rw [hb];simp only [hg]
theorem FX {g:D->Option D} (ha:fa Γ=.ok p Γ1) (hg:g p.d=some d):eU g fa Γ=.ok ⟨.leaf,d⟩ Γ1:=by
 unfold eU aV;rw [ha];simp only [Out.bind,hg]
theorem az (ha:fa Γ=.ok p Γ1) (hl:fl Γ1=.ok ps Γ2):ab fa fl Γ=.ok (p::ps) Γ2:=by
 unfold ab;rw [ha];simp only [Out.bind];rw [hl]
theorem aj:af Γ=.ok [] Γ:=rfl
theorem dz {g:List D->Option D} (hl:fl Γ=.ok ps Γ1) (hg:g (ps.map (·.d))=some d):bI g fl Γ=.ok ⟨.leaf,d⟩ Γ1:=by
 unfold bI;rw [hl];simp only [Out.bind];rw [hg]
theorem bP {den:List D->Res} (hl:fl Γ=.ok ps Γ1) (hd:den (ps.map (·.d))=.ok p) (hn:ps.length=n) (hc:ps.all (coer .leaf)=true):ag n den fl Γ=.ok p Γ1:=by
 unfold ag;rw [hl];simp only [Out.bind,hn,hd,hc,if_true]
theorem wA {ds:List D} {k:Int} (ha:fa Γ=.ok ⟨s,.list ds⟩ Γ1) (hb:fb Γ1=.ok ⟨s',.int k⟩ Γ2) (hi:eC ds.length k=some j) (hd:ds[j]?=some d) (hs:nF s j d=some s2):ah fa fb Γ=.ok ⟨s2,d⟩ Γ2:=by
 unfold ah aV;rw [ha];simp only [Out.bind];rw [hb];simp only [hi,hd,hs]
theorem wU {ds:List D} {k:Int} (ha:fa Γ=.ok ⟨s,.tuple ds⟩ Γ1) (hb:fb Γ1=.ok ⟨s',.int k⟩ Γ2) (hi:eC ds.length k=some j) (hd:ds[j]?=some d) (hs:nF s j d=some s2):ah fa fb Γ=.ok ⟨s2,d⟩ Γ2:=by
 unfold ah aV;rw [ha];simp only [Out.bind];rw [hb];simp only [hi,hd,hs]
theorem GK {x:Str} {k:Int} {c:Nat} (ha:fa Γ=.ok ⟨s,.str x⟩ Γ1) (hb:fb Γ1=.ok ⟨s',.int k⟩ Γ2) (hn:x.length<=sizeLine) (hi:eF x.cps.toList k=some c):ah fa fb Γ=.ok ⟨.leaf,.str ⟨#[c]⟩⟩ Γ2:=by
 unfold ah aV;rw [ha];simp only [Out.bind];rw [hb];simp only [hi,hn,if_true]
theorem nG (hl:fl Γ=.ok ps Γ1) (hs:s.isView=false) (hc:ps.all (coer s)=true) (hn:decide (ps.length<=1000)=true):aU s fl Γ=.ok ⟨.lst s,.list (ps.map (·.d))⟩ Γ1:=by
 have h2:ps.length<=sizeLine:=Nat.le_trans (of_decide_eq_true hn) Dv
 unfold aU;rw [hl];simp only [Out.bind,hs,hc,decide_eq_true h2,Bool.not_false,Bool.and_self,if_true]
theorem cj (hl:fl Γ=.ok ps Γ1) (hc:ps.all tok=true) (hn:decide (ps.length<=1000)=true):bE fl Γ=.ok ⟨.tup (ps.map wH),.tuple (ps.map (·.d))⟩ Γ1:=by
 have h2:ps.length<=sizeLine:=Nat.le_trans (of_decide_eq_true hn) Dv
 unfold bE;rw [hl];simp only [Out.bind,hc,decide_eq_true h2,Bool.and_self,if_true]
theorem HC {ds:List D} (ha:fa Γ=.ok ⟨s,.list ds⟩ Γ1) (ho:dv ⟨s,.list ds⟩ ds=true):zf fa Γ=.ok ⟨.lst .leaf,.list ds⟩ Γ1:=by
 unfold zf aV;rw [ha];simp only [Out.bind,ho,if_true]
theorem v_and {a b:Bool} (ha:fa Γ=.ok ⟨s,.bool a⟩ Γ) (hb:fb Γ=.ok ⟨.leaf,.bool b⟩ Γ):gz fa fb Γ=.ok ⟨.leaf,.bool (a&&b)⟩ Γ:=by
 unfold gz aV;rw [ha];simp only [Out.bind]
 cases a with
 | false=>rfl
 | true=>exact hb
theorem HF {g g':D->D->Option D} {b b':Bool} (ha:fa Γ=.ok p Γ) (hb:fb Γ=.ok q Γ) (hg:g p.d q.d=some (.bool b)) (hs:bD q.d=true) {z:PV} (hc:fc Γ=.ok z Γ) (hg':g' q.d z.d=some (.bool b')):sV g g' fa fb fc Γ=.ok ⟨.leaf,.bool (b&&b')⟩ Γ:=by
 unfold sV aV;rw [ha];simp only [Out.bind];rw [hb];simp only [hg]
 cases b with
 | false=>rfl
 | true=>simp only [hs,if_true,hc,hg',Bool.true_and]
theorem gF (ha:fa Γ=.ok ⟨s,.bool b⟩ Γ1):aM ao fa Γ=.ok b Γ1:=by unfold aM;rw [ha];rfl
theorem nu (ha:fa Γ=.ok ⟨s,.bool b⟩ Γ1):aM bG fa Γ=.ok b Γ1:=by unfold aM;rw [ha];rfl
theorem ji {ga:FB} {b:Bool} (h:ga Γ=.ok b Γ1):dC ga Γ=.ok (!b) Γ1:=by unfold dC;rw [h];rfl
theorem ES {ga gb:FB} {a b:Bool} (ha:ga Γ=.ok a Γ) (hb:gb Γ=.ok b Γ):gC ga gb Γ=.ok (a&&b) Γ:=by
 unfold gC;rw [ha];simp only [Out.bind]
 cases a with
 | false=>rfl
 | true=>exact hb
theorem sF {ga gb:FB} {a b:Bool} (ha:ga Γ=.ok a Γ) (hb:gb Γ=.ok b Γ):jj ga gb Γ=.ok (a||b) Γ:=by
 unfold jj;rw [ha];simp only [Out.bind]
 cases a with
 | false=>exact hb
 | true=>rfl
theorem b7 {ds:List D} (ha:fa Γ=.ok ⟨s,.list ds⟩ Γ1) (ho:dv ⟨s,.list ds⟩ ds=true):aL fa Γ=.ok ⟨ds,!s.isView⟩ Γ1:=by
 unfold aL;rw [ha];simp only [Out.bind,ho,if_true]
theorem tu {k:Int} (hl:fl Γ=.ok ps Γ1) (hp:ps.map (·.d)=[.int k]) (h0:-1000<=k) (h1:k<=100000):gQ fl Γ=.ok ⟨cg 0 k.toNat,true⟩ Γ1:=by
 have h3:dq k=true:=by unfold dq;simp only [Bool.and_eq_true,decide_eq_true_eq];omega
 unfold gQ;rw [hl];simp only [Out.bind,hp,jt,h3,if_true]
theorem DD {k m:Int} (hl:fl Γ=.ok ps Γ1) (hp:ps.map (·.d)=[.int k,.int m]) (h0:-1000<=k) (h1:k<=100000) (h2:-1000<=m) (h4:m<=100000):yr fl Γ=.ok ⟨cg k (m-k).toNat,true⟩ Γ1:=by
 have h3:dq k=true:=by unfold dq;simp only [Bool.and_eq_true,decide_eq_true_eq];omega
 have h5:dq m=true:=by unfold dq;simp only [Bool.and_eq_true,decide_eq_true_eq];omega
 unfold yr;rw [hl];simp only [Out.bind,hp,qO,h3,h5,Bool.and_self,if_true]
theorem ax {g1 g2:FS} {o:fO} (h1:g1 Γ=.nx Γ1) (h2:g2 Γ1=o):ak g1 g2 Γ=o:=by unfold ak;rw [h1];exact h2
theorem wB {g1 g2:FS} (h1:g1 Γ=.rt p):ak g1 g2 Γ=.rt p:=by unfold ak;rw [h1]
theorem cb {c:FB} {a b:FS} {t:Bool} {o:fO} (hc:c Γ=.ok t Γ1) (ht:t=true->a Γ1=o) (hf:t=false->b Γ1=o):bW c a b Γ=o:=by
 unfold bW;rw [hc]
 cases t with
 | true=>exact ht rfl
 | false=>exact hf rfl
theorem bf (h:fa Γ=.ok p Γ1) (hs:p.s.isView=false):aF fa Γ=.rt p:=by
 unfold aF iF;rw [h];simp only [hs];rfl
theorem dS (h:fa Γ=.ok p Γ1) (hc:coer .leaf p=true) (hi:i<Γ1.length):aB false i fa Γ=.nx (Γ1.set i (some ⟨.leaf,p.d⟩)):=by
 unfold aB iF;rw [h];simp only [hi,if_true,hc,Bool.false_and];rfl
theorem Ac (h:fa Γ=.ok p Γ1) (hs:p.s.isView=false) (hi:i<Γ1.length):aB true i fa Γ=.nx (Γ1.set i (some p)):=by
 unfold aB iF;rw [h];simp only [hi,if_true,hs,Bool.true_and,Bool.not_false]
theorem FN {ds:List D} (ho:Γ[i]?=some (some ⟨.lst s,.list ds⟩)) (h:fa Γ=.ok p Γ) (hc:coer s p=true) (hn:ds.length<=900):eE i fa Γ=.nx (Γ.set i (some ⟨.lst s,.list (ds++[p.d])⟩)):=by
 have h2:ds.length<sizeLine:=Nat.lt_of_lt_of_le (by omega:ds.length<1000) Dv
 unfold eE C2;rw [ho];simp only [if_true];unfold iF;rw [h];simp only;unfold yZ;rw [ho];simp only [hc,decide_eq_true h2,Bool.and_self,if_true]
theorem Aj {ds:List D} {k:Int} (ho:Γ[i]?=some (some ⟨.lst .leaf,.list ds⟩)) (h:fa Γ=.ok p Γ) (hk:fb Γ=.ok ⟨s,.int k⟩ Γ) (hi:eC ds.length k=some j) (hc:coer .leaf p=true):fT i fa fb Γ=.nx (Γ.set i (some ⟨.lst .leaf,.list (ds.set j p.d)⟩)):=by
 unfold fT sJ;rw [ho];simp only [if_true];unfold iF;rw [h];simp only;rw [hk];simp only;unfold AB;rw [ho];simp only [hi,hc,if_true]
theorem eG {fi:FI} {body:FS} {ds:List D} {o:fO} (h:fi Γ=.ok ⟨ds,true⟩ Γ1) (hg:bF i body ds Γ1=o):dA i fi body Γ=o:=by unfold dA;rw [h];exact hg
end
end T
namespace KC
open PySem PySem.Spec L2 T
open PyProof.Rows hiding St
noncomputable def bO:PySem.PyData:=.tuple [.str "a",.str "b",.str "c",.str "d",.str "e",.str "f"]
noncomputable def cD:PySem.PyData:=.tuple [.int 0,.int 1]
noncomputable def d6:PySem.PyData:=.int 24
noncomputable def cX:PySem.PyData:=.int 200
noncomputable def cY:PySem.PyData:=.int 24
noncomputable def bZ:PySem.PyData:=.tuple [.str "some until",.str "all until"]
noncomputable def cN:PySem.PyData:=.tuple [.str "some always",.str "all always"]
noncomputable def bt:PySem.PyData:=.tuple [.str "some next",.str "some until",.str "all always"]
noncomputable def iw:List (Str×Int):=[("yes",0),("not",1),("some next",1),("all next",1),("some always",1),("all always",1),("and",2),("or",2),("some until",2),("all until",2)]
noncomputable def mZ:FS:=(aF (bI (cw false) (ab (aw .leaf 1 (yr (ab (eK (.int 1)) (ab (bI bB (ab (ae 0) af)) af))) aI (aA i2 (ah (ae 0) (aA gSub (ae 1) (eK (.int 1)))) (ah (ae 0) (ae 1)))) af)))
noncomputable def dD:List PySem.PyData->Res:=aC 2 mZ
noncomputable def nc:FS:=(aF (gz (bI (cw false) (ab (aw .leaf 1 (aL (ae 0)) aI (aA (bj false) (ae 1) (eK bO))) af)) (ag 1 dD (ab (ae 0) af))))
noncomputable def br:List PySem.PyData->Res:=aC 2 nc
noncomputable def m9:FS:=(aF (gz (bI (cw false) (ab (aw .leaf 2 (aL (ae 0)) aI (sV zP i2 (eK (.int 0)) (ae 2) (ae 1))) af)) (ag 1 dD (ab (ae 0) af))))
noncomputable def cL:List PySem.PyData->Res:=aC 3 m9
noncomputable def m8:FS:=(aF (gz (aA nJ (bI bB (ab (ae 0) af)) (eK (.int 0))) (ag 2 cL (ab (ae 0) (ab (ae 1) af)))))
noncomputable def dE:List PySem.PyData->Res:=aC 2 m8
noncomputable def oS:FS:=(ak (aB false 3 (bI bB (ab (ae 0) af)))
  (ak (bW (jj (aM ao (aA i2 (ae 3) (eK (.int 1)))) (jj (aM ao (aA nJ (ae 3) (eK d6))) (jj (aM ao (aA mG (bI bB (ab (ae 1) af)) (ae 3))) (aM ao (aA mG (bI bB (ab (ae 2) af)) (ae 3)))))) (aF (eK (.bool false))) aG)
  (ak (bW (dC (aM bG (bI (cw false) (ab (aw .leaf 4 (aL (ae 0)) aI (aA (bj false) (ae 4) (eK cD))) af)))) (aF (eK (.bool false))) aG)
  (aF (gz (bI (cw false) (ab (aw .leaf 5 (aL (ae 1)) aI (ag 1 br (ab (ae 5) af))) af)) (bI (cw false) (ab (aw .leaf 5 (aL (ae 2)) aI (ag 2 dE (ab (ae 5) (ab (ae 3) af)))) af)))))))
noncomputable def dX:List PySem.PyData->Res:=aC 6 oS
noncomputable def jD:FS:=(bW (dC (aM bG (ag 3 dX (ab (ah (ae 0) (eK (.int 0))) (ab (ah (ae 0) (eK (.int 1))) (ab (ah (ae 0) (eK (.int 2))) af)))))) sO aG)
noncomputable def aD:List PySem.PyData->Res:=aC 1 jD
noncomputable def du:FS:=(aF (yG (aM ao (aA df (ah (ae 0) (eK (.int 0))) (eK (.str "mark")))) (bE af) (yD (ae 0) (eK (.int 1)))))
noncomputable def aR:List PySem.PyData->Res:=aC 1 du
noncomputable def cO:FS:=(ak (bW (jj (dC (aM bG (vE "tuple" (ae 0)))) (jj (aM ao (aA df (bI bB (ab (ae 0) af)) (eK (.int 0)))) (dC (aM bG (vE "str" (ah (ae 0) (eK (.int 0)))))))) (aF (eK (.bool false))) aG)
  (ak (bW (aM ao (aA df (ah (ae 0) (eK (.int 0))) (eK (.str "mark")))) (aF (gz (aA df (bI bB (ab (ae 0) af)) (eK (.int 2))) (aA (bj false) (ah (ae 0) (eK (.int 1))) (eK bO)))) aG)
  (aF (gz (vF false iw (ah (ae 0) (eK (.int 0)))) (aA df (bI bB (ab (ae 0) af)) (aA aS (eK (.int 1)) (qj iw (ah (ae 0) (eK (.int 0))))))))))
noncomputable def bA:List PySem.PyData->Res:=aC 1 cO
noncomputable def eX:FS:=(ak (aB true 1 (aU .leaf af))
  (ak (dA 2 (aL (ae 0))
  (gv 1 (ag 1 aR (ab (ae 2) af))))
  (aF (b9 1))))
noncomputable def cn:List PySem.PyData->Res:=aC 3 eX
noncomputable def gS:FS:=(ak (aB true 1 (aU .leaf af))
  (ak (aB false 2 (aU .leaf (ab (ae 0) af)))
  (ak (aB false 3 (eK (.int 0)))
  (ak (nM 1000 (aM bG (ae 2))
  (ak (gK 3 (bI bB (ab (ae 2) af)))
  (ak (bW (jj (aM ao (aA nJ (ae 3) (eK cX))) (jj (aM ao (aA df (bI bB (ab (ae 1) af)) (eK cY))) (dC (aM bG (bI (cw false) (ab (aw .leaf 4 (aL (ae 2)) aI (ag 1 bA (ab (ae 4) af))) af)))))) (aF (eK .none)) aG)
  (ak (eE 1 (ae 2))
  (aB false 2 (ag 1 cn (ab (ae 2) af)))))))
  (aF (b9 1))))))
noncomputable def eN:List PySem.PyData->Res:=aC 5 gS
noncomputable def dO:FS:=(ak (aB false 1 (ag 1 eN (ab (ae 0) af)))
  (ak (bW (aM ao (aA (b6 false) (ae 1) (eK .none))) sO aG)
  (aF (ae 1))))
noncomputable def cC:List PySem.PyData->Res:=aC 2 dO
noncomputable def dP:FS:=(bq (ag 1 cC (ab (ae 0) af)))
noncomputable def bS:List PySem.PyData->Res:=aC 1 dP
noncomputable def fE:FS:=(aF (aw .leaf 2 (gQ (ab (bI bB (ab (ah (ae 0) (eK (.int 0))) af)) af)) (aM ao (aA (bj true) (ae 2) (ae 1))) (ae 2)))
noncomputable def cE:List PySem.PyData->Res:=aC 3 fE
noncomputable def m4:FS:=(aF (yG (aM bG (ae 0)) (bI (cw true) (ab (ae 1) af)) (bI (cw false) (ab (ae 1) af))))
noncomputable def cK:List PySem.PyData->Res:=aC 2 m4
noncomputable def dt:FS:=(ak (bW (aM ao (aA (bj false) (ah (ae 1) (eK (.int 0))) (eK bZ))) (aF (bE (ab (ah (ae 2) (eK (.int 0))) (ab (ah (ae 2) (eK (.int 1))) af)))) aG)
  (aF (bE (ab (yF (ab (bI bB (ab (ah (ae 0) (eK (.int 0))) af)) af)) (ab (ag 2 cE (ab (ae 0) (ab (ah (ae 2) (eK (.int 0))) af))) af)))))
noncomputable def bb:List PySem.PyData->Res:=aC 3 dt
noncomputable def fD:FS:=(ak (aB true 4 (aU .leaf af))
  (ak (dA 5 (aL (ae 2))
  (bW (gC (aM ao (aA (b6 false) (ah (ae 3) (ae 5)) (eK .none))) (aM bG (ag 2 cK (ab (ah (ae 1) (ae 5)) (ab (aw .leaf 6 (aL (ah (ah (ae 0) (eK (.int 2))) (ae 5))) aI (aA (b6 true) (ah (ae 3) (ae 6)) (eK .none))) af))))) (eE 4 (ae 5)) aG))
  (aF (b9 4))))
noncomputable def bY:List PySem.PyData->Res:=aC 7 fD
noncomputable def jb:FS:=(ak (aB true 4 (aw .leaf 8 (aL (ah (ae 0) (eK (.int 0)))) aI (eK .none)))
  (ak (aB false 5 (eK (.int 0)))
  (ak (aB false 6 (ae 3))
  (ak (nM 1000 (aM bG (ae 6))
  (ak (dA 7 (aL (ae 6))
  (fT 4 (ae 5) (ae 7)))
  (ak (gK 5 (eK (.int 1)))
  (aB false 6 (zX 4 bY (ab (ae 0) (ab (ae 1) (ab (ae 2) (ab (ae 4) af)))))))))
  (aF (b9 4))))))
noncomputable def dW:List PySem.PyData->Res:=aC 9 jb
noncomputable def fN:FS:=(ak (aB false 3 (ah (ae 1) (eK (.int 0))))
  (ak (bW (gC (aM ao (aA (bj true) (ae 3) (eK bZ))) (aM ao (aA (bj true) (ae 3) (eK cN)))) (aF (eK .none)) aG)
  (ak (aB false 4 (ag 3 bb (ab (ae 0) (ab (ae 1) (ab (ae 2) af)))))
  (aF (ag 4 dW (ab (ae 0) (ab (aw .leaf 5 (aL (ah (ae 0) (eK (.int 0)))) aI (aA (bj false) (ae 3) (eK bt))) (ab (ah (ae 4) (eK (.int 0))) (ab (ah (ae 4) (eK (.int 1))) af)))))))))
noncomputable def bQ:List PySem.PyData->Res:=aC 6 fN
noncomputable def bo:FS:=(ak (aB false 5 (ah (ae 1) (eK (.int 0))))
  (ak (bW (aM ao (aA df (ae 5) (eK (.str "yes")))) (aF (eK (.bool true))) aG)
  (ak (bW (aM ao (aA df (ae 5) (eK (.str "mark")))) (aF (aA (bj false) (ah (ae 1) (eK (.int 1))) (ah (ah (ae 0) (eK (.int 1))) (ae 4)))) aG)
  (ak (bW (aM ao (aA (bj false) (ae 5) (eK bZ))) (aF (aA (b6 true) (ah (ae 3) (ae 4)) (eK .none))) aG)
  (ak (bW (aM ao (aA (bj false) (ae 5) (eK cN))) (aF (aA (b6 false) (ah (ae 3) (ae 4)) (eK .none))) aG)
  (ak (aB false 6 (aw .leaf 7 (aL (ae 2)) aI (aA (bj false) (ae 4) (ae 7))))
  (ak (bW (aM ao (aA df (ae 5) (eK (.str "not")))) (aF (yE (ah (ae 6) (eK (.int 0))))) aG)
  (ak (bW (jj (aM ao (aA df (ae 5) (eK (.str "and")))) (aM ao (aA df (ae 5) (eK (.str "or"))))) (aF (yG (aM ao (aA df (ae 5) (eK (.str "and")))) (bI (cw false) (ab (ae 6) af)) (bI (cw true) (ab (ae 6) af)))) aG)
  (aF (ag 2 cK (ab (aA (bj false) (ae 5) (eK bt)) (ab (aw .leaf 8 (aL (ah (ah (ae 0) (eK (.int 2))) (ae 4))) aI (aA (bj false) (ae 8) (ah (ae 2) (eK (.int 0))))) af))))))))))))
noncomputable def dZ:List PySem.PyData->Res:=aC 9 bo
noncomputable def ja:FS:=(aF (aw .leaf 4 (gQ (ab (bI bB (ab (ah (ae 0) (eK (.int 0))) af)) af)) (aM bG (ag 5 dZ (ab (ae 0) (ab (ae 1) (ab (ae 2) (ab (ae 3) (ab (ae 4) af))))))) (ae 4)))
noncomputable def dj:List PySem.PyData->Res:=aC 5 ja
noncomputable def jc (r_judged:List PySem.PyData->Res):FS:=(ak (aB false 2 (aw .leaf 3 (eR (ag 1 aR (ab (ae 1) af))) aI (ag 2 r_judged (ab (ae 0) (ab (ae 3) af)))))
  (aF (ag 4 dj (ab (ae 0) (ab (ae 1) (ab (ae 2) (ab (ag 3 bQ (ab (ae 0) (ab (ae 1) (ab (ae 2) af)))) af)))))))
noncomputable def dh:Nat->List PySem.PyData->Res
 | 0=>fun _=>.no
 | n+1=>aC 4 (jc (dh n))
noncomputable def cJ:List PySem.PyData->Res:=dh 30
noncomputable def ql:FS:=(ak (bq (ag 1 aD (ab (ae 0) af)))
  (ak (bq (ag 1 bS (ab (ae 1) af)))
  (aF (ag 2 cJ (ab (ae 0) (ab (ae 1) af))))))
noncomputable def fh:List PySem.PyData->Res:=aC 2 ql
noncomputable def je:FS:=(ak (bW (aM ao (aA i2 (ae 1) (bI bB (ab (ae 0) af)))) (aF (ah (ae 0) (ae 1))) aG)
  (aF (eK (.int 0))))
noncomputable def aE:List PySem.PyData->Res:=aC 2 je
noncomputable def ni:FS:=(ak (bW (aM ao (aA oH (ae 0) (aA yz (eK (.int 10)) (eK (.int 18))))) (ak (aB false 4 (ae 0))
  (ak (dA 5 (gQ (ab (ae 1) af))
  (aB false 4 (aA vz (ae 4) (ae 2))))
  (aF (aA fo (ae 4) (ae 2))))) aG)
  (ak (aB false 3 (aA fo (aA hZ (aA aS (aA aS (aA fo (ae 0) (eK (.int 1000000007))) (aA hZ (eK (.int 1009)) (ae 1))) (eK (.int 17))) (eK (.int 69621))) (eK (.int 2147483647))))
  (ak (aB false 3 (aA fo (aA aS (aA aS (aA hZ (ae 3) (ae 3)) (aA hZ (eK (.int 40503)) (ae 1))) (eK (.int 5))) (eK (.int 2147483629))))
  (aF (aA fo (aA vz (aA fo (aA hZ (ae 3) (eK (.int 48271))) (eK (.int 2147483647))) (eK (.int 32))) (ae 2))))))
noncomputable def aq:List PySem.PyData->Res:=aC 6 ni
noncomputable def d__law_world:FS:=(ak (aB false 3 (aA aS (eK (.int 1)) (aA fo (ag 2 aE (ab (ae 0) (ab (ae 1) af))) (ae 2))))
  (ak (aB true 4 (aU .leaf af))
  (ak (aB true 5 (aU .leaf af))
  (ak (aB true 6 (aU .leaf af))
  (ak (dA 7 (gQ (ab (ae 3) af))
  (ak (aB false 8 (ag 2 aE (ab (ae 0) (ab (aA aS (aA aS (ae 1) (eK (.int 1))) (ae 7)) af))))
  (ak (eE 4 (ag 3 aq (ab (ae 8) (ab (eK (.int 0)) (ab (eK (.int 2)) af)))))
  (ak (eE 5 (aw .leaf 11 (gQ (ab (eK (.int 3)) af)) (aM ao (aA df (ag 3 aq (ab (ae 8) (ab (aA aS (eK (.int 1)) (ae 11)) (ab (eK (.int 2)) af)))) (eK (.int 1)))) (ah (eK (.str "abc")) (ae 11))))
  (ak (aB false 9 (aw .leaf 10 (gQ (ab (ae 3) af)) (aM ao (aA df (ag 3 aq (ab (ae 8) (ab (aA aS (eK (.int 4)) (ae 10)) (ab (aA aS (eK (.int 2)) (bI oG (ab (aA nJ (ae 3) (eK (.int 3))) af))) af)))) (eK (.int 1)))) (ae 10)))
  (ak (bW (aM ao (aA df (ae 9) (aU .leaf af))) (aB false 9 (aU .leaf (ab (ag 3 aq (ab (ae 8) (ab (aA aS (eK (.int 4)) (ae 3)) (ab (ae 3) af)))) af))) aG)
  (eE 6 (ae 9))))))))
  (aF (bE (ab (b9 4) (ab (b9 5) (ab (b9 6) af))))))))))
noncomputable def m__law_world:List PySem.PyData->Res:=aC 12 d__law_world
open PySem.SeqAt
noncomputable def Gm (a b:D):Bool:=match i2 a b with
 | some (.bool t)=>t
 | _=>false
noncomputable def ir (ds:List D):Prop:=∀a∈ds,∃n,a=.int n
noncomputable def jF (ds:List D):Prop:=∀a∈ds,∃x,a=.str x/\PyData.strOk x=true
noncomputable def Row (ds:List D):Prop:=ir ds\/jF ds
theorem Ab (i:Int):shaped (.int i)=true:=by simp [shaped,PyData.canLay0,PyData.depth]
theorem t9 {x:Str} (h:PyData.strOk x=true):shaped (.str x)=true:=by simp [shaped,PyData.canLay0,PyData.depth,h]
theorem Row.lt {ds:List D} {a b:D} (h:Row ds) (ha:a∈ds) (hb:b∈ds):i2 a b=some (.bool (Gm a b))/\oH a b=some (.bool (!Gm a b)):=by
 rcases h with h | h
 ·obtain ⟨n,rfl⟩:=h a ha
  obtain ⟨m,rfl⟩:=h b hb;refine ⟨rfl,?_⟩
  show some (PyData.bool (decide (m<=n)))=some (.bool (!decide (n<m)))
  congr 2
  by_cases q:n<m
  ·simp [q,Int.not_le.mpr q]
  ·simp [q,Int.not_lt.mp q]
 ·obtain ⟨n,rfl,_⟩:=h a ha
  obtain ⟨m,rfl,_⟩:=h b hb;exact ⟨rfl,rfl⟩
noncomputable def zJ (ds:List D) (d:D):Bool:=match d with
 | .int j=>Gm (ds.getD (j-1).toNat .none) (ds.getD j.toNat .none)
 | _=>false
noncomputable def fu (ds:List D):Bool:=(cg 1 ((ds.length:Int)-1).toNat).all (zJ ds)
theorem Dr {lo:Int} {n:Nat} {d:D} (h:d∈cg lo n):∃k:Nat,k<n/\d=.int (lo+k):=by
 unfold cg at h;simp only [mem_map,mem_range] at h
 obtain ⟨k,hk,e⟩:=h;exact ⟨k,hk,e.symm⟩
theorem Fu {lo:Int} {n:Nat}:(cg lo n).length=n:=by unfold cg;simp
theorem zZ {n:Nat} {k:Nat} (h:k<n):eC n (k:Int)=some k:=by
 unfold eC;rw [if_pos (by omega),if_pos (by omega)]
 simp
theorem Er {n:Nat} {i:Int} (h0:0<=i) (h1:i<n):eC n i=some i.toNat:=by
 unfold eC;rw [if_pos h0,if_pos h1]
theorem Ce {i:Int} (h0:-1000<=i) (h1:i<=100000):dq i=true:=by
 unfold dq;simp only [Bool.and_eq_true,decide_eq_true_eq]
 omega
theorem Fc {ds:List D} {k:Nat} (h:k<ds.length):ds[k]?=some (ds.getD k .none):=by
 rw [getD_eq_getElem?_getD,getElem?_eq_getElem h];rfl
theorem getD_mem {ds:List D} {k:Nat} (h:k<ds.length):ds.getD k .none∈ds:=mem_of_getElem? (Fc h)
theorem Eo {ds:List D} {k:Nat} (h:Row ds) (hk:k<((ds.length:Int)-1).toNat):eC ds.length (1+(k:Int)-1)=some k/\eC ds.length (1+(k:Int))=some (k+1)/\ds[k]?=some (ds.getD k .none)/\ds[k+1]?=some (ds.getD (k+1) .none) /\
  i2 (ds.getD k .none) (ds.getD (k+1) .none)=some (.bool (zJ ds (.int (1+(k:Int)))))/\oH (ds.getD k .none) (ds.getD (k+1) .none)=some (.bool (!zJ ds (.int (1+(k:Int))))):=by
 have h1:k<ds.length:=by omega
 have h2:k+1<ds.length:=by omega
 have l:=h.lt (getD_mem h1) (getD_mem h2)
 have e3:zJ ds (.int (1+(k:Int)))=Gm (ds.getD k .none) (ds.getD (k+1) .none):=by
  unfold zJ;dsimp only;rw [show (1+(k:Int)-1).toNat=k by omega,show (1+(k:Int)).toNat=k+1 by omega]
 rw [e3];exact ⟨by rw [show (1+(k:Int)-1)=k by omega];exact zZ h1,by rw [show (1+(k:Int))=((k+1:Nat):Int) by omega];exact zZ h2,Fc h1,Fc h2,l.1,l.2⟩
theorem aO {n:Nat} {g:FS} {ds:List D} {p:PV} (h:g (aH n ds)=.rt p):aC n g ds=.ok p:=by unfold aC;rw [h]
theorem eq_int {a b:Int}:df (.int a) (.int b)=some (.bool (a==b)):=by
 unfold df;rw [Ab,Ab,Bool.and_self,if_pos rfl,PyData.eqv]
theorem fz {ds:List D} (h:Row ds) (hl:ds.length<=100):dD [.list ds]=.ok ⟨.leaf,.bool (fu ds)⟩:=by
 have hc:aw .leaf 1 (yr (ab (eK (.int 1)) (ab (bI bB (ab (ae 0) af)) af))) aI (aA i2 (ah (ae 0) (aA gSub (ae 1) (eK (.int 1)))) (ah (ae 0) (ae 1))) [some ⟨.leaf,.list ds⟩,none] =
   .ok ⟨.lst .leaf,.list ((cg 1 ((ds.length:Int)-1).toNat).map fun d=>.bool (zJ ds d))⟩ [some ⟨.leaf,.list ds⟩,none]:=by
  refine C6 (f:=fun d=>⟨.leaf,.bool (zJ ds d)⟩) (st:=true) (DD (k:=1) (m:=(ds.length:Int)) (az bg (az (dz (az (ay rfl) aj) rfl) aj)) rfl (by omega) (by omega) (by omega) (by omega)) (by simp) rfl (by rw [Fu];omega) fun d hd=>⟨?_,rfl⟩
  obtain ⟨k,hk,rfl⟩:=Dr hd;obtain ⟨e1,e2,e3,e4,e5,e6⟩:=Eo h hk;exact aT (wA (ay rfl) (aT (ay rfl) bg rfl) e1 e3 rfl) (wA (ay rfl) (ay rfl) e2 e4 rfl) e5
 exact aO (bf (dz (az hc aj) wV) rfl)
noncomputable def Dg (a:D):Bool:=[PyData.str "a",.str "b",.str "c",.str "d",.str "e",.str "f"].any fun y=>PyData.eqv y a
noncomputable def Eu (a:D):Bool:=[PyData.int 0,.int 1].any fun y=>PyData.eqv y a
noncomputable def inR (n:Int) (a:D):Bool:=match a with
 | .int i=>decide (0<=i)&&decide (i<n)
 | _=>false
noncomputable def Df (d:D):Bool:=match d with
 | .list xs=>xs.all Dg&&fu xs
 | _=>false
noncomputable def F6 (n:Int) (d:D):Bool:=match d with
 | .list xs=>decide (0<xs.length)&&(xs.all (inR n)&&fu xs)
 | _=>false
theorem AA:shaped bO=true:=by decide +kernel
theorem DQ:shaped cD=true:=by decide +kernel
theorem vn {x:Str} (hx:PyData.strOk x=true):bj false (.str x) bO=some (.bool (Dg (.str x))):=by
 unfold bj bO;have:=AA
 unfold bO at this;simp only [t9 hx,this,Bool.and_self,if_true]
 rfl
theorem Et {i:Int}:bj false (.int i) cD=some (.bool (Eu (.int i))):=by
 unfold bj cD;have:=DQ
 unfold cD at this;simp only [Ab,this,Bool.and_self,if_true]
 rfl
theorem fC {ds:List D} (h:jF ds) (hl:ds.length<=100):br [.list ds]=.ok ⟨.leaf,.bool (ds.all Dg&&fu ds)⟩:=by
 have hc:aw .leaf 1 (aL (ae 0)) aI (aA (bj false) (ae 1) (eK bO)) [some ⟨.leaf,.list ds⟩,none]=.ok ⟨.lst .leaf,.list (ds.map fun d=>.bool (Dg d))⟩ [some ⟨.leaf,.list ds⟩,none]:=by
  refine C6 (f:=fun d=>⟨.leaf,.bool (Dg d)⟩) (b7 (ay rfl) rfl) (by simp) rfl (by omega) fun d hd=>⟨?_,rfl⟩
  obtain ⟨x,rfl,hx⟩:=h d hd;exact aT (ay rfl) bg (vn hx)
 exact aO (bf (v_and (dz (az hc aj) wV) (bP (az (ay rfl) aj) (fz (.inr h) hl) rfl rfl)) rfl)
theorem chain_ev {i n:Int}:zP (.int 0) (.int i)=some (.bool (decide (0<=i)))/\i2 (.int i) (.int n)=some (.bool (decide (i<n))):=⟨rfl,rfl⟩
theorem fA {ds:List D} {n:Int} (h:ir ds) (hl:ds.length<=100):cL [.list ds,.int n]=.ok ⟨.leaf,.bool (ds.all (inR n)&&fu ds)⟩:=by
 have hc:aw .leaf 2 (aL (ae 0)) aI (sV zP i2 (eK (.int 0)) (ae 2) (ae 1)) [some ⟨.leaf,.list ds⟩,some ⟨.leaf,.int n⟩,none]=.ok ⟨.lst .leaf,.list (ds.map fun d=>.bool (inR n d))⟩ [some ⟨.leaf,.list ds⟩,some ⟨.leaf,.int n⟩,none]:=by
  refine C6 (f:=fun d=>⟨.leaf,.bool (inR n d)⟩) (b7 (ay rfl) rfl) (by simp) rfl (by omega) fun d hd=>⟨?_,rfl⟩
  obtain ⟨i,rfl⟩:=h d hd;exact HF bg (ay rfl) (chain_ev (n:=n)).1 rfl (ay rfl) chain_ev.2
 exact aO (bf (v_and (dz (az hc aj) wV) (bP (az (ay rfl) aj) (fz (.inl h) hl) rfl rfl)) rfl)
theorem jB {ds:List D} {n:Int} (h:ir ds) (hl:ds.length<=100):dE [.list ds,.int n]=.ok ⟨.leaf,.bool (decide (0<ds.length)&&(ds.all (inR n)&&fu ds))⟩:=by
 have e:nJ (.int (ds.length:Nat)) (.int 0)=some (.bool (decide (0<ds.length))):=by
  show some (PyData.bool (decide ((0:Int)<(ds.length:Int))))=_
  congr 2
  exact decide_eq_decide.mpr (by omega)
 exact aO (bf (v_and (aT (dz (az (ay rfl) aj) rfl) bg e) (bP (az (ay rfl) (az (ay rfl) aj)) (fA h hl) rfl rfl)) rfl)
structure Wk (b:Nat) (os ms ss:List D):Prop where
 o:ir os
 m:∀r∈ms,∃xs,r=.list xs/\jF xs/\xs.length<=30
 s:∀r∈ss,∃xs,r=.list xs/\ir xs/\xs.length<=30
 lo:os.length<=b
 lm:ms.length<=b
 ls:ss.length<=b
noncomputable def Gu (os ms ss:List D):Bool:=decide ((os.length:Int)<1)||(decide ((24:Int)<os.length)||((!((ms.length:Int)==(os.length:Int)))||(!((ss.length:Int)==(os.length:Int)))))
noncomputable def isW (os ms ss:List D):Bool:=!Gu os ms ss&&(os.all Eu&&(ms.all Df&&ss.all (F6 os.length)))
theorem ne_int {a b:Int}:mG (.int a) (.int b)=some (.bool (!(a==b))):=by
 unfold mG;rw [Ab,Ab,Bool.and_self,if_pos rfl,PyData.eqv]
theorem kH {b:Nat} {os ms ss:List D} (h:Wk b os ms ss) (hb:b<=100):dX [.list os,.list ms,.list ss]=.ok ⟨.leaf,.bool (isW os ms ss)⟩:=by
 have lo:=h.lo
 have lm:=h.lm
 have ls:=h.ls
 refine aO ?_
 refine ax (dS (dz (az (ay rfl) aj) rfl) rfl (by simp [aH])) ?_
 have hif:(jj (aM ao (aA i2 (ae 3) (eK (.int 1)))) (jj (aM ao (aA nJ (ae 3) (eK d6))) (jj (aM ao (aA mG (bI bB (ab (ae 1) af)) (ae 3))) (aM ao (aA mG (bI bB (ab (ae 2) af)) (ae 3)))))) [some ⟨.leaf,.list os⟩,some ⟨.leaf,.list ms⟩,some ⟨.leaf,.list ss⟩,some ⟨.leaf,.int (os.length:Nat)⟩,none,none]
   = .ok (Gu os ms ss) [some ⟨.leaf,.list os⟩,some ⟨.leaf,.list ms⟩,some ⟨.leaf,.list ss⟩,some ⟨.leaf,.int (os.length:Nat)⟩,none,none]:=
  sF (gF (aT (ay rfl) bg rfl)) (sF (gF (aT (ay rfl) bg rfl)) (sF (gF (aT (dz (az (ay rfl) aj) rfl) (ay rfl) ne_int)) (gF (aT (dz (az (ay rfl) aj) rfl) (ay rfl) ne_int))))
 cases hbad:Gu os ms ss with
 | true=>
  rw [hbad] at hif;unfold isW;rw [hbad];exact wB (cb hif (fun _=>bf bg rfl) nofun)
 | false=>
  rw [hbad] at hif;refine ax (cb hif nofun (fun _=>rfl)) ?_
  have c1:aw .leaf 4 (aL (ae 0)) aI (aA (bj false) (ae 4) (eK cD)) [some ⟨.leaf,.list os⟩,some ⟨.leaf,.list ms⟩,some ⟨.leaf,.list ss⟩,some ⟨.leaf,.int (os.length:Nat)⟩,none,none]
    = .ok ⟨.lst .leaf,.list (os.map fun d=>.bool (Eu d))⟩ [some ⟨.leaf,.list os⟩,some ⟨.leaf,.list ms⟩,some ⟨.leaf,.list ss⟩,some ⟨.leaf,.int (os.length:Nat)⟩,none,none]:=by
   refine C6 (f:=fun d=>⟨.leaf,.bool (Eu d)⟩) (b7 (ay rfl) rfl) (by simp) rfl (by omega) fun d hd=>⟨?_,rfl⟩
   obtain ⟨i,rfl⟩:=h.o d hd;exact aT (ay rfl) bg Et
  have c2:aw .leaf 5 (aL (ae 1)) aI (ag 1 br (ab (ae 5) af)) [some ⟨.leaf,.list os⟩,some ⟨.leaf,.list ms⟩,some ⟨.leaf,.list ss⟩,some ⟨.leaf,.int (os.length:Nat)⟩,none,none]
    = .ok ⟨.lst .leaf,.list (ms.map fun d=>.bool (Df d))⟩ [some ⟨.leaf,.list os⟩,some ⟨.leaf,.list ms⟩,some ⟨.leaf,.list ss⟩,some ⟨.leaf,.int (os.length:Nat)⟩,none,none]:=by
   refine C6 (f:=fun d=>⟨.leaf,.bool (Df d)⟩) (b7 (ay rfl) rfl) (by simp) rfl (by omega) fun d hd=>⟨?_,rfl⟩
   obtain ⟨xs,rfl,hx,hl⟩:=h.m d hd;exact bP (az (ay rfl) aj) (fC hx (by omega)) rfl rfl
  have c3:aw .leaf 5 (aL (ae 2)) aI (ag 2 dE (ab (ae 5) (ab (ae 3) af))) [some ⟨.leaf,.list os⟩,some ⟨.leaf,.list ms⟩,some ⟨.leaf,.list ss⟩,some ⟨.leaf,.int (os.length:Nat)⟩,none,none]
    = .ok ⟨.lst .leaf,.list (ss.map fun d=>.bool (F6 os.length d))⟩ [some ⟨.leaf,.list os⟩,some ⟨.leaf,.list ms⟩,some ⟨.leaf,.list ss⟩,some ⟨.leaf,.int (os.length:Nat)⟩,none,none]:=by
   refine C6 (f:=fun d=>⟨.leaf,.bool (F6 os.length d)⟩) (b7 (ay rfl) rfl) (by simp) rfl (by omega) fun d hd=>⟨?_,rfl⟩
   obtain ⟨xs,rfl,hx,hl⟩:=h.s d hd;exact bP (az (ay rfl) (az (ay rfl) aj)) (jB hx (by omega)) rfl rfl
  have t1:=ji (nu (dz (az c1 aj) wV))
  cases ho:os.all Eu with
  | false=>
   rw [ho] at t1;unfold isW;rw [ho,Bool.false_and,Bool.and_false];exact wB (cb t1 (fun _=>bf bg rfl) nofun)
  | true=>
   rw [ho] at t1;refine ax (cb t1 nofun (fun _=>rfl)) ?_
   unfold isW;rw [hbad,ho,Bool.not_false,Bool.true_and,Bool.true_and];exact bf (v_and (dz (az c2 aj) wV) (dz (az c3 aj) wV)) rfl
theorem CB {xs:List D} (h:shaped (.list xs)=true):df (.list xs) (.list [])=some (.bool (decide (xs.length=0))):=by
 unfold df;have h2:shaped (.list [])=true:=by decide +kernel
 rw [h,h2,Bool.and_self,if_pos rfl]
 cases xs with
 | nil=>rfl
 | cons a r=>rfl
theorem Du {xs:List D} (h:ir xs):shaped (.list xs)=true:=by
 have c:PyData.canLayAll0 xs=true/\PyData.depthAll xs=0:=by
  induction xs with
  | nil=>exact ⟨rfl,rfl⟩
  | cons a r ih=>
   obtain ⟨n,rfl⟩:=h a mem_cons_self;have q:=ih fun x hx=>h x (mem_cons_of_mem _ hx)
   simp [PyData.canLayAll0,PyData.canLay0,PyData.depthAll,PyData.depth,q.1,q.2]
 simp [shaped,PyData.canLay0,PyData.depth,c.1,c.2]
theorem xi {xs:List D} (h:jF xs):shaped (.list xs)=true:=by
 have c:PyData.canLayAll0 xs=true/\PyData.depthAll xs=0:=by
  induction xs with
  | nil=>exact ⟨rfl,rfl⟩
  | cons a r ih=>
   obtain ⟨n,rfl,hn⟩:=h a mem_cons_self;have q:=ih fun x hx=>h x (mem_cons_of_mem _ hx)
   simp [PyData.canLayAll0,PyData.canLay0,PyData.depthAll,PyData.depth,q.1,q.2,hn]
 simp [shaped,PyData.canLay0,PyData.depth,c.1,c.2]
theorem lt_int {a b:Int}:i2 (.int a) (.int b)=some (.bool (decide (a<b))):=rfl
theorem yx {a b:Int}:oH (.int a) (.int b)=some (.bool (decide (b<=a))):=rfl
theorem sW {a b:Int}:aS (.int a) (.int b)=some (.int (a+b)):=rfl
theorem sub_int' {a b:Int}:gSub (.int a) (.int b)=some (.int (a-b)):=rfl
theorem gP {a b:Int} (h:0<b):fo (.int a) (.int b)=some (.int (a % b)):=by
 show (if yV a b then _ else _)=_
 rw [if_pos (by unfold yV;simpa using h)]
theorem zR {a b:Int} (h:0<b) (h2:b<1073741824):vz (.int a) (.int b)=some (.int (a / b)):=by
 show (if yW a b then _ else _)=_
 rw [if_pos (by unfold yW;simp [h,h2])]
theorem zI {a b:Int} (h:-1000000000000<b) (h2:b<1000000000000):hZ (.int a) (.int b)=some (.int (a*b)):=by
 show (if sD a b then _ else _)=_
 rw [if_pos (by unfold sD;simp only [Bool.or_eq_true,Bool.and_eq_true,decide_eq_true_eq];right;omega)]
theorem vb {a b:Int} (h:-1000000000000<a) (h2:a<1000000000000):hZ (.int a) (.int b)=some (.int (a*b)):=by
 show (if sD a b then _ else _)=_
 rw [if_pos (by unfold sD;simp only [Bool.or_eq_true,Bool.and_eq_true,decide_eq_true_eq];left;omega)]
theorem D9 {b:Int} (h:0<=b) (h2:b<=100):yz (.int 10) (.int b)=some (.int (10 ^ b.toNat)):=by
 show (if yU 10 b then _ else _)=_
 rw [if_pos (by unfold yU;simp only [Bool.and_eq_true,decide_eq_true_eq];exact ⟨⟨h,by omega⟩,by decide⟩)]
theorem FF {xs:List D} (h:ir xs) {k:Int} (hk:0<=k):∃c,aE [.list xs,.int k]=.ok ⟨.leaf,.int c⟩:=by
 have t:aM ao (aA i2 (ae 1) (bI bB (ab (ae 0) af))) [some ⟨.leaf,.list xs⟩,some ⟨.leaf,.int k⟩]=.ok (decide (k<(xs.length:Int))) [some ⟨.leaf,.list xs⟩,some ⟨.leaf,.int k⟩]:=
  gF (aT (ay rfl) (dz (az (ay rfl) aj) rfl) lt_int)
 cases hlt:decide (k<(xs.length:Int)) with
 | true=>
  rw [hlt] at t;have hl:=of_decide_eq_true hlt
  have hk2:k.toNat<xs.length:=by omega
  obtain ⟨c,hc⟩:=h _ (getD_mem hk2);have g:=Fc hk2
  rw [hc] at g;exact ⟨c,aO (wB (cb t (fun _=>bf (wA (ay rfl) (ay rfl) (Er hk hl) g rfl) rfl) nofun))⟩
 | false=>
  rw [hlt] at t;exact ⟨0,aO (ax (cb t nofun (fun _=>rfl)) (bf bg rfl))⟩
theorem mW {c k b:Int} (hk:0<=k) (hk2:k<=1000) (hb:1<=b) (hb2:b<=1000):∃r,aq [.int c,.int k,.int b]=.ok ⟨.leaf,.int r⟩/\0<=r/\r<b:=by
 have t:aM ao (aA oH (ae 0) (aA yz (eK (.int 10)) (eK (.int 18)))) [some ⟨.leaf,.int c⟩,some ⟨.leaf,.int k⟩,some ⟨.leaf,.int b⟩,none,none,none]=.ok (decide (10 ^ (18:Int).toNat<=c)) [some ⟨.leaf,.int c⟩,some ⟨.leaf,.int k⟩,some ⟨.leaf,.int b⟩,none,none,none]:=
  gF (aT (ay rfl) (aT bg bg (D9 (by omega) (by omega))) yx)
 cases hge:decide (10 ^ (18:Int).toNat<=c) with
 | true=>
  rw [hge] at t;obtain ⟨Γ',e,l,x,hΓ⟩:=Ht (P:=fun _ Γ=>∃l x,Γ=[some ⟨.leaf,.int c⟩,some ⟨.leaf,.int k⟩,some ⟨.leaf,.int b⟩,none,some ⟨.leaf,.int l⟩,x]) (i:=5) (body:=aB false 4 (aA vz (ae 4) (ae 2))) (cg 0 k.toNat) 0
   [some ⟨.leaf,.int c⟩,some ⟨.leaf,.int k⟩,some ⟨.leaf,.int b⟩,none,some ⟨.leaf,.int c⟩,none] ⟨c,none,rfl⟩ (fun m d Γ hd _ _ ⟨l,x,hΓ⟩=>by
    subst hΓ;refine ⟨by simp,_,dS (aT (ay rfl) (ay rfl) (zR (by omega) (by omega))) rfl (by simp),_,_,rfl⟩)
  subst hΓ;exact ⟨_,aO (wB (cb t (fun _=>ax (dS (ay rfl) rfl (by simp)) (ax (eG (tu (k:=k) (az (ay rfl) aj) rfl (by omega) (by omega)) e) (bf (aT (ay rfl) (ay rfl) (gP (by omega))) rfl))) nofun)),Int.emod_nonneg _ (by omega),Int.emod_lt_of_pos _ (by omega)⟩
 | false=>
  rw [hge] at t;have m1:∀x:Int,0<=x % 2147483647/\x % 2147483647<2147483647:=fun x=>⟨Int.emod_nonneg _ (by omega),Int.emod_lt_of_pos _ (by omega)⟩
  refine ⟨_,aO (ax (cb t nofun (fun _=>rfl)) (ax (dS (aT (aT (aT (aT (aT (ay rfl) bg (gP (by omega))) (aT bg (ay rfl) (vb (by omega) (by omega))) sW) bg sW) bg (zI (by omega) (by omega))) bg (gP (by omega))) rfl (by simp [aH]))
   (ax (dS (aT (aT (aT (aT (ay rfl) (ay rfl) (vb ?_ ?_)) (aT bg (ay rfl) (vb (by omega) (by omega))) sW) bg sW) bg (gP (by omega))) rfl (by simp [aH]))
   (bf (aT (aT (aT (aT (ay rfl) bg (zI (by omega) (by omega))) bg (gP (by omega))) bg (zR (by omega) (by omega))) (ay rfl) (gP (by omega))) rfl)))),Int.emod_nonneg _ (by omega),Int.emod_lt_of_pos _ (by omega)⟩
  ·exact Int.lt_of_lt_of_le (by omega) (m1 _).1
  ·exact Int.lt_trans (m1 _).2 (by omega)
noncomputable def gA (c k b:Int):Int:=match aq [.int c,.int k,.int b] with
 | .ok ⟨_,.int r⟩=>r
 | _=>0
theorem Ad {c k b:Int} (hk:0<=k) (hk2:k<=1000) (hb:1<=b) (hb2:b<=1000):aq [.int c,.int k,.int b]=.ok ⟨.leaf,.int (gA c k b)⟩:=by
 obtain ⟨r,e,_⟩:=mW (c:=c) hk hk2 hb hb2
 unfold gA;rw [e]
theorem Dn {c k b:Int} (hk:0<=k) (hk2:k<=1000) (hb:1<=b) (hb2:b<=1000):0<=gA c k b/\gA c k b<b:=by
 obtain ⟨r,e,h⟩:=mW (c:=c) hk hk2 hb hb2
 unfold gA;rw [e];exact h
noncomputable def abc (d:D):D:=match d with
 | .int k=>(match eF [97,98,99] k with
  | some c=>.str ⟨#[c]⟩
  | none=>.none)
 | _=>.none
theorem u0 {c:Nat} (h:c<1000):PyData.strOk ⟨#[c]⟩=true:=by
 unfold PyData.strOk;simp
 omega
theorem y2:(Str.ofString "abc").cps.toList=[97,98,99]:=by decide +kernel
theorem GL:(Str.ofString "abc").length<=sizeLine:=by decide +kernel
noncomputable abbrev eW:FS:=(ak (aB false 8 (ag 2 aE (ab (ae 0) (ab (aA aS (aA aS (ae 1) (eK (.int 1))) (ae 7)) af))))
  (ak (eE 4 (ag 3 aq (ab (ae 8) (ab (eK (.int 0)) (ab (eK (.int 2)) af)))))
  (ak (eE 5 (aw .leaf 11 (gQ (ab (eK (.int 3)) af)) (aM ao (aA df (ag 3 aq (ab (ae 8) (ab (aA aS (eK (.int 1)) (ae 11)) (ab (eK (.int 2)) af)))) (eK (.int 1)))) (ah (eK (.str "abc")) (ae 11))))
  (ak (aB false 9 (aw .leaf 10 (gQ (ab (ae 3) af)) (aM ao (aA df (ag 3 aq (ab (ae 8) (ab (aA aS (eK (.int 4)) (ae 10)) (ab (aA aS (eK (.int 2)) (bI oG (ab (aA nJ (ae 3) (eK (.int 3))) af))) af)))) (eK (.int 1)))) (ae 10)))
  (ak (bW (aM ao (aA df (ae 9) (aU .leaf af))) (aB false 9 (aU .leaf (ab (ag 3 aq (ab (ae 8) (ab (aA aS (eK (.int 4)) (ae 3)) (ab (ae 3) af)))) af))) aG)
  (eE 6 (ae 9)))))))
theorem lN {ts:List Int} (h:ts.Pairwise (· < ·)):fu (ts.map .int)=true:=by
 unfold fu;rw [all_eq_true];intro d hd;obtain ⟨k,hk,rfl⟩:=Dr hd;rw [length_map] at hk;have h1:k<ts.length:=by omega
 have h2:k+1<ts.length:=by omega
 unfold zJ;dsimp only;rw [show (1+(k:Int)-1).toNat=k by omega,show (1+(k:Int)).toNat=k+1 by omega]
 rw [getD_eq_getElem?_getD,getD_eq_getElem?_getD,getElem?_map,getElem?_map,getElem?_eq_getElem h1,getElem?_eq_getElem h2];have:=List.pairwise_iff_getElem.mp h k (k+1) h1 h2 (by omega)
 show decide (ts[k]<ts[k+1])=true
 exact decide_eq_true this
structure Gw (N:Int) (n:Nat) (os ms ss:List D):Prop where
 lo:os.length=n
 lm:ms.length=n
 ls:ss.length=n
 o:∀a∈os,a=.int 0\/a=.int 1
 m:∀r∈ms,∃xs,r=.list xs/\jF xs/\xs.length<=30/\Df r=true
 s:∀r∈ss,∃ts:List Int,r=.list (ts.map .int)/\ts.length<=30/\ts≠[]/\(∀t∈ts,0<=t/\t<N)/\ts.Pairwise (· < ·)
theorem C7 {ts:List Int}:ir (ts.map .int):=fun a ha=>by
 obtain ⟨n,_,e⟩:=List.mem_map.mp ha;exact ⟨n,e.symm⟩
theorem Gw.wk {N:Int} {n b:Nat} {os ms ss:List D} (h:Gw N n os ms ss) (hb:n<=b):Wk b os ms ss:=
 ⟨fun a ha=>(h.o a ha).elim (fun e=>⟨0,e⟩) fun e=>⟨1,e⟩,fun r hr=>let ⟨xs,e,a,b,_⟩:=h.m r hr;⟨xs,e,a,b⟩,fun r hr=>let ⟨ts,e,a,_⟩:=h.s r hr;⟨_,e,C7,by rw [length_map];exact a⟩,by rw [h.lo];exact hb,by rw [h.lm];exact hb,by rw [h.ls];exact hb⟩
theorem Gw.isW {n:Nat} {os ms ss:List D} (h:Gw (n:Int) n os ms ss) (h1:1<=n) (h24:n<=24):isW os ms ss=true:=by
 unfold KC.isW Gu;rw [h.lo,h.lm,h.ls];have e1:decide ((n:Int)<1)=false:=decide_eq_false (by omega)
 have e2:decide ((24:Int)<n)=false:=decide_eq_false (by omega)
 rw [e1,e2];simp only [beq_self_eq_true,Bool.not_true,Bool.or_self,Bool.not_false,Bool.true_and,Bool.and_eq_true,all_eq_true]
 refine ⟨fun a ha=>?_,fun r hr=>?_,fun r hr=>?_⟩
 ·rcases h.o a ha with rfl | rfl<;>rfl
 ·obtain ⟨xs,_,_,_,e⟩:=h.m r hr
  exact e
 ·obtain ⟨ts,rfl,h2,h3,h4,h5⟩:=h.s r hr
  unfold F6;simp only [Bool.and_eq_true,decide_eq_true_eq,length_map,all_eq_true]
  refine ⟨by cases ts with | nil=>exact absurd rfl h3 | cons a r=>simp,fun a ha=>?_,lN h5⟩
  obtain ⟨t,ht,rfl⟩:=List.mem_map.mp ha;have:=h4 t ht
  unfold inR;simp only [Bool.and_eq_true,decide_eq_true_eq]
  exact this
theorem Jn (c0 c1 c2:Bool):Df (.list (((if c0 then [PyData.str ⟨#[97]⟩] else [])++((if c1 then [PyData.str ⟨#[98]⟩] else [])++(if c2 then [PyData.str ⟨#[99]⟩] else [])))))=true:=by
 cases c0<;>cases c1<;>cases c2<;>decide +kernel
theorem AH (n:Nat) (c:D->Bool):∃ts:List Int,((cg 0 n).filter c).map (fun d=>d)=ts.map .int/\(∀t∈ts,0<=t/\t<(n:Int))/\ts.Pairwise (· < ·)/\ts.length<=n:=by
 refine ⟨((List.range n).map fun i=>(0:Int)+(i:Nat)).filter fun i=>c (.int i),?_,fun t ht=>?_,?_,?_⟩
 ·rw [List.map_id']
  unfold cg;rw [show (fun i:Nat=>PyData.int (0+(i:Int)))=(PyData.int∘fun i:Nat=>(0:Int)+(i:Nat)) from rfl,<-map_map,List.filter_map]
  rfl
 ·obtain ⟨h1,_⟩:=List.mem_filter.mp ht
  obtain ⟨i,hi,rfl⟩:=List.mem_map.mp h1;rw [mem_range] at hi;omega
 ·refine List.Pairwise.filter _ ?_
  rw [pairwise_map];exact List.pairwise_lt_range.imp fun h=>by omega
 ·refine Nat.le_trans (length_filter_le _ _) ?_
  simp
noncomputable abbrev W3:Sh:=.tup [.lst .leaf,.lst .leaf,.lst .leaf]
noncomputable abbrev ez (os ms ss:List D):D:=.tuple [.list os,.list ms,.list ss]
theorem fX {n:Nat} {g:FS} {ds:List D} {Γ:Ev} (h:g (aH n ds)=.nx Γ):aC n g ds=.ok ⟨.leaf,.none⟩:=by unfold aC;rw [h]
theorem tp {Γ Γ1:Ev} {fa:F1} {p:PV} (h:fa Γ=.ok p Γ1):bq fa Γ=.nx Γ1:=by unfold bq iF;rw [h]
theorem se {b:Nat} {os ms ss:List D} (h:Wk b os ms ss) (hb:b<=100) (hw:isW os ms ss=true):aD [ez os ms ss]=.ok ⟨.leaf,.none⟩:=by
 have t:dC (aM bG (ag 3 dX (ab (ah (ae 0) (eK (.int 0))) (ab (ah (ae 0) (eK (.int 1))) (ab (ah (ae 0) (eK (.int 2))) af))))) [some ⟨.leaf,ez os ms ss⟩]=.ok (!(isW os ms ss)) [some ⟨.leaf,ez os ms ss⟩]:=
  ji (nu (bP (az (wU (j:=0) (ay rfl) bg rfl rfl rfl) (az (wU (j:=1) (ay rfl) bg rfl rfl rfl) (az (wU (j:=2) (ay rfl) bg rfl rfl rfl) aj))) (kH h hb) rfl rfl))
 rw [hw] at t;exact fX (cb t nofun (fun _=>rfl))
theorem va {d:D} (h:shaped d=true):mG d d=some (.bool false):=by
 unfold mG;rw [h,Bool.and_self,if_pos rfl,PySem.SeqAt.eqv_refl _ (canLay_of_shaped h)];rfl
noncomputable def dl (S:List (List Int)):List D:=S.map fun ts=>.list (ts.map .int)
structure Sw (n:Nat) (S:List (List Int)):Prop where
 len:S.length=n
 row:∀ts∈S,ts.length<=30/\(∀t∈ts,0<=t/\t<(n:Int))/\ts.Pairwise (· < ·)
theorem vm {ts:List Int} {i:Int}:bj false (.int i) (.list (ts.map .int))=some (.bool (ts.contains i)):=by
 unfold bj;simp only [Ab,Du C7,Bool.and_self,if_true]
 congr 2
 rw [Bool.eq_iff_iff];simp only [Bool.false_eq_true,if_false,any_eq_true,mem_map,contains_iff_mem]
 constructor
 ·rintro ⟨d,⟨t,ht,rfl⟩,e⟩
  rw [PyData.eqv] at e;have:t=i:=by simpa using e
  rw [<-this];exact ht
 ·intro h
  exact ⟨.int i,⟨i,h,rfl⟩,by rw [PyData.eqv];simp⟩
theorem JB {xs:List D} (h:ir xs):PyData.canLayAll0 xs=true/\PyData.depthAll xs=0:=by
 induction xs with
 | nil=>exact ⟨rfl,rfl⟩
 | cons a r ih=>
  obtain ⟨n,rfl⟩:=h a mem_cons_self;have q:=ih fun x hx=>h x (mem_cons_of_mem _ hx)
  simp [PyData.canLayAll0,PyData.canLay0,PyData.depthAll,PyData.depth,q.1,q.2]
theorem yS {ms:List D} (h:∀r∈ms,∃xs,r=.list xs/\PyData.canLayAll0 xs=true/\PyData.depthAll xs=0):PyData.canLayAll0 ms=true/\PyData.depthAll ms<=1:=by
 induction ms with
 | nil=>exact ⟨rfl,Nat.zero_le _⟩
 | cons a r ih=>
  obtain ⟨xs,rfl,h1,h2⟩:=h a mem_cons_self;have q:=ih fun x hx=>h x (mem_cons_of_mem _ hx)
  refine ⟨by simp [PyData.canLayAll0,PyData.canLay0,q.1,h1],?_⟩
  rw [PyData.depthAll,PyData.depth,h2];exact Nat.max_le.mpr ⟨by omega,q.2⟩
noncomputable def has (x:Str) (d:D):Bool:=match d with
 | .list xs=>xs.any fun y=>PyData.eqv y (.str x)
 | _=>false
theorem Cg {x:Str} {xs:List D} (hx:PyData.strOk x=true) (h:jF xs):bj false (.str x) (.list xs)=some (.bool (has x (.list xs))):=by
 unfold bj;simp only [t9 hx,xi h,Bool.and_self,if_true]
 rfl
noncomputable def rg (n:Nat):List Int:=(List.range n).map fun i:Nat=>(0:Int)+(i:Nat)
theorem rE {ts:List Int} {i:Int}:bj true (.int i) (.list (ts.map .int))=some (.bool (!ts.contains i)):=by
 have h:=vm (ts:=ts) (i:=i)
 unfold bj at h ⊢
 simp only [Ab,Du C7,Bool.and_self,if_true,Bool.false_eq_true,if_false] at h ⊢
 have h:=Option.some.inj h
 injection h with h
 rw [h]
end KC
namespace T
open PySem PySem.Spec L2
open PyProof.Rows hiding St
section
variable {Γ Γ1:Ev} {fa fb fc:F1} {fl:FL} {p:PV} {i n:Nat} {ga gb:FB} {g1 g2:FS}
@[simp] theorem IM:sizeLine=16777216:=rfl
@[simp] theorem sR {α β:Type} {a:α} {e:Ev} {k:α->Ev->Out β}:(Out.ok a e).bind k=k a e:=rfl
@[simp] theorem r_k {d:D}:eK d Γ=.ok ⟨.leaf,d⟩ Γ:=rfl
@[simp] theorem J5:af Γ=.ok [] Γ:=rfl
@[simp] theorem IF:aI Γ=.ok true Γ:=rfl
@[simp] theorem IJ:aG Γ=.nx Γ:=rfl
@[simp] theorem Jd:ab fa fl Γ=(fa Γ).bind fun p Γ1=>(fl Γ1).bind fun ps Γ2=>.ok (p::ps) Γ2:=rfl
@[simp] theorem Bc {g:D->D->Option D}:aA g fa fb Γ=(fa Γ).bind fun p Γ1=>(fb Γ1).bind fun q Γ2=>match g p.d q.d with | some d=>.ok ⟨.leaf,d⟩ Γ2 | none=>.no:=rfl
@[simp] theorem Ku {g:List D->Option D}:bI g fl Γ=(fl Γ).bind fun ps Γ'=>match g (ps.map (·.d)) with | some d=>.ok ⟨.leaf,d⟩ Γ' | none=>.no:=rfl
@[simp] theorem D0 {g:D->Option Bool}:aM g fa Γ=(fa Γ).bind fun p Γ'=>match g p.d with | some b=>.ok b Γ' | none=>.no:=rfl
@[simp] theorem Jf:dC ga Γ=(ga Γ).bind fun c Γ'=>.ok (!c) Γ':=rfl
@[simp] theorem Jg:gC ga gb Γ=(ga Γ).bind fun c Γ'=>if c then gb Γ' else .ok false Γ':=rfl
@[simp] theorem Kd:jj ga gb Γ=(ga Γ).bind fun c Γ'=>if c then .ok true Γ' else gb Γ':=rfl
@[simp] theorem Kc:yG ga fa fb Γ=(ga Γ).bind fun b Γ'=>if b then fa Γ' else fb Γ':=rfl
@[simp] theorem Jb:gz fa fb Γ=(fa Γ).bind fun p Γ=>match p.d with | .bool true=>fb Γ | .bool false=>.ok ⟨.leaf,.bool false⟩ Γ | _=>.no:=rfl
@[simp] theorem Ja:yE fa Γ=(fa Γ).bind fun p Γ=>match p.d with | .bool b=>.ok ⟨.leaf,.bool (!b)⟩ Γ | _=>.no:=rfl
@[simp] theorem d9:ak g1 g2 Γ=match g1 Γ with | .nx Γ'=>g2 Γ' | .rt p=>.rt p | .bk Γ'=>.bk Γ' | .ct Γ'=>.ct Γ' | .er c Γ'=>.er c Γ' | .no=>.no:=by
 unfold ak
 cases g1 Γ<;>rfl
@[simp] theorem qW {k:PV->Ev->fO}:iF fa k Γ=match fa Γ with | .ok p Γ1=>k p Γ1 | .er c Γ1=>.er c Γ1 | .no=>.no:=by
 unfold iF
 cases fa Γ<;>rfl
@[simp] theorem IU:bW ga g1 g2 Γ=match ga Γ with | .ok b Γ1=>if b then g1 Γ1 else g2 Γ1 | .er c Γ1=>.er c Γ1 | .no=>.no:=by
 unfold bW
 cases ga Γ<;>rfl
@[simp] theorem F9 {b:Bool}:ao (.bool b)=some b:=rfl
@[simp] theorem IX {b:Bool}:bG (.bool b)=some b:=rfl
@[simp] theorem F7 {xs:List D}:bG (.list xs)=some (!xs.isEmpty):=rfl
noncomputable def Ge (p:PV):PV:=match p.s with
 | .leaf=>p
 | _=>⟨.view,p.d⟩
@[simp] theorem uy {d:D}:Ge ⟨.leaf,d⟩=⟨.leaf,d⟩:=rfl
@[simp] theorem J1 {s:Sh} {d:D}:Ge ⟨.lst s,d⟩=⟨.view,d⟩:=rfl
@[simp] theorem J0 {s:List Sh} {d:D}:Ge ⟨.tup s,d⟩=⟨.view,d⟩:=rfl
@[simp] theorem pK:ae i Γ=match Γ[i]? with | some (some p)=>.ok (Ge p) Γ | _=>.no:=by
 unfold ae
 cases h:Γ[i]? with
 | none=>rfl
 | some o=>
  cases o with
  | none=>rfl
  | some p=>
   obtain ⟨s,d⟩:=p
   cases s<;>rfl
@[simp] theorem IK:b9 i Γ=match Γ[i]? with | some (some p)=>.ok p (Γ.set i none) | _=>.no:=rfl
@[simp] theorem Bg {d:D}:coer .leaf ⟨.leaf,d⟩=true:=rfl
@[simp] theorem Gb {s:Sh} {d:D}:coer .leaf ⟨.lst s,d⟩=true:=rfl
@[simp] theorem Ga {s:List Sh} {d:D}:coer .leaf ⟨.tup s,d⟩=true:=rfl
@[simp] theorem Gc {i:Int} {s:Sh}:coer .leaf ⟨s,.int i⟩=true:=by cases s<;>rfl
@[simp] theorem Gd {b:Bool} {s:Sh}:coer .leaf ⟨s,.bool b⟩=true:=by cases s<;>rfl
@[simp] theorem IT:Sh.isView .leaf=false:=rfl
@[simp] theorem IS {s:Sh}:Sh.isView (.lst s)=false:=rfl
@[simp] theorem IQ {s:List Sh}:Sh.isView (.tup s)=false:=rfl
@[simp] theorem pL {own:Bool}:aB own i fa Γ=match fa Γ with | .ok p Γ1=>(if i<Γ1.length then (if own&&!p.s.isView then .nx (Γ1.set i (some p)) else if T.coer .leaf p then .nx (Γ1.set i (some ⟨.leaf,p.d⟩)) else .no) else .no) | .er c Γ1=>.er c Γ1 | .no=>.no:=by
 unfold aB;rw [qW]
@[simp] theorem pM:aF fa Γ=match fa Γ with | .ok p Γ1=>(if p.s.isView then (if bD p.d then .rt ⟨.leaf,p.d⟩ else .no) else .rt p) | .er c Γ1=>.er c Γ1 | .no=>.no:=by
 unfold aF;rw [qW]
@[simp] theorem Jc:bq fa Γ=match fa Γ with | .ok p Γ1=>.nx Γ1 | .er c Γ1=>.er c Γ1 | .no=>.no:=by
 unfold bq;rw [qW]
@[simp] theorem Je {den:List D->Res}:ag n den fl Γ=(fl Γ).bind fun ps Γ'=>if ps.length=n then (match den (ps.map (·.d)) with | .ok p=>if ps.all (T.coer .leaf) then .ok p Γ' else if bD p.d then .ok ⟨.leaf,p.d⟩ Γ' else .ok ⟨.view,p.d⟩ Γ' | _=>.no) else .no:=rfl
@[simp] theorem IZ {a b:Int}:aS (.int a) (.int b)=some (.int (a+b)):=rfl
@[simp] theorem IY {a b:Int}:gSub (.int a) (.int b)=some (.int (a-b)):=rfl
@[simp] theorem Ka {a b:Int}:i2 (.int a) (.int b)=some (.bool (decide (a<b))):=rfl
@[simp] theorem Kb {a b:Int}:nJ (.int a) (.int b)=some (.bool (decide (b<a))):=rfl
@[simp] theorem Bf {ds:List D}:bB [.list ds]=some (.int ds.length):=rfl
@[simp] theorem F8 {ds:List D}:bB [.tuple ds]=some (.int ds.length):=rfl
noncomputable def mF (p q:PV):Ev->Out PV:=ah (fun Γ=>.ok p Γ) (fun Γ=>.ok q Γ)
@[simp] theorem dI:ah fa fb Γ=(fa Γ).bind fun p Γ1=>(fb Γ1).bind fun q Γ2=>mF p q Γ2:=by
 unfold mF ah aV
 cases fa Γ with
 | ok p Γ1=>simp only [sR]
 | er c Γ1=>rfl
 | no=>rfl
@[simp] theorem lQ {ds:List D} {k:Int} {s:Sh}:mF ⟨.leaf,.tuple ds⟩ ⟨s,.int k⟩ Γ=match eF ds k with | some d=>.ok ⟨.leaf,d⟩ Γ | none=>.no:=by
 unfold mF ah aV eF;simp only [sR]
 cases h:eC ds.length k with
 | none=>rfl
 | some j=>
  simp only [Option.bind_some]
  cases h2:ds[j]? with
  | none=>rfl
  | some d=>rfl
@[simp] theorem lR {ds:List D} {k:Int} {s:Sh}:mF ⟨.leaf,.list ds⟩ ⟨s,.int k⟩ Γ=match eF ds k with | some d=>.ok ⟨.leaf,d⟩ Γ | none=>.no:=by
 unfold mF ah aV eF;simp only [sR]
 cases h:eC ds.length k with
 | none=>rfl
 | some j=>
  simp only [Option.bind_some]
  cases h2:ds[j]? with
  | none=>rfl
  | some d=>rfl
@[simp] theorem J9 {ds:List D} {k:Int} {s:Sh}:mF ⟨.view,.list ds⟩ ⟨s,.int k⟩ Γ=match eF ds k with | some d=>.ok ⟨if bD d then .leaf else .view,d⟩ Γ | none=>.no:=by
 unfold mF ah aV eF;simp only [sR]
 cases h:eC ds.length k with
 | none=>rfl
 | some j=>
  simp only [Option.bind_some]
  cases h2:ds[j]? with
  | none=>rfl
  | some d=>rfl
@[simp] theorem zC {α:Type} {a:α} {r:List α}:eF (a::r) 0=some a:=by
 simp [eF,eC]
@[simp] theorem D1 {α:Type} {a b:α} {r:List α}:eF (a::b::r) 1=some b:=by
 have:(1:Int)<(r.length:Int)+1+1:=by omega
 simp [eF,eC,this]
@[simp] theorem zB {α:Type} {a b c:α} {r:List α}:eF (a::b::c::r) 2=some c:=by
 have:(2:Int)<(r.length:Int)+1+1+1:=by omega
 simp [eF,eC,this]
theorem zW {α:Type} {xs:List α} {k:Nat} {x:α} (h:xs[k]?=some x):eF xs (k:Int)=some x:=by
 have hk:=(List.getElem?_eq_some_iff.mp h).1
 have:(k:Int)<(xs.length:Int):=by omega
 simp [eF,eC,this,h]
end
section
variable {Γ:Ev} {fa fb:F1} {i:Nat}
@[simp] theorem J6 {c:String}:vE c fa Γ=(fa Γ).bind fun p Γ=>.ok ⟨.leaf,.bool (mC (wG p.d) c)⟩ Γ:=rfl
@[simp] theorem IL {s:Sh} {fl:FL}:aU s fl Γ=(fl Γ).bind fun ps Γ'=>if !s.isView&&ps.all (T.coer s)&&decide (ps.length<=sizeLine) then .ok ⟨.lst s,.list (ps.map (·.d))⟩ Γ' else .no:=rfl
@[simp] theorem JY {fl:FL}:bE fl Γ=(fl Γ).bind fun ps Γ'=>if ps.all tok&&decide (ps.length<=sizeLine) then .ok ⟨.tup (ps.map wH),.tuple (ps.map (·.d))⟩ Γ' else .no:=rfl
@[simp] theorem II {d:D}:tok ⟨.leaf,d⟩=true:=rfl
@[simp] theorem IH {s:Sh} {d:D}:tok ⟨.lst s,d⟩=true:=rfl
@[simp] theorem IG {s:List Sh} {d:D}:tok ⟨.tup s,d⟩=true:=rfl
@[simp] theorem J7 {a:D}:b6 false a .none=some (.bool (nL a)):=rfl
@[simp] theorem IP {a:D}:b6 true a .none=some (.bool (!nL a)):=rfl
@[simp] theorem JZ:yD fa fb Γ=(fa Γ).bind fun p Γ1=>(fb Γ1).bind fun q Γ2=>match p.d,q.d with | .tuple xs,.int k=>if !p.s.isView&&decide (1<=k)&&decide (k<=xs.length) then .ok ⟨.leaf,.tuple (xs.drop k.toNat)⟩ Γ2 else .no | _,_=>.no:=rfl
@[simp] theorem J8 {neg:Bool} {tab:List (Str×Int)}:vF neg tab fa Γ=(fa Γ).bind fun p Γ=>match p.d with | .str k=>.ok ⟨.leaf,.bool (if neg then !(cu k tab).isSome else (cu k tab).isSome)⟩ Γ | _=>.no:=rfl
@[simp] theorem IW {tab:List (Str×Int)}:qj tab fa Γ=(fa Γ).bind fun p Γ=>match p.d with | .str k=>(match cu k tab with | some i=>.ok ⟨.leaf,.int i⟩ Γ | none=>.no) | _=>.no:=rfl
@[simp] theorem Be:eR fa Γ=(fa Γ).bind fun p Γ'=>match p.d with | .tuple ds=>if dv p ds then .ok ⟨ds,!p.s.isView⟩ Γ' else .no | _=>.no:=rfl
@[simp] theorem IV:aL fa Γ=(fa Γ).bind fun p Γ'=>match p.d with | .list ds=>if dv p ds then .ok ⟨ds,!p.s.isView⟩ Γ' else .no | _=>.no:=rfl
@[simp] theorem J4 {d:D} {ds:List D}:dv ⟨.leaf,d⟩ ds=true:=rfl
@[simp] theorem J3 {s:Sh} {d:D} {ds:List D}:dv ⟨.lst s,d⟩ ds=true:=rfl
@[simp] theorem J2 {s:List Sh} {d:D} {ds:List D}:dv ⟨.tup s,d⟩ ds=true:=rfl
@[simp] theorem Ke {f:F1}:gK i f Γ=match Γ[i]? with | some (some ⟨.leaf,.int a⟩)=>iF f (vV i a) Γ | _=>.no:=rfl
@[simp] theorem Jh {a b:Int} {s:Sh}:vV i a ⟨s,.int b⟩ Γ=if i<Γ.length then .nx (Γ.set i (some ⟨.leaf,.int (a+b)⟩)) else .no:=rfl
theorem DZ {f:F1} {p:PV} {ds es:List D} (h:Γ[i]?=some (some ⟨.lst .leaf,.list ds⟩)) (hf:f Γ=.ok p Γ) (hp:p.d=.tuple es) (ho:p.s.isView=false) (hn:ds.length+es.length<=10000):gv i f Γ=.nx (Γ.set i (some ⟨.lst .leaf,.list (ds++es)⟩)):=by
 have hb:(10000:Nat)<=sizeLine:=by decide
 obtain ⟨s,d⟩:=p;simp only at hp ho
 subst hp;unfold gv sJ;rw [h];simp only [if_true,qW,hf]
 unfold yB dv;rw [h];have:ds.length+es.length<=sizeLine:=by omega
 simp only [ho,Bool.not_false,Bool.true_or,decide_eq_true this,Bool.and_self,if_true]
theorem kY {β:Type} {c:FB} {g:FS} {G:β->Ev} {test:β->Bool} {step:β->β} {Inv:β->Prop} {meas:β->Nat} (hc:∀b,Inv b->c (G b)=.ok (test b) (G b)) (hg:∀b,Inv b->test b=true->g (G b)=.nx (G (step b))/\Inv (step b)/\meas (step b)<meas b) :
  ∀(N:Nat) (b:β),Inv b->meas b<N->∃b',qv c g N (G b)=.nx (G b')/\Inv b'/\test b'=false
 | 0,b,_,h=>by omega
 | N+1,b,hi,hm=>by
  rw [qv,hc b hi]
  cases ht:test b with
  | false=>exact ⟨b,rfl,hi,ht⟩
  | true=>
   obtain ⟨h1,h2,h3⟩:=hg b hi ht;obtain ⟨b',e,q⟩:=kY hc hg N (step b) h2 (by omega)
   refine ⟨b',?_,q⟩
   simp only [h1]
   exact e
theorem DB {β:Type} {c:FB} {g:FS} {G:β->Ev} {test:β->Bool} {Inv:β->Prop} {meas:β->Nat} (hc:∀b,Inv b->c (G b)=.ok (test b) (G b)) (hg:∀b,Inv b->test b=true->∃b',g (G b)=.nx (G b')/\Inv b'/\meas b'<meas b) :
  ∀(N:Nat) (b:β),Inv b->meas b<N->∃b',qv c g N (G b)=.nx (G b')/\Inv b'/\test b'=false
 | 0,b,_,h=>by omega
 | N+1,b,hi,hm=>by
  rw [qv,hc b hi]
  cases ht:test b with
  | false=>exact ⟨b,rfl,hi,ht⟩
  | true=>
   obtain ⟨b1,h1,h2,h3⟩:=hg b hi ht;obtain ⟨b',e,q⟩:=DB hc hg N b1 h2 (by omega)
   refine ⟨b',?_,q⟩
   simp only [h1]
   exact e
theorem GH {fa:F1} {p:PV} {ds:List D} (ho:Γ[i]?=some (some ⟨.lst .leaf,.list ds⟩)) (h:fa Γ=.ok p Γ) (hc:coer .leaf p=true) (hn:ds.length<=9000):eE i fa Γ=.nx (Γ.set i (some ⟨.lst .leaf,.list (ds++[p.d])⟩)):=by
 have hb:(10000:Nat)<=sizeLine:=by decide
 unfold eE C2;rw [ho];simp only [if_true,qW,h]
 unfold yZ;rw [ho];have:ds.length<sizeLine:=by omega
 simp only [hc,decide_eq_true this,Bool.and_self,if_true]
end
theorem HK {α:Type} {en:α->D} {i:Nat} {fc:FB} {fe:F1} {s:Sh} {c:α->Bool} {f:α->PV} {Γ:Ev} (hΓ:Γ.set i none=Γ):∀(r:List α) (acc:List D),(∀x∈r,fc (Γ.set i (some ⟨.leaf,en x⟩))=.ok (c x) (Γ.set i (some ⟨.leaf,en x⟩))) ->
  (∀x∈r,c x=true->fe (Γ.set i (some ⟨.leaf,en x⟩))=.ok (f x) (Γ.set i (some ⟨.leaf,en x⟩))/\coer s (f x)=true)->acc.length+r.length<=sizeLine->qu i fc fe s (r.map en) Γ acc=.ok (acc++((r.filter c).map fun x=>(f x).d)) Γ
 | [],acc,_,_,_=>by simp [qu]
 | x::r,acc,hc,he,hl=>by
  have h1:=hc x mem_cons_self
  have hl1:acc.length<sizeLine:=by simp only [length_cons] at hl;omega
  have back:(Γ.set i (some ⟨.leaf,en x⟩)).set i none=Γ:=by rw [set_set];exact hΓ
  rw [map_cons,qu,h1]
  cases hcd:c x with
  | false=>
   dsimp only;rw [if_pos hl1,back,HK hΓ r acc (fun d hd=>hc d (mem_cons_of_mem _ hd)) (fun d hd=>he d (mem_cons_of_mem _ hd)) (by simp only [length_cons] at hl;omega)]
   rw [List.filter_cons_of_neg (by rw [hcd];exact Bool.false_ne_true)]
  | true=>
   obtain ⟨h2,h3⟩:=he x mem_cons_self hcd;dsimp only;rw [h2];dsimp only;rw [h3,decide_eq_true hl1,Bool.and_self,if_pos rfl,back,HK hΓ r (acc++[(f x).d]) (fun d hd=>hc d (mem_cons_of_mem _ hd)) (fun d hd=>he d (mem_cons_of_mem _ hd)) (by simp only [length_cons,length_append,length_nil] at hl ⊢;omega)]
   rw [List.filter_cons_of_pos hcd,map_cons,append_assoc];rfl
theorem wW {α:Type} (en:α->D) (xs:List α) (c:α->Bool) (f:α->PV) {s:Sh} {i:Nat} {fi:FI} {fc:FB} {fe:F1} {st:Bool} {Γ:Ev} (hi:fi Γ=.ok ⟨xs.map en,st⟩ Γ) (hl:i<Γ.length) (hs:s.isView=false) (hn:xs.length<=10000)
  (hc:∀x∈xs,fc (Γ.set i (some ⟨.leaf,en x⟩))=.ok (c x) (Γ.set i (some ⟨.leaf,en x⟩))) (he:∀x∈xs,c x=true->fe (Γ.set i (some ⟨.leaf,en x⟩))=.ok (f x) (Γ.set i (some ⟨.leaf,en x⟩))/\coer s (f x)=true) :
  aw s i fi fc fe Γ=.ok ⟨.lst s,.list ((xs.filter c).map fun x=>(f x).d)⟩ Γ:=by
 have hb:(10000:Nat)<=sizeLine:=by decide
 unfold aw;rw [hi];unfold Out.bind;dsimp only;rw [HK (c:=c) (f:=f) (by rw [set_set]) xs [] (fun d hd=>by rw [set_set];exact hc d hd) (fun d hd=>by rw [set_set];exact he d hd) (by simp;omega)]
 dsimp only;rw [hs,decide_eq_true hl];simp only [Bool.not_false,Bool.and_self,if_true,nil_append,set_set]
 have:Γ.set i (Γ.getD i none)=Γ:=by
  apply zj
  rw [getD_eq_getElem?_getD,getElem?_eq_getElem hl];rfl
 rw [this]
theorem kU {α:Type} (en:α->D) (xs:List α) (f:α->PV) {s:Sh} {i:Nat} {fi:FI} {fe:F1} {st:Bool} {Γ:Ev} (hi:fi Γ=.ok ⟨xs.map en,st⟩ Γ) (hl:i<Γ.length) (hs:s.isView=false) (hn:xs.length<=10000)
  (he:∀x∈xs,fe (Γ.set i (some ⟨.leaf,en x⟩))=.ok (f x) (Γ.set i (some ⟨.leaf,en x⟩))/\coer s (f x)=true):aw s i fi aI fe Γ=.ok ⟨.lst s,.list (xs.map fun x=>(f x).d)⟩ Γ:=by
 rw [wW (fc:=aI) en xs (fun _=>true) f hi hl hs hn (fun _ _=>rfl) fun x hx _=>he x hx,List.filter_eq_self.mpr fun _ _=>rfl]
theorem FG {α β:Type} (en:α->D) (step:β->α->β) {Inv:β->List α->Prop} {i:Nat} {body:FS} {G:β->Option PV->Ev} (hi:∀b x,i<(G b x).length) (hset:∀b x y,(G b x).set i y=G b y)
  (hb:∀b a r,Inv b (a::r)->body (G b (some ⟨.leaf,en a⟩))=.nx (G (step b a) (some ⟨.leaf,en a⟩))/\Inv (step b a) r):∀(xs:List α) (b:β) (x:Option PV),Inv b xs->∃y,bF i body (xs.map en) (G b x)=.nx (G (xs.foldl step b) y)/\Inv (xs.foldl step b) []
 | [],b,x,h=>⟨x,rfl,h⟩
 | a::r,b,x,h=>by
  obtain ⟨h1,h2⟩:=hb b a r h;obtain ⟨y,e,h3⟩:=FG en step hi hset hb r (step b a) (some ⟨.leaf,en a⟩) h2
  refine ⟨y,?_,h3⟩
  rw [map_cons,bF,if_pos (hi b x),hset,h1];exact e
end T
namespace KC
open PySem PySem.Spec L2 T PySem.SeqAt
open PyProof.Rows hiding St
noncomputable abbrev rm (t:Nat):D:=.int (t:Int)
noncomputable abbrev av (r:List Nat):D:=.list (r.map rm)
theorem Fv {n:Nat}:cg 0 n=(List.range n).map rm:=by
 unfold cg;simp
theorem zc {t:Nat} {r:List Nat}:bj false (rm t) (av r)=some (.bool (r.contains t)):=by
 have h:=vm (ts:=r.map fun t:Nat=>(t:Int)) (i:=t)
 rw [map_map] at h;refine h.trans ?_
 congr 2
 rw [Bool.eq_iff_iff,contains_iff_mem,contains_iff_mem,mem_map];exact ⟨fun ⟨a,h1,h2⟩=>by rw [<-Int.ofNat_inj.mp h2];exact h1,fun h=>⟨t,h,rfl⟩⟩
theorem DA {t:Nat} {r:List Nat}:bj true (rm t) (av r)=some (.bool (!r.contains t)):=by
 have h:=rE (ts:=r.map fun t:Nat=>(t:Int)) (i:=t)
 rw [map_map] at h;refine h.trans ?_
 congr 3
 rw [Bool.eq_iff_iff,contains_iff_mem,contains_iff_mem,mem_map];exact ⟨fun ⟨a,h1,h2⟩=>by rw [<-Int.ofNat_inj.mp h2];exact h1,fun h=>⟨t,h,rfl⟩⟩
structure Wd where
 n:Nat
 os:List D
 m:List (List Str)
 s:List (List Nat)
noncomputable def cG (r:List Str):D:=.list (r.map .str)
noncomputable def Wd.enc (w:Wd):D:=ez w.os (w.m.map cG) (w.s.map av)
structure Wd.Ok (w:Wd):Prop where
 g:Gw (w.n:Int) w.n w.os (w.m.map cG) (w.s.map av)
 h1:1<=w.n
 h24:w.n<=24
 lm:w.m.length=w.n
 ls:w.s.length=w.n
 st:∀r∈w.s,r≠[]/\r.length<=30/\∀t∈r,t<w.n
 mc:∀r∈w.m,∀c∈r,PyData.strOk c=true
noncomputable def Wd.stp (w:Wd) (r:Nat):List Nat:=w.s.getD r []
noncomputable def Wd.mks (w:Wd) (r:Nat):List Str:=w.m.getD r []
theorem Wd.Ok.at2 {w:Wd} (h:w.Ok) {r:Nat} (hr:r<w.n):eF (w.s.map av) (r:Int)=some (av (w.stp r)):=by
 refine zW ?_
 unfold Wd.stp;rw [getElem?_map,getD_eq_getElem?_getD,getElem?_eq_getElem (by rw [h.ls];exact hr)]
 rfl
theorem Wd.Ok.at1 {w:Wd} (h:w.Ok) {r:Nat} (hr:r<w.n):eF (w.m.map cG) (r:Int)=some (cG (w.mks r)):=by
 refine zW ?_
 unfold Wd.mks;rw [getElem?_map,getD_eq_getElem?_getD,getElem?_eq_getElem (by rw [h.lm];exact hr)]
 rfl
theorem Wd.Ok.stp_lt {w:Wd} (h:w.Ok) {r t:Nat} (ht:t∈w.stp r):t<w.n:=by
 unfold Wd.stp at ht;rw [getD_eq_getElem?_getD] at ht
 cases e:w.s[r]? with
 | none=>rw [e] at ht;simp at ht
 | some x=>rw [e] at ht;exact (h.st x (mem_of_getElem? e)).2.2 t ht
theorem Wd.Ok.stp_ne {w:Wd} (h:w.Ok) {r:Nat} (hr:r<w.n):w.stp r≠[]:=by
 unfold Wd.stp;rw [getD_eq_getElem?_getD,getElem?_eq_getElem (by rw [h.ls];exact hr)]
 exact (h.st _ (getElem_mem _)).1
theorem ib {w:Wd} (h:w.Ok) {r:List Nat}:cE [w.enc,av r]=.ok ⟨.lst .leaf,av ((List.range w.n).filter fun t=>!r.contains t)⟩:=by
 have lo:=h.g.lo
 have h24:=h.h24
 refine aO ?_
 have e:aw .leaf 2 (gQ (ab (bI bB (ab (ah (ae 0) (eK (.int 0))) af)) af)) (aM ao (aA (bj true) (ae 2) (ae 1))) (ae 2) (aH 3 [w.enc,av r])=.ok ⟨.lst .leaf,.list (((List.range w.n).filter fun t=>!r.contains t).map fun t=>rm t)⟩ (aH 3 [w.enc,av r]):=by
  refine wW rm (List.range w.n) (fun t=>!r.contains t) (fun t=>⟨.leaf,rm t⟩) (st:=true) ?_ (by simp [aH]) rfl (by simp;omega) ?_ ?_
  ·refine (tu (k:=(w.n:Int)) (ps:=[⟨.leaf,.int w.n⟩]) ?_ rfl (by omega) (by omega)).trans (by rw [<-Fv];rfl)
   simp [aH,Wd.enc,lo]
  ·intro t ht
   simp [aH,DA]
  ·intro t ht _
   simp [aH]
 unfold fE;rw [pM,e];rfl
inductive Wr where
 | yes | mark | not | sn | an | sa | aa | and | or | su | au
 deriving DecidableEq
noncomputable def Wr.t:Wr->Str
 | .yes => "yes" | .mark => "mark" | .not => "not" | .sn => "some next" | .an => "all next" | .sa => "some always" | .aa => "all always" | .and => "and" | .or => "or" | .su => "some until" | .au => "all until"
theorem mL (a b:Wr):df (.str a.t) (.str b.t)=some (.bool (decide (a=b))):=by cases a<;>cases b<;>kernel_rfl
@[simp] theorem Jv (a:Wr):df (.str a.t) (.str "yes")=some (.bool (decide (a=.yes))):=mL a .yes
@[simp] theorem Gq (a:Wr):df (.str a.t) (.str "mark")=some (.bool (decide (a=.mark))):=mL a .mark
@[simp] theorem Jw (a:Wr):df (.str a.t) (.str "not")=some (.bool (decide (a=.not))):=mL a .not
@[simp] theorem Jx (a:Wr):df (.str a.t) (.str "and")=some (.bool (decide (a=.and))):=mL a .and
@[simp] theorem Kk (a:Wr):df (.str a.t) (.str "or")=some (.bool (decide (a=.or))):=mL a .or
@[simp] theorem vk (a:Wr):bj false (.str a.t) bZ=some (.bool (decide (a=.su\/a=.au))):=by cases a<;>kernel_rfl
@[simp] theorem Gi (a:Wr):bj true (.str a.t) bZ=some (.bool (!decide (a=.su\/a=.au))):=by cases a<;>kernel_rfl
@[simp] theorem Ci (a:Wr):bj false (.str a.t) cN=some (.bool (decide (a=.sa\/a=.aa))):=by cases a<;>kernel_rfl
@[simp] theorem Gk (a:Wr):bj true (.str a.t) cN=some (.bool (!decide (a=.sa\/a=.aa))):=by cases a<;>kernel_rfl
noncomputable def Wr.some (a:Wr):Bool:=decide (a=.sn\/a=.su\/a=.aa)
@[simp] theorem Jp (a:Wr):bj false (.str a.t) bt=.some (.bool a.some):=by cases a<;>kernel_rfl
noncomputable def Wr.ar:Wr->Option Int
 | .yes=>Option.some 0 | .mark=>none | .and=>Option.some 2 | .or=>Option.some 2 | .su=>Option.some 2 | .au=>Option.some 2 | _=>Option.some 1
@[simp] theorem Gn (a:Wr):cu a.t iw=a.ar:=by cases a<;>kernel_rfl
inductive U5 where
 | not | sn | an | sa | aa
 deriving DecidableEq
inductive B4 where
 | and | or | su | au
 deriving DecidableEq
noncomputable def U5.w:U5->Wr
 | .not=>.not | .sn=>.sn | .an=>.an | .sa=>.sa | .aa=>.aa
noncomputable def B4.w:B4->Wr
 | .and=>.and | .or=>.or | .su=>.su | .au=>.au
inductive Sn where
 | yes | mk (c:Str) | un (k:U5) (a:Sn) | bi (k:B4) (a b:Sn)
 deriving DecidableEq
noncomputable def Sn.w:Sn->Wr
 | .yes=>.yes | .mk _=>.mark | .un k _=>k.w | .bi k _ _=>k.w
noncomputable def Sn.args:Sn->List Sn
 | .yes=>[] | .mk _=>[] | .un _ a=>[a] | .bi _ a b=>[a,b]
noncomputable def Sn.enc:Sn->D
 | .yes=>.tuple [.str Wr.yes.t] | .mk c=>.tuple [.str Wr.mark.t,.str c] | .un k a=>.tuple [.str k.w.t,a.enc] | .bi k a b=>.tuple [.str k.w.t,a.enc,b.enc]
noncomputable def Sn.size:Sn->Nat
 | .yes=>1 | .mk _=>1 | .un _ a=>a.size+1 | .bi _ a b=>a.size+b.size+1
noncomputable def Sn.dep:Sn->Nat
 | .yes=>1 | .mk _=>1 | .un _ a=>a.dep+1 | .bi _ a b=>max a.dep b.dep+1
noncomputable def bp:List Str:=["a", "b", "c", "d", "e", "f"]
noncomputable def Sn.ok:Sn->Prop
 | .yes=>True | .mk c=>c∈bp | .un _ a=>a.ok | .bi _ a b=>a.ok/\b.ok
theorem C3 {c:Str} (h:c∈bp):PyData.strOk c=true/\Dg (.str c)=true:=by
 unfold bp at h;simp only [mem_cons,not_mem_nil,or_false] at h
 rcases h with rfl | rfl | rfl | rfl | rfl | rfl<;>decide +kernel
noncomputable def Sn.psh:Sn->Sh
 | .mk _=>.tup [] | _=>.leaf
@[simp] theorem D8 (s:Sn):s.psh.isView=false:=by cases s<;>rfl
theorem HM (s:Sn):aR [s.enc]=.ok ⟨s.psh,.tuple (s.args.map Sn.enc)⟩:=by
 cases s with
 | yes=>simp [aR,aC,du,aH,Sn.enc,Sn.args,Sn.psh]
 | mk c=>simp [aR,aC,du,aH,Sn.enc,Sn.args,Sn.psh]
 | un k a=>cases k<;>simp [aR,aC,du,aH,Sn.enc,Sn.args,Sn.psh,U5.w]
 | bi k a b=>cases k<;>simp [aR,aC,du,aH,Sn.enc,Sn.args,Sn.psh,B4.w]
theorem oP {s:Sn} (h:s.ok):bA [s.enc]=.ok ⟨.leaf,.bool true⟩:=by
 cases s with
 | yes=>simp [bA,aC,cO,aH,Sn.enc,mC,wG,Wr.ar,eq_int]
 | mk c=>
  obtain ⟨h1,h2⟩:=C3 h;simp [bA,aC,cO,aH,Sn.enc,mC,wG,Wr.ar,eq_int,vn h1,h2]
 | un k a=>cases k<;>simp [bA,aC,cO,aH,Sn.enc,mC,wG,Wr.ar,U5.w,eq_int]
 | bi k a b=>cases k<;>simp [bA,aC,cO,aH,Sn.enc,mC,wG,Wr.ar,B4.w,eq_int]
noncomputable def fP (l:List Sn):D:=.list (l.map Sn.enc)
noncomputable def jN (l:List Sn):Nat:=(l.map Sn.size).sum
theorem Sn.size_pos (s:Sn):1<=s.size:=by cases s<;>simp [Sn.size]
theorem Sn.args_le (s:Sn):s.args.length<=2:=by cases s<;>simp [Sn.args]
theorem Sn.args_sz (s:Sn):jN s.args+1=s.size:=by cases s<;>simp [Sn.args,jN,Sn.size]
theorem yj (l:List Sn):l.length<=jN l:=by
 induction l with
 | nil=>simp [jN]
 | cons a r ih=>
  have:=a.size_pos
  simp only [jN,map_cons,sum_cons,length_cons] at ih ⊢
  omega
theorem xa (a b:List Sn):jN (a++b)=jN a+jN b:=by simp [jN]
theorem tW (l:List Sn):jN (l.flatMap Sn.args)+l.length=jN l:=by
 induction l with
 | nil=>simp [jN]
 | cons a r ih=>
  have:=a.args_sz
  rw [List.flatMap_cons,xa];simp only [jN,map_cons,sum_cons,length_cons] at ih this ⊢
  omega
noncomputable def eT (l:List Sn):Nat:=l.foldr (fun s m=>max s.dep m) 0
theorem FD (a:Sn) (r:List Sn):eT (a::r)=max a.dep (eT r):=rfl
theorem vK (a b:List Sn):eT (a++b)=max (eT a) (eT b):=by
 induction a with
 | nil=>simp [eT]
 | cons x r ih=>rw [List.cons_append,FD,FD,ih,Nat.max_assoc]
theorem Sn.dep_args (s:Sn):eT s.args+1=s.dep:=by cases s<;>simp [Sn.args,eT,Sn.dep]
theorem jZ (l:List Sn) (h:l≠[]):eT (l.flatMap Sn.args)+1=eT l:=by
 induction l with
 | nil=>exact absurd rfl h
 | cons a r ih=>
  have:=a.dep_args
  rw [List.flatMap_cons,vK,FD]
  cases r with
  | nil=>simp [eT] at this ⊢;omega
  | cons b t=>
   have:=ih (by simp)
   omega
theorem jz {l:List Sn} (hn:l.length<=1000):cn [fP l]=.ok ⟨.lst .leaf,fP (l.flatMap Sn.args)⟩:=by
 obtain ⟨y,e,_⟩:=FG Sn.enc (fun (b:List Sn) a=>b++a.args) (Inv:=fun b r=>b.length+2*r.length<=2000) (i:=2) (body:=gv 1 (ag 1 aR (ab (ae 2) af))) (G:=fun b x=>[some ⟨.leaf,fP l⟩,some ⟨.lst .leaf,fP b⟩,x])
  (fun _ _=>by simp) (fun _ _ _=>by simp) (fun b a r hI=>by
   have h2:=a.args_le
   simp only [length_cons] at hI
   refine ⟨?_,by simp only [length_append];omega⟩
   rw [DZ (ds:=b.map Sn.enc) (es:=a.args.map Sn.enc) (p:=⟨a.psh,.tuple (a.args.map Sn.enc)⟩) rfl ?_ rfl (by simp) (by simp only [length_map];omega)]
   ·simp [fP]
   ·simp [HM,D8,coer]) l [] none (by simp;omega)
 have ef:l.foldl (fun (b:List Sn) a=>b++a.args) []=l.flatMap Sn.args:=by
  have:∀(l:List Sn) (b:List Sn),l.foldl (fun (b:List Sn) a=>b++a.args) b=b++l.flatMap Sn.args:=by
   intro l;induction l with
   | nil=>intro b;simp
   | cons a r ih=>intro b;rw [List.foldl_cons,ih,List.flatMap_cons,append_assoc]
  rw [this,nil_append]
 rw [ef] at e;refine aO ?_
 have e2:dA 2 (aL (ae 0)) (gv 1 (ag 1 aR (ab (ae 2) af))) [some ⟨.leaf,fP l⟩,some ⟨.lst .leaf,fP []⟩,none]=.nx [some ⟨.leaf,fP l⟩,some ⟨.lst .leaf,fP (l.flatMap Sn.args)⟩,y]:=eG (b7 (ds:=l.map Sn.enc) (ay rfl) rfl) e
 have e1:aB true 1 (aU .leaf af) (aH 3 [fP l])=.nx [some ⟨.leaf,fP l⟩,some ⟨.lst .leaf,fP []⟩,none]:=by simp [aH,fP]
 unfold eX;rw [d9,e1];simp only
 rw [d9,e2];simp
structure LS where
 ls:List (List Sn)
 l:List Sn
 many:Nat
noncomputable abbrev GF (s:Sn) (b:LS):Ev:=[some ⟨.leaf,s.enc⟩,some ⟨.lst .leaf,.list (b.ls.map fP)⟩,some ⟨.leaf,fP b.l⟩,some ⟨.leaf,.int (b.many:Int)⟩,none]
structure LI (s:Sn) (b:LS):Prop where
 tot:(b.ls.map List.length).sum+jN b.l=s.size
 mny:b.many=(b.ls.map List.length).sum
 dep:b.ls.length+eT b.l=s.dep
 ok:∀a∈b.l,a.ok
theorem Sn.args_ok {s:Sn} (h:s.ok):∀a∈s.args,a.ok:=by
 cases s with
 | yes=>simp [Sn.args]
 | mk c=>simp [Sn.args]
 | un k a=>simpa [Sn.args,Sn.ok] using h
 | bi k a b=>simpa [Sn.args,Sn.ok] using h
theorem vJ {l:List Sn} (h:l≠[]):1<=eT l:=by
 have:=jZ l h
 omega
theorem oO {s:Sn} (h:s.ok) (hs:s.size<=200) (hd:s.dep<=24):∃L:List (List Sn),eN [s.enc]=.ok ⟨.lst .leaf,.list (L.map fP)⟩/\L.length=s.dep/\(L.map List.length).sum=s.size:=by
 obtain ⟨b',e,I,ht⟩:=kY (c:=aM bG (ae 2)) (G:=GF s) (test:=fun b=>!b.l.isEmpty) (step:=fun b=>⟨b.ls++[b.l],b.l.flatMap Sn.args,b.many+b.l.length⟩) (Inv:=LI s) (meas:=fun b=>jN b.l)
  (g:=(ak (gK 3 (bI bB (ab (ae 2) af)))
  (ak (bW (jj (aM ao (aA nJ (ae 3) (eK cX))) (jj (aM ao (aA df (bI bB (ab (ae 1) af)) (eK cY))) (dC (aM bG (bI (cw false) (ab (aw .leaf 4 (aL (ae 2)) aI (ag 1 bA (ab (ae 4) af))) af)))))) (aF (eK .none)) aG)
  (ak (eE 1 (ae 2))
  (aB false 2 (ag 1 cn (ab (ae 2) af))))))) (fun b I=>by simp [GF,fP]) (fun b I ht=>by
   have hne:b.l≠[]:=by intro z;rw [z] at ht;simp at ht
   have t1:=I.tot
   have t2:=I.mny
   have t3:=I.dep
   have t4:=yj b.l
   have t5:=vJ hne
   have t6:=tW b.l
   have t7:=jZ b.l hne
   have t8:0<b.l.length:=List.length_pos_iff.mpr hne
   refine ⟨?_,⟨?_,?_,?_,?_⟩,?_⟩
   ·have c1:aw .leaf 4 (aL (ae 2)) aI (ag 1 bA (ab (ae 4) af)) [some ⟨.leaf,s.enc⟩,some ⟨.lst .leaf,.list (b.ls.map fP)⟩,some ⟨.leaf,fP b.l⟩,some ⟨.leaf,.int ((b.many:Int)+b.l.length)⟩,none]=.ok ⟨.lst .leaf,.list (b.l.map fun _=>.bool true)⟩ [some ⟨.leaf,s.enc⟩,some ⟨.lst .leaf,.list (b.ls.map fP)⟩,some ⟨.leaf,fP b.l⟩,some ⟨.leaf,.int ((b.many:Int)+b.l.length)⟩,none]:=by
     refine kU Sn.enc b.l (fun _=>⟨.leaf,.bool true⟩) (st:=true) (by simp [fP]) (by simp) rfl (by omega) fun a ha=>?_
     simp [oP (I.ok a ha)]
    have c2:cw false [.list (b.l.map fun _=>.bool true)]=some (.bool true):=by
     rw [wV (f:=fun _=>true)]
     simp
    have n1:¬((200:Int)<(b.many:Int)+b.l.length):=by omega
    have n2:¬((b.ls.length:Int)=24):=by omega
    have lb:b.ls.length<=24:=by omega
    have pa:=jz (l:=b.l) (by omega)
    have ap:eE 1 (ae 2) [some ⟨.leaf,s.enc⟩,some ⟨.lst .leaf,.list (b.ls.map fP)⟩,some ⟨.leaf,fP b.l⟩,some ⟨.leaf,.int ((b.many:Int)+b.l.length)⟩,none]=.nx [some ⟨.leaf,s.enc⟩,some ⟨.lst .leaf,.list (b.ls.map fP++[fP b.l])⟩,some ⟨.leaf,fP b.l⟩,some ⟨.leaf,.int ((b.many:Int)+b.l.length)⟩,none]:=
     GH rfl (ay rfl) rfl (by simp;omega)
    simp [GF,fP,cX,cY] at c1 ap pa ⊢
    simp [c1,c2,n1,n2,eq_int,ap,pa]
   ·simp only [map_append,map_cons,map_nil,List.sum_append,sum_cons,List.sum_nil]
    omega
   ·simp only [map_append,map_cons,map_nil,List.sum_append,sum_cons,List.sum_nil]
    omega
   ·simp only [length_append,length_cons,length_nil]
    omega
   ·intro a ha
    obtain ⟨c,hc,ha⟩:=List.mem_flatMap.mp ha;exact Sn.args_ok (I.ok c hc) a ha
   ·show jN (b.l.flatMap Sn.args)<jN b.l
    omega) 1000 ⟨[],[s],0⟩ ⟨by simp [jN],by simp,by simp [eT],by simpa using h⟩ (by simp [jN];omega)
 have hl:b'.l=[]:=by simpa using ht
 refine ⟨b'.ls,?_,?_,?_⟩
 ·refine aO ?_
  have e0:GF s ⟨[],[s],0⟩=[some ⟨.leaf,s.enc⟩,some ⟨.lst .leaf,.list []⟩,some ⟨.leaf,.list [s.enc]⟩,some ⟨.leaf,.int 0⟩,none]:=rfl
  rw [e0] at e;unfold gS;simp [aH]
  unfold nM;rw [e];simp
 ·have:=I.dep;rw [hl] at this;simpa [eT] using this
 ·have:=I.tot;rw [hl] at this;simpa [jN] using this
theorem dr {s:Sn} (h:s.ok) (hs:s.size<=200) (hd:s.dep<=24):bS [s.enc]=.ok ⟨.leaf,.none⟩:=by
 obtain ⟨L,e,_⟩:=oO h hs hd;have e2:cC [s.enc]=.ok ⟨.leaf,.list (L.map fP)⟩:=by
  refine aO ?_
  simp [dO,aH,e,nL]
 refine fX (Γ:=[some ⟨.leaf,s.enc⟩]) ?_
 simp [dP,aH,e2]
end KC
namespace KC
noncomputable def aZ (rk:List (Option Nat)) (t:Nat):Option Nat:=rk.getD t none
noncomputable def led (any:Bool) (l:List Nat) (P:Nat->Prop):Prop:=if any then ∃t∈l,P t else ∀t∈l,P t
theorem led_t {l:List Nat} {P:Nat->Prop}:led true l P↔∃t∈l,P t:=by unfold led;simp
theorem led_f {l:List Nat} {P:Nat->Prop}:led false l P↔∀t∈l,P t:=by unfold led;simp
theorem zi {any:Bool} {l:List Nat} {P Q:Nat->Prop} (h:led any l P) (i:∀t∈l,P t->Q t):led any l Q:=by
 cases any with
 | true=>obtain ⟨t,ht,hp⟩:=led_t.mp h;exact led_t.mpr ⟨t,ht,i t ht hp⟩
 | false=>exact led_f.mpr fun t ht=>i t ht (led_f.mp h t ht)
structure RightG (n:Nat) (st:Nat->List Nat) (ch:Nat->Bool) (thr goal:List Nat) (rk:List (Option Nat)):Prop where
 len:rk.length=n
 g:∀r,r<n->r∈goal->aZ rk r=some 0
 p:∀r k,r<n->r∉goal->aZ rk r=some k->0<k/\r∈thr/\led (ch r) (st r) fun t=>∃j,aZ rk t=some j/\j<k
 z:∀r,r<n->aZ rk r=none->r∉goal/\(r∉thr\/¬led (ch r) (st r) fun t=>aZ rk t≠none)
section
variable {n:Nat} {st:Nat->List Nat} {ch own:Nat->Bool} {thr goal:List Nat} {rk:List (Option Nat)}
theorem RightG.min (h:RightG n st ch thr goal rk) {S:Nat->Prop} (cl:∀r t,t∈st r->t<n) (hg:∀r,r<n->r∈goal->S r) (hs:∀r,r<n->r∈thr->led (ch r) (st r) S->S r) {r:Nat} (hr:r<n) (hk:aZ rk r≠none):S r:=by
 have key:∀k r,r<n->aZ rk r=some k->S r:=by
  intro k;induction k using Nat.strongRecOn with
  | ind k ih=>
   intro r hr hk;by_cases hgo:r∈goal
   ·exact hg r hr hgo
   ·obtain ⟨_,h2,h3⟩:=h.p r k hr hgo hk
    exact hs r hr h2 (zi h3 fun t ht ⟨j,hj,hlt⟩=>ih j hlt t (cl r t ht) hj)
 obtain ⟨k,hk⟩:=Option.ne_none_iff_exists'.mp hk
 exact key k r hr hk
theorem RightG.goal_ok (h:RightG n st ch thr goal rk) {r:Nat} (hr:r<n) (hg:r∈goal):aZ rk r≠none:=by rw [h.g r hr hg];simp
theorem RightG.step_ok (h:RightG n st ch thr goal rk) {r:Nat} (hr:r<n) (ht:r∈thr) (hl:led (ch r) (st r) fun t=>aZ rk t≠none):aZ rk r≠none:=fun z=>by
 rcases (h.z r hr z).2 with q | q
 ·exact q ht
 ·exact q hl
end
noncomputable def inn (st:Nat->List Nat) (L:List Nat) (r:Nat):List Nat:=(st r).filter fun t=>L.contains t
structure CS (n:Nat) (st:Nat->List Nat) (own:Nat->Bool) (T X:Nat->Prop):Prop where
 lt:∀r,X r->r<n
 c:∀r,X r->led (own r) (st r) X
 a:∀S:Nat->Prop,(∀r,X r->T r->S r)->(∀r,X r->led (own r) (st r) (fun t=>X t/\S t)->S r)->∀r,X r->S r
structure Fr {α:Type} (n:Nat) (st:Nat->List Nat) (R:Nat->Prop) (M:List α) (mk:α->Nat->Prop) (X:Nat->Prop):Prop where
 lt:∀r,X r->r<n
 sub:∀r,X r->R r
 c:∀r,X r->∃t∈st r,X t
 a:∀m∈M,∀S:Nat->Prop,(∀r,X r->mk m r->S r)->(∀r,X r->(∃t∈st r,X t/\S t)->S r)->∀r,X r->S r
noncomputable def Std (n:Nat) (L:List Nat):Prop:=∃q:Nat->Bool,L=(List.range n).filter q
theorem Std.lt {n:Nat} {L:List Nat} (h:Std n L):∀r∈L,r<n:=by
 obtain ⟨q,rfl⟩:=h;intro r hr;exact List.mem_range.mp (List.mem_filter.mp hr).1
theorem Std.len {n:Nat} {L:List Nat} (h:Std n L):L.length<=n:=by
 obtain ⟨q,rfl⟩:=h;exact Nat.le_trans (length_filter_le _ _) (by simp)
theorem Std.filter {n:Nat} {L:List Nat} (h:Std n L) (p:Nat->Bool):Std n (L.filter p):=by
 obtain ⟨q,rfl⟩:=h;exact ⟨fun t=>p t&&q t,List.filter_filter ..⟩
theorem Std.of {n:Nat} (q:Nat->Bool):Std n ((List.range n).filter q):=⟨q,rfl⟩
theorem Std.ext {n:Nat} {L M:List Nat} (h:Std n L) (h':Std n M) (e:∀r,r<n->(r∈L↔r∈M)):L=M:=by
 obtain ⟨q,rfl⟩:=h;obtain ⟨p,rfl⟩:=h'
 refine List.filter_congr fun r hr=>?_
 have:=e r (List.mem_range.mp hr)
 simp only [mem_filter,hr,true_and] at this
 exact Bool.eq_iff_iff.mpr this
open PySem PySem.Spec L2 T PySem.SeqAt
open PyProof.Rows hiding St
noncomputable def oD:Option Nat->D
 | none=>.none
 | some k=>.int (k:Int)
@[simp] theorem Gh (o:Option Nat):nL (oD o)=o.isNone:=by cases o<;>rfl
@[simp] theorem Gg (o:Option Nat):bD (oD o)=true:=by cases o<;>rfl
noncomputable abbrev eZ (rk:List (Option Nat)):D:=.list (rk.map oD)
theorem gg {rk:List (Option Nat)} {t:Nat} (h:t<rk.length):eF (rk.map oD) (t:Int)=some (oD (aZ rk t)):=by
 refine zW ?_
 unfold aZ;rw [getElem?_map,getD_eq_getElem?_getD,getElem?_eq_getElem h];rfl
noncomputable def iQ (any:Bool) (bs:List Bool):Bool:=if any then bs.any id else bs.all id
theorem qh {bs:List Bool}:cw true [.list (bs.map .bool)]=some (.bool (bs.any id)):=by
 have h:=Hu (any:=true) (xs:=bs) (f:=id)
 show Option.map _ (sU _)=_
 rw [show (bs.map PyData.bool)=bs.map fun x=>PyData.bool (id x) from rfl,h]
 simp
theorem vA {bs:List Bool}:cw false [.list (bs.map .bool)]=some (.bool (bs.all id)):=by
 have h:=Hu (any:=true) (xs:=bs) (f:=id)
 show Option.map _ (sU _)=_
 rw [show (bs.map PyData.bool)=bs.map fun x=>PyData.bool (id x) from rfl,h]
 simp
theorem qk {c:Bool} {bs:List Bool}:cK [.bool c,.list (bs.map .bool)]=.ok ⟨.leaf,.bool (iQ c bs)⟩:=by
 unfold iQ
 cases c<;>simp [cK,aC,m4,aH,qh,vA]
structure Wd.Ok0 (w:Wd):Prop where
 lo:w.os.length=w.n
 h24:w.n<=24
 ls:w.s.length=w.n
 st:∀r∈w.s,r.length<=30/\∀t∈r,t<w.n
theorem Wd.Ok.z {w:Wd} (h:w.Ok):w.Ok0:=⟨h.g.lo,h.h24,h.ls,fun r hr=>(h.st r hr).2⟩
theorem Wd.Ok0.at2 {w:Wd} (h:w.Ok0) {r:Nat} (hr:r<w.n):eF (w.s.map av) (r:Int)=some (av (w.stp r)):=by
 refine zW ?_
 unfold Wd.stp;rw [getElem?_map,getD_eq_getElem?_getD,getElem?_eq_getElem (by rw [h.ls];exact hr)]
 rfl
theorem Wd.Ok0.stp_lt {w:Wd} (h:w.Ok0) {r t:Nat} (ht:t∈w.stp r):t<w.n:=by
 unfold Wd.stp at ht;rw [getD_eq_getElem?_getD] at ht
 cases e:w.s[r]? with
 | none=>rw [e] at ht;simp at ht
 | some x=>rw [e] at ht;exact (h.st x (mem_of_getElem? e)).2 t ht
theorem Wd.Ok0.len {w:Wd} (h:w.Ok0) {r:Nat}:(w.stp r).length<=10000:=by
 unfold Wd.stp;rw [getD_eq_getElem?_getD]
 cases e:w.s[r]? with
 | none=>simp
 | some x=>
  have:=(h.st x (mem_of_getElem? e)).1
  simp only [Option.getD_some]
  omega
noncomputable abbrev nk (cl:List Bool):D:=.list (cl.map .bool)
noncomputable def gB (cl:List Bool) (r:Nat):Bool:=cl.getD r false
theorem EU {cl:List Bool} {t:Nat} (h:t<cl.length):eF (cl.map PyData.bool) (t:Int)=some (.bool (gB cl t)):=by
 refine zW ?_
 unfold gB;rw [getElem?_map,getD_eq_getElem?_getD,getElem?_eq_getElem h];rfl
noncomputable def u4 (w:Wd) (ch:Nat->Bool) (thr:List Nat) (rk:List (Option Nat)):List Nat:=thr.filter fun r=>(aZ rk r).isNone&&iQ (ch r) ((w.stp r).map fun t=>(aZ rk t).isSome)
theorem vN {w:Wd} (h:w.Ok0) {cl:List Bool} {thr:List Nat} {rk:List (Option Nat)} (hcl:cl.length=w.n) (ht:∀r∈thr,r<w.n) (hl:rk.length=w.n) (hn:thr.length<=1000):bY [w.enc,nk cl,av thr,eZ rk]=.ok ⟨.lst .leaf,av (u4 w (gB cl) thr rk)⟩:=by
 obtain ⟨y,e,_⟩:=FG rm (fun (b:List Nat) r=>if (aZ rk r).isNone&&iQ (gB cl r) ((w.stp r).map fun t=>(aZ rk t).isSome) then b++[r] else b) (Inv:=fun b r=>b.length+r.length<=1000/\∀t∈r,t<w.n) (i:=5)
  (body:=(bW (gC (aM ao (aA (b6 false) (ah (ae 3) (ae 5)) (eK .none))) (aM bG (ag 2 cK (ab (ah (ae 1) (ae 5)) (ab (aw .leaf 6 (aL (ah (ah (ae 0) (eK (.int 2))) (ae 5))) aI (aA (b6 true) (ah (ae 3) (ae 6)) (eK .none))) af))))) (eE 4 (ae 5)) aG))
  (G:=fun b x=>[some ⟨.leaf,w.enc⟩,some ⟨.leaf,nk cl⟩,some ⟨.leaf,av thr⟩,some ⟨.leaf,eZ rk⟩,some ⟨.lst .leaf,av b⟩,x,none])
  (fun _ _=>by simp) (fun _ _ _=>by simp) (fun b r rest hI=>by
   obtain ⟨h1,h2⟩:=hI;have hr:r<w.n:=h2 r mem_cons_self
   have a1:=gg (rk:=rk) (t:=r) (by omega)
   have a2:=h.at2 hr
   have a4:=EU (cl:=cl) (t:=r) (by omega)
   simp only [length_cons] at h1
   have c1:aw .leaf 6 (aL (ah (ah (ae 0) (eK (.int 2))) (ae 5))) aI (aA (b6 true) (ah (ae 3) (ae 6)) (eK .none)) [some ⟨.leaf,w.enc⟩,some ⟨.leaf,nk cl⟩,some ⟨.leaf,av thr⟩,some ⟨.leaf,eZ rk⟩,some ⟨.lst .leaf,av b⟩,some ⟨.leaf,rm r⟩,none]
     = .ok ⟨.lst .leaf,.list ((w.stp r).map fun t=>.bool (aZ rk t).isSome)⟩ [some ⟨.leaf,w.enc⟩,some ⟨.leaf,nk cl⟩,some ⟨.leaf,av thr⟩,some ⟨.leaf,eZ rk⟩,some ⟨.lst .leaf,av b⟩,some ⟨.leaf,rm r⟩,none]:=by
    refine kU rm (w.stp r) (fun t=>⟨.leaf,.bool (aZ rk t).isSome⟩) (st:=true) (by simp [Wd.enc,a2]) (by simp) rfl h.len fun t ht=>?_
    have a3:=gg (rk:=rk) (t:=t) (by rw [hl];exact h.stp_lt ht)
    simp [a3]
   have dl:=qk (c:=gB cl r) (bs:=(w.stp r).map fun t=>(aZ rk t).isSome)
   rw [map_map] at dl;have dl:cK [.bool (gB cl r),.list ((w.stp r).map fun t=>.bool (aZ rk t).isSome)]=.ok ⟨.leaf,.bool (iQ (gB cl r) ((w.stp r).map fun t=>(aZ rk t).isSome))⟩:=dl
   have ap:eE 4 (ae 5) [some ⟨.leaf,w.enc⟩,some ⟨.leaf,nk cl⟩,some ⟨.leaf,av thr⟩,some ⟨.leaf,eZ rk⟩,some ⟨.lst .leaf,av b⟩,some ⟨.leaf,rm r⟩,none]=.nx [some ⟨.leaf,w.enc⟩,some ⟨.leaf,nk cl⟩,some ⟨.leaf,av thr⟩,some ⟨.leaf,eZ rk⟩,some ⟨.lst .leaf,.list (b.map rm++[rm r])⟩,some ⟨.leaf,rm r⟩,none]:=
    GH rfl (ay rfl) rfl (by simp;omega)
   refine ⟨?_,?_⟩
   ·cases q1:(aZ rk r).isNone with
    | false=>simp [a1,q1]
    | true=>
     cases q2:iQ (gB cl r) ((w.stp r).map fun t=>(aZ rk t).isSome) with
     | false=>simp [a1,a4,q1,c1,dl,q2]
     | true=>simp [a1,a4,q1,c1,dl,q2,ap]
   ·refine ⟨?_,fun t ht=>h2 t (mem_cons_of_mem _ ht)⟩
    split
    ·rw [length_append,length_singleton];omega
    ·omega) thr [] none (by simp;exact ⟨hn,ht⟩)
 have ef:∀(l b:List Nat),l.foldl (fun (b:List Nat) r=>if (aZ rk r).isNone&&iQ (gB cl r) ((w.stp r).map fun t=>(aZ rk t).isSome) then b++[r] else b) b=b++u4 w (gB cl) l rk:=by
  intro l;induction l with
  | nil=>intro b;simp [u4]
  | cons r t ih=>
   intro b;rw [List.foldl_cons,ih];unfold u4;rw [filter_cons];split<;>simp
 rw [ef,nil_append] at e;refine aO ?_
 have e2:=eG (fi:=aL (ae 2)) (Γ:=[some ⟨.leaf,w.enc⟩,some ⟨.leaf,nk cl⟩,some ⟨.leaf,av thr⟩,some ⟨.leaf,eZ rk⟩,some ⟨.lst .leaf,av []⟩,none,none]) (b7 (ds:=thr.map rm) (ay rfl) rfl) e
 have e1:aB true 4 (aU .leaf af) (aH 7 [w.enc,nk cl,av thr,eZ rk])=.nx [some ⟨.leaf,w.enc⟩,some ⟨.leaf,nk cl⟩,some ⟨.leaf,av thr⟩,some ⟨.leaf,eZ rk⟩,some ⟨.lst .leaf,av []⟩,none,none]:=by simp [aH]
 unfold fD;rw [d9,e1];simp only
 rw [d9,e2];simp
theorem led_iff {any:Bool} {l:List Nat} {b:Nat->Bool}:iQ any (l.map b)=true↔led any l fun t=>b t=true:=by
 unfold iQ led
 cases any<;>simp
structure Right (w:Wd) (any:Bool) (thr goal:List Nat) (rk:List (Option Nat)):Prop where
 len:rk.length=w.n
 g:∀r,r<w.n->r∈goal->aZ rk r=some 0
 p:∀r k,r<w.n->r∉goal->aZ rk r=some k->0<k/\r∈thr/\led any (w.stp r) fun t=>∃j,aZ rk t=some j/\j<k
 z:∀r,r<w.n->aZ rk r=none->r∉goal/\(r∉thr\/¬led any (w.stp r) fun t=>aZ rk t≠none)
inductive Unt (w:Wd) (any:Bool) (P Q:Nat->Prop):Nat->Prop where
 | now {r:Nat}:Q r->Unt w any P Q r
 | some {r t:Nat}:any=true->P r->t∈w.stp r->Unt w any P Q t->Unt w any P Q r
 | all {r:Nat}:any=false->P r->(∀t∈w.stp r,Unt w any P Q t)->Unt w any P Q r
theorem Unt.of_led {w:Wd} {any:Bool} {P Q:Nat->Prop} {r:Nat} (hp:P r) (h:led any (w.stp r) (Unt w any P Q)):Unt w any P Q r:=by
 unfold led at h
 cases any with
 | true=>obtain ⟨t,ht,hu⟩:=(by simpa using h:∃t,t∈w.stp r/\Unt w true P Q t);exact .some rfl hp ht hu
 | false=>exact .all rfl hp (by simpa using h)
theorem Right.iff {w:Wd} (ok:w.Ok) {any:Bool} {thr goal:List Nat} {rk:List (Option Nat)} (h:Right w any thr goal rk) {r:Nat} (hr:r<w.n):aZ rk r≠none↔Unt w any (·∈thr) (·∈goal) r:=by
 constructor
 ·intro hn
  obtain ⟨k,hk⟩:=Option.ne_none_iff_exists'.mp hn
  have key:∀k r,r<w.n->aZ rk r=some k->Unt w any (·∈thr) (·∈goal) r:=by
   intro k;induction k using Nat.strongRecOn with
   | ind k ih=>
    intro r hr hk;by_cases hg:r∈goal
    ·exact .now hg
    ·obtain ⟨_,h2,h3⟩:=h.p r k hr hg hk
     exact .of_led h2 (zi h3 fun t ht ⟨j,hj,hlt⟩=>ih j hlt t (ok.stp_lt ht) hj)
  exact key k r hr hk
 ·intro hu
  induction hu with
  | now q=>rw [h.g _ hr q];simp
  | @some r t e hp ht _ ih=>
   intro hz;obtain ⟨_,z⟩:=h.z r hr hz;rcases z with z | z
   ·exact z hp
   ·subst e
    exact z (by unfold led;simpa using ⟨t,ht,by have:=ih (ok.stp_lt ht);simpa using this⟩)
  | @all r e hp _ ih=>
   intro hz;obtain ⟨_,z⟩:=h.z r hr hz;rcases z with z | z
   ·exact z hp
   ·subst e
    exact z (by unfold led;simpa using fun t ht=>by have:=ih t ht (ok.stp_lt ht);simpa using this)
noncomputable def cA (rk:List (Option Nat)) (k:Nat) (fr:List Nat):List (Option Nat):=fr.foldl (fun l r=>l.set r (some k)) rk
theorem Hw {k:Nat}:∀(fr:List Nat) (rk:List (Option Nat)),(cA rk k fr).length=rk.length
 | [],_=>rfl
 | a::r,rk=>by
  show (cA (rk.set a (some k)) k r).length=_
  rw [Hw,length_set]
theorem xo {rk:List (Option Nat)} {a t:Nat} {o:Option Nat} (h:a<rk.length):aZ (rk.set a o) t=if t=a then o else aZ rk t:=by
 unfold aZ;rw [getD_eq_getElem?_getD,getD_eq_getElem?_getD];split
 ·rename_i e;subst e;rw [getElem?_set_self h];rfl
 ·rename_i e;rw [getElem?_set_ne (fun z=>e z.symm)]
theorem pI {k t:Nat}:∀(fr:List Nat) (rk:List (Option Nat)),(∀a∈fr,a<rk.length)->aZ (cA rk k fr) t=if t∈fr then some k else aZ rk t
 | [],rk,_=>by simp [cA]
 | a::r,rk,h=>by
  show aZ (cA (rk.set a (some k)) k r) t=_
  rw [pI r _ (fun b hb=>by rw [length_set];exact h b (mem_cons_of_mem _ hb)),xo (h a mem_cons_self)]
  by_cases e1:t∈r
  ·simp [e1]
  ·by_cases e2:t=a
   ·simp [e2]
   ·simp [e1,e2]
noncomputable def bV (rk:List (Option Nat)):Nat:=(rk.filter Option.isNone).length
theorem rF {rk:List (Option Nat)} {a k:Nat} (h:rk[a]?=some none):bV (rk.set a (some k))+1=bV rk:=by
 induction rk generalizing a with
 | nil=>simp at h
 | cons x r ih=>
  cases a with
  | zero=>
   simp at h
   subst h;simp [bV]
  | succ a=>
   have:=ih (a:=a) (by simpa using h)
   simp only [bV,List.set_cons_succ,filter_cons] at this ⊢
   cases x with
   | none=>simp only [Option.isNone_none,if_true,length_cons];omega
   | some v=>simpa using this
theorem u6 {rk:List (Option Nat)} {a k:Nat}:bV (rk.set a (some k))<=bV rk:=by
 induction rk generalizing a with
 | nil=>simp [bV]
 | cons x r ih=>
  cases a with
  | zero=>cases x<;>simp [bV]
  | succ a=>
   have:=ih (a:=a)
   simp only [bV,List.set_cons_succ,filter_cons] at this ⊢
   cases x with
   | none=>simp only [Option.isNone_none,if_true,length_cons];omega
   | some v=>simpa using this
theorem fY {k:Nat}:∀(fr:List Nat) (rk:List (Option Nat)),bV (cA rk k fr)<=bV rk
 | [],_=>Nat.le_refl _
 | a::r,rk=>Nat.le_trans (fY r (rk.set a (some k))) u6
theorem rG {k:Nat} {fr:List Nat} {rk:List (Option Nat)} (hne:fr≠[]) (h:∀a∈fr,rk[a]?=some none):bV (cA rk k fr)<bV rk:=by
 cases fr with
 | nil=>exact absurd rfl hne
 | cons a r=>
  have h1:=rF (k:=k) (h a mem_cons_self)
  have h2:=fY (k:=k) r (rk.set a (some k))
  show bV (cA (rk.set a (some k)) k r)<_
  omega
structure RS where
 rk:List (Option Nat)
 k:Nat
 fr:List Nat
 x8:Option PV
structure RI (w:Wd) (ch:Nat->Bool) (thr goal:List Nat) (b:RS):Prop where
 len:b.rk.length=w.n
 frn:∀r∈b.fr,r<w.n/\aZ b.rk r=none
 frl:b.fr.length<=1000
 lt:∀r j,aZ b.rk r=some j->j<b.k
 zero:b.k=0->b.fr=goal
 g:0<b.k->∀r,r∈goal->aZ b.rk r=some 0
 p:∀r j,r<w.n->r∉goal->aZ b.rk r=some j->0<j/\r∈thr/\led (ch r) (w.stp r) fun t=>∃i,aZ b.rk t=some i/\i<j
 nx:0<b.k->b.fr=u4 w ch thr b.rk
 m1:∀r,r∈thr->aZ b.rk r=none->¬led (ch r) (w.stp r) fun t=>∃i,aZ b.rk t=some i/\i+1<b.k
 m2:∀r j,r∉goal->aZ b.rk r=some j->¬led (ch r) (w.stp r) fun t=>∃i,aZ b.rk t=some i/\i+1<j
noncomputable def KI (st:Nat->List Nat) (ch:Nat->Bool) (goal:List Nat) (rk:List (Option Nat)):Prop:=∀r j,r∉goal->aZ rk r=some j->¬led (ch r) (st r) fun t=>∃i,aZ rk t=some i/\i+1<j
theorem RI.right {w:Wd} {ch:Nat->Bool} {thr goal:List Nat} {b:RS} (hne:∀r∈thr,w.stp r≠[]) (I:RI w ch thr goal b) (he:b.fr=[]):RightG w.n w.stp ch thr goal b.rk:=by
 refine ⟨I.len,fun r hr hg=>?_,I.p,fun r hr hz=>?_⟩
 ·rcases Nat.eq_zero_or_pos b.k with h | h
  ·rw [<-I.zero h,he] at hg;simp at hg
  ·exact I.g h r hg
 ·rcases Nat.eq_zero_or_pos b.k with h | h
  ·have hg:goal=[]:=by rw [<-I.zero h];exact he
   refine ⟨by rw [hg];simp,?_⟩
   by_cases ht:r∈thr
   case neg=>exact .inl ht
   refine .inr fun hl=>?_
   have no:∀t,aZ b.rk t=none:=fun t=>by
    cases e:aZ b.rk t with
    | none=>rfl
    | some j=>have:=I.lt t j e;omega
   cases hc:ch r with
   | true=>
    rw [hc] at hl;obtain ⟨t,_,z⟩:=led_t.mp hl;exact z (no t)
   | false=>
    rw [hc] at hl;obtain ⟨t,ht'⟩:=exists_mem_of_ne_nil _ (hne r ht);exact led_f.mp hl t ht' (no t)
  ·refine ⟨fun hg=>(by rw [I.g h r hg] at hz;cases hz),?_⟩
   by_cases ht:r∈thr
   ·refine .inr fun hl=>?_
    have hx:=I.nx h
    rw [he] at hx;have:r∈u4 w ch thr b.rk:=by
     unfold u4;refine List.mem_filter.mpr ⟨ht,?_⟩
     rw [hz];simp only [Option.isNone_none,Bool.true_and]
     exact led_iff.mpr (zi hl fun t _ z=>by cases e:aZ b.rk t with | none=>exact absurd e z | some j=>rfl)
    rw [<-hx] at this;simp at this
   ·exact .inl ht
theorem RI.step {w:Wd} {ch:Nat->Bool} {thr goal:List Nat} (hne0:∀r∈thr,w.stp r≠[]) {b:RS} {y:Option PV} (hthr:∀r∈thr,r<w.n) (hl:thr.length<=1000) (I:RI w ch thr goal b) (hne:b.fr≠[]) :
  RI w ch thr goal ⟨cA b.rk b.k b.fr,b.k+1,u4 w ch thr (cA b.rk b.k b.fr),y⟩/\bV (cA b.rk b.k b.fr)<bV b.rk:=by
 have hfl:∀a∈b.fr,a<b.rk.length:=fun a ha=>by rw [I.len];exact (I.frn a ha).1
 have pt:∀t,aZ (cA b.rk b.k b.fr) t=if t∈b.fr then some b.k else aZ b.rk t:=fun t=>pI _ _ hfl
 refine ⟨⟨by rw [Hw];exact I.len,fun r hr=>?_,?_,fun r j e=>?_,fun z=>absurd z (Nat.succ_ne_zero _),fun _ r hg=>?_,fun r j hr hg e=>?_,fun _=>rfl,fun r ht hz hl=>?_,fun r j hg e hl=>?_⟩,rG hne fun a ha=>?_⟩
 ·obtain ⟨h1,h2⟩:=List.mem_filter.mp hr
  simp only [Bool.and_eq_true,Option.isNone_iff_eq_none] at h2
  exact ⟨hthr r h1,h2.1⟩
 ·exact Nat.le_trans (length_filter_le _ _) hl
 ·rw [pt] at e
  show j<b.k+1
  split at e
  ·cases e;omega
  ·have:=I.lt r j e;omega
 ·show aZ (cA b.rk b.k b.fr) r=some 0
  rw [pt];rcases Nat.eq_zero_or_pos b.k with h | h
  ·rw [I.zero h,if_pos hg,h]
  ·have:=I.g h r hg
   split
   ·rename_i z;rw [(I.frn r z).2] at this;cases this
   ·exact this
 ·have e:aZ (cA b.rk b.k b.fr) r=some j:=e
  rw [pt] at e;split at e
  ·rename_i hm
   cases e;have hk:0<b.k:=by
    rcases Nat.eq_zero_or_pos b.k with h | h
    ·rw [I.zero h] at hm;exact absurd hm hg
    ·exact h
   have hx:=I.nx hk
   rw [hx] at hm;obtain ⟨h1,h2⟩:=List.mem_filter.mp hm;simp only [Bool.and_eq_true] at h2
   refine ⟨hk,h1,zi (led_iff.mp h2.2) fun t _ z=>?_⟩
   cases e:aZ b.rk t with
   | none=>rw [e] at z;cases z
   | some i=>
    refine ⟨i,?_,I.lt t i e⟩
    show aZ (cA b.rk b.k b.fr) t=_
    rw [pt,if_neg (fun q=>by rw [(I.frn t q).2] at e;cases e),e]
  ·obtain ⟨h1,h2,h3⟩:=I.p r j hr hg e
   refine ⟨h1,h2,zi h3 fun t _ ⟨i,hi,hlt⟩=>⟨i,?_,hlt⟩⟩
   show aZ (cA b.rk b.k b.fr) t=_
   rw [pt,if_neg (fun q=>by rw [(I.frn t q).2] at hi;cases hi),hi]
 ·have hz:aZ (cA b.rk b.k b.fr) r=none:=hz
  rw [pt] at hz;split at hz
  ·cases hz
  rename_i hf;have hl:led (ch r) (w.stp r) fun t=>∃i,aZ (cA b.rk b.k b.fr) t=some i/\i+1<b.k+1:=hl
  have hl:led (ch r) (w.stp r) fun t=>∃i,aZ b.rk t=some i/\i<b.k:=zi hl fun t _ ⟨i,hi,hlt⟩=>by
   rw [pt] at hi;split at hi
   ·cases hi;omega
   ·exact ⟨i,hi,by omega⟩
  rcases Nat.eq_zero_or_pos b.k with h | h
  ·cases hc:ch r with
   | true=>
    rw [hc] at hl;obtain ⟨t,_,i,_,z⟩:=led_t.mp hl;omega
   | false=>
    rw [hc] at hl;obtain ⟨t,ht'⟩:=exists_mem_of_ne_nil _ (hne0 r ht);obtain ⟨i,_,z⟩:=led_f.mp hl t ht'
    omega
  ·refine hf ?_
   rw [I.nx h];refine List.mem_filter.mpr ⟨ht,?_⟩
   rw [hz];simp only [Option.isNone_none,Bool.true_and]
   exact led_iff.mpr (zi hl fun t _ ⟨i,hi,_⟩=>by rw [hi];rfl)
 ·have e:aZ (cA b.rk b.k b.fr) r=some j:=e
  have hl:led (ch r) (w.stp r) fun t=>∃i,aZ (cA b.rk b.k b.fr) t=some i/\i+1<j:=hl
  have hj:j<=b.k:=by
   rw [pt] at e;split at e
   ·cases e;omega
   ·have:=I.lt r j e;omega
  have hl:led (ch r) (w.stp r) fun t=>∃i,aZ b.rk t=some i/\i+1<j:=zi hl fun t _ ⟨i,hi,hlt⟩=>by
   rw [pt] at hi;split at hi
   ·cases hi;omega
   ·exact ⟨i,hi,hlt⟩
  rw [pt] at e;split at e
  ·rename_i hm
   cases e;have hk:0<b.k:=by
    rcases Nat.eq_zero_or_pos b.k with h | h
    ·rw [I.zero h] at hm;exact absurd hm hg
    ·exact h
   have hm':=hm
   rw [I.nx hk] at hm';exact I.m1 r (List.mem_filter.mp hm').1 (I.frn r hm).2 hl
  ·exact I.m2 r j hg e hl
 ·obtain ⟨h1,h2⟩:=I.frn a ha
  unfold aZ at h2;rw [getD_eq_getElem?_getD,getElem?_eq_getElem (by rw [I.len];exact h1)] at h2
  rw [getElem?_eq_getElem (by rw [I.len];exact h1)]
  simpa using h2
noncomputable abbrev GR (w:Wd) (cl:List Bool) (thr goal:List Nat) (b:RS):Ev:=[some ⟨.leaf,w.enc⟩,some ⟨.leaf,nk cl⟩,some ⟨.leaf,av thr⟩,some ⟨.leaf,av goal⟩,some ⟨.lst .leaf,eZ b.rk⟩,some ⟨.leaf,.int (b.k:Int)⟩,some ⟨.leaf,av b.fr⟩,b.x8,none]
noncomputable abbrev ku:FS:=(ak (dA 7 (aL (ae 6))
  (fT 4 (ae 5) (ae 7)))
  (ak (gK 5 (eK (.int 1)))
  (aB false 6 (zX 4 bY (ab (ae 0) (ab (ae 1) (ab (ae 2) (ab (ae 4) af))))))))
theorem xn {w:Wd} (ok:w.Ok0) {cl:List Bool} {thr goal:List Nat} {b:RS} (hcl:cl.length=w.n) (hne0:∀r∈thr,w.stp r≠[]) (hthr:∀r∈thr,r<w.n) (hl:thr.length<=1000) (I:RI w (gB cl) thr goal b) (hne:b.fr≠[]) :
  ∃b',ku (GR w cl thr goal b)=.nx (GR w cl thr goal b')/\RI w (gB cl) thr goal b'/\bV b'.rk<bV b.rk:=by
 obtain ⟨y,e,_⟩:=FG rm (fun (l:List (Option Nat)) r=>l.set r (some b.k)) (Inv:=fun l r=>l.length=w.n/\∀t∈r,t<w.n) (i:=7) (body:=fT 4 (ae 5) (ae 7))
  (G:=fun l x=>[some ⟨.leaf,w.enc⟩,some ⟨.leaf,nk cl⟩,some ⟨.leaf,av thr⟩,some ⟨.leaf,av goal⟩,some ⟨.lst .leaf,eZ l⟩,some ⟨.leaf,.int (b.k:Int)⟩,some ⟨.leaf,av b.fr⟩,x,none])
  (fun _ _=>by simp) (fun _ _ _=>by simp) (fun l r rest ⟨h1,h2⟩=>by
   have hr:=h2 r mem_cons_self
   refine ⟨?_,by rw [length_set];exact h1,fun t ht=>h2 t (mem_cons_of_mem _ ht)⟩
   rw [Aj (ds:=l.map oD) (j:=r) (k:=(r:Int)) rfl (ay rfl) (ay rfl) (zZ (by rw [length_map,h1];exact hr)) rfl]
   simp [List.map_set,oD]) b.fr b.rk b.x8 ⟨I.len,fun t ht=>(I.frn t ht).1⟩
 obtain ⟨I',hm⟩:=RI.step (y:=y) hne0 hthr hl I hne
 refine ⟨⟨cA b.rk b.k b.fr,b.k+1,u4 w (gB cl) thr (cA b.rk b.k b.fr),y⟩,?_,I',hm⟩
 have e2:=eG (fi:=aL (ae 6)) (Γ:=GR w cl thr goal b) (b7 (ds:=b.fr.map rm) (ay rfl) rfl) e
 have dn:=vN ok (cl:=cl) (thr:=thr) (rk:=cA b.rk b.k b.fr) hcl hthr (by rw [Hw];exact I.len) hl
 unfold ku;rw [d9,e2];have fr:oI ⟨.lst .leaf,av (u4 w (gB cl) thr (cA b.rk b.k b.fr))⟩=true:=by
  unfold oI;simp [bD]
 have ec:∀Γ:Ev,Γ=[some ⟨.leaf,w.enc⟩,some ⟨.leaf,nk cl⟩,some ⟨.leaf,av thr⟩,some ⟨.leaf,av goal⟩,some ⟨.lst .leaf,eZ (cA b.rk b.k b.fr)⟩,some ⟨.leaf,.int ((b.k:Int)+1)⟩,some ⟨.leaf,av b.fr⟩,y,none] ->
   zX 4 bY (ab (ae 0) (ab (ae 1) (ab (ae 2) (ab (ae 4) af)))) Γ=.ok ⟨.lst .leaf,av (u4 w (gB cl) thr (cA b.rk b.k b.fr))⟩ Γ:=fun Γ hΓ=>by
  subst hΓ;unfold zX;simp [dn,fr]
 have pu:b.fr.foldl (fun l r=>l.set r (some b.k)) b.rk=cA b.rk b.k b.fr:=rfl
 rw [pu];simp [ec _ rfl]
theorem Ip {w:Wd} (ok:w.Ok0) {cl:List Bool} {thr goal:List Nat} (hcl:cl.length=w.n) (hne0:∀r∈thr,w.stp r≠[]) (hthr:∀r∈thr,r<w.n) (hl:thr.length<=1000) (hgoal:∀r∈goal,r<w.n) (hgl:goal.length<=1000) :
  ∃rk,dW [w.enc,nk cl,av thr,av goal]=.ok ⟨.lst .leaf,eZ rk⟩/\RightG w.n w.stp (gB cl) thr goal rk/\KI w.stp (gB cl) goal rk:=by
 have lo:=ok.lo
 have h24:=ok.h24
 have i0:RI w (gB cl) thr goal ⟨w.os.map fun _=>none,0,goal,none⟩:=by
  have z:∀r,aZ (w.os.map fun _=>none) r=none:=fun r=>by
   unfold aZ;rw [getD_eq_getElem?_getD,getElem?_map]
   cases w.os[r]?<;>rfl
  refine ⟨by simp [lo],fun r hr=>⟨hgoal r hr,z r⟩,hgl,fun r j e=>(by rw [z] at e;cases e),fun _=>rfl,fun h=>absurd h (by simp),fun r j _ _ e=>(by rw [z] at e;cases e),fun h=>absurd h (by simp),fun r ht _ hl=>?_,fun r j _ e=>(by rw [z] at e;cases e)⟩
  have hl:led (gB cl r) (w.stp r) fun t=>∃i,aZ (w.os.map fun _=>none) t=some i/\i+1<0:=hl
  cases hc:gB cl r with
  | true=>
   rw [hc] at hl;obtain ⟨t,_,i,_,z⟩:=led_t.mp hl;omega
  | false=>
   rw [hc] at hl;obtain ⟨t,ht'⟩:=exists_mem_of_ne_nil _ (hne0 r ht);obtain ⟨i,_,z⟩:=led_f.mp hl t ht'
   omega
 obtain ⟨b',e,I,hf⟩:=DB (c:=aM bG (ae 6)) (g:=ku) (G:=GR w cl thr goal) (test:=fun b=>!b.fr.isEmpty) (Inv:=RI w (gB cl) thr goal) (meas:=fun b=>bV b.rk) (fun b I=>by simp) (fun b I hb=>xn ok hcl hne0 hthr hl I (by intro z;rw [z] at hb;simp at hb)) 1000 _ i0 (by
  have:bV (w.os.map fun _=>none)<=w.os.length:=by unfold bV;exact Nat.le_trans (length_filter_le _ _) (by simp)
  show bV (w.os.map fun _=>none)<1000
  omega)
 refine ⟨b'.rk,?_,I.right hne0 (by simpa using hf),I.m2⟩
 refine aO ?_
 have co:∀Γ:Ev,Γ.length=9->Γ[0]?=some (some ⟨.leaf,w.enc⟩)->aw .leaf 8 (aL (ah (ae 0) (eK (.int 0)))) aI (eK .none) Γ=.ok ⟨.lst .leaf,.list (w.os.map fun _=>.none)⟩ Γ:=fun Γ h1 h2=>by
  have:=kU (fun d:D=>d) w.os (fun _=>⟨.leaf,.none⟩) (s:=.leaf) (i:=8) (fi:=aL (ah (ae 0) (eK (.int 0)))) (fe:=eK .none) (st:=true) (Γ:=Γ) (by simp [h2,Wd.enc]) (by omega) rfl (by omega) (fun x hx=>by simp)
  simpa using this
 have e:qv (aM bG (ae 6)) ku 1000 [some ⟨.leaf,w.enc⟩,some ⟨.leaf,nk cl⟩,some ⟨.leaf,av thr⟩,some ⟨.leaf,av goal⟩,some ⟨.lst .leaf,.list (w.os.map fun _=>.none)⟩,some ⟨.leaf,.int 0⟩,some ⟨.leaf,av goal⟩,none,none]=.nx (GR w cl thr goal b'):=by
  have q:eZ (w.os.map fun _=>none)=.list (w.os.map fun _=>.none):=by
   unfold eZ;rw [map_map];rfl
  rw [<-q];exact e
 unfold jb;rw [d9,pL,co _ rfl rfl];simp [aH]
 unfold nM;rw [e];simp
theorem FC {w:Wd} (ok:w.Ok) {s:Sn} {P:D} {thr goal:List Nat} (hw:(s.w=.su\/s.w=.au)\/(s.w=.sa\/s.w=.aa)) (ht:∃sh,coer .leaf ⟨sh,.tuple [av thr,av goal]⟩=true/\bb [w.enc,s.enc,P]=.ok ⟨sh,.tuple [av thr,av goal]⟩) (hthr:∀r∈thr,r<w.n) (hl:thr.length<=1000) (hgoal:∀r∈goal,r<w.n) (hgl:goal.length<=1000) :
  ∃rk,bQ [w.enc,s.enc,P]=.ok ⟨.lst .leaf,eZ rk⟩/\Right w s.w.some thr goal rk:=by
 obtain ⟨sh,hsh,ht⟩:=ht;have lo:=ok.g.lo
 have h24:=ok.h24
 obtain ⟨rk,e,R,_⟩:=Ip ok.z (cl:=w.os.map fun _=>s.w.some) (by rw [length_map];exact lo) (fun r hr=>ok.stp_ne (hthr r hr)) hthr hl hgoal hgl
 have hch:∀r,r<w.n->gB (w.os.map fun _=>s.w.some) r=s.w.some:=fun r hr=>by
  unfold gB;rw [getD_eq_getElem?_getD,getElem?_map,getElem?_eq_getElem (by omega)]
  rfl
 refine ⟨rk,?_,⟨R.len,R.g,fun r k hr hg e=>?_,fun r hr e=>?_⟩⟩
 ·have hst:ah (ae 1) (eK (.int 0)) (aH 6 [w.enc,s.enc,P])=.ok ⟨.leaf,.str s.w.t⟩ (aH 6 [w.enc,s.enc,P]):=by
   cases s<;>simp [aH,Sn.enc,Sn.w]
  have s1:aB false 3 (ah (ae 1) (eK (.int 0))) (aH 6 [w.enc,s.enc,P])=.nx [some ⟨.leaf,w.enc⟩,some ⟨.leaf,s.enc⟩,some ⟨.leaf,P⟩,some ⟨.leaf,.str s.w.t⟩,none,none]:=by
   rw [pL,hst];simp [aH]
  have s2:bW (gC (aM ao (aA (bj true) (ae 3) (eK bZ))) (aM ao (aA (bj true) (ae 3) (eK cN)))) (aF (eK .none)) aG [some ⟨.leaf,w.enc⟩,some ⟨.leaf,s.enc⟩,some ⟨.leaf,P⟩,some ⟨.leaf,.str s.w.t⟩,none,none]=.nx [some ⟨.leaf,w.enc⟩,some ⟨.leaf,s.enc⟩,some ⟨.leaf,P⟩,some ⟨.leaf,.str s.w.t⟩,none,none]:=by
   rcases hw with z | z
   ·simp [z]
   ·by_cases z2:(s.w=.su\/s.w=.au)<;>simp [z,z2]
  have s3:aB false 4 (ag 3 bb (ab (ae 0) (ab (ae 1) (ab (ae 2) af)))) [some ⟨.leaf,w.enc⟩,some ⟨.leaf,s.enc⟩,some ⟨.leaf,P⟩,some ⟨.leaf,.str s.w.t⟩,none,none]=.nx [some ⟨.leaf,w.enc⟩,some ⟨.leaf,s.enc⟩,some ⟨.leaf,P⟩,some ⟨.leaf,.str s.w.t⟩,some ⟨.leaf,.tuple [av thr,av goal]⟩,none]:=by
   simp [ht,hsh]
  have c1:aw .leaf 5 (aL (ah (ae 0) (eK (.int 0)))) aI (aA (bj false) (ae 3) (eK bt)) [some ⟨.leaf,w.enc⟩,some ⟨.leaf,s.enc⟩,some ⟨.leaf,P⟩,some ⟨.leaf,.str s.w.t⟩,some ⟨.leaf,.tuple [av thr,av goal]⟩,none]=.ok ⟨.lst .leaf,nk (w.os.map fun _=>s.w.some)⟩ [some ⟨.leaf,w.enc⟩,some ⟨.leaf,s.enc⟩,some ⟨.leaf,P⟩,some ⟨.leaf,.str s.w.t⟩,some ⟨.leaf,.tuple [av thr,av goal]⟩,none]:=by
   have:=kU (fun d:D=>d) w.os (fun _=>⟨.leaf,.bool s.w.some⟩) (s:=.leaf) (i:=5) (fi:=aL (ah (ae 0) (eK (.int 0)))) (fe:=aA (bj false) (ae 3) (eK bt)) (st:=true) (Γ:=[some ⟨.leaf,w.enc⟩,some ⟨.leaf,s.enc⟩,some ⟨.leaf,P⟩,some ⟨.leaf,.str s.w.t⟩,some ⟨.leaf,.tuple [av thr,av goal]⟩,none]) (by simp [Wd.enc]) (by simp) rfl (by omega) (fun x hx=>by simp)
   rw [this];simp
  refine aO ?_
  unfold fN;rw [d9,s1];simp only
  rw [d9,s2];simp only
  rw [d9,s3];simp only
  exact bf (bP (az (ay rfl) (az c1 (az (wU (j:=0) (ds:=[av thr,av goal]) (ay rfl) bg rfl rfl rfl) (az (wU (j:=1) (ds:=[av thr,av goal]) (ay rfl) bg rfl rfl rfl) aj)))) e rfl rfl) rfl
 ·have:=R.p r k hr hg e
  rw [hch r hr] at this;exact this
 ·have:=R.z r hr e
  rw [hch r hr] at this;exact this
noncomputable def eA (w:Wd):Sn->Nat->Prop
 | .yes,_=>True
 | .mk c,r=>c∈w.mks r
 | .un .not a,r=>¬eA w a r
 | .un .sn a,r=>∃t∈w.stp r,eA w a t
 | .un .an a,r=>∀t∈w.stp r,eA w a t
 | .un .sa a,r=>¬Unt w false (fun _=>True) (fun t=>¬eA w a t) r
 | .un .aa a,r=>¬Unt w true (fun _=>True) (fun t=>¬eA w a t) r
 | .bi .and a b,r=>eA w a r/\eA w b r
 | .bi .or a b,r=>eA w a r\/eA w b r
 | .bi .su a b,r=>Unt w true (eA w a) (eA w b) r
 | .bi .au a b,r=>Unt w false (eA w a) (eA w b) r
noncomputable def dH (w:Wd) (s:Sn) (r:Nat):Bool:=@decide (eA w s r) (Classical.propDecidable _)
theorem satB_iff {w:Wd} {s:Sn} {r:Nat}:dH w s r=true↔eA w s r:=by
 unfold dH;exact @decide_eq_true_iff _ (Classical.propDecidable _)
theorem tf {w:Wd} {s:Sn} {r:Nat} {b:Bool} (h:b=true↔eA w s r):b=dH w s r:=by
 rw [Bool.eq_iff_iff,h,satB_iff]
noncomputable def aX (w:Wd) (s:Sn):List Nat:=(List.range w.n).filter (dH w s)
theorem mem_rof {w:Wd} {s:Sn} {r:Nat}:r∈aX w s↔r<w.n/\eA w s r:=by
 unfold aX;rw [mem_filter,mem_range,satB_iff]
theorem zg {w:Wd} {s:Sn} {r:Nat} (hr:r<w.n):(aX w s).contains r=dH w s r:=by
 rw [Bool.eq_iff_iff,contains_iff_mem,mem_rof,satB_iff];exact ⟨fun h=>h.2,fun h=>⟨hr,h⟩⟩
theorem Unt.congr {w:Wd} (ok:w.Ok) {any:Bool} {P P' Q Q':Nat->Prop} (hp:∀t,t<w.n->P t->P' t) (hq:∀t,t<w.n->Q t->Q' t) {r:Nat} (hr:r<w.n) (h:Unt w any P Q r):Unt w any P' Q' r:=by
 induction h with
 | now q=>exact .now (hq _ hr q)
 | some e p ht _ ih=>exact .some e (hp _ hr p) ht (ih (ok.stp_lt ht))
 | all e p _ ih=>exact .all e (hp _ hr p) fun t ht=>ih t ht (ok.stp_lt ht)
theorem Hf {c:Str} {r:List Str} (hc:PyData.strOk c=true) (h:∀x∈r,PyData.strOk x=true):bj false (.str c) (cG r)=some (.bool (r.contains c)):=by
 have hs:jF (r.map PyData.str):=fun a ha=>by
  obtain ⟨x,hx,rfl⟩:=List.mem_map.mp ha;exact ⟨x,rfl,h x hx⟩
 rw [cG,Cg hc hs];congr 2
 unfold has;simp only [List.any_map]
 rw [Bool.eq_iff_iff,any_eq_true,contains_iff_mem];constructor
 ·rintro ⟨x,hx,e⟩
  have:PyData.eqv (.str x) (.str c)=true:=e
  have:x=c:=by simpa [PyData.eqv] using this
  rw [<-this];exact hx
 ·intro hx
  exact ⟨c,hx,by show PyData.eqv (.str c) (.str c)=true;simp [PyData.eqv]⟩
noncomputable abbrev cU (ps:List (List Nat)):D:=.list (ps.map av)
theorem zN {ps:List (List Nat)} {r:Nat} {Γ:Ev} (hl:Γ.length=9) (h2:Γ[2]?=some (some ⟨.leaf,cU ps⟩)) (h4:Γ[4]?=some (some ⟨.leaf,rm r⟩)) (hn:ps.length<=10000) :
  aw .leaf 7 (aL (ae 2)) aI (aA (bj false) (ae 4) (ae 7)) Γ=.ok ⟨.lst .leaf,.list (ps.map fun R=>.bool (R.contains r))⟩ Γ:=by
 refine kU av ps (fun R=>⟨.leaf,.bool (R.contains r)⟩) (st:=true) (by simp [h2]) (by omega) rfl hn fun R hR=>?_
 have g4:(Γ.set 7 (some ⟨.leaf,av R⟩))[4]?=some (some ⟨.leaf,rm r⟩):=by rw [getElem?_set_ne (by omega)];exact h4
 have g7:(Γ.set 7 (some ⟨.leaf,av R⟩))[7]?=some (some ⟨.leaf,av R⟩):=getElem?_set_self (by omega)
 refine ⟨?_,rfl⟩
 rw [Bc,pK,g4];simp only [uy,sR]
 rw [pK,g7];simp only [uy,sR,zc]
theorem xf {w:Wd} (ok:w.Ok) {r:Nat}:(w.stp r).length<=10000:=by
 unfold Wd.stp;rw [getD_eq_getElem?_getD]
 cases e:w.s[r]? with
 | none=>simp
 | some x=>
  have:=(ok.st x (mem_of_getElem? e)).2.1
  simp only [Option.getD_some]
  omega
theorem DO {w:Wd} (ok:w.Ok) {R:List Nat} {ps:List (List Nat)} {r:Nat} (hr:r<w.n) {Γ:Ev} (hl:Γ.length=9) (h0:Γ[0]?=some (some ⟨.leaf,w.enc⟩)) (h2:Γ[2]?=some (some ⟨.leaf,cU (R::ps)⟩)) (h4:Γ[4]?=some (some ⟨.leaf,rm r⟩)) :
  aw .leaf 8 (aL (ah (ah (ae 0) (eK (.int 2))) (ae 4))) aI (aA (bj false) (ae 8) (ah (ae 2) (eK (.int 0)))) Γ=.ok ⟨.lst .leaf,.list ((w.stp r).map fun t=>.bool (R.contains t))⟩ Γ:=by
 have a2:=ok.at2 hr
 refine kU rm (w.stp r) (fun t=>⟨.leaf,.bool (R.contains t)⟩) (st:=true) (by simp [h0,h4,Wd.enc,a2]) (by omega) rfl (xf ok) fun t ht=>?_
 have g2:(Γ.set 8 (some ⟨.leaf,rm t⟩))[2]?=some (some ⟨.leaf,cU (R::ps)⟩):=by rw [getElem?_set_ne (by omega)];exact h2
 have g8:(Γ.set 8 (some ⟨.leaf,rm t⟩))[8]?=some (some ⟨.leaf,rm t⟩):=getElem?_set_self (by omega)
 refine ⟨?_,rfl⟩
 rw [Bc,pK,g8];simp only [uy,sR]
 rw [dI,pK,g2];simp [zc]
noncomputable def CT (w:Wd) (s:Sn) (R:D):Prop:=match s with
 | .bi .su a b=>∃rk,R=eZ rk/\Right w true (aX w a) (aX w b) rk
 | .bi .au a b=>∃rk,R=eZ rk/\Right w false (aX w a) (aX w b) rk
 | .un .sa a=>∃rk,R=eZ rk/\Right w false (List.range w.n) ((List.range w.n).filter fun t=>!(aX w a).contains t) rk
 | .un .aa a=>∃rk,R=eZ rk/\Right w true (List.range w.n) ((List.range w.n).filter fun t=>!(aX w a).contains t) rk
 | _=>R=.none
theorem pk {w:Wd} (ok:w.Ok) {any:Bool} {a b:Sn} {r:Nat} (hr:r<w.n):Unt w any (·∈aX w a) (·∈aX w b) r↔Unt w any (eA w a) (eA w b) r:=
 ⟨Unt.congr ok (fun t _ h=>(mem_rof.mp h).2) (fun t _ h=>(mem_rof.mp h).2) hr,Unt.congr ok (fun t ht h=>mem_rof.mpr ⟨ht,h⟩) (fun t ht h=>mem_rof.mpr ⟨ht,h⟩) hr⟩
theorem pq {w:Wd} (ok:w.Ok) {any:Bool} {a:Sn} {r:Nat} (hr:r<w.n):Unt w any (·∈List.range w.n) (·∈(List.range w.n).filter fun t=>!(aX w a).contains t) r↔Unt w any (fun _=>True) (fun t=>¬eA w a t) r:=by
 have q:∀t,t<w.n->(t∈(List.range w.n).filter fun t=>!(aX w a).contains t)\/eA w a t:=fun t ht=>by
  by_cases h:eA w a t
  ·exact .inr h
  ·refine .inl (List.mem_filter.mpr ⟨List.mem_range.mpr ht,?_⟩)
   rw [zg ht]
   cases e:dH w a t with
   | false=>rfl
   | true=>exact absurd (satB_iff.mp e) h
 constructor
 ·refine Unt.congr ok (fun _ _ _=>trivial) (fun t ht h hs=>?_) hr
  have:=(List.mem_filter.mp h).2
  rw [zg ht,satB_iff.mpr hs] at this
  cases this
 ·exact Unt.congr ok (fun t ht _=>List.mem_range.mpr ht) (fun t ht h=>(q t ht).elim id fun z=>absurd z h) hr
theorem iM {o:Option Nat}:(!o.isNone)=true↔o≠none:=by cases o<;>simp
theorem qc {o:Option Nat}:o.isNone=true↔¬o≠none:=by cases o<;>simp
theorem JC {a b:Bool}:cw true [.list [.bool a,.bool b]]=some (.bool (a||b)):=by cases a<;>cases b<;>rfl
theorem all2 {a b:Bool}:cw false [.list [.bool a,.bool b]]=some (.bool (a&&b)):=by cases a<;>cases b<;>rfl
theorem kJ {w:Wd} (ok:w.Ok) {s:Sn} (hs:s.ok) {R:D} (hR:CT w s R) {r:Nat} (hr:r<w.n):dZ [w.enc,s.enc,cU (s.args.map (aX w)),R,rm r]=.ok ⟨.leaf,.bool (dH w s r)⟩:=by
 refine aO ?_
 have a1:=ok.at1 hr
 have a2:=ok.at2 hr
 cases s with
 | yes=>
  have e:true=dH w .yes r:=tf (by simp [eA])
  rw [<-e];simp [bo,aH,Sn.enc]
 | mk c=>
  have e:(w.mks r).contains c=dH w (.mk c) r:=tf (by rw [contains_iff_mem];rfl)
  have hm:∀x∈w.mks r,PyData.strOk x=true:=fun x hx=>by
   unfold Wd.mks at hx;rw [getD_eq_getElem?_getD,getElem?_eq_getElem (by rw [ok.lm];exact hr)] at hx
   exact ok.mc _ (getElem_mem _) x hx
  rw [<-e];simp [bo,aH,Sn.enc,Wd.enc,a1,Hf (C3 hs).1 hm]
 | un k a=>
  have hc:=zN (ps:=[aX w a]) (r:=r) (Γ:=[some ⟨.leaf,w.enc⟩,some ⟨.leaf,(Sn.un k a).enc⟩,some ⟨.leaf,cU [aX w a]⟩,some ⟨.leaf,R⟩,some ⟨.leaf,rm r⟩,some ⟨.leaf,.str k.w.t⟩,none,none,none]) rfl rfl rfl (by simp)
  have sc:=DO ok (R:=aX w a) (ps:=[]) hr (Γ:=[some ⟨.leaf,w.enc⟩,some ⟨.leaf,(Sn.un k a).enc⟩,some ⟨.leaf,cU [aX w a]⟩,some ⟨.leaf,R⟩,some ⟨.leaf,rm r⟩,some ⟨.leaf,.str k.w.t⟩,some ⟨.leaf,.list [.bool ((aX w a).contains r)]⟩,none,none]) rfl rfl rfl rfl
  have dl:=qk (c:=k.w.some) (bs:=(w.stp r).map fun t=>(aX w a).contains t)
  rw [map_map] at dl;have dl:cK [.bool k.w.some,.list ((w.stp r).map fun t=>.bool ((aX w a).contains t))]=_:=dl
  have stB:∀t∈w.stp r,(aX w a).contains t=true↔eA w a t:=fun t ht=>by rw [zg (ok.stp_lt ht),satB_iff]
  simp only [Sn.enc] at hc sc
  cases k with
  | not=>
   have e:(!(aX w a).contains r)=dH w (.un .not a) r:=tf (by rw [zg hr];simp [eA,<-satB_iff])
   rw [<-e];simp [U5.w] at hc
   simp [bo,aH,Sn.enc,Sn.args,U5.w,hc]
  | sn=>
   have e:iQ true ((w.stp r).map fun t=>(aX w a).contains t)=dH w (.un .sn a) r:=tf (by
    rw [led_iff];simp only [led,eA,if_true]
    exact ⟨fun ⟨t,ht,h⟩=>⟨t,ht,(stB t ht).mp h⟩,fun ⟨t,ht,h⟩=>⟨t,ht,(stB t ht).mpr h⟩⟩)
   have wk:U5.sn.w.some=true:=rfl
   have wk2:Wr.sn.some=true:=rfl
   rw [wk,e] at dl;simp [U5.w] at hc sc dl
   simp [bo,aH,Sn.enc,Sn.args,U5.w,hc,sc,dl,wk2]
  | an=>
   have e:iQ false ((w.stp r).map fun t=>(aX w a).contains t)=dH w (.un .an a) r:=tf (by
    rw [led_iff];simp only [led,eA,Bool.false_eq_true,if_false]
    exact ⟨fun h t ht=>(stB t ht).mp (h t ht),fun h t ht=>(stB t ht).mpr (h t ht)⟩)
   have wk:U5.an.w.some=false:=rfl
   have wk2:Wr.an.some=false:=rfl
   rw [wk,e] at dl;simp [U5.w] at hc sc dl
   simp [bo,aH,Sn.enc,Sn.args,U5.w,hc,sc,dl,wk2]
  | sa=>
   obtain ⟨rk,rfl,hR⟩:=hR;have a3:=gg (rk:=rk) (t:=r) (by rw [hR.len];exact hr)
   have e:(aZ rk r).isNone=dH w (.un .sa a) r:=tf (by rw [qc,hR.iff ok hr,pq ok hr];rfl)
   rw [<-e];simp [bo,aH,Sn.enc,Sn.args,U5.w,a3]
  | aa=>
   obtain ⟨rk,rfl,hR⟩:=hR;have a3:=gg (rk:=rk) (t:=r) (by rw [hR.len];exact hr)
   have e:(aZ rk r).isNone=dH w (.un .aa a) r:=tf (by rw [qc,hR.iff ok hr,pq ok hr];rfl)
   rw [<-e];simp [bo,aH,Sn.enc,Sn.args,U5.w,a3]
 | bi k a b=>
  have hc:=zN (ps:=[aX w a,aX w b]) (r:=r) (Γ:=[some ⟨.leaf,w.enc⟩,some ⟨.leaf,(Sn.bi k a b).enc⟩,some ⟨.leaf,cU [aX w a,aX w b]⟩,some ⟨.leaf,R⟩,some ⟨.leaf,rm r⟩,some ⟨.leaf,.str k.w.t⟩,none,none,none]) rfl rfl rfl (by simp)
  simp only [Sn.enc] at hc
  cases k with
  | and=>
   have e:((aX w a).contains r&&(aX w b).contains r)=dH w (.bi .and a b) r:=tf (by rw [zg hr,zg hr,Bool.and_eq_true,satB_iff,satB_iff];rfl)
   rw [<-e];simp [B4.w] at hc
   simp [bo,aH,Sn.enc,Sn.args,B4.w,hc,all2]
  | or=>
   have e:((aX w a).contains r||(aX w b).contains r)=dH w (.bi .or a b) r:=tf (by rw [zg hr,zg hr,Bool.or_eq_true,satB_iff,satB_iff];rfl)
   rw [<-e];simp [B4.w] at hc
   simp [bo,aH,Sn.enc,Sn.args,B4.w,hc,JC]
  | su=>
   obtain ⟨rk,rfl,hR⟩:=hR;have a3:=gg (rk:=rk) (t:=r) (by rw [hR.len];exact hr)
   have e:(!(aZ rk r).isNone)=dH w (.bi .su a b) r:=tf (by rw [iM,hR.iff ok hr,pk ok hr];rfl)
   rw [<-e];simp [bo,aH,Sn.enc,Sn.args,B4.w,a3]
  | au=>
   obtain ⟨rk,rfl,hR⟩:=hR;have a3:=gg (rk:=rk) (t:=r) (by rw [hR.len];exact hr)
   have e:(!(aZ rk r).isNone)=dH w (.bi .au a b) r:=tf (by rw [iM,hR.iff ok hr,pk ok hr];rfl)
   rw [<-e];simp [bo,aH,Sn.enc,Sn.args,B4.w,a3]
theorem Ff {w:Wd} {s:Sn}:∀r∈aX w s,r<w.n:=fun r hr=>(mem_rof.mp hr).1
theorem Fw {w:Wd} (ok:w.Ok) {s:Sn}:(aX w s).length<=1000:=by
 have:=ok.h24
 exact Nat.le_trans (length_filter_le _ _) (by simp;omega)
theorem DH {Γ Γ1:Ev} {fl:FL} {ps:List PV} {k:Int} (hl:fl Γ=.ok ps Γ1) (hp:ps.map (·.d)=[.int k]) (h0:0<=k) (h1:k<=1000):yF fl Γ=.ok ⟨.lst .leaf,.list (cg 0 k.toNat)⟩ Γ1:=by
 have h3:dq k=true:=Ce (by omega) (by omega)
 have hb:=Dv
 have h4:k<=(sizeLine:Int):=by omega
 unfold yF;rw [hl];simp only [Out.bind,hp,jt,h3,if_true,h4]
theorem E8 {w:Wd} (ok:w.Ok) {Γ:Ev} (h0:Γ[0]?=some (some ⟨.leaf,w.enc⟩)):yF (ab (bI bB (ab (ah (ae 0) (eK (.int 0))) af)) af) Γ=.ok ⟨.lst .leaf,av (List.range w.n)⟩ Γ:=by
 have lo:=ok.g.lo
 have h24:=ok.h24
 rw [DH (Γ1:=Γ) (ps:=[⟨.leaf,.int w.n⟩]) (k:=(w.n:Int)) (by simp [h0,Wd.enc,lo]) rfl (by omega) (by omega),Int.toNat_natCast,Fv]
theorem i6 {w:Wd} {s:Sn} {A B:List Nat} (hw:s.w=.su\/s.w=.au):bb [w.enc,s.enc,cU [A,B]]=.ok ⟨.tup [.leaf,.leaf],.tuple [av A,av B]⟩:=by
 have hst:ah (ae 1) (eK (.int 0)) (aH 3 [w.enc,s.enc,cU [A,B]])=.ok ⟨.leaf,.str s.w.t⟩ (aH 3 [w.enc,s.enc,cU [A,B]]):=by
  cases s<;>simp [aH,Sn.enc,Sn.w]
 refine aO ?_
 unfold dt;rw [d9,IU,D0,Bc,hst];simp [hw,aH,wH]
theorem xW {w:Wd} (ok:w.Ok) {x:PV} {A:List Nat}:ag 2 cE (ab (ae 0) (ab (ah (ae 2) (eK (.int 0))) af)) [some ⟨.leaf,w.enc⟩,some x,some ⟨.leaf,cU [A]⟩]=.ok ⟨.lst .leaf,av ((List.range w.n).filter fun t=>!A.contains t)⟩ [some ⟨.leaf,w.enc⟩,some x,some ⟨.leaf,cU [A]⟩]:=
 bP (ps:=[⟨.leaf,w.enc⟩,⟨.leaf,av A⟩]) (az (ay rfl) (az (wA (j:=0) (ds:=[av A]) (ay rfl) bg rfl rfl rfl) aj)) (ib ok (r:=A)) rfl rfl
theorem i7 {w:Wd} (ok:w.Ok) {s:Sn} {A:List Nat} (hw:¬(s.w=.su\/s.w=.au)):bb [w.enc,s.enc,cU [A]]=.ok ⟨.tup [.lst .leaf,.lst .leaf],.tuple [av (List.range w.n),av ((List.range w.n).filter fun t=>!A.contains t)]⟩:=by
 have hst:ah (ae 1) (eK (.int 0)) [some ⟨.leaf,w.enc⟩,some ⟨.leaf,s.enc⟩,some ⟨.leaf,cU [A]⟩]=.ok ⟨.leaf,.str s.w.t⟩ [some ⟨.leaf,w.enc⟩,some ⟨.leaf,s.enc⟩,some ⟨.leaf,cU [A]⟩]:=by
  cases s<;>simp [Sn.enc,Sn.w]
 have lr:=E8 ok (Γ:=[some ⟨.leaf,w.enc⟩,some ⟨.leaf,s.enc⟩,some ⟨.leaf,cU [A]⟩]) rfl
 refine aO (ax (Γ1:=[some ⟨.leaf,w.enc⟩,some ⟨.leaf,s.enc⟩,some ⟨.leaf,cU [A]⟩]) (cb (t:=false) (Γ1:=[some ⟨.leaf,w.enc⟩,some ⟨.leaf,s.enc⟩,some ⟨.leaf,cU [A]⟩]) (gF (s:=.leaf) (aT hst bg (by show bj false (.str s.w.t) bZ=_;rw [vk,decide_eq_false hw]))) nofun (fun _=>rfl)) (bf (cj (az lr (az (xW ok) aj)) rfl rfl) rfl))
theorem qT {w:Wd} (ok:w.Ok) {s:Sn}:∃p:PV,bQ [w.enc,s.enc,cU (s.args.map (aX w))]=.ok p/\coer .leaf p=true/\CT w s p.d:=by
 have h24:=ok.h24
 have plain:∀s:Sn,¬(s.w=.su\/s.w=.au)->¬(s.w=.sa\/s.w=.aa)->∀P:D,bQ [w.enc,s.enc,P]=.ok ⟨.leaf,.none⟩:=fun s h1 h2 P=>by
  have hst:ah (ae 1) (eK (.int 0)) (aH 6 [w.enc,s.enc,P])=.ok ⟨.leaf,.str s.w.t⟩ (aH 6 [w.enc,s.enc,P]):=by
   cases s<;>simp [aH,Sn.enc,Sn.w]
  refine aO ?_
  unfold fN;rw [d9,pL,hst];simp [aH,h1,h2]
 have gl:∀a:Sn,(∀r∈(List.range w.n).filter (fun t=>!(aX w a).contains t),r<w.n)/\((List.range w.n).filter fun t=>!(aX w a).contains t).length<=1000:=fun a=>
  ⟨fun r hr=>List.mem_range.mp (List.mem_filter.mp hr).1,Nat.le_trans (length_filter_le _ _) (by simp;omega)⟩
 cases s with
 | yes=>exact ⟨_,plain .yes (by simp [Sn.w]) (by simp [Sn.w]) _,rfl,rfl⟩
 | mk c=>exact ⟨_,plain (.mk c) (by simp [Sn.w]) (by simp [Sn.w]) _,rfl,rfl⟩
 | un k a=>
  cases k with
  | not=>exact ⟨_,plain (.un .not a) (by simp [Sn.w,U5.w]) (by simp [Sn.w,U5.w]) _,rfl,rfl⟩
  | sn=>exact ⟨_,plain (.un .sn a) (by simp [Sn.w,U5.w]) (by simp [Sn.w,U5.w]) _,rfl,rfl⟩
  | an=>exact ⟨_,plain (.un .an a) (by simp [Sn.w,U5.w]) (by simp [Sn.w,U5.w]) _,rfl,rfl⟩
  | sa=>
   obtain ⟨rk,e,R⟩:=FC ok (s:=.un .sa a) (P:=cU [aX w a]) (.inr (.inl rfl)) ⟨_,rfl,i7 ok (by simp [Sn.w,U5.w])⟩ (fun r hr=>List.mem_range.mp hr) (by simp;omega) (gl a).1 (gl a).2
   exact ⟨_,e,rfl,rk,rfl,R⟩
  | aa=>
   obtain ⟨rk,e,R⟩:=FC ok (s:=.un .aa a) (P:=cU [aX w a]) (.inr (.inr rfl)) ⟨_,rfl,i7 ok (by simp [Sn.w,U5.w])⟩ (fun r hr=>List.mem_range.mp hr) (by simp;omega) (gl a).1 (gl a).2
   exact ⟨_,e,rfl,rk,rfl,R⟩
 | bi k a b=>
  cases k with
  | and=>exact ⟨_,plain (.bi .and a b) (by simp [Sn.w,B4.w]) (by simp [Sn.w,B4.w]) _,rfl,rfl⟩
  | or=>exact ⟨_,plain (.bi .or a b) (by simp [Sn.w,B4.w]) (by simp [Sn.w,B4.w]) _,rfl,rfl⟩
  | su=>
   obtain ⟨rk,e,R⟩:=FC ok (s:=.bi .su a b) (P:=cU [aX w a,aX w b]) (.inl (.inl rfl)) ⟨_,rfl,i6 (.inl rfl)⟩ Ff (Fw ok) Ff (Fw ok)
   exact ⟨_,e,rfl,rk,rfl,R⟩
  | au=>
   obtain ⟨rk,e,R⟩:=FC ok (s:=.bi .au a b) (P:=cU [aX w a,aX w b]) (.inl (.inr rfl)) ⟨_,rfl,i6 (.inr rfl)⟩ Ff (Fw ok) Ff (Fw ok)
   exact ⟨_,e,rfl,rk,rfl,R⟩
theorem kG {w:Wd} (ok:w.Ok) {s:Sn} (hs:s.ok) {R:D} (hR:CT w s R):dj [w.enc,s.enc,cU (s.args.map (aX w)),R]=.ok ⟨.lst .leaf,av (aX w s)⟩:=by
 have lo:=ok.g.lo
 have h24:=ok.h24
 have e:aw .leaf 4 (gQ (ab (bI bB (ab (ah (ae 0) (eK (.int 0))) af)) af)) (aM bG (ag 5 dZ (ab (ae 0) (ab (ae 1) (ab (ae 2) (ab (ae 3) (ab (ae 4) af))))))) (ae 4) (aH 5 [w.enc,s.enc,cU (s.args.map (aX w)),R])=.ok ⟨.lst .leaf,.list (((List.range w.n).filter (dH w s)).map fun t=>rm t)⟩ (aH 5 [w.enc,s.enc,cU (s.args.map (aX w)),R]):=by
  refine wW rm (List.range w.n) (dH w s) (fun t=>⟨.leaf,rm t⟩) (st:=true) ?_ (by simp [aH]) rfl (by simp;omega) (fun t ht=>?_) (fun t ht _=>?_)
  ·refine (tu (k:=(w.n:Int)) (ps:=[⟨.leaf,.int w.n⟩]) ?_ rfl (by omega) (by omega)).trans (by rw [<-Fv];rfl)
   simp [aH,Wd.enc,lo]
  ·have:=kJ ok hs hR (List.mem_range.mp ht)
   simp [aH,this]
  ·simp [aH]
 refine aO ?_
 unfold ja;rw [pM,e];rfl
theorem Ie {w:Wd} (ok:w.Ok):∀(n:Nat) (s:Sn),s.ok->s.dep<=n->dh n [w.enc,s.enc]=.ok ⟨.lst .leaf,av (aX w s)⟩
 | 0,s,_,h=>by
  have:=s.dep_args
  omega
 | n+1,s,hs,h=>by
  have da:∀a∈s.args,a.dep<=n:=fun a ha=>by
   have h1:=s.dep_args
   have:a.dep<=eT s.args:=by
    have:∀l:List Sn,a∈l->a.dep<=eT l:=fun l=>by
     induction l with
     | nil=>intro h;simp at h
     | cons b r ih=>
      intro h;rw [FD];rcases List.mem_cons.mp h with rfl | h
      ·exact Nat.le_max_left _ _
      ·exact Nat.le_trans (ih h) (Nat.le_max_right _ _)
    exact this _ ha
   omega
  have pa:=HM s
  have c:aw .leaf 3 (eR (ag 1 aR (ab (ae 1) af))) aI (ag 2 (dh n) (ab (ae 0) (ab (ae 3) af))) (aH 4 [w.enc,s.enc])=.ok ⟨.lst .leaf,.list (s.args.map fun a=>av (aX w a))⟩ (aH 4 [w.enc,s.enc]):=by
   refine kU Sn.enc s.args (fun a=>⟨.lst .leaf,av (aX w a)⟩) (st:=true) ?_ (by simp [aH]) rfl (by have:=s.args_le;omega) fun a ha=>?_
   ·simp [aH,pa,dv]
   ·have:=Ie ok n a (Sn.args_ok hs a ha) (da a ha)
    simp [aH,this]
  obtain ⟨p,e1,e2,e3⟩:=qT ok (s:=s)
  have rb:=kG ok hs e3
  have em:(s.args.map fun a=>av (aX w a))=(s.args.map (aX w)).map av:=by rw [map_map];rfl
  rw [em] at c;show aC 4 (jc (dh n)) [w.enc,s.enc]=_
  refine aO ?_
  have s1:aB false 2 (aw .leaf 3 (eR (ag 1 aR (ab (ae 1) af))) aI (ag 2 (dh n) (ab (ae 0) (ab (ae 3) af)))) (aH 4 [w.enc,s.enc])=.nx [some ⟨.leaf,w.enc⟩,some ⟨.leaf,s.enc⟩,some ⟨.leaf,cU (s.args.map (aX w))⟩,none]:=by
   rw [pL,c];simp [aH]
  have s2:ag 3 bQ (ab (ae 0) (ab (ae 1) (ab (ae 2) af))) [some ⟨.leaf,w.enc⟩,some ⟨.leaf,s.enc⟩,some ⟨.leaf,cU (s.args.map (aX w))⟩,none]=.ok p [some ⟨.leaf,w.enc⟩,some ⟨.leaf,s.enc⟩,some ⟨.leaf,cU (s.args.map (aX w))⟩,none]:=
   bP (az (ay rfl) (az (ay rfl) (az (ay rfl) aj))) e1 rfl rfl
  have s3:ag 4 dj (ab (ae 0) (ab (ae 1) (ab (ae 2) (ab (ag 3 bQ (ab (ae 0) (ab (ae 1) (ab (ae 2) af)))) af)))) [some ⟨.leaf,w.enc⟩,some ⟨.leaf,s.enc⟩,some ⟨.leaf,cU (s.args.map (aX w))⟩,none]=.ok ⟨.lst .leaf,av (aX w s)⟩ [some ⟨.leaf,w.enc⟩,some ⟨.leaf,s.enc⟩,some ⟨.leaf,cU (s.args.map (aX w))⟩,none]:=
   bP (az (ay rfl) (az (ay rfl) (az (ay rfl) (az s2 aj)))) rb rfl (by simp only [List.all_cons,Bg,e2,List.all_nil,Bool.and_self])
  unfold jc;rw [d9,s1];simp only
  rw [pM,s3];rfl
theorem Wd.Ok.check {w:Wd} (ok:w.Ok):aD [w.enc]=.ok ⟨.leaf,.none⟩:=se (ok.g.wk (b:=24) ok.h24) (by omega) (ok.g.isW ok.h1 ok.h24)
theorem HL {w:Wd} (ok:w.Ok) {s:Sn} (hs:s.ok) (h1:s.size<=200) (h2:s.dep<=24):fh [w.enc,s.enc]=.ok ⟨.lst .leaf,av (aX w s)⟩:=by
 have c1:=ok.check
 have c2:=dr hs h1 h2
 have c3:cJ [w.enc,s.enc]=_:=Ie ok 30 s hs (by omega)
 refine aO ?_
 simp [ql,aH,c1,c2,c3]
end KC
namespace T
open PySem PySem.Spec L2
open PyProof.Rows hiding St
theorem HP {α:Type} (en:α->D) {i:Nat} {body:FS} {Inv:List α->Ev->Prop} (hb:∀a r Γ,Inv (a::r) Γ->i<Γ.length/\∃Γ',body (Γ.set i (some ⟨.leaf,en a⟩))=.nx Γ'/\Inv r Γ'):∀(xs:List α) (Γ:Ev),Inv xs Γ->∃Γ',bF i body (xs.map en) Γ=.nx Γ'/\Inv [] Γ'
 | [],Γ,h=>⟨Γ,rfl,h⟩
 | a::r,Γ,h=>by
  obtain ⟨hi,Γ1,h1,h2⟩:=hb a r Γ h;obtain ⟨Γ2,e,h3⟩:=HP en hb r Γ1 h2;refine ⟨Γ2,?_,h3⟩
  rw [map_cons,bF,if_pos hi,h1];exact e
theorem Ao {Γ:Ev} {i j:Nat} {fb:F1} {s:Sh} {k:Int} {ds:List D} {d:D} (ho:Γ[i]?=some (some ⟨.lst .leaf,.list ds⟩)) (hb:fb Γ=.ok ⟨s,.int k⟩ Γ) (hi:eC ds.length k=some j) (hd:ds[j]?=some d):cx i fb Γ=.ok ⟨.leaf,d⟩ Γ:=by
 unfold cx sJ;rw [ho];simp only [if_true,hb,sR]
 unfold yq;rw [ho];simp only [hi,hd]
theorem lx {Γ Γ1 Γ2:Ev} {fa fb:F1} {s s':Sh} {xs ys:List D} (ha:fa Γ=.ok ⟨s,.list xs⟩ Γ1) (hb:fb Γ1=.ok ⟨s',.list ys⟩ Γ2) (h1:dv ⟨s,.list xs⟩ xs=true) (h2:dv ⟨s',.list ys⟩ ys=true) (hn:xs.length+ys.length<=10000):ia fa fb Γ=.ok ⟨.lst .leaf,.list (xs++ys)⟩ Γ2:=by
 have hb':(10000:Nat)<=sizeLine:=by decide
 have:xs.length+ys.length<=sizeLine:=Nat.le_trans hn hb'
 unfold ia aV;rw [ha];simp only [sR]
 rw [hb];simp only [sR,h1,h2,decide_eq_true this,Bool.and_self,if_true]
end T
namespace KC
open PySem PySem.Spec L2 T PySem.SeqAt
open PyProof.Rows hiding St
theorem DI {n:Nat} {os ms ss:List D} (g:Gw (n:Int) n os ms ss) (h1:1<=n) (h24:n<=24):∃w:Wd,w.Ok/\w.enc=ez os ms ss/\w.n=n:=by
 have hm:∀l:List D,(∀r∈l,∃xs,r=.list xs/\jF xs)->∃M:List (List Str),l=M.map cG/\∀r∈M,∀c∈r,PyData.strOk c=true:=by
  have one:∀xs:List D,jF xs->∃r:List Str,xs=r.map .str/\∀c∈r,PyData.strOk c=true:=by
   intro xs;induction xs with
   | nil=>intro _;exact ⟨[],rfl,by simp⟩
   | cons a r ih=>
    intro h;obtain ⟨x,rfl,hx⟩:=h a mem_cons_self;obtain ⟨t,rfl,ht⟩:=ih fun b hb=>h b (mem_cons_of_mem _ hb)
    exact ⟨x::t,rfl,fun c hc=>(List.mem_cons.mp hc).elim (fun e=>by rw [e];exact hx) (ht c)⟩
  intro l;induction l with
  | nil=>intro _;exact ⟨[],rfl,by simp⟩
  | cons a r ih=>
   intro h;obtain ⟨xs,rfl,hx⟩:=h a mem_cons_self;obtain ⟨x,rfl,hx2⟩:=one xs hx;obtain ⟨M,rfl,hM⟩:=ih fun b hb=>h b (mem_cons_of_mem _ hb)
   exact ⟨x::M,rfl,fun c hc=>(List.mem_cons.mp hc).elim (fun e=>by rw [e];exact hx2) (hM c)⟩
 have hs:∀l:List D,(∀r∈l,∃ts:List Int,r=.list (ts.map .int)/\ts.length<=30/\ts≠[]/\(∀t∈ts,0<=t/\t<(n:Int))/\ts.Pairwise (· < ·))->∃S:List (List Nat),l=S.map av/\∀r∈S,r≠[]/\r.length<=30/\∀t∈r,t<n:=by
  have one:∀ts:List Int,(∀t∈ts,0<=t/\t<(n:Int))->∃r:List Nat,ts.map PyData.int=r.map rm/\r.length=ts.length/\∀t∈r,t<n:=by
   intro ts;induction ts with
   | nil=>intro _;exact ⟨[],rfl,rfl,by simp⟩
   | cons a r ih=>
    intro h;have ha:=h a mem_cons_self
    obtain ⟨t,e,el,ht⟩:=ih fun b hb=>h b (mem_cons_of_mem _ hb)
    refine ⟨a.toNat::t,?_,by simp [el],fun c hc=>(List.mem_cons.mp hc).elim (fun e=>by omega) (ht c)⟩
    rw [map_cons,map_cons,e];congr 2
    omega
  intro l;induction l with
  | nil=>intro _;exact ⟨[],rfl,by simp⟩
  | cons a r ih=>
   intro h;obtain ⟨ts,rfl,t1,t2,t3,_⟩:=h a mem_cons_self;obtain ⟨x,e,el,hx⟩:=one ts t3;obtain ⟨S,rfl,hS⟩:=ih fun b hb=>h b (mem_cons_of_mem _ hb)
   refine ⟨x::S,by rw [map_cons,e],fun c hc=>(List.mem_cons.mp hc).elim (fun e=>by
    subst e;exact ⟨fun z=>t2 (List.length_eq_zero_iff.mp (by rw [<-el,z];rfl)),by omega,hx⟩) (hS c)⟩
 obtain ⟨M,eM,hM⟩:=hm ms fun r hr=>let ⟨xs,a,b,_⟩:=g.m r hr;⟨xs,a,b⟩
 obtain ⟨S,eS,hS⟩:=hs ss g.s;subst eM eS;refine ⟨⟨n,os,M,S⟩,⟨g,h1,h24,?_,?_,hS,hM⟩,rfl,rfl⟩
 ·have:=g.lm;simpa using this
 ·have:=g.ls;simpa using this
noncomputable def knd:List Wr:=[.mark,.mark,.not,.and,.su,.au,.sn,.an,.sa,.aa,.or,.yes]
noncomputable abbrev Jo:D:=.list (knd.map fun a=>.str a.t)
@[simp] theorem Jq (a:Wr):bj false (.str a.t) (.tuple [.str "and",.str "or",.str "some until",.str "all until"])=some (.bool (decide (a=.and\/a=.or\/a=.su\/a=.au))):=by cases a<;>kernel_rfl
theorem nz {k:Int} (h0:0<=k) (h1:k<3):∃c:Nat,eF (Str.ofString "abc").cps.toList k=some c/\(⟨#[c]⟩:Str)∈bp:=by
 rw [y2];have:k=0\/k=1\/k=2:=by omega
 rcases this with rfl | rfl | rfl
 ·exact ⟨97,rfl,by decide +kernel⟩
 ·exact ⟨98,rfl,by decide +kernel⟩
 ·exact ⟨99,rfl,by decide +kernel⟩
noncomputable abbrev GS (xs:List D) (at' many:Int) (made:List Sn) (x5 x6 x7 x8 x9:Option PV):Ev:=[some ⟨.leaf,.list xs⟩,some ⟨.leaf,.int at'⟩,some ⟨.leaf,.int many⟩,some ⟨.leaf,Jo⟩,some ⟨.lst .leaf,fP made⟩,x5,x6,x7,x8,x9]
structure Mad (made:List Sn):Prop where
 ne:0<made.length
 ok:∀s∈made,s.ok
 dp:∀s∈made,s.dep<=made.length
theorem uh {n:Nat}:cg 1 n=(List.range n).map fun k:Nat=>PyData.int (1+(k:Int)):=rfl
theorem iX (l:List Int):sI (l.map .int)=some l:=by
 induction l with
 | nil=>rfl
 | cons a r ih=>rw [map_cons,sI,ih];rfl
theorem yH {s a:Sn} (h:a∈s.args):a.dep+1<=s.dep:=by
 cases s with
 | yes=>simp [Sn.args] at h
 | mk c=>simp [Sn.args] at h
 | un k b=>simp [Sn.args] at h;subst h;simp [Sn.dep]
 | bi k b c=>
  simp [Sn.args] at h
  simp only [Sn.dep]
  rcases h with rfl | rfl<;>omega
end KC
namespace KQ
open PySem PySem.Spec L2 T PySem.SeqAt KC
open PyProof.Rows hiding St
noncomputable def d__law_world:FS:=(ak (aB false 3 (aA aS (eK (.int 1)) (aA fo (ag 2 aE (ab (ae 0) (ab (ae 1) af))) (ae 2))))
  (ak (aB true 4 (aU .leaf af))
  (ak (aB true 5 (aU .leaf af))
  (ak (aB true 6 (aU .leaf af))
  (ak (dA 7 (gQ (ab (ae 3) af))
  (ak (aB false 8 (ag 2 aE (ab (ae 0) (ab (aA aS (aA aS (ae 1) (eK (.int 1))) (ae 7)) af))))
  (ak (eE 4 (ag 3 aq (ab (ae 8) (ab (eK (.int 0)) (ab (eK (.int 2)) af)))))
  (ak (eE 5 (aw .leaf 11 (iY "abc") (aM ao (aA df (ag 3 aq (ab (ae 8) (ab (aA aS (eK (.int 1)) (bI (fZ "abc") (ab (ae 11) af))) (ab (eK (.int 2)) af)))) (eK (.int 1)))) (ae 11)))
  (ak (aB false 9 (aw .leaf 10 (gQ (ab (ae 3) af)) (aM ao (aA df (ag 3 aq (ab (ae 8) (ab (aA aS (eK (.int 4)) (ae 10)) (ab (aA aS (eK (.int 2)) (bI oG (ab (aA nJ (ae 3) (eK (.int 3))) af))) af)))) (eK (.int 1)))) (ae 10)))
  (ak (bW (aM ao (aA df (ae 9) (aU .leaf af))) (aB false 9 (aU .leaf (ab (ag 3 aq (ab (ae 8) (ab (aA aS (eK (.int 4)) (ae 3)) (ab (ae 3) af)))) af))) aG)
  (eE 6 (ae 9))))))))
  (aF (bE (ab (b9 4) (ab (b9 5) (ab (b9 6) af))))))))))
noncomputable def m__law_world:List PySem.PyData->Res:=aC 12 d__law_world
noncomputable abbrev eW:FS:=(ak (aB false 8 (ag 2 aE (ab (ae 0) (ab (aA aS (aA aS (ae 1) (eK (.int 1))) (ae 7)) af))))
  (ak (eE 4 (ag 3 aq (ab (ae 8) (ab (eK (.int 0)) (ab (eK (.int 2)) af)))))
  (ak (eE 5 (aw .leaf 11 (iY "abc") (aM ao (aA df (ag 3 aq (ab (ae 8) (ab (aA aS (eK (.int 1)) (bI (fZ "abc") (ab (ae 11) af))) (ab (eK (.int 2)) af)))) (eK (.int 1)))) (ae 11)))
  (ak (aB false 9 (aw .leaf 10 (gQ (ab (ae 3) af)) (aM ao (aA df (ag 3 aq (ab (ae 8) (ab (aA aS (eK (.int 4)) (ae 10)) (ab (aA aS (eK (.int 2)) (bI oG (ab (aA nJ (ae 3) (eK (.int 3))) af))) af)))) (eK (.int 1)))) (ae 10)))
  (ak (bW (aM ao (aA df (ae 9) (aU .leaf af))) (aB false 9 (aU .leaf (ab (ag 3 aq (ab (ae 8) (ab (aA aS (eK (.int 4)) (ae 3)) (ab (ae 3) af)))) af))) aG)
  (eE 6 (ae 9)))))))
noncomputable def wL (k:Nat):D:=.str ⟨#[97+k]⟩
theorem vX {Γ:Ev}:iY "abc" Γ=.ok ⟨[0,1,2].map wL,true⟩ Γ:=by
 have:EJ "abc"=[0,1,2].map wL:=by kernel_rfl
 unfold iY;rw [this]
theorem vf {k:Nat} (h:k∈[0,1,2]):k<3:=by
 simp at h
 omega
theorem B9 {k:Nat} (h:k∈[0,1,2]):fZ "abc" [wL k]=some (.int (k:Int)):=by
 simp at h
 rcases h with rfl | rfl | rfl<;>kernel_rfl
theorem oZ {xs os ms ss:List D} {at' lim many:Int} {n:Nat} {x8 x9:Option PV} (hx:ir xs) (ha:0<=at') (hm:1<=many) (hm2:many<=24) (h:Gw many n os ms ss) (hn:n<=30) {r:Nat} :
  ∃os' ms' ss' x8' x9',eW [some ⟨.leaf,.list xs⟩,some ⟨.leaf,.int at'⟩,some ⟨.leaf,.int lim⟩,some ⟨.leaf,.int many⟩,some ⟨.lst .leaf,.list os⟩,some ⟨.lst .leaf,.list ms⟩,some ⟨.lst .leaf,.list ss⟩,some ⟨.leaf,.int (r:Nat)⟩,x8,x9,none,none]
   = .nx [some ⟨.leaf,.list xs⟩,some ⟨.leaf,.int at'⟩,some ⟨.leaf,.int lim⟩,some ⟨.leaf,.int many⟩,some ⟨.lst .leaf,.list os'⟩,some ⟨.lst .leaf,.list ms'⟩,some ⟨.lst .leaf,.list ss'⟩,some ⟨.leaf,.int (r:Nat)⟩,x8',x9',none,none]/\Gw many (n+1) os' ms' ss':=by
 obtain ⟨c,hc⟩:=FF hx (k:=at'+1+(r:Int)) (by omega)
 have lo:=h.lo
 have lm:=h.lm
 have ls:=h.ls
 have c5:∀(Γ:Ev),Γ.length=12->Γ[8]?=some (some ⟨.leaf,.int c⟩)->(aw .leaf 11 (iY "abc") (aM ao (aA df (ag 3 aq (ab (ae 8) (ab (aA aS (eK (.int 1)) (bI (fZ "abc") (ab (ae 11) af))) (ab (eK (.int 2)) af)))) (eK (.int 1)))) (ae 11)) Γ
   = .ok ⟨.lst .leaf,.list (([0,1,2].filter fun k:Nat=>gA c (1+(k:Int)) 2==1).map wL)⟩ Γ:=fun Γ hl h8=>by
  refine wW wL [0,1,2] (fun k:Nat=>gA c (1+(k:Int)) 2==1) (fun k=>⟨.leaf,wL k⟩) (st:=true) vX (by omega) rfl (by simp) (fun k hk=>?_) fun k hk _=>?_
  ·have g11:(Γ.set 11 (some ⟨.leaf,wL k⟩))[11]?=some (some ⟨.leaf,wL k⟩):=by rw [getElem?_set_self (by omega)]
   have g8:(Γ.set 11 (some ⟨.leaf,wL k⟩))[8]?=some (some ⟨.leaf,.int c⟩):=by rw [getElem?_set_ne (by omega)];exact h8
   exact gF (aT (bP (az (ay g8) (az (aT bg (dz (az (ay g11) aj) (B9 hk)) sW) (az bg aj))) (Ad (by omega) (by have:=vf hk;omega) (by omega) (by omega)) rfl rfl) bg eq_int)
  ·exact ⟨ay (by rw [getElem?_set_self (by omega)]),rfl⟩
 generalize hM:(([0,1,2].filter fun k:Nat=>gA c (1+(k:Int)) 2==1).map wL)=M at c5
 have rM:jF M/\M.length<=30/\Df (.list M)=true:=by
  refine ⟨?_,?_,?_⟩
  ·rw [<-hM]
   intro a ha;obtain ⟨k,hk,rfl⟩:=List.mem_map.mp ha;have:=vf (List.mem_filter.mp hk).1
   exact ⟨_,rfl,u0 (by omega)⟩
  ·rw [<-hM,length_map]
   exact Nat.le_trans (length_filter_le _ _) (by simp)
  ·rw [<-hM]
   simp only [filter_cons,List.filter_nil]
   have:=Jn (gA c (1+((0:Nat):Int)) 2==1) (gA c (1+((1:Nat):Int)) 2==1) (gA c (1+((2:Nat):Int)) 2==1)
   revert this
   cases (gA c (1+((0:Nat):Int)) 2==1)<;>cases (gA c (1+((1:Nat):Int)) 2==1)<;>cases (gA c (1+((2:Nat):Int)) 2==1)<;>exact fun h=>h
 have c6:∀(Γ:Ev),Γ.length=12->Γ[8]?=some (some ⟨.leaf,.int c⟩)->Γ[3]?=some (some ⟨.leaf,.int many⟩)->aw .leaf 10 (gQ (ab (ae 3) af)) (aM ao (aA df (ag 3 aq (ab (ae 8) (ab (aA aS (eK (.int 4)) (ae 10)) (ab (aA aS (eK (.int 2)) (bI oG (ab (aA nJ (ae 3) (eK (.int 3))) af))) af)))) (eK (.int 1)))) (ae 10) Γ
   = .ok ⟨.lst .leaf,.list (((cg 0 many.toNat).filter fun d=>match d with | .int k=>gA c (4+k) (2+(if decide (3<many) then 1 else 0))==1 | _=>false).map fun d=>d)⟩ Γ:=fun Γ hl h8 h3=>by
  refine i5 (c:=fun d=>match d with | .int k=>gA c (4+k) (2+(if decide (3<many) then 1 else 0))==1 | _=>false) (f:=fun d=>⟨.leaf,d⟩) (st:=true) (tu (k:=many) (az (ay h3) aj) rfl (by omega) (by omega)) (by omega) rfl (by rw [Fu];omega) (fun d hd=>?_) fun d hd _=>?_
  ·obtain ⟨k,hk,rfl⟩:=Dr hd
   have g10:(Γ.set 10 (some ⟨.leaf,.int (0+(k:Int))⟩))[10]?=some (some ⟨.leaf,.int (0+(k:Int))⟩):=by rw [getElem?_set_self (by omega)]
   have g8:(Γ.set 10 (some ⟨.leaf,.int (0+(k:Int))⟩))[8]?=some (some ⟨.leaf,.int c⟩):=by rw [getElem?_set_ne (by omega)];exact h8
   have g3:(Γ.set 10 (some ⟨.leaf,.int (0+(k:Int))⟩))[3]?=some (some ⟨.leaf,.int many⟩):=by rw [getElem?_set_ne (by omega)];exact h3
   have b1:(1:Int)<=2+(if decide (3<many) then 1 else 0)/\(2:Int)+(if decide (3<many) then 1 else 0)<=1000:=by split<;>omega
   exact gF (aT (bP (az (ay g8) (az (aT bg (ay g10) sW) (az (aT bg (dz (az (aT (ay g3) bg rfl) aj) rfl) sW) aj))) (Ad (by omega) (by omega) b1.1 b1.2) rfl rfl) bg eq_int)
  ·obtain ⟨k,hk,rfl⟩:=Dr hd
   exact ⟨ay (by rw [getElem?_set_self (by omega)]),rfl⟩
 obtain ⟨ts,hT,hts1,hts2,hts3⟩:=AH many.toNat (fun d=>match d with | .int k=>gA c (4+k) (2+(if decide (3<many) then 1 else 0))==1 | _=>false)
 rw [hT] at c6;have fin:∀(Γ:Ev) (T:List Int),(T.length<=30/\T≠[]/\(∀t∈T,0<=t/\t<many)/\T.Pairwise (· < ·))->Γ=[some ⟨.leaf,.list xs⟩,some ⟨.leaf,.int at'⟩,some ⟨.leaf,.int lim⟩,some ⟨.leaf,.int many⟩,some ⟨.lst .leaf,.list (os++[.int (gA c 0 2)])⟩,some ⟨.lst .leaf,.list (ms++[.list M])⟩,some ⟨.lst .leaf,.list ss⟩,some ⟨.leaf,.int (r:Nat)⟩,some ⟨.leaf,.int c⟩,some ⟨.leaf,.list (T.map .int)⟩,none,none] ->
   ∃os' ms' ss' x8' x9',eE 6 (ae 9) Γ=.nx [some ⟨.leaf,.list xs⟩,some ⟨.leaf,.int at'⟩,some ⟨.leaf,.int lim⟩,some ⟨.leaf,.int many⟩,some ⟨.lst .leaf,.list os'⟩,some ⟨.lst .leaf,.list ms'⟩,some ⟨.lst .leaf,.list ss'⟩,some ⟨.leaf,.int (r:Nat)⟩,x8',x9',none,none]/\Gw many (n+1) os' ms' ss':=fun Γ T hT2 hΓ=>by
  subst hΓ;refine ⟨os++[.int (gA c 0 2)],ms++[.list M],ss++[.list (T.map .int)],_,_,FN rfl (ay rfl) rfl (by omega),by simp;omega,by simp;omega,by simp;omega,fun a ha=>?_,fun a ha=>?_,fun a ha=>?_⟩
  ·rcases List.mem_append.mp ha with z | z
   ·exact h.o a z
   ·have:=Dn (c:=c) (k:=0) (b:=2) (by omega) (by omega) (by omega) (by omega)
    rw [List.mem_singleton.mp z];rcases (by omega:gA c 0 2=0\/gA c 0 2=1) with e | e
    ·exact .inl (by rw [e])
    ·exact .inr (by rw [e])
  ·rcases List.mem_append.mp ha with z | z
   ·exact h.m a z
   ·exact ⟨M,List.mem_singleton.mp z,rM.1,rM.2.1,by rw [List.mem_singleton.mp z];exact rM.2.2⟩
  ·rcases List.mem_append.mp ha with z | z
   ·exact h.s a z
   ·exact ⟨T,List.mem_singleton.mp z,hT2⟩
 have e1:=dS (i:=8) (bP (fl:=ab (ae 0) (ab (aA aS (aA aS (ae 1) (eK (.int 1))) (ae 7)) af)) (Γ:=[some ⟨.leaf,.list xs⟩,some ⟨.leaf,.int at'⟩,some ⟨.leaf,.int lim⟩,some ⟨.leaf,.int many⟩,some ⟨.lst .leaf,.list os⟩,some ⟨.lst .leaf,.list ms⟩,some ⟨.lst .leaf,.list ss⟩,some ⟨.leaf,.int (r:Nat)⟩,x8,x9,none,none]) (az (ay rfl) (az (aT (aT (ay rfl) bg sW) (ay rfl) sW) aj)) hc rfl rfl) rfl (by simp)
 have e2:eE 4 (ag 3 aq (ab (ae 8) (ab (eK (.int 0)) (ab (eK (.int 2)) af)))) [some ⟨.leaf,.list xs⟩,some ⟨.leaf,.int at'⟩,some ⟨.leaf,.int lim⟩,some ⟨.leaf,.int many⟩,some ⟨.lst .leaf,.list os⟩,some ⟨.lst .leaf,.list ms⟩,some ⟨.lst .leaf,.list ss⟩,some ⟨.leaf,.int (r:Nat)⟩,some ⟨.leaf,.int c⟩,x9,none,none]=_:=
  FN rfl (bP (az (ay rfl) (az bg (az bg aj))) (Ad (by omega) (by omega) (by omega) (by omega)) rfl rfl) rfl (by omega)
 have e3:=FN (i:=5) (Γ:=[some ⟨.leaf,.list xs⟩,some ⟨.leaf,.int at'⟩,some ⟨.leaf,.int lim⟩,some ⟨.leaf,.int many⟩,some ⟨.lst .leaf,.list (os++[.int (gA c 0 2)])⟩,some ⟨.lst .leaf,.list ms⟩,some ⟨.lst .leaf,.list ss⟩,some ⟨.leaf,.int (r:Nat)⟩,some ⟨.leaf,.int c⟩,x9,none,none]) rfl (c5 _ rfl rfl) rfl (by omega)
 have e4:=dS (i:=9) (Γ:=[some ⟨.leaf,.list xs⟩,some ⟨.leaf,.int at'⟩,some ⟨.leaf,.int lim⟩,some ⟨.leaf,.int many⟩,some ⟨.lst .leaf,.list (os++[.int (gA c 0 2)])⟩,some ⟨.lst .leaf,.list (ms++[.list M])⟩,some ⟨.lst .leaf,.list ss⟩,some ⟨.leaf,.int (r:Nat)⟩,some ⟨.leaf,.int c⟩,x9,none,none]) (c6 _ rfl rfl rfl) rfl (by simp)
 have t:aM ao (aA df (ae 9) (aU .leaf af)) [some ⟨.leaf,.list xs⟩,some ⟨.leaf,.int at'⟩,some ⟨.leaf,.int lim⟩,some ⟨.leaf,.int many⟩,some ⟨.lst .leaf,.list (os++[.int (gA c 0 2)])⟩,some ⟨.lst .leaf,.list (ms++[.list M])⟩,some ⟨.lst .leaf,.list ss⟩,some ⟨.leaf,.int (r:Nat)⟩,some ⟨.leaf,.int c⟩,some ⟨.leaf,.list (ts.map .int)⟩,none,none]
   = .ok (decide ((ts.map PyData.int).length=0)) _:=gF (aT (ay rfl) (nG (s:=.leaf) aj rfl rfl rfl) (CB (Du C7)))
 cases hz:decide ((ts.map PyData.int).length=0) with
 | true=>
  rw [hz] at t;obtain ⟨o',m',s',y8,y9,f1,f2⟩:=fin _ [gA c (4+many) many] ⟨by simp,by simp,fun t ht=>by rw [List.mem_singleton.mp ht];exact Dn (by omega) (by omega) (by omega) (by omega),List.pairwise_singleton _ _⟩ rfl
  exact ⟨o',m',s',y8,y9,ax e1 (ax e2 (ax e3 (ax e4 (ax (cb t (fun _=>dS (nG (s:=.leaf) (az (bP (az (ay rfl) (az (aT bg (ay rfl) sW) (az (ay rfl) aj))) (Ad (by omega) (by omega) (by omega) (by omega)) rfl rfl) aj) rfl rfl rfl) rfl (by simp)) nofun) f1)))),f2⟩
 | false=>
  rw [hz] at t;obtain ⟨o',m',s',y8,y9,f1,f2⟩:=fin _ ts ⟨by omega,(fun z=>by rw [z] at hz;cases hz),(fun t ht=>by have:=hts1 t ht;omega),hts2⟩ rfl
  exact ⟨o',m',s',y8,y9,ax e1 (ax e2 (ax e3 (ax e4 (ax (cb t nofun (fun _=>rfl)) f1)))),f2⟩
theorem rW {xs:List D} {at' lim:Int} (hx:ir xs) (ha:0<=at') (hl:1<=lim) (hl2:lim<=24):∃(n:Nat) (os ms ss:List D),m__law_world [.list xs,.int at',.int lim]=.ok ⟨W3,ez os ms ss⟩/\Gw (n:Int) n os ms ss/\1<=n/\(n:Int)<=lim:=by
 obtain ⟨c,hc⟩:=FF hx (k:=at') ha
 have b0:0<=c % lim:=Int.emod_nonneg _ (by omega)
 have b1:c % lim<lim:=Int.emod_lt_of_pos _ (by omega)
 generalize hmm:1+c % lim=many at *
 have e0:aB false 3 (aA aS (eK (.int 1)) (aA fo (ag 2 aE (ab (ae 0) (ab (ae 1) af))) (ae 2))) [some ⟨.leaf,.list xs⟩,some ⟨.leaf,.int at'⟩,some ⟨.leaf,.int lim⟩,none,none,none,none,none,none,none,none,none]
   = .nx [some ⟨.leaf,.list xs⟩,some ⟨.leaf,.int at'⟩,some ⟨.leaf,.int lim⟩,some ⟨.leaf,.int many⟩,none,none,none,none,none,none,none,none]:=by
  rw [<-hmm];exact dS (aT bg (aT (bP (az (ay rfl) (az (ay rfl) aj)) hc rfl rfl) (ay rfl) (gP (by omega))) sW) rfl (by simp)
 obtain ⟨Γ',e,os,ms,ss,x7,x8,x9,hΓ,hw⟩:=Ht (P:=fun n Γ=>∃os ms ss x7 x8 x9,Γ=[some ⟨.leaf,.list xs⟩,some ⟨.leaf,.int at'⟩,some ⟨.leaf,.int lim⟩,some ⟨.leaf,.int many⟩,some ⟨.lst .leaf,.list os⟩,some ⟨.lst .leaf,.list ms⟩,some ⟨.lst .leaf,.list ss⟩,x7,x8,x9,none,none]/\Gw many n os ms ss) (i:=7) (body:=eW) (cg 0 many.toNat) 0
  [some ⟨.leaf,.list xs⟩,some ⟨.leaf,.int at'⟩,some ⟨.leaf,.int lim⟩,some ⟨.leaf,.int many⟩,some ⟨.lst .leaf,.list []⟩,some ⟨.lst .leaf,.list []⟩,some ⟨.lst .leaf,.list []⟩,none,none,none,none,none] ⟨[],[],[],none,none,none,rfl,rfl,rfl,rfl,fun a ha=>(nomatch ha),fun a ha=>(nomatch ha),fun a ha=>(nomatch ha)⟩ (fun m d Γ hd h1 h2 ⟨os,ms,ss,x7,x8,x9,hΓ,hw⟩=>by
   subst hΓ;obtain ⟨k,hk,rfl⟩:=Dr hd;rw [Fu] at h2;rw [Int.zero_add];obtain ⟨os',ms',ss',y8,y9,f1,f2⟩:=oZ (at':=at') (lim:=lim) (many:=many) (x8:=x8) (x9:=x9) hx ha (by omega) (by omega) hw (by omega) (r:=k)
   exact ⟨by simp,_,f1,os',ms',ss',_,y8,y9,rfl,f2⟩)
 subst hΓ;rw [Fu,Nat.zero_add] at hw;have en:((many.toNat:Nat):Int)=many:=by omega
 refine ⟨many.toNat,os,ms,ss,aO (ax e0 (ax (Ac (nG (s:=.leaf) aj rfl rfl rfl) rfl (by simp)) (ax (Ac (nG (s:=.leaf) aj rfl rfl rfl) rfl (by simp)) (ax (Ac (nG (s:=.leaf) aj rfl rfl rfl) rfl (by simp)) (ax (eG (tu (k:=many) (az (ay rfl) aj) rfl (by omega) (by omega)) e) (bf (cj (az (CZ (p:=⟨.lst .leaf,.list os⟩) rfl) (az (CZ (p:=⟨.lst .leaf,.list ms⟩) rfl) (az (CZ (p:=⟨.lst .leaf,.list ss⟩) rfl) aj))) rfl rfl) rfl)))))),by rw [en];exact hw,by omega,by omega⟩
end KQ
namespace KC
open PySem PySem.Spec L2 T
open PyProof.Rows hiding St
noncomputable def d7:FS:=(aF (gz (aA (b6 true) (ae 0) (eK .none)) (gz (aA (b6 true) (ae 1) (eK .none)) (aA i2 (ae 0) (ae 1)))))
noncomputable def dY:List PySem.PyData->Res:=aC 2 d7
noncomputable def fF:FS:=(aF (aw .leaf 3 (aL (ah (ah (ae 0) (eK (.int 2))) (ae 2))) (aM bG (ag 2 dY (ab (ah (ae 1) (ae 3)) (ab (ah (ae 1) (ae 2)) af)))) (ae 3)))
noncomputable def bN:List PySem.PyData->Res:=aC 4 fF
noncomputable def oR:FS:=(aF (ag 4 dW (ab (ae 0) (ab (aw .leaf 3 (aL (ah (ae 0) (eK (.int 0)))) aI (eK (.bool true))) (ab (ae 1) (ab (ae 2) af))))))
noncomputable def di:List PySem.PyData->Res:=aC 4 oR
noncomputable def gc:FS:=(bW (aM ao (aA (bj true) (ae 0) (eK bO))) sO aG)
noncomputable def d5:List PySem.PyData->Res:=aC 1 gc
noncomputable def fG:FS:=(bW (dC (aM bG (ag 2 cL (ab (ae 1) (ab (bI bB (ab (ah (ae 0) (eK (.int 0))) af)) af))))) sO aG)
noncomputable def cF:List PySem.PyData->Res:=aC 2 fG
noncomputable def vR:FS:=(ak (bq (ag 1 aD (ab (ae 0) af)))
  (ak (bq (ag 1 d5 (ab (ae 1) af)))
  (aF (zY .leaf 2 3 (ah (ae 0) (eK (.int 1))) (aM ao (aA (bj false) (ae 1) (ae 3))) (ae 2)))))
noncomputable def dM:List PySem.PyData->Res:=aC 4 vR
noncomputable def d8:FS:=(ak (bq (ag 1 aD (ab (ae 0) af)))
  (ak (bW (dC (aM bG (ag 1 br (ab (ae 2) af)))) sO aG)
  (bq (ag 2 cF (ab (ae 0) (ab (ae 1) af))))))
noncomputable def bT:List PySem.PyData->Res:=aC 3 d8
noncomputable def ie:FS:=(aF (ag 3 di (ab (ae 0) (ab (ae 1) (ab (aw .leaf 3 (aL (ae 1)) (aM ao (aA (bj false) (ae 2) (ah (ah (ae 0) (eK (.int 1))) (ae 3)))) (ae 3)) af)))))
noncomputable def bJ:List PySem.PyData->Res:=aC 4 ie
noncomputable def sk:FS:=(ak (aB false 3 (aw .leaf 7 (aL (ae 1)) (dC (aM bG (bI (cw true) (ab (aw .leaf 8 (aL (ah (ah (ae 0) (eK (.int 2))) (ae 7))) aI (aA (bj false) (ae 8) (ae 1))) af)))) (ae 7)))
  (ak (bW (aM bG (ae 3)) (aF (bE (ab (ae 3) (ab (eK .none) af)))) aG)
  (ak (dA 4 (aL (ae 2))
  (ak (aB false 5 (ag 3 bJ (ab (ae 0) (ab (ae 1) (ab (ae 4) af)))))
  (ak (aB false 6 (aw .leaf 7 (aL (ae 1)) (aM ao (aA (b6 false) (ah (ae 5) (ae 7)) (eK .none))) (ae 7)))
  (bW (aM bG (ae 6)) (aF (bE (ab (ae 6) (ab (ae 4) af)))) aG))))
  (aF (eK .none)))))
noncomputable def cB:List PySem.PyData->Res:=aC 9 sk
noncomputable def ik:FS:=(ak (aB true 3 (aU .leaf af))
  (ak (aB false 4 (zf (ae 1)))
  (ak (aB false 5 (ag 3 cB (ab (ae 0) (ab (ae 4) (ab (ae 2) af)))))
  (ak (nM 1000 (aM ao (aA (b6 true) (ae 5) (eK .none)))
  (ak (eE 3 (ae 5))
  (ak (aB false 4 (aw .leaf 6 (aL (ae 4)) (aM ao (aA (bj true) (ae 6) (ah (ae 5) (eK (.int 0))))) (ae 6)))
  (aB false 5 (ag 3 cB (ab (ae 0) (ab (ae 4) (ab (ae 2) af))))))))
  (aF (bE (ab (b9 3) (ab (ae 4) af))))))))
noncomputable def bz:List PySem.PyData->Res:=aC 7 ik
noncomputable def kK:FS:=(ak (bq (ag 3 bT (ab (ae 0) (ab (ae 1) (ab (ae 2) af)))))
  (aF (ah (ag 3 bz (ab (ae 0) (ab (ae 1) (ab (ae 2) af)))) (eK (.int 1)))))
noncomputable def cV:List PySem.PyData->Res:=aC 3 kK
open PySem.SeqAt
theorem IE {α:Type} {l:List α} {n:Nat} (d:α) (h:l.length=n):l=(List.range n).map fun r=>l.getD r d:=by
 apply ext_getElem?
 intro k;rw [getElem?_map];by_cases hk:k<n
 ·rw [List.getElem?_range hk]
  show l[k]?=some (l.getD k d)
  rw [getD_eq_getElem?_getD,getElem?_eq_getElem (by omega)]
  rfl
 ·rw [getElem?_eq_none (by omega),getElem?_eq_none (by simp;omega)]
  rfl
theorem EZ {n:Nat} {fl:FL} {Γ:Ev} {s:Sh} (hn:n<=1000) (h:fl Γ=.ok [⟨s,.int (n:Int)⟩] Γ):yF fl Γ=.ok ⟨.lst .leaf,av (List.range n)⟩ Γ:=by
 rw [DH (k:=(n:Int)) h rfl (by omega) (by omega),Int.toNat_natCast,Fv]
section
variable {i j:Nat} {fc:FB} {fe:F1} {s:Sh} {Γ:Ev} {e:Nat->D} {c:Nat->Bool} {f:Nat->PV}
noncomputable abbrev Γ2 (Γ:Ev) (i j:Nat) (e:Nat->D) (r:Nat):Ev:=(Γ.set i (some ⟨.leaf,.int (r:Nat)⟩)).set j (some ⟨.leaf,e r⟩)
theorem Ic (hij:i≠j) (hΓ:(Γ.set i none).set j none=Γ):∀(m k:Nat) (acc:List D),(∀r,k<=r->r<k+m->fc (Γ2 Γ i j e r)=.ok (c r) (Γ2 Γ i j e r)) ->
  (∀r,k<=r->r<k+m->c r=true->fe (Γ2 Γ i j e r)=.ok (f r) (Γ2 Γ i j e r)/\coer s (f r)=true)->acc.length+m<=sizeLine->sX i j fc fe s k ((List.range' k m).map e) Γ acc=.ok (acc++(((List.range' k m).filter c).map fun r=>(f r).d)) Γ
 | 0,k,acc,_,_,_=>by simp [sX]
 | m+1,k,acc,hc,he,hl=>by
  have h1:=hc k (Nat.le_refl _) (by omega)
  have hl1:acc.length<sizeLine:=by omega
  have back:((Γ2 Γ i j e k).set i none).set j none=Γ:=by
   unfold Γ2;rw [List.set_comm _ _ (Ne.symm hij),set_set,set_set];exact hΓ
  rw [List.range'_succ,map_cons,sX];have h1:fc ((Γ.set i (some ⟨.leaf,.int (k:Nat)⟩)).set j (some ⟨.leaf,e k⟩))=_:=h1
  rw [h1]
  cases hcd:c k with
  | false=>
   dsimp only;rw [if_pos hl1,back,Ic hij hΓ m (k+1) acc (fun r h1 h2=>hc r (by omega) (by omega)) (fun r h1 h2=>he r (by omega) (by omega)) (by omega)]
   rw [List.filter_cons_of_neg (by rw [hcd];exact Bool.false_ne_true)]
  | true=>
   obtain ⟨h2,h3⟩:=he k (Nat.le_refl _) (by omega) hcd
   dsimp only;rw [h2];dsimp only;rw [h3,decide_eq_true hl1,Bool.and_self,if_pos rfl,back,Ic hij hΓ m (k+1) (acc++[(f k).d]) (fun r h1 h2=>hc r (by omega) (by omega)) (fun r h1 h2=>he r (by omega) (by omega)) (by simp only [length_append,length_cons,length_nil];omega)]
   rw [List.filter_cons_of_pos hcd,map_cons,append_assoc];rfl
theorem rU (e:Nat->D) (n:Nat) (c:Nat->Bool) (f:Nat->PV) {fa:F1} {st:Bool} (hi:aL fa Γ=.ok ⟨(List.range n).map e,st⟩ Γ) (h1:Γ[i]?=some none) (h2:Γ[j]?=some none) (hij:i≠j) (hs:s.isView=false) (hn:n<=10000)
  (hc:∀r,r<n->fc (Γ2 Γ i j e r)=.ok (c r) (Γ2 Γ i j e r)) (he:∀r,r<n->c r=true->fe (Γ2 Γ i j e r)=.ok (f r) (Γ2 Γ i j e r)/\coer s (f r)=true) :
  zY s i j fa fc fe Γ=.ok ⟨.lst s,.list (((List.range n).filter c).map fun r=>(f r).d)⟩ Γ:=by
 have hb:(10000:Nat)<=sizeLine:=by decide
 unfold zY;rw [hi];unfold Out.bind;dsimp only;rw [h1,h2,hs];have hΓ:(Γ.set i none).set j none=Γ:=by rw [zj h1,zj h2]
 rw [List.range_eq_range',Ic (c:=c) (f:=f) hij hΓ n 0 [] (fun r _ h=>hc r (by omega)) (fun r _ h=>he r (by omega)) (by simp;omega)]
 rfl
end
theorem i8 {c:Str} (h:c∈bp):d5 [.str c]=.ok ⟨.leaf,.none⟩:=by
 have:bj true (.str c) bO=some (.bool false):=by
  unfold bp at h;simp only [mem_cons,not_mem_nil,or_false] at h
  rcases h with rfl | rfl | rfl | rfl | rfl | rfl<;>kernel_rfl
 refine fX (Γ:=aH 1 [.str c]) ?_
 simp [gc,aH,this]
theorem Fq {r:List Nat}:r.map rm=(r.map fun t:Nat=>(t:Int)).map PyData.int:=by rw [map_map];rfl
theorem Std.sorted {n:Nat} {L:List Nat} (h:Std n L):L.Pairwise (· < ·):=by
 obtain ⟨q,rfl⟩:=h;exact List.Pairwise.filter _ List.pairwise_lt_range
theorem kF {n:Nat} (h24:n<=24) {R:List Nat} (h:Std n R):cL [av R,.int (n:Int)]=.ok ⟨.leaf,.bool true⟩:=by
 have hl:=h.len
 rw [av,Fq,fA C7 (by simp;omega)]
 have h1:((R.map fun t:Nat=>(t:Int)).map PyData.int).all (inR (n:Int))=true:=by
  rw [all_eq_true];intro d hd;obtain ⟨i,hi,rfl⟩:=List.mem_map.mp hd;obtain ⟨t,ht,rfl⟩:=List.mem_map.mp hi;have:=h.lt t ht
  simp [inR]
  omega
 have h2:fu ((R.map fun t:Nat=>(t:Int)).map PyData.int)=true:=lN (by
  rw [pairwise_map];exact h.sorted.imp fun h=>by omega)
 rw [h1,h2];rfl
theorem Iq {w:Wd} (ok:w.Ok) {R:List Nat} (h:Std w.n R):cF [w.enc,av R]=.ok ⟨.leaf,.none⟩:=by
 have lo:=ok.g.lo
 have:=kF ok.h24 h
 refine fX (Γ:=aH 2 [w.enc,av R]) ?_
 simp [fG,aH,Wd.enc,ez,lo,this]
noncomputable def De (w:Wd) (c:Str):List Nat:=(List.range w.n).filter fun r=>(w.mks r).contains c
theorem mem_mkd {w:Wd} {c:Str} {r:Nat}:r∈De w c↔r<w.n/\c∈w.mks r:=by unfold De;simp
theorem vd {w:Wd} (ok:w.Ok) (r:Nat):∀x∈w.mks r,PyData.strOk x=true:=fun x hx=>by
 unfold Wd.mks at hx;rw [getD_eq_getElem?_getD] at hx
 cases e:w.m[r]? with
 | none=>rw [e] at hx;simp at hx
 | some l=>rw [e] at hx;exact ok.mc _ (mem_of_getElem? e) x hx
theorem Wd.Ok.m_range {w:Wd} (ok:w.Ok):w.m.map cG=(List.range w.n).map fun r=>cG (w.mks r):=by
 conv=>lhs;rw [IE (l:=w.m) [] ok.lm]
 rw [map_map];rfl
theorem oN {w:Wd} (ok:w.Ok) {c:Str} (h:c∈bp):dM [w.enc,.str c]=.ok ⟨.lst .leaf,av (De w c)⟩:=by
 have c1:=ok.check
 have c2:=i8 h
 have h24:=ok.h24
 have e:zY .leaf 2 3 (ah (ae 0) (eK (.int 1))) (aM ao (aA (bj false) (ae 1) (ae 3))) (ae 2) (aH 4 [w.enc,.str c])=.ok ⟨.lst .leaf,.list ((De w c).map fun r=>rm r)⟩ (aH 4 [w.enc,.str c]):=by
  refine rU (fun r=>cG (w.mks r)) w.n (fun r=>(w.mks r).contains c) (fun r=>⟨.leaf,rm r⟩) (st:=true) ?_ rfl rfl (by omega) rfl (by omega) (fun r hr=>?_) (fun r hr _=>?_)
  ·simp [aH,Wd.enc,ez,ok.m_range]
  ·simp [Γ2,aH,Hf (C3 h).1 (vd ok r)]
  ·simp [Γ2,aH]
 exact aO (ax (tp (bP (az (ay rfl) aj) c1 rfl rfl)) (ax (tp (bP (az (ay rfl) aj) c2 rfl rfl)) (bf e rfl)))
noncomputable def Kz (p:Int):D->Bool
 | .int o=>o==p
 | _=>false
noncomputable def own (w:Wd) (p:Int):Nat->Bool:=gB (w.os.map (Kz p))
theorem Wd.Ok.o_at {w:Wd} (ok:w.Ok) {r:Nat} (hr:r<w.n):∃o:Int,(o=0\/o=1)/\eF w.os (r:Int)=some (.int o)/\∀p,own w p r=(o==p):=by
 have hl:r<w.os.length:=by rw [ok.g.lo];exact hr
 have hm:=ok.g.o _ (getElem_mem hl)
 have key:∀o:Int,w.os[r]=.int o->eF w.os (r:Int)=some (.int o)/\∀p,own w p r=(o==p):=fun o e=>by
  refine ⟨zW (by rw [getElem?_eq_getElem hl,e]),fun p=>?_⟩
  unfold own gB;rw [getD_eq_getElem?_getD,getElem?_map,getElem?_eq_getElem hl,e];rfl
 rcases hm with e | e
 ·exact ⟨0,.inl rfl,key 0 e⟩
 ·exact ⟨1,.inr rfl,key 1 e⟩
theorem RightG.congr {n:Nat} {st:Nat->List Nat} {ch ch':Nat->Bool} {thr goal:List Nat} {rk:List (Option Nat)} (h:RightG n st ch thr goal rk) (e:∀r,r<n->ch r=ch' r):RightG n st ch' thr goal rk:=
 ⟨h.len,h.g,fun r k hr hg hk=>by rw [<-e r hr];exact h.p r k hr hg hk,fun r hr hz=>by rw [<-e r hr];exact h.z r hr hz⟩
noncomputable def rK:Option Nat->Option Nat->Bool
 | some a,some b=>decide (a<b)
 | _,_=>false
theorem r9 {a b:Option Nat}:dY [oD a,oD b]=.ok ⟨.leaf,.bool (rK a b)⟩:=by
 refine aO ?_
 cases a with
 | none=>simp [d7,aH,oD,rK,nL]
 | some a=>
  cases b with
  | none=>simp [d7,aH,oD,rK,nL]
  | some b=>simp [d7,aH,oD,rK,nL]
noncomputable def oB (w:Wd) (rk:List (Option Nat)) (r:Nat):List Nat:=(w.stp r).filter fun t=>rK (aZ rk t) (aZ rk r)
theorem ic {w:Wd} (ok:w.Ok) {rk:List (Option Nat)} (hl:rk.length=w.n) {r:Nat} (hr:r<w.n):bN [w.enc,eZ rk,rm r]=.ok ⟨.lst .leaf,av (oB w rk r)⟩:=by
 have a2:=ok.at2 hr
 have a1:=gg (rk:=rk) (t:=r) (by omega)
 have e:aw .leaf 3 (aL (ah (ah (ae 0) (eK (.int 2))) (ae 2))) (aM bG (ag 2 dY (ab (ah (ae 1) (ae 3)) (ab (ah (ae 1) (ae 2)) af)))) (ae 3) (aH 4 [w.enc,eZ rk,rm r])=.ok ⟨.lst .leaf,.list ((oB w rk r).map fun t=>rm t)⟩ (aH 4 [w.enc,eZ rk,rm r]):=by
  refine wW rm (w.stp r) (fun t=>rK (aZ rk t) (aZ rk r)) (fun t=>⟨.leaf,rm t⟩) (st:=true) (by simp [aH,Wd.enc,ez,a2]) (by simp [aH]) rfl ok.z.len (fun t ht=>?_) (fun t ht _=>?_)
  ·have a3:=gg (rk:=rk) (t:=t) (by rw [hl];exact ok.stp_lt ht)
   have dl:=r9 (a:=aZ rk t) (b:=aZ rk r)
   simp [aH,a1,a3,dl]
  ·simp [aH]
 refine aO ?_
 unfold fF;rw [pM,e];rfl
structure JH (w:Wd) (p:Int) (pl:List (Option Nat)):Prop where
 len:pl.length=w.n
 st:∀r t,r<w.n->aZ pl r=some t->own w p r=true/\t∈w.stp r
end KC
namespace T
open PySem PySem.Spec L2
open PyProof.Rows hiding St
def DU (i j:Nat) (fl:FL):FS:=fun Γ=>match fl Γ with
 | .ok [p,q] Γ1=>(match putN [i,j] [p,q] Γ1 with
  | some Γ'=>.nx Γ'
  | none=>.no)
 | .ok _ _=>.no
 | .er c Γ1=>.er c Γ1
 | .no=>.no
end T
namespace TQ
open PySem PySem.Spec L2 T
open PyProof.Rows hiding St
variable {X:Cx} {N gl:List Str} {vs cs ls lo gs:List Nat} {W:XW} {a b:Expr} {pos p:Pos} {fl:FL}
end TQ
namespace T
open PySem PySem.Spec L2
open PyProof.Rows hiding St
section
variable {K:Fg} {W:XW} {σ:St} {H:Hp} {Q:VK} {D:gh} {fa fb:F1} {fl:FL}
open Classical in
end
end T
namespace KC
open PySem PySem.Spec L2 T PySem.SeqAt
open PyProof.Rows hiding St
noncomputable def Wd.inn (w:Wd) (L:List Nat):Wd:=⟨w.n,w.os,w.m,w.s.map fun row=>row.filter fun t=>L.contains t⟩
noncomputable abbrev gl (T L:List Nat):List Nat:=L.filter fun r=>T.contains r
noncomputable abbrev lst (rk:List (Option Nat)) (L:List Nat):List Nat:=L.filter fun r=>(aZ rk r).isNone
noncomputable def tD:Option (Nat×Nat)->D
 | none=>.none
 | some (a,b)=>.tuple [.int (a:Int),.int (b:Int)]
@[simp] theorem F5 (o:Option (Nat×Nat)):nL (tD o)=o.isNone:=by cases o<;>rfl
noncomputable def Dd (tn:List (Option (Nat×Nat))) (t:Nat):Option (Nat×Nat):=tn.getD t none
noncomputable def Fb (tn:List (Option (Nat×Nat))) (a b t:Nat):Prop:=∃a' b',Dd tn t=some (a',b')/\(a'<a\/(a'=a/\(b'<b\/(b=0/\b'=0))))
structure TS where
 tn:List (Option (Nat×Nat))
 L:List Nat
 k:Nat
 lost:List Nat
 x7:Option PV
 x8:Option PV
structure TI (w:Wd) (p:Int) (T:List Nat) (b:TS):Prop where
 len:b.tn.length=w.n
 std:Std w.n b.L
 mem:∀r,r<w.n->(r∈b.L↔Dd b.tn r=none)
 c:∀r∈b.L,led (own w p r) (w.stp r) (·∈b.L)
 big:∀X,CS w.n w.stp (own w p) (·∈T) X->∀r,X r->r∈b.L
 los:∃rk,RightG w.n (inn w.stp b.L) (own w p) b.L (gl T b.L) rk/\b.lost=lst rk b.L
 tk:∀r a j,Dd b.tn r=some (a,j)->a<b.k
 td:∀r a j,r<w.n->Dd b.tn r=some (a,j)->(j=0->r∉T)/\led (!own w p r) (w.stp r) (Fb b.tn a j)
structure KM (w:Wd) (p:Int) (T:List Nat) (tn:List (Option (Nat×Nat))) (L:List Nat):Prop where
 len:tn.length=w.n
 std:Std w.n L
 mem:∀r,r<w.n->(r∈L↔Dd tn r=none)
 c:∀r∈L,led (own w p r) (w.stp r) (·∈L)
 suff:CS w.n w.stp (own w p) (·∈T) (·∈L)
 big:∀X,CS w.n w.stp (own w p) (·∈T) X->∀r,X r->r∈L
 td:∀r a j,r<w.n->Dd tn r=some (a,j)->(j=0->r∉T)/\led (!own w p r) (w.stp r) (Fb tn a j)
noncomputable abbrev wK (w:Wd) (c:Str) (r:Nat):Prop:=c∈w.mks r
noncomputable abbrev gm (w:Wd) (c:Str) (L:List Nat):List Nat:=L.filter fun r=>(w.mks r).contains c
theorem mS {w:Wd} (ok:w.Ok) {c:Str} (hcl:c∈bp) {L:List Nat} (hs:Std w.n L) :
  ∃rk,bJ [w.enc,av L,.str c]=.ok ⟨.lst .leaf,eZ rk⟩/\RightG w.n w.stp (fun _=>true) L (gm w c L) rk:=by
 have lo:=ok.g.lo
 have h24:=ok.h24
 have hl:=hs.len
 have hgl:(gm w c L).length<=1000:=Nat.le_trans (length_filter_le _ _) (by omega)
 obtain ⟨rk,e,Rt,_⟩:=Ip ok.z (cl:=w.os.map fun _=>true) (thr:=L) (goal:=gm w c L) (by rw [length_map];exact lo) (fun r hr=>ok.stp_ne (hs.lt r hr)) hs.lt (by omega) (fun r hr=>hs.lt r (List.mem_filter.mp hr).1) hgl
 have Rt:=Rt.congr (ch':=fun _=>true) fun r hr=>by
  unfold gB;rw [getD_eq_getElem?_getD,getElem?_map,getElem?_eq_getElem (by omega)]
  rfl
 refine ⟨rk,?_,Rt⟩
 have c1:aw .leaf 3 (aL (ah (ae 0) (eK (.int 0)))) aI (eK (.bool true)) (aH 4 [w.enc,av L,av (gm w c L)])=.ok ⟨.lst .leaf,nk (w.os.map fun _=>true)⟩ (aH 4 [w.enc,av L,av (gm w c L)]):=by
  have:=kU (fun d:D=>d) w.os (fun d=>⟨.leaf,.bool true⟩) (s:=.leaf) (i:=3) (fi:=aL (ah (ae 0) (eK (.int 0)))) (fe:=eK (.bool true)) (st:=true) (Γ:=aH 4 [w.enc,av L,av (gm w c L)]) (by simp [aH,Wd.enc,ez]) (by simp [aH]) rfl (by omega) (fun d hd=>by simp)
  rw [this];simp
 have st:di [w.enc,av L,av (gm w c L)]=.ok ⟨.lst .leaf,eZ rk⟩:=aO (bf (bP (az (ay rfl) (az c1 (az (ay rfl) (az (ay rfl) aj)))) e rfl rfl) rfl)
 have c2:aw .leaf 3 (aL (ae 1)) (aM ao (aA (bj false) (ae 2) (ah (ah (ae 0) (eK (.int 1))) (ae 3)))) (ae 3) (aH 4 [w.enc,av L,.str c])=.ok ⟨.lst .leaf,.list ((gm w c L).map fun t=>rm t)⟩ (aH 4 [w.enc,av L,.str c]):=by
  refine wW rm L (fun r=>(w.mks r).contains c) (fun t=>⟨.leaf,rm t⟩) (st:=true) (by simp [aH]) (by simp [aH]) rfl (by omega) (fun t ht=>?_) (fun t ht _=>?_)
  ·have a1:=ok.at1 (hs.lt t ht)
   simp [aH,Wd.enc,ez,a1,Hf (C3 hcl).1 (vd ok t)]
  ·simp [aH]
 exact aO (bf (bP (az (ay rfl) (az (ay rfl) (az c2 aj))) st rfl rfl) rfl)
structure wb (w:Wd) (M:List Str) (L off:List Nat):Prop where
 ne:off≠[]
 sub:∀r∈off,r∈L
 no:∀(R:Nat->Prop) X,Fr w.n w.stp R M (wK w) X->(∀r,X r->r∈L)->∀r∈off,¬X r
structure nE (w:Wd) (M:List Str) (L:List Nat):Prop where
 c:∀r∈L,∃t∈w.stp r,t∈L
 a:∀m∈M,∀S:Nat->Prop,(∀r,r∈L->wK w m r->S r)->(∀r,r∈L->(∃t∈w.stp r,t∈L/\S t)->S r)->∀r,r∈L->S r
noncomputable abbrev kT (w:Wd) (M:List Str) (L:List Nat) (x4 x5 x6:Option PV):Ev:=[some ⟨.leaf,w.enc⟩,some ⟨.leaf,av L⟩,some ⟨.leaf,cG M⟩,some ⟨.leaf,av []⟩,x4,x5,x6,none,none]
noncomputable abbrev eL:FS:=(ak (aB false 5 (ag 3 bJ (ab (ae 0) (ab (ae 1) (ab (ae 4) af)))))
  (ak (aB false 6 (aw .leaf 7 (aL (ae 1)) (aM ao (aA (b6 false) (ah (ae 5) (ae 7)) (eK .none))) (ae 7)))
  (bW (aM bG (ae 6)) (aF (bE (ab (ae 6) (ab (ae 4) af)))) aG)))
theorem xl {w:Wd} (ok:w.Ok) {M:List Str} {L:List Nat} (hs:Std w.n L) {c:Str} (hcl:c∈bp) (x5 x6:Option PV):∃rk,RightG w.n w.stp (fun _=>true) L (gm w c L) rk /\
  ((L.filter (fun r=>(aZ rk r).isNone)=[]/\∃y5 y6,eL (kT w M L (some ⟨.leaf,.str c⟩) x5 x6)=.nx (kT w M L (some ⟨.leaf,.str c⟩) y5 y6)) \/
   (L.filter (fun r=>(aZ rk r).isNone)≠[]/\eL (kT w M L (some ⟨.leaf,.str c⟩) x5 x6)=.rt ⟨.tup [.leaf,.leaf],.tuple [av (L.filter fun r=>(aZ rk r).isNone),.str c]⟩)):=by
 have h24:=ok.h24
 have hl:=hs.len
 obtain ⟨rk,e,R⟩:=mS ok hcl hs;refine ⟨rk,R,?_⟩
 have c0:aw .leaf 7 (aL (ae 1)) (aM ao (aA (b6 false) (ah (ae 5) (ae 7)) (eK .none))) (ae 7) (kT w M L (some ⟨.leaf,.str c⟩) (some ⟨.leaf,eZ rk⟩) x6)=.ok ⟨.lst .leaf,.list ((L.filter fun r=>(aZ rk r).isNone).map fun t=>rm t)⟩ (kT w M L (some ⟨.leaf,.str c⟩) (some ⟨.leaf,eZ rk⟩) x6):=by
  refine wW rm L (fun r=>(aZ rk r).isNone) (fun t=>⟨.leaf,rm t⟩) (st:=true) (by simp) (by simp) rfl (by omega) (fun t ht=>?_) (fun t ht _=>?_)
  ·have a1:=gg (rk:=rk) (t:=t) (by rw [R.len];exact hs.lt t ht)
   simp [a1]
  ·simp
 have s1:aB false 5 (ag 3 bJ (ab (ae 0) (ab (ae 1) (ab (ae 4) af)))) (kT w M L (some ⟨.leaf,.str c⟩) x5 x6)=.nx (kT w M L (some ⟨.leaf,.str c⟩) (some ⟨.leaf,eZ rk⟩) x6):=dS (bP (az (ay rfl) (az (ay rfl) (az (ay rfl) aj))) e rfl rfl) rfl (by simp)
 have s2:aB false 6 (aw .leaf 7 (aL (ae 1)) (aM ao (aA (b6 false) (ah (ae 5) (ae 7)) (eK .none))) (ae 7)) (kT w M L (some ⟨.leaf,.str c⟩) (some ⟨.leaf,eZ rk⟩) x6)=.nx (kT w M L (some ⟨.leaf,.str c⟩) (some ⟨.leaf,eZ rk⟩) (some ⟨.leaf,av (L.filter fun r=>(aZ rk r).isNone)⟩)):=dS c0 rfl (by simp)
 by_cases q:L.filter (fun r=>(aZ rk r).isNone)=[]
 ·refine .inl ⟨q,some ⟨.leaf,eZ rk⟩,some ⟨.leaf,av (L.filter fun r=>(aZ rk r).isNone)⟩,ax s1 (ax s2 ?_)⟩
  rw [q];simp
 ·refine .inr ⟨q,ax s1 (ax s2 ?_)⟩
  generalize L.filter (fun r=>(aZ rk r).isNone)=F at q
  cases F with
  | nil=>exact absurd rfl q
  | cons a r=>simp [wH]
theorem ug {w:Wd} (ok:w.Ok) {M0:List Str} {L:List Nat} (hs:Std w.n L):∀(M:List Str),(∀c∈M,c∈bp)->∀(x4 x5 x6:Option PV),
  ((∃y4 y5 y6,bF 4 eL (M.map .str) (kT w M0 L x4 x5 x6)=.nx (kT w M0 L y4 y5 y6))/\∀c∈M,∃rk,RightG w.n w.stp (fun _=>true) L (gm w c L) rk/\∀r∈L,aZ rk r≠none) \/
  (∃c∈M,∃rk,RightG w.n w.stp (fun _=>true) L (gm w c L) rk/\L.filter (fun r=>(aZ rk r).isNone)≠[]/\bF 4 eL (M.map .str) (kT w M0 L x4 x5 x6)=.rt ⟨.tup [.leaf,.leaf],.tuple [av (L.filter fun r=>(aZ rk r).isNone),.str c]⟩)
 | [],_,x4,x5,x6=>.inl ⟨⟨x4,x5,x6,rfl⟩,by simp⟩
 | c::M,h,x4,x5,x6=>by
  obtain ⟨rk,R,q⟩:=xl ok (M:=M0) hs (h c mem_cons_self) x5 x6
  have fg:∀o,eL (kT w M0 L (some ⟨.leaf,.str c⟩) x5 x6)=o->bF 4 eL ((c::M).map .str) (kT w M0 L x4 x5 x6)=(match o with | .nx Γ1=>bF 4 eL (M.map .str) Γ1 | .ct Γ1=>bF 4 eL (M.map .str) Γ1 | .bk Γ1=>.nx Γ1 | .rt p=>.rt p | .er a b=>.er a b | .no=>.no):=fun o ho=>by
   rw [map_cons,bF,if_pos (by simp)]
   have:(kT w M0 L x4 x5 x6).set 4 (some ⟨.leaf,.str c⟩)=kT w M0 L (some ⟨.leaf,.str c⟩) x5 x6:=rfl
   rw [this,ho];all_goals (cases o<;>rfl)
  rcases q with ⟨q,y5,y6,e⟩ | ⟨q,e⟩
  ·have hall:∀r∈L,aZ rk r≠none:=fun r hr hz=>by
    have:r∈L.filter (fun r=>(aZ rk r).isNone):=List.mem_filter.mpr ⟨hr,by simp [hz]⟩
    rw [q] at this;simp at this
   rcases ug ok (M0:=M0) hs M (fun d hd=>h d (mem_cons_of_mem _ hd)) (some ⟨.leaf,.str c⟩) y5 y6 with ⟨⟨z4,z5,z6,e2⟩,h2⟩ | ⟨d,hd,rk',R',q',e2⟩
   ·refine .inl ⟨⟨z4,z5,z6,?_⟩,fun d hd=>?_⟩
    ·rw [fg _ e];exact e2
    ·rcases List.mem_cons.mp hd with rfl | hd
     ·exact ⟨rk,R,hall⟩
     ·exact h2 d hd
   ·refine .inr ⟨d,mem_cons_of_mem _ hd,rk',R',q',?_⟩
    rw [fg _ e];exact e2
  ·refine .inr ⟨c,mem_cons_self,rk,R,q,?_⟩
   rw [fg _ e]
theorem CM {l L:List Nat}:cw true [.list (l.map fun t=>PyData.bool (L.contains t))]=some (.bool (l.any fun t=>L.contains t)):=by
 have:=qh (bs:=l.map fun t=>L.contains t)
 rw [map_map] at this;refine this.trans ?_
 rw [List.any_map];rfl
theorem mT {w:Wd} (ok:w.Ok) {M:List Str} (hM:∀c∈M,c∈bp) {L:List Nat} (hs:Std w.n L) :
  (cB [w.enc,av L,cG M]=.ok ⟨.leaf,.none⟩/\nE w M L)\/(∃off o,cB [w.enc,av L,cG M]=.ok ⟨.tup [.leaf,.leaf],.tuple [av off,o]⟩/\wb w M L off):=by
 have h24:=ok.h24
 have hl:=hs.len
 have e1:aw .leaf 7 (aL (ae 1)) (dC (aM bG (bI (cw true) (ab (aw .leaf 8 (aL (ah (ah (ae 0) (eK (.int 2))) (ae 7))) aI (aA (bj false) (ae 8) (ae 1))) af)))) (ae 7) (aH 9 [w.enc,av L,cG M])=.ok ⟨.lst .leaf,.list ((L.filter fun r=>!(w.stp r).any fun t=>L.contains t).map fun t=>rm t)⟩ (aH 9 [w.enc,av L,cG M]):=by
  refine wW rm L (fun r=>!(w.stp r).any fun t=>L.contains t) (fun t=>⟨.leaf,rm t⟩) (st:=true) (by simp [aH]) (by simp [aH]) rfl (by omega) (fun r hr=>?_) (fun t ht _=>?_)
  ·have a2:=ok.at2 (hs.lt r hr)
   have c2:aw .leaf 8 (aL (ah (ah (ae 0) (eK (.int 2))) (ae 7))) aI (aA (bj false) (ae 8) (ae 1)) ((aH 9 [w.enc,av L,cG M]).set 7 (some ⟨.leaf,rm r⟩))=.ok ⟨.lst .leaf,.list ((w.stp r).map fun t=>.bool (L.contains t))⟩ ((aH 9 [w.enc,av L,cG M]).set 7 (some ⟨.leaf,rm r⟩)):=by
    refine kU rm (w.stp r) (fun t=>⟨.leaf,.bool (L.contains t)⟩) (st:=true) (by simp [aH,Wd.enc,ez,a2]) (by simp [aH]) rfl ok.z.len (fun t ht=>⟨?_,rfl⟩)
    exact aT (ay rfl) (ay rfl) zc
   exact ji (nu (s:=.leaf) (dz (az c2 aj) CM))
  ·simp [aH]
 by_cases q:(L.filter fun r=>!(w.stp r).any fun t=>L.contains t)=[]
 ·rw [q] at e1
  have hc:∀r∈L,∃t∈w.stp r,t∈L:=fun r hr=>by
   have:=List.filter_eq_nil_iff.mp q r hr
   simpa using this
  have s1:aB false 3 _ (aH 9 [w.enc,av L,cG M])=.nx (kT w M L none none none):=dS e1 rfl (by simp [aH])
  have s2:bW (aM bG (ae 3)) (aF (bE (ab (ae 3) (ab (eK .none) af)))) aG (kT w M L none none none)=.nx (kT w M L none none none):=by simp
  rcases ug ok (M0:=M) hs M hM none none none with ⟨⟨z4,z5,z6,e2⟩,h2⟩ | ⟨c,hcM,rk,R,q',e2⟩
  ·refine .inl ⟨aO (ax s1 (ax s2 (ax (eG (b7 (ds:=M.map .str) (ay rfl) rfl) e2) (bf bg rfl)))),hc,fun c hcM S h3 h4 r hr=>?_⟩
   obtain ⟨rk,R,hall⟩:=h2 c hcM;have:r∈L/\S r:=R.min (S:=fun r=>r∈L/\S r) (fun r t ht=>ok.stp_lt ht) (fun r _ hg=>by
     obtain ⟨g1,g2⟩:=List.mem_filter.mp hg;exact ⟨g1,h3 r g1 (by simpa using g2)⟩) (fun r _ ht hl=>by
     obtain ⟨t,g1,g2,g3⟩:=led_t.mp hl;exact ⟨ht,h4 r ht ⟨t,g1,g2,g3⟩⟩) (hs.lt r hr) (hall r hr)
   exact this.2
  ·refine .inr ⟨_,_,aO (ax s1 (ax s2 (wB (eG (b7 (ds:=M.map .str) (ay rfl) rfl) e2)))),q',fun r hr=>(List.mem_filter.mp hr).1,fun Rm X hX hXL r hr hx=>?_⟩
   obtain ⟨g1,g2⟩:=List.mem_filter.mp hr;have hz:aZ rk r=none:=by simpa using g2
   refine hX.a c hcM (fun r=>aZ rk r≠none) (fun r hx hm=>R.goal_ok (hX.lt r hx) (List.mem_filter.mpr ⟨hXL r hx,by simpa using hm⟩)) (fun r hx ⟨t,ht,_,hk⟩=>R.step_ok (hX.lt r hx) (hXL r hx) (led_t.mpr ⟨t,ht,hk⟩)) r hx hz
 ·refine .inr ⟨L.filter fun r=>!(w.stp r).any fun t=>L.contains t,.none,?_,q,fun r hr=>(List.mem_filter.mp hr).1,fun Rm X hX hXL r hr hx=>?_⟩
  ·refine aO (ax (dS e1 rfl (by simp [aH])) (wB ?_))
   simp only [map_map] at *
   generalize (L.filter fun r=>!(w.stp r).any fun t=>L.contains t)=F at q
   cases F with
   | nil=>exact absurd rfl q
   | cons a r=>simp [aH,wH]
  ·obtain ⟨t,ht,hxt⟩:=hX.c r hx
   have:=(List.mem_filter.mp hr).2
   simp only [Bool.not_eq_true',List.any_eq_false,contains_iff_mem] at this
   exact this t ht (hXL t hxt)
structure JN where
 rows:List D
 L:List Nat
 row:D
noncomputable abbrev wM (w:Wd) (R:List Nat) (M:List Str) (b:JN):Ev:=[some ⟨.leaf,w.enc⟩,some ⟨.leaf,av R⟩,some ⟨.leaf,cG M⟩,some ⟨.lst .leaf,.list b.rows⟩,some ⟨.leaf,av b.L⟩,some ⟨.leaf,b.row⟩,none]
structure FI (w:Wd) (R:List Nat) (M:List Str) (b:JN):Prop where
 std:Std w.n b.L
 sub:∀r∈b.L,r∈R
 cnt:b.rows.length+b.L.length<=w.n
 big:∀X,Fr w.n w.stp (·∈R) M (wK w) X->∀r,X r->r∈b.L
 row:(b.row=.none/\nE w M b.L)\/(∃off o,b.row=.tuple [av off,o]/\wb w M b.L off)
noncomputable abbrev i4:FS:=(ak (eE 3 (ae 5))
  (ak (aB false 4 (aw .leaf 6 (aL (ae 4)) (aM ao (aA (bj true) (ae 6) (ah (ae 5) (eK (.int 0))))) (ae 6)))
  (aB false 5 (ag 3 cB (ab (ae 0) (ab (ae 4) (ab (ae 2) af)))))))
theorem Hd {w:Wd} (ok:w.Ok) {M:List Str} (hM:∀c∈M,c∈bp) {L:List Nat} (hs:Std w.n L):∃p,cB [w.enc,av L,cG M]=.ok p/\coer .leaf p=true/\((p.d=.none/\nE w M L)\/(∃off o,p.d=.tuple [av off,o]/\wb w M L off)):=by
 rcases mT ok hM hs with ⟨e,h⟩ | ⟨off,o,e,h⟩
 ·exact ⟨_,e,rfl,.inl ⟨rfl,h⟩⟩
 ·exact ⟨_,e,rfl,.inr ⟨off,o,rfl,h⟩⟩
theorem qi {w:Wd} (ok:w.Ok) {R:List Nat} {M:List Str} (hM:∀c∈M,c∈bp) {b:JN} (I:FI w R M b) (hb:(!nL b.row)=true):∃b',i4 (wM w R M b)=.nx (wM w R M b')/\FI w R M b'/\b'.L.length<b.L.length:=by
 have h24:=ok.h24
 have hl:=I.std.len
 have hcnt:=I.cnt
 rcases I.row with ⟨e,_⟩ | ⟨off,o,e,hoff⟩
 ·rw [e] at hb;cases hb
 have hs':=I.std.filter fun r=>!off.contains r
 obtain ⟨p,e2,hp,hr⟩:=Hd ok hM hs'
 have c0:aw .leaf 6 (aL (ae 4)) (aM ao (aA (bj true) (ae 6) (ah (ae 5) (eK (.int 0))))) (ae 6) (wM w R M ⟨b.rows++[b.row],b.L,b.row⟩)=.ok ⟨.lst .leaf,.list ((b.L.filter fun r=>!off.contains r).map fun t=>rm t)⟩ (wM w R M ⟨b.rows++[b.row],b.L,b.row⟩):=by
  refine wW rm b.L (fun r=>!off.contains r) (fun t=>⟨.leaf,rm t⟩) (st:=true) (by simp) (by simp) rfl (by omega) (fun t ht=>?_) (fun t ht _=>?_)
  ·rw [e]
   exact gF (s:=.leaf) (aT (ay rfl) (wU (j:=0) (ds:=[av off,o]) (ay rfl) bg rfl rfl rfl) DA)
  ·simp
 have lt:(b.L.filter fun r=>!off.contains r).length<b.L.length:=by
  obtain ⟨x,hx⟩:=exists_mem_of_ne_nil _ hoff.ne;have:(b.L.filter fun r=>!off.contains r).length≠b.L.length:=fun e=>by
   have:=List.length_filter_eq_length_iff.mp e x (hoff.sub x hx)
   simp [hx] at this
  have:=length_filter_le (fun r=>!off.contains r) b.L
  omega
 refine ⟨⟨b.rows++[b.row],b.L.filter fun r=>!off.contains r,p.d⟩,?_,⟨hs',fun r hr=>I.sub r (List.mem_filter.mp hr).1,by simp only [length_append,length_cons,length_nil];omega,fun X hX r hx=>?_,hr⟩,lt⟩
 ·exact ax (FN rfl (ay rfl) rfl (by omega)) (ax (dS c0 rfl (by simp)) (dS (bP (az (ay rfl) (az (ay rfl) (az (ay rfl) aj))) e2 rfl rfl) hp (by simp)))
 ·refine List.mem_filter.mpr ⟨I.big X hX r hx,?_⟩
  cases hc:off.contains r with
  | false=>rfl
  | true=>exact absurd hx (hoff.no _ X hX (I.big X hX) r (by simpa using hc))
theorem mV {w:Wd} (ok:w.Ok) {R:List Nat} (hR:Std w.n R) {M:List Str} (hM:∀c∈M,c∈bp) (hr:br [cG M]=.ok ⟨.leaf,.bool true⟩) :
  ∃K,cV [w.enc,av R,cG M]=.ok ⟨.leaf,av K⟩/\Std w.n K/\Fr w.n w.stp (·∈R) M (wK w) (·∈K)/\∀X,Fr w.n w.stp (·∈R) M (wK w) X->∀r,X r->r∈K:=by
 have h24:=ok.h24
 have hl:=hR.len
 obtain ⟨p,e0,hp,hro⟩:=Hd ok hM hR;have i0:FI w R M ⟨[],R,p.d⟩:=⟨hR,fun r h=>h,by simpa using hl,fun X hX=>hX.sub,hro⟩
 obtain ⟨b,e,I,hf⟩:=DB (c:=aM ao (aA (b6 true) (ae 5) (eK .none))) (g:=i4) (G:=wM w R M) (test:=fun b=>!nL b.row) (Inv:=FI w R M) (meas:=fun b=>b.L.length) (fun b I=>by simp) (fun b I hb=>qi ok hM I hb) 1000 _ i0 (by show R.length<1000;omega)
 have hend:nE w M b.L:=by
  rcases I.row with ⟨_,h⟩ | ⟨off,o,h,_⟩
  ·exact h
  ·rw [h] at hf;cases hf
 have wh:nM 1000 (aM ao (aA (b6 true) (ae 5) (eK .none))) i4 (wM w R M ⟨[],R,p.d⟩)=.nx (wM w R M b):=by
  unfold nM;rw [e]
 have rk:bz [w.enc,av R,cG M]=.ok ⟨.tup [.lst .leaf,.leaf],.tuple [.list b.rows,av b.L]⟩:=
  aO (ax (Ac (nG (s:=.leaf) aj rfl rfl rfl) rfl (by simp [aH])) (ax (dS (HC (ds:=R.map rm) (ay rfl) rfl) rfl (by simp [aH])) (ax (dS (bP (az (ay rfl) (az (ay rfl) (az (ay rfl) aj))) e0 rfl rfl) hp (by simp [aH])) (ax wh (bf (cj (az (CZ (p:=⟨.lst .leaf,.list b.rows⟩) rfl) (az (ay rfl) aj)) rfl rfl) rfl)))))
 have c1:=ok.check
 have c2:=Iq ok hR
 have cf:bT [w.enc,av R,cG M]=.ok ⟨.leaf,.none⟩:=by
  refine fX (Γ:=aH 3 [w.enc,av R,cG M]) ?_
  simp [d8,aH,c1,c2,hr]
 refine ⟨b.L,aO (ax (tp (bP (az (ay rfl) (az (ay rfl) (az (ay rfl) aj))) cf rfl rfl)) (bf (wU (j:=1) (bP (az (ay rfl) (az (ay rfl) (az (ay rfl) aj))) rk rfl rfl) bg rfl rfl rfl) rfl)),I.std,⟨I.std.lt,I.sub,hend.c,hend.a⟩,I.big⟩
theorem xj {r:List Nat}:shaped (av r)=true:=Du fun a ha=>by
 obtain ⟨t,_,e⟩:=List.mem_map.mp ha;exact ⟨(t:Int),e.symm⟩
theorem BU {a b:List Nat} (h:a=b):mG (av a) (av b)=some (.bool false):=by rw [h];exact va xj
theorem AC {w:Wd}:∀a b r,eA w (.bi .su a b) r↔Unt w true (eA w a) (eA w b) r:=fun _ _ _=>Iff.rfl
theorem Fh {w:Wd}:∀a r,eA w (.un .sa a) r↔¬Unt w false (fun _=>True) (fun t=>¬eA w a t) r:=fun _ _=>Iff.rfl
theorem ve {c:Str} (h:c∈bp):br [cG [c]]=.ok ⟨.leaf,.bool true⟩:=by
 have:=fC (ds:=[.str c]) (fun a ha=>⟨c,List.mem_singleton.mp ha,(C3 h).1⟩) (by simp)
 refine this.trans ?_
 simp [(C3 h).2,fu,cg]
noncomputable def kc (w:Wd):List Nat->Prop
 | a::b::r=>b∈w.stp a/\kc w (b::r)
 | _=>True
noncomputable def wF (P Q:Nat->Bool):List Nat->Bool
 | []=>false
 | r::p=>Q r||(P r&&wF P Q p)
structure Las (w:Wd) (p:List Nat):Prop where
 ch:kc w p
 nd:p.Nodup
 bk:∃z t,p.getLast?=some z/\t∈w.stp z/\t∈p
theorem nq {w:Wd} {z t:Nat} (ht:t∈w.stp z):∀{p:List Nat},kc w p->p.getLast?=some z->kc w (p++[t])
 | [],_,h=>by simp at h
 | [a],_,h=>by
  simp at h
  subst h;exact ⟨ht,trivial⟩
 | a::b::r,h,e=>⟨h.1,nq ht h.2 (by simpa using e)⟩
end KC
namespace KC
open PySem PySem.Spec L2 T
open PyProof.Rows hiding St
noncomputable def sq:FS:=(ak (aB false 2 (ia (ia (ah (ae 1) (eK (.int 0))) (ah (ae 1) (eK (.int 1)))) (dN (fun k=>(none,some k)) (ah (ae 1) (eK (.int 1))) (eK (.int 1)))))
  (ak (bW (jj (dC (aM bG (ah (ae 1) (eK (.int 1))))) (dC (aM bG (bI (cw false) (ab (aw .leaf 4 (aL (ae 2)) aI (sV zP i2 (eK (.int 0)) (ae 4) (bI bB (ab (ah (ae 0) (eK (.int 0))) af)))) af))))) (aF (eK (.bool false))) aG)
  (aF (bI (cw false) (ab (aw .leaf 3 (yr (ab (eK (.int 1)) (ab (bI bB (ab (ae 2) af)) af))) aI (aA (bj false) (ah (ae 2) (ae 3)) (ah (ah (ae 0) (eK (.int 2))) (ah (ae 2) (aA gSub (ae 3) (eK (.int 1))))))) af)))))
noncomputable def gy:List PySem.PyData->Res:=aC 5 sq
end KC
namespace KQ
open PySem PySem.Spec L2 T
open PyProof.Rows hiding St
open KC
noncomputable def oV:FS:=(ak (aB true 4 (aU .leaf (ab (ae 2) af)))
  (ak (dA 5 (gQ (ab (ae 3) af))
  (ak (aB false 8 (ah (ah (ae 0) (eK (.int 2))) (ah (ae 4) (eU cz (eK (.int 1))))))
  (eE 4 (ah (ae 8) (aA fo (ag 3 aq (ab (ae 1) (ab (ae 5) (ab (eK (.int 24)) af)))) (bI bB (ab (ae 8) af)))))))
  (ak (nM 100 (aM ao (aA (bj true) (ah (ae 4) (eU cz (eK (.int 1)))) (dN (fun k=>(none,some k)) (ae 4) (eU cz (eK (.int 1))))))
  (ak (aB false 8 (ah (ah (ae 0) (eK (.int 2))) (ah (ae 4) (eU cz (eK (.int 1))))))
  (eE 4 (ah (ae 8) (aA fo (ag 3 aq (ab (ae 1) (ab (bI bB (ab (ae 4) af)) (ab (eK (.int 24)) af)))) (bI bB (ab (ae 8) af)))))))
  (ak (aB false 6 (aw .leaf 5 (gQ (ab (aA gSub (bI bB (ab (ae 4) af)) (eK (.int 1))) af)) (aM ao (aA df (ah (ae 4) (ae 5)) (ah (ae 4) (eU cz (eK (.int 1)))))) (ae 5)))
  (ak (aB false 7 (ah (ae 6) (aA fo (ag 3 aq (ab (ae 1) (ab (eK (.int 59)) (ab (eK (.int 24)) af)))) (bI bB (ab (ae 6) af)))))
  (aF (bE (ab (dN (fun k=>(none,some k)) (ae 4) (ae 7)) (ab (dN (fun k=>(some k,some (-1))) (ae 4) (ae 7)) af)))))))))
noncomputable def iO:List PySem.PyData->Res:=aC 9 oV
end KQ
namespace KC
open PySem PySem.Spec L2 T PySem.SeqAt
open PyProof.Rows hiding St
theorem ph {Γ Γ1 Γ2:Ev} {g:Int->Option Int×Option Int} {fa fb:F1} {s s':Sh} {xs:List D} {k:Int} (ha:fa Γ=.ok ⟨s,.list xs⟩ Γ1) (hb:fb Γ1=.ok ⟨s',.int k⟩ Γ2) (ho:dv ⟨s,.list xs⟩ xs=true):dN g fa fb Γ=.ok ⟨.lst .leaf,.list (T.cutD xs (g k).1 (g k).2)⟩ Γ2:=by
 unfold dN aV;rw [ha];simp only [Out.bind]
 rw [hb];simp only [ho,if_true]
theorem DP {l:List Nat} {k:Nat}:T.cutD (l.map rm) none (some (k:Int))=(l.take k).map rm:=by
 unfold T.cutD;rw [HT.sIx_none,HT.sIx_nat,List.drop_zero,length_map,Nat.sub_zero,List.map_take];by_cases h:k<=l.length
 ·rw [Nat.min_eq_left h]
 ·rw [Nat.min_eq_right (by omega),take_of_length_le (by simp),take_of_length_le (by simp;omega)]
theorem xg {l:List Nat} {k:Nat}:T.cutD (l.map rm) (some (k:Int)) none=(l.drop k).map rm:=by
 unfold T.cutD;rw [HT.sIx_none,HT.sIx_nat,length_map,List.map_drop];by_cases h:k<=l.length
 ·rw [Nat.min_eq_left h,take_of_length_le (by simp)]
 ·rw [Nat.min_eq_right (by omega),List.drop_of_length_le (by simp),List.drop_of_length_le (by simp;omega)]
  simp
theorem xh {n d k:Nat} (h:1<=k):HT.sIx n d (some (-(k:Int)))=n-k:=by
 unfold HT.sIx;simp only
 rw [if_pos (by omega)]
 omega
theorem pE {l:List Nat}:T.cutD (l.map rm) none (some (-1))=l.dropLast.map rm:=by
 unfold T.cutD;rw [HT.sIx_none,List.drop_zero,Nat.sub_zero,List.dropLast_eq_take,List.map_take,length_map];rw [show (-1:Int)=-((1:Nat):Int) from rfl,xh (by omega)]
theorem pj {Γ:Ev} {fa fb:F1} {s:Sh} {l:List Nat} {k:Nat} (ha:fa Γ=.ok ⟨.leaf,av l⟩ Γ) (hb:fb Γ=.ok ⟨s,.int (k:Int)⟩ Γ) (h:k<l.length):ah fa fb Γ=.ok ⟨.leaf,rm (l.getD k 0)⟩ Γ:=by
 rw [dI,ha];simp only [Out.bind]
 rw [hb];simp only
 rw [lR,zW (x:=rm (l.getD k 0)) (by rw [getElem?_map,getD_eq_getElem?_getD,getElem?_eq_getElem h];rfl)]
theorem vW {α:Type} {xs:List α}:cw false [.list (xs.map fun _=>.bool true)]=some (.bool true):=by
 rw [wV (xs:=xs) (f:=fun _=>true),List.all_eq_true.mpr fun _ _=>rfl]
noncomputable abbrev wy (F R:List Nat):D:=.tuple [av F,av R]
structure qr (w:Wd) (F R:List Nat):Prop where
 ne:R≠[]
 lt:∀x∈F++R,x<w.n
 ch:kc w (F++R++R.take 1)
 len:F.length+R.length<=1000
theorem qo {w:Wd}:∀{l:List Nat} {k:Nat},kc w l->k+1<l.length->l.getD (k+1) 0∈w.stp (l.getD k 0)
 | [],k,_,h=>by simp at h
 | [a],k,_,h=>by simp at h
 | a::b::r,0,h,_=>h.1
 | a::b::r,k+1,h,hk=>by
  have:=qo (k:=k) h.2 (by simpa using hk)
  simpa using this
theorem tY {w:Wd} (ok:w.Ok) {Γ:Ev} {i:Nat} {fb:F1} {s:Sh} {r:Nat} (h0:Γ[i]?=some (some ⟨.leaf,w.enc⟩)) (hb:fb Γ=.ok ⟨s,rm r⟩ Γ) (hr:r<w.n):ah (ah (ae i) (eK (.int 2))) fb Γ=.ok ⟨.leaf,av (w.stp r)⟩ Γ:=by
 rw [dI,dI,ay h0];simp only [Out.bind,bg,Wd.enc,ez,lQ,zB]
 rw [hb];simp only [lR]
 rw [ok.at2 hr]
theorem G7 {w:Wd} (ok:w.Ok) {Γ:Ev} {i:Nat} (h0:Γ[i]?=some (some ⟨.leaf,w.enc⟩)):bI bB (ab (ah (ae i) (eK (.int 0))) af) Γ=.ok ⟨.leaf,.int (w.n:Int)⟩ Γ:=by
 have e:ah (ae i) (eK (.int 0)) Γ=.ok ⟨.leaf,.list w.os⟩ Γ:=by
  rw [dI,ay h0];simp only [Out.bind,bg,Wd.enc,ez,lQ,zC]
 refine dz (az e aj) ?_
 simp [ok.g.lo]
theorem DJ {R:List Nat} (h:R≠[]):∃a,R.take 1=[a]/\a∈R:=by
 cases R with
 | nil=>exact absurd rfl h
 | cons a r=>exact ⟨a,rfl,by simp⟩
theorem mU {w:Wd} (ok:w.Ok) {F R:List Nat} (h:qr w F R):gy [w.enc,wy F R]=.ok ⟨.leaf,.bool true⟩:=by
 obtain ⟨a,ea,ha⟩:=DJ h.ne;have hl:=h.len
 have ltA:∀x∈F++R++R.take 1,x<w.n:=fun x hx=>by
  rcases List.mem_append.mp hx with z | z
  ·exact h.lt x z
  ·rw [ea] at z
   rw [List.mem_singleton.mp z];exact h.lt a (mem_append_right _ ha)
 have lnA:(F++R++R.take 1).length<=1001:=by rw [ea];simp;omega
 have l1:1<=(F++R++R.take 1).length:=by rw [ea];simp;omega
 have c1:ia (ia (ah (ae 1) (eK (.int 0))) (ah (ae 1) (eK (.int 1)))) (dN (fun k=>(none,some k)) (ah (ae 1) (eK (.int 1))) (eK (.int 1))) (aH 5 [w.enc,wy F R])=.ok ⟨.lst .leaf,av (F++R++R.take 1)⟩ (aH 5 [w.enc,wy F R]):=by
  have i0:ah (ae 1) (eK (.int 0)) (aH 5 [w.enc,wy F R])=.ok ⟨.leaf,av F⟩ (aH 5 [w.enc,wy F R]):=by simp [aH]
  have i1:ah (ae 1) (eK (.int 1)) (aH 5 [w.enc,wy F R])=.ok ⟨.leaf,av R⟩ (aH 5 [w.enc,wy F R]):=by simp [aH]
  have s1:dN (fun k=>(none,some k)) (ah (ae 1) (eK (.int 1))) (eK (.int 1)) (aH 5 [w.enc,wy F R])=.ok ⟨.lst .leaf,av (R.take 1)⟩ (aH 5 [w.enc,wy F R]):=by
   rw [ph i1 bg rfl,show T.cutD (R.map rm) none (some (1:Int))=(R.take 1).map rm from DP (k:=1)]
  have:=lx (lx i0 i1 rfl rfl (by simp;omega)) s1 rfl rfl (by simp;omega)
  rw [this];simp [av]
 generalize hA:F++R++R.take 1=A at c1 ltA lnA l1
 have hch:kc w A:=hA▸h.ch
 refine aO ?_
 refine ax (Γ1:=[some ⟨.leaf,w.enc⟩,some ⟨.leaf,wy F R⟩,some ⟨.leaf,av A⟩,none,none]) (dS c1 rfl (by simp [aH])) ?_
 refine ax (cb (t:=false) (sF (a:=false) (b:=false) (ji (b:=true) (Γ1:=[some ⟨.leaf,w.enc⟩,some ⟨.leaf,wy F R⟩,some ⟨.leaf,av A⟩,none,none]) ?_) (ji (b:=true) (nu (s:=.leaf) (dz (ps:=[⟨.lst .leaf,.list (A.map fun x=>.bool true)⟩]) (az (kU rm A (fun x=>⟨.leaf,.bool true⟩) (st:=true) ?_ (by simp) rfl (by omega) ?_) aj) ?_)))) nofun fun _=>rfl) ?_
 ·cases R with
  | nil=>exact absurd rfl h.ne
  | cons b r=>
   have i1:ah (ae 1) (eK (.int 1)) [some ⟨.leaf,w.enc⟩,some ⟨.leaf,wy F (b::r)⟩,some ⟨.leaf,av A⟩,none,none]=.ok ⟨.leaf,av (b::r)⟩ [some ⟨.leaf,w.enc⟩,some ⟨.leaf,wy F (b::r)⟩,some ⟨.leaf,av A⟩,none,none]:=by simp
   unfold aM;rw [i1];rfl
 ·exact b7 (ay rfl) rfl
 ·intro x hx
  refine ⟨?_,rfl⟩
  have:=ltA x hx
  have e:=HF (b:=decide ((0:Int)<=(x:Int))) (b':=decide ((x:Int)<(w.n:Int))) (g:=zP) (g':=i2) (fa:=eK (.int 0)) (fb:=ae 4) (Γ:=[some ⟨.leaf,w.enc⟩,some ⟨.leaf,wy F R⟩,some ⟨.leaf,av A⟩,none,some ⟨.leaf,rm x⟩]) bg (ay rfl) rfl rfl (G7 ok (i:=0) rfl) rfl
  rw [show (decide ((0:Int)<=(x:Int))&&decide ((x:Int)<(w.n:Int)))=true by simp;omega] at e
  exact e
 ·exact vW
 ·refine bf (p:=⟨.leaf,.bool true⟩) (dz (ps:=[⟨.lst .leaf,.list ((List.range (A.length-1)).map fun x=>.bool true)⟩]) (az (kU (fun k:Nat=>PyData.int (1+(k:Int))) (List.range (A.length-1)) (fun x=>⟨.leaf,.bool true⟩) (st:=true) ?_ (by simp) rfl (by simp;omega) ?_) aj) ?_) rfl
  ·refine (DD (k:=1) (m:=(A.length:Int)) (az bg (az (dz (az (ay rfl) aj) ?_) aj)) rfl (by omega) (by omega) (by omega) (by omega)).trans ?_
   ·simp only [map_cons,map_nil,Bf,length_map]
   ·rw [show ((A.length:Int)-1).toNat=A.length-1 by omega,uh]
  ·intro k hk
   have hk:=List.mem_range.mp hk
   refine ⟨?_,rfl⟩
   have e1:=pj (Γ:=[some ⟨.leaf,w.enc⟩,some ⟨.leaf,wy F R⟩,some ⟨.leaf,av A⟩,some ⟨.leaf,.int (1+(k:Int))⟩,none]) (fa:=ae 2) (fb:=ae 3) (s:=.leaf) (l:=A) (k:=k+1) (ay rfl) (by rw [ay (d:=.int (1+(k:Int))) rfl,show (1+(k:Int))=((k+1:Nat):Int) by omega]) (by omega)
   have e2:=pj (Γ:=[some ⟨.leaf,w.enc⟩,some ⟨.leaf,wy F R⟩,some ⟨.leaf,av A⟩,some ⟨.leaf,.int (1+(k:Int))⟩,none]) (fa:=ae 2) (fb:=aA gSub (ae 3) (eK (.int 1))) (s:=.leaf) (l:=A) (k:=k) (ay rfl) (by rw [aT (ay rfl) bg sub_int',show (1+(k:Int)-1)=(k:Int) by omega]) (by omega)
   have hm:A.getD k 0<w.n:=ltA _ (by rw [getD_eq_getElem?_getD,getElem?_eq_getElem (by omega:k<A.length)];exact getElem_mem _)
   refine aT e1 (tY ok rfl e2 hm) ?_
   rw [zc,List.contains_iff_mem.mpr (qo hch (by omega))]
  ·exact vW
end KC
namespace KQ
open PySem PySem.Spec L2 T PySem.SeqAt KC
open PyProof.Rows hiding St
structure Wg (w:Wd) (r:Nat) (l:List Nat):Prop where
 hd:l.head?=some r
 lt:∀x∈l,x<w.n
 ch:kc w l
end KQ
namespace KC
structure Emb (n1:Nat) (st1:Nat->List Nat) (s n:Nat) (st:Nat->List Nat):Prop where
 cl:∀r t,t∈st1 r->t<n1
 lt:∀r,r<n1->r+s<n
 st:∀r,r<n1->st (r+s)=(st1 r).map (·+s)
section
variable {n1 s n:Nat} {st1 st:Nat->List Nat} {ch1 ch:Nat->Bool} {goal1 goal:List Nat} {rk:List (Option Nat)} {T1 T X:Nat->Prop}
noncomputable def cut (s n1:Nat) (rk:List (Option Nat)):List (Option Nat):=(List.range n1).map fun r=>aZ rk (r+s)
end
open PySem PySem.Spec L2 T PySem.SeqAt
open PyProof.Rows hiding St
end KC
namespace KC
open PySem PySem.Spec L2 T
open PyProof.Rows hiding St
noncomputable def de:PySem.PyData:=.tuple [.str "some next",.str "some until",.str "some always"]
noncomputable def iS:PySem.PyData:=.tuple [.str "all next",.str "all until",.str "all always"]
noncomputable def kL:FS:=(bW (dC (aM ao (sV zP i2 (eK (.int 0)) (ae 1) (bI bB (ab (ah (ae 0) (eK (.int 0))) af))))) sO aG)
noncomputable def aN:List PySem.PyData->Res:=aC 2 kL
noncomputable def m7:FS:=(bW (dC (aM bG (ag 2 gy (ab (ae 0) (ab (ae 1) af))))) sO aG)
noncomputable def eO:List PySem.PyData->Res:=aC 2 m7
noncomputable def sm:FS:=(ak (aB false 2 (bI bB (ab (ah (ae 0) (eK (.int 0))) af)))
  (aF (yG (aM ao (aA i2 (ae 1) (ae 2))) (ah (ah (ae 0) (eK (.int 0))) (ae 1)) (ah (ah (ae 0) (eK (.int 1))) (aA fo (aA gSub (ae 1) (ae 2)) (bI bB (ab (ah (ae 0) (eK (.int 1))) af)))))))
noncomputable def gx:List PySem.PyData->Res:=aC 3 sm
noncomputable def kM:FS:=(ak (bq (ag 1 bS (ab (ae 0) af)))
  (bW (gC (aM ao (aA (bj true) (ah (ae 0) (eK (.int 0))) (eK de))) (aM ao (aA (bj true) (ah (ae 0) (eK (.int 0))) (eK iS)))) sO aG))
noncomputable def cW:List PySem.PyData->Res:=aC 1 kM
noncomputable def oT:FS:=(ak (dA 3 (aL (ae 0))
  (ak (bW (aM ao (aA (bj false) (ae 3) (ae 2))) (aF (eK (.bool true))) aG)
  (bW (aM ao (aA (bj true) (ae 3) (ae 1))) (aF (eK (.bool false))) aG)))
  (aF (eK (.bool false))))
noncomputable def fM:List PySem.PyData->Res:=aC 4 oT
noncomputable def jC:FS:=(ak (aB false 3 (ia (ah (ae 0) (eK (.int 0))) (ah (ae 0) (eK (.int 1)))))
  (ak (bW (aM ao (aA (bj false) (ae 1) (eK bZ))) (aF (ag 3 fM (ab (ae 3) (ab (ah (ae 2) (eK (.int 0))) (ab (ah (ae 2) (eK (.int 1))) af))))) aG)
  (ak (bW (aM ao (aA (bj false) (ae 1) (eK cN))) (aF (bI (cw false) (ab (aw .leaf 4 (aL (ae 3)) aI (aA (bj false) (ae 4) (ah (ae 2) (eK (.int 0))))) af))) aG)
  (aF (aA (bj false) (ag 2 gx (ab (ae 0) (ab (eK (.int 1)) af))) (ah (ae 2) (eK (.int 0))))))))
noncomputable def dF:List PySem.PyData->Res:=aC 5 jC
noncomputable def mX:FS:=(ak (bq (ag 1 aD (ab (ae 0) af)))
  (ak (bq (ag 1 cW (ab (ae 1) af)))
  (ak (bq (ag 2 eO (ab (ae 0) (ab (ae 2) af))))
  (ak (aB false 3 (aw .leaf 4 (eR (ag 1 aR (ab (ae 1) af))) aI (ag 2 cJ (ab (ae 0) (ab (ae 4) af)))))
  (aF (aA df (ag 3 dF (ab (ae 2) (ab (ah (ae 1) (eK (.int 0))) (ab (ae 3) af)))) (aA (bj false) (ah (ae 1) (eK (.int 0))) (eK de))))))))
noncomputable def bH:List PySem.PyData->Res:=aC 5 mX
noncomputable def mY:FS:=(ak (aB true 2 (aU .leaf af))
  (ak (aB false 3 (ae 1))
  (ak (nM 100 (gC (aM ao (aA (b6 true) (ae 3) (eK .none))) (aM ao (aA (bj true) (ae 3) (ae 2))))
  (ak (eE 2 (ae 3))
  (aB false 3 (ah (ae 0) (ae 3)))))
  (ak (bW (aM ao (aA (b6 false) (ae 3) (eK .none))) (aF (eK .none)) aG)
  (ID 2 (ak (aB false 4 (mN 2 (ae 3)))
  (aF (bE (ab (dN (fun k=>(none,some k)) (ae 2) (ae 4)) (ab (dN (fun k=>(some k,none)) (ae 2) (ae 4)) af))))))))))
noncomputable def mw:List PySem.PyData->Res:=aC 5 mY
noncomputable def ig:FS:=(ak (aB false 5 (ah (ah (ae 0) (eK (.int 2))) (ae 4)))
  (ak (bW (aM ao (aA (b6 false) (ae 3) (eK .none))) (aF (aw .leaf 6 (aL (ae 5)) (aM ao (aA df (aA (bj false) (ae 6) (ah (ae 2) (eK (.int 0)))) (aA df (ae 1) (eK (.str "some next"))))) (ae 6))) aG)
  (ak (bW (aM ao (aA (bj false) (ae 1) (eK bt))) (aF (ag 3 bN (ab (ae 0) (ab (ae 3) (ab (ae 4) af))))) aG)
  (aF (aw .leaf 6 (aL (ae 5)) (aM ao (aA (b6 false) (ah (ae 3) (ae 6)) (eK .none))) (ae 6))))))
noncomputable def hU:List PySem.PyData->Res:=aC 7 ig
noncomputable def si:FS:=(ak (bq (ag 1 aD (ab (ae 0) af)))
  (ak (bq (ag 1 cW (ab (ae 1) af)))
  (ak (bq (ag 2 aN (ab (ae 0) (ab (ae 2) af))))
  (ak (aB false 3 (ah (ae 1) (eK (.int 0))))
  (ak (aB false 4 (aw .leaf 7 (eR (ag 1 aR (ab (ae 1) af))) aI (ag 2 cJ (ab (ae 0) (ab (ae 7) af)))))
  (ak (aB false 5 (ag 3 bQ (ab (ae 0) (ab (ae 1) (ab (ae 4) af)))))
  (ak (bW (aM ao (aA mG (aA (bj false) (ae 2) (ag 4 dj (ab (ae 0) (ab (ae 1) (ab (ae 4) (ab (ae 5) af)))))) (aA (bj false) (ae 3) (eK de)))) sO aG)
  (ak (aB false 6 (aw .leaf 8 (gQ (ab (bI bB (ab (ah (ae 0) (eK (.int 0))) af)) af)) aI (ah (ia (ag 5 hU (ab (ae 0) (ab (ae 3) (ab (ae 4) (ab (ae 5) (ab (ae 8) af)))))) (ah (ah (ae 0) (eK (.int 2))) (ae 8))) (eK (.int 0)))))
  (aF (ag 2 mw (ab (ae 6) (ab (ae 2) af))))))))))))
noncomputable def jT:List PySem.PyData->Res:=aC 9 si
open PySem.SeqAt
noncomputable def Wr.ofS (a:Wr):Bool:=decide (a=.sn\/a=.su\/a=.sa)
noncomputable def Wr.ofA (a:Wr):Bool:=decide (a=.an\/a=.au\/a=.aa)
@[simp] theorem Cf (a:Wr):bj false (.str a.t) de=some (.bool a.ofS):=by cases a<;>kernel_rfl
@[simp] theorem ye (a:Wr):bj true (.str a.t) de=some (.bool (!a.ofS)):=by cases a<;>kernel_rfl
@[simp] theorem yf (a:Wr):bj true (.str a.t) iS=some (.bool (!a.ofA)):=by cases a<;>kernel_rfl
noncomputable def Sn.tm (s:Sn):Bool:=s.w.ofS||s.w.ofA
theorem wZ {s:Sn} {Γ:Ev} {i:Nat} (h:Γ[i]?=some (some ⟨.leaf,s.enc⟩)):ah (ae i) (eK (.int 0)) Γ=.ok ⟨.leaf,.str s.w.t⟩ Γ:=by
 rw [dI,ay h]
 cases s<;>simp [Sn.enc,Sn.w,bg,Out.bind]
theorem jA {w:Wd} (ok:w.Ok) {F R:List Nat} (h:qr w F R):eO [w.enc,wy F R]=.ok ⟨.leaf,.none⟩:=by
 refine fX (Γ:=aH 2 [w.enc,wy F R]) ?_
 exact cb (t:=false) (ji (b:=true) (nu (s:=.leaf) (bP (az (ay rfl) (az (ay rfl) aj)) (mU ok h) rfl rfl))) nofun fun _=>rfl
theorem i9 {s:Sn} (h:s.ok) (hs:s.size<=200) (hd:s.dep<=24) (ht:s.tm=true):cW [s.enc]=.ok ⟨.leaf,.none⟩:=by
 refine fX (Γ:=aH 1 [s.enc]) ?_
 refine ax (tp (bP (az (ay rfl) aj) (dr h hs hd) rfl rfl)) ?_
 refine cb (t:=!s.w.ofS&&!s.w.ofA) (ES (gF (s:=.leaf) (aT (wZ rfl) bg (ye _))) (gF (s:=.leaf) (aT (wZ rfl) bg (yf _)))) (fun z=>?_) fun _=>rfl
 exfalso
 unfold Sn.tm at ht;revert z ht
 cases s.w.ofS<;>cases s.w.ofA<;>simp
noncomputable abbrev jL:FS:=(ak (bW (aM ao (aA (bj false) (ae 3) (ae 2))) (aF (eK (.bool true))) aG)
  (bW (aM ao (aA (bj true) (ae 3) (ae 1))) (aF (eK (.bool false))) aG))
theorem ly {A0 P Q:List Nat}:∀(A:List Nat) (x:Option PV),(∃y,bF 3 jL (A.map rm) [some ⟨.leaf,av A0⟩,some ⟨.leaf,av P⟩,some ⟨.leaf,av Q⟩,x]=.nx [some ⟨.leaf,av A0⟩,some ⟨.leaf,av P⟩,some ⟨.leaf,av Q⟩,y]/\wF (fun t=>P.contains t) (fun t=>Q.contains t) A=false) \/
  bF 3 jL (A.map rm) [some ⟨.leaf,av A0⟩,some ⟨.leaf,av P⟩,some ⟨.leaf,av Q⟩,x]=.rt ⟨.leaf,.bool (wF (fun t=>P.contains t) (fun t=>Q.contains t) A)⟩
 | [],x=>.inl ⟨x,rfl,rfl⟩
 | a::A,x=>by
  have e1:aM ao (aA (bj false) (ae 3) (ae 2)) [some ⟨.leaf,av A0⟩,some ⟨.leaf,av P⟩,some ⟨.leaf,av Q⟩,some ⟨.leaf,rm a⟩]=.ok (Q.contains a) [some ⟨.leaf,av A0⟩,some ⟨.leaf,av P⟩,some ⟨.leaf,av Q⟩,some ⟨.leaf,rm a⟩]:=gF (s:=.leaf) (aT (ay rfl) (ay rfl) zc)
  have e2:aM ao (aA (bj true) (ae 3) (ae 1)) [some ⟨.leaf,av A0⟩,some ⟨.leaf,av P⟩,some ⟨.leaf,av Q⟩,some ⟨.leaf,rm a⟩]=.ok (!P.contains a) [some ⟨.leaf,av A0⟩,some ⟨.leaf,av P⟩,some ⟨.leaf,av Q⟩,some ⟨.leaf,rm a⟩]:=gF (s:=.leaf) (aT (ay rfl) (ay rfl) DA)
  have go:∀o,jL [some ⟨.leaf,av A0⟩,some ⟨.leaf,av P⟩,some ⟨.leaf,av Q⟩,some ⟨.leaf,rm a⟩]=o->bF 3 jL ((a::A).map rm) [some ⟨.leaf,av A0⟩,some ⟨.leaf,av P⟩,some ⟨.leaf,av Q⟩,x]=(match o with | .nx Γ1=>bF 3 jL (A.map rm) Γ1 | .ct Γ1=>bF 3 jL (A.map rm) Γ1 | .bk Γ1=>.nx Γ1 | .rt p=>.rt p | .er a b=>.er a b | .no=>.no):=fun o ho=>by
   rw [map_cons,bF,if_pos (by simp)]
   have:[some (⟨.leaf,av A0⟩:PV),some ⟨.leaf,av P⟩,some ⟨.leaf,av Q⟩,x].set 3 (some ⟨.leaf,rm a⟩)=[some ⟨.leaf,av A0⟩,some ⟨.leaf,av P⟩,some ⟨.leaf,av Q⟩,some ⟨.leaf,rm a⟩]:=rfl
   rw [this,ho];all_goals (cases o<;>rfl)
  cases hq:Q.contains a with
  | true=>
   right
   rw [hq] at e1;rw [go (.rt ⟨.leaf,.bool true⟩) (wB (cb e1 (fun _=>rfl) nofun))]
   simp only [wF,hq,Bool.true_or]
  | false=>
   rw [hq] at e1
   cases hp:P.contains a with
   | false=>
    right
    rw [hp] at e2;rw [go (.rt ⟨.leaf,.bool false⟩) (ax (cb e1 nofun fun _=>rfl) (cb e2 (fun _=>rfl) nofun))]
    simp only [wF,hq,hp,Bool.false_or,Bool.false_and]
   | true=>
    rw [hp] at e2;have g:=go (.nx [some ⟨.leaf,av A0⟩,some ⟨.leaf,av P⟩,some ⟨.leaf,av Q⟩,some ⟨.leaf,rm a⟩]) (ax (cb e1 nofun fun _=>rfl) (cb e2 nofun fun _=>rfl))
    rw [g];have u:wF (fun t=>P.contains t) (fun t=>Q.contains t) (a::A)=wF (fun t=>P.contains t) (fun t=>Q.contains t) A:=by simp only [wF,hq,hp,Bool.false_or,Bool.true_and]
    rw [u];exact ly A _
theorem kI {A P Q:List Nat}:fM [av A,av P,av Q]=.ok ⟨.leaf,.bool (wF (fun t=>P.contains t) (fun t=>Q.contains t) A)⟩:=by
 refine aO ?_
 rcases ly (A0:=A) (P:=P) (Q:=Q) A none with ⟨y,e,u⟩ | e
 ·rw [u]
  exact ax (eG (b7 (s:=.leaf) (ay rfl) rfl) e) rfl
 ·exact wB (eG (b7 (s:=.leaf) (ay rfl) rfl) e)
noncomputable def Ej (F R:List Nat):Nat:=if 1<F.length then F.getD 1 0 else R.getD ((1-F.length) % R.length) 0
theorem rZ {F R:List Nat} (h:R≠[]):gx [wy F R,.int 1]=.ok ⟨.leaf,rm (Ej F R)⟩:=by
 have hp:0<R.length:=by
  cases R with
  | nil=>exact absurd rfl h
  | cons a b=>simp
 have i0:ah (ae 0) (eK (.int 0)) (aH 3 [wy F R,.int 1])=.ok ⟨.leaf,av F⟩ (aH 3 [wy F R,.int 1]):=by simp [aH]
 have j0:ah (ae 0) (eK (.int 0)) [some ⟨.leaf,wy F R⟩,some ⟨.leaf,.int 1⟩,some ⟨.leaf,.int (F.length:Int)⟩]=.ok ⟨.leaf,av F⟩ [some ⟨.leaf,wy F R⟩,some ⟨.leaf,.int 1⟩,some ⟨.leaf,.int (F.length:Int)⟩]:=by simp
 have j1:ah (ae 0) (eK (.int 1)) [some ⟨.leaf,wy F R⟩,some ⟨.leaf,.int 1⟩,some ⟨.leaf,.int (F.length:Int)⟩]=.ok ⟨.leaf,av R⟩ [some ⟨.leaf,wy F R⟩,some ⟨.leaf,.int 1⟩,some ⟨.leaf,.int (F.length:Int)⟩]:=by simp
 refine aO ?_
 refine ax (Γ1:=[some ⟨.leaf,wy F R⟩,some ⟨.leaf,.int 1⟩,some ⟨.leaf,.int (F.length:Int)⟩]) (dS (dz (d:=.int (F.length:Int)) (az i0 aj) (by simp)) rfl (by simp [aH])) ?_
 have c:aM ao (aA i2 (ae 1) (ae 2)) [some ⟨.leaf,wy F R⟩,some ⟨.leaf,.int 1⟩,some ⟨.leaf,.int (F.length:Int)⟩]=.ok (decide ((1:Int)<(F.length:Int))) [some ⟨.leaf,wy F R⟩,some ⟨.leaf,.int 1⟩,some ⟨.leaf,.int (F.length:Int)⟩]:=gF (s:=.leaf) (aT (ay rfl) (ay rfl) KC.lt_int)
 refine bf (p:=⟨.leaf,rm (Ej F R)⟩) (Γ1:=[some ⟨.leaf,wy F R⟩,some ⟨.leaf,.int 1⟩,some ⟨.leaf,.int (F.length:Int)⟩]) ?_ rfl
 unfold yG;rw [c];by_cases hl:1<F.length
 ·rw [decide_eq_true (by omega)]
  simp only [Out.bind,if_true]
  rw [pj (k:=1) (s:=.leaf) j0 (ay rfl) hl];unfold Ej;rw [if_pos hl]
 ·rw [decide_eq_false (by omega)]
  simp only [Out.bind,Bool.false_eq_true,if_false]
  have m:fo (.int (1-(F.length:Int))) (.int (R.length:Int))=some (.int (((1-F.length) % R.length:Nat):Int)):=by
   rw [gP (by omega),show (1-(F.length:Int))=((1-F.length:Nat):Int) by omega]
   rfl
  rw [pj (k:=(1-F.length) % R.length) (s:=.leaf) j1 (aT (aT (ay rfl) (ay rfl) KC.sub_int') (dz (d:=.int (R.length:Int)) (az j1 aj) (by simp)) m) (Nat.mod_lt _ hp)]
  unfold Ej;rw [if_neg hl]
noncomputable def Gv (w:Wd) (s:Sn) (F R:List Nat):Bool:=match s with
 | .bi _ a b=>wF (fun t=>(aX w a).contains t) (fun t=>(aX w b).contains t) (F++R)
 | .un .sa a=>(F++R).all fun t=>(aX w a).contains t
 | .un .aa a=>(F++R).all fun t=>(aX w a).contains t
 | .un _ a=>(aX w a).contains (Ej F R)
 | _=>false
theorem sf {w:Wd} {s:Sn} (ht:s.tm=true) {F R:List Nat} (h:R≠[]) (hl:F.length+R.length<=1000):dF [wy F R,.str s.w.t,cU (s.args.map (aX w))]=.ok ⟨.leaf,.bool (Gv w s F R)⟩:=by
 have i0:ah (ae 0) (eK (.int 0)) (aH 5 [wy F R,.str s.w.t,cU (s.args.map (aX w))])=.ok ⟨.leaf,av F⟩ (aH 5 [wy F R,.str s.w.t,cU (s.args.map (aX w))]):=by simp [aH]
 have i1:ah (ae 0) (eK (.int 1)) (aH 5 [wy F R,.str s.w.t,cU (s.args.map (aX w))])=.ok ⟨.leaf,av R⟩ (aH 5 [wy F R,.str s.w.t,cU (s.args.map (aX w))]):=by simp [aH]
 have ca:=lx i0 i1 rfl rfl (by simp;omega)
 rw [<-map_append] at ca;have hr:=rZ (F:=F) h
 refine aO ?_
 refine ax (Γ1:=[some ⟨.leaf,wy F R⟩,some ⟨.leaf,.str s.w.t⟩,some ⟨.leaf,cU (s.args.map (aX w))⟩,some ⟨.leaf,av (F++R)⟩,none]) (dS ca rfl (by simp [aH])) ?_
 have t1:aM ao (aA (bj false) (ae 1) (eK bZ)) [some ⟨.leaf,wy F R⟩,some ⟨.leaf,.str s.w.t⟩,some ⟨.leaf,cU (s.args.map (aX w))⟩,some ⟨.leaf,av (F++R)⟩,none]=.ok (decide (s.w=.su\/s.w=.au)) [some ⟨.leaf,wy F R⟩,some ⟨.leaf,.str s.w.t⟩,some ⟨.leaf,cU (s.args.map (aX w))⟩,some ⟨.leaf,av (F++R)⟩,none]:=gF (s:=.leaf) (aT (ay rfl) bg (vk _))
 have t2:aM ao (aA (bj false) (ae 1) (eK cN)) [some ⟨.leaf,wy F R⟩,some ⟨.leaf,.str s.w.t⟩,some ⟨.leaf,cU (s.args.map (aX w))⟩,some ⟨.leaf,av (F++R)⟩,none]=.ok (decide (s.w=.sa\/s.w=.aa)) [some ⟨.leaf,wy F R⟩,some ⟨.leaf,.str s.w.t⟩,some ⟨.leaf,cU (s.args.map (aX w))⟩,some ⟨.leaf,av (F++R)⟩,none]:=gF (s:=.leaf) (aT (ay rfl) bg (Ci _))
 have un:∀(a:Sn) (u:U5),s=.un u a->∀Γ:Ev,Γ[2]?=some (some ⟨.leaf,cU (s.args.map (aX w))⟩)->ah (ae 2) (eK (.int 0)) Γ=.ok ⟨.leaf,av (aX w a)⟩ Γ:=fun a u e Γ h2=>by
  rw [dI,ay h2,e];simp [bg,Out.bind,Sn.args]
 cases s with
 | yes=>simp [Sn.tm,Sn.w,Wr.ofS,Wr.ofA] at ht
 | mk c=>simp [Sn.tm,Sn.w,Wr.ofS,Wr.ofA] at ht
 | bi k a b=>
  have hk:k.w=.su\/k.w=.au:=by
   cases k with
   | and=>simp [Sn.tm,Sn.w,B4.w,Wr.ofS,Wr.ofA] at ht
   | or=>simp [Sn.tm,Sn.w,B4.w,Wr.ofS,Wr.ofA] at ht
   | su=>exact .inl rfl
   | au=>exact .inr rfl
  have e0:ah (ae 2) (eK (.int 0)) [some ⟨.leaf,wy F R⟩,some ⟨.leaf,.str (Sn.bi k a b).w.t⟩,some ⟨.leaf,cU ((Sn.bi k a b).args.map (aX w))⟩,some ⟨.leaf,av (F++R)⟩,none]=.ok ⟨.leaf,av (aX w a)⟩ [some ⟨.leaf,wy F R⟩,some ⟨.leaf,.str (Sn.bi k a b).w.t⟩,some ⟨.leaf,cU ((Sn.bi k a b).args.map (aX w))⟩,some ⟨.leaf,av (F++R)⟩,none]:=by simp [Sn.args]
  have e1:ah (ae 2) (eK (.int 1)) [some ⟨.leaf,wy F R⟩,some ⟨.leaf,.str (Sn.bi k a b).w.t⟩,some ⟨.leaf,cU ((Sn.bi k a b).args.map (aX w))⟩,some ⟨.leaf,av (F++R)⟩,none]=.ok ⟨.leaf,av (aX w b)⟩ [some ⟨.leaf,wy F R⟩,some ⟨.leaf,.str (Sn.bi k a b).w.t⟩,some ⟨.leaf,cU ((Sn.bi k a b).args.map (aX w))⟩,some ⟨.leaf,av (F++R)⟩,none]:=by simp [Sn.args]
  refine wB (cb t1 (fun _=>bf (bP (az (ay rfl) (az e0 (az e1 aj))) kI rfl rfl) rfl) fun z=>?_)
  exact absurd z (by rw [decide_eq_true (show (Sn.bi k a b).w=.su\/(Sn.bi k a b).w=.au from hk)];simp)
 | un k a=>
  have hn:¬((Sn.un k a).w=.su\/(Sn.un k a).w=.au):=by cases k<;>simp [Sn.w,U5.w]
  rw [decide_eq_false hn] at t1;refine ax (cb t1 nofun fun _=>rfl) ?_
  by_cases hk:k=.sa\/k=.aa
  ·have ha:(Sn.un k a).w=.sa\/(Sn.un k a).w=.aa:=by rcases hk with rfl | rfl<;>simp [Sn.w,U5.w]
   rw [decide_eq_true ha] at t2;have cm:aw .leaf 4 (aL (ae 3)) aI (aA (bj false) (ae 4) (ah (ae 2) (eK (.int 0)))) [some ⟨.leaf,wy F R⟩,some ⟨.leaf,.str (Sn.un k a).w.t⟩,some ⟨.leaf,cU ((Sn.un k a).args.map (aX w))⟩,some ⟨.leaf,av (F++R)⟩,none]=.ok ⟨.lst .leaf,.list ((F++R).map fun t=>.bool ((aX w a).contains t))⟩ [some ⟨.leaf,wy F R⟩,some ⟨.leaf,.str (Sn.un k a).w.t⟩,some ⟨.leaf,cU ((Sn.un k a).args.map (aX w))⟩,some ⟨.leaf,av (F++R)⟩,none]:=
    kU rm (F++R) (fun t=>⟨.leaf,.bool ((aX w a).contains t)⟩) (st:=true) (b7 (s:=.leaf) (ay rfl) rfl) (by simp) rfl (by simp;omega) fun t ht=>⟨aT (ay rfl) (un a k rfl _ rfl) zc,rfl⟩
   refine wB (cb t2 (fun _=>bf (dz (az cm aj) wV) rfl) nofun) |>.trans ?_
   rcases hk with rfl | rfl<;>rfl
  ·have ha:¬((Sn.un k a).w=.sa\/(Sn.un k a).w=.aa):=by cases k<;>simp_all [Sn.w,U5.w]
   rw [decide_eq_false ha] at t2;refine ax (cb t2 nofun fun _=>rfl) ?_
   refine (bf (aT (bP (az (ay rfl) (az bg aj)) hr rfl rfl) (un a k rfl _ rfl) zc) rfl).trans ?_
   cases k with
   | sa=>exact absurd (.inl rfl) hk
   | aa=>exact absurd (.inr rfl) hk
   | _=>rfl
theorem oh {w:Wd} (ok:w.Ok) {s:Sn} (hs:s.ok) (hd:s.dep<=24) {Γ:Ev} {j:Nat} (h0:Γ[0]?=some (some ⟨.leaf,w.enc⟩)) (h1:Γ[1]?=some (some ⟨.leaf,s.enc⟩)) (hj:j<Γ.length) (hj1:2<=j):aw .leaf j (eR (ag 1 aR (ab (ae 1) af))) aI (ag 2 cJ (ab (ae 0) (ab (ae j) af))) Γ=.ok ⟨.lst .leaf,cU (s.args.map (aX w))⟩ Γ:=by
 have pa:=HM s
 have e:=kU (s:=.leaf) (i:=j) (fi:=eR (ag 1 aR (ab (ae 1) af))) (fe:=ag 2 cJ (ab (ae 0) (ab (ae j) af))) (Γ:=Γ) Sn.enc s.args (fun a=>⟨.lst .leaf,av (aX w a)⟩) (st:=true) (by
  have q:ag 1 aR (ab (ae 1) af) Γ=.ok ⟨s.psh,.tuple (s.args.map Sn.enc)⟩ Γ:=bP (az (ay h1) aj) pa rfl rfl
  rw [Be,q];simp [Out.bind,dv]) hj rfl (by have:=s.args_le;omega) fun a ha=>⟨by
   have g0:(Γ.set j (some ⟨.leaf,a.enc⟩))[0]?=some (some ⟨.leaf,w.enc⟩):=by rw [getElem?_set_ne (by omega)];exact h0
   have c3:cJ [w.enc,a.enc]=_:=Ie ok 30 a (Sn.args_ok hs a ha) (by have:=yH ha;omega)
   exact bP (az (ay g0) (az (ay (getElem?_set_self hj)) aj)) c3 rfl rfl,rfl⟩
 rw [e];simp [map_map,Function.comp_def]
theorem rX {w:Wd} (ok:w.Ok) {s:Sn} (hs:s.ok) (h1:s.size<=200) (hd:s.dep<=24) (ht:s.tm=true) {F R:List Nat} (h:qr w F R):bH [w.enc,s.enc,wy F R]=.ok ⟨.leaf,.bool (Gv w s F R==s.w.ofS)⟩:=by
 refine aO ?_
 refine ax (tp (bP (az (ay rfl) aj) ok.check rfl rfl)) ?_
 refine ax (tp (bP (az (ay rfl) aj) (i9 hs h1 hd ht) rfl rfl)) ?_
 refine ax (tp (bP (az (ay rfl) (az (ay rfl) aj)) (jA ok h) rfl rfl)) ?_
 refine ax (Γ1:=[some ⟨.leaf,w.enc⟩,some ⟨.leaf,s.enc⟩,some ⟨.leaf,wy F R⟩,some ⟨.leaf,cU (s.args.map (aX w))⟩,none]) (dS (oh ok hs hd rfl rfl (by simp [aH]) (by omega)) rfl (by simp [aH])) ?_
 refine bf (aT (bP (az (ay rfl) (az (wZ rfl) (az (ay rfl) aj))) (sf ht h.ne h.len) rfl rfl) (aT (wZ rfl) bg (Cf _)) ?_) rfl
 cases Gv w s F R<;>cases s.w.ofS<;>kernel_rfl
end KC
namespace KQ
open PySem PySem.Spec L2 T PySem.SeqAt KC
open PyProof.Rows hiding St
noncomputable abbrev GP (w:Wd) (p c:Int) (b:Bool) (l:List (Option Nat)) (x5 x6 x7:Option PV):Ev:=[some ⟨.leaf,w.enc⟩,some ⟨.leaf,.int p⟩,some ⟨.leaf,.int c⟩,some ⟨.leaf,.bool b⟩,some ⟨.lst .leaf,eZ l⟩,x5,x6,x7]
end KQ
namespace KC
open PySem PySem.Spec L2 T PySem.SeqAt
open PyProof.Rows hiding St
noncomputable def JO (ch:List (Option Nat)):List Nat->Prop
 | a::b::r=>aZ ch a=some b/\JO ch (b::r)
 | _=>True
structure Kq (n:Nat) (ch:List (Option Nat)) (r:Nat) (F R:List Nat):Prop where
 ne:R≠[]
 lt:∀x∈F++R,x<n
 nd:(F++R).Nodup
 hd:(F++R).head?=some r
 fc:JO ch (F++R++R.take 1)
structure AI (n:Nat) (ch:List (Option Nat)) (r:Nat) (b:List Nat×Option Nat):Prop where
 nd:b.1.Nodup
 lt:∀x∈b.1,x<n
 hl:∀t,b.2=some t->t<n
 fc:JO ch b.1
 st:(b.1=[]/\b.2=some r)\/(b.1.head?=some r/\∃z,b.1.getLast?=some z/\b.2=aZ ch z)
end KC
namespace KC
structure Mor (n1:Nat) (st1:Nat->List Nat) (f:Nat->Nat) (n:Nat) (st:Nat->List Nat):Prop where
 cl:∀r t,t∈st1 r->t<n1
 lt:∀r,r<n1->f r<n
 up:∀r,r<n1->∀t∈st1 r,f t∈st (f r)
 dn:∀r,r<n1->∀c∈st (f r),∃t∈st1 r,f t=c
end KC
namespace KQ
open PySem PySem.Spec L2 T
open PyProof.Rows hiding St
open KC
noncomputable def kN:FS:=(ak (aB false 3 (ah (aU .leaf (ab (eK (.str "some next")) (ab (eK (.str "some until")) (ab (eK (.str "some always")) (ab (eK (.str "all next")) (ab (eK (.str "all until")) (ab (eK (.str "all always")) af))))))) (ag 3 aq (ab (ae 0) (ab (eK (.int 0)) (ab (eK (.int 6)) af))))))
  (ak (bW (aM ao (aA (Js false) (eK (.str "until")) (ae 3))) (aF (bE (ab (ae 3) (ab (ae 1) (ab (ae 2) af))))) aG)
  (aF (bE (ab (ae 3) (ab (ae 1) af))))))
noncomputable def kD:List PySem.PyData->Res:=aC 4 kN
noncomputable def nh:FS:=(ak (aB false 1 (bE (ab (eK (.str "mark")) (ab (ah (eK (.str "abc")) (ag 3 aq (ab (ae 0) (ab (eK (.int 3)) (ab (eK (.int 3)) af))))) af))))
  (ak (aB false 2 (bE (ab (eK (.str "mark")) (ab (ah (eK (.str "abc")) (ag 3 aq (ab (ae 0) (ab (eK (.int 4)) (ab (eK (.int 3)) af))))) af))))
  (ak (aB false 3 (aU .leaf (ab (ae 1) (ab (bE (ab (eK (.str "not")) (ab (ae 1) af))) (ab (bE (ab (eK (.str "and")) (ab (ae 1) (ab (bE (ab (eK (.str "not")) (ab (ae 2) af))) af)))) (ab (bE (ab (eK (.str "or")) (ab (ae 1) (ab (ae 2) af)))) (ab (bE (ab (eK (.str "some next")) (ab (ae 1) af))) (ab (bE (ab (eK (.str "yes")) af)) af))))))))
  (aF (ah (ia (ae 3) (aU .leaf (ab (bE (ab (eK (.str "all next")) (ab (ae 2) af))) (ab (ae 1) (ab (bE (ab (eK (.str "not")) (ab (bE (ab (eK (.str "yes")) af)) af))) af))))) (ag 3 aq (ab (ae 0) (ab (eK (.int 5)) (ab (eK (.int 9)) af)))))))))
noncomputable def b8:List PySem.PyData->Res:=aC 4 nh
noncomputable def d_law:FS:=(ak (aB false 1 (ag 3 m__law_world (ab (ae 0) (ab (eK (.int 0)) (ab (eK (.int 6)) af)))))
  (ak (DU 6 7 (ab (ag 1 b8 (ab (ag 2 aE (ab (ae 0) (ab (eK (.int 7)) af))) af)) (ab (ag 1 b8 (ab (ag 2 aE (ab (ae 0) (ab (eK (.int 8)) af))) af)) af)))
  (ak (aB false 2 (ag 3 kD (ab (ag 2 aE (ab (ae 0) (ab (eK (.int 9)) af))) (ab (ae 6) (ab (ae 7) af)))))
  (ak (aB false 3 (aA df (aA Ex (ah (ae 2) (eK (.int 0))) (eK (.int 4))) (eK (.str "some"))))
  (ak (aB false 4 (ag 2 fh (ab (ae 1) (ab (ae 2) af))))
  (ak (dA 5 (gQ (ab (bI bB (ab (ah (ae 1) (eK (.int 0))) af)) af))
  (ak (dA 8 (gQ (ab (eK (.int 2)) af))
  (ak (aB false 9 (ag 4 iO (ab (ae 1) (ab (ag 2 aE (ab (ae 0) (ab (aA aS (aA aS (eK (.int 10)) (aA hZ (eK (.int 2)) (ae 5))) (ae 8)) af))) (ab (ae 5) (ab (aA hZ (eK (.int 4)) (ae 8)) af))))))
  (bW (gC (aM bG (ag 3 bH (ab (ae 1) (ab (ae 2) (ab (ae 9) af))))) (aM ao (aA mG (aA (bj false) (ae 5) (ae 4)) (ae 3)))) (aF (eK (.bool false))) aG)))
  (bW (aM ao (aA df (aA (bj false) (ae 5) (ae 4)) (ae 3))) (ak (aB false 9 (ag 3 jT (ab (ae 1) (ab (ae 2) (ab (ae 5) af)))))
  (bW (aM ao (aA (mH true) (ag 3 bH (ab (ae 1) (ab (ae 2) (ab (ae 9) af)))) (eK (.bool true)))) (aF (eK (.bool false))) aG)) aG)))
  (aF (eK (.bool true)))))))))
noncomputable def m_law:List PySem.PyData->Res:=aC 10 d_law
end KQ
namespace KC
open PySem PySem.Spec L2 T PySem.SeqAt
open PyProof.Rows hiding St
structure Det (w:Wd):Prop where
 d:∀x,x<w.n->∃t,w.stp x=[t]
noncomputable def Sn.pl:Sn->Bool
 | .yes=>true | .mk _=>true | .un .not a=>a.pl | .bi .and a b=>a.pl&&b.pl | .bi .or a b=>a.pl&&b.pl | _=>false
structure Tmd (s a b:Sn):Prop where
 tm:s.tm=true
 ar:∀x∈s.args,x=a\/x=b
 sz:s.size<=a.size+b.size+1
 dp:s.dep<=max a.dep b.dep+1
 ok:a.ok->b.ok->s.ok
end KC
namespace KQ
open PySem PySem.Spec L2 T PySem.SeqAt KC
open PyProof.Rows hiding St
theorem Jz {c k:Int} {b:Nat} (h0:0<=k) (h1:k<=1000) (hb:1<=b) (hb2:b<=1000):∃r:Nat,r<b/\aq [.int c,.int k,.int (b:Int)]=.ok ⟨.leaf,rm r⟩:=by
 have d:=Ad (c:=c) (k:=k) (b:=(b:Int)) h0 h1 (by omega) (by omega)
 have i:=Dn (c:=c) (k:=k) (b:=(b:Int)) h0 h1 (by omega) (by omega)
 refine ⟨(gA c k b).toNat,by omega,?_⟩
 rw [d];show _=Res.ok ⟨.leaf,.int ((gA c k b).toNat:Int)⟩
 rw [Int.toNat_of_nonneg i.1]
end KQ
namespace KC
open PySem PySem.Spec L2 T PySem.SeqAt
open PyProof.Rows hiding St
theorem eV {w:Wd} (ok:w.Ok) {r:Nat} (hr:r<w.n):aN [w.enc,rm r]=.ok ⟨.leaf,.none⟩:=by
 have c:=HF (g:=zP) (g':=i2) (Γ:=aH 2 [w.enc,rm r]) (fa:=eK (.int 0)) (fb:=ae 1) (fc:=bI bB (ab (ah (ae 0) (eK (.int 0))) af)) (b:=decide ((0:Int)<=(r:Int))) (b':=decide ((r:Int)<(w.n:Int))) bg (ay (i:=1) rfl) rfl rfl (G7 ok rfl) rfl
 have t:=ji (gF (s:=.leaf) c)
 rw [decide_eq_true (show (0:Int)<=(r:Int) by omega),decide_eq_true (show (r:Int)<(w.n:Int) by omega)] at t
 exact fX (cb t nofun fun _=>rfl)
end KC
namespace KQ
open PySem PySem.Spec L2 T PySem.SeqAt KC
open PyProof.Rows hiding St
theorem vM {c:Int}:∃s:Sn,b8 [.int c]=.ok ⟨.leaf,s.enc⟩/\s.size<=4/\s.dep<=3/\s.ok:=by
 have m:∀k:Int,0<=k->k<=1000->∃mc:Nat,∃d,aq [.int c,.int k,.int 3]=.ok ⟨.leaf,.int d⟩/\eF (Str.ofString "abc").cps.toList d=some mc/\(⟨#[mc]⟩:Str)∈bp:=fun k h0 h1=>by
  have d:=Ad (c:=c) (k:=k) (b:=3) h0 h1 (by omega) (by omega)
  have i:=Dn (c:=c) (k:=k) (b:=3) h0 h1 (by omega) (by omega)
  obtain ⟨mc,e,h⟩:=nz i.1 i.2;exact ⟨mc,_,d,e,h⟩
 obtain ⟨m1,d1,e1,a1,l1⟩:=m 3 (by omega) (by omega)
 obtain ⟨m2,d2,e2,a2,l2⟩:=m 4 (by omega) (by omega)
 obtain ⟨j,hj,ej⟩:=Jz (c:=c) (k:=5) (b:=9) (by omega) (by omega) (by omega) (by omega)
 generalize hx:(⟨#[m1]⟩:Str)=x at l1
 generalize hy:(⟨#[m2]⟩:Str)=y at l2
 have s1:aB false 1 (bE (ab (eK (.str "mark")) (ab (ah (eK (.str "abc")) (ag 3 aq (ab (ae 0) (ab (eK (.int 3)) (ab (eK (.int 3)) af))))) af))) (aH 4 [.int c])=.nx [some ⟨.leaf,.int c⟩,some ⟨.leaf,(Sn.mk x).enc⟩,none,none]:=by
  rw [<-hx];exact dS (cj (az bg (az (GK bg (bP (az (ay rfl) (az bg (az bg aj))) e1 rfl rfl) GL a1) aj)) rfl rfl) rfl (by simp [aH])
 have s2:aB false 2 (bE (ab (eK (.str "mark")) (ab (ah (eK (.str "abc")) (ag 3 aq (ab (ae 0) (ab (eK (.int 4)) (ab (eK (.int 3)) af))))) af))) [some ⟨.leaf,.int c⟩,some ⟨.leaf,(Sn.mk x).enc⟩,none,none]=.nx [some ⟨.leaf,.int c⟩,some ⟨.leaf,(Sn.mk x).enc⟩,some ⟨.leaf,(Sn.mk y).enc⟩,none]:=by
  rw [<-hy];exact dS (cj (az bg (az (GK bg (bP (az (ay rfl) (az bg (az bg aj))) e2 rfl rfl) GL a2) aj)) rfl rfl) rfl (by simp)
 have pn:∀(i:Nat) (s:Sn) (Γ:Ev),Γ[i]?=some (some ⟨.leaf,s.enc⟩)->bE (ab (eK (.str "not")) (ab (ae i) af)) Γ=.ok ⟨.tup [.leaf,.leaf],(Sn.un .not s).enc⟩ Γ:=fun i s Γ h=>cj (az bg (az (ay h) aj)) rfl rfl
 have pu:∀(u:U5) (z:Str) (i:Nat) (s:Sn) (Γ:Ev),z=u.w.t->Γ[i]?=some (some ⟨.leaf,s.enc⟩)->bE (ab (eK (.str z)) (ab (ae i) af)) Γ=.ok ⟨.tup [.leaf,.leaf],(Sn.un u s).enc⟩ Γ:=fun u z i s Γ e h=>by rw [e];exact cj (az bg (az (ay h) aj)) rfl rfl
 have s3:∀(s:Sn) (j:Nat),aq [.int c,.int 5,.int ((9:Nat):Int)]=.ok ⟨.leaf,rm j⟩->eC 9 (j:Int)=some j->[(Sn.mk x).enc,(Sn.un .not (.mk x)).enc,(Sn.bi .and (.mk x) (.un .not (.mk y))).enc,(Sn.bi .or (.mk x) (.mk y)).enc,(Sn.un .sn (.mk x)).enc,Sn.yes.enc,(Sn.un .an (.mk y)).enc,(Sn.mk x).enc,(Sn.un .not .yes).enc][j]?=some s.enc->b8 [.int c]=.ok ⟨.leaf,s.enc⟩:=fun s j e ix at'=>by
  refine aO (ax s1 (ax s2 (ax (Γ1:=[some ⟨.leaf,.int c⟩,some ⟨.leaf,(Sn.mk x).enc⟩,some ⟨.leaf,(Sn.mk y).enc⟩,some ⟨.leaf,.list [(Sn.mk x).enc,(Sn.un .not (.mk x)).enc,(Sn.bi .and (.mk x) (.un .not (.mk y))).enc,(Sn.bi .or (.mk x) (.mk y)).enc,(Sn.un .sn (.mk x)).enc,Sn.yes.enc]⟩]) (dS (nG (s:=.leaf) (az (ay rfl) (az (pn 1 (.mk x) _ rfl) (az (cj (az bg (az (ay rfl) (az (pn 2 (.mk y) _ rfl) aj))) rfl rfl) (az (cj (az bg (az (ay rfl) (az (ay rfl) aj))) rfl rfl) (az (pu .sn _ 1 (.mk x) _ rfl rfl) (az (cj (az bg aj) rfl rfl) aj)))))) rfl rfl rfl) rfl (by simp)) ?_)))
  have ct:=lx (fa:=ae 3) (Γ:=[some ⟨.leaf,.int c⟩,some ⟨.leaf,(Sn.mk x).enc⟩,some ⟨.leaf,(Sn.mk y).enc⟩,some ⟨.leaf,.list [(Sn.mk x).enc,(Sn.un .not (.mk x)).enc,(Sn.bi .and (.mk x) (.un .not (.mk y))).enc,(Sn.bi .or (.mk x) (.mk y)).enc,(Sn.un .sn (.mk x)).enc,Sn.yes.enc]⟩]) (ay rfl) (nG (s:=.leaf) (az (pu .an "all next" 2 (.mk y) _ rfl rfl) (az (ay (i:=1) rfl) (az (cj (az (bg (d:=.str "not")) (az (cj (az (bg (d:=.str "yes")) aj) rfl rfl) aj)) rfl rfl) aj))) rfl rfl rfl) rfl rfl (by simp)
  exact bf (wA ct (bP (az (ay rfl) (az bg (az bg aj))) e rfl rfl) ix at' rfl) rfl
 match j,hj,ej with
 | 0,_,e=>exact ⟨.mk x,s3 _ 0 e rfl rfl,Nat.le_of_ble_eq_true rfl,Nat.le_of_ble_eq_true rfl,l1⟩
 | 1,_,e=>exact ⟨.un .not (.mk x),s3 _ 1 e rfl rfl,Nat.le_of_ble_eq_true rfl,Nat.le_of_ble_eq_true rfl,l1⟩
 | 2,_,e=>exact ⟨.bi .and (.mk x) (.un .not (.mk y)),s3 _ 2 e rfl rfl,Nat.le_of_ble_eq_true rfl,Nat.le_of_ble_eq_true rfl,l1,l2⟩
 | 3,_,e=>exact ⟨.bi .or (.mk x) (.mk y),s3 _ 3 e rfl rfl,Nat.le_of_ble_eq_true rfl,Nat.le_of_ble_eq_true rfl,l1,l2⟩
 | 4,_,e=>exact ⟨.un .sn (.mk x),s3 _ 4 e rfl rfl,Nat.le_of_ble_eq_true rfl,Nat.le_of_ble_eq_true rfl,l1⟩
 | 5,_,e=>exact ⟨.yes,s3 _ 5 e rfl rfl,Nat.le_of_ble_eq_true rfl,Nat.le_of_ble_eq_true rfl,trivial⟩
 | 6,_,e=>exact ⟨.un .an (.mk y),s3 _ 6 e rfl rfl,Nat.le_of_ble_eq_true rfl,Nat.le_of_ble_eq_true rfl,l2⟩
 | 7,_,e=>exact ⟨.mk x,s3 _ 7 e rfl rfl,Nat.le_of_ble_eq_true rfl,Nat.le_of_ble_eq_true rfl,l1⟩
 | 8,_,e=>exact ⟨.un .not .yes,s3 _ 8 e rfl rfl,Nat.le_of_ble_eq_true rfl,Nat.le_of_ble_eq_true rfl,trivial⟩
noncomputable abbrev G3 (xs:List D) (w:Wd) (s l r:Sn) (x5 x8 x9:Option PV):Ev:=[some ⟨.leaf,.list xs⟩,some ⟨.leaf,w.enc⟩,some ⟨.leaf,s.enc⟩,some ⟨.leaf,.bool s.w.ofS⟩,some ⟨.leaf,av (aX w s)⟩,x5,some ⟨.leaf,l.enc⟩,some ⟨.leaf,r.enc⟩,x8,x9]
noncomputable abbrev b1:FS:=(ak (aB false 9 (ag 4 iO (ab (ae 1) (ab (ag 2 aE (ab (ae 0) (ab (aA aS (aA aS (eK (.int 10)) (aA hZ (eK (.int 2)) (ae 5))) (ae 8)) af))) (ab (ae 5) (ab (aA hZ (eK (.int 4)) (ae 8)) af))))))
  (bW (gC (aM bG (ag 3 bH (ab (ae 1) (ab (ae 2) (ab (ae 9) af))))) (aM ao (aA mG (aA (bj false) (ae 5) (ae 4)) (ae 3)))) (aF (eK (.bool false))) aG))
noncomputable abbrev b2:FS:=(ak (dA 8 (gQ (ab (eK (.int 2)) af))
  b1)
  (bW (aM ao (aA df (aA (bj false) (ae 5) (ae 4)) (ae 3))) (ak (aB false 9 (ag 3 jT (ab (ae 1) (ab (ae 2) (ab (ae 5) af)))))
  (bW (aM ao (aA (mH true) (ag 3 bH (ab (ae 1) (ab (ae 2) (ab (ae 9) af)))) (eK (.bool true)))) (aF (eK (.bool false))) aG)) aG))
end KQ
namespace T
open PySem
def Rs (xs:Array Nat):Prop:=xs.toList.Pairwise (· < ·)
structure Tb (b:Bool) (t:SetTable):Prop where
 led:b=false->t.led=true
 rs:Rs t.place
 nd:t.dummies=#[]
open PySem.Spec L2
open PyProof.Rows hiding St
end T
namespace KC
open PySem PySem.Spec L2 T PySem.SeqAt
open PyProof.Rows hiding St
theorem Ak {Γ:Ev} {i:Nat} {f:F1} {s:Sh} {ds es:List D} (h:Γ[i]?=some (some ⟨.lst .leaf,.list ds⟩)) (hf:f Γ=.ok ⟨s,.list es⟩ Γ) (ho:s.isView=false) (hn:ds.length+es.length<=10000):gv i f Γ=.nx (Γ.set i (some ⟨.lst .leaf,.list (ds++es)⟩)):=by
 have hb:(10000:Nat)<=sizeLine:=by decide
 unfold gv sJ;rw [h];simp only [if_true,qW,hf]
 unfold yB dv;rw [h];have:ds.length+es.length<=sizeLine:=by omega
 simp only [ho,Bool.not_false,Bool.true_or,decide_eq_true this,Bool.and_self,if_true]
end KC
namespace T
open PySem PySem.Spec L2
open PyProof.Rows hiding St
abbrev It:=bL ⊕ List bL
section
variable {prog:Program} {w:World}
inductive wc (h:Heap):List It->List Value->Prop
 | nil:wc h [] []
 | v {k:bL} {u:Value} {ks:List It} {us:List Value}:(jI prog w).is k u=true->wc h ks us->wc h (.inl k::ks) (u::us)
 | t {l:List bL} {b:Addr} {ks:List It} {us:List Value}:IsTupleKey (jI prog w) h l b->wc h ks us->wc h (.inr l::ks) (.ref b::us)
variable (prog w)
variable {prog w}
def hI (w:World):It->Int
 | .inl k=>B7 w k
 | .inr l=>reduceHash (Builtin.Tuple.tupleHashOf (l.map (B7 w)))
variable {A:Around} {E:Value->Shared->Prop} {s:Shared}
def Ky:It->Bool
 | .inl _=>false
 | .inr _=>true
end
def Kx (K:Fg) (H:Hp):It->V->Prop
 | .inl k,v=>v=kV k
 | .inr l,v=>∃c,v=.ref c/\SqT K H c (l.map kV)
def K2 (K:Fg) (H:Hp) (ks:List It) (b:Addr):Prop:=∃vs,SqT K H b vs/\Paired (Kx K H) ks vs
abbrev KX (K:Fg) (H:Hp) (sh:List Bool):List (List It×V)->List (List It×Addr×Value)->Prop:=Paired fun p q=>p.1=q.1/\p.1.map Ky=sh/\K2 K H p.1 q.2.1/\RelV p.2 q.2.2
def Jm (k:List It) (acc:List (List It)):Bool:=acc.any fun a=>decide (a=k)
def EC (acc:List (List It)) (k:List It):List (List It):=if Jm k acc then acc else acc++[k]
def KF (ks:List (List It)):List (List It):=ks.foldl EC []
def Kg (k:List It):List (List It)->Nat
 | []=>0
 | a::r=>if a=k then 0 else Kg k r+1
theorem Es {A B:Bool->Hp->Prop} {H:Hp} {σ:St} (h:A true H):pv σ H fun b H=>if b=true then A b H else B b H:=by
 show (if true=true then A true H else B true H)
 rw [if_pos rfl];exact h
noncomputable def Jj (ks:List (List It)):List Nat:=ks.map fun k=>Kg k (KF ks)
end T
namespace KC
open PySem PySem.Spec L2 T PySem.SeqAt
open PyProof.Rows hiding St
noncomputable def zH (w:Wd) (r:Nat):Int:=if own w 0 r then 0 else 1
noncomputable def Gp (w:Wd) (o:Bool) (r:Nat):List T.It:=.inr ((w.mks r).map .inr)::if o then [.inl (.inl (zH w r))] else []
section
variable {w:Wd}
theorem BH (ok:w.Ok) {Γ:Ev} {i:Nat} {fb:F1} {s:Sh} {r:Nat} (h0:Γ[i]?=some (some ⟨.leaf,w.enc⟩)) (hb:fb Γ=.ok ⟨s,rm r⟩ Γ) (hr:r<w.n):ah (ah (ae i) (eK (.int 0))) fb Γ=.ok ⟨.leaf,.int (zH w r)⟩ Γ:=by
 obtain ⟨o,ho,e,h⟩:=ok.o_at hr;have:zH w r=o:=by
  unfold zH;rw [h 0];rcases ho with rfl | rfl<;>rfl
 rw [this,dI,dI,ay h0];simp only [Out.bind,bg,Wd.enc,ez,lQ,zC]
 rw [hb];simp only [lR]
 rw [e]
theorem BX (ok:w.Ok) {Γ:Ev} {i:Nat} {fb:F1} {s:Sh} {r:Nat} (h0:Γ[i]?=some (some ⟨.leaf,w.enc⟩)) (hb:fb Γ=.ok ⟨s,rm r⟩ Γ) (hr:r<w.n):ah (ah (ae i) (eK (.int 1))) fb Γ=.ok ⟨.leaf,cG (w.mks r)⟩ Γ:=by
 rw [dI,dI,ay h0];simp only [Out.bind,bg,Wd.enc,ez,lQ,D1]
 rw [hb];simp only [lR]
 rw [ok.at1 hr]
noncomputable def nA (N:List Nat) (r:Nat):Nat:=N.getD r 0
structure CN (w:Wd) (o:Bool) (N:List Nat) (m:Nat):Prop where
 len:N.length=w.n
 m1:1<=m
 mn:m<=w.n
 lt:∀r,r<w.n->nA N r<m
 onto:∀c,c<m->∃r,r<w.n/\nA N r=c
 look:∀i j,i<w.n->j<w.n->nA N i=nA N j->Gp w o i=Gp w o j
 st:∀i j,i<w.n->j<w.n->nA N i=nA N j->∀t∈w.stp i,∃t'∈w.stp j,nA N t=nA N t'
structure GdN (w:Wd) (o:Bool) (N:List Nat):Prop where
 ks:∃ks:List (List T.It),ks.length=w.n/\N=Jj ks
 look:∀i j,i<w.n->j<w.n->nA N i=nA N j->Gp w o i=Gp w o j
end
section
variable {w:Wd} {o:Bool} {N:List Nat} {m:Nat}
theorem yi (ok:w.Ok) {r:Nat} (hr:r<w.n):w.mks r∈w.m:=by
 unfold Wd.mks;rw [getD_eq_getElem?_getD,getElem?_eq_getElem (by rw [ok.lm];exact hr)]
 exact getElem_mem _
theorem pC (ok:w.Ok) {Γ:Ev} {i:Nat} {fb:F1} {s:Sh} {r:Nat} (h0:Γ[i]?=some (some ⟨.leaf,w.enc⟩)) (hb:fb Γ=.ok ⟨s,rm r⟩ Γ) (hr:r<w.n):ah (ah (ae i) (eK (.int 2))) fb Γ=.ok ⟨.leaf,av (w.stp r)⟩ Γ:=by
 rw [dI,dI,ay h0];simp only [Out.bind,bg,Wd.enc,ez,lQ,zB]
 rw [hb];simp only [lR]
 rw [ok.at2 hr]
end
end KC
namespace T
open PySem PySem.Spec L2
open PyProof.Rows hiding St
noncomputable def ff (h:Heap) (L:Addr):List (Addr×Obj):=(List.range h.objs.size).filterMap fun b=>if b=L then none else (h.get? b).map fun o=>(b,o)
theorem mem_objsBut {h:Heap} {L b:Addr} {o:Obj}:(b,o)∈ff h L↔b≠L/\h.get? b=some o:=by
 unfold ff;rw [List.mem_filterMap];constructor
 ·rintro ⟨c,_,e⟩
  split at e
  ·cases e
  ·rename_i hc
   obtain ⟨o',h1,h2⟩:=Option.map_eq_some_iff.mp e
   cases h2;exact ⟨hc,h1⟩
 ·rintro ⟨h1,h2⟩
  exact ⟨b,List.mem_range.mpr (Heap.lt_size h2),by rw [if_neg h1,h2];rfl⟩
noncomputable def noHeap:Heap:={ objs:=#[] }
theorem iN (b:Addr):noHeap.get? b=none:=Heap.get?_none_of_le (Nat.zero_le _)
noncomputable def zD (K:Fg):List V->Hp->VK->Prop:=fun xs H Q=>∃(p:Addr) (vs:List V) (ls:List (List V)),xs=[.ref p]/\SqL K H p vs/\vs.length=ls.length/\(∀(i:Nat) v l,vs[i]?=some v->ls[i]?=some l->∃a,v=.ref a/\SqL K H a l)/\0<vs.length /\
 ∀(i:Nat) v l,vs[i]?=some v->ls[i]?=some l->(∀(j:Nat) l',ls[j]?=some l'->l.length<=l'.length/\(j<i->l.length<l'.length))->Q v H
theorem yd {h:Heap} {L:Addr} {m m':Str->Option Value} (a:h.Ns L m) (b:h.Ns L m'):m=m':=by
 obtain ⟨o,es,ep,h1,h2,_,h3⟩:=a;obtain ⟨o',es',ep',g1,g2,_,g3⟩:=b;rw [h1] at g1
 cases g1;rw [h2] at g2
 cases g2;funext x
 rw [<-h3,<-g3]
theorem rR {X:Cx} {pins:List (Addr×Obj)} {σ:St} {H:Hp} {s:Shared} {h':Heap} {t':Nat} {m:Str->Option Value} (I:L2.Inv X pins σ H s) (hn:s.heap.Ns X.env.locals m) (k:∀b o,b≠X.env.locals->s.heap.get? b=some o->h'.get? b=some o) (hn':h'.Ns X.env.locals m):L2.Inv X pins σ H { s with heap:=h',toks:=t' }:=by
 have nit:∀b u,H b=some u->b≠X.env.locals:=fun b u e z=>by rw [z,I.free] at e;cases e
 refine I.step (g':=s.gens) (d':=s.drawn) (ch:=[]) (fun _ z=>nomatch z) (fun b o hb _ _ e _=>k b o hb e) (fun b o hb _ _ e _=>⟨o.slots,k b o hb e⟩) (fun _ _ _ _ n=>n)
  (fun b o _ e=>?_) (fun _ _ e=>e) (fun _ _ _ e=>e) (fun b ps e=>⟨#[],by rw [e];simp⟩) (fun m' hm=>by rw [<-yd hn hm];exact hn') (fun b u e=>?_) I.bare
 ·by_cases hb:b=X.env.locals
  ·subst hb
   obtain ⟨o',_,_,h1,_⟩:=hn'
   exact ⟨o',h1⟩
  ·exact ⟨o,k b o hb e⟩
 ·refine (I.hok b u e).stay (fun c v hc q=>k c v ?_ q) (fun _ q=>q) fun _ _ q=>q
  rcases hc with z | z
  ·rw [z];exact nit b u e
  ·exact nit c _ z
theorem xQ {X:Cx} {e:Expr} {ta:TA} {p p2 kpos pos:Pos} (hc:X.calm=true) (hg:Gl X "min") (hm:X.mg "min"=none) (hg2:Gl X "len") (hm2:X.mg "len"=none) (ha:PA X [e] ta) (hs:starEach [e] X.env=[(false,eval e X.env)]) :
  PE X (.Call (.Name "min" p) [e] [⟨some "key",.Name "len" p2,kpos⟩] pos) (zx (zD X.K) ta):=by
 intro pins s σ H Q I h;refine wpAny_Call_Name_kw (wu I hg hm EN ?_)
 refine PyProof.Rows.callWith_kw (bw (ha pos pins s σ H _ I h) fun us s1 ⟨xs,H1,I1,r1,q1⟩=>?_) (by rw [hs];rfl) (by rw [hs];rfl) rfl rfl
 show wpAny _ _ (evalAll [do let v <-eval (.Name "len" p2) X.env;standAt pos;pure v]) _ _ s1
 refine wpAny_evalAll_cons (wpAny_bind (wu I1 hg2 hm2 zT (wpAny_bind (wpAny_standAt (wpAny_pure (wpAny_evalAll_nil ?_))))))
 obtain ⟨a,vs,ls,rfl,hq,hl,hel,hne,q⟩:=q1;obtain ⟨u,rfl,ru⟩:=vals1 r1
 cases ru;obtain ⟨its,rv,pl,hz⟩:=I1.list hq;obtain ⟨m,hns,hlook⟩:=I1.loc;have hlen:vs.length=its.length:=rv.length
 have neL:∀{b:Addr} {xs:Array Value},s1.heap.IsList b xs->b≠X.env.locals:=fun {b xs} h z=>by
  obtain ⟨o,h1,_,n,h2⟩:=h;obtain ⟨o',es,ep,g1,g2,_⟩:=hns;rw [z,g1] at h1
  cases h1;rw [g2] at h2
  cases h2
 have mv:∀{h:Heap} {b:Addr} {xs:Array Value},News noHeap X.env.locals h (ff s1.heap X.env.locals)->s1.heap.IsList b xs->h.IsList b xs:=fun {h b xs} N hl=>by
  have hb:=neL hl
  obtain ⟨o,h1,h2⟩:=hl;exact ⟨o,(N (b,o) (mem_objsBut.mpr ⟨hb,h1⟩)).1,h2⟩
 have F0:Fr noHeap X.env.locals s1.heap m:=⟨hns,(fun b o e=>by rw [iN] at e;cases e),Nat.zero_le _⟩
 have N0:News noHeap X.env.locals s1.heap (ff s1.heap X.env.locals):=fun p hp=>⟨(mem_objsBut.mp hp).2,(mem_objsBut.mp hp).1,iN _⟩
 show wpAny _ _ (call (.builtin "min") [.ref a] [(Str.ofString "key",.builtin "len")]) _ _ s1
 refine kmb_min (h₀:=noHeap) (L:=X.env.locals) (m:=m) (news:=ff s1.heap X.env.locals) (vs:=its) (fun i=>((ls.getD i []).length:Int)) (I1.ok.hd hc) F0 N0 (fun h _ N=>mv N pl.isList) (by omega) (fun i v hv h tk own F N=>?_) fun i v h' tk' hv hb F N=>?_
 ·have hi:i<vs.length:=by have:=(List.getElem?_eq_some_iff.mp hv).1;omega
  have hi2:i<ls.length:=by omega
  obtain ⟨u,hu,ru⟩:=rv.get (getElem?_eq_getElem hi)
  rw [hv] at hu
  cases hu;obtain ⟨b,eb,hb⟩:=hel i vs[i] ls[i] (getElem?_eq_getElem hi) (getElem?_eq_getElem hi2)
  rw [eb] at ru
  cases ru;obtain ⟨its2,rv2,pl2,hz2⟩:=I1.list hb;have hl2:=rv2.length
  have hN:News noHeap X.env.locals h (ff s1.heap X.env.locals):=fun p hp=>N p (mem_append_left _ hp)
  have hn63:=zb
  refine Calls.call_len_list (mv hN pl2.isList) (by simp only [size_toArray];omega) ⟨h,_,tk+1,rfl,?_,F,N⟩
  rw [getD_eq_getElem?_getD,getElem?_eq_getElem hi2,size_toArray,<-hl2];rfl
 ·have hi:i<vs.length:=by have:=(List.getElem?_eq_some_iff.mp hv).1;omega
  have hi2:i<ls.length:=by omega
  obtain ⟨u,hu,ru⟩:=rv.get (getElem?_eq_getElem hi)
  rw [hv] at hu
  cases hu;refine ⟨vs[i],H1,rR I1 hns (fun b o hb e=>(N (b,o) (mem_objsBut.mpr ⟨hb,e⟩)).1) F.ns,ru,q i _ ls[i] (getElem?_eq_getElem hi) (getElem?_eq_getElem hi2) fun j l' hj=>?_⟩
  have hj2:=(List.getElem?_eq_some_iff.mp hj).1
  have this:=hb j (by omega)
  rw [getD_eq_getElem?_getD,getElem?_eq_getElem hi2,getD_eq_getElem?_getD,hj] at this;have this:(ls[i].length:Int)<=(l'.length:Int)/\(j<i->(ls[i].length:Int)<(l'.length:Int)):=this
  exact ⟨by omega,fun z=>by have:=this.2 z;omega⟩
abbrev C0 (x:Str) (s:Stmt) (ps:List Str) (us:List Value):Prop:=∀(kV doc pm:Value) (an:Option Addr) (cdv ct:Value),bindArgs (PySem.W.fnOf x x (C5 s) (nK s) (fH s) .none kV doc pm an cdv ct) ⟨us,[]⟩=pure (ps.zip us)
abbrev wO (x:Str) (s:Stmt) (ps:List Str):Prop:=∀us:List Value,us.length=ps.length->C0 x s ps us
section
variable {x:Str} {s:Stmt} {p1 p2 p3 p4 p5 p6:Str}
theorem sE (h:∀a,C0 x s [p1] [a]:=by exact fun _ _ _ _ _ _ _=>rfl):wO x s [p1]:=fun us hl=>match us,hl with | [_],_=>h _
theorem j6 (h:∀a b,C0 x s [p1,p2] [a,b]:=by exact fun _ _ _ _ _ _ _ _=>rfl):wO x s [p1,p2]:=fun us hl=>match us,hl with | [_,_],_=>h _ _
theorem nt (h:∀a b c,C0 x s [p1,p2,p3] [a,b,c]:=by exact fun _ _ _ _ _ _ _ _ _=>rfl):wO x s [p1,p2,p3]:=fun us hl=>match us,hl with | [_,_,_],_=>h _ _ _
theorem Gr (h:∀a b c d,C0 x s [p1,p2,p3,p4] [a,b,c,d]:=by exact fun _ _ _ _ _ _ _ _ _ _=>rfl):wO x s [p1,p2,p3,p4]:=fun us hl=>match us,hl with | [_,_,_,_],_=>h _ _ _ _
theorem KG (h:∀a b c d e,C0 x s [p1,p2,p3,p4,p5] [a,b,c,d,e]:=by exact fun _ _ _ _ _ _ _ _ _ _ _=>rfl):wO x s [p1,p2,p3,p4,p5]:=fun us hl=>match us,hl with | [_,_,_,_,_],_=>h _ _ _ _ _
end
def Ft (K:Fg) (mg:Str->Option Value) (n:Str) (s:Stmt):Prop:=∃f fd,mg n=some (.ref f)/\Fun K n n s f fd
theorem ft {K:Fg} {h:Heap} {mg:Str->Option Value} {n:Str} {s:Stmt} {f:Addr} {od an:Option Addr} {sl:Array (Option Value)} {oc kV dc pm cd ct:Value} (X:K.In h) (G:h.Ns mainGlobals mg) (a:PySem.W.nsIn K mainGlobals n=some (some (.ref f))) (l:K.lookup f=some ⟨oc,od,.func (PySem.W.fnOf n n (C5 s) (nK s) (fH s) .none kV dc pm an cd ct),sl⟩) (c:PySem.W.codeIn K cd n=true) (k:PySem.W.keepIn K (.ref f)=true):Ft K mg n s:=⟨f,_,PySem.W.mg_of X G a,Cw (st:=s) l c k⟩
theorem Dl {K:Fg} {x:Str} {st:Stmt} {f:Addr} {fd:FuncData} {ps:List Str} (F:Fun K x x st f fd) (b:wO x st ps):Binds K fd ps []:=F.binds fun kV doc pm an cdv ct us hl=>b us hl kV doc pm an cdv ct
def BY (vs cs:List Nat):List Nat:=vs.filter fun i=>!cs.contains i
def fB (N gl ps:List Str) (vs cs gs:List Nat) (s:Stmt):Bool:=j3 N gl vs cs vs (BY vs cs) gs (fH s)&&u9 N gl&&(!(fH s).isCoroutine&&!(fH s).isGenerator&&decide (N.take ps.length=ps)&&(ps.all fun x=>ze (fH s) [.local,.cell] (some x))&&((fH s).names.all fun y=>!decide (y.2=.free)))
theorem EA {N gl ps:List Str} {vs cs gs:List Nat} {s:Stmt} (h:fB N gl ps vs cs gs s=true):j3 N gl vs cs vs (BY vs cs) gs (fH s)=true/\u9 N gl=true/\cy N ps (fH s):=by
 unfold fB at h;simp only [Bool.and_eq_true,decide_eq_true_eq,all_eq_true,Bool.not_eq_true',decide_eq_false_iff_not] at h
 obtain ⟨⟨h1,h2⟩,⟨⟨⟨h3,h4⟩,h5⟩,h6⟩,h7⟩:=h;refine ⟨h1,h2,(G9 h1).kind,h3,h4,(u7 h2).1,h5,fun x hx=>?_,h7⟩
 obtain ⟨k,hk,q⟩:=C8 (h6 x hx);simp only [mem_cons,not_mem_nil,or_false] at hk
 rcases hk with rfl | rfl
 ·exact .inl q
 ·exact .inr q
structure In (p:Fg->(Str->Option Value)->Prop) (X:Cx) (P:Program) (w:World) (K:Fg) (mg:Str->Option Value) (base:Heap) (k:Nat):Prop where
 e1:X.prog=P
 e2:X.w=w
 e3:X.K=K
 e4:X.mg=mg
 e5:X.base=base
 rm:Room k X.A
 pp:p K mg
section
variable {p:Fg->(Str->Option Value)->Prop} {X Y:Cx} {P:Program} {w:World} {K:Fg} {mg:Str->Option Value} {base:Heap} {j k n:Nat} {x:Str} {s:Stmt} {ps:List Str} {g:FS} {den:List PySem.PyData->Res} {ss:List Sh}
theorem In.r (I:In p X P w K mg base k):Rm X:=I.rm.units
theorem In.e (I:In p X P w K mg base k):p X.K X.mg:=by rw [I.e3,I.e4];exact I.pp
theorem In.c (I:In p X P w K mg base k) (h:DefOk P w K mg base j x n den) (hj:decide (j<=k)=true:=by first | exact rfl | exact decide_eq_true (by omega)):wN X x n den:=by
 obtain ⟨rfl,rfl,rfl,rfl,rfl,r,_⟩:=I;exact h.cal r hj
theorem Fx.i (F:Fx X Y) (I:In p X P w K mg base k):In p Y P w K mg base k:=⟨F.prog.trans I.e1,F.w.trans I.e2,F.K.trans I.e3,F.mg.trans I.e4,F.base.trans I.e5,by rw [F.A];exact I.rm,I.pp⟩
abbrev Bd (p:Fg->(Str->Option Value)->Prop) (P:Program) (w:World) (K:Fg) (mg:Str->Option Value) (base:Heap) (k:Nat) (N gl:List Str) (vs cs gs:List Nat) (s:Stmt) (g:FS):Prop:=∀X:Cx,Cp X N gl vs cs vs (BY vs cs) gs->In p X P w K mg base k->PassesOwn (model X.prog X.w) X.A X.env X.xe->TQ.Q (PSs X (nK s) (tS X.K W0 g))
theorem Kw (F:Ft K mg x s) (b:wO x s ps):DefOk P w K mg base j x ps.length (fun _=>.no):=by
 obtain ⟨f,fd,hm,F⟩:=F;exact ⟨f,fd,ps,Ez,hm,F.kp,Dl F b⟩
theorem Kf {f:Addr} {fd:FuncData} (F:Fun K x x s f fd) (e:p K mg) (N gl:List Str) (vs cs gs:List Nat) (h:fB N gl ps vs cs gs s=true) (hb:Bd p P w K mg base k N gl vs cs gs s g):eD P w K mg base kX (k+1) f fd ps (qI K ps.length (aC N.length g)):=by
 obtain ⟨h1,h2,h3⟩:=EA h;exact Cy F h3 fun cdv A outer s H E hr=>(hb _ (Cp.fn h1 h2) ⟨rfl,rfl,rfl,rfl,rfl,hr,e⟩ PassesOwn.never).p
theorem mk (F:Ft K mg x s) (e:p K mg) (ps:List Str) (b:wO x s ps) (rs gl:List Str) (vs cs gs:List Nat) (hb:Bd p P w K mg base k (ps++rs) gl vs cs gs s g) (h:fB (ps++rs) gl ps vs cs gs s=true:=by kernel_rfl):DefOk P w K mg base (k+1) x ps.length (aC (ps++rs).length g):=by
 obtain ⟨f,fd,hm,F⟩:=F;exact ⟨f,fd,ps,Kf F e _ gl vs cs gs h hb,hm,F.kp,Dl F b⟩
theorem Kv {fa:Addr} (F:Ft K mg x s) (e:p K mg) (q:Str) (b:wO x s [q]) (hfa:mg x=some (.ref fa)) (rs gl:List Str) (vs cs gs:List Nat) (hb:∀base,Bd p P w K mg base k ([q]++rs) gl vs cs gs s g) (h:fB ([q]++rs) gl [q] vs cs gs s=true:=by kernel_rfl) :
  ∃fd:FuncData,(∀(s:Shared) (v:Value),BindsTo s fd ⟨[v],[]⟩ [(q,v)])/\∀base:Heap,K.In base->base.Ns mainGlobals mg->eD P w K mg base kX (k+1) fa fd [q] (qI K 1 (aC ([q]++rs).length g)):=by
 obtain ⟨f,fd,hm,F⟩:=F;have e':=hfa.symm.trans hm
 cases e'
 refine ⟨fd,fun s v=>?_,fun base _ _=>Kf F e _ gl vs cs gs h (hb base)⟩
 obtain ⟨oc,od,kV,doc,pm,an,cdv,ct,osl,rfl,lk,hcd⟩:=F.ex;exact .of_eq (b [v] rfl kV doc pm an cdv ct)
section
variable {h:Heap} {a:Addr} {dd:Option Addr} {its:Array Value} {n:Nat} {sl:Array (Option Value)} {ds:List PySem.PyData} (KX:K.In h) (G:h.Ns mainGlobals mg)
include KX G
theorem gn (z:PySem.W.nsIn K mainGlobals x=some none):mg x=none:=PySem.W.mg_none_of KX G z
theorem gi {i:Int} {t:Tok} (z:PySem.W.nsIn K mainGlobals x=some (some (.int i t))):gj K mg x (.int i):=yR (PySem.W.mg_of KX G z)
theorem gt (z:PySem.W.nsIn K mainGlobals x=some (some (.ref a))) (l:K.lookup a=some ⟨.type "tuple",dd,.seq its n,sl⟩) (c:CK its ds=true):gj K mg x (.tuple ds):=yP (PySem.W.mg_of KX G z) l c
theorem gd {es:Array DictEntry} {ep:Nat} {tab:List (Str×Int)} (z:PySem.W.nsIn K mainGlobals x=some (some (.ref a))) (l:K.lookup a=some ⟨.type "dict",none,.dict es ep,#[]⟩) (c:tP a es tab=true):qt K mg x tab:=yQ (PySem.W.mg_of KX G z) l c
end
theorem walkG {m:List PySem.PyData->Res} {l:PySem.W.OpenLaw} {q:Program} {loose:List Str} {XP:(Str->Option Value)->Heap->Prop} {YP:World->Heap->Prop} {d:DefRec} {K:Params->Fg} (lt:∀ns:List Int,ns.length<=63->m [.list (ns.map .int)]=.ok ⟨.leaf,.bool true⟩) (hr:Room j callerA) (hn:l.most=some 63) (hdf:d.params.defaults=[])
  (hY:∀(w:World) (h:Heap),YP w h->(K w.params).In h)
  (F:∀(w:World) (mg:Str->Option Value) (fa:Addr) (h:Heap),(K w.params).In h->h.Ns mainGlobals mg->mg d.name=some (.ref fa) ->
   ∃fd:FuncData,(∀(s:Shared) (u:Value),BindsTo s fd ⟨[u],[]⟩ [("script",u)])/\∀base:Heap,(K w.params).In base->base.Ns mainGlobals mg->eD l.prog w (K w.params) mg base kX j fa fd ["script"] (qI (K w.params) 1 m)) :
  PySem.W.WalkO q loose XP YP l.row.toRowW d [] (fun f vs=>PySem.call f vs):=
 L2.walk_of (n:=63) (k:=j) (x := "script") (CX:=fun _=>kX) (sp:=fun w=>qI (K w.params) 1 m) hn (by decide) hdf hr hY F (fun _ _ a ns hl _ hS=>B0 (lt ns hl) hS) fun _ _ _ _ _ z=>z
end
end T
namespace TQ
open PySem PySem.Spec L2 T
open PyProof.Rows hiding St
section
variable {X:Cx} {N gl:List Str} {vs cs ls lo gs:List Nat} {W:XW} {a b c e:Expr} {es:List Expr} {pos p:Pos} {fa fb fc:F1} {fl:FL} {ga gb:FB} {g1 g2 g:FS}
theorem ai (S:Cp X N gl vs cs ls lo gs) (i:Nat) {x:Str} (hN:N[i]?=some x:=by exact rfl) (hv:vs.contains i=true:=by exact rfl):Q (PE X (.Name x pos) (tE X.K W (ae i))):=w_cv S i hN hv
theorem aQ (ha:Q (PE X e (tE X.K W fa))) (hr:Q (PA X es (tA X.K W fl))) (hs:zd e=false:=by exact rfl):Q (PA X (e::es) (tA X.K W (ab fa fl))):=jJ ha hr (dw hs)
theorem aJ (ha:Q (PE X e (tE X.K W fa))) (hs:zd e=false:=by exact rfl):Q (PA X [e] (tA X.K W (ab fa af))):=jJ ha sM (dw hs)
theorem bu (ha:Q (PE X a (tE X.K W fa))) (hb:Q (PE X b (tE X.K W fb))) (hs:Dq b:=by exact fun _ _=>rfl):Q (PE X (.Subscript a b pos) (tE X.K W (ah fa fb))):=w_de_idx ha hb hs
theorem bC {x:Str} {n:Nat} {den:List PySem.PyData->Res} (S:Cp X N gl vs cs ls lo gs) (j:Nat) (C:wN X x n den) (ha:Q (PA X (e::es) (tA X.K W fl))) (hj:gl[j]?=some x:=by exact rfl) (hg:gs.contains j=true:=by exact rfl) (he:zd e=false:=by exact rfl) (hpl:(backTo pos (starEach es X.env)).any (·.1)=false:=by exact rfl):Q (PE X (.Call (.Name x p) (e::es) [] pos) (tE X.K W (ag n den fl))):=Iw S j hj hg C ha (dw he) hpl
theorem cT (S:Cp X N gl vs cs ls lo gs) (own:Bool) (i:Nat) {x:Str} {pos':Pos} (ha:Q (PE X a (tE X.K W fa))) (hi:N[i]?=some x:=by exact rfl) (hl:ls.contains i=true:=by exact rfl) (hs:swapsWith a (some (.Name x pos')) pos.line X.env=pure false:=by exact rfl):Q (PS X (.Assign [.Name x pos'] a pos) (tS X.K W (aB own i fa))):=tG S own i hi hl hs ha
theorem jk (S:Cp X N gl vs cs ls lo gs) (j:Nat) (hm:X.mg "len"=none) (ha:Q (PA X (e::es) (tA X.K W fl))) (hj:gl[j]?=some ("len":Str):=by exact rfl) (hg:gs.contains j=true:=by exact rfl) (he:zd e=false:=by exact rfl) (hpl:(backTo pos (starEach es X.env)).any (·.1)=false:=by exact rfl):Q (PE X (.Call (.Name "len" p) (e::es) [] pos) (tE X.K W (bI bB fl))):=tK S j hj hg hm ha (dw he) hpl
theorem cZ {op:CmpOp} {r:R2} {g:PySem.PyData->PySem.PyData->Option PySem.PyData} (k:Ck X op r g) (ha:Q (PE X a (tE X.K W fa))) (hb:Q (PE X b (tE X.K W fb))) (hm:behindInMarks op b=false:=by with_unfolding_all rfl):Q (PT X (.Compare a [op] [b] pos) (tT X.K W (aM ao (aA g fa fb)))):=Ir k ha hb hm
theorem gX {op:CmpOp} {r:R2} {g:PySem.PyData->PySem.PyData->Option PySem.PyData} (k:Ck X op r g) (ha:Q (PE X a (tE X.K W fa))) (hb:Q (PE X b (tE X.K W fb))) (hm:behindInMarks op b=false:=by with_unfolding_all rfl):Q (PE X (.Compare a [op] [b] pos) (tE X.K W (aA g fa fb))):=Iv k ha hb hm
theorem bU (ha:Q (PE X a (tE X.K W fa))):Q (PSs X [.Return (some a) pos] (tS X.K W (aF fa))):=eY (tw ha)
theorem iz {scope:Scope} {x:Str} {px:Pos} {iter elt:Expr} {ifs:List Expr} {fi:FI} {fe:F1} {fc:FB} (vs' cs' gs':List Nat) (S:Cp X N gl vs cs ls lo gs) (i:Nat) (hi':Q (PI X (.Name x px) iter (tI X.K W fi))) (hc:sQ X N gl vs' cs' [i] [] gs' fun Y=>Q (PF Y ifs (tT Y.K W0 fc))) (he:sQ X N gl vs' cs' [i] [] gs' fun Y=>Q (PE Y elt (tE Y.K W0 fe))) (hx:N[i]?=some x:=by exact rfl) (h1:jf N i cs scope=true:=by kernel_rfl) (h2:j3 N gl vs' cs' [i] [] gs' scope=true:=by kernel_rfl) (hs:∀x,foldedSetIterable iter X.env x=pure x:=by exact fun _=>rfl):Q (PE X (.ListComp elt [⟨.Name x px,iter,ifs,0⟩] scope pos) (tE X.K W (aw .leaf i fi fc fe))):=Iu S .leaf i hx h1 h2 hi' hc he hs
end
end TQ
namespace T
open PySem PySem.Spec L2
open PyProof.Rows hiding St
section
variable {K:Fg} {H:Hp} {O:List Addr} {σ:St} {Γ Γ1:Ev} {W:XW} {f:F1} {fb:FB} {Q:VK} {QB:Bool->Hp->Prop}
theorem Hs:∀n:Nat,(List.replicate n ([]:List Addr)).flatten=[]
 | 0=>rfl
 | n+1=>by rw [List.replicate_succ,flatten_cons,Hs n];rfl
theorem Jy (nd:O.Nodup) (inH:∀a∈O,H a≠none) (hl:σ.length=Γ.length) (hs:∀(i:Nat) p,Γ[i]?=some (some p)->p.s=.leaf/\∃v,σ[i]?=some (some v)/\Rep K (bX H O) v p.d):EnvOk K H O (List.replicate Γ.length []) H σ Γ:=by
 have e:=Hs Γ.length
 refine ⟨hl,List.length_replicate,Same.refl H,by rw [e,append_nil];exact nd,by rw [e,append_nil];exact inH,by rw [e];exact fun _ z=>(nomatch z),fun i p h=>?_⟩
 obtain ⟨h1,v,h2,h3⟩:=hs i p h;have hi:i<Γ.length:=(List.getElem?_eq_some_iff.mp h).1
 refine ⟨by rw [h1];rfl,v,[],h2,by rw [getElem?_replicate,if_pos hi],?_⟩
 rw [h1,e,append_nil];exact .leaf h3
theorem lu {K:Fg} {H:Hp} {vs:List V} {xs:List Int} (hl:vs.length=(xs.map PySem.PyData.int).length) (hr:∀(i:Nat) v d,vs[i]?=some v->(xs.map PySem.PyData.int)[i]?=some d->Rep K H v d):vs=xs.map V.int:=by
 rw [length_map] at hl;apply ext_getElem?
 intro i;by_cases hi:i<vs.length
 ·have hi2:i<xs.length:=by omega
  have q:=hr i vs[i] (.int xs[i]) (getElem?_eq_getElem hi) (by rw [getElem?_map,getElem?_eq_getElem hi2];rfl)
  rw [getElem?_eq_getElem hi,getElem?_map,getElem?_eq_getElem hi2];generalize vs[i]=u at q
  cases q;rfl
 ·rw [getElem?_eq_none (by omega),getElem?_eq_none (by rw [length_map];omega)]
theorem KD {xs:List Int} (E:EnvOk K H O (List.replicate Γ.length []) H σ Γ) (hf:f Γ=.ok ⟨.leaf,.list (xs.map .int)⟩ Γ1) (q:∀p H',Same H H'->SqL K H' p (xs.map V.int)->Q (.ref p) H'):tE K W f σ H Q:=by
 refine ⟨_,_,_,_,E,?_⟩
 rw [hf];intro v H' G Fs' A
 cases A.own with
 | leaf r=>
  cases r with
  | @lst p vs _ hq hl hr=>
   rw [lu hl hr] at hq;exact q p H' A.same (hid_le.seq hq)
end
theorem yt {H:Hp} {O O':List Addr} (s:∀a∈O,a∈O'):Same (bX H O') (bX H O):=fun b o hb=>by
 unfold bX at hb ⊢
 split at hb
 ·cases hb
 ·rename_i nb
  rw [if_neg fun z=>nb (s b z)]
  exact hb
theorem pV {K:Fg} {O O':List Addr} {H:Hp} {s:Sh} {F:List Addr} {v:V} {d:D} (o:Own K O' H s F v d):s.isView=false->(∀a∈F,a∉O)->(∀a∈O,a∈O')->Rep K (bX H O) v d:=by
 induction o with
 | view _=>intro h;cases h
 | leaf r=>intro _ _ h;exact r.mono (yt h)
 | @lst s p vs ds Fs hv hp hl _ _ hi ih=>
  intro _ hf hO;refine .lst (.inl (.inl (wm hp (hf p mem_cons_self)))) hl fun i v d h1 h2=>?_
  have hF:i<Fs.length:=by have:=(List.getElem?_eq_some_iff.mp h2).1;omega
  exact ih i v d Fs[i] h1 h2 (getElem?_eq_getElem hF) hv (fun a ha=>hf a (mem_cons_of_mem _ (List.mem_flatten.mpr ⟨_,getElem_mem hF,ha⟩))) hO
 | @tup ss p vs ds Fs hv hp np hl hl2 hl3 _ hi ih=>
  intro _ hf hO;refine .tup (.inl (.inl (wm hp fun z=>np (hO p z)))) hl fun i v d h1 h2=>?_
  have hd:=(List.getElem?_eq_some_iff.mp h2).1
  have hF:i<Fs.length:=by omega
  have hS:i<ss.length:=by omega
  exact ih i v d Fs[i] ss[i] h1 h2 (getElem?_eq_getElem hF) (getElem?_eq_getElem hS) (hv _ (getElem_mem hS)) (fun a ha=>hf a (List.mem_flatten.mpr ⟨_,getElem_mem hF,ha⟩)) hO
theorem Kj {K:Fg} {H:Hp} {O:List Addr} {σ:St} {Γ Γ1:Ev} {W:XW} {f:F1} {Q:VK} {p:PV} (inH:∀a∈O,H a≠none) (E:EnvOk K H O (List.replicate Γ.length []) H σ Γ) (hf:f Γ=.ok p Γ1) (hv:p.s.isView=false) (q:∀v H',Same H H'->Rep K (bX H' O) v p.d->Q v H'):tE K W f σ H Q:=by
 refine ⟨_,_,_,_,E,?_⟩
 rw [hf];intro v H' G Fs' A
 refine q v H' A.same (pV A.own hv (fun a ha z=>?_) fun a ha=>mem_append_left _ (mem_append_right _ ha))
 rcases A.new a (mem_append_left _ ha) with y | y
 ·rw [Hs] at y;cases y
 ·exact inH a z y
noncomputable abbrev gD:List Str:=["rooms", "places", "room"]
noncomputable abbrev nD:List Str:=["sorted"]
noncomputable def qH (K:Fg):Sp:=fun vs H Q _=>∃(p d:Addr) (xs:List Int) (kvs:List (bL×V)) (h:Int->Option Int),vs=[.ref p,.ref d]/\SqL K H p (xs.map V.int)/\H d=some (.dK kvs)/\(∀k:Int,dy kvs (.inl k)=(h k).map V.int)/\xs.length<64 /\
 ∀l H',Same H H'->H l=none->H' l=some (.lst ((PySem.W.sortI (xs.filterMap h)).map V.int))->Q (.ref l) H'
noncomputable def IA (K:Fg):TS:=tR (zx (uz K) (cH (fS [2] (iZ K (bh 0)) (bR 2) (tB (Av (bh 2) (bh 1))) (tV (bh 1) (bh 2))) gY))
theorem yA {h:Int->Option Int} {xs:List Int} {i:Nat} (hi:i<xs.length):(xs.take (i+1)).filterMap h=(xs.take i).filterMap h++(h xs[i]).toList:=by
 rw [List.take_succ,getElem?_eq_getElem hi,List.filterMap_append]
 cases e:h xs[i]<;>simp [e]
theorem DW {K:Fg} {vs:List V} {H:Hp} {Q:VK} {E:XK} {Qn:St->Hp->Prop} (h:qH K vs H Q E):IA K { nx:=Qn,rt:=Q } (L2.start gD vs) H:=by
 obtain ⟨p,d,xs,kvs,f,rfl,hq,hd,hf,h64,q⟩:=h;refine ⟨.ref p,rfl,p,rfl,⟨_,hq⟩,fun L hL=>?_⟩
 have hbl:bc [2] (L2.start gD [V.ref p,.ref d])=[some (.ref p),some (.ref d),none]:=by
  show bc [2] [some (V.ref p),some (.ref d),none]=_
  simp [bc]
 refine ⟨fun i m ys H2=>m=xs.length-i/\i<=xs.length/\ys=((xs.take i).filterMap f).map V.int/\H2 L=some (.lst ys)/\Same H H2,⟨xs.length,by simp,Nat.zero_le _,by simp,dQ,gG hL⟩,?_⟩
 rintro i m ys H2 ⟨rfl,hi,rfl,hLs,sH⟩
 refine ⟨hLs,?_⟩
 have hq2:SqL K H2 p (xs.map V.int):=sH.seq hq
 by_cases hlt:i<xs.length
 case neg=>
  left
  have hie:i=xs.length:=by omega
  subst hie;refine ⟨⟨_,hq2,by rw [length_map];exact Nat.le_refl _⟩,?_⟩
  rw [take_of_length_le (Nat.le_refl _)] at hLs;refine ⟨L,xs.filterMap f,rfl,.inl (.inl hLs),Nat.lt_of_le_of_lt (List.length_filterMap_le f xs) h64,fun l hl=>q l _ (sH.trans (gG hl)) (sH.free hl) dQ⟩
 case pos=>
  right
  have e1:(xs.map V.int)[i]?=some (.int xs[i]):=by rw [getElem?_map,getElem?_eq_getElem hlt];rfl
  have hb:(1000:Nat)<=sizeLine:=by decide
  refine ⟨⟨_,_,hq2,e1⟩,by rw [length_map];have:=List.length_filterMap_le f (xs.take i);rw [length_take] at this;omega,?_⟩
  rintro v H3 ⟨rfl,hv⟩
  have ev:v=.int xs[i]:=Option.some.inj ((hv _ hq2).symm.trans e1)
  subst ev;rw [hbl];show GB [some (.ref p),some (.ref d),none] [some (.ref p),some (.ref d),some (.int xs[i])]/\_
  refine ⟨⟨rfl,fun j u h=>?_⟩,?_⟩
  ·match j,h with
   | 0,h=>exact h
   | 1,h=>exact h
   | 2,h=>cases h
   | j+3,h=>cases h
  have g:=DGet.k (k:=Sum.inl xs[i]) (sH _ _ hd)
  rw [hf] at g;refine ⟨.int xs[i],rfl,.ref d,rfl,d,_,rfl,g,_,rfl,?_⟩
  have ft:=yA (h:=f) hlt
  cases e:f xs[i] with
  | none=>
   rw [e] at ft;refine iU ⟨xs.length-(i+1),by omega,rfl,hlt,by rw [ft];simp,hLs,sH⟩
  | some z=>
   rw [e] at ft g
   refine iT ⟨.ref d,rfl,.int xs[i],rfl,d,.int z,rfl,g,hLs,xs.length-(i+1),by omega,rfl,hlt,by rw [ft];simp,dQ,fun c o hc=>?_⟩
   rw [cQ (fun w=>by subst w;rw [hL] at hc;cases hc)]
   exact sH c o hc
end T
namespace KC
open PySem PySem.Spec L2 T PySem.SeqAt
open PyProof.Rows hiding St
noncomputable def kW (i:Nat):List Nat->List (bL×V)
 | []=>[]
 | r::R=>(.inl (r:Int),.int (i:Int))::kW (i+1) R
noncomputable def Ca (R:List Nat) (x:Int):Option Int:=(R.findIdx? fun r:Nat=>decide ((r:Int)=x)).map fun k:Nat=>(k:Int)
theorem GX {x:Int}:∀(R:List Nat) (i:Nat),dy (kW i R) (.inl x)=(R.findIdx? fun r:Nat=>decide ((r:Int)=x)).map fun k=>V.int ((k+i:Nat):Int)
 | [],i=>rfl
 | r::R,i=>by
  rw [List.findIdx?_cons];by_cases e:(r:Int)=x
  ·rw [decide_eq_true e]
   unfold kW;rw [Dx (by rw [e])]
   simp
  ·rw [decide_eq_false e]
   unfold kW;rw [Dw (fun z=>e (Sum.inl.inj z)),GX R (i+1)]
   simp only [Bool.false_eq_true,if_false,Option.map_map]
   congr 1
   funext k
   simp
   omega
theorem B1 {R:List Nat} (x:Int):dy (kW 0 R) (.inl x)=(Ca R x).map V.int:=by
 rw [GX,Ca,Option.map_map];rfl
theorem my:∀(l:List Nat) (i a:Nat),kW i (l++[a])=kW i l++[(.inl (a:Int),.int ((i+l.length:Nat):Int))]
 | [],i,a=>rfl
 | b::l,i,a=>by
  show (Sum.inl (b:Int),V.int (i:Int))::kW (i+1) (l++[a])=_
  rw [my l (i+1) a];show _=(Sum.inl (b:Int),V.int (i:Int))::(kW (i+1) l++_)
  rw [length_cons,show i+1+l.length=i+(l.length+1) by omega]
theorem qa:∀(l:List Nat) (i:Nat),(kW i l).length=l.length
 | [],_=>rfl
 | a::l,i=>by show (kW (i+1) l).length+1=_;rw [qa l (i+1)];rfl
noncomputable def qZ (R ts:List Nat):List Nat:=(List.range R.length).filter fun k=>ts.contains (R.getD k 0)
noncomputable def dR (w:Wd) (R:List Nat):Wd:=⟨R.length,R.map fun r=>.int (zH w r),R.map w.mks,R.map fun r=>qZ R (w.stp r)⟩
theorem FH {R:List Nat} (nd:R.Nodup) {t:Nat} {k:Int}:Ca R (t:Int)=some k↔∃j:Nat,k=(j:Int)/\R[j]?=some t:=by
 unfold Ca;constructor
 ·intro h
  obtain ⟨j,h1,rfl⟩:=Option.map_eq_some_iff.mp h;obtain ⟨hj,h2,_⟩:=List.findIdx?_eq_some_iff_getElem.mp h1
  refine ⟨j,rfl,?_⟩
  rw [getElem?_eq_getElem hj];have:((R[j]:Nat):Int)=(t:Int):=by simpa using h2
  rw [Int.ofNat_inj.mp this]
 ·rintro ⟨j,rfl,h⟩
  obtain ⟨hj,e⟩:=List.getElem?_eq_some_iff.mp h
  refine Option.map_eq_some_iff.mpr ⟨j,List.findIdx?_eq_some_iff_getElem.mpr ⟨hj,by rw [e];simp,fun i hi=>?_⟩,rfl⟩
  have:=(List.nodup_iff_pairwise_ne.mp nd)
  have hne:=List.pairwise_iff_getElem.mp this i j (by omega) hj hi
  rw [e] at hne;simp
  intro z;exact hne (Int.ofNat_inj.mp z)
theorem uL {R ts:List Nat} (nd:R.Nodup) (rs:ts.Nodup):PySem.W.sortI ((ts.map fun t:Nat=>(t:Int)).filterMap (Ca R))=(qZ R ts).map fun k:Nat=>(k:Int):=by
 symm
 refine PySem.W.eq_sortI ?_ ?_
 ·have n1:((qZ R ts).map fun k:Nat=>(k:Int)).Nodup:=by
   refine List.pairwise_map.mpr (List.Pairwise.imp (R:=fun a b:Nat=>a≠b) (fun h z=>h (Int.ofNat_inj.mp z)) ?_)
   exact (nodup_range).sublist filter_sublist
  have n2:((ts.map fun t:Nat=>(t:Int)).filterMap (Ca R)).Nodup:=by
   rw [List.filterMap_map];refine List.Pairwise.filterMap _ (fun a b hab x hx y hy=>?_) rs
   intro z;subst z;obtain ⟨j,e1,e2⟩:=(FH nd).mp hx;obtain ⟨j',e3,e4⟩:=(FH nd).mp hy;rw [e1] at e3;rw [<-Int.ofNat_inj.mp e3,e2] at e4;exact hab (Option.some.inj e4)
  refine (List.perm_ext_iff_of_nodup n1 n2).mpr fun x=>?_
  rw [List.filterMap_map,List.mem_filterMap,mem_map];constructor
  ·rintro ⟨k,hk,rfl⟩
   obtain ⟨h1,h2⟩:=List.mem_filter.mp hk;have h1:=List.mem_range.mp h1
   have e:R.getD k 0=R[k]:=by rw [getD_eq_getElem?_getD,getElem?_eq_getElem h1];rfl
   rw [e] at h2;exact ⟨R[k],List.contains_iff_mem.mp h2,(FH nd).mpr ⟨k,rfl,getElem?_eq_getElem h1⟩⟩
  ·rintro ⟨t,ht,h⟩
   obtain ⟨j,rfl,h2⟩:=(FH nd).mp h;obtain ⟨hj,e⟩:=List.getElem?_eq_some_iff.mp h2
   refine ⟨j,List.mem_filter.mpr ⟨List.mem_range.mpr hj,List.contains_iff_mem.mpr ?_⟩,rfl⟩
   rw [getD_eq_getElem?_getD,h2];exact ht
 ·rw [pairwise_map]
  exact ((List.pairwise_lt_range).sublist filter_sublist).imp fun h=>by omega
theorem Jl:∀{l m:List Nat},l.Nodup->(∀x∈l,x∈m)->l.length<=m.length
 | [],_,_,_=>Nat.zero_le _
 | a::l,m,h,hm=>by
  have ha:=hm a mem_cons_self
  obtain ⟨h1,h2⟩:=List.nodup_cons.mp h;have:=Jl (m:=m.erase a) h2 fun x hx=>(List.mem_erase_of_ne (fun z:x=a=>h1 (z▸hx))).mpr (hm x (mem_cons_of_mem _ hx))
  rw [List.length_erase_of_mem ha] at this;have:=length_pos_of_mem ha
  rw [length_cons];omega
theorem Jk {l:List Nat} {n:Nat} (h:l.Nodup) (hx:∀x∈l,x<n):l.length<=n:=by
 have:=Jl (m:=List.range n) h fun x hx'=>List.mem_range.mpr (hx x hx')
 rwa [length_range] at this
noncomputable abbrev gE:List Str:=["world", "rooms", "places", "place", "room", "owners", "marks", "steps"]
noncomputable abbrev o6:List Str:=["enumerate", "list", "places_of"]
noncomputable abbrev zF:F1:=aw .leaf 4 (aL (ae 1)) aI (ah (ah (ae 0) (eK (.int 0))) (ae 4))
noncomputable abbrev zG:F1:=aw .leaf 4 (aL (ae 1)) aI (zf (ah (ah (ae 0) (eK (.int 1))) (ae 4)))
noncomputable abbrev uZ:F1:=ah (ah (ae 0) (eK (.int 2))) (ae 4)
noncomputable def IB (K:Fg):L2.TS:=
 fI (gZ tU (bR 2)) (fI (w6 (vp K (cH (bh 1) gY)) (Cs K 2 (mI (bR 3) (mI (bR 4) Ct))) (pF (bh 2) (bh 4) (bh 3)))
 (fI (gZ (tE K W0 zF) (bR 5)) (fI (gZ (tE K W0 zG) (bR 6))
 (fI (fun D σ H=>fS [4] (iZ K (bh 1)) (bR 4) pv (lA (qH K) [] L2.E0 (cH (tE K W0 uZ) (cH (bh 2) gY))) σ H fun v H'=>D.nx (σ.set 7 (some v)) H')
 (tR (Ar (cH (bh 5) (cH (bh 6) (cH (bh 7) gY)))))))))
structure kS (w:Wd) (R:List Nat):Prop where
 ok:w.Ok
 nd:R.Nodup
 lt:∀r∈R,r<w.n
 len:R.length<=60
 rs:∀r,r<w.n->(w.stp r).Nodup
noncomputable abbrev GP (w:Wd) (R:List Nat) (x4:Option PV):Ev:=[some ⟨.leaf,w.enc⟩,some ⟨.leaf,av R⟩,none,none,x4,none,none,none]
theorem Cz {w:Wd} {R:List Nat} (h:kS w R):zF (GP w R none)=.ok ⟨.lst .leaf,.list (R.map fun r=>.int (zH w r))⟩ (GP w R none):=
 kU rm R (fun r=>⟨.leaf,.int (zH w r)⟩) (st:=true) (b7 (s:=.leaf) (ay rfl) rfl) (by simp) rfl (by have:=h.len;omega) fun r hr=>⟨BH h.ok rfl (ay rfl) (h.lt r hr),rfl⟩
theorem CA {w:Wd} {R:List Nat} (h:kS w R):zG (GP w R none)=.ok ⟨.lst .leaf,.list ((R.map w.mks).map cG)⟩ (GP w R none):=by
 have e:=kU (Γ:=GP w R none) (s:=.leaf) (i:=4) (fi:=aL (ae 1)) (fe:=zf (ah (ah (ae 0) (eK (.int 1))) (ae 4))) rm R (fun r=>⟨.lst .leaf,cG (w.mks r)⟩) (st:=true) (b7 (s:=.leaf) (ay rfl) rfl) (by simp) rfl (by have:=h.len;omega) fun r hr=>⟨HC (BX h.ok rfl (ay rfl) (h.lt r hr)) rfl,rfl⟩
 rw [map_map];exact e
theorem qQ {K:Fg} {H:Hp} {O:List Addr} {vs:List V} {w:Wd} {R:List Nat} {Q:VK} {Qn:St->Hp->Prop} (h:kS w R) (nd:O.Nodup) (inH:∀a∈O,H a≠none) (rs:Reps K (bX H O) vs [w.enc,av R])
  (q:∀v H' G,RetOk K H O ⟨.leaf,(dR w R).enc⟩ v H' G->Q v H'):IB K { nx:=Qn,rt:=Q } (L2.start gE vs) H:=by
 have hvl:vs.length=2:=rs.1
 match vs,hvl,rs with
 | [v0,v1],_,rs=>
 have r0:=rs.2 0 v0 _ rfl rfl
 have r1:=rs.2 1 v1 _ rfl rfl
 have inS:∀{H'},Same H H'->∀a∈O,H' a≠none:=fun {H'} s a ha=>by
  cases e:H a with
  | none=>exact absurd e (inH a ha)
  | some o=>rw [s a o e];exact Option.some_ne_none _
 have mono:∀{H'},Same H H'->Same (bX H O) (bX H' O):=fun s=>qw s fun a ha=>.inl ha
 have EE:∀(H':Hp) (σ:St),Same H H'->σ.length=8->σ[0]?=some (some v0)->σ[1]?=some (some v1)->∀x4:Option Nat,(∀r,x4=some r->σ[4]?=some (some (.int (r:Int))))->EnvOk K H' O (List.replicate (GP w R (x4.map fun r=>(⟨.leaf,rm r⟩:PV))).length []) H' σ (GP w R (x4.map fun r=>(⟨.leaf,rm r⟩:PV))):=fun H' σ s l s0 s1 x4 s4=>by
  refine Jy nd (inS s) l fun i x hx=>?_
  match i,hx with
  | 0,hx=>cases hx;exact ⟨rfl,_,s0,r0.mono (mono s)⟩
  | 1,hx=>cases hx;exact ⟨rfl,_,s1,r1.mono (mono s)⟩
  | 4,hx=>
   cases x4 with
   | none=>cases hx
   | some r=>cases hx;exact ⟨rfl,_,s4 r rfl,.int r⟩
  | 2,hx=>cases hx
  | 3,hx=>cases hx
  | 5,hx=>cases hx
  | 6,hx=>cases hx
  | 7,hx=>cases hx
  | i+8,hx=>cases hx
 cases r1 with
 | @lst pr ws _ hqr hl hr=>
 have ews:ws=R.map fun r:Nat=>V.int (r:Int):=by
  have:=lu (xs:=R.map fun r:Nat=>(r:Int)) (by rw [map_map];exact hl) (by rw [map_map];exact hr)
  rw [this,map_map];rfl
 subst ews;have sqR:∀{H'},Same H H'->SqL K H' pr (R.map fun r:Nat=>V.int (r:Int)):=fun s=>s.seq (hid_le.seq hqr)
 have hlen:=h.len
 have hbz:(1000:Nat)<=sizeLine:=by decide
 intro d hd;have sd:Same H (bx H d (.dK [])):=gG hd
 refine ⟨_,rfl,pr,rfl,⟨_,sqR sd⟩,fun k m σ' H'=>m=R.length-k/\k<=R.length/\(∃x3 x4,σ'=[some v0,some (.ref pr),some (.ref d),x3,x4,none,none,none])/\H' d=some (.dK (kW 0 (R.take k)))/\Same H H',⟨R.length,by simp,Nat.zero_le _,⟨none,none,rfl⟩,dQ,sd⟩,?_⟩
 rintro k m σ' H' ⟨rfl,hk,⟨x3,x4,rfl⟩,hD,sH⟩
 by_cases hlt:k<R.length
 case pos=>
  right
  have e1:(R.map fun r:Nat=>V.int (r:Int))[k]?=some (.int (R[k]:Int)):=by rw [getElem?_map,getElem?_eq_getElem hlt];rfl
  refine ⟨⟨_,_,sqR sH,e1⟩,fun σ2 H2=>(∃x3 x4,σ2=[some v0,some (.ref pr),some (.ref d),x3,x4,none,none,none])/\H2 d=some (.dK (kW 0 (R.take (k+1))))/\Same H H2,fun σ2 H2 q2=>⟨R.length-(k+1),by omega,rfl,hlt,q2⟩,?_⟩
  rintro x H2 ⟨T,v,rfl,hT,rfl,hv⟩
  have ev:v=.int (R[k]:Int):=Option.some.inj ((hv _ (sqR sH)).symm.trans e1)
  subst ev;have hdT:d≠T:=fun z=>by rw [<-z,hD] at hT;cases hT
  have sT:Same H (bx H' T (.tup [.int (k:Int),.int (R[k]:Int)])):=sH.trans (gG hT)
  refine ⟨T,_,rfl,.inl (.inl dQ),rfl,_,_,rfl,_,_,rfl,rfl,?_⟩
  have hD2:bx H' T (.tup [.int (k:Int),.int (R[k]:Int)]) d=some (.dK (kW 0 (R.take k))):=by rw [cQ hdT];exact hD
  have hnone:dy (kW 0 (R.take k)) (.inl (R[k]:Int))=none:=by
   rw [GX,Option.map_eq_none_iff,List.findIdx?_eq_none_iff];intro x hx;have hx':x≠R[k]:=fun z=>by
    obtain ⟨i,hi,e⟩:=getElem_of_mem hx;rw [length_take] at hi;rw [List.getElem_take] at e;have:=List.pairwise_iff_getElem.mp (List.nodup_iff_pairwise_ne.mp h.nd) i k (by omega) hlt (by omega)
    exact this (e.trans z)
   simp
   omega
  refine ⟨_,rfl,_,rfl,_,rfl,d,_,rfl,DPut.k (k:=Sum.inl (R[k]:Int)) hD2 (by rw [qa,length_take];omega),⟨_,_,rfl⟩,?_,fun c o hc=>?_⟩
  ·rw [dQ,lT _ hnone,List.take_succ,getElem?_eq_getElem hlt]
   show _=some (HO.dK (kW 0 (R.take k++[R[k]])))
   rw [my,length_take,Nat.min_eq_left (by omega),Nat.zero_add]
  ·rw [cQ (fun z=>by subst z;rw [hd] at hc;cases hc)]
   exact sT c o hc
 case neg=>
  left
  refine ⟨⟨_,sqR sH,by rw [length_map];omega⟩,?_⟩
  rw [take_of_length_le (by omega)] at hD
  clear hk hlt;refine Kj (inS sH) (EE H' _ sH rfl rfl rfl none (fun _ z=>nomatch z)) (Cz h) rfl fun v5 H5 s5 p5=>?_
  refine Kj (inS (sH.trans s5)) (EE H5 _ (sH.trans s5) rfl rfl rfl none (fun _ z=>nomatch z)) (CA h) rfl fun v6 H6 s6 p6=>?_
  have s06:Same H H6:=(sH.trans s5).trans s6
  have hD6:H6 d=some (.dK (kW 0 R)):=s6 _ _ (s5 _ _ hD)
  refine ⟨_,rfl,pr,rfl,⟨_,sqR s06⟩,fun L hL=>?_⟩
  have hbl:bc [4] [some v0,some (V.ref pr),some (.ref d),x3,x4,some v5,some v6,none]=[some v0,some (.ref pr),some (.ref d),x3,none,some v5,some v6,none]:=by simp [bc]
  refine ⟨fun i m ys H2=>m=R.length-i/\i<=R.length/\(∃ls:List Addr,ys=ls.map V.ref/\ls.length=i/\∀(j:Nat) l,ls[j]?=some l->l≠L/\H6 l=none/\H2 l=some (.lst ((qZ R (w.stp (R.getD j 0))).map fun k:Nat=>V.int (k:Int))))/\H2 L=some (.lst ys)/\Same H6 H2,⟨R.length,by simp,Nat.zero_le _,⟨[],rfl,rfl,fun j l z=>by simp at z⟩,dQ,gG hL⟩,?_⟩
  rintro i m ys H2 ⟨rfl,hi,⟨ls,rfl,hll,hls⟩,hLs,s2⟩
  refine ⟨hLs,?_⟩
  have s02:Same H H2:=s06.trans s2
  by_cases hlt2:i<R.length
  case pos=>
   right
   have e1:(R.map fun r:Nat=>V.int (r:Int))[i]?=some (.int (R[i]:Int)):=by rw [getElem?_map,getElem?_eq_getElem hlt2];rfl
   refine ⟨⟨_,_,sqR s02,e1⟩,by rw [length_map];omega,?_⟩
   rintro v H3 ⟨rfl,hv⟩
   have ev:v=.int (R[i]:Int):=Option.some.inj ((hv _ (sqR s02)).symm.trans e1)
   subst ev;rw [show ([some v0,some (V.ref pr),some (V.ref d),x3,x4,none,none,none].set 5 (some v5)).set 6 (some v6)=[some v0,some (V.ref pr),some (.ref d),x3,x4,some v5,some v6,none] from rfl,hbl]
   show GB [some v0,some (.ref pr),some (.ref d),x3,none,some v5,some v6,none] [some v0,some (.ref pr),some (.ref d),x3,some (.int (R[i]:Int)),some v5,some v6,none]/\_
   refine ⟨⟨rfl,fun j u hu=>?_⟩,?_⟩
   ·match j,hu with
    | 0,hu=>exact hu
    | 1,hu=>exact hu
    | 2,hu=>exact hu
    | 3,hu=>exact hu
    | 4,hu=>cases hu
    | 5,hu=>exact hu
    | 6,hu=>exact hu
    | 7,hu=>exact hu
    | j+8,hu=>cases hu
   refine Es ?_
   have hRi:R[i]<w.n:=h.lt _ (getElem_mem hlt2)
   have est:uZ (GP w R (some ⟨.leaf,rm R[i]⟩))=.ok ⟨.leaf,.list ((((w.stp R[i]).map fun t:Nat=>(t:Int))).map .int)⟩ (GP w R (some ⟨.leaf,rm R[i]⟩)):=by
    rw [map_map];exact pC h.ok rfl (ay rfl) hRi
   refine KD (EE _ _ s02 rfl rfl rfl (some R[i]) (fun r hr=>by cases hr;rfl)) est fun p3 H3 s3 q3=>?_
   have lst:(w.stp R[i]).length<64:=by
    have:=h.rs _ hRi
    have l1:(w.stp R[i]).length<=w.n:=by
     exact Jk (h.rs _ hRi) fun x hx=>h.ok.stp_lt hx
    have:=h.ok.h24
    omega
   refine ⟨_,rfl,p3,d,(w.stp R[i]).map fun t:Nat=>(t:Int),kW 0 R,Ca R,rfl,q3,s3 _ _ (s2 _ _ hD6),B1,by rw [length_map];exact lst,fun l H4 s4 hl4 hl=>?_⟩
   rw [uL h.nd (h.rs _ hRi),map_map] at hl;have hL3:H3 L=some (.lst (ls.map V.ref)):=s3 _ _ hLs
   have hL4:H4 L=some (.lst (ls.map V.ref)):=s4 _ _ hL3
   have hlL:l≠L:=fun z=>by rw [z,hL3] at hl4;cases hl4
   have hl6:H6 l=none:=(s2.trans s3).free hl4
   refine ⟨hL4,R.length-(i+1),by omega,rfl,hlt2,⟨ls++[l],by simp,by rw [length_append,hll];rfl,fun j l' hj=>?_⟩,dQ,fun c o hc=>?_⟩
   ·by_cases hj2:j<ls.length
    ·rw [getElem?_append_left hj2] at hj
     obtain ⟨a1,a2,a3⟩:=hls j l' hj
     refine ⟨a1,a2,?_⟩
     rw [cQ a1];exact s4 _ _ (s3 _ _ a3)
    ·have hje:j=ls.length:=by
      have:=(List.getElem?_eq_some_iff.mp hj).1
      rw [length_append,length_singleton] at this;omega
     subst hje;rw [getElem?_append_right (Nat.le_refl _),Nat.sub_self] at hj
     cases hj;refine ⟨hlL,hl6,?_⟩
     rw [cQ hlL,hll,getD_eq_getElem?_getD,getElem?_eq_getElem hlt2];exact hl
   ·rw [cQ (fun z=>by subst z;rw [hL] at hc;cases hc)]
    exact s4 _ _ (s3 _ _ (s2 _ _ hc))
  case neg=>
   left
   have hie:i=R.length:=by omega
   subst hie;refine ⟨⟨_,sqR s02,by rw [length_map];omega⟩,?_⟩
   refine ⟨_,rfl,_,rfl,_,rfl,by show 3<=sizeLine;decide,fun t ht=>?_⟩
   have sT:Same H2 (bx H2 t (.tup [v5,v6,.ref L])):=gG ht
   have nO:∀{a},H6 a=none->a∉O:=fun {a} ha z=>inS s06 a z ha
   have tO:t∉O:=fun z=>inS s02 t z ht
   refine q _ _ [] ⟨s02.trans sT,(fun _ z=>nomatch z),(fun _ z=>nomatch z),nodup_nil,.leaf (.tup (vs:=[v5,v6,.ref L]) (.inl (.inl (wm dQ tO))) rfl fun j v dd e1 e2=>?_),rfl⟩
   have m5:Same (bX H5 O) (bX (bx H2 t (.tup [v5,v6,.ref L])) O):=qw ((s6.trans s2).trans sT) fun a ha=>.inl ha
   have m6:Same (bX H6 O) (bX (bx H2 t (.tup [v5,v6,.ref L])) O):=qw (s2.trans sT) fun a ha=>.inl ha
   match j,e1,e2 with
   | 0,e1,e2=>cases e1;cases e2;exact p5.mono m5
   | 1,e1,e2=>cases e1;cases e2;exact p6.mono m6
   | 2,e1,e2=>
    cases e1
    cases e2;refine .lst (.inl (.inl (wm (sT _ _ hLs) (nO hL)))) ?_ ?_
    ·simp [dR,hll]
    ·intro i' v' d' f1 f2
     have hi':i'<ls.length:=by
      have:=(List.getElem?_eq_some_iff.mp f1).1
      rwa [length_map] at this
     rw [getElem?_map,getElem?_eq_getElem hi'] at f1
     cases f1;obtain ⟨a1,a2,a3⟩:=hls i' _ (getElem?_eq_getElem hi')
     have hR:i'<R.length:=by omega
     have ed:d'=av (qZ R (w.stp (R.getD i' 0))):=by
      simp only [dR,map_map] at f2
      rw [getElem?_map,getElem?_eq_getElem hR] at f2
      cases f2;rw [getD_eq_getElem?_getD,getElem?_eq_getElem hR];rfl
     rw [ed];refine .lst (.inl (.inl (wm (sT _ _ a3) (nO a2)))) (by simp) fun i3 v3 d3 g1 g2=>?_
     rw [getElem?_map] at g1 g2
     cases e:(qZ R (w.stp (R.getD i' 0)))[i3]? with
     | none=>rw [e] at g1;cases g1
     | some z=>rw [e] at g1 g2;cases g1;cases g2;exact .int _
   | j+3,e1,e2=>cases e1
theorem pH {R S:List Nat} (h:av R=av S):R=S:=(map_inj_right (f:=rm) fun a b e=>Int.ofNat_inj.mp (PyData.int.inj e)).mp (PyData.list.inj h)
theorem w4 {R S:List Str} (h:cG R=cG S):R=S:=(map_inj_right (f:=PyData.str) fun a b e=>PyData.str.inj e).mp (PyData.list.inj h)
theorem yC {w v:Wd} (ok:w.Ok) (ov:v.Ok) (h:w.enc=v.enc):w=v:=by
 have h:=PyData.tuple.inj h
 injection h with h1 h
 injection h with h2 h
 injection h with h3 _
 have h1:=PyData.list.inj h1
 have h2:=(map_inj_right (f:=cG) fun a b e=>w4 e).mp (PyData.list.inj h2)
 have h3:=(map_inj_right (f:=av) fun a b e=>pH e).mp (PyData.list.inj h3)
 have hn:w.n=v.n:=by rw [<-ok.ls,<-ov.ls,h3]
 cases w
 cases v
 cases hn
 cases h1
 cases h2
 cases h3;rfl
noncomputable def Kn (ds:List PySem.PyData):Prop:=∃x:Wd×List Nat,ds=[x.1.enc,av x.2]/\kS x.1 x.2
open Classical in
noncomputable def ck (ds:List PySem.PyData):Res:=if h:Kn ds then .ok ⟨.leaf,(dR h.choose.1 h.choose.2).enc⟩ else .no
theorem oM {w:Wd} {R:List Nat} (h:kS w R):ck [w.enc,av R]=.ok ⟨.leaf,(dR w R).enc⟩:=by
 have H:Kn [w.enc,av R]:=⟨(w,R),rfl,h⟩
 unfold ck;rw [dif_pos H];obtain ⟨e,o⟩:=H.choose_spec;injection e with e1 e
 injection e with e2 _
 rw [<-yC h.ok o.ok e1,<-pH e2]
theorem mx {ds:List PySem.PyData} {p:PV} (h:ck ds=.ok p):∃w R,ds=[w.enc,av R]/\kS w R/\p=⟨.leaf,(dR w R).enc⟩:=by
 unfold ck at h;split at h
 ·rename_i H
  cases h;obtain ⟨e,o⟩:=H.choose_spec;exact ⟨_,_,e,o,rfl⟩
 ·cases h
noncomputable def vZ (P:Program) (w:World) (K:Fg) (mg:Str->Option Value) (base:Heap) (j:Nat):Prop:=
 ∃(f:Addr) (fd:FuncData) (ps:List Str),eD P w K mg base kX j f fd ps (qH K)/\mg "places_of"=some (.ref f)/\PySem.W.keepIn K (.ref f)=true/\Binds K fd ps []
theorem Eh {P:Program} {w:World} {K:Fg} {mg:Str->Option Value} {base:Heap} {f:Addr} {fd:FuncData} {st:Stmt} {k:Nat} (F:Fun K "places_of" "places_of" st f fd) (hm:mg "places_of"=some (.ref f)) (b:Binds K fd ["rooms", "places"] [])
  (sc:cy gD ["rooms", "places"] (fH st)) {vs cs ls lo gs:List Nat} (cp:j3 gD nD vs cs ls lo gs (fH st)=true) (nm:u9 gD nD=true) (n_sorted:mg "sorted"=none)
  (bd:∀X:Cx,Cp X gD nD vs cs ls lo gs->Rm X->X.mg "sorted"=none->PSs X (nK st) (IA X.K)):vZ P w K mg base (k+1):=by
 refine ⟨f,fd,["rooms", "places"],F.ok sc (fun vs H Q E h=>?_) (fun cdv A outer s H vs Q E hr h=>?_),hm,F.kp,b⟩
 ·obtain ⟨p,d,xs,kvs,g,rfl,_⟩:=h
  rfl
 ·exact ⟨_,bd _ (Cp.fn cp nm) hr.units n_sorted,DW h⟩
theorem Ei {P:Program} {w:World} {K:Fg} {mg:Str->Option Value} {base:Heap} {f:Addr} {fd:FuncData} {st:Stmt} {j k:Nat} (F:Fun K "placed" "placed" st f fd) (hm:mg "placed"=some (.ref f)) (b:Binds K fd ["world", "rooms"] [])
  {vs cs ls lo gs:List Nat} (sc:cy gE ["world", "rooms"] (fH st)) (cp:j3 gE o6 vs cs ls lo gs (fH st)=true) (nm:u9 gE o6=true) (n_enum:mg "enumerate"=none) (n_list:mg "list"=none)
  (c:vZ P w K mg base j) (hj:decide (j<=k)=true)
  (bd:∀X:Cx,Cp X gE o6 vs cs ls lo gs->Rm X->PassesOwn (model X.prog X.w) X.A X.env X.xe->X.mg "enumerate"=none->X.mg "list"=none->(∃(k:Nat) (f:Addr) (fd:FuncData) (ps:List Str),eD X.prog X.w X.K X.mg X.base kX k f fd ps (qH X.K)/\Room k X.A/\X.mg "places_of"=some (.ref f)/\PySem.W.keepIn X.K (.ref f)=true/\Binds X.K fd ps [])->PSs X (nK st) (IB X.K)):DefOk P w K mg base (k+1) "placed" 2 ck:=by
 refine ⟨f,fd,["world", "rooms"],F.ok sc (fun vs H Q E h=>h.1) (fun cdv A outer s H vs Q E hr h=>?_),hm,F.kp,b⟩
 obtain ⟨hl,O,ds,nd,inH,rs,w'⟩:=h
 cases e:ck ds with
 | er c=>rw [e] at w';exact w'.elim
 | no=>rw [e] at w';exact w'.elim
 | ok p=>
  rw [e] at w';obtain ⟨wd,R,rfl,h1,rfl⟩:=mx e;obtain ⟨f',fd',ps',F',a',b',c'⟩:=c;exact ⟨_,bd _ (Cp.fn cp nm) hr.units PassesOwn.never n_enum n_list ⟨j,f',fd',ps',F',hr.mono (of_decide_eq_true hj),a',b',c'⟩,qQ h1 nd inH rs w'⟩
end KC
namespace T
open PySem PySem.Spec L2
open PyProof.Rows hiding St
theorem gU {X:Cx} {N gl:List Str} {vs cs ls lo gs:List Nat} {W:XW} {pos:Pos} {scope:Scope} {x y:Str} {px pos' spos:Pos} {iter elt:Expr} {ifs:List Expr} {fi:FI} {fe:F1} {fc:FB} {vs' cs' lo' gs':List Nat} (S:Cp X N gl vs cs ls lo gs) (j:Nat) (s:Sh) (i:Nat) (hy:N[j]?=some y) (hyl:lo.contains j=true) (hx:N[i]?=some x)
  (hsl:(pos'.line==pos.line)=true) (hsn:(scope.names.any fun (n,k)=>n==y&&(k==NameKind.local||k==NameKind.cell))=false) (h1:jf N i cs scope=true) (h2:j3 N gl vs' cs' [i] lo' gs' scope=true)
  (hi':PI X (.Name x px) iter (tI X.K W fi)) (hc:sQ X N gl vs' cs' [i] lo' gs' fun Y=>PF Y ifs (tT Y.K W0 fc)) (he:sQ X N gl vs' cs' [i] lo' gs' fun Y=>PE Y elt (tE Y.K W0 fe)) (hs:∀x,foldedSetIterable iter X.env x=pure x) :
  PS X (.Assign [.Name y pos'] (.ListComp elt [⟨.Name x px,iter,ifs,0⟩] scope pos) spos) (gZ (tE X.K W (aw s i fi fc fe)) (bR j)):=by
 have B:=fun cells C s₀ H₀ ex=>S.blk h2 cells C s₀ H₀ ex
 have L:=fun cells C s₀ H₀ ex=>(B cells C s₀ H₀ ex).loc i x hx (by simp)
 have hN:X.N.Nodup:=by rw [S.hN];exact S.nd
 have hx':X.N[i]?=some x:=by rw [S.hN];exact hx
 exact eo (Ii hN (by rw [S.hN];exact hy) (S.loo j y hy hyl) (Hq S h1) S.calm hi' (fun cells C s₀ H₀ ex=>sY (X:=blk X scope cells C s₀ H₀ ex) (i:=i) hN hx' (L cells C s₀ H₀ ex).1 (L cells C s₀ H₀ ex).2) (fun cells C s₀ H₀ ex=>hc _ (B cells C s₀ H₀ ex) ⟨rfl,rfl,rfl,rfl,rfl,rfl⟩) (fun cells C s₀ H₀ ex=>he _ (B cells C s₀ H₀ ex) ⟨rfl,rfl,rfl,rfl,rfl,rfl⟩)
  (Ij S.kind (S.loo j y hy hyl) hsl hsn) hs) fun D σ H h=>G6 h
end T
namespace KC
open PySem PySem.Spec L2 T
open PyProof.Rows hiding St
noncomputable def cI:Stmt:=IC 23
noncomputable def eJ:Stmt:=IC 24
theorem DR:cy gD ["rooms", "places"] (fH cI):=⟨rfl,rfl,rfl,by decide +kernel,rfl,by decide +kernel,by decide +kernel⟩
theorem EH:j3 gD nD [0,1] [1] [0,1] [0] [0] (fH cI)=true:=by kernel_rfl
theorem El:u9 gD nD=true:=by kernel_rfl
theorem DS:cy gE ["world", "rooms"] (fH eJ):=⟨rfl,rfl,rfl,by decide +kernel,rfl,by decide +kernel,by decide +kernel⟩
theorem EI:j3 gE o6 [0,1,2,3,4,5,6,7] [0,2] [0,1,2,3,4,5,6,7] [1,3,4,5,6,7] [0] (fH eJ)=true:=by kernel_rfl
theorem Em:u9 gE o6=true:=by kernel_rfl
theorem pW {X:Cx} {N gl:List Str} {vs cs ls lo gs:List Nat} (S:Cp X N gl vs cs ls lo gs) (i:Nat) (x:Str) (pos:Pos) (e:N[i]?=some x) (hi:vs.contains i=true):PE X (.Name x pos) (bh i):=by
 have m:=S.nm x (mem_of_getElem? e)
 exact wQ (by rw [S.hN];exact e) (S.vis i x e hi) m.1 m.2
theorem xN {X:Cx} {scope:Scope} {p1 p2 p3 p4 p5 p6 p7 p8 pos:Pos} (S:Cp X gD nD [0,1] [1] [0,1] [0] [0]) (hu:X.A.units+1<cLine) (h1:Dm gD [2] [1] scope=true) (h2:j3 gD nD [1,2] [1] [2] [] [] scope=true) (hs:∀x,foldedSetIterable (.Name "rooms" p5) X.env x=pure x) :
  PE X (.ListComp (.Subscript (.Name "places" p1) (.Name "room" p2) p3) [⟨.Name "room" p4,.Name "rooms" p5,[.Compare (.Name "room" p6) [.In] [.Name "places" p7] p8],0⟩] scope pos) (fS [2] (iZ X.K (bh 0)) (bR 2) (tB (Av (bh 2) (bh 1))) (tV (bh 1) (bh 2))):=by
 have hN:X.N.Nodup:=by rw [S.hN];exact S.nd
 have B:=fun cells C s₀ H₀ ex=>S.blk h2 cells C s₀ H₀ ex
 exact G0 (HJ S h1) S.calm (Fn (pW S 0 _ _ rfl rfl))
  (fun cells C s₀ H₀ ex=>sY (X:=L2.blk X scope cells C s₀ H₀ ex) (i:=2) hN (by show X.N[2]?=_;rw [S.hN];rfl) ((B cells C s₀ H₀ ex).loc 2 _ rfl rfl).1 ((B cells C s₀ H₀ ex).loc 2 _ rfl rfl).2)
  (fun cells C s₀ H₀ ex=>uO (uG (BG (X:=L2.blk X scope cells C s₀ H₀ ex) hu (pW (B cells C s₀ H₀ ex) 2 _ _ rfl rfl) (pW (B cells C s₀ H₀ ex) 1 _ _ rfl rfl)) (by with_unfolding_all rfl)))
  (fun cells C s₀ H₀ ex=>xT (X:=L2.blk X scope cells C s₀ H₀ ex) hu (pW (B cells C s₀ H₀ ex) 1 _ _ rfl rfl) (pW (B cells C s₀ H₀ ex) 2 _ _ rfl rfl) (fun _ _=>rfl)) hs
theorem EK {X:Cx} (S:Cp X gD nD [0,1] [1] [0,1] [0] [0]) (R:Rm X) (n_sorted:X.mg "sorted"=none):PSs X (nK cI) (IA X.K):=by
 have hu:X.A.units+1<cLine:=Nat.lt_of_le_of_lt (by omega) R
 exact zh (Fe (FK oX (S.g (j:=0) rfl rfl).1 n_sorted ny (o8 (xN S hu (by kernel_rfl) (by kernel_rfl) (fun _=>rfl)) wx (dw rfl)) (S.g (j:=0) rfl rfl).2.2 (S.g (j:=0) rfl rfl).2.1 (dw rfl) rfl))
theorem ky {P:Program} {w:World} {K:Fg} {mg:Str->Option Value} {base:Heap} {f:Addr} {fd:FuncData} {k:Nat} (F:Fun K "places_of" "places_of" cI f fd) (hm:mg "places_of"=some (.ref f)) (b:Binds K fd ["rooms", "places"] []) (n_sorted:mg "sorted"=none):vZ P w K mg base (k+1):=
 Eh F hm b DR EH El n_sorted fun X S R n=>EK S R n
noncomputable abbrev Kr (X:Cx):Prop:=Cp X gE o6 [0,1,2,3,4,5,6,7] [0,2] [0,1,2,3,4,5,6,7] [1,3,4,5,6,7] [0]
noncomputable abbrev Kt (X:Cx):Prop:=∃(k:Nat) (f:Addr) (fd:FuncData) (ps:List Str),eD X.prog X.w X.K X.mg X.base kX k f fd ps (qH X.K)/\Room k X.A/\X.mg "places_of"=some (.ref f)/\PySem.W.keepIn X.K (.ref f)=true/\Binds X.K fd ps []
theorem xO {X:Cx} {scope:Scope} {p1 p2 p3 p4 p5 p6 p7 p8 p9 p10 pos' spos pos:Pos} (S:Kr X) (c:Kt X) (hsl:(pos'.line==pos.line)=true) (hsn:(scope.names.any fun (n,k)=>n==("steps":Str)&&(k==NameKind.local||k==NameKind.cell))=false)
  (h1:Dm gE [4] [0,2] scope=true) (h2:j3 gE o6 [0,2,4] [0,2] [4] [] [2] scope=true) (hs:∀x,foldedSetIterable (.Name "rooms" p9) X.env x=pure x) :
  PS X (.Assign [.Name "steps" pos'] (.ListComp (.Call (.Name "places_of" p1) [.Subscript (.Subscript (.Name "world" p2) (.Constant (.int 2) 0 p3) p4) (.Name "room" p5) p6,.Name "places" p7] [] p8) [⟨.Name "room" p10,.Name "rooms" p9,[],0⟩] scope pos) spos)
   (fun D σ H=>fS [4] (iZ X.K (bh 1)) (bR 4) pv (lA (qH X.K) [] L2.E0 (cH (tE X.K W0 uZ) (cH (bh 2) gY))) σ H fun v H'=>D.nx (σ.set 7 (some v)) H'):=by
 have hN:X.N.Nodup:=by rw [S.hN];exact S.nd
 have B:=fun cells C s₀ H₀ ex=>S.blk h2 cells C s₀ H₀ ex
 obtain ⟨k,f,fd,ps,F,hr,a1,a2,a3⟩:=c;exact Ii hN (by rw [S.hN];rfl) (S.loo 7 "steps" rfl rfl) (HJ S h1) S.calm (Fn (pW S 1 _ _ rfl rfl))
  (fun cells C s₀ H₀ ex=>sY (X:=L2.blk X scope cells C s₀ H₀ ex) (i:=4) hN (by show X.N[4]?=_;rw [S.hN];rfl) ((B cells C s₀ H₀ ex).loc 4 _ rfl rfl).1 ((B cells C s₀ H₀ ex).loc 4 _ rfl rfl).2)
  (fun cells C s₀ H₀ ex=>uP)
  (fun cells C s₀ H₀ ex=>GZ (X:=L2.blk X scope cells C s₀ H₀ ex) F hr ((B cells C s₀ H₀ ex).g (j:=2) rfl rfl).1 a1 a2 a3 .nil uY (o8 (TQ.Q.p (TQ.w_de_idx (TQ.w_de_idx (TQ.w_cv (B cells C s₀ H₀ ex) 0 rfl rfl) TQ.w_de_int (fun _ _=>rfl)) (TQ.w_cv (B cells C s₀ H₀ ex) 4 rfl rfl) (fun _ _=>rfl))) (o8 (pW (B cells C s₀ H₀ ex) 2 _ _ rfl rfl) wx (dw rfl)) (dw rfl)) (by decide) (dw rfl) rfl)
  (Ij S.kind (S.loo 7 "steps" rfl rfl) hsl hsn) hs
theorem EL {X:Cx} (S:Kr X) (R:Rm X) (hp:PassesOwn (model X.prog X.w) X.A X.env X.xe) (n_enum:X.mg "enumerate"=none) (n_list:X.mg "list"=none) (c:Kt X):PSs X (nK eJ) (IB X.K):=by
 have hN:X.N.Nodup:=by rw [S.hN];exact S.nd
 have hu:X.A.units+1<cLine:=Nat.lt_of_le_of_lt (by omega) R
 have g:∀(i:Nat) (x:Str),gE[i]?=some x->X.N[i]?=some x:=fun i x e=>by rw [S.hN];exact e
 have lc:∀(i:Nat) (x:Str),gE[i]?=some x->[0,1,2,3,4,5,6,7].contains i=true->Loc X.env.scope x/\(X.fn x=true\/X.env.scope.names.lookup x=some .local):=fun i x e hi=>S.loc i x e hi
 refine qx (Di hN (g 2 _ rfl) (lc 2 _ rfl rfl).1 uV rfl (lc 2 _ rfl rfl).2) ?_
 refine qx (Hj hp S.calm (pS (S.g (j:=0) rfl rfl).1 n_enum (o8 (pW S 1 _ _ rfl rfl) wx (fR rfl)) (fR rfl)) (uN S.calm (FM (sY hN (g 3 _ rfl) (lc 3 _ rfl rfl).1 (lc 3 _ rfl rfl).2) (FM (sY hN (g 4 _ rfl) (lc 4 _ rfl rfl).1 (lc 4 _ rfl rfl).2) pT))) (zh (pQ hu (pW S 2 _ _ rfl rfl) (pW S 4 _ _ rfl rfl) (pW S 3 _ _ rfl rfl) rfl)) (fun _=>rfl)) ?_
 refine qx (gU (vs':=[0,4]) (cs':=[0]) (lo':=[]) (gs':=[]) S 5 .leaf 4 rfl rfl rfl rfl rfl (by kernel_rfl) (by kernel_rfl) (TQ.Q.p (TQ.w_di_seq (TQ.w_cv S 1 rfl rfl))) (fun _ _ _=>TQ.Q.p TQ.w_df_nil) (fun Y S1 _=>TQ.Q.p (TQ.w_de_idx (TQ.w_de_idx (TQ.w_cv S1 0 rfl rfl) TQ.w_de_int (fun _ _=>rfl)) (TQ.w_cv S1 4 rfl rfl) (fun _ _=>rfl))) (fun _=>rfl)) ?_
 refine qx (gU (vs':=[0,4]) (cs':=[0]) (lo':=[]) (gs':=[1]) S 6 .leaf 4 rfl rfl rfl rfl rfl (by kernel_rfl) (by kernel_rfl) (TQ.Q.p (TQ.w_di_seq (TQ.w_cv S 1 rfl rfl))) (fun _ _ _=>TQ.Q.p TQ.w_df_nil) (fun Y S1 F1=>TQ.Q.p (TQ.w_cb_list S1 1 rfl rfl (F1.n n_list) (TQ.w_de_idx (TQ.w_de_idx (TQ.w_cv S1 0 rfl rfl) TQ.w_de_int (fun _ _=>rfl)) (TQ.w_cv S1 4 rfl rfl) (fun _ _=>rfl)) (fR rfl))) (fun _=>rfl)) ?_
 refine qx (xO S c rfl rfl (by kernel_rfl) (by kernel_rfl) (fun _=>rfl)) ?_
 exact zh (Fe (uQ (o8 (pW S 5 _ _ rfl rfl) (o8 (pW S 6 _ _ rfl rfl) (o8 (pW S 7 _ _ rfl rfl) wx (dw rfl)) (dw rfl)) (dw rfl))))
theorem rA {P:Program} {w:World} {K:Fg} {mg:Str->Option Value} {base:Heap} {f:Addr} {fd:FuncData} {j k:Nat} (F:Fun K "placed" "placed" eJ f fd) (hm:mg "placed"=some (.ref f)) (b:Binds K fd ["world", "rooms"] []) (n_enum:mg "enumerate"=none) (n_list:mg "list"=none)
  (c:vZ P w K mg base j) (hj:decide (j<=k)=true):DefOk P w K mg base (k+1) "placed" 2 ck:=
 Ei F hm b DS EI Em n_enum n_list c hj fun X S R hp n1 n2 ca=>EL S R hp n1 n2 ca
open PySem.SeqAt
section
variable {w:Wd} {R:List Nat}
noncomputable abbrev fQ (R:List Nat) (k:Nat):Nat:=R.getD k 0
theorem GN {k:Nat} (h:k<R.length):fQ R k∈R:=by
 rw [fQ,getD_eq_getElem?_getD,getElem?_eq_getElem h];exact getElem_mem h
theorem mem_plS {ts:List Nat} {k:Nat}:k∈qZ R ts↔k<R.length/\fQ R k∈ts:=by
 unfold qZ;rw [mem_filter,mem_range,contains_iff_mem]
theorem uK {k:Nat} (h:k<R.length):(dR w R).mks k=w.mks (fQ R k):=by
 show (R.map w.mks).getD k []=_
 rw [fQ,getD_eq_getElem?_getD,getD_eq_getElem?_getD,getElem?_map,getElem?_eq_getElem h];rfl
theorem uJ {k:Nat} (h:k<R.length):(dR w R).stp k=qZ R (w.stp (fQ R k)):=by
 show (R.map fun r=>qZ R (w.stp r)).getD k []=_
 rw [fQ,getD_eq_getElem?_getD,getD_eq_getElem?_getD,getElem?_map,getElem?_eq_getElem h];rfl
theorem pR {ts:List Nat}:(qZ R ts).length<=R.length:=by
 have:=length_filter_le (fun k=>ts.contains (R.getD k 0)) (List.range R.length)
 rwa [length_range] at this
theorem kb {t:Nat} (h:t∈R):∃k,k<R.length/\fQ R k=t:=by
 obtain ⟨k,hk,e⟩:=getElem_of_mem h;refine ⟨k,hk,?_⟩
 rw [fQ,getD_eq_getElem?_getD,getElem?_eq_getElem hk,e];rfl
theorem Bx (h:kS w R) (h1:1<=R.length) (h24:R.length<=24) (cl:∀r∈R,∃t∈w.stp r,t∈R):(dR w R).Ok:=by
 have ne:∀r∈R,qZ R (w.stp r)≠[]:=fun r hr z=>by
  obtain ⟨t,ht,hR⟩:=cl r hr;obtain ⟨k,hk,rfl⟩:=kb hR;have:=mem_plS.mpr ⟨hk,ht⟩
  rw [z] at this
  cases this
 have row:∀r∈R,w.mks r∈w.m:=fun r hr=>yi h.ok (h.lt r hr)
 refine ⟨⟨by simp [dR],by simp [dR],by simp [dR],fun a ha=>?_,fun a ha=>?_,fun a ha=>?_⟩,h1,h24,by simp [dR],by simp [dR],fun a ha=>?_,fun a ha c hc=>?_⟩
 ·obtain ⟨x,_,rfl⟩:=List.mem_map.mp ha
  unfold zH;split
  ·exact .inl rfl
  ·exact .inr rfl
 ·obtain ⟨b,hb,rfl⟩:=List.mem_map.mp ha
  obtain ⟨x,hx,rfl⟩:=List.mem_map.mp hb;exact h.ok.g.m _ (List.mem_map.mpr ⟨_,row x hx,rfl⟩)
 ·obtain ⟨b,hb,rfl⟩:=List.mem_map.mp ha
  obtain ⟨x,hx,rfl⟩:=List.mem_map.mp hb;refine ⟨(qZ R (w.stp x)).map fun t:Nat=>(t:Int),by rw [<-Fq],by rw [length_map];exact Nat.le_trans pR (by omega),fun z=>ne x hx (List.map_eq_nil_iff.mp z),fun t ht=>?_,?_⟩
  ·obtain ⟨c,hc,rfl⟩:=List.mem_map.mp ht
   have:=(mem_plS.mp hc).1
   show 0<=(c:Int)/\(c:Int)<((R.length:Nat):Int)
   omega
  ·rw [pairwise_map]
   exact (List.pairwise_lt_range.filter _).imp fun h=>by omega
 ·obtain ⟨x,hx,rfl⟩:=List.mem_map.mp ha
  exact ⟨ne x hx,Nat.le_trans pR (by omega),fun t ht=>(mem_plS.mp ht).1⟩
 ·obtain ⟨x,hx,rfl⟩:=List.mem_map.mp ha
  exact h.ok.mc _ (row x hx) c hc
theorem tX (ok:w.Ok) {r:Nat} (hr:r<w.n):(w.stp r).Nodup:=by
 obtain ⟨ts,e,_,_,_,hp⟩:=ok.g.s (av (w.stp r)) (List.mem_map.mpr ⟨w.stp r,by
  unfold Wd.stp;rw [getD_eq_getElem?_getD,getElem?_eq_getElem (by rw [ok.ls];exact hr)]
  exact getElem_mem _,rfl⟩)
 have e:=PyData.list.inj e
 rw [Fq] at e;have e:=(map_inj_right (f:=PyData.int) fun a b z=>PyData.int.inj z).mp e
 rw [<-e,pairwise_map] at hp;exact hp.imp fun h z=>by omega
end
theorem Az {R:List Nat}:shaped (av R)=true:=Du (by
 intro a ha;obtain ⟨x,_,rfl⟩:=List.mem_map.mp ha;exact ⟨_,rfl⟩)
end KC
namespace T
open PySem PySem.Spec L2
open PyProof.Rows hiding St
noncomputable def oy (ks:List Nat):Option Nat:=(List.range ks.length).find? fun i=>ks.all fun b=>decide (ks.getD i 0<=b)
theorem yg {ks:List Nat} {i:Nat} (hi:i<ks.length) (h:∀j,j<ks.length->ks.getD i 0<=ks.getD j 0/\(j<i->ks.getD i 0<ks.getD j 0)):oy ks=some i:=by
 unfold oy;rw [List.find?_range_eq_some];refine ⟨List.all_eq_true.mpr fun b hb=>?_,List.mem_range.mpr hi,fun j hj=>?_⟩
 ·obtain ⟨k,hk,e⟩:=getElem_of_mem hb
  have:=(h k hk).1
  rw [getD_eq_getElem?_getD (i:=k),getElem?_eq_getElem hk,e] at this;exact decide_eq_true this
 ·have:=(h j (by omega)).2 hj
  cases e:(ks.all fun b=>decide (ks.getD j 0<=b)) with
  | false=>rfl
  | true=>
   have hm:ks[i]∈ks:=getElem_mem hi
   have z:=of_decide_eq_true (List.all_eq_true.mp e _ hm)
   rw [getD_eq_getElem?_getD (i:=i),getElem?_eq_getElem hi] at this;exact absurd (Nat.lt_of_lt_of_le this z) (Nat.lt_irrefl _)
noncomputable def oC:PySem.PyData->Nat
 | .list xs=>xs.length
 | _=>0
noncomputable def Cc:PySem.PyData->Bool
 | .list _=>true
 | _=>false
noncomputable def fy (f:F1):F1:=fun Γ=>match f Γ with
 | .ok ⟨s,.list ds⟩ Γ1=>if !s.isView&&ds.all Cc then (match oy (ds.map oC) with
  | some i=>.ok ⟨.leaf,ds.getD i .none⟩ Γ1
  | none=>.no) else .no
 | .er c Γ1=>.er c Γ1
 | _=>.no
section
variable {K:Fg} {W:XW} {σ:St} {H:Hp} {Q:VK} {f:F1}
theorem vD {Γ Γ2:Ev} {q:PV} (h:fy f Γ=.ok q Γ2):∃s ds i,f Γ=.ok ⟨s,.list ds⟩ Γ2/\s.isView=false/\ds.all Cc=true/\oy (ds.map oC)=some i/\q=⟨.leaf,ds.getD i .none⟩:=by
 unfold fy at h;split at h
 ·rename_i s ds Γ1 e
  split at h
  ·rename_i hc
   rw [Bool.and_eq_true] at hc;split at h
   ·rename_i i ei
    cases h;exact ⟨s,ds,i,e,by simpa using hc.1,hc.2,ei,rfl⟩
   ·cases h
  ·cases h
 ·cases h
 ·cases h
theorem xu (h:tE K W (fy f) σ H Q):tE K W f σ H (fun x H1=>zD K [x] H1 Q):=by
 obtain ⟨He,O,Fs,Γ,E,h⟩:=h;refine ⟨He,O,Fs,Γ,E,?_⟩
 cases em:fy f Γ with
 | no=>rw [em] at h;exact h.elim
 | er c Γ'=>
  rw [em] at h;unfold fy at em;split at em
  ·split at em
   ·split at em<;>cases em
   ·cases em
  ·rename_i ef
   cases em;rw [ef];exact h
  ·cases em
 | ok q Γ2=>
  rw [em] at h;obtain ⟨s,ds,i,ef,hv,hall,hi,rfl⟩:=vD em;rw [ef];intro v H' G Fs' A
  have own:Own K (G++O++Fs'.flatten) H' s G v (.list ds):=A.own
  have rep:=pV (O:=O++Fs'.flatten) own hv (fun a ha z=>A.disj a ha z) (fun a ha=>by
   rcases List.mem_append.mp ha with z | z
   ·exact mem_append_left _ (mem_append_right _ z)
   ·exact mem_append_right _ z)
  cases rep with
  | @lst p vs _ hq hl hr=>
   have hil:i<ds.length:=by
    have:=List.mem_range.mp (List.mem_of_find?_eq_some hi)
    rwa [length_map] at this
   have ne:0<ds.length:=by omega
   refine ⟨p,vs,?_⟩
   have each:∀j:Nat,j<ds.length->∃(a:Addr) (l:List V),vs[j]?=some (.ref a)/\SqL K H' a l/\l.length=oC (ds.getD j .none):=fun j hj=>by
    have hjv:j<vs.length:=by omega
    have r:=hr j vs[j] ds[j] (getElem?_eq_getElem hjv) (getElem?_eq_getElem hj)
    have hd:=List.all_eq_true.mp hall _ (getElem_mem hj)
    rw [getD_eq_getElem?_getD,getElem?_eq_getElem hj,getElem?_eq_getElem hjv];show ∃(a:Addr) (l:List V),some vs[j]=some (.ref a)/\SqL K H' a l/\l.length=oC ds[j]
    generalize vs[j]=u at r
    generalize ds[j]=d at r hd
    cases r with
    | @lst a ws es hq2 hl2 hr2=>exact ⟨a,ws,rfl,hid_le.seq hq2,hl2⟩
    | _=>cases hd
   refine ⟨(List.range ds.length).map fun j=>if hj:j<ds.length then (each j hj).choose_spec.choose else [],rfl,hid_le.seq hq,by rw [hl,length_map,length_range],fun j w l h1 h2=>?_,by omega,fun j w l h1 h2 hmin=>?_⟩
   ·have hj:j<ds.length:=by have:=(List.getElem?_eq_some_iff.mp h1).1;omega
    rw [getElem?_map,List.getElem?_range hj] at h2;have h2:some (if hj:j<ds.length then (each j hj).choose_spec.choose else [])=some l:=h2
    rw [dif_pos hj] at h2
    cases h2;obtain ⟨g1,g2,_⟩:=(each j hj).choose_spec.choose_spec;rw [g1] at h1
    cases h1;exact ⟨_,rfl,g2⟩
   ·have hj:j<ds.length:=by have:=(List.getElem?_eq_some_iff.mp h1).1;omega
    have lenAt:∀k,k<ds.length->∃l',((List.range ds.length).map fun j=>if hj:j<ds.length then (each j hj).choose_spec.choose else [])[k]?=some l'/\l'.length=(ds.map oC).getD k 0:=fun k hk=>by
     refine ⟨(each k hk).choose_spec.choose,?_,?_⟩
     ·rw [getElem?_map,List.getElem?_range hk]
      show some (if hj:k<ds.length then (each k hj).choose_spec.choose else [])=_
      rw [dif_pos hk]
     ·have:=(each k hk).choose_spec.choose_spec.2.2
      rw [this,getD_eq_getElem?_getD,getD_eq_getElem?_getD,getElem?_map,getElem?_eq_getElem hk];rfl
    have eij:i=j:=by
     have:oy (ds.map oC)=some j:=by
      refine yg (by rw [length_map];exact hj) fun k hk=>?_
      rw [length_map] at hk;obtain ⟨l1,e1,f1⟩:=lenAt j hj;obtain ⟨l2,e2,f2⟩:=lenAt k hk;rw [h2] at e1
      cases e1;have:=hmin k l2 e2
      rw [<-f1,<-f2];exact this
     rw [hi] at this;exact Option.some.inj this
    subst eij;have r:=hr i w (ds.getD i .none) h1 (by rw [getD_eq_getElem?_getD,getElem?_eq_getElem hj];rfl)
    exact h w H' [] Fs' ⟨A.same,by rw [nil_append];exact A.go,fun a ha=>A.newF a (by simpa using ha),by rw [nil_append];exact .leaf r⟩
end
section
variable {X:Cx} {N gl:List Str} {vs cs ls lo gs:List Nat} {W:XW} {e:Expr} {pos p p2 kpos:Pos} {f:F1}
theorem cb_minL (S:Cp X N gl vs cs ls lo gs) (j k:Nat) (hj:gl[j]?=some ("min":Str)) (hg:gs.contains j=true) (hm:X.mg "min"=none) (hk:gl[k]?=some ("len":Str)) (hg2:gs.contains k=true) (hm2:X.mg "len"=none) (ha:PE X e (tE X.K W f)) (hs:starEach [e] X.env=[(false,eval e X.env)]) :
  PE X (.Call (.Name "min" p) [e] [⟨some "key",.Name "len" p2,kpos⟩] pos) (tE X.K W (fy f)):=
 aY (xQ S.calm (S.g hj hg).1 hm (S.g hk hg2).1 hm2 (o8 ha wx hs) hs) fun _ _ _ h=>xu h
end
end T
namespace TQ
open PySem PySem.Spec L2 T
open PyProof.Rows hiding St
section
variable {X:Cx} {N gl:List Str} {vs cs ls lo gs:List Nat} {W:XW} {e:Expr} {pos p p2 kpos:Pos} {f:F1}
theorem qD (S:Cp X N gl vs cs ls lo gs) (j k:Nat) (hj:gl[j]?=some ("min":Str)) (hg:gs.contains j=true) (hm:X.mg "min"=none) (hk:gl[k]?=some ("len":Str)) (hg2:gs.contains k=true) (hm2:X.mg "len"=none) (ha:Q (PE X e (tE X.K W f))) (hs:starEach [e] X.env=[(false,eval e X.env)]) :
  Q (PE X (.Call (.Name "min" p) [e] [⟨some "key",.Name "len" p2,kpos⟩] pos) (tE X.K W (fy f))):=⟨T.cb_minL S j k hj hg hm hk hg2 hm2 ha.p hs⟩
end
end TQ
namespace KC
open PySem PySem.Spec L2 T PySem.SeqAt
open PyProof.Rows hiding St
noncomputable abbrev N_reached:List Str:=["world", "room", "found", "waiting", "here", "there"]
noncomputable abbrev dg:List Str:=["check_world", "check_room", "sorted"]
noncomputable def gq (ss:List D) (h:Int):Option (List Int):=if 0<=h/\h<ss.length then (match ss[h.toNat]? with
 | some (.list xs)=>sI xs
 | _=>none) else none
noncomputable def stp (t:Int) (p:List Int×List Int):Option (List Int×List Int):=if p.1.contains t then some p else if p.1.length<1000/\p.2.length<1000 then some (p.1++[t],p.2++[t]) else none
noncomputable def fq:List Int->List Int×List Int->Option (List Int×List Int)
 | [],p=>some p
 | t::r,p=>(stp t p).bind (fq r)
noncomputable def wJ (sc:Int->Option (List Int)):Nat->List Int->List Int->Option (List Int)
 | 0,_,_=>none
 | n+1,ks,ws=>match ws.getLast? with
  | none=>some ks
  | some h=>(match sc h with
   | some ts=>(match fq ts (ks,ws.dropLast) with
    | some p=>wJ sc n p.1 p.2
    | none=>none)
   | none=>none)
noncomputable def BI (o:Option (List Int)):Res:=match o with
 | some ks=>if ks.length<64 then .ok ⟨.lst .leaf,.list ((PySem.W.sortI ks).map .int)⟩ else .no
 | none=>.no
noncomputable def aW (ds:List PySem.PyData):Res:=match ds with
 | [.tuple [.list os,.list ms,.list ss],.int r]=>(match aD [.tuple [.list os,.list ms,.list ss]] with
  | .ok _=>(match aN [.tuple [.list os,.list ms,.list ss],.int r] with
   | .ok _=>BI (wJ (gq ss) 1000 [r] [r])
   | _=>.no)
  | _=>.no)
 | _=>.no
noncomputable def JR (K:Fg):TT:=fun σ H Q=>bh 3 σ H fun x H'=>∃k,y3 K x H' k/\Q k H'
noncomputable def JS (K:Fg):L2.TS:=fI (gZ (DL K "list" D2 (bh 3)) (bR 4)) (w6 (iZ K (wI (Bk K) (wI (Bk K) (bh 0) (tC (.int 2))) (bh 4))) (bR 5) (w5 (tB (HE (bh 5) (bh 2))) (fI (pF (bh 2) (bh 5) (tC (.bl true))) (jM (Aw K "list" Fp (bh 3) (cH (bh 5) gY)))) pA))
noncomputable def nQ (K:Fg):L2.TS:=fI (tS K W0 (bq (ag 1 aD (ab (ae 0) af)))) (fI (tS K W0 (bq (ag 2 aN (ab (ae 0) (ab (ae 1) af)))))
 (fI (gZ (zw [(bh 1,tC (.bl true))]) (bR 2)) (fI (gZ (Au (cH (bh 1) gY)) (bR 3)) (fI (Fj (JR K) (JS K)) (tR (zx uA (cH (bh 2) gY)))))))
structure IR (He Hb:Hp) (wv:V) (r:Int) (f l:Addr) (σ:St) (H:Hp) (ks ws:List Int):Prop where
 st:∃x4 x5,σ=[some wv,some (.int r),some (.ref f),some (.ref l),x4,x5]
 hf:H f=some (.dK (cM ks (.bl true)))
 hl:H l=some (.lst (ws.map V.int))
 ne:f≠l
 s1:Same He H
 s2:Same Hb H
theorem HX {v:V} {t:Int}:∀{ks:List Int},(dy (cM ks v) (Sum.inl t:bL)).isSome=ks.contains t
 | []=>rfl
 | k::ks=>by
  by_cases h:k=t
  ·subst h
   have:dy (cM (k::ks) v) (Sum.inl k:bL)=some v:=Dx rfl
   rw [this];simp
  ·have e:dy (cM (k::ks) v) (Sum.inl t:bL)=dy (cM ks v) (Sum.inl t:bL):=Dw fun z=>h (by injection z)
   rw [e,HX,List.contains_cons];have:(t==k)=false:=by simpa using fun z=>h z.symm
   rw [this,Bool.false_or]
section
variable {K:Fg} {He Hb:Hp} {wv:V} {r:Int} {f l:Addr}
theorem AG {H:Hp} {os ms ss:List D} {h:Int} {ts:List Int} (rw_:Rep K Hb wv (.tuple [.list os,.list ms,.list ss])) (s2:Same Hb H) (hs:gq ss h=some ts) {σ:St} (h4:σ[4]?=some (some (.int h))) {Q:VK} (q:∀a,SqL K H a (ts.map V.int)->(∀H',Same Hb H'->SqL K H' a (ts.map V.int))->Q (.ref a) H) :
  Bk K wv (.int 2) H fun x H1=>∃v,σ[4]?=some (some v)/\Bk K x v H1 Q:=by
 cases rw_ with
 | @tup p vs _ hq hl hr=>
  match vs,hl with
  | [v0,v1,v2],_=>
   have r2:=hr 2 v2 (.list ss) rfl rfl
   refine .inr (.inl ⟨p,_,2,v2,rfl,rfl,gW s2 hq,rfl,.int h,h4,?_⟩)
   cases r2 with
   | @lst p2 rows _ hq2 hl2 hr2=>
    unfold gq at hs;split at hs
    case isFalse=>cases hs
    rename_i hc;have hn:h.toNat<ss.length:=by omega
    rw [getElem?_eq_getElem hn] at hs;have hn2:h.toNat<rows.length:=by omega
    have r3:=hr2 h.toNat (rows[h.toNat]'hn2) (ss[h.toNat]'hn) (getElem?_eq_getElem _) (getElem?_eq_getElem _)
    refine .inl ⟨p2,rows,h,rows[h.toNat]'hn2,rfl,rfl,s2.seq hq2,?_,?_⟩
    ·unfold eF eC
     rw [if_pos hc.1,if_pos (by omega)]
     exact getElem?_eq_getElem _
    ·generalize rows[h.toNat]'hn2=rv at r3
     generalize ss[h.toNat]'hn=d at r3 hs
     cases r3 with
     | @lst a vals xs hq3 hl3 hr3=>
      have hs:sI xs=some ts:=hs
      have hx:=HQ hs
      subst hx;have ev:vals=ts.map V.int:=by
       apply ext_getElem?
       intro i;by_cases hi:i<vals.length
       ·have hi2:i<ts.length:=by rw [length_map] at hl3;omega
        have q:=hr3 i (vals[i]'hi) (.int (ts[i]'hi2)) (getElem?_eq_getElem _) (by rw [getElem?_map,getElem?_eq_getElem hi2];rfl)
        rw [getElem?_eq_getElem hi,getElem?_map,getElem?_eq_getElem hi2];generalize vals[i]'hi=u at q
        cases q;rfl
       ·rw [getElem?_eq_none (by omega),getElem?_eq_none (by rw [length_map] at hl3 ⊢;omega)]
      rw [ev] at hq3;exact q a (s2.seq hq3) fun H' s=>s.seq hq3
     | _=>cases hs
theorem AO {H:Hp} {σ:St} {ks ws:List Int} {ts:List Int} {a:Addr} {D:gh} {p:List Int×List Int} (hf1:He f=none) (hf2:Hb f=none) (hl1:He l=none) (hl2:Hb l=none) (I:IR He Hb wv r f l σ H ks ws) (hp:fq ts (ks,ws)=some p)
  (hS:∀H',Same Hb H'->SqL K H' a (ts.map V.int)) (hD:∀σ H,IR He Hb wv r f l σ H p.1 p.2->D.nx σ H) :
  ∃W:Nat->Nat->St->Hp->Prop,(∃m,W 0 m σ H)/\∀i m σ H,W i m σ H ->
   ((CW K a).stop i H/\D.nx σ H)\/((CW K a).go i H/\∃N:St->Hp->Prop,(∀σ' H',N σ' H'->∃m',m'<m/\W (i+1) m' σ' H')/\∀x H',(CW K a).yld i H x H'->bR 5 x σ H' fun σ2 H2=>
    w5 (tB (HE (bh 5) (bh 2))) (fI (pF (bh 2) (bh 5) (tC (.bl true))) (jM (Aw K "list" Fp (bh 3) (cH (bh 5) gY)))) pA { D with nx:=N,ct:=N,bk:=D.nx } σ2 H2):=by
 refine ⟨fun i m σ H=>m=ts.length-i/\i<=ts.length/\∃ks ws,IR He Hb wv r f l σ H ks ws/\fq (ts.drop i) (ks,ws)=some p,⟨ts.length,by simp,Nat.zero_le _,ks,ws,I,by simpa using hp⟩,?_⟩
 rintro i m σ H ⟨rfl,hi,ks,ws,I,hp⟩
 have hq:=hS H I.s2
 by_cases hlt:i<ts.length
 case neg=>
  left
  have:ts.drop i=[]:=drop_eq_nil_of_le (by omega)
  rw [this] at hp
  cases hp;exact ⟨⟨_,hq,by rw [length_map];omega⟩,hD σ H I⟩
 case pos=>
  right
  have hdr:ts.drop i=ts[i]::ts.drop (i+1):=drop_eq_getElem_cons hlt
  rw [hdr] at hp;have hget:(ts.map V.int)[i]?=some (.int ts[i]):=by rw [getElem?_map,getElem?_eq_getElem hlt];rfl
  generalize ts[i]=t at hp hget
  refine ⟨⟨_,_,hq,hget⟩,fun σ' H'=>∃ks ws,IR He Hb wv r f l σ' H' ks ws/\fq (ts.drop (i+1)) (ks,ws)=some p,fun σ' H' q=>⟨ts.length-(i+1),by omega,rfl,hlt,q⟩,?_⟩
  rintro x H' ⟨rfl,hx⟩
  have ex:x=.int t:=Option.some.inj ((hx _ hq).symm.trans hget)
  subst ex;obtain ⟨⟨x4,x5,rfl⟩,if_,il,ine,is1,is2⟩:=I;refine ⟨.int t,rfl,.ref f,rfl,f,_,rfl,DGet.k (k:=(Sum.inl t:bL)) if_,!(dy (cM ks (.bl true)) (Sum.inl t:bL)).isSome,rfl,?_⟩
  rw [HX];simp only [fq] at hp
  cases hc:ks.contains t with
  | true=>
   have e:stp t (ks,ws)=some (ks,ws):=by unfold stp;rw [if_pos hc]
   rw [e] at hp;exact iU ⟨ks,ws,⟨⟨_,_,rfl⟩,if_,il,ine,is1,is2⟩,hp⟩
  | false=>
   by_cases hz:ks.length<1000/\ws.length<1000
   case neg=>
    have e:stp t (ks,ws)=none:=by unfold stp;rw [if_neg (by rw [hc];exact Bool.false_ne_true),if_neg hz]
    rw [e] at hp
    cases hp
   have e:stp t (ks,ws)=some (ks++[t],ws++[t]):=by unfold stp;rw [if_neg (by rw [hc];exact Bool.false_ne_true),if_pos hz]
   rw [e] at hp;have hb:(1000:Nat)<=sizeLine:=by decide
   have hkl:(cM ks (.bl true)).length<sizeLine:=by unfold cM;rw [length_map];omega
   have hnew:eB (cM ks (.bl true)) (Sum.inl t:bL) (.bl true)=cM (ks++[t]) (.bl true):=by
    rw [lT _ (by
     cases ev:dy (cM ks (.bl true)) (Sum.inl t:bL) with
     | none=>rfl
     | some z=>have:=HX (v:=.bl true) (t:=t) (ks:=ks);rw [ev,hc] at this;cases this)]
    unfold cM;rw [map_append];rfl
   refine iT ⟨.ref f,rfl,.int t,rfl,f,bx H' f (.dK (cM (ks++[t]) (.bl true))),rfl,?_,?_⟩
   ·have:=DPut.k (v:=.bl true) (k:=(Sum.inl t:bL)) if_ hkl
    rw [hnew] at this;exact this
   ·have hlu:bx H' f (.dK (cM (ks++[t]) (.bl true))) l=some (.lst (ws.map V.int)):=by rw [cQ (Ne.symm ine)];exact il
    refine ⟨.ref l,rfl,.inl ⟨rfl,_,.of hlu⟩,.int t,rfl,l,ws.map V.int,.int t,rfl,rfl,hlu,by rw [length_map];omega,ks++[t],ws++[t],⟨⟨_,_,rfl⟩,?_,?_,ine,?_,?_⟩,hp⟩
    ·rw [cQ ine,dQ]
    ·rw [dQ,map_append];rfl
    ·intro b o hb
     rw [cQ (kf hb hl1),cQ (kf hb hf1)];exact is1 b o hb
    ·intro b o hb
     rw [cQ (kf hb hl2),cQ (kf hb hf2)];exact is2 b o hb
theorem xv {H:Hp} {σ:St} {os ms ss:List D} {ks ws res:List Int} {n:Nat} {D:gh} (rw_:Rep K Hb wv (.tuple [.list os,.list ms,.list ss])) (hf1:He f=none) (hf2:Hb f=none) (hl1:He l=none) (hl2:Hb l=none) (I:IR He Hb wv r f l σ H ks ws) (hg:wJ (gq ss) n ks ws=some res)
  (hD:∀σ H ws,IR He Hb wv r f l σ H res ws->D.nx σ H):Fj (JR K) (JS K) D σ H:=by
 refine ⟨fun m σ H=>∃ks ws,IR He Hb wv r f l σ H ks ws/\wJ (gq ss) m ks ws=some res,⟨n,ks,ws,I,hg⟩,?_⟩
 rintro m σ H ⟨ks,ws,I,hg⟩
 cases m with
 | zero=>cases hg
 | succ m=>
  have I0:=I
  obtain ⟨⟨x4,x5,rfl⟩,if_,il,ine,is1,is2⟩:=I;refine ⟨.ref l,rfl,!(ws.map V.int).isEmpty,.inl ⟨_,.of il,rfl⟩,?_⟩
  rw [wJ] at hg
  cases hw:ws.getLast? with
  | none=>
   rw [hw] at hg
   cases hg;have:ws=[]:=List.getLast?_eq_none_iff.mp hw
   subst this;exact iU (hD _ _ _ I0)
  | some h=>
   rw [hw] at hg;dsimp only at hg
   cases hs:gq ss h with
   | none=>rw [hs] at hg;cases hg
   | some ts=>
    rw [hs] at hg;dsimp only at hg
    cases hp:fq ts (ks,ws.dropLast) with
    | none=>rw [hp] at hg;cases hg
    | some p=>
     rw [hp] at hg;dsimp only at hg;have hne:ws≠[]:=fun z=>by rw [z] at hw;cases hw
     have he:(!(ws.map V.int).isEmpty)=true:=by cases ws with | nil=>exact absurd rfl hne | cons a r=>rfl
     rw [he];refine iT ⟨fun σ' H'=>∃ks ws,IR He Hb wv r f l σ' H' ks ws/\wJ (gq ss) m ks ws=some res,fun σ' H' q=>⟨m,Nat.lt_succ_self _,q⟩,?_⟩
     have hlast:(ws.map V.int)[(ws.map V.int).length-1]?=some (.int h):=by
      rw [getElem?_map,length_map,<-List.getLast?_eq_getElem?,hw];rfl
     refine ⟨.ref l,rfl,.inl ⟨rfl,_,.of il⟩,l,_,.int h,rfl,rfl,il,hlast,?_⟩
     have I2:IR He Hb wv r f l [some wv,some (.int r),some (.ref f),some (.ref l),some (.int h),x5] (bx H l (.lst (ws.map V.int).dropLast)) ks ws.dropLast:=⟨⟨_,_,rfl⟩,by rw [cQ ine];exact if_,by rw [dQ,List.map_dropLast],ine,fun b o hb=>by rw [cQ (kf hb hl1)];exact is1 b o hb,fun b o hb=>by rw [cQ (kf hb hl2)];exact is2 b o hb⟩
     refine ⟨wv,rfl,AG rw_ I2.s2 hs rfl fun a h1 hS=>⟨a,rfl,⟨_,h1⟩,AO hf1 hf2 hl1 hl2 I2 hp hS fun σ H I=>⟨_,_,I,hg⟩⟩⟩
end
theorem tq {Γ Γ1:Ev} {fa:F1} {p:PV} (h:fa Γ=.ok p Γ1):bq fa Γ=.nx Γ1:=by unfold bq iF;rw [h]
theorem um {K:Fg} {H:Hp} {O:List Addr} {vs:List V} {os ms ss:List D} {r:Int} {ks:List Int} {p1 p2:PV} {Q:VK} {Qn:St->Hp->Prop} (nd:O.Nodup) (inH:∀a∈O,H a≠none) (rs:Reps K (bX H O) vs [.tuple [.list os,.list ms,.list ss],.int r])
  (h1:aD [.tuple [.list os,.list ms,.list ss]]=.ok p1) (h2:aN [.tuple [.list os,.list ms,.list ss],.int r]=.ok p2) (hg:wJ (gq ss) 1000 [r] [r]=some ks) (h64:ks.length<64)
  (q:∀v H' G,RetOk K H O ⟨.lst .leaf,.list ((PySem.W.sortI ks).map .int)⟩ v H' G->Q v H'):nQ K { nx:=Qn,rt:=Q } (L2.start N_reached vs) H:=by
 have hvl:vs.length=2:=rs.1
 have E0:=jY (K:=K) (N:=N_reached) (H:=H) (O:=O) (vs:=vs) (by rw [hvl];decide) nd inH rs
 have g1:bq (ag 1 aD (ab (ae 0) af)) (aH N_reached.length [.tuple [.list os,.list ms,.list ss],.int r])=.nx (aH N_reached.length [.tuple [.list os,.list ms,.list ss],.int r]):=tq (bP (az (ay rfl) aj) h1 rfl rfl)
 have g2:bq (ag 2 aN (ab (ae 0) (ab (ae 1) af))) (aH N_reached.length [.tuple [.list os,.list ms,.list ss],.int r])=.nx (aH N_reached.length [.tuple [.list os,.list ms,.list ss],.int r]):=tq (bP (az (ay rfl) (az (ay rfl) aj)) h2 rfl rfl)
 refine ⟨H,O,_,_,E0,?_⟩
 rw [g1];intro σ1 H1 Fs1 E1;refine ⟨H,O,_,_,E1,?_⟩
 rw [g2];intro σ2 H2 Fs2 E2;have hl6:σ2.length=6:=E2.len1
 obtain ⟨_,v0,F0,e0,_,o0⟩:=E2.slot 0 ⟨.leaf,.tuple [.list os,.list ms,.list ss]⟩ rfl
 obtain ⟨_,v1,F1',e1,_,o1⟩:=E2.slot 1 ⟨.leaf,.int r⟩ rfl
 cases o0 with
 | leaf r0=>
  cases o1 with
  | leaf r1=>
   cases r1;match σ2,hl6,e0,e1 with
   | [a0,a1,a2,a3,a4,a5],_,e0,e1=>
    have ea0:a0=some v0:=by simpa using e0
    have ea1:a1=some (.int r):=by simpa using e1
    subst ea0 ea1;intro f hf;refine ⟨.int r,rfl,dQ,[((Sum.inl r:bL),.bl true)],rfl,(by show 1<=15;decide),?_⟩
    refine ⟨.int r,rfl,(by show 1<=sizeLine;decide),fun l hl=>?_⟩
    have hfl:f≠l:=fun z=>by
     rw [<-z,dQ] at hl
     cases hl
    have hl2:H2 l=none:=by rw [cQ (Ne.symm hfl),cQ (Ne.symm hfl)] at hl;exact hl
    have sH:Same H2 (bx (bx (bx H2 f (.dK [])) f (.dK (Aa [] [((Sum.inl r:bL),.bl true)]))) l (.lst [.int r])):=fun b o hb=>by
     rw [cQ (kf hb hl2),cQ (kf hb hf),cQ (kf hb hf)];exact hb
    have hHf:H f=none:=E2.same.free hf
    have hHl:H l=none:=E2.same.free hl2
    have hbf:bX H2 (O++Fs2.flatten) f=none:=by unfold bX;split<;>first | rfl | exact hf
    have hbl:bX H2 (O++Fs2.flatten) l=none:=by unfold bX;split<;>first | rfl | exact hl2
    have I:IR H (bX H2 (O++Fs2.flatten)) v0 r f l [some v0,some (.int r),some (.ref f),some (.ref l),a4,a5] (bx (bx (bx H2 f (.dK [])) f (.dK (Aa [] [((Sum.inl r:bL),.bl true)]))) l (.lst [.int r])) [r] [r]:=
     ⟨⟨_,_,rfl⟩,by rw [cQ hfl,dQ];rfl,dQ,hfl,E2.same.trans sH,hid_le.trans sH⟩
    refine xv (He:=H) (Hb:=bX H2 (O++Fs2.flatten)) r0 hHf hbf hHl hbl I hg fun σ3 H3 ws I3=>?_
    obtain ⟨⟨x4,x5,rfl⟩,if_,il,ine,is1,is2⟩:=I3;refine ⟨.ref f,rfl,f,ks,.bl true,rfl,if_,h64,fun p hp=>q _ _ [p] ⟨is1.trans (gG hp),fun a ha=>by rw [List.mem_singleton.mp ha];exact is1.free hp,fun a ha=>by rw [List.mem_singleton.mp ha,dQ];exact Option.some_ne_none _,by simp,?_,rfl⟩⟩
    refine Own.mkLeaves dQ (by simp) fun j u d h1 h2=>?_
    rw [getElem?_map] at h1 h2
    cases e3:(PySem.W.sortI ks)[j]? with
    | none=>rw [e3] at h1;cases h1
    | some z=>
     rw [e3] at h1 h2
     cases h1
     cases h2;exact .int z
theorem kC {ds:List D} {p:PV} (h:aW ds=.ok p):∃os ms ss r ks p1 p2,ds=[.tuple [.list os,.list ms,.list ss],.int r]/\aD [.tuple [.list os,.list ms,.list ss]]=.ok p1/\aN [.tuple [.list os,.list ms,.list ss],.int r]=.ok p2/\wJ (gq ss) 1000 [r] [r]=some ks/\ks.length<64/\p=⟨.lst .leaf,.list ((PySem.W.sortI ks).map .int)⟩:=by
 unfold aW at h;split at h
 ·rename_i os ms ss r
  split at h
  ·rename_i p1 e1
   split at h
   ·rename_i p2 e2
    unfold BI at h;split at h
    ·rename_i ks e3
     split at h
     ·rename_i h64
      cases h;exact ⟨os,ms,ss,r,ks,p1,p2,rfl,e1,e2,e3,h64,rfl⟩
     ·cases h
    ·cases h
   ·cases h
  ·cases h
 ·cases h
theorem Hi {α:Type} [DecidableEq α]:∀{ks L:List α},ks.Nodup->(∀x∈ks,x∈L)->ks.length<=L.length
 | [],_,_,_=>Nat.zero_le _
 | x::ks,L,nd,h=>by
  have hx:=h x mem_cons_self
  obtain ⟨n1,n2⟩:=List.nodup_cons.mp nd;have ih:=Hi (ks:=ks) (L:=L.erase x) n2 fun y hy=>(List.mem_erase_of_ne (fun z:y=x=>n1 (by rw [<-z];exact hy))).mpr (h y (mem_cons_of_mem _ hy))
  have hl:=List.length_erase_of_mem hx
  have:0<L.length:=length_pos_of_mem hx
  rw [length_cons];omega
theorem Hz {n:Nat} {ks:List Int} (nd:ks.Nodup) (h:∀x∈ks,0<=x/\x<(n:Int)):ks.length<=n:=by
 have:=Hi (L:=(List.range n).map fun i:Nat=>(i:Int)) nd fun x hx=>by
  obtain ⟨a,b⟩:=h x hx;exact List.mem_map.mpr ⟨x.toNat,List.mem_range.mpr (by omega),by omega⟩
 simpa using this
section
variable {n:Nat} {sc:Int->Option (List Int)}
inductive Rc (sc:Int->Option (List Int)) (r:Int):Int->Prop where
 | refl:Rc sc r r
 | step {x t:Int} {ts:List Int}:Rc sc r x->sc x=some ts->t∈ts->Rc sc r t
noncomputable def KL (sc:Int->Option (List Int)) (ks:List Int):Prop:=∀x∈ks,∀ts,sc x=some ts->∀t∈ts,t∈ks
theorem G8:∀(ts ks ws:List Int),ks.Nodup->ks.length+ts.length<1000->ws.length+ts.length<1000->∃ks' ws',fq ts (ks,ws)=some (ks',ws')/\ks'.Nodup/\(∀x∈ks,x∈ks')/\(∀t∈ts,t∈ks')/\(∀x∈ks',x∈ks\/x∈ts)/\(∀x∈ks',x∈ks\/x∈ws')/\(∀x∈ws,x∈ws')/\(∀x∈ws',x∈ws\/x∈ks')/\ws'.length+ks.length=ws.length+ks'.length
 | [],ks,ws,nd,_,_=>⟨ks,ws,rfl,nd,fun _ h=>h,fun _ h=>(nomatch h),fun _ h=>.inl h,fun _ h=>.inl h,fun _ h=>h,fun _ h=>.inl h,rfl⟩
 | t::ts,ks,ws,nd,h1,h2=>by
  rw [length_cons] at h1 h2
  cases hc:ks.contains t with
  | true=>
   have e:stp t (ks,ws)=some (ks,ws):=by unfold stp;rw [if_pos hc]
   obtain ⟨ks',ws',a0,a1,a2,a3,a4,a5,a6,a7,a8⟩:=G8 ts ks ws nd (by omega) (by omega)
   refine ⟨ks',ws',by rw [fq,e];exact a0,a1,a2,fun x hx=>?_,fun x hx=>(a4 x hx).elim .inl fun z=>.inr (mem_cons_of_mem _ z),a5,a6,a7,a8⟩
   rcases List.mem_cons.mp hx with z | z
   ·rw [z];exact a2 t (by simpa using hc)
   ·exact a3 x z
  | false=>
   have hnt:t∉ks:=by simpa using hc
   have e:stp t (ks,ws)=some (ks++[t],ws++[t]):=by unfold stp;rw [if_neg (by rw [hc];exact Bool.false_ne_true),if_pos ⟨by show ks.length<1000;omega,by show ws.length<1000;omega⟩]
   have nd':(ks++[t]).Nodup:=List.nodup_append.mpr ⟨nd,by simp,fun a ha b hb z=>hnt (by rw [List.mem_singleton.mp hb] at z;rw [<-z];exact ha)⟩
   obtain ⟨ks',ws',a0,a1,a2,a3,a4,a5,a6,a7,a8⟩:=G8 ts (ks++[t]) (ws++[t]) nd' (by simp;omega) (by simp;omega)
   refine ⟨ks',ws',by rw [fq,e];exact a0,a1,fun x hx=>a2 x (mem_append_left _ hx),fun x hx=>?_,fun x hx=>?_,fun x hx=>?_,fun x hx=>a6 x (mem_append_left _ hx),fun x hx=>?_,by simp at a8;omega⟩
   ·rcases List.mem_cons.mp hx with z | z
    ·rw [z];exact a2 t (mem_append_right _ (List.mem_singleton.mpr rfl))
    ·exact a3 x z
   ·rcases a4 x hx with z | z
    ·rcases List.mem_append.mp z with z | z
     ·exact .inl z
     ·exact .inr (by rw [List.mem_singleton.mp z];exact mem_cons_self)
    ·exact .inr (mem_cons_of_mem _ z)
   ·rcases a5 x hx with z | z
    ·rcases List.mem_append.mp z with z | z
     ·exact .inl z
     ·exact .inr (a6 x (mem_append_right _ z))
    ·exact .inr z
   ·rcases a7 x hx with z | z
    ·rcases List.mem_append.mp z with z | z
     ·exact .inl z
     ·exact .inr (a2 x (mem_append_right _ z))
    ·exact .inr z
theorem uD (hn:n<=100) (hsc:∀h:Int,0<=h->h<(n:Int)->∃ts,sc h=some ts/\ts.length<=100/\∀t∈ts,0<=t/\t<(n:Int)) {r:Int}:∀(m:Nat) (ks ws:List Int),ks.Nodup->(∀x∈ks,0<=x/\x<(n:Int))->(∀x∈ws,x∈ks)->ws.length<=ks.length ->
  (∀x∈ks,x∈ws\/∀ts,sc x=some ts->∀t∈ts,t∈ks)->(∀x∈ks,Rc sc r x)->ws.length+(n-ks.length)<m->∃res,wJ sc m ks ws=some res/\res.Nodup/\(∀x∈res,0<=x/\x<(n:Int))/\(∀x∈ks,x∈res)/\KL sc res/\∀x∈res,Rc sc r x
 | 0,_,_,_,_,_,_,_,_,h=>by omega
 | m+1,ks,ws,nd,hr,hw,hl,hc,hR,h=>by
  rw [wJ]
  cases hg:ws.getLast? with
  | none=>
   have:ws=[]:=List.getLast?_eq_none_iff.mp hg
   subst this;exact ⟨ks,rfl,nd,hr,fun _ h=>h,fun x hx ts e t ht=>(hc x hx).elim nofun fun z=>z ts e t ht,hR⟩
  | some a=>
   dsimp only;have ha:a∈ws:=mem_of_getLast? hg
   obtain ⟨ts,e,htl,ht⟩:=hsc a (hr a (hw a ha)).1 (hr a (hw a ha)).2;rw [e];dsimp only;have hkl:=Hz nd hr
   have hwne:ws≠[]:=fun z=>by rw [z] at ha;cases ha
   have hdl:ws.dropLast.length=ws.length-1:=List.length_dropLast
   have hwp:0<ws.length:=length_pos_of_mem ha
   obtain ⟨ks',ws',a0,a1,a2,a3,a4,a5,a6,a7,a8⟩:=G8 ts ks ws.dropLast nd (by omega) (by omega)
   rw [a0];dsimp only;have hr':∀x∈ks',0<=x/\x<(n:Int):=fun x hx=>(a4 x hx).elim (hr x) (ht x)
   have hkl':=Hz a1 hr'
   have hsub:ks.length<=ks'.length:=Hi nd a2
   have key:∀x∈ks,x∈ws.dropLast\/x=a\/∀ts,sc x=some ts->∀t∈ts,t∈ks:=fun x hx=>by
    rcases hc x hx with z | z
    ·have:ws=ws.dropLast++[a]:=by
      obtain ⟨ys,e⟩:=List.getLast?_eq_some_iff.mp hg
      rw [e];simp
     rw [this] at z;rcases List.mem_append.mp z with z | z
     ·exact .inl z
     ·exact .inr (.inl (List.mem_singleton.mp z))
    ·exact .inr (.inr z)
   have g1:∀x∈ks',x∈ws'\/∀ts,sc x=some ts->∀t∈ts,t∈ks':=fun x hx=>by
    rcases a5 x hx with z | z
    ·rcases key x z with y | y | y
     ·exact .inl (a6 x y)
     ·refine .inr fun ts' e' t ht'=>?_
      rw [y,e] at e'
      cases e'
      exact a3 t ht'
     ·exact .inr fun ts' e' t ht'=>a2 t (y ts' e' t ht')
    ·exact .inl z
   have g2:∀x∈ks',Rc sc r x:=fun x hx=>by
    rcases a4 x hx with z | z
    ·exact hR x z
    ·exact .step (hR a (hw a ha)) e z
   obtain ⟨res,b0,b1,b2,b3,b4,b5⟩:=uD hn hsc m ks' ws' a1 hr' (fun x hx=>(a7 x hx).elim (fun z=>a2 x (hw x (List.dropLast_subset _ z))) fun z=>z) (by omega) g1 g2 (by omega)
   exact ⟨res,b0,b1,b2,fun x hx=>b3 x (a2 x hx),b4,b5⟩
end
theorem u1 {P:Program} {w:World} {K:Fg} {mg:Str->Option Value} {base:Heap} {f:Addr} {fd:FuncData} {s_reached:Stmt} {j1 j2 k:Nat} (F:Fun K "reached" "reached" s_reached f fd) (hm:mg "reached"=some (.ref f)) (b:Binds K fd ["world", "room"] []) (n_sorted:mg "sorted"=none)
  (c1:DefOk P w K mg base j1 "check_world" 1 aD) (c2:DefOk P w K mg base j2 "check_room" 2 aN) (hj1:decide (j1<=k)=true) (hj2:decide (j2<=k)=true) {vs cs ls lo gs:List Nat} (sc:cy N_reached ["world", "room"] (fH s_reached)) (cp:j3 N_reached dg vs cs ls lo gs (fH s_reached)=true) (nm:u9 N_reached dg=true)
  (bd:∀X:Cx,Cp X N_reached dg vs cs ls lo gs->Rm X->PassesOwn (model X.prog X.w) X.A X.env X.xe->X.mg "sorted"=none->wN X "check_world" 1 aD->wN X "check_room" 2 aN->PSs X (nK s_reached) (nQ X.K)):DefOk P w K mg base (k+1) "reached" 2 aW:=by
 refine ⟨f,fd,["world", "room"],F.ok sc (fun vs H Q E h=>h.1) (fun cdv A outer s H vs Q E hr h=>⟨_,bd _ (Cp.fn cp nm) hr.units PassesOwn.never n_sorted (c1.cal hr hj1) (c2.cal hr hj2),?_⟩),hm,F.kp,b⟩
 obtain ⟨hl,O,ds,nd,inH,rs,w⟩:=h
 cases e:aW ds with
 | er c=>rw [e] at w;exact w.elim
 | no=>rw [e] at w;exact w.elim
 | ok p=>
  rw [e] at w;obtain ⟨os,ms,ss,r,ks,p1,p2,rfl,e1,e2,e3,h64,rfl⟩:=kC e;exact um nd inH rs e1 e2 e3 h64 w
inductive nB (w:Wd) (r:Nat):Nat->Prop where
 | refl:nB w r r
 | step {x t:Nat}:nB w r x->t∈w.stp x->nB w r t
theorem uc {w:Wd} (ok:w.Ok) {h:Int} (h0:0<=h) (h1:h<(w.n:Int)):gq (w.s.map av) h=some ((w.stp h.toNat).map fun t:Nat=>(t:Int)):=by
 have hl:h.toNat<w.s.length:=by rw [ok.ls];omega
 unfold gq;rw [if_pos ⟨h0,by rw [length_map,ok.ls];exact h1⟩,getElem?_map,getElem?_eq_getElem hl]
 show sI _=_
 unfold Wd.stp;rw [getD_eq_getElem?_getD,getElem?_eq_getElem hl,Fq,iX];rfl
theorem gR {w:Wd} (ok:w.Ok) {r:Nat} (hr:r<w.n):∃S,aW [w.enc,rm r]=.ok ⟨.lst .leaf,av S⟩/\Std w.n S/\r∈S/\(∀x∈S,∀t∈w.stp x,t∈S)/\∀x∈S,nB w r x:=by
 have h24:=ok.h24
 obtain ⟨res,e,nd,rg,hin,cl,rc⟩:=uD (n:=w.n) (sc:=gq (w.s.map av)) (by omega) (fun h h0 h1=>⟨_,uc ok h0 h1,by
  rw [length_map];have:=ok.z.len (r:=h.toNat)
  exact Nat.le_trans (Jk (tX ok (by omega)) fun x hx=>ok.stp_lt hx) (by omega),fun t ht=>by
  obtain ⟨z,hz,rfl⟩:=List.mem_map.mp ht;have:=ok.stp_lt hz
  omega⟩) (r:=(r:Int)) 1000 [(r:Int)] [(r:Int)] (by simp) (fun x hx=>by rw [List.mem_singleton.mp hx];omega) (fun x hx=>hx) (by simp) (fun x hx=>.inl hx) (fun x hx=>by rw [List.mem_singleton.mp hx];exact .refl) (by simp;omega)
 have hlen:=Hz nd rg
 have hS:PySem.W.sortI res=((List.range w.n).filter fun x:Nat=>res.contains (x:Int)).map fun t:Nat=>(t:Int):=by
  symm
  refine PySem.W.eq_sortI ?_ ?_
  ·refine (List.perm_ext_iff_of_nodup (List.pairwise_map.mpr (List.Pairwise.imp (R:=fun a b:Nat=>a≠b) (fun h z=>h (Int.ofNat_inj.mp z)) ((nodup_range).sublist filter_sublist))) nd).mpr fun x=>?_
   rw [mem_map];constructor
   ·rintro ⟨t,ht,rfl⟩
    exact List.contains_iff_mem.mp (List.mem_filter.mp ht).2
   ·intro hx
    obtain ⟨a,b⟩:=rg x hx;have ex:((x.toNat:Nat):Int)=x:=by omega
    exact ⟨x.toNat,List.mem_filter.mpr ⟨List.mem_range.mpr (by omega),List.contains_iff_mem.mpr (by rw [ex];exact hx)⟩,ex⟩
  ·rw [pairwise_map]
   exact (List.pairwise_lt_range.filter _).imp fun h=>by omega
 have mem:∀{x:Nat},x∈(List.range w.n).filter (fun x:Nat=>res.contains (x:Int))↔(x:Int)∈res:=fun {x}=>by
  rw [mem_filter,mem_range,contains_iff_mem];exact ⟨fun h=>h.2,fun h=>⟨by have:=rg _ h;omega,h⟩⟩
 refine ⟨(List.range w.n).filter fun x:Nat=>res.contains (x:Int),?_,Std.of _,mem.mpr (hin _ (by simp)),fun x hx t ht=>?_,fun x hx=>?_⟩
 ·have c1:aD [.tuple [.list w.os,.list (w.m.map cG),.list (w.s.map av)]]=.ok ⟨.leaf,.none⟩:=ok.check
  have c2:aN [.tuple [.list w.os,.list (w.m.map cG),.list (w.s.map av)],.int (r:Int)]=.ok ⟨.leaf,.none⟩:=eV ok hr
  show aW [.tuple [.list w.os,.list (w.m.map cG),.list (w.s.map av)],.int (r:Int)]=_
  unfold aW;simp only [c1,c2,e,BI]
  rw [if_pos (by omega),hS,map_map]
  rfl
 ·have hx:=mem.mp hx
  have:=rg _ hx
  refine mem.mpr (cl _ hx _ (uc ok this.1 this.2) _ ?_)
  rw [Int.toNat_natCast];exact List.mem_map.mpr ⟨t,ht,rfl⟩
 ·have go:∀y,Rc (gq (w.s.map av)) (r:Int) y->0<=y/\y<(w.n:Int)/\nB w r y.toNat:=fun y h=>by
   induction h with
   | refl=>exact ⟨by omega,by omega,by rw [Int.toNat_natCast];exact .refl⟩
   | step _ e ht ih=>
    rw [uc ok ih.1 ih.2.1] at e
    cases e;obtain ⟨z,hz,rfl⟩:=List.mem_map.mp ht;have:=ok.stp_lt hz
    exact ⟨by omega,by omega,by rw [Int.toNat_natCast];exact .step ih.2.2 hz⟩
  have:=(go _ (rc _ (mem.mp hx))).2.2
  rwa [Int.toNat_natCast] at this
end KC
namespace KC
open PySem PySem.Spec L2 T
open PyProof.Rows hiding St
noncomputable def s_reached:Stmt:=IC 20
theorem nR:cy N_reached ["world", "room"] (fH s_reached):=⟨rfl,rfl,rfl,by decide +kernel,rfl,by decide +kernel,by decide +kernel⟩
theorem oW:j3 N_reached dg [0,1,2,3,4,5] [] [0,1,2,3,4,5] [0,1,2,3,4,5] [0,1,2] (fH s_reached)=true:=by kernel_rfl
theorem ox:u9 N_reached dg=true:=by kernel_rfl
theorem o4 {X:Cx} (S:Cp X N_reached dg [0,1,2,3,4,5] [] [0,1,2,3,4,5] [0,1,2,3,4,5] [0,1,2]) (R:Rm X) (hp:PassesOwn (model X.prog X.w) X.A X.env X.xe) (n_sorted:X.mg "sorted"=none) (c1:wN X "check_world" 1 aD) (c2:wN X "check_room" 2 aN) :
  PSs X (nK s_reached) (nQ X.K):=by
 have hN:X.N.Nodup:=by rw [S.hN];exact S.nd
 have v:∀(i:Nat) (x:Str) (pos:Pos),N_reached[i]?=some x->PE X (.Name x pos) (bh i):=fun i x pos e=>by
  have hi:[0,1,2,3,4,5].contains i=true:=by
   have:=(List.getElem?_eq_some_iff.mp e).1
   have h6:i<6:=this
   match i,h6 with
   | 0,_=>rfl
   | 1,_=>rfl
   | 2,_=>rfl
   | 3,_=>rfl
   | 4,_=>rfl
   | 5,_=>rfl
  have m:=S.nm x (mem_of_getElem? e)
  exact wQ (by rw [S.hN];exact e) (S.vis i x e hi) m.1 m.2
 have hu:X.A.units+1<cLine:=Nat.lt_of_le_of_lt (by omega) R
 have g:∀(i:Nat) (x:Str),N_reached[i]?=some x->X.N[i]?=some x:=fun i x e=>by rw [S.hN];exact e
 have lc:∀(i:Nat) (x:Str),N_reached[i]?=some x->[0,1,2,3,4,5].contains i=true->Loc X.env.scope x/\(X.fn x=true\/X.env.scope.names.lookup x=some .local):=fun i x e hi=>S.loc i x e hi
 refine qx (ds_drop (cc S 0 rfl rfl c1 (da_cons (cv S 0 rfl rfl) da_nil (dw rfl)) (dw rfl) rfl) rfl) ?_
 refine qx (ds_drop (cc S 1 rfl rfl c2 (da_cons (cv S 0 rfl rfl) (da_cons (cv S 1 rfl rfl) da_nil (dw rfl)) (dw rfl)) (dw rfl) rfl) rfl) ?_
 refine qx (Di hN (g 2 _ rfl) (lc 2 _ rfl rfl).1 (xS (uI (v 1 _ _ rfl) uX xM) rfl rfl (by simp) (by decide)) rfl (lc 2 _ rfl rfl).2) ?_
 refine qx (Di hN (g 3 _ rfl) (lc 3 _ rfl rfl).1 (uS (o8 (v 1 _ _ rfl) wx (dw rfl))) rfl (lc 3 _ rfl rfl).2) ?_
 refine qx (lV hp (lU (v 3 _ _ rfl) (fun _=>rfl)) ?_) ?_
 ·refine qx (Di hN (g 4 _ rfl) (lc 4 _ rfl rfl).1 (BD PySem.F.plainAttrs_list PySem.F.slot_list_pop PySem.F.type_list_pop BV (v 3 _ _ rfl) rfl rfl) rfl (lc 4 _ rfl rfl).2) ?_
  refine zh (Hj hp S.calm (Fn (pU Fd (pU Fd (v 0 _ _ rfl) uT (fun _ _=>rfl)) (v 4 _ _ rfl) (fun _ _=>rfl))) (sY hN (g 5 _ rfl) (lc 5 _ rfl rfl).1 (lc 5 _ rfl rfl).2) ?_ (fun _=>rfl))
  refine zh (zE (uG (rh hu (v 5 _ _ rfl) (v 2 _ _ rfl)) (by with_unfolding_all rfl)) ?_ pP)
  refine qx (pQ hu (v 2 _ _ rfl) (v 5 _ _ rfl) uX rfl) ?_
  exact zh (Fo (lX PySem.F.plainAttrs_list PySem.F.slot_list_append PySem.F.type_list_append HS (v 3 _ _ rfl) (o8 (v 5 _ _ rfl) wx (dw rfl)) rfl rfl rfl (dw rfl) rfl) rfl)
 ·exact zh (Fe (FK (oY S.calm) (S.g (j:=2) rfl rfl).1 n_sorted ny (o8 (v 2 _ _ rfl) wx (dw rfl)) (S.g (j:=2) rfl rfl).2.2 (S.g (j:=2) rfl rfl).2.1 (dw rfl) rfl))
theorem oi {P:Program} {w:World} {K:Fg} {mg:Str->Option Value} {base:Heap} {f:Addr} {fd:FuncData} {j1 j2 k:Nat} (F:Fun K "reached" "reached" s_reached f fd) (hm:mg "reached"=some (.ref f)) (b:Binds K fd ["world", "room"] []) (n_sorted:mg "sorted"=none)
  (c1:DefOk P w K mg base j1 "check_world" 1 aD) (c2:DefOk P w K mg base j2 "check_room" 2 aN) (hj1:decide (j1<=k)=true) (hj2:decide (j2<=k)=true):DefOk P w K mg base (k+1) "reached" 2 aW:=
 u1 F hm b n_sorted c1 c2 hj1 hj2 nR oW ox fun X S R hp n c1 c2=>o4 S R hp n c1 c2
noncomputable def CJ:FS:=(ak (bq (ag 1 aD (ab (ae 0) af)))
  (ak (bq (ag 2 cF (ab (ae 0) (ab (ae 1) af))))
  (ak (aB false 2 (ag 2 ck (ab (ae 0) (ab (ae 1) af))))
  (ak (bW (jj (dC (aM bG (ae 1))) (aM ao (aA (bj false) (aU .leaf af) (ah (ae 2) (eK (.int 2)))))) sO aG)
  (aF (ae 2))))))
noncomputable def oA:List PySem.PyData->Res:=aC 3 CJ
noncomputable def so:FS:=(ak (aB false 3 (ag 3 di (ab (ae 0) (ab (yF (ab (bI bB (ab (ah (ae 0) (eK (.int 0))) af)) af)) (ab (ae 2) af)))))
  (ak (aB true 4 (aU .leaf (ab (ae 1) af)))
  (ak (nM 100 (aM ao (aA nJ (ah (ae 3) (cx 4 (eU cz (eK (.int 1))))) (eK (.int 0))))
  (eE 4 (ah (ag 3 bN (ab (ae 0) (ab (ae 3) (ab (cx 4 (eU cz (eK (.int 1)))) af)))) (eK (.int 0)))))
  (aF (b9 4)))))
noncomputable def bM:List PySem.PyData->Res:=aC 5 so
noncomputable def jd:FS:=(aF (fy (aw .leaf 2 (aL (ag 2 aW (ab (ae 0) (ab (ae 1) af)))) aI (ag 2 aW (ab (ae 0) (ab (ae 2) af))))))
noncomputable def dk:List PySem.PyData->Res:=aC 3 jd
noncomputable def ip:FS:=(ak (aB true 3 (aU .leaf (ab (ae 2) af)))
  (ak (dA 4 (aL (ae 1))
  (gv 3 (dN (fun k=>(some k,none)) (ag 3 bM (ab (ae 0) (ab (cx 3 (eU cz (eK (.int 1)))) (ab (ag 2 dM (ab (ae 0) (ab (ae 4) af))) af)))) (eK (.int 1)))))
  (aF (ia (ae 3) (dN (fun k=>(none,some k)) (ag 3 bM (ab (ae 0) (ab (ah (ah (ah (ae 0) (eK (.int 2))) (cx 3 (eU cz (eK (.int 1))))) (eK (.int 0))) (ab (aU .leaf (ab (ae 2) af)) af)))) (eU cz (eK (.int 1))))))))
noncomputable def cS:List PySem.PyData->Res:=aC 5 ip
noncomputable def oU:FS:=(ak (bq (ag 3 bT (ab (ae 0) (ab (ae 1) (ab (ae 2) af)))))
  (ak (bq (ag 2 aN (ab (ae 0) (ab (ae 3) af))))
  (ak (aB false 4 (ah (ag 3 bz (ab (ae 0) (ab (ae 1) (ab (ae 2) af)))) (eK (.int 1))))
  (ak (bW (aM ao (aA (bj true) (ae 3) (ae 4))) sO aG)
  (ak (aB false 5 (ag 2 oA (ab (ae 0) (ab (ae 4) af))))
  (ak (aB false 6 (mN 4 (ae 3)))
  (ak (aB false 7 (ag 3 bM (ab (ae 5) (ab (ae 6) (ab (ag 2 dk (ab (ae 5) (ab (ae 6) af))) af)))))
  (ak (aB false 8 (ag 3 cS (ab (ae 5) (ab (ae 2) (ab (ah (ae 7) (eU cz (eK (.int 1)))) af)))))
  (aF (bE (ab (aw .leaf 9 (aL (dN (fun k=>(none,some k)) (ae 7) (eU cz (eK (.int 1))))) aI (ah (ae 4) (ae 9))) (ab (aw .leaf 9 (aL (ae 8)) aI (ah (ae 4) (ae 9))) af))))))))))))
noncomputable def d0:List PySem.PyData->Res:=aC 10 oU
open PySem.SeqAt
section
variable {w:Wd}
theorem GQ {x y:Nat} {q:List Nat} (hy:y∈w.stp x) (hq:kc w (y::q)):∀{p:List Nat},kc w p->p.getLast?=some x->kc w (p++y::q)
 | [],_,h=>by cases h
 | [a],_,h=>by cases h;exact ⟨hy,hq⟩
 | a::b::p,hp,h=>⟨hp.1,GQ (p:=b::p) hy hq hp.2 (by rw [List.getLast?_cons_cons] at h;exact h)⟩
theorem qp {z:Nat} {q:List Nat} (hq:kc w (z::q)) {p:List Nat} (hp:kc w p) (hz:p.getLast?=some z):kc w (p++q):=by
 cases q with
 | nil=>rw [append_nil];exact hp
 | cons y q=>exact GQ hq.1 hq.2 hp hz
theorem GJ {S:List Nat} (cl:∀x∈S,∀t∈w.stp x,t∈S):∀{q:List Nat} {z:Nat},z∈S->kc w (z::q)->∀x∈z::q,x∈S
 | [],z,hz,_,x,hx=>by rw [List.mem_singleton.mp hx];exact hz
 | y::q,z,hz,h,x,hx=>by
  rcases List.mem_cons.mp hx with rfl | hx
  ·exact hz
  ·exact GJ cl (cl z hz y h.1) h.2 x hx
theorem Hk {S:List Nat} (cl:∀x∈S,∀t∈w.stp x,t∈S) {r x:Nat} (h:nB w r x) (hr:r∈S):x∈S:=by
 induction h with
 | refl=>exact hr
 | step _ ht ih=>exact cl _ ih _ ht
theorem uw (ok:w.Ok) {G:List Nat} {rk:List (Option Nat)} (R:RightG w.n w.stp (fun _=>true) (List.range w.n) G rk) {r x:Nat} (hr:r<w.n) (h:nB w r x):x<w.n/\(aZ rk x≠none->aZ rk r≠none):=by
 induction h with
 | refl=>exact ⟨hr,fun h=>h⟩
 | step _ ht ih=>exact ⟨ok.stp_lt ht,fun h=>ih.2 (R.step_ok ih.1 (List.mem_range.mpr ih.1) (led_t.mpr ⟨_,ht,h⟩))⟩
structure WgF (w:Wd) (r:Nat) (l:List Nat):Prop where
 hd:l.head?=some r
 lt:∀x∈l,x<w.n
 ch:kc w l
theorem WgF.snoc (ok:w.Ok) {r z t:Nat} {l:List Nat} (h:WgF w r l) (hz:l.getLast?=some z) (ht:t∈w.stp z):WgF w r (l++[t]):=by
 refine ⟨?_,fun x hx=>?_,nq ht h.ch hz⟩
 ·have:=h.hd
  cases l with
  | nil=>cases this
  | cons a s=>exact this
 ·rcases List.mem_append.mp hx with q | q
  ·exact h.lt x q
  ·rw [List.mem_singleton.mp q]
   exact ok.stp_lt ht
theorem yI (ok:w.Ok) {G:List Nat} (hG:∀r∈G,r<w.n) (hgl:G.length<=1000):∃rk,di [w.enc,av (List.range w.n),av G]=.ok ⟨.lst .leaf,eZ rk⟩/\RightG w.n w.stp (fun _=>true) (List.range w.n) G rk:=by
 have lo:=ok.g.lo
 have h24:=ok.h24
 obtain ⟨rk,e,Rt,_⟩:=Ip ok.z (cl:=w.os.map fun _=>true) (thr:=List.range w.n) (goal:=G) (by rw [length_map];exact lo) (fun r hr=>ok.stp_ne (List.mem_range.mp hr)) (fun r hr=>List.mem_range.mp hr) (by rw [length_range];omega) hG hgl
 have Rt:=Rt.congr (ch':=fun _=>true) fun r hr=>by
  unfold gB;rw [getD_eq_getElem?_getD,getElem?_map,getElem?_eq_getElem (by omega)]
  rfl
 refine ⟨rk,?_,Rt⟩
 have c1:aw .leaf 3 (aL (ah (ae 0) (eK (.int 0)))) aI (eK (.bool true)) (aH 4 [w.enc,av (List.range w.n),av G])=.ok ⟨.lst .leaf,nk (w.os.map fun _=>true)⟩ (aH 4 [w.enc,av (List.range w.n),av G]):=by
  have:=kU (fun d:D=>d) w.os (fun d=>⟨.leaf,.bool true⟩) (s:=.leaf) (i:=3) (fi:=aL (ah (ae 0) (eK (.int 0)))) (fe:=eK (.bool true)) (st:=true) (Γ:=aH 4 [w.enc,av (List.range w.n),av G]) (by simp [aH,Wd.enc,ez]) (by simp [aH]) rfl (by omega) (fun d hd=>by simp)
  rw [this];simp
 exact aO (bf (bP (az (ay rfl) (az c1 (az (ay rfl) (az (ay rfl) aj)))) e rfl rfl) rfl)
noncomputable abbrev GE (w:Wd) (r:Nat) (G:List Nat) (rk:List (Option Nat)) (l:List Nat):Ev:=[some ⟨.leaf,w.enc⟩,some ⟨.leaf,rm r⟩,some ⟨.leaf,av G⟩,some ⟨.leaf,eZ rk⟩,some ⟨.lst .leaf,av l⟩]
noncomputable def BZ (rk:List (Option Nat)) (l:List Nat):Nat:=((l.getLast?).bind (aZ rk)).getD 0
structure JG (w:Wd) (r:Nat) (rk:List (Option Nat)) (l:List Nat):Prop where
 wg:WgF w r l
 z:∃z k,l.getLast?=some z/\aZ rk z=some k
 pw:l.Pairwise fun a b=>∃i j,aZ rk a=some i/\aZ rk b=some j/\j<i
theorem vh {n:Nat} (h:1<=n):eC n (-1)=some (n-1):=by
 unfold eC;rw [if_neg (by omega)]
 split
 ·congr 1
  omega
 ·omega
theorem pZ {l:List Nat} {z:Nat} (h:l.getLast?=some z):(l.map rm)[l.length-1]?=some (rm z):=by
 rw [getElem?_map,<-List.getLast?_eq_getElem?,h];rfl
theorem Fl {Γ:Ev} {i:Nat} {l:List Nat} {z:Nat} (h:Γ[i]?=some (some ⟨.lst .leaf,av l⟩)) (hz:l.getLast?=some z):cx i (eU cz (eK (.int 1))) Γ=.ok ⟨.leaf,rm z⟩ Γ:=by
 have hp:1<=l.length:=by
  cases l with
  | nil=>cases hz
  | cons a r=>simp
 exact Ao (j:=l.length-1) (ds:=l.map rm) h (FX bg rfl) (by rw [length_map];exact vh hp) (pZ hz)
theorem Hr (ok:w.Ok) {G:List Nat} (hG:∀r∈G,r<w.n) (hgl:G.length<=1000) {r:Nat} (hr:r<w.n) {y:Nat} (hy:nB w r y) (hyG:y∈G):∃P z,bM [w.enc,rm r,av G]=.ok ⟨.lst .leaf,av P⟩/\WgF w r P/\P.getLast?=some z/\z∈G/\P.length<=w.n:=by
 have h24:=ok.h24
 obtain ⟨rk,e0,Rt⟩:=yI ok hG hgl;have rl:=Rt.len
 have hy2:=uw ok Rt hr hy
 have hrk:aZ rk r≠none:=hy2.2 (Rt.goal_ok hy2.1 hyG)
 have atk:∀{x},x<w.n->(rk.map oD)[x]?=some (oD (aZ rk x)):=fun {x} hx=>by
  rw [getElem?_map,getElem?_eq_getElem (by omega),aZ,getD_eq_getElem?_getD,getElem?_eq_getElem (by omega)]
  rfl
 have lenOk:∀l,JG w r rk l->l.length<=w.n:=fun l I=>Jk (I.pw.imp fun {a b} ⟨i,j,h1,h2,h3⟩ z=>by subst z;rw [h1] at h2;cases h2;omega) I.wg.lt
 obtain ⟨k0,hk0⟩:=Option.ne_none_iff_exists'.mp hrk
 have i0:JG w r rk [r]:=⟨⟨rfl,fun x hx=>by rw [List.mem_singleton.mp hx];exact hr,trivial⟩,⟨r,k0,rfl,hk0⟩,by simp⟩
 obtain ⟨P,ew,I,hf⟩:=DB (c:=aM ao (aA nJ (ah (ae 3) (cx 4 (eU cz (eK (.int 1))))) (eK (.int 0)))) (g:=eE 4 (ah (ag 3 bN (ab (ae 0) (ab (ae 3) (ab (cx 4 (eU cz (eK (.int 1)))) af)))) (eK (.int 0)))) (G:=GE w r G rk) (test:=fun l=>decide ((0:Int)<(BZ rk l:Int))) (Inv:=JG w r rk) (meas:=fun l=>w.n+1-l.length)
  (fun l I=>by
   obtain ⟨z,k,hz,hk⟩:=I.z;have hzn:=I.wg.lt z (mem_of_getLast? hz)
   have el:BZ rk l=k:=by unfold BZ;rw [hz];show (aZ rk z).getD 0=k;rw [hk];rfl
   rw [el];have a:=atk hzn
   rw [hk] at a;exact gF (s:=.leaf) (aT (g:=nJ) (wA (j:=z) (ay rfl) (Fl rfl hz) (zZ (by rw [length_map];omega)) a rfl) bg rfl))
  (fun l I ht=>by
   obtain ⟨z,k,hz,hk⟩:=I.z;have hzn:=I.wg.lt z (mem_of_getLast? hz)
   have el:BZ rk l=k:=by unfold BZ;rw [hz];show (aZ rk z).getD 0=k;rw [hk];rfl
   have hk1:0<k:=by
    have:=of_decide_eq_true ht
    rw [el] at this;omega
   have hzG:z∉G:=fun h=>by rw [Rt.g z hzn h] at hk;cases hk;omega
   obtain ⟨_,_,hl⟩:=Rt.p z k hzn hzG hk;obtain ⟨t,htz,j,hj,hjk⟩:=led_t.mp hl;have htl:t∈oB w rk z:=List.mem_filter.mpr ⟨htz,by rw [hj,hk];exact decide_eq_true hjk⟩
   obtain ⟨a,tl,ea⟩:∃a tl,oB w rk z=a::tl:=by
    cases h:oB w rk z with
    | nil=>rw [h] at htl;cases htl
    | cons a tl=>exact ⟨a,tl,rfl⟩
   have ha:a∈oB w rk z:=by rw [ea];exact mem_cons_self
   obtain ⟨ha1,ha2⟩:=List.mem_filter.mp ha;obtain ⟨j2,hj2,hjk2⟩:∃j2,aZ rk a=some j2/\j2<k:=by
    rw [hk] at ha2
    cases h:aZ rk a with
    | none=>rw [h] at ha2;cases ha2
    | some j2=>rw [h] at ha2;exact ⟨j2,rfl,of_decide_eq_true ha2⟩
   have hlen:=lenOk l I
   have dl:=ic ok rl hzn
   refine ⟨l++[a],?_,⟨I.wg.snoc ok hz ha1,⟨a,j2,by simp,hj2⟩,?_⟩,by rw [length_append,length_singleton];omega⟩
   ·have:=GH (i:=4) (ds:=l.map rm) (Γ:=GE w r G rk l) (p:=⟨.leaf,rm a⟩) (fa:=ah (ag 3 bN (ab (ae 0) (ab (ae 3) (ab (cx 4 (eU cz (eK (.int 1)))) af)))) (eK (.int 0))) rfl (wA (j:=0) (ds:=(oB w rk z).map rm) (bP (az (ay rfl) (az (ay rfl) (az (Fl rfl hz) aj))) dl rfl rfl) bg (zZ (by rw [ea];simp)) (by rw [ea];rfl) rfl) rfl (by rw [length_map];omega)
    rw [this];simp [av]
   ·rw [List.pairwise_append]
    refine ⟨I.pw,by simp,fun x hx b hb=>?_⟩
    rw [List.mem_singleton.mp hb];by_cases hxz:x=z
    ·exact ⟨k,j2,by rw [hxz];exact hk,hj2,hjk2⟩
    ·obtain ⟨init,rfl⟩:∃init,l=init++[z]:=List.getLast?_eq_some_iff.mp hz
     have hxi:x∈init:=by
      rcases List.mem_append.mp hx with q | q
      ·exact q
      ·exact absurd (List.mem_singleton.mp q) hxz
     obtain ⟨i,j',e1,e2,e3⟩:=(List.pairwise_append.mp I.pw).2.2 x hxi z (by simp)
     rw [hk] at e2
     cases e2;exact ⟨i,j2,e1,hj2,by omega⟩) 100 [r] i0 (by show w.n+1-1<100;omega)
 obtain ⟨z,k,hz,hk⟩:=I.z;have hzn:=I.wg.lt z (mem_of_getLast? hz)
 have el:BZ rk P=k:=by unfold BZ;rw [hz];show (aZ rk z).getD 0=k;rw [hk];rfl
 have hk0:k=0:=by
  have:=of_decide_eq_false hf
  rw [el] at this;omega
 have hzG:z∈G:=Classical.byContradiction fun h=>by
  have:=(Rt.p z k hzn h hk).1
  omega
 refine ⟨P,z,?_,I.wg,hz,hzG,lenOk P I⟩
 refine aO (ax (dS (bP (az (ay rfl) (az (EZ (n:=w.n) (s:=.leaf) (by omega) (az (G7 ok rfl) aj)) (az (ay rfl) aj))) e0 rfl rfl) rfl (by simp [aH])) (ax (Γ1:=GE w r G rk [r]) (Ac (nG (s:=.leaf) (az (ay rfl) aj) rfl rfl rfl) rfl (by simp [aH])) (ax (Γ1:=GE w r G rk P) ?_ (bf (CZ (p:=⟨.lst .leaf,av P⟩) rfl) rfl))))
 unfold nM;exact ew
end
theorem yh {ks:List Nat} (h:0<ks.length):∃i,oy ks=some i/\i<ks.length/\∀b∈ks,ks.getD i 0<=b:=by
 cases e:oy ks with
 | some i=>
  have h1:=List.mem_range.mp (List.mem_of_find?_eq_some e)
  have h2:=List.find?_some e
  exact ⟨i,rfl,h1,fun b hb=>of_decide_eq_true (List.all_eq_true.mp h2 b hb)⟩
 | none=>
  exfalso
  have no:∀i,i<ks.length->∃b∈ks,b<ks.getD i 0:=fun i hi=>by
   have:=List.find?_eq_none.mp e i (List.mem_range.mpr hi)
   have:=mt List.all_eq_true.mpr this
   obtain ⟨b,hb⟩:=Classical.not_forall.mp this;obtain ⟨hb1,hb2⟩:=Classical.not_imp.mp hb;refine ⟨b,hb1,?_⟩
   have:¬ks.getD i 0<=b:=fun z=>hb2 (decide_eq_true z)
   omega
  have go:∀v i,i<ks.length->ks.getD i 0=v->False:=fun v=>by
   induction v using Nat.strongRecOn with
   | _ v ih=>
    intro i hi hv;obtain ⟨b,hb,hlt⟩:=no i hi;obtain ⟨j,hj,ej⟩:=getElem_of_mem hb;refine ih b (by omega) j hj ?_
    rw [getD_eq_getElem?_getD,getElem?_eq_getElem hj,ej];rfl
  exact go _ 0 h rfl
section
variable {w:Wd}
structure Ks (w:Wd) (S:List Nat):Prop where
 std:Std w.n S
 ne:S≠[]
 cl:∀x∈S,∀t∈w.stp x,t∈S
 bk:∀x∈S,∀y∈S,nB w x y
theorem Ax {n:Nat} {S:List Nat} (h:Std n S):S.Nodup:=by
 obtain ⟨q,rfl⟩:=h;exact (nodup_range).sublist filter_sublist
theorem oQ (ok:w.Ok) {s:Nat} (hs:s<w.n):∃S,dk [w.enc,rm s]=.ok ⟨.leaf,av S⟩/\Ks w S/\∃x∈S,nB w s x:=by
 have h24:=ok.h24
 obtain ⟨S0,e0,s0,i0,c0,r0⟩:=gR ok hs;have ex:∀t,∃S,t<w.n->aW [w.enc,rm t]=.ok ⟨.lst .leaf,av S⟩/\Std w.n S/\t∈S/\(∀x∈S,∀u∈w.stp x,u∈S)/\∀x∈S,nB w t x:=fun t=>by
  by_cases ht:t<w.n
  ·obtain ⟨S,h⟩:=gR ok ht
   exact ⟨S,fun _=>h⟩
  ·exact ⟨[],fun z=>absurd z ht⟩
 let rs:Nat->List Nat:=fun t=>(ex t).choose
 have hrs:∀t,t<w.n->aW [w.enc,rm t]=.ok ⟨.lst .leaf,av (rs t)⟩/\Std w.n (rs t)/\t∈rs t/\(∀x∈rs t,∀u∈w.stp x,u∈rs t)/\∀x∈rs t,nB w t x:=fun t=>(ex t).choose_spec
 have lt0:∀x∈S0,x<w.n:=s0.lt
 have cm:aw .leaf 2 (aL (ag 2 aW (ab (ae 0) (ab (ae 1) af)))) aI (ag 2 aW (ab (ae 0) (ab (ae 2) af))) (aH 3 [w.enc,rm s])=.ok ⟨.lst .leaf,.list (S0.map fun t=>av (rs t))⟩ (aH 3 [w.enc,rm s]):=
  kU rm S0 (fun t=>⟨.lst .leaf,av (rs t)⟩) (st:=true) (b7 (s:=.lst .leaf) (bP (az (ay rfl) (az (ay rfl) aj)) e0 rfl rfl) rfl) (by simp [aH]) rfl (by have:=s0.len;omega) fun t ht=>⟨bP (az (ay rfl) (az (ay rfl) aj)) (hrs t (lt0 t ht)).1 rfl rfl,rfl⟩
 have hp:0<S0.length:=length_pos_of_mem i0
 have em:(S0.map fun t=>av (rs t)).map oC=S0.map fun t=>(rs t).length:=by
  rw [map_map];refine List.map_congr_left fun t _=>?_
  show (List.map rm (rs t)).length=_
  rw [length_map]
 obtain ⟨i,ei,hi,hmin⟩:=yh (ks:=S0.map fun t=>(rs t).length) (by rw [length_map];exact hp)
 rw [length_map] at hi;have hall:(S0.map fun t=>av (rs t)).all Cc=true:=List.all_eq_true.mpr fun d hd=>by
  obtain ⟨t,_,rfl⟩:=List.mem_map.mp hd;rfl
 have eM:fy (aw .leaf 2 (aL (ag 2 aW (ab (ae 0) (ab (ae 1) af)))) aI (ag 2 aW (ab (ae 0) (ab (ae 2) af)))) (aH 3 [w.enc,rm s])=.ok ⟨.leaf,av (rs S0[i])⟩ (aH 3 [w.enc,rm s]):=by
  unfold fy;rw [cm];simp only [Sh.isView,Bool.not_false,Bool.true_and,hall,if_true,em,ei]
  rw [getD_eq_getElem?_getD,getElem?_map,getElem?_eq_getElem hi];rfl
 have hm0:S0[i]∈S0:=getElem_mem hi
 obtain ⟨_,q1,q2,q3,q4⟩:=hrs S0[i] (lt0 _ hm0)
 refine ⟨rs S0[i],aO (bf eM rfl),⟨q1,(fun z=>by rw [z] at q2;cases q2),q3,fun x hx y hy=>?_⟩,S0[i],q2,r0 _ hm0⟩
 have hx0:x∈S0:=Hk c0 (q4 x hx) hm0
 obtain ⟨_,p1,p2,p3,p4⟩:=hrs x (lt0 x hx0);refine p4 y (Classical.byContradiction fun hn=>?_)
 have l1:(y::rs x).length<=(rs S0[i]).length:=Jl (List.nodup_cons.mpr ⟨hn,Ax p1⟩) fun u hu=>by
  rcases List.mem_cons.mp hu with rfl | hu
  ·exact hy
  ·exact Hk q3 (p4 u hu) hx
 have l2:=hmin (rs x).length (List.mem_map.mpr ⟨x,hx0,rfl⟩)
 rw [getD_eq_getElem?_getD,getElem?_map,getElem?_eq_getElem hi] at l2;have l2:(rs S0[i]).length<=(rs x).length:=l2
 rw [length_cons] at l1;omega
theorem yb {R:List Nat}:dv ⟨.view,.list (R.map rm)⟩ (R.map rm)=true:=by
 unfold dv;simp [Sh.isView,bD]
noncomputable abbrev sP (w:Wd) (M:List Str) (p:Nat) (R:List Nat) (x4:Option PV):Ev:=[some ⟨.leaf,w.enc⟩,some ⟨.leaf,cG M⟩,some ⟨.leaf,rm p⟩,some ⟨.lst .leaf,av R⟩,x4]
structure RgI (w:Wd) (S:List Nat) (p:Nat) (R:List Nat):Prop where
 wg:WgF w p R
 inS:∀x∈R,x∈S
theorem RgI.last {S:List Nat} {p:Nat} {R:List Nat} (h:RgI w S p R):∃z,R.getLast?=some z/\z∈S:=by
 cases R with
 | nil=>exact absurd h.wg.hd (by simp)
 | cons a s=>exact ⟨_,List.getLast?_eq_some_getLast (by simp),h.inS _ (List.getLast_mem _)⟩
theorem kZ {z:Nat} {P:List Nat} (h:WgF w z P):∃q,P=z::q:=by
 have:=h.hd
 cases P with
 | nil=>cases this
 | cons a q=>cases this;exact ⟨q,rfl⟩
theorem vL (ok:w.Ok) {S:List Nat} (C:Ks w S) {M:List Str} (hM:∀c∈M,c∈bp) (hl:M.length<=10) (hm:∀c∈M,∀x∈S,∃y,nB w x y/\c∈w.mks y) {p:Nat} (hp:p∈S) :
  ∃R,cS [w.enc,cG M,rm p]=.ok ⟨.lst .leaf,av R⟩/\R.head?=some p/\kc w (R++[p])/\(∀x∈R,x∈S)/\(∀c∈M,∃x∈R,c∈w.mks x)/\R.length<=300:=by
 have h24:=ok.h24
 have lt:∀x∈S,x<w.n:=C.std.lt
 obtain ⟨Γ2,e,_,R,x4,eΓ,I,hlen,hmet⟩:=HP PyData.str (i:=4) (body:=gv 3 (dN (fun k=>(some k,none)) (ag 3 bM (ab (ae 0) (ab (cx 3 (eU cz (eK (.int 1)))) (ab (ag 2 dM (ab (ae 0) (ab (ae 4) af))) af)))) (eK (.int 1)))) (Inv:=fun rest Γ=>(∀c∈rest,c∈M)/\∃R x4,Γ=sP w M p R x4/\RgI w S p R/\R.length+24*rest.length<=1+24*M.length/\∀c∈M,c∈rest\/∃x∈R,c∈w.mks x)
  (fun c rest Γ ⟨hsub,R,x4,e,I,hlen,hmet⟩=>by
   subst e;refine ⟨by simp,?_⟩
   have hcM:=hsub c mem_cons_self
   obtain ⟨z,hz,hzS⟩:=I.last;obtain ⟨y,hy,hyc⟩:=hm c hcM z hzS;have hyS:=Hk C.cl hy hzS
   obtain ⟨P,u,ep,Wp,hu,hug,hPl⟩:=Hr ok (G:=De w c) (fun r hr=>(mem_mkd.mp hr).1) (by unfold De;have:=length_filter_le (fun r=>(w.mks r).contains c) (List.range w.n);rw [length_range] at this;omega) (lt z hzS) hy (mem_mkd.mpr ⟨lt y hyS,hyc⟩)
   obtain ⟨q,rfl⟩:=kZ Wp;have hS:∀x∈z::q,x∈S:=GJ C.cl hzS Wp.ch
   rw [length_cons] at hPl hlen
   have sl:T.cutD ((z::q).map rm) (some (((1:Nat):Int))) none=q.map rm:=by
    rw [xg];rfl
   have hf:dN (fun k=>(some k,none)) (ag 3 bM (ab (ae 0) (ab (cx 3 (eU cz (eK (.int 1)))) (ab (ag 2 dM (ab (ae 0) (ab (ae 4) af))) af)))) (eK (.int 1)) (sP w M p R (some ⟨.leaf,.str c⟩))=.ok ⟨.lst .leaf,.list (q.map rm)⟩ (sP w M p R (some ⟨.leaf,.str c⟩)):=by
    have:=ph (g:=fun k=>(some k,none)) (fa:=ag 3 bM (ab (ae 0) (ab (cx 3 (eU cz (eK (.int 1)))) (ab (ag 2 dM (ab (ae 0) (ab (ae 4) af))) af)))) (fb:=eK (.int 1)) (xs:=(z::q).map rm) (bP (Γ:=sP w M p R (some ⟨.leaf,.str c⟩)) (az (ay rfl) (az (Fl rfl hz) (az (bP (az (ay rfl) (az (ay rfl) aj)) (oN ok (hM c hcM)) rfl rfl) aj))) ep rfl rfl) bg rfl
    rw [this];exact congrArg (fun l=>Out.ok (⟨.lst .leaf,.list l⟩:PV) _) sl
   refine ⟨_,Ak (i:=3) (ds:=R.map rm) rfl hf rfl (by rw [length_map,length_map];omega),fun d hd=>hsub d (mem_cons_of_mem _ hd),R++q,some ⟨.leaf,.str c⟩,by rw [<-map_append];rfl,⟨⟨?_,fun x hx=>?_,qp Wp.ch I.wg.ch hz⟩,fun x hx=>?_⟩,by rw [length_append];omega,fun d hd=>?_⟩
   ·have:=I.wg.hd
    cases R with
    | nil=>cases this
    | cons a s=>exact this
   ·rcases List.mem_append.mp hx with h | h
    ·exact I.wg.lt x h
    ·exact Wp.lt x (mem_cons_of_mem _ h)
   ·rcases List.mem_append.mp hx with h | h
    ·exact I.inS x h
    ·exact hS x (mem_cons_of_mem _ h)
   ·rcases hmet d hd with h | ⟨x,hx,hxd⟩
    ·rcases List.mem_cons.mp h with rfl | h
     ·refine .inr ⟨u,?_,(mem_mkd.mp hug).2⟩
      have:=mem_of_getLast? hu
      rcases List.mem_cons.mp this with rfl | h'
      ·exact mem_append_left _ (mem_of_getLast? hz)
      ·exact mem_append_right _ h'
     ·exact .inl h
    ·exact .inr ⟨x,mem_append_left _ hx,hxd⟩) M (sP w M p [p] none) ⟨fun c hc=>hc,[p],none,rfl,⟨⟨rfl,fun x hx=>by rw [List.mem_singleton.mp hx];exact lt p hp,trivial⟩,fun x hx=>by rw [List.mem_singleton.mp hx];exact hp⟩,by simp,fun c hc=>.inl hc⟩
 subst eΓ;obtain ⟨x,hx,hxS⟩:=I.last;have hxn:=lt x hxS
 obtain ⟨y,ys,ey⟩:∃y ys,w.stp x=y::ys:=by
  cases h:w.stp x with
  | nil=>exact absurd h (ok.stp_ne hxn)
  | cons y ys=>exact ⟨y,ys,rfl⟩
 have hyx:y∈w.stp x:=by rw [ey];exact mem_cons_self
 have hyS:=C.cl x hxS y hyx
 obtain ⟨P,u,ep,Wp,hu,hug,hPl⟩:=Hr ok (G:=[p]) (fun r hr=>by rw [List.mem_singleton.mp hr];exact lt p hp) (by simp) (lt y hyS) (C.bk y hyS p hp) mem_cons_self
 have hup:u=p:=List.mem_singleton.mp hug
 subst hup;obtain ⟨init,hP⟩:=List.getLast?_eq_some_iff.mp hu
 obtain ⟨q,hPq⟩:=kZ Wp;have hS:∀v∈P,v∈S:=by rw [hPq];rw [hPq] at Wp;exact GJ C.cl hyS Wp.ch
 have dl:P.dropLast=init:=by rw [hP];simp
 rw [length_nil] at hlen;have a1:ah (ah (ah (ae 0) (eK (.int 2))) (cx 3 (eU cz (eK (.int 1))))) (eK (.int 0)) (sP w M u R x4)=.ok ⟨.leaf,rm y⟩ (sP w M u R x4):=
  wA (j:=0) (ds:=(w.stp x).map rm) (pC ok rfl (Fl rfl hx) hxn) bg (zZ (by rw [ey];simp)) (by rw [ey];rfl) rfl
 have sl:dN (fun k=>(none,some k)) (ag 3 bM (ab (ae 0) (ab (ah (ah (ah (ae 0) (eK (.int 2))) (cx 3 (eU cz (eK (.int 1))))) (eK (.int 0))) (ab (aU .leaf (ab (ae 2) af)) af)))) (eU cz (eK (.int 1))) (sP w M u R x4)=.ok ⟨.lst .leaf,.list (init.map rm)⟩ (sP w M u R x4):=by
  have:=ph (g:=fun k=>(none,some k)) (fa:=ag 3 bM (ab (ae 0) (ab (ah (ah (ah (ae 0) (eK (.int 2))) (cx 3 (eU cz (eK (.int 1))))) (eK (.int 0))) (ab (aU .leaf (ab (ae 2) af)) af)))) (fb:=eU cz (eK (.int 1))) (xs:=P.map rm) (k:=-1) (bP (Γ:=sP w M u R x4) (az (ay rfl) (az a1 (az (nG (s:=.leaf) (az (ay rfl) aj) rfl rfl rfl) aj))) ep rfl rfl) (FX bg rfl) rfl
  rw [this];exact congrArg (fun l=>Out.ok (⟨.lst .leaf,.list l⟩:PV) _) (by rw [<-dl];exact pE)
 have il:init.length<=24:=by
  have:=congrArg List.length hP
  rw [length_append] at this;omega
 have vc:=lx (fa:=ae 3) (s:=.view) (xs:=R.map rm) (Γ:=sP w M u R x4) (DG rfl) sl yb rfl (by rw [length_map,length_map];omega)
 rw [<-map_append] at vc;refine ⟨R++init,aO (ax (Γ1:=sP w M u [u] none) (Ac (nG (s:=.leaf) (az (ay rfl) aj) rfl rfl rfl) rfl (by simp [aH])) (ax (eG (b7 (s:=.leaf) (ds:=M.map .str) (ay rfl) rfl) e) (bf vc rfl))),?_,?_,fun v hv=>?_,fun c hc=>?_,by rw [length_append];omega⟩
 ·have:=I.wg.hd
  cases R with
  | nil=>cases this
  | cons a s=>exact this
 ·rw [append_assoc,<-hP,hPq]
  rw [hPq] at Wp;exact GQ hyx Wp.ch I.wg.ch hx
 ·rcases List.mem_append.mp hv with h | h
  ·exact I.inS v h
  ·exact hS v (by rw [hP];exact mem_append_left _ h)
 ·rcases hmet c hc with h | ⟨v,hv,hvc⟩
  ·cases h
  ·exact ⟨v,mem_append_left _ hv,hvc⟩
end
theorem r6 {w:Wd} (ok:w.Ok) {S:List Nat} (sS:Std w.n S) (ne:S≠[]) (cl:∀x∈S,∃t∈w.stp x,t∈S):∃(h:kS w S),oA [w.enc,av S]=.ok ⟨.leaf,(dR w S).enc⟩/\(dR w S).Ok:=by
 have h24:=ok.h24
 obtain ⟨q,hq⟩:=sS;have lt:∀r∈S,r<w.n:=fun r hr=>by rw [hq] at hr;exact List.mem_range.mp (List.mem_filter.mp hr).1
 have ln:S.length<=w.n:=by
  rw [hq];have:=length_filter_le q (List.range w.n)
  rwa [length_range] at this
 have nd:S.Nodup:=by rw [hq];exact (nodup_range).sublist filter_sublist
 have h:kS w S:=⟨ok,nd,lt,by omega,fun r hr=>tX ok hr⟩
 have hp:=List.length_pos_iff.mpr ne
 have okv:(dR w S).Ok:=Bx h hp (by omega) fun r hr=>by
  exact cl r hr
 refine ⟨h,?_,okv⟩
 have t1:dC (aM bG (ae 1)) [some ⟨.leaf,w.enc⟩,some ⟨.leaf,av S⟩,some ⟨.leaf,(dR w S).enc⟩]=.ok false [some ⟨.leaf,w.enc⟩,some ⟨.leaf,av S⟩,some ⟨.leaf,(dR w S).enc⟩]:=by
  cases S with
  | nil=>exact absurd rfl ne
  | cons a l=>rfl
 have t2:bj false (.list []) (.list ((dR w S).s.map av))=some (.bool false):=by
  have hk:=okv.g.wk (b:=24) okv.h24
  have sr:=yS fun r hr=>let ⟨xs,e,q,_⟩:=hk.s r hr;⟨xs,e,JB q⟩
  have sh:shaped (.list ((dR w S).s.map av))=true:=by
   have:=sr.2
   have e1:PyData.canLay0 (.list ((dR w S).s.map av))=true:=sr.1
   have e2:PyData.depth (.list ((dR w S).s.map av))<=64:=by
    show PyData.depthAll ((dR w S).s.map av)+1<=64
    omega
   unfold shaped;rw [e1,decide_eq_true e2];rfl
  have sn:shaped (.list [])=true:=rfl
  have an:(((dR w S).s.map av).any fun y=>PyData.eqv y (.list []))=false:=by
   rw [List.any_eq_false];intro y hy;obtain ⟨x,hx,rfl⟩:=List.mem_map.mp hy;have:=(okv.st x hx).1
   cases x with
   | nil=>exact absurd rfl this
   | cons a l=>simp [PyData.eqv,PyData.eqvAll]
  show (if shaped (.list [])&&shaped (.list ((dR w S).s.map av)) then some (PyData.bool (((dR w S).s.map av).any fun y=>PyData.eqv y (.list []))) else none)=_
  rw [sn,sh,an];rfl
 exact aO (ax (tp (bP (az (ay rfl) aj) ok.check rfl rfl)) (ax (tp (bP (az (ay rfl) (az (ay rfl) aj)) (Iq ok ⟨q,hq⟩) rfl rfl)) (ax (Γ1:=[some ⟨.leaf,w.enc⟩,some ⟨.leaf,av S⟩,some ⟨.leaf,(dR w S).enc⟩]) (dS (bP (az (ay rfl) (az (ay rfl) aj)) (oM h) rfl rfl) rfl (by simp [aH])) (ax (cb (t:=false) (sF (a:=false) (b:=false) t1 (gF (s:=.leaf) (aT (g:=bj false) (nG (s:=.leaf) aj rfl rfl rfl) (wU (j:=2) (ay rfl) bg rfl rfl rfl) t2))) nofun fun _=>rfl) (bf (ay rfl) rfl)))))
theorem rY {w:Wd} (ok:w.Ok) {R:List Nat} (hR:Std w.n R) {M:List Str} (hM:∀c∈M,c∈bp) (hr:br [cG M]=.ok ⟨.leaf,.bool true⟩) :
  ∃rows K,bz [w.enc,av R,cG M]=.ok ⟨.tup [.lst .leaf,.leaf],.tuple [.list rows,av K]⟩/\bT [w.enc,av R,cG M]=.ok ⟨.leaf,.none⟩/\Std w.n K/\Fr w.n w.stp (·∈R) M (wK w) (·∈K)/\∀X,Fr w.n w.stp (·∈R) M (wK w) X->∀r,X r->r∈K:=by
 have h24:=ok.h24
 have hl:=hR.len
 obtain ⟨p,e0,hp,hro⟩:=Hd ok hM hR;have i0:FI w R M ⟨[],R,p.d⟩:=⟨hR,fun r h=>h,by simpa using hl,fun X hX=>hX.sub,hro⟩
 obtain ⟨b,e,I,hf⟩:=DB (c:=aM ao (aA (b6 true) (ae 5) (eK .none))) (g:=i4) (G:=wM w R M) (test:=fun b=>!nL b.row) (Inv:=FI w R M) (meas:=fun b=>b.L.length) (fun b I=>by simp) (fun b I hb=>qi ok hM I hb) 1000 _ i0 (by show R.length<1000;omega)
 have hend:nE w M b.L:=by
  rcases I.row with ⟨_,h⟩ | ⟨off,o,h,_⟩
  ·exact h
  ·rw [h] at hf;cases hf
 have wh:nM 1000 (aM ao (aA (b6 true) (ae 5) (eK .none))) i4 (wM w R M ⟨[],R,p.d⟩)=.nx (wM w R M b):=by
  unfold nM;rw [e]
 have rk:bz [w.enc,av R,cG M]=.ok ⟨.tup [.lst .leaf,.leaf],.tuple [.list b.rows,av b.L]⟩:=
  aO (ax (Ac (nG (s:=.leaf) aj rfl rfl rfl) rfl (by simp [aH])) (ax (dS (HC (ds:=R.map rm) (ay rfl) rfl) rfl (by simp [aH])) (ax (dS (bP (az (ay rfl) (az (ay rfl) (az (ay rfl) aj))) e0 rfl rfl) hp (by simp [aH])) (ax wh (bf (cj (az (CZ (p:=⟨.lst .leaf,.list b.rows⟩) rfl) (az (ay rfl) aj)) rfl rfl) rfl)))))
 have c1:=ok.check
 have c2:=Iq ok hR
 have cf:bT [w.enc,av R,cG M]=.ok ⟨.leaf,.none⟩:=by
  refine fX (Γ:=aH 3 [w.enc,av R,cG M]) ?_
  simp [d8,aH,c1,c2,hr]
 exact ⟨b.rows,b.L,rk,cf,I.std,⟨I.std.lt,I.sub,hend.c,hend.a⟩,I.big⟩
theorem rS {p:List Nat}:sI (p.map rm)=some (p.map fun t:Nat=>(t:Int)):=by
 have:=iX (p.map fun t:Nat=>(t:Int))
 rw [map_map] at this;exact this
theorem mB {k:Int}:∀{ns:List Int},k∈ns->∃j,zK k ns=some j
 | n::r,h=>by
  unfold zK;by_cases e:n=k
  ·rw [if_pos e];exact ⟨0,rfl⟩
  ·rw [if_neg e]
   rcases List.mem_cons.mp h with z | z
   ·exact absurd z.symm e
   ·obtain ⟨j,hj⟩:=mB z
    exact ⟨j+1,by rw [hj];rfl⟩
theorem An {Γ:Ev} {i:Nat} {fb:F1} {s:Sh} {p:List Nat} {t:Nat} (h:Γ[i]?=some (some ⟨.leaf,av p⟩)) (hb:fb Γ=.ok ⟨s,rm t⟩ Γ) (ht:t∈p):∃j:Nat,mN i fb Γ=.ok ⟨.leaf,rm j⟩ Γ/\j<p.length/\fQ p j=t:=by
 obtain ⟨j,hj⟩:=mB (k:=(t:Int)) (ns:=p.map fun t:Nat=>(t:Int)) (List.mem_map.mpr ⟨t,ht,rfl⟩)
 have h1:=(Hh hj).1
 rw [getElem?_map] at h1;obtain ⟨u,hu,e⟩:=Option.map_eq_some_iff.mp h1;have hlt:=(List.getElem?_eq_some_iff.mp hu).1
 refine ⟨j,?_,hlt,?_⟩
 ·unfold mN
  rw [h];simp only [mD,if_true]
  rw [hb];simp only [sR,ym,h]
  rw [rS];simp only
  rw [hj]
 ·rw [fQ,getD_eq_getElem?_getD,hu]
  exact Int.ofNat_inj.mp e
theorem ux {v:Wd} {x t y:Nat} (ht:t∈v.stp x) (h:nB v t y):nB v x y:=by
 induction h with
 | refl=>exact .step .refl ht
 | step _ hu ih=>exact .step ih hu
theorem vS {w:Wd} {K:List Nat}:∀{l:List Nat},(∀x∈l,x<K.length)->kc (dR w K) l->kc w (l.map (fQ K))
 | [],_,_=>trivial
 | [a],_,_=>trivial
 | a::b::r,hl,h=>by
  refine ⟨?_,vS (l:=b::r) (fun x hx=>hl x (mem_cons_of_mem _ hx)) h.2⟩
  have:=h.1
  rw [uJ (hl a mem_cons_self)] at this;exact (mem_plS.mp this).2
theorem vO {w:Wd} (ok:w.Ok) {R:List Nat} (hR:Std w.n R) {M:List Str} (hM:∀c∈M,c∈bp) (hml:M.length<=10) (hr:br [cG M]=.ok ⟨.leaf,.bool true⟩) {X:Nat->Prop} (hX:Fr w.n w.stp (·∈R) M (wK w) X) {r:Nat} (hrX:X r) :
  ∃F Q,d0 [w.enc,av R,cG M,rm r]=.ok ⟨.tup [.lst .leaf,.lst .leaf],wy F Q⟩/\qr w F Q/\(∀x∈F++Q,x∈R)/\(∀c∈M,∃x∈Q,c∈w.mks x)/\F.length+Q.length<=400:=by
 have h24:=ok.h24
 obtain ⟨rows,K,er,cf,sK,fK,big⟩:=rY ok hR hM hr;have hrK:r∈K:=big X hX r hrX
 have hrn:=sK.lt r hrK
 obtain ⟨h,ep,okv⟩:=r6 ok sK (fun z=>by rw [z] at hrK;cases hrK) fun x hx=>fK.c x hx
 have aK:∀k,k<K.length->(K.map rm)[k]?=some (rm (fQ K k)):=fun k hk=>by
  rw [getElem?_map,fQ,getD_eq_getElem?_getD,getElem?_eq_getElem hk];rfl
 have kl:=h.len
 obtain ⟨s,es,hs,ats⟩:=An (Γ:=[some ⟨.leaf,w.enc⟩,some ⟨.leaf,av R⟩,some ⟨.leaf,cG M⟩,some ⟨.leaf,rm r⟩,some ⟨.leaf,av K⟩,some ⟨.leaf,(dR w K).enc⟩,none,none,none,none]) (i:=4) (fb:=ae 3) (s:=.leaf) (p:=K) (t:=r) rfl (ay rfl) hrK
 obtain ⟨S,eS,C,y,hyS,hy⟩:=oQ okv (s:=s) hs
 obtain ⟨P,u,eP,WP,hu,huS,hPl⟩:=Hr okv (G:=S) C.std.lt (by have:=C.std.len;have:=okv.h24;omega) hs hy hyS
 have hm:∀c∈M,∀x∈S,∃y,nB (dR w K) x y/\c∈(dR w K).mks y:=fun c hc x hx=>by
  have hx':x<K.length:=C.std.lt x hx
  refine fK.a c hc (fun room=>∀k,k<K.length->fQ K k=room->∃y,nB (dR w K) k y/\c∈(dR w K).mks y) (fun q _ hq k hk e=>⟨k,.refl,by rw [uK hk,e];exact hq⟩) (fun q _ ⟨t,ht,htK,hS⟩ k hk e=>?_) _ (GN hx') x hx' rfl
  obtain ⟨j,hj,ej⟩:=kb htK;obtain ⟨y,h1,h2⟩:=hS j hj ej;exact ⟨y,ux (by rw [uJ hk];exact mem_plS.mpr ⟨hj,by rw [ej,e];exact ht⟩) h1,h2⟩
 obtain ⟨Q,eQ,hQh,hQc,hQS,hQm,hQl⟩:=vL okv C hM hml hm huS;obtain ⟨init,hP⟩:=List.getLast?_eq_some_iff.mp hu
 have dl:P.dropLast=init:=by rw [hP];simp
 have ltQ:∀x∈Q,x<K.length:=fun x hx=>C.std.lt x (hQS x hx)
 have ltI:∀x∈init,x<K.length:=fun x hx=>WP.lt x (by rw [hP];exact mem_append_left _ hx)
 have il:init.length<=24:=by
  have e:=congrArg List.length hP
  rw [length_append] at e;have:=okv.h24
  omega
 obtain ⟨q,hQq⟩:∃q,Q=u::q:=by
  cases Q with
  | nil=>cases hQh
  | cons a q=>cases hQh;exact ⟨q,rfl⟩
 have hall:∀x∈init.map (fQ K)++Q.map (fQ K),x∈K:=fun x hx=>by
  rcases List.mem_append.mp hx with z | z
  ·obtain ⟨k,hk,rfl⟩:=List.mem_map.mp z
   exact GN (ltI k hk)
  ·obtain ⟨k,hk,rfl⟩:=List.mem_map.mp z
   exact GN (ltQ k hk)
 refine ⟨init.map (fQ K),Q.map (fQ K),?_,⟨by rw [hQq];simp,fun x hx=>sK.lt x (hall x hx),?_,by rw [length_map,length_map];omega⟩,fun x hx=>fK.sub x (hall x hx),fun c hc=>?_,by rw [length_map,length_map];omega⟩
 ·refine aO (ax (tp (bP (az (ay rfl) (az (ay rfl) (az (ay rfl) aj))) cf rfl rfl)) (ax (tp (bP (az (ay rfl) (az (ay rfl) aj)) (eV ok hrn) rfl rfl)) ?_))
  refine ax (Γ1:=[some ⟨.leaf,w.enc⟩,some ⟨.leaf,av R⟩,some ⟨.leaf,cG M⟩,some ⟨.leaf,rm r⟩,some ⟨.leaf,av K⟩,none,none,none,none,none]) (dS (wU (j:=1) (bP (az (ay rfl) (az (ay rfl) (az (ay rfl) aj))) er rfl rfl) bg rfl rfl rfl) rfl (by simp [aH])) ?_
  refine ax (cb (t:=false) (gF (s:=.leaf) (aT (g:=bj true) (ay rfl) (ay rfl) ?_)) nofun fun _=>rfl) ?_
  ·have e:=zc (t:=r) (r:=K)
   have sh:(shaped (rm r)&&shaped (av K))=true:=by
    rw [Az];rfl
   have hc:((K.map rm).any fun y=>PyData.eqv y (rm r))=true:=by
    have e2:(if shaped (rm r)&&shaped (av K) then some (PyData.bool ((K.map rm).any fun y=>PyData.eqv y (rm r))) else none)=some (.bool (K.contains r)):=e
    rw [sh,if_pos rfl] at e2;have e3:=PyData.bool.inj (Option.some.inj e2)
    rw [e3];exact List.contains_iff_mem.mpr hrK
   show (if shaped (rm r)&&shaped (av K) then some (PyData.bool (!(K.map rm).any fun y=>PyData.eqv y (rm r))) else none)=_
   rw [sh,hc];rfl
  refine ax (Γ1:=[some ⟨.leaf,w.enc⟩,some ⟨.leaf,av R⟩,some ⟨.leaf,cG M⟩,some ⟨.leaf,rm r⟩,some ⟨.leaf,av K⟩,some ⟨.leaf,(dR w K).enc⟩,none,none,none,none]) (dS (bP (az (ay rfl) (az (ay rfl) aj)) ep rfl rfl) rfl (by simp)) ?_
  refine ax (Γ1:=[some ⟨.leaf,w.enc⟩,some ⟨.leaf,av R⟩,some ⟨.leaf,cG M⟩,some ⟨.leaf,rm r⟩,some ⟨.leaf,av K⟩,some ⟨.leaf,(dR w K).enc⟩,some ⟨.leaf,rm s⟩,none,none,none]) (dS es rfl (by simp)) ?_
  refine ax (Γ1:=[some ⟨.leaf,w.enc⟩,some ⟨.leaf,av R⟩,some ⟨.leaf,cG M⟩,some ⟨.leaf,rm r⟩,some ⟨.leaf,av K⟩,some ⟨.leaf,(dR w K).enc⟩,some ⟨.leaf,rm s⟩,some ⟨.leaf,av P⟩,none,none]) (dS (bP (az (ay rfl) (az (ay rfl) (az (bP (az (ay rfl) (az (ay rfl) aj)) eS rfl rfl) aj))) eP rfl rfl) rfl (by simp)) ?_
  have lp:1<=P.length:=by
   rw [hP];simp
  refine ax (Γ1:=[some ⟨.leaf,w.enc⟩,some ⟨.leaf,av R⟩,some ⟨.leaf,cG M⟩,some ⟨.leaf,rm r⟩,some ⟨.leaf,av K⟩,some ⟨.leaf,(dR w K).enc⟩,some ⟨.leaf,rm s⟩,some ⟨.leaf,av P⟩,some ⟨.leaf,av Q⟩,none]) (dS (bP (az (ay rfl) (az (ay rfl) (az (wA (j:=P.length-1) (ds:=P.map rm) (ay (i:=7) rfl) (FX bg rfl) (by rw [length_map];exact vh lp) (pZ hu) rfl) aj))) eQ rfl rfl) rfl (by simp)) ?_
  generalize hΓ:([some ⟨.leaf,w.enc⟩,some ⟨.leaf,av R⟩,some ⟨.leaf,cG M⟩,some ⟨.leaf,rm r⟩,some ⟨.leaf,av K⟩,some ⟨.leaf,(dR w K).enc⟩,some ⟨.leaf,rm s⟩,some ⟨.leaf,av P⟩,some ⟨.leaf,av Q⟩,none]:Ev)=Γ
  have g4:Γ[4]?=some (some ⟨.leaf,av K⟩):=by rw [<-hΓ];rfl
  have g7:Γ[7]?=some (some ⟨.leaf,av P⟩):=by rw [<-hΓ];rfl
  have g8:Γ[8]?=some (some ⟨.leaf,av Q⟩):=by rw [<-hΓ];rfl
  have gl:Γ.length=10:=by rw [<-hΓ];rfl
  have comp:∀(fi:F1) (L:List Nat),(∃sh:Sh,sh.isView=false/\fi Γ=.ok ⟨sh,av L⟩ Γ)->L.length<=1000->(∀x∈L,x<K.length)->aw .leaf 9 (aL fi) aI (ah (ae 4) (ae 9)) Γ=.ok ⟨.lst .leaf,av (L.map (fQ K))⟩ Γ:=fun fi L ⟨sh,hv,hf⟩ hL hlt=>by
   have:=kU (s:=.leaf) (i:=9) (fi:=aL fi) (fe:=ah (ae 4) (ae 9)) rm L (fun k=>⟨.leaf,rm (fQ K k)⟩) (st:=!sh.isView) (Γ:=Γ) (b7 (s:=sh) hf (by unfold dv;rw [hv];rfl)) (by omega) rfl (by omega) (fun k hk=>And.intro (wA (j:=k) (ds:=K.map rm) (ay (by rw [getElem?_set_ne (by decide)];exact g4)) (ay (getElem?_set_self (by omega))) (zZ (by rw [length_map];exact hlt k hk)) (aK k (hlt k hk)) rfl) rfl)
   rw [this];have e:(L.map (fQ K)).map rm=L.map fun k=>rm (fQ K k):=by rw [map_map];rfl
   show Out.ok (⟨.lst .leaf,.list (L.map fun k=>rm (fQ K k))⟩:PV) Γ=Out.ok (⟨.lst .leaf,.list ((L.map (fQ K)).map rm)⟩:PV) Γ
   rw [e]
  have sl:=ph (g:=fun k=>(none,some k)) (fa:=ae 7) (fb:=eU cz (eK (.int 1))) (xs:=P.map rm) (k:=-1) (Γ:=Γ) (ay g7) (FX bg rfl) rfl
  have sl2:dN (fun k=>(none,some k)) (ae 7) (eU cz (eK (.int 1))) Γ=.ok ⟨.lst .leaf,av init⟩ Γ:=by
   rw [sl];exact congrArg (fun l=>Out.ok (⟨.lst .leaf,.list l⟩:PV) Γ) (by rw [<-dl];exact pE)
  exact bf (cj (az (comp _ init ⟨.lst .leaf,rfl,sl2⟩ (by omega) ltI) (az (comp _ Q ⟨.leaf,rfl,ay g8⟩ (by omega) ltQ) aj)) rfl rfl) rfl
 ·have c1:kc (dR w K) (init++(Q++[u])):=by
   rw [hQq];have hWP:=WP.ch
   rw [hP] at hWP;rw [hQq] at hQc;have:=qp (z:=u) (q:=q++[u]) hQc hWP (by simp)
   simpa [append_assoc] using this
  have c2:=vS (K:=K) (fun x hx=>by
   rcases List.mem_append.mp hx with z | z
   ·exact ltI x z
   ·rcases List.mem_append.mp z with z | z
    ·exact ltQ x z
    ·rw [List.mem_singleton.mp z]
     exact ltQ u (by rw [hQq];exact mem_cons_self)) c1
  have e:init.map (fQ K)++Q.map (fQ K)++(Q.map (fQ K)).take 1=(init++(Q++[u])).map (fQ K):=by
   rw [hQq];simp
  rw [e];exact c2
 ·obtain ⟨x,hx,hxc⟩:=hQm c hc
  exact ⟨fQ K x,List.mem_map.mpr ⟨x,hx,rfl⟩,by rw [<-uK (ltQ x hx)];exact hxc⟩
end KC
namespace KQ.X
open PySem PySem.Spec L2 T
open PyProof.Rows hiding St
open KC
noncomputable def d_law:FS:=(ak (aB false 1 (ag 3 m__law_world (ab (ae 0) (ab (eK (.int 0)) (ab (eK (.int 6)) af)))))
  (ak (aB false 2 (ag 1 b8 (ab (ag 2 aE (ab (ae 0) (ab (eK (.int 7)) af))) af)))
  (ak (aB false 3 (ah (eK (.str "abc")) (ag 3 aq (ab (ag 2 aE (ab (ae 0) (ab (eK (.int 8)) af))) (ab (eK (.int 0)) (ab (eK (.int 3)) af))))))
  (ak (aB false 4 (ag 2 fh (ab (ae 1) (ab (ae 2) af))))
  (ak (aB false 5 (ag 2 fh (ab (ae 1) (ab (bE (ab (eK (.str "some always")) (ab (ae 2) af))) af))))
  (ak (bW (aM ao (aA mG (ag 3 cV (ab (ae 1) (ab (ae 4) (ab (aU .leaf af) af)))) (ae 5))) (aF (eK (.bool false))) aG)
  (ak (aB false 6 (ag 2 fh (ab (ae 1) (ab (bE (ab (eK (.str "some until")) (ab (ae 2) (ab (bE (ab (eK (.str "and")) (ab (ae 2) (ab (bE (ab (eK (.str "mark")) (ab (ae 3) af))) af)))) af)))) af))))
  (ak (dA 7 (aL (ag 3 cV (ab (ae 1) (ab (ae 4) (ab (aU .leaf (ab (ae 3) af)) af)))))
  (ak (bW (jj (aM ao (aA (bj true) (ae 7) (ae 5))) (aM ao (aA (bj true) (ae 7) (ae 6)))) (aF (eK (.bool false))) aG)
  (bW (aM ao (aA (mH true) (ag 3 bH (ab (ae 1) (ab (bE (ab (eK (.str "some always")) (ab (ae 2) af))) (ab (ag 4 d0 (ab (ae 1) (ab (ae 4) (ab (aU .leaf (ab (ae 3) af)) (ab (ae 7) af))))) af)))) (eK (.bool true)))) (aF (eK (.bool false))) aG)))
  (aF (eK (.bool true)))))))))))
noncomputable def m_law:List PySem.PyData->Res:=aC 8 d_law
end KQ.X
namespace KC
open PySem PySem.Spec L2 T PySem.SeqAt
open PyProof.Rows hiding St
theorem mJ {w:Wd} {s:Sn} {M:List Str} {mk:Str->Nat->Prop} {X:Nat->Prop} (h:Fr w.n w.stp (·∈aX w s) M mk X) {r:Nat} (hr:X r):eA w (.un .sa s) r:=by
 rw [Fh];intro u;have go:∀r,Unt w false (fun _=>True) (fun t=>¬eA w s t) r->X r->False:=fun r u=>by
  induction u with
  | now q=>exact fun hx=>q (mem_rof.mp (h.sub _ hx)).2
  | some e _ _ _ _=>cases e
  | all _ _ _ ih=>
   intro hx;obtain ⟨t,ht,hxt⟩:=h.c _ hx;exact ih t ht hxt
 exact go r u hr
theorem tZ {w:Wd} (ok:w.Ok) {s:Sn}:Fr w.n w.stp (·∈aX w s) ([]:List Str) (wK w) (·∈aX w (.un .sa s)):=by
 refine ⟨fun r hr=>(mem_rof.mp hr).1,fun r hr=>?_,fun r hr=>?_,fun m hm=>by cases hm⟩
 ·obtain ⟨h1,h2⟩:=mem_rof.mp hr
  rw [Fh] at h2;exact mem_rof.mpr ⟨h1,Classical.byContradiction fun z=>h2 (.now z)⟩
 ·obtain ⟨h1,h2⟩:=mem_rof.mp hr
  rw [Fh] at h2;refine Classical.byContradiction fun z=>h2 (.all rfl trivial fun t ht=>?_)
  refine Classical.byContradiction fun y=>z ⟨t,ht,mem_rof.mpr ⟨ok.stp_lt ht,?_⟩⟩
  rw [Fh];exact y
theorem Fy {w:Wd} {s:Sn}:Std w.n (aX w s):=Std.of _
theorem vC {w:Wd} {s:Sn} {c:Str} {X:Nat->Prop} (h:Fr w.n w.stp (·∈aX w s) [c] (wK w) X) {r:Nat} (hr:X r):eA w (.bi .su s (.bi .and s (.mk c))) r:=by
 rw [AC];refine h.a c (by simp) (fun r=>Unt w true (eA w s) (eA w (.bi .and s (.mk c))) r) (fun r hx hm=>.now ?_) (fun r hx ⟨t,ht,_,hu⟩=>.some rfl (mem_rof.mp (h.sub r hx)).2 ht hu) r hr
 exact ⟨(mem_rof.mp (h.sub r hx)).2,hm⟩
end KC
namespace KQ.X
open PySem PySem.Spec L2 T PySem.SeqAt
open PyProof.Rows hiding St
open KC
noncomputable abbrev GS (xs:List D) (w:Wd) (s:Sn) (mc:Nat) (x4 x5 x6 x7:Option PV):Ev:=[some ⟨.leaf,.list xs⟩,some ⟨.leaf,w.enc⟩,some ⟨.leaf,s.enc⟩,some ⟨.leaf,.str ⟨#[mc]⟩⟩,x4,x5,x6,x7]
theorem yJ {xs:List D} (hx:ir xs):m_law [.list xs]=.ok ⟨.leaf,.bool true⟩:=by
 obtain ⟨n,os,ms,ss,e0,g,h1,h6⟩:=rW hx (at':=0) (lim:=6) (by omega) (by omega) (by omega)
 obtain ⟨w,ok,ew,en⟩:=DI g h1 (by omega)
 rw [<-ew] at e0;have h24:=ok.h24
 obtain ⟨c7,hc7⟩:=FF hx (k:=7) (by omega)
 obtain ⟨c8,hc8⟩:=FF hx (k:=8) (by omega)
 obtain ⟨s,es,sz,dp,hs⟩:=vM (c:=c7)
 have dm:=Ad (c:=c8) (k:=0) (b:=3) (by omega) (by omega) (by omega) (by omega)
 have d3:=Dn (c:=c8) (k:=0) (b:=3) (by omega) (by omega) (by omega) (by omega)
 obtain ⟨mc,em,hmc⟩:=nz d3.1 d3.2;have sSt:Sn.ok (.un .sa s):=hs
 have zSt:Sn.size (.un .sa s)<=200:=by simp [Sn.size];omega
 have dSt:Sn.dep (.un .sa s)<=24:=by simp [Sn.dep];omega
 have H0:=HL ok hs (by omega) (by omega)
 have H1:=HL ok sSt zSt dSt
 have H2:=HL ok (s:=.bi .su s (.bi .and s (.mk ⟨#[mc]⟩))) (by simp [Sn.ok,hs,hmc]) (by simp [Sn.size];omega) (by simp [Sn.dep];omega)
 have M0:br [cG []]=.ok ⟨.leaf,.bool true⟩:=rfl
 obtain ⟨K,ef,sK,fK,bK⟩:=mV ok (R:=aX w s) Fy (M:=[]) (fun _ h=>by cases h) M0
 obtain ⟨K2,ef2,sK2,fK2,bK2⟩:=mV ok (R:=aX w s) Fy (M:=[⟨#[mc]⟩]) (fun d hd=>by rw [List.mem_singleton.mp hd];exact hmc) (ve hmc)
 have eKK:K=aX w (.un .sa s):=sK.ext Fy fun r hr=>⟨fun h=>mem_rof.mpr ⟨hr,mJ fK h⟩,fun h=>bK _ (tZ ok) r h⟩
 refine aO ?_
 refine ax (dS (bP (az (ay rfl) (az bg (az bg aj))) e0 rfl rfl) rfl (by simp [aH])) ?_
 refine ax (dS (bP (az (bP (az (ay rfl) (az bg aj)) hc7 rfl rfl) aj) es rfl rfl) rfl (by simp [aH])) ?_
 refine ax (Γ1:=GS xs w s mc none none none none) (dS (GK bg (bP (az (bP (az (ay rfl) (az bg aj)) hc8 rfl rfl) (az bg (az bg aj))) dm rfl rfl) GL em) rfl (by simp [aH])) ?_
 refine ax (Γ1:=GS xs w s mc (some ⟨.leaf,av (aX w s)⟩) none none none) (dS (bP (az (ay rfl) (az (ay rfl) aj)) H0 rfl rfl) rfl (by simp)) ?_
 refine ax (Γ1:=GS xs w s mc (some ⟨.leaf,av (aX w s)⟩) (some ⟨.leaf,av (aX w (.un .sa s))⟩) none none) (dS (bP (az (ay rfl) (az (cj (az bg (az (ay rfl) aj)) rfl rfl) aj)) H1 rfl rfl) rfl (by simp)) ?_
 refine ax (cb (t:=false) (gF (s:=.leaf) (aT (g:=mG) (bP (az (ay rfl) (az (ay rfl) (az (nG (s:=.leaf) aj rfl rfl rfl) aj))) ef rfl rfl) (ay rfl) (BU eKK))) nofun fun _=>rfl) ?_
 refine ax (Γ1:=GS xs w s mc (some ⟨.leaf,av (aX w s)⟩) (some ⟨.leaf,av (aX w (.un .sa s))⟩) (some ⟨.leaf,av (aX w (.bi .su s (.bi .and s (.mk ⟨#[mc]⟩))))⟩) none) (dS (bP (az (ay rfl) (az (cj (az bg (az (ay rfl) (az (cj (az bg (az (ay rfl) (az (cj (az bg (az (ay rfl) aj)) rfl rfl) aj))) rfl rfl) aj))) rfl rfl) aj)) H2 rfl rfl) rfl (by simp)) ?_
 obtain ⟨Γ2,e1,_,x7,hΓ⟩:=HP rm (i:=7) (body:=(ak (bW (jj (aM ao (aA (bj true) (ae 7) (ae 5))) (aM ao (aA (bj true) (ae 7) (ae 6)))) (aF (eK (.bool false))) aG)
  (bW (aM ao (aA (mH true) (ag 3 bH (ab (ae 1) (ab (bE (ab (eK (.str "some always")) (ab (ae 2) af))) (ab (ag 4 d0 (ab (ae 1) (ab (ae 4) (ab (aU .leaf (ab (ae 3) af)) (ab (ae 7) af))))) af)))) (eK (.bool true)))) (aF (eK (.bool false))) aG)))
  (Inv:=fun rest Γ=>(∀a∈rest,a∈K2)/\∃x7,Γ=GS xs w s mc (some ⟨.leaf,av (aX w s)⟩) (some ⟨.leaf,av (aX w (.un .sa s))⟩) (some ⟨.leaf,av (aX w (.bi .su s (.bi .and s (.mk ⟨#[mc]⟩))))⟩) x7)
  (fun a rest Γ ⟨hr,x7,e⟩=>by
   subst e;refine ⟨by simp,GS xs w s mc (some ⟨.leaf,av (aX w s)⟩) (some ⟨.leaf,av (aX w (.un .sa s))⟩) (some ⟨.leaf,av (aX w (.bi .su s (.bi .and s (.mk ⟨#[mc]⟩))))⟩) (some ⟨.leaf,rm a⟩),?_,fun b hb=>hr b (mem_cons_of_mem _ hb),_,rfl⟩
   have ha:=hr a mem_cons_self
   have han:=sK2.lt a ha
   have a1:a∈aX w (.un .sa s):=mem_rof.mpr ⟨han,mJ fK2 ha⟩
   have a2:a∈aX w (.bi .su s (.bi .and s (.mk ⟨#[mc]⟩))):=mem_rof.mpr ⟨han,vC fK2 ha⟩
   obtain ⟨F,Q,ewy,hw,hin,_,hln⟩:=vO ok (R:=aX w s) Fy (M:=[⟨#[mc]⟩]) (fun d hd=>by rw [List.mem_singleton.mp hd];exact hmc) (by simp) (ve hmc) (X:=(·∈K2)) fK2 ha
   have esh:=rX ok sSt zSt dSt rfl hw
   have eal:Gv w (.un .sa s) F Q=true:=List.all_eq_true.mpr fun t ht=>List.contains_iff_mem.mpr (hin t ht)
   rw [eal] at esh;have n1:bj true (rm a) (av (aX w (.un .sa s)))=some (.bool false):=by rw [DA,List.contains_iff_mem.mpr a1];rfl
   have n2:bj true (rm a) (av (aX w (.bi .su s (.bi .and s (.mk ⟨#[mc]⟩)))))=some (.bool false):=by rw [DA,List.contains_iff_mem.mpr a2];rfl
   refine ax (cb (t:=false) (sF (a:=false) (b:=false) (gF (s:=.leaf) (aT (g:=bj true) (ay rfl) (ay rfl) n1)) (gF (s:=.leaf) (aT (g:=bj true) (ay rfl) (ay rfl) n2))) nofun fun _=>rfl) ?_
   exact cb (t:=false) (gF (s:=.leaf) (aT (g:=mH true) (bP (az (ay rfl) (az (cj (az bg (az (ay rfl) aj)) rfl rfl) (az (bP (az (ay rfl) (az (ay rfl) (az (nG (s:=.leaf) (az (ay rfl) aj) rfl rfl rfl) (az (ay rfl) aj)))) ewy rfl rfl) aj))) esh rfl rfl) bg rfl)) nofun fun _=>rfl) K2 (GS xs w s mc (some ⟨.leaf,av (aX w s)⟩) (some ⟨.leaf,av (aX w (.un .sa s))⟩) (some ⟨.leaf,av (aX w (.bi .su s (.bi .and s (.mk ⟨#[mc]⟩))))⟩) none) ⟨fun a ha=>ha,none,rfl⟩
 subst hΓ;exact ax (eG (b7 (s:=.leaf) (bP (az (ay rfl) (az (ay rfl) (az (nG (s:=.leaf) (az (ay rfl) aj) rfl rfl rfl) aj))) ef2 rfl rfl) rfl) e1) (bf bg rfl)
theorem law_true (ns:List Int) (hl:ns.length<=63):m_law [.list (ns.map .int)]=.ok ⟨.leaf,.bool true⟩:=yJ C7
end KQ.X
namespace KQ.X
open PySem PySem.Spec L2 T TQ
open PyProof.Rows hiding St
open KC
noncomputable def cR (n:Nat):Stmt:=(PySem.Challenge.pw_foreseehall_k55_whole_staying_and_judgin.main.body)[n]!
noncomputable def lE:Stmt:=cR 11
noncomputable def lK:Stmt:=cR 12
noncomputable def lJ:Stmt:=cR 13
noncomputable def lI:Stmt:=cR 14
noncomputable def nX:Stmt:=cR 15
noncomputable def jr:Stmt:=cR 16
noncomputable def kn:Stmt:=cR 17
noncomputable def km:Stmt:=cR 18
noncomputable def js:Stmt:=cR 19
noncomputable def ud:Stmt:=cR 21
noncomputable def AD:Stmt:=cR 25
noncomputable def uf:Stmt:=cR 27
noncomputable def nZ:Stmt:=cR 28
noncomputable def jo:Stmt:=cR 29
noncomputable def jm:Stmt:=cR 30
noncomputable def nU:Stmt:=cR 31
noncomputable def nS:Stmt:=cR 32
noncomputable def kq:Stmt:=cR 34
noncomputable def g5:Stmt:=cR 35
noncomputable def qK:Stmt:=cR 36
noncomputable def g6:Stmt:=cR 37
noncomputable def kj:Stmt:=cR 38
noncomputable def qM:Stmt:=cR 39
noncomputable def iD:Stmt:=cR 40
noncomputable def g9:Stmt:=cR 41
noncomputable def oe:Stmt:=cR 42
noncomputable def nW:Stmt:=cR 47
noncomputable def lG:Stmt:=cR 48
noncomputable def iC:Stmt:=cR 49
noncomputable def lD:Stmt:=cR 50
noncomputable def gr:Stmt:=cR 51
noncomputable def gu:Stmt:=cR 52
noncomputable def jn:Stmt:=cR 57
noncomputable def fJ:Stmt:=cR 58
noncomputable def nV:Stmt:=cR 59
noncomputable def oa:Stmt:=cR 60
noncomputable def nT:Stmt:=cR 61
noncomputable def ue:Stmt:=cR 62
noncomputable def xk:Stmt:=cR 63
noncomputable def qN:Stmt:=cR 67
noncomputable def lH:Stmt:=cR 68
noncomputable def qL:Stmt:=cR 69
noncomputable def ko:Stmt:=cR 70
noncomputable def nY:Stmt:=cR 71
noncomputable def jq:Stmt:=cR 72
noncomputable def lC:Stmt:=cR 73
noncomputable def iE:Stmt:=cR 75
noncomputable def lM:Stmt:=cR 76
noncomputable def kr:Stmt:=cR 77
noncomputable def lL:Stmt:=cR 78
noncomputable def DT:Stmt:=cR 79
structure Gl (K:Fg) (mg:Str->Option Value):Prop where
 n0:mg "len"=none
 n1:mg "range"=none
 n2:mg "all"=none
 n3:mg "sorted"=none
 n4:mg "enumerate"=none
 n5:mg "list"=none
 n6:mg "any"=none
 n7:mg "min"=none
 n8:mg "isinstance"=none
 n9:mg "tuple"=none
 n10:mg "str"=none
 n11:mg "int"=none
 h0:gj K mg "LETTERS" bO
 h1:gj K mg "MOST_ROOMS" d6
 h2:gj K mg "PLAYERS" cD
 h3:gj K mg "MOST_WORDS" cX
 h4:gj K mg "MOST_DEPTH" cY
 h5:gj K mg "UNTILS" bZ
 h6:gj K mg "ALWAYS" cN
 h7:gj K mg "BY_SOME_STEP" bt
 h8:gj K mg "OF_SOME" de
 h9:gj K mg "OF_ALL" iS
 t0:qt K mg "PARTS" iw
structure Al (K:Fg) (mg:Str->Option Value):Prop where
 g:Gl K mg
 f0:Ft K mg "is_rising" lE
 f1:Ft K mg "are_marks" lK
 f2:Ft K mg "are_rooms" lJ
 f3:Ft K mg "are_steps" lI
 f4:Ft K mg "is_world" nX
 f5:Ft K mg "check_world" jr
 f6:Ft K mg "check_mark" kn
 f7:Ft K mg "check_room" km
 f8:Ft K mg "check_rooms" js
 f9:Ft K mg "reached" s_reached
 f10:Ft K mg "marked" ud
 f11:Ft K mg "places_of" cI
 f12:Ft K mg "placed" eJ
 f13:Ft K mg "part" AD
 f14:Ft K mg "is_led" uf
 f15:Ft K mg "is_lower" nZ
 f16:Ft K mg "lower_steps" jo
 f17:Ft K mg "ranked_next" jm
 f18:Ft K mg "ranks_to" nU
 f19:Ft K mg "steps_to" nS
 f20:Ft K mg "check_fair" kq
 f21:Ft K mg "steps_to_mark" g5
 f22:Ft K mg "row_off" qK
 f23:Ft K mg "rows_and_kept" g6
 f24:Ft K mg "fair_rooms" kj
 f25:Ft K mg "path_to" qM
 f26:Ft K mg "closed_rooms" iD
 f27:Ft K mg "ring_by_marks" g9
 f28:Ft K mg "fair_way" oe
 f29:Ft K mg "parts_of" nW
 f30:Ft K mg "is_formed" lG
 f31:Ft K mg "parts_of_all" iC
 f32:Ft K mg "layers_of" lD
 f33:Ft K mg "checked_layers" gr
 f34:Ft K mg "check_sentence" gu
 f35:Ft K mg "other_rooms" jn
 f36:Ft K mg "through_and_goal" fJ
 f37:Ft K mg "ranks_of" nV
 f38:Ft K mg "holds_at" oa
 f39:Ft K mg "rooms_by" nT
 f40:Ft K mg "judged" ue
 f41:Ft K mg "holds" xk
 f42:Ft K mg "goes_on" qN
 f43:Ft K mg "check_way" lH
 f44:Ft K mg "room_of" qL
 f45:Ft K mg "check_kind" ko
 f46:Ft K mg "is_until" nY
 f47:Ft K mg "is_so_along" jq
 f48:Ft K mg "way_shows" lC
 f49:Ft K mg "_law_cell_at" iE
 f50:Ft K mg "_law_draw" lM
 f51:Ft K mg "_law_world" kr
 f52:Ft K mg "_law_part" lL
 f53:Ft K mg "law" DT
section
variable {P:Program} {w:World} {K:Fg} {mg:Str->Option Value} {base:Heap} (A:Al K mg)
include A
theorem gM:DefOk P w K mg base 1 "is_rising" 1 dD:=mk A.f0 A.g ["entries"] sE ["k"] ["len", "range", "all"] [0] [0] [0,1,2] fun X S I hp=>
 (bU (sL S 2 rfl rfl I.e.n2 (aJ (iz [0,1] [0] [] S 1 (zq S 1 rfl rfl I.e.n1 (aQ w_de_int (aJ (jk S 0 I.e.n0 (aJ (ai S 0))))) (lB rfl rfl) (fR rfl)) (fun _ _ _=>w_df_nil) (fun Y1 S1 F1=>have I:=F1.i I;(gX (lS I.r) (bu (ai S1 0) (HZ (ai S1 1) w_de_int)) (bu (ai S1 0) (ai S1 1)))))) (dw rfl) rfl))
theorem gO:DefOk P w K mg base 2 "are_marks" 1 br:=mk A.f1 A.g ["entries"] sE ["entry"] ["LETTERS", "all", "is_rising"] [0] [] [1,2] fun X S I hp=>
 (bU (zk (sL S 1 rfl rfl I.e.n2 (aJ (iz [1] [] [0] S 1 (w_di_seq (ai S 0)) (fun _ _ _=>w_df_nil) (fun Y1 S1 F1=>have I:=F1.i I;(gX (dB I.r) (ai S1 1) (dU S1 0 rfl rfl I.e.h0))))) (dw rfl) rfl) (Ag (bC S 2 (I.c (gM A)) (aJ (ai S 0))))))
theorem gN:DefOk P w K mg base 2 "are_rooms" 2 cL:=mk A.f2 A.g ["entries", "size"] j6 ["entry"] ["all", "is_rising"] [0,1] [1] [0,1] fun X S I hp=>
 (bU (zk (sL S 0 rfl rfl I.e.n2 (aJ (iz [1,2] [1] [] S 2 (w_di_seq (ai S 0)) (fun _ _ _=>w_df_nil) (fun Y1 S1 F1=>have I:=F1.i I;(zr (Bq I.r) (lS I.r) w_de_int (ai S1 2) (ai S1 1) (by with_unfolding_all rfl))))) (dw rfl) rfl) (Ag (bC S 1 (I.c (gM A)) (aJ (ai S 0))))))
theorem mi:DefOk P w K mg base 3 "are_steps" 2 dE:=mk A.f3 A.g ["entries", "size"] j6 [] ["len", "are_rooms"] [0,1] [] [0,1] fun X S I hp=>
 (bU (zk (gX (uF I.r) (jk S 0 I.e.n0 (aJ (ai S 0))) w_de_int) (Ag (bC S 1 (I.c (gN A)) (aQ (ai S 0) (aJ (ai S 1)))))))
theorem oo:DefOk P w K mg base 4 "is_world" 3 dX:=mk A.f4 A.g ["owners", "marks", "steps"] nt ["size", "owner", "row"] ["len", "MOST_ROOMS", "PLAYERS", "all", "are_marks", "are_steps"] [0,1,2,3] [3] [0,1,3] fun X S I hp=>
 (ba (cT S false 3 (jk S 0 I.e.n0 (aJ (ai S 0)))) (ba (et (wt (tj (cZ (lS I.r) (ai S 3) w_de_int) (tj (cZ (uF I.r) (ai S 3) (dU S 1 rfl rfl I.e.h1)) (tj (cZ (Bp I.r) (jk S 0 I.e.n0 (aJ (ai S 1))) (ai S 3)) (Af (cZ (Bp I.r) (jk S 0 I.e.n0 (aJ (ai S 2))) (ai S 3))))))) (bU pb) eu) (ba (et (qy (jH (sL S 3 rfl rfl I.e.n2 (aJ (iz [4] [] [2] S 4 (w_di_seq (ai S 0)) (fun _ _ _=>w_df_nil) (fun Y1 S1 F1=>have I:=F1.i I;(gX (dB I.r) (ai S1 4) (dU S1 2 rfl rfl I.e.h2))))) (dw rfl) rfl) (fun _=>rfl))) (bU pb) eu) (bU (zk (sL S 3 rfl rfl I.e.n2 (aJ (iz [5] [] [4] S 5 (w_di_seq (ai S 1)) (fun _ _ _=>w_df_nil) (fun Y2 S2 F2=>have I:=F2.i I;(bC S2 4 (I.c (gO A)) (aJ (ai S2 5)))))) (dw rfl) rfl) (Ag (sL S 3 rfl rfl I.e.n2 (aJ (iz [3,5] [3] [5] S 5 (w_di_seq (ai S 2)) (fun _ _ _=>w_df_nil) (fun Y3 S3 F3=>have I:=F3.i I;(bC S3 5 (I.c (mi A)) (aQ (ai S3 5) (aJ (ai S3 3))))))) (dw rfl) rfl)))))))
theorem Da:DefOk P w K mg base 5 "check_world" 1 aD:=mk A.f5 A.g ["world"] sE [] ["is_world"] [0] [] [0] fun X S I hp=>
 (eY (et (qy (jH (bC S 0 (I.c (oo A)) (aQ (bu (ai S 0) w_de_int) (aQ (bu (ai S 0) w_de_int) (aJ (bu (ai S 0) w_de_int))))) (fun _=>rfl))) (eY wq) eu))
theorem kz:DefOk P w K mg base 1 "check_mark" 1 d5:=mk A.f6 A.g ["mark"] sE [] ["LETTERS"] [0] [] [0] fun X S I hp=>
 (eY (et (cZ (sZ I.r) (ai S 0) (dU S 0 rfl rfl I.e.h0)) (eY wq) eu))
theorem fV:DefOk P w K mg base 1 "check_room" 2 aN:=mk A.f7 A.g ["world", "room"] j6 [] ["len"] [0,1] [] [0] fun X S I hp=>
 (eY (et (qy (DE (Bq I.r) (lS I.r) w_de_int (ai S 1) (jk S 0 I.e.n0 (aJ (bu (ai S 0) w_de_int))) (by with_unfolding_all rfl))) (eY wq) eu))
theorem fw:DefOk P w K mg base 3 "check_rooms" 2 cF:=mk A.f8 A.g ["world", "rooms"] j6 [] ["len", "are_rooms"] [0,1] [] [0,1] fun X S I hp=>
 (eY (et (qy (jH (bC S 1 (I.c (gN A)) (aQ (ai S 1) (aJ (jk S 0 I.e.n0 (aJ (bu (ai S 0) w_de_int)))))) (fun _=>rfl))) (eY wq) eu))
theorem jS:DefOk P w K mg base 6 "reached" 2 aW:=match A.f9 with | ⟨_,_,hm,F⟩=>oi F hm (Dl F j6) A.g.n3 (Da A) (fV A) rfl rfl
theorem u3:DefOk P w K mg base 6 "marked" 2 dM:=mk A.f10 A.g ["world", "mark"] j6 ["room", "row"] ["check_world", "check_mark", "enumerate"] [0,1] [1] [0,1,2] fun X S I hp=>
 (ba (nH (bC S 0 (I.c (Da A)) (aJ (ai S 0))) rfl) (ba (nH (bC S 1 (I.c (kz A)) (aJ (ai S 1))) rfl) (bU (DF (vs':=[1,2,3]) (cs':=[1]) (lo':=[]) (gs':=[]) S .leaf 2 3 2 rfl rfl rfl rfl rfl I.e.n4 (by kernel_rfl) (by kernel_rfl) (bu (ai S 0) w_de_int) (fR rfl) (fun Y1 S1 F1=>have I:=F1.i I;wC (cZ (dB I.r) (ai S1 1) (ai S1 3))) (fun Y1 S1 F1=>have I:=F1.i I;(ai S1 2)) (fun _=>rfl)))))
theorem lZ:vZ P w K mg base 1:=match A.f11 with | ⟨_,_,hm,F⟩=>ky F hm (Dl F j6) A.g.n3
theorem u2:DefOk P w K mg base 2 "placed" 2 ck:=match A.f12 with | ⟨_,_,hm,F⟩=>rA F hm (Dl F j6) A.g.n4 A.g.n5 (lZ A) rfl
theorem BS:DefOk P w K mg base 6 "part" 2 oA:=mk A.f13 A.g ["world", "rooms"] j6 ["told"] ["check_world", "check_rooms", "placed"] [0,1,2] [] [0,1,2] fun X S I hp=>
 (ba (nH (bC S 0 (I.c (Da A)) (aJ (ai S 0))) rfl) (ba (nH (bC S 1 (I.c (fw A)) (aQ (ai S 0) (aJ (ai S 1)))) rfl) (ba (cT S false 2 (bC S 2 (I.c (u2 A)) (aQ (ai S 0) (aJ (ai S 1))))) (ba (et (wt (tj (qy (jH (ai S 1) (fun _=>rfl))) (Af (cZ (dB I.r) (ke .leaf sM) (bu (ai S 2) w_de_int))))) (eY wq) eu) (bU (ai S 2))))))
theorem me:DefOk P w K mg base 1 "is_led" 2 cK:=mk A.f14 A.g ["is_chosen", "by_steps"] j6 [] ["any", "all"] [0,1] [] [0,1] fun X S I hp=>
 (bU (Fz (jH (ai S 0) (fun _=>rfl)) (HY S 0 rfl rfl I.e.n6 (aJ (ai S 1)) (dw rfl) rfl) (sL S 1 rfl rfl I.e.n2 (aJ (ai S 1)) (dw rfl) rfl)))
theorem ot:DefOk P w K mg base 1 "is_lower" 2 dY:=mk A.f15 A.g ["rank", "other"] j6 [] [] [0,1] [] [] fun X S I hp=>
 (bU (zk (gX (Dt I.r) (ai S 0) pe) (zk (gX (Dt I.r) (ai S 1) pe) (Ag (gX (lS I.r) (ai S 0) (ai S 1))))))
theorem jw:DefOk P w K mg base 2 "lower_steps" 3 bN:=mk A.f16 A.g ["world", "ranks", "room"] nt ["there"] ["is_lower"] [0,1,2] [1,2] [] fun X S I hp=>
 (bU (iz [1,2,3] [1,2] [0] S 3 (w_di_seq (bu (bu (ai S 0) w_de_int) (ai S 2))) (fun Y1 S1 F1=>have I:=F1.i I;wC (jH (bC S1 0 (I.c (ot A)) (aQ (bu (ai S1 1) (ai S1 3)) (aJ (bu (ai S1 1) (ai S1 2))))) (fun _=>rfl))) (fun Y1 S1 F1=>have I:=F1.i I;(ai S1 3))))
theorem ju:DefOk P w K mg base 2 "ranked_next" 4 bY:=mk A.f17 A.g ["world", "chosen", "through", "ranks"] Gr ["found", "room", "there"] ["is_led"] [0,1,2,3,4,5] [3] [0] fun X S I hp=>
 (ba (cT S true 4 (ke .leaf sM)) (ba (wX S 5 rfl rfl hp (w_di_seq (ai S 2)) (eY (et (wt (Ia (cZ (xI I.r) (bu (ai S 3) (ai S 5)) pe) (HW (jH (bC S 0 (I.c (me A)) (aQ (bu (ai S 1) (ai S 5)) (aJ (iz [3,6] [3] [] S 6 (w_di_seq (bu (bu (ai S 0) w_de_int) (ai S 5))) (fun _ _ _=>w_df_nil) (fun Y1 S1 F1=>have I:=F1.i I;(gX (Dt I.r) (bu (ai S1 3) (ai S1 6)) pe)))))) (fun _=>rfl))))) (eY (Ah S 4 rfl rfl (ai S 5) (fR rfl) rfl rfl rfl rfl)) eu)) (fun _=>rfl)) (bU (kg S 4 rfl rfl))))
theorem iJ:DefOk P w K mg base 3 "ranks_to" 4 dW:=mk A.f18 A.g ["world", "chosen", "through", "goal"] Gr ["ranks", "rank", "fresh", "room", "owner"] ["ranked_next"] [0,1,2,3,4,5,6,7] [] [0] fun X S I hp=>
 (ba (zp (vs':=[8]) (cs':=[]) (lo':=[]) (gs':=[]) S true 4 .leaf 8 rfl rfl rfl rfl (by kernel_rfl) (by kernel_rfl) (by kernel_rfl) (w_di_seq (bu (ai S 0) w_de_int)) (fun _ _ _=>w_df_nil) (fun Y1 S1 F1=>pe) (fun _=>rfl)) (ba (cT S false 5 w_de_int) (ba (cT S false 6 (ai S 3)) (ba (FR 1000 hp (jH (ai S 6) (fun _=>rfl)) (ba (wX S 7 rfl rfl hp (w_di_seq (ai S 6)) (eY (qA S 4 rfl rfl (ai S 5) (ai S 7) rfl rfl rfl (fun _=>rfl))) (fun _=>rfl)) (ba (lh S 5 rfl rfl w_de_int) (eY (cT S false 6 (Am S 0 rfl rfl (I.c (ju A)) (aQ (ai S 0) (aQ (ai S 1) (aQ (ai S 2) (aJ (ai S 4))))) (dw rfl) rfl)))))) (bU (kg S 4 rfl rfl))))))
theorem iI:DefOk P w K mg base 4 "steps_to" 3 di:=mk A.f19 A.g ["world", "through", "goal"] nt ["owner"] ["ranks_to"] [0,1,2] [] [0] fun X S I hp=>
 (bU (bC S 0 (I.c (iJ A)) (aQ (ai S 0) (aQ (iz [3] [] [] S 3 (w_di_seq (bu (ai S 0) w_de_int)) (fun _ _ _=>w_df_nil) (fun Y1 S1 F1=>pb)) (aQ (ai S 1) (aJ (ai S 2)))))))
theorem fW:DefOk P w K mg base 6 "check_fair" 3 bT:=mk A.f20 A.g ["world", "rooms", "marks"] nt [] ["check_world", "are_marks", "check_rooms"] [0,1,2] [] [0,1,2] fun X S I hp=>
 (ba (nH (bC S 0 (I.c (Da A)) (aJ (ai S 0))) rfl) (ba (et (qy (jH (bC S 1 (I.c (gO A)) (aJ (ai S 2))) (fun _=>rfl))) (eY wq) eu) (eY (nH (bC S 2 (I.c (fw A)) (aQ (ai S 0) (aJ (ai S 1)))) rfl))))
theorem hE:DefOk P w K mg base 5 "steps_to_mark" 3 bJ:=mk A.f21 A.g ["world", "rooms", "mark"] nt ["room"] ["steps_to"] [0,1,2] [0,2] [0] fun X S I hp=>
 (bU (bC S 0 (I.c (iI A)) (aQ (ai S 0) (aQ (ai S 1) (aJ (iz [0,2,3] [0,2] [] S 3 (w_di_seq (ai S 1)) (fun Y1 S1 F1=>have I:=F1.i I;wC (cZ (dB I.r) (ai S1 2) (bu (bu (ai S1 0) w_de_int) (ai S1 3)))) (fun Y1 S1 F1=>have I:=F1.i I;(ai S1 3))))))))
theorem jR:DefOk P w K mg base 6 "row_off" 3 cB:=mk A.f22 A.g ["world", "left", "marks"] nt ["ended", "mark", "ranks", "lost", "room", "there"] ["any", "steps_to_mark"] [0,1,2,3,4,5,6] [0,1,5] [1] fun X S I hp=>
 (ba (zp (vs':=[0,1,7]) (cs':=[0,1]) (lo':=[]) (gs':=[0]) S false 3 .leaf 7 rfl rfl rfl rfl (by kernel_rfl) (by kernel_rfl) (by kernel_rfl) (w_di_seq (ai S 1)) (fun Y1 S1 F1=>have I:=F1.i I;wC (qy (jH (HY S1 0 rfl rfl I.e.n6 (aJ (iz [1,8] [1] [] S1 8 (w_di_seq (bu (bu (ai S1 0) w_de_int) (ai S1 7))) (fun _ _ _=>w_df_nil) (fun Y2 S2 F2=>have I:=F2.i I;(gX (dB I.r) (ai S2 8) (ai S2 1))))) (dw rfl) rfl) (fun _=>rfl)))) (fun Y1 S1 F1=>have I:=F1.i I;(ai S1 7)) (fun _=>rfl)) (ba (et (jH (ai S 3) (fun _=>rfl)) (bU (iu (aQ (ai S 3) (aJ pe)))) eu) (ba (wX S 4 rfl rfl hp (w_di_seq (ai S 2)) (ba (cT S false 5 (bC S 1 (I.c (hE A)) (aQ (ai S 0) (aQ (ai S 1) (aJ (ai S 4)))))) (ba (zp (vs':=[5,7]) (cs':=[5]) (lo':=[]) (gs':=[]) S false 6 .leaf 7 rfl rfl rfl rfl (by kernel_rfl) (by kernel_rfl) (by kernel_rfl) (w_di_seq (ai S 1)) (fun Y3 S3 F3=>have I:=F3.i I;wC (cZ (xI I.r) (bu (ai S3 5) (ai S3 7)) pe)) (fun Y3 S3 F3=>have I:=F3.i I;(ai S3 7)) (fun _=>rfl)) (eY (et (jH (ai S 6) (fun _=>rfl)) (bU (iu (aQ (ai S 6) (aJ (ai S 4))))) eu)))) (fun _=>rfl)) (bU pe))))
theorem eh:DefOk P w K mg base 7 "rows_and_kept" 3 bz:=mk A.f23 A.g ["world", "rooms", "marks"] nt ["rows", "left", "row", "room"] ["list", "row_off"] [0,1,2,3,4,5] [5] [0,1] fun X S I hp=>
 (ba (cT S true 3 (ke .leaf sM)) (ba (cT S false 4 (w_cb_list S 0 rfl rfl I.e.n5 (ai S 1) (fR rfl))) (ba (cT S false 5 (bC S 1 (I.c (jR A)) (aQ (ai S 0) (aQ (ai S 4) (aJ (ai S 2)))))) (ba (FR 1000 hp (cZ (Dt I.r) (ai S 5) pe) (ba (Ah S 3 rfl rfl (ai S 5) (fR rfl) rfl rfl rfl rfl) (ba (zp (vs':=[5,6]) (cs':=[5]) (lo':=[]) (gs':=[]) S false 4 .leaf 6 rfl rfl rfl rfl (by kernel_rfl) (by kernel_rfl) (by kernel_rfl) (w_di_seq (ai S 4)) (fun Y1 S1 F1=>have I:=F1.i I;wC (cZ (sZ I.r) (ai S1 6) (bu (ai S1 5) w_de_int))) (fun Y1 S1 F1=>have I:=F1.i I;(ai S1 6)) (fun _=>rfl)) (eY (cT S false 5 (bC S 1 (I.c (jR A)) (aQ (ai S 0) (aQ (ai S 4) (aJ (ai S 2)))))))))) (bU (iu (aQ (kg S 3 rfl rfl) (aJ (ai S 4)))))))))
theorem fU:DefOk P w K mg base 8 "fair_rooms" 3 cV:=mk A.f24 A.g ["world", "rooms", "marks"] nt [] ["check_fair", "rows_and_kept"] [0,1,2] [] [0,1] fun X S I hp=>
 (ba (nH (bC S 0 (I.c (fW A)) (aQ (ai S 0) (aQ (ai S 1) (aJ (ai S 2))))) rfl) (bU (bu (bC S 1 (I.c (eh A)) (aQ (ai S 0) (aQ (ai S 1) (aJ (ai S 2))))) w_de_int)))
theorem HU:DefOk P w K mg base 5 "path_to" 3 bM:=mk A.f25 A.g ["world", "room", "goal"] nt ["ranks", "path"] ["len", "list", "range", "steps_to", "lower_steps"] [0,1,2,3,4] [] [0,1,2,3,4] fun X S I hp=>
 (ba (cT S false 3 (bC S 3 (I.c (iI A)) (aQ (ai S 0) (aQ (eI S 1 2 rfl rfl I.e.n5 rfl rfl I.e.n1 (aJ (jk S 0 I.e.n0 (aJ (bu (ai S 0) w_de_int)))) (fR rfl) (fR rfl)) (aJ (ai S 2)))))) (ba (cT S true 4 (ke .leaf (aJ (ai S 1)))) (ba (FR 100 hp (cZ (uF I.r) (bu (ai S 3) (FE S 4 rfl rfl (Ae w_de_int) (fun _ _=>rfl))) w_de_int) (eY (Ah S 4 rfl rfl (bu (bC S 4 (I.c (jw A)) (aQ (ai S 0) (aQ (ai S 3) (aJ (FE S 4 rfl rfl (Ae w_de_int) (fun _ _=>rfl)))))) w_de_int) (fR rfl) rfl rfl rfl rfl))) (bU (kg S 4 rfl rfl)))))
theorem iL:DefOk P w K mg base 7 "closed_rooms" 2 dk:=mk A.f26 A.g ["world", "room"] j6 ["there"] ["reached", "min", "len"] [0,1] [0] [0,1,2] fun X S I hp=>
 (bU (qD S 1 2 rfl rfl I.e.n7 rfl rfl I.e.n0 (iz [0,2] [0] [0] S 2 (w_di_seq (bC S 0 (I.c (jS A)) (aQ (ai S 0) (aJ (ai S 1))))) (fun _ _ _=>w_df_nil) (fun Y1 S1 F1=>have I:=F1.i I;(bC S1 0 (I.c (jS A)) (aQ (ai S1 0) (aJ (ai S1 2)))))) (fR rfl)))
theorem hJ:DefOk P w K mg base 7 "ring_by_marks" 3 cS:=mk A.f27 A.g ["world", "marks", "room"] nt ["ring", "mark"] ["marked", "path_to"] [0,1,2,3,4] [] [0,1] fun X S I hp=>
 (ba (cT S true 3 (ke .leaf (aJ (ai S 2)))) (ba (wX S 4 rfl rfl hp (w_di_seq (ai S 1)) (eY (gH S 3 rfl rfl (ll (bC S 1 (I.c (HU A)) (aQ (ai S 0) (aQ (FE S 3 rfl rfl (Ae w_de_int) (fun _ _=>rfl)) (aJ (bC S 0 (I.c (u3 A)) (aQ (ai S 0) (aJ (ai S 4)))))))) w_de_int) (fR rfl) rfl rfl rfl rfl)) (fun _=>rfl)) (bU (Dy (ai S 3) (HV (bC S 1 (I.c (HU A)) (aQ (ai S 0) (aQ (bu (bu (bu (ai S 0) w_de_int) (FE S 3 rfl rfl (Ae w_de_int) (fun _ _=>rfl))) w_de_int) (aJ (ke .leaf (aJ (ai S 2))))))) (Ae w_de_int))))))
theorem ow:DefOk P w K mg base 8 "fair_way" 4 d0:=mk A.f28 A.g ["world", "rooms", "marks", "room"] Gr ["kept", "inner", "start", "path", "ring", "number"] ["check_fair", "check_room", "rows_and_kept", "part", "closed_rooms", "path_to", "ring_by_marks"] [0,1,2,3,4,5,6,7,8] [4] [0,1,2,3,4,5,6] fun X S I hp=>
 (ba (nH (bC S 0 (I.c (fW A)) (aQ (ai S 0) (aQ (ai S 1) (aJ (ai S 2))))) rfl) (ba (nH (bC S 1 (I.c (fV A)) (aQ (ai S 0) (aJ (ai S 3)))) rfl) (ba (cT S false 4 (bu (bC S 2 (I.c (eh A)) (aQ (ai S 0) (aQ (ai S 1) (aJ (ai S 2))))) w_de_int)) (ba (et (cZ (sZ I.r) (ai S 3) (ai S 4)) (eY wq) eu) (ba (cT S false 5 (bC S 3 (I.c (BS A)) (aQ (ai S 0) (aJ (ai S 4))))) (ba (cT S false 6 (tJ S 4 rfl rfl (ai S 3) rfl (fR rfl) rfl)) (ba (cT S false 7 (bC S 5 (I.c (HU A)) (aQ (ai S 5) (aQ (ai S 6) (aJ (bC S 4 (I.c (iL A)) (aQ (ai S 5) (aJ (ai S 6))))))))) (ba (cT S false 8 (bC S 6 (I.c (hJ A)) (aQ (ai S 5) (aQ (ai S 2) (aJ (bu (ai S 7) (Ae w_de_int))))))) (bU (iu (aQ (iz [4,9] [4] [] S 9 (w_di_seq (HV (ai S 7) (Ae w_de_int))) (fun _ _ _=>w_df_nil) (fun Y1 S1 F1=>(bu (ai S1 4) (ai S1 9)))) (aJ (iz [4,9] [4] [] S 9 (w_di_seq (ai S 8)) (fun _ _ _=>w_df_nil) (fun Y2 S2 F2=>(bu (ai S2 4) (ai S2 9))))))))))))))))
theorem Ih:DefOk P w K mg base 1 "parts_of" 1 aR:=mk A.f29 A.g ["sentence"] sE [] [] [0] [] [] fun X S I hp=>
 (bU (Fz (cZ (fm I.r) (bu (ai S 0) w_de_int) gk) (iu sM) (tH (ai S 0) w_de_int)))
theorem mf:DefOk P w K mg base 1 "is_formed" 1 bA:=mk A.f30 A.g ["some"] sE [] ["isinstance", "tuple", "len", "str", "LETTERS", "PARTS"] [0] [] [0,1,2,3,4,5] fun X S I hp=>
 (ba (et (wt (tj (qy (jH (lq S 0 1 rfl rfl rfl rfl rfl yX I.e.n8 I.e.n9 (ai S 0) (dw rfl) (dw rfl) rfl) (fun _=>rfl))) (tj (cZ (fm I.r) (jk S 2 I.e.n0 (aJ (ai S 0))) w_de_int) (Af (qy (jH (lq S 0 3 rfl rfl rfl rfl rfl EM I.e.n8 I.e.n10 (bu (ai S 0) w_de_int) (dw rfl) (dw rfl) rfl) (fun _=>rfl))))))) (bU pb) eu) (ba (et (cZ (fm I.r) (bu (ai S 0) w_de_int) gk) (bU (zk (gX (fm I.r) (jk S 2 I.e.n0 (aJ (ai S 0))) w_de_int) (Ag (gX (dB I.r) (bu (ai S 0) w_de_int) (dU S 4 rfl rfl I.e.h0))))) eu) (bU (zk (iy S 5 rfl rfl I.e.t0 (bu (ai S 0) w_de_int)) (Ag (gX (fm I.r) (jk S 2 I.e.n0 (aJ (ai S 0))) (sN w_de_int (qC S 5 rfl rfl I.e.t0 (bu (ai S 0) w_de_int) (fun _ _=>rfl)))))))))
theorem iK:DefOk P w K mg base 2 "parts_of_all" 1 cn:=mk A.f31 A.g ["sentences"] sE ["found", "sentence"] ["parts_of"] [0,1,2] [] [0] fun X S I hp=>
 (ba (cT S true 1 (ke .leaf sM)) (ba (wX S 2 rfl rfl hp (w_di_seq (ai S 0)) (eY (gH S 1 rfl rfl (bC S 0 (I.c (Ih A)) (aJ (ai S 2))) (fR rfl) rfl rfl rfl rfl)) (fun _=>rfl)) (bU (kg S 1 rfl rfl))))
theorem ma:DefOk P w K mg base 3 "layers_of" 1 eN:=mk A.f32 A.g ["some"] sE ["layers", "layer", "many", "each"] ["len", "MOST_WORDS", "MOST_DEPTH", "is_formed", "all", "parts_of_all"] [0,1,2,3] [] [0,1,2,4,5] fun X S I hp=>
 (ba (cT S true 1 (ke .leaf sM)) (ba (cT S false 2 (ke .leaf (aJ (ai S 0)))) (ba (cT S false 3 w_de_int) (ba (FR 1000 hp (jH (ai S 2) (fun _=>rfl)) (ba (lh S 3 rfl rfl (jk S 0 I.e.n0 (aJ (ai S 2)))) (ba (et (wt (tj (cZ (uF I.r) (ai S 3) (dU S 1 rfl rfl I.e.h3)) (tj (cZ (fm I.r) (jk S 0 I.e.n0 (aJ (ai S 1))) (dU S 2 rfl rfl I.e.h4)) (Af (qy (jH (sL S 4 rfl rfl I.e.n2 (aJ (iz [4] [] [3] S 4 (w_di_seq (ai S 2)) (fun _ _ _=>w_df_nil) (fun Y1 S1 F1=>have I:=F1.i I;(bC S1 3 (I.c (mf A)) (aJ (ai S1 4)))))) (dw rfl) rfl) (fun _=>rfl))))))) (bU pe) eu) (ba (Ah S 1 rfl rfl (ai S 2) (fR rfl) rfl rfl rfl rfl) (eY (cT S false 2 (bC S 5 (I.c (iK A)) (aJ (ai S 2))))))))) (bU (kg S 1 rfl rfl))))))
theorem gw:DefOk P w K mg base 4 "checked_layers" 1 cC:=mk A.f33 A.g ["sentence"] sE ["layers"] ["layers_of"] [0,1] [] [0] fun X S I hp=>
 (ba (cT S false 1 (bC S 0 (I.c (ma A)) (aJ (ai S 0)))) (ba (et (cZ (xI I.r) (ai S 1) pe) (eY wq) eu) (bU (ai S 1))))
theorem dJ:DefOk P w K mg base 5 "check_sentence" 1 bS:=mk A.f34 A.g ["sentence"] sE [] ["checked_layers"] [0] [] [0] fun X S I hp=>
 (eY (nH (bC S 0 (I.c (gw A)) (aJ (ai S 0))) rfl))
theorem jv:DefOk P w K mg base 1 "other_rooms" 2 cE:=mk A.f35 A.g ["world", "rooms"] j6 ["room"] ["len", "range"] [0,1] [1] [0,1] fun X S I hp=>
 (bU (iz [1,2] [1] [] S 2 (lj S 1 rfl rfl I.e.n1 (aJ (jk S 0 I.e.n0 (aJ (bu (ai S 0) w_de_int)))) (fR rfl)) (fun Y1 S1 F1=>have I:=F1.i I;wC (cZ (sZ I.r) (ai S1 2) (ai S1 1))) (fun Y1 S1 F1=>have I:=F1.i I;(ai S1 2))))
theorem fL:DefOk P w K mg base 2 "through_and_goal" 3 bb:=mk A.f36 A.g ["world", "sentence", "parts"] nt [] ["UNTILS", "len", "list", "range", "other_rooms"] [0,1,2] [] [0,1,2,3,4] fun X S I hp=>
 (ba (et (cZ (dB I.r) (bu (ai S 1) w_de_int) (dU S 0 rfl rfl I.e.h5)) (bU (iu (aQ (bu (ai S 2) w_de_int) (aJ (bu (ai S 2) w_de_int))))) eu) (bU (iu (aQ (eI S 2 3 rfl rfl I.e.n5 rfl rfl I.e.n1 (aJ (jk S 1 I.e.n0 (aJ (bu (ai S 0) w_de_int)))) (fR rfl) (fR rfl)) (aJ (bC S 4 (I.c (jv A)) (aQ (ai S 0) (aJ (bu (ai S 2) w_de_int)))))))))
theorem om:DefOk P w K mg base 4 "ranks_of" 3 bQ:=mk A.f37 A.g ["world", "sentence", "parts"] nt ["word", "both", "owner"] ["UNTILS", "ALWAYS", "through_and_goal", "BY_SOME_STEP", "ranks_to"] [0,1,2,3,4] [3] [0,1,2,4] fun X S I hp=>
 (ba (cT S false 3 (bu (ai S 1) w_de_int)) (ba (et (wt (Ia (cZ (sZ I.r) (ai S 3) (dU S 0 rfl rfl I.e.h5)) (HW (cZ (sZ I.r) (ai S 3) (dU S 1 rfl rfl I.e.h6))))) (bU pe) eu) (ba (cT S false 4 (bC S 2 (I.c (fL A)) (aQ (ai S 0) (aQ (ai S 1) (aJ (ai S 2)))))) (bU (bC S 4 (I.c (iJ A)) (aQ (ai S 0) (aQ (iz [3,5] [3] [3] S 5 (w_di_seq (bu (ai S 0) w_de_int)) (fun _ _ _=>w_df_nil) (fun Y1 S1 F1=>have I:=F1.i I;(gX (dB I.r) (ai S1 3) (dU S1 3 rfl rfl I.e.h7)))) (aQ (bu (ai S 4) w_de_int) (aJ (bu (ai S 4) w_de_int))))))))))
theorem ou:DefOk P w K mg base 2 "holds_at" 5 dZ:=mk A.f38 A.g ["world", "sentence", "parts", "ranks", "room"] KG ["word", "here", "rooms", "there"] ["UNTILS", "ALWAYS", "all", "any", "BY_SOME_STEP", "is_led"] [0,1,2,3,4,5,6] [2,4] [0,1,2,3,4,5] fun X S I hp=>
 (ba (cT S false 5 (bu (ai S 1) w_de_int)) (ba (et (cZ (fm I.r) (ai S 5) gk) (bU pb) eu) (ba (et (cZ (fm I.r) (ai S 5) gk) (bU (gX (dB I.r) (bu (ai S 1) w_de_int) (bu (bu (ai S 0) w_de_int) (ai S 4)))) eu) (ba (et (cZ (dB I.r) (ai S 5) (dU S 0 rfl rfl I.e.h5)) (bU (gX (Dt I.r) (bu (ai S 3) (ai S 4)) pe)) eu) (ba (et (cZ (dB I.r) (ai S 5) (dU S 1 rfl rfl I.e.h6)) (bU (gX (xI I.r) (bu (ai S 3) (ai S 4)) pe)) eu) (ba (zp (vs':=[4,7]) (cs':=[4]) (lo':=[]) (gs':=[]) S false 6 .leaf 7 rfl rfl rfl rfl (by kernel_rfl) (by kernel_rfl) (by kernel_rfl) (w_di_seq (ai S 2)) (fun _ _ _=>w_df_nil) (fun Y1 S1 F1=>have I:=F1.i I;(gX (dB I.r) (ai S1 4) (ai S1 7))) (fun _=>rfl)) (ba (et (cZ (fm I.r) (ai S 5) gk) (bU (tF (bu (ai S 6) w_de_int))) eu) (ba (et (wt (tj (cZ (fm I.r) (ai S 5) gk) (Af (cZ (fm I.r) (ai S 5) gk)))) (bU (Fz (cZ (fm I.r) (ai S 5) gk) (sL S 2 rfl rfl I.e.n2 (aJ (ai S 6)) (dw rfl) rfl) (HY S 3 rfl rfl I.e.n6 (aJ (ai S 6)) (dw rfl) rfl))) eu) (bU (bC S 5 (I.c (me A)) (aQ (gX (dB I.r) (ai S 5) (dU S 4 rfl rfl I.e.h7)) (aJ (iz [2,8] [2] [] S 8 (w_di_seq (bu (bu (ai S 0) w_de_int) (ai S 4))) (fun _ _ _=>w_df_nil) (fun Y2 S2 F2=>have I:=F2.i I;(gX (dB I.r) (ai S2 8) (bu (ai S2 2) w_de_int))))))))))))))))
theorem oj:DefOk P w K mg base 3 "rooms_by" 4 dj:=mk A.f39 A.g ["world", "sentence", "parts", "ranks"] Gr ["room"] ["len", "range", "holds_at"] [0,1,2,3] [0,1,2,3] [0,1] fun X S I hp=>
 (bU (iz [0,1,2,3,4] [0,1,2,3] [2] S 4 (lj S 1 rfl rfl I.e.n1 (aJ (jk S 0 I.e.n0 (aJ (bu (ai S 0) w_de_int)))) (fR rfl)) (fun Y1 S1 F1=>have I:=F1.i I;wC (jH (bC S1 2 (I.c (ou A)) (aQ (ai S1 0) (aQ (ai S1 1) (aQ (ai S1 2) (aQ (ai S1 3) (aJ (ai S1 4))))))) (fun _=>rfl))) (fun Y1 S1 F1=>have I:=F1.i I;(ai S1 4))))
theorem rz (n:Nat):DefOk P w K mg base (4+n) "judged" 2 (dh n):=by
 induction n with
 | zero=>exact Kw A.f40 j6
 | succ n ih=>exact mk (k:=4+n) A.f40 A.g ["world", "sentence"] j6 ["parts", "part"] ["parts_of", "judged", "ranks_of", "rooms_by"] [0,1,2] [0] [0,2,3] fun X S I hp=>
  (ba (zp (vs':=[0,3]) (cs':=[0]) (lo':=[]) (gs':=[1]) S false 2 .leaf 3 rfl rfl rfl rfl (by kernel_rfl) (by kernel_rfl) (by kernel_rfl) (la (bC S 0 (I.c (Ih A)) (aJ (ai S 1)))) (fun _ _ _=>w_df_nil) (fun Y1 S1 F1=>have I:=F1.i I;(bC S1 1 (I.c ih) (aQ (ai S1 0) (aJ (ai S1 3))))) (fun _=>rfl)) (bU (bC S 3 (I.c (oj A)) (aQ (ai S 0) (aQ (ai S 1) (aQ (ai S 2) (aJ (bC S 2 (I.c (om A)) (aQ (ai S 0) (aQ (ai S 1) (aJ (ai S 2))))))))))))
theorem md:DefOk P w K mg base 34 "judged" 2 cJ:=rz A 30
theorem GY:DefOk P w K mg base 35 "holds" 2 fh:=mk A.f41 A.g ["world", "sentence"] j6 [] ["check_world", "check_sentence", "judged"] [0,1] [] [0,1,2] fun X S I hp=>
 (ba (nH (bC S 0 (I.c (Da A)) (aJ (ai S 0))) rfl) (ba (nH (bC S 1 (I.c (dJ A)) (aJ (ai S 1))) rfl) (bU (bC S 2 (I.c (md A)) (aQ (ai S 0) (aJ (ai S 1)))))))
theorem rD:DefOk P w K mg base 1 "goes_on" 2 gy:=mk A.f42 A.g ["world", "way"] j6 ["rooms", "k", "room"] ["len", "all", "range"] [0,1,2] [0,2] [0,1,2] fun X S I hp=>
 (ba (cT S false 2 (Dy (Dy (bu (ai S 1) w_de_int) (bu (ai S 1) w_de_int)) (HV (bu (ai S 1) w_de_int) w_de_int))) (ba (et (wt (tj (qy (jH (bu (ai S 1) w_de_int) (fun _=>rfl))) (Af (qy (jH (sL S 1 rfl rfl I.e.n2 (aJ (iz [0,4] [0] [0] S 4 (w_di_seq (ai S 2)) (fun _ _ _=>w_df_nil) (fun Y1 S1 F1=>have I:=F1.i I;(zr (Bq I.r) (lS I.r) w_de_int (ai S1 4) (jk S1 0 I.e.n0 (aJ (bu (ai S1 0) w_de_int))) (by with_unfolding_all rfl))))) (dw rfl) rfl) (fun _=>rfl)))))) (bU pb) eu) (bU (sL S 1 rfl rfl I.e.n2 (aJ (iz [0,2,3] [0,2] [] S 3 (zq S 2 rfl rfl I.e.n1 (aQ w_de_int (aJ (jk S 0 I.e.n0 (aJ (ai S 2))))) (lB rfl rfl) (fR rfl)) (fun _ _ _=>w_df_nil) (fun Y2 S2 F2=>have I:=F2.i I;(gX (dB I.r) (bu (ai S2 2) (ai S2 3)) (bu (bu (ai S2 0) w_de_int) (bu (ai S2 2) (HZ (ai S2 3) w_de_int))))))) (dw rfl) rfl))))
theorem mh:DefOk P w K mg base 2 "check_way" 2 eO:=mk A.f43 A.g ["world", "way"] j6 [] ["goes_on"] [0,1] [] [0] fun X S I hp=>
 (eY (et (qy (jH (bC S 0 (I.c (rD A)) (aQ (ai S 0) (aJ (ai S 1)))) (fun _=>rfl))) (eY wq) eu))
theorem rC:DefOk P w K mg base 1 "room_of" 2 gx:=mk A.f44 A.g ["way", "place"] j6 ["many"] ["len"] [0,1,2] [] [0] fun X S I hp=>
 (ba (cT S false 2 (jk S 0 I.e.n0 (aJ (bu (ai S 0) w_de_int)))) (bU (Fz (cZ (lS I.r) (ai S 1) (ai S 2)) (bu (bu (ai S 0) w_de_int) (ai S 1)) (bu (bu (ai S 0) w_de_int) (zl (HZ (ai S 1) (ai S 2)) (jk S 0 I.e.n0 (aJ (bu (ai S 0) w_de_int))))))))
theorem kA:DefOk P w K mg base 6 "check_kind" 1 cW:=mk A.f45 A.g ["sentence"] sE [] ["check_sentence", "OF_SOME", "OF_ALL"] [0] [] [0,1,2] fun X S I hp=>
 (ba (nH (bC S 0 (I.c (dJ A)) (aJ (ai S 0))) rfl) (eY (et (wt (Ia (cZ (sZ I.r) (bu (ai S 0) w_de_int) (dU S 1 rfl rfl I.e.h8)) (HW (cZ (sZ I.r) (bu (ai S 0) w_de_int) (dU S 2 rfl rfl I.e.h9))))) (eY wq) eu)))
theorem oq:DefOk P w K mg base 1 "is_until" 3 fM:=mk A.f46 A.g ["rooms", "first", "second"] nt ["room"] [] [0,1,2,3] [] [] fun X S I hp=>
 (ba (wX S 3 rfl rfl hp (w_di_seq (ai S 0)) (ba (et (cZ (dB I.r) (ai S 3) (ai S 2)) (bU pb) eu) (eY (et (cZ (sZ I.r) (ai S 3) (ai S 1)) (bU pb) eu))) (fun _=>rfl)) (bU pb))
theorem jx:DefOk P w K mg base 2 "is_so_along" 3 dF:=mk A.f47 A.g ["way", "word", "parts"] nt ["rooms", "room"] ["UNTILS", "is_until", "ALWAYS", "all", "room_of"] [0,1,2,3] [2] [0,1,2,3,4] fun X S I hp=>
 (ba (cT S false 3 (Dy (bu (ai S 0) w_de_int) (bu (ai S 0) w_de_int))) (ba (et (cZ (dB I.r) (ai S 1) (dU S 0 rfl rfl I.e.h5)) (bU (bC S 1 (I.c (oq A)) (aQ (ai S 3) (aQ (bu (ai S 2) w_de_int) (aJ (bu (ai S 2) w_de_int)))))) eu) (ba (et (cZ (dB I.r) (ai S 1) (dU S 2 rfl rfl I.e.h6)) (bU (sL S 3 rfl rfl I.e.n2 (aJ (iz [2,4] [2] [] S 4 (w_di_seq (ai S 3)) (fun _ _ _=>w_df_nil) (fun Y1 S1 F1=>have I:=F1.i I;(gX (dB I.r) (ai S1 4) (bu (ai S1 2) w_de_int))))) (dw rfl) rfl)) eu) (bU (gX (dB I.r) (bC S 4 (I.c (rC A)) (aQ (ai S 0) (aJ w_de_int))) (bu (ai S 2) w_de_int))))))
theorem lY:DefOk P w K mg base 35 "way_shows" 3 bH:=mk A.f48 A.g ["world", "sentence", "way"] nt ["parts", "part"] ["check_world", "check_kind", "check_way", "parts_of", "judged", "is_so_along", "OF_SOME"] [0,1,2,3] [0] [0,1,2,3,5,6] fun X S I hp=>
 (ba (nH (bC S 0 (I.c (Da A)) (aJ (ai S 0))) rfl) (ba (nH (bC S 1 (I.c (kA A)) (aJ (ai S 1))) rfl) (ba (nH (bC S 2 (I.c (mh A)) (aQ (ai S 0) (aJ (ai S 2)))) rfl) (ba (zp (vs':=[0,4]) (cs':=[0]) (lo':=[]) (gs':=[4]) S false 3 .leaf 4 rfl rfl rfl rfl (by kernel_rfl) (by kernel_rfl) (by kernel_rfl) (la (bC S 3 (I.c (Ih A)) (aJ (ai S 1)))) (fun _ _ _=>w_df_nil) (fun Y1 S1 F1=>have I:=F1.i I;(bC S1 4 (I.c (md A)) (aQ (ai S1 0) (aJ (ai S1 4))))) (fun _=>rfl)) (bU (gX (fm I.r) (bC S 5 (I.c (jx A)) (aQ (ai S 2) (aQ (bu (ai S 1) w_de_int) (aJ (ai S 3))))) (gX (dB I.r) (bu (ai S 1) w_de_int) (dU S 6 rfl rfl I.e.h8))))))))
theorem FW:DefOk P w K mg base 1 "_law_cell_at" 2 aE:=mk A.f49 A.g ["script", "k"] j6 [] ["len"] [0,1] [] [0] fun X S I hp=>
 (ba (et (cZ (lS I.r) (ai S 1) (jk S 0 I.e.n0 (aJ (ai S 0)))) (bU (bu (ai S 0) (ai S 1))) eu) (bU w_de_int))
theorem zo:DefOk P w K mg base 1 "_law_draw" 3 aq:=mk A.f50 A.g ["cell", "k", "bound"] nt ["stir", "left", "j"] ["range"] [0,1,2,3,4,5] [] [0] fun X S I hp=>
 (ba (et (cZ (Ji I.r) (ai S 0) (tx w_de_int w_de_int)) (ba (cT S false 4 (ai S 0)) (ba (wX S 5 rfl rfl hp (lj S 0 rfl rfl I.e.n1 (aJ (ai S 1)) (fR rfl)) (eY (cT S false 4 (lg (ai S 4) (ai S 2)))) (fun _=>rfl)) (bU (zl (ai S 4) (ai S 2))))) eu) (ba (cT S false 3 (zl (Dz (sN (sN (zl (ai S 0) w_de_int) (Dz w_de_int (ai S 1))) w_de_int) w_de_int) w_de_int)) (ba (cT S false 3 (zl (sN (sN (Dz (ai S 3) (ai S 3)) (Dz w_de_int (ai S 1))) w_de_int) w_de_int)) (bU (zl (lg (zl (Dz (ai S 3) w_de_int) w_de_int) w_de_int) (ai S 2))))))
theorem kB:DefOk P w K mg base 2 "_law_world" 3 m__law_world:=mk A.f51 A.g ["script", "at", "most"] nt ["many", "owners", "marks", "steps", "room", "cell", "row", "there", "mark"] ["_law_cell_at", "range", "_law_draw", "int"] [0,1,2,3,4,5,6,7,8,9] [3,8] [0,1,2] fun X S I hp=>
 (ba (cT S false 3 (sN w_de_int (zl (bC S 0 (I.c (FW A)) (aQ (ai S 0) (aJ (ai S 1)))) (ai S 2)))) (ba (cT S true 4 (ke .leaf sM)) (ba (cT S true 5 (ke .leaf sM)) (ba (cT S true 6 (ke .leaf sM)) (ba (wX S 7 rfl rfl hp (lj S 1 rfl rfl I.e.n1 (aJ (ai S 3)) (fR rfl)) (ba (cT S false 8 (bC S 0 (I.c (FW A)) (aQ (ai S 0) (aJ (sN (sN (ai S 1) w_de_int) (ai S 7)))))) (ba (Ah S 4 rfl rfl (bC S 2 (I.c (zo A)) (aQ (ai S 8) (aQ w_de_int (aJ w_de_int)))) (fR rfl) rfl rfl rfl rfl) (ba (Ah S 5 rfl rfl (iz [8,11] [8] [2] S 11 (qz (by kernel_rfl)) (fun Y1 S1 F1=>have I:=F1.i I;wC (cZ (fm I.r) (bC S1 2 (I.c (zo A)) (aQ (ai S1 8) (aQ (sN w_de_int (qB (ai S1 11) (fR rfl) rfl)) (aJ w_de_int)))) w_de_int)) (fun Y1 S1 F1=>have I:=F1.i I;(ai S1 11))) (fR rfl) rfl rfl rfl rfl) (ba (zp (vs':=[3,8,10]) (cs':=[3,8]) (lo':=[]) (gs':=[2,3]) S false 9 .leaf 10 rfl rfl rfl rfl (by kernel_rfl) (by kernel_rfl) (by kernel_rfl) (lj S 1 rfl rfl I.e.n1 (aJ (ai S 3)) (fR rfl)) (fun Y2 S2 F2=>have I:=F2.i I;wC (cZ (fm I.r) (bC S2 2 (I.c (zo A)) (aQ (ai S2 8) (aQ (sN w_de_int (ai S2 10)) (aJ (sN w_de_int (tL S2 3 rfl rfl I.e.n11 (aJ (gX (uF I.r) (ai S2 3) w_de_int)) (dw rfl) rfl)))))) w_de_int)) (fun Y2 S2 F2=>have I:=F2.i I;(ai S2 10)) (fun _=>rfl)) (ba (et (cZ (fm I.r) (ai S 9) (ke .leaf sM)) (eY (cT S false 9 (ke .leaf (aJ (bC S 2 (I.c (zo A)) (aQ (ai S 8) (aQ (sN w_de_int (ai S 3)) (aJ (ai S 3))))))))) eu) (eY (Ah S 6 rfl rfl (ai S 9) (fR rfl) rfl rfl rfl rfl))))))) (fun _=>rfl)) (bU (iu (aQ (kg S 4 rfl rfl) (aQ (kg S 5 rfl rfl) (aJ (kg S 6 rfl rfl)))))))))))
theorem mj:DefOk P w K mg base 2 "_law_part" 1 b8:=mk A.f52 A.g ["cell"] sE ["one", "other", "some"] ["_law_draw"] [0,1,2,3] [] [0] fun X S I hp=>
 (ba (cT S false 1 (iu (aQ gk (aJ (bu gk (bC S 0 (I.c (zo A)) (aQ (ai S 0) (aQ w_de_int (aJ w_de_int))))))))) (ba (cT S false 2 (iu (aQ gk (aJ (bu gk (bC S 0 (I.c (zo A)) (aQ (ai S 0) (aQ w_de_int (aJ w_de_int))))))))) (ba (cT S false 3 (ke .leaf (aQ (ai S 1) (aQ (iu (aQ gk (aJ (ai S 1)))) (aQ (iu (aQ gk (aQ (ai S 1) (aJ (iu (aQ gk (aJ (ai S 2)))))))) (aQ (iu (aQ gk (aQ (ai S 1) (aJ (ai S 2))))) (aQ (iu (aQ gk (aJ (ai S 1)))) (aJ (iu (aJ gk)))))))))) (bU (bu (Dy (ai S 3) (ke .leaf (aQ (iu (aQ gk (aJ (ai S 2)))) (aQ (ai S 1) (aJ (iu (aQ gk (aJ (iu (aJ gk)))))))))) (bC S 0 (I.c (zo A)) (aQ (ai S 0) (aQ w_de_int (aJ w_de_int)))))))))
theorem o_law {fa:Addr} (hfa:mg "law"=some (.ref fa)):∃fd:FuncData,(∀(s:Shared) (v:Value),BindsTo s fd ⟨[v],[]⟩ [("script",v)])/\∀base:Heap,K.In base->base.Ns mainGlobals mg->eD P w K mg base kX 36 fa fd ["script"] (qI K 1 m_law):=Kv A.f53 A.g "script" sE hfa ["world", "sentence", "mark", "rooms", "stays", "meets", "room"] ["_law_world", "_law_cell_at", "_law_part", "_law_draw", "holds", "fair_rooms", "fair_way", "way_shows"] [0,1,2,3,4,5,6,7] [] [0,1,2,3,4,5,6,7] fun base X S I hp=>
 (ba (cT S false 1 (bC S 0 (I.c (kB A)) (aQ (ai S 0) (aQ w_de_int (aJ w_de_int))))) (ba (cT S false 2 (bC S 2 (I.c (mj A)) (aJ (bC S 1 (I.c (FW A)) (aQ (ai S 0) (aJ w_de_int)))))) (ba (cT S false 3 (bu gk (bC S 3 (I.c (zo A)) (aQ (bC S 1 (I.c (FW A)) (aQ (ai S 0) (aJ w_de_int))) (aQ w_de_int (aJ w_de_int)))))) (ba (cT S false 4 (bC S 4 (I.c (GY A)) (aQ (ai S 1) (aJ (ai S 2))))) (ba (cT S false 5 (bC S 4 (I.c (GY A)) (aQ (ai S 1) (aJ (iu (aQ gk (aJ (ai S 2)))))))) (ba (et (cZ (Bp I.r) (bC S 5 (I.c (fU A)) (aQ (ai S 1) (aQ (ai S 4) (aJ (ke .leaf sM))))) (ai S 5)) (bU pb) eu) (ba (cT S false 6 (bC S 4 (I.c (GY A)) (aQ (ai S 1) (aJ (iu (aQ gk (aQ (ai S 2) (aJ (iu (aQ gk (aQ (ai S 2) (aJ (iu (aQ gk (aJ (ai S 3)))))))))))))))) (ba (wX S 7 rfl rfl hp (w_di_seq (bC S 5 (I.c (fU A)) (aQ (ai S 1) (aQ (ai S 4) (aJ (ke .leaf (aJ (ai S 3)))))))) (ba (et (wt (tj (cZ (sZ I.r) (ai S 7) (ai S 5)) (Af (cZ (sZ I.r) (ai S 7) (ai S 6))))) (bU pb) eu) (eY (et (cZ (Br I.r) (bC S 7 (I.c (lY A)) (aQ (ai S 1) (aQ (iu (aQ gk (aJ (ai S 2)))) (aJ (bC S 6 (I.c (ow A)) (aQ (ai S 1) (aQ (ai S 4) (aQ (ke .leaf (aJ (ai S 3))) (aJ (ai S 7)))))))))) pb) (bU pb) eu))) (fun _=>rfl)) (bU pb)))))))))
end
end KQ.X
open PySem PySem.W PyProof.Rows
def PySem.W.Fast.tw18274691901715664352:=0
def PySem.W.Fast.tw13917813100401686882:=0
def PySem.W.Fast.tw1313574407196557412:=0
def PySem.W.Fast.tw3928471395195607460:=0
def PySem.W.Fast.tw2778972006600937995:=0
def PySem.W.Fast.tw90509265600546764:=0
def PySem.W.Fast.tw15374508006009918832:=0
def PySem.W.Fast.tw10543545969369874645:=0
def PySem.W.Fast.tw8107775897614280630:=0
def PySem.W.Fast.tw14830764979276780823:=0
def PySem.W.Fast.tw2330962845193277783:=0
def PySem.W.Fast.tw10208614517892589560:=0
def PySem.W.Fast.tw8204338027555644410:=0
def PySem.W.Fast.tw9201602889904560573:=0
def PySem.W.Fast.tw8523486872331164638:=0
def PySem.W.Fast.tw13714262835762835423:=0
set_option maxRecDepth 100000 in
set_option maxHeartbeats 0 in
theorem PySem.Challenge.cw_foreseehall_k55_whole_staying_and_judgin_holds : PySem.Challenge.rw_foreseehall_k55_whole_staying_and_judgin.Holds := by
 w_on;o_law;k_head;(case hw=>w_witness2)
 k_fill
 refine T.walkG (j:=36) (l:=PySem.Challenge.rw_foreseehall_k55_whole_staying_and_judgin) KQ.X.law_true ⟨rfl,by decide,by decide⟩ rfl rfl (fun w h Y=>PySem.W.kIn_of Y) ?F
 case F=>
  intro w mg fa h KX G hmg;refine' KQ.X.o_law (.mk (.mk (T.gn KX G ?z0) (T.gn KX G ?z1) (T.gn KX G ?z2) (T.gn KX G ?z3) (T.gn KX G ?z4) (T.gn KX G ?z5) (T.gn KX G ?z6) (T.gn KX G ?z7) (T.gn KX G ?z8) (T.gn KX G ?z9) (T.gn KX G ?z10) (T.gn KX G ?z11) (T.gt KX G ?e0 ?q0 ?v0) (T.gi KX G ?e1) (T.gt KX G ?e2 ?q2 ?v2) (T.gi KX G ?e3) (T.gi KX G ?e4) (T.gt KX G ?e5 ?q5 ?v5) (T.gt KX G ?e6 ?q6 ?v6) (T.gt KX G ?e7 ?q7 ?v7) (T.gt KX G ?e8 ?q8 ?v8) (T.gt KX G ?e9 ?q9 ?v9) (T.gd KX G ?x0 ?y0 ?w0)) (T.ft KX G ?a0 ?l0 ?c0 ?k0) (T.ft KX G ?a1 ?l1 ?c1 ?k1) (T.ft KX G ?a2 ?l2 ?c2 ?k2) (T.ft KX G ?a3 ?l3 ?c3 ?k3) (T.ft KX G ?a4 ?l4 ?c4 ?k4) (T.ft KX G ?a5 ?l5 ?c5 ?k5) (T.ft KX G ?a6 ?l6 ?c6 ?k6) (T.ft KX G ?a7 ?l7 ?c7 ?k7) (T.ft KX G ?a8 ?l8 ?c8 ?k8) (T.ft KX G ?a9 ?l9 ?c9 ?k9) (T.ft KX G ?a10 ?l10 ?c10 ?k10) (T.ft KX G ?a11 ?l11 ?c11 ?k11) (T.ft KX G ?a12 ?l12 ?c12 ?k12) (T.ft KX G ?a13 ?l13 ?c13 ?k13) (T.ft KX G ?a14 ?l14 ?c14 ?k14) (T.ft KX G ?a15 ?l15 ?c15 ?k15) (T.ft KX G ?a16 ?l16 ?c16 ?k16) (T.ft KX G ?a17 ?l17 ?c17 ?k17) (T.ft KX G ?a18 ?l18 ?c18 ?k18) (T.ft KX G ?a19 ?l19 ?c19 ?k19) (T.ft KX G ?a20 ?l20 ?c20 ?k20) (T.ft KX G ?a21 ?l21 ?c21 ?k21) (T.ft KX G ?a22 ?l22 ?c22 ?k22) (T.ft KX G ?a23 ?l23 ?c23 ?k23) (T.ft KX G ?a24 ?l24 ?c24 ?k24) (T.ft KX G ?a25 ?l25 ?c25 ?k25) (T.ft KX G ?a26 ?l26 ?c26 ?k26) (T.ft KX G ?a27 ?l27 ?c27 ?k27) (T.ft KX G ?a28 ?l28 ?c28 ?k28) (T.ft KX G ?a29 ?l29 ?c29 ?k29) (T.ft KX G ?a30 ?l30 ?c30 ?k30) (T.ft KX G ?a31 ?l31 ?c31 ?k31) (T.ft KX G ?a32 ?l32 ?c32 ?k32) (T.ft KX G ?a33 ?l33 ?c33 ?k33) (T.ft KX G ?a34 ?l34 ?c34 ?k34) (T.ft KX G ?a35 ?l35 ?c35 ?k35) (T.ft KX G ?a36 ?l36 ?c36 ?k36) (T.ft KX G ?a37 ?l37 ?c37 ?k37) (T.ft KX G ?a38 ?l38 ?c38 ?k38) (T.ft KX G ?a39 ?l39 ?c39 ?k39) (T.ft KX G ?a40 ?l40 ?c40 ?k40) (T.ft KX G ?a41 ?l41 ?c41 ?k41) (T.ft KX G ?a42 ?l42 ?c42 ?k42) (T.ft KX G ?a43 ?l43 ?c43 ?k43) (T.ft KX G ?a44 ?l44 ?c44 ?k44) (T.ft KX G ?a45 ?l45 ?c45 ?k45) (T.ft KX G ?a46 ?l46 ?c46 ?k46) (T.ft KX G ?a47 ?l47 ?c47 ?k47) (T.ft KX G ?a48 ?l48 ?c48 ?k48) (T.ft KX G ?a49 ?l49 ?c49 ?k49) (T.ft KX G ?a50 ?l50 ?c50 ?k50) (T.ft KX G ?a51 ?l51 ?c51 ?k51) (T.ft KX G ?a52 ?l52 ?c52 ?k52) (T.ft KX G ?a53 ?l53 ?c53 ?k53)) hmg
  case a0|l0|c0|k0|a1|l1|c1|k1|a2|l2|c2|k2|a3|l3|c3|k3|a4|l4|c4|k4|a5|l5|c5|k5|a6|l6|c6|k6|a7|l7|c7|k7|a8|l8|c8|k8|a9|l9|c9|k9|a10|l10|c10|k10|a11|l11|c11|k11|a12|l12|c12|k12|a13|l13|c13|k13|a14|l14|c14|k14|a15|l15|c15|k15|a16|l16|c16|k16|a17|l17|c17|k17|a18|l18|c18|k18|a19|l19|c19|k19|a20|l20|c20|k20|a21|l21|c21|k21|a22|l22|c22|k22|a23|l23|c23|k23|a24|l24|c24|k24|a25|l25|c25|k25|a26|l26|c26|k26|a27|l27|c27|k27|a28|l28|c28|k28|a29|l29|c29|k29|a30|l30|c30|k30|a31|l31|c31|k31|a32|l32|c32|k32|a33|l33|c33|k33|a34|l34|c34|k34|a35|l35|c35|k35|a36|l36|c36|k36|a37|l37|c37|k37|a38|l38|c38|k38|a39|l39|c39|k39|a40|l40|c40|k40|a41|l41|c41|k41|a42|l42|c42|k42|a43|l43|c43|k43|a44|l44|c44|k44|a45|l45|c45|k45|a46|l46|c46|k46|a47|l47|c47|k47|a48|l48|c48|k48|a49|l49|c49|k49|a50|l50|c50|k50|a51|l51|c51|k51|a52|l52|c52|k52|a53|l53|c53|k53|z0|z1|z2|z3|z4|z5|z6|z7|z8|z9|z10|z11|e0|q0=>k_is
  case v0=>kernel_rfl
  case e1|e2|q2=>k_is
  case v2=>kernel_rfl
  case e3|e4|e5|q5=>k_is
  case v5=>kernel_rfl
  case e6|q6=>k_is
  case v6=>kernel_rfl
  case e7|q7=>k_is
  case v7=>kernel_rfl
  case e8|q8=>k_is
  case v8=>kernel_rfl
  case e9|q9=>k_is
  case v9=>kernel_rfl
  case x0|y0=>k_is
  case w0=>kernel_rfl
