import PyProof.Rows.All
import Wide.All
import OpenK.AllK
import Wide.FinOn
import PyProof.EqAt
import PyProof.EqKinds
import PyProof.TupleCall
import PyProof.StrBlockH
import PyProof.StrWalks
import PyProof.StrCalls
import PyProof.SetRoads
import PyProof.DictRoadsH
import Lean
import PySem.Challenge.RW_foreseehall_k42_the_least_world
open List (mem_append_right mem_append_left getElem?_eq_getElem length_map mem_cons_of_mem mem_cons_self append_assoc getElem?_map mem_of_getElem? length_set getD_eq_getElem?_getD getElem?_set_ne map_cons getElem?_set_self length_append map_map size_toArray getElem?_append_left nodup_nil getElem_mem getElem?_append_right set_set mem_cons getElem?_eq_none lookup_cons not_mem_nil append_nil any_eq_true take_of_length_le length_cons length_take all_eq_true map_append range_succ length_singleton nil_append flatten_cons ext_getElem? mem_map mem_range length_range contains_iff_mem perm_append_comm getElem_of_mem take_succ getElem?_set drop_eq_nil_of_le drop_eq_getElem_cons pairwise_map length_filter_le getElem_range map_inj_right getElem?_replicate getElem_map mem_filter filterMap_cons getElem?_toArray find?_cons getElem?_range ext_getElem cons_append filter_congr any_map all_cons)
set_option Elab.async false
set_option linter.all false
set_option maxRecDepth 100000
set_option maxHeartbeats 4000000
set_option maxRecDepth 10000
abbrev Fg:=PySem.W.Frag
abbrev DX (i:Nat):PySem.Stmt:=(PySem.Challenge.pw_foreseehall_k42_the_least_world.main.body)[i]!
namespace L2
open PySem PySem.Spec PyProof.Rows
abbrev dv:=Sum Int Str
def iO:dv->Value->Bool
 | .inl k,v=>Value.isInt k v
 | .inr x,v=>Value.isStrOf x v
def zF (w:World):dv->Int
 | .inl k=>hashInt k
 | .inr x=>hashStr w x
theorem uv:∀{k:dv} {v:Value},iO k v=true->(∃i t,k=Sum.inl i/\v=Value.int i t)\/(∃x t,k=Sum.inr x/\v=Value.str x t)
 | .inl i,v,h=>by
  obtain ⟨t,e⟩:=Value.isInt_shape (k:=i) (v:=v) h
  exact .inl ⟨i,t,rfl,e⟩
 | .inr x,v,h=>by
  obtain ⟨t,e⟩:=Value.isStrOf_shape (x:=x) (v:=v) h
  exact .inr ⟨x,t,rfl,e⟩
theorem pM (i:Int) (t:Tok):iO (.inl i) (.int i t)=true:=by simp [iO,Value.isInt]
theorem pL (x:Str) (t:Tok):iO (.inr x) (.str x t)=true:=by simp [iO,Value.isStrOf]
theorem zE (a b:Int):decide ((Sum.inl a:dv)=Sum.inl b)=(a==b):=by
 by_cases e:a=b
 ·subst e;simp
 ·have h:¬(Sum.inl a:dv)=Sum.inl b:=fun q=>e (Sum.inl.inj q)
  rw [decide_eq_false h];exact (beq_eq_false_iff_ne.mpr e).symm
theorem zB (a b:Str):decide ((Sum.inr a:dv)=Sum.inr b)=decide (a=b):=by
 by_cases e:a=b
 ·subst e;simp
 ·have h:¬(Sum.inr a:dv)=Sum.inr b:=fun q=>e (Sum.inr.inj q)
  rw [decide_eq_false h,decide_eq_false e]
theorem zD (a:Int) (b:Str):decide ((Sum.inl a:dv)=Sum.inr b)=false:=decide_eq_false (fun q=>nomatch q)
theorem zC (a:Str) (b:Int):decide ((Sum.inr a:dv)=Sum.inl b)=false:=decide_eq_false (fun q=>nomatch q)
def jH (prog:Program) (w:World):PySem.KeyKind prog w dv where
 is:=iO
 hash:=zF w
 inj:=fun v a b ha hb=>by
  rcases uv ha with ⟨i,t,rfl,rfl⟩ | ⟨x,t,rfl,rfl⟩
  ·rcases uv hb with ⟨j,u,rfl,e⟩ | ⟨y,u,rfl,e⟩
   ·injection e with e1 _;rw [e1]
   ·exact nomatch e
  ·rcases uv hb with ⟨j,u,rfl,e⟩ | ⟨y,u,rfl,e⟩
   ·exact nomatch e
   ·injection e with e1 _;rw [e1]
 byValue:=fun k v h=>by
  rcases uv h with ⟨i,t,rfl,rfl⟩ | ⟨x,t,rfl,rfl⟩<;>rfl
 pyHash:=fun hv h=>by
  rcases uv hv with ⟨i,t,rfl,rfl⟩ | ⟨x,t,rfl,rfl⟩
  ·exact wpAny_pyHash_int h
  ·exact wpAny_pyHash_str h
 eqBool:=fun hu hv h=>by
  rcases uv hu with ⟨i,t,rfl,rfl⟩ | ⟨x,t,rfl,rfl⟩
  ·rcases uv hv with ⟨j,u,rfl,rfl⟩ | ⟨y,u,rfl,rfl⟩
   ·rw [zE] at h;exact wpAny_eqBool_int h
   ·rw [zD] at h;exact SeqAt.EqAt.int_str i t y u _ _ _ _ h
  ·rcases uv hv with ⟨j,u,rfl,rfl⟩ | ⟨y,u,rfl,rfl⟩
   ·rw [zC] at h;exact SeqAt.EqAt.str_int x t j u _ _ _ _ h
   ·rw [zB] at h;exact wpAny_eqBool_str h
 «strs»:=fun k x t v h=>by
  rcases uv h with ⟨i,u,rfl,e⟩ | ⟨y,u,rfl,e⟩
  ·exact nomatch e
  ·injection e with e1 _
   subst e1
   cases v<;>rfl
theorem kA (prog:Program) (w:World) (i:Int) (t:Tok):(jH prog w).is (.inl i) (.int i t)=true:=pM i t
theorem kz (prog:Program) (w:World) (x:Str) (t:Tok):(jH prog w).is (.inr x) (.str x t)=true:=pL x t
inductive V where
 | non | bl (b:Bool) | int (i:Int) | str (x:Str) | byt (b:Array UInt8) | flt (b:UInt64) | ref (a:Addr) | ty (n:String)
 deriving DecidableEq
def RelV:V->Value->Prop
 | .non,u=>u=Value.none
 | .bl b,u=>u=Value.bool b
 | .int i,u=>∃t,u=Value.int i t
 | .str x,u=>∃t,u=Value.str x t
 | .byt b,u=>∃t,u=Value.bytes b t
 | .flt b,u=>∃t,u=Value.float b t
 | .ref a,u=>u=Value.ref a
 | .ty n,u=>u=Value.type n
abbrev Vals:List V->List Value->Prop:=Paired RelV
theorem Vals.length {xs:List V} {us:List Value} (r:Vals xs us):xs.length=us.length:=Paired.length r
theorem Vals.get:∀{xs:List V} {us:List Value} {i:Nat} {x:V},Vals xs us->xs[i]?=some x->∃u,us[i]?=some u/\RelV x u
 | _,_,_,_,.nil,e=>by simp at e
 | _,_,0,_,.cons r _,e=>by simp at e;subst e;exact ⟨_,rfl,r⟩
 | _,_,i+1,x,.cons _ t,e=>by
  obtain ⟨u,h1,h2⟩:=Vals.get (i:=i) (x:=x) t (by simpa using e)
  exact ⟨u,by simpa using h1,h2⟩
theorem Vals.append:∀{xs ys:List V} {us ws:List Value},Vals xs us->Vals ys ws->Vals (xs++ys) (us++ws)
 | _,_,_,_,.nil,s=>s
 | _,_,_,_,.cons r t,s=>.cons r (Vals.append t s)
theorem Vals.take:∀{xs:List V} {us:List Value} (n:Nat),Vals xs us->Vals (xs.take n) (us.take n)
 | _,_,0,_=>.nil
 | _,_,_+1,.nil=>.nil
 | _,_,n+1,.cons r t=>.cons r (Vals.take n t)
theorem Vals.drop:∀{xs:List V} {us:List Value} (n:Nat),Vals xs us->Vals (xs.drop n) (us.drop n)
 | _,_,0,r=>r
 | _,_,_+1,.nil=>.nil
 | _,_,n+1,.cons _ t=>Vals.drop n t
def RelO:Option V->Option Value->Prop
 | some v,some u=>RelV v u
 | none,none=>True
 | _,_=>False
def KV {κ:Type}:List (κ×V)->List (κ×Value)->Prop:=Paired fun (p:κ×V) (q:κ×Value)=>p.1=q.1/\RelV p.2 q.2
def kV:dv->V
 | .inl i=>.int i
 | .inr x=>.str x
inductive HO where
 | lst (xs:List V)
 | tup (xs:List V)
 | dK (kvs:List (dv×V)) | dT (kvs:List (List dv×V))
 | set (S:Int->Bool) (n:Nat)
 | ins (C dx:Addr) (fs:List (Str×V))
 | own (x:Addr)
 | xd (fs:List (Str×V))
 | met (f x:Addr)
 | rng (lo hi:Int)
 | frz (o:Obj) (u:HO)
 | tbl (ps:Array Value)
 | ext (φ:Heap->Prop)
abbrev Hp:=Addr->Option HO
def upd (H:Hp) (a:Addr) (o:HO):Hp:=fun b=>if b=a then some o else H b
theorem cB {H:Hp} {a:Addr} {o:HO}:upd H a o a=some o:=by unfold upd;rw [if_pos rfl]
theorem bE {H:Hp} {a b:Addr} {o:HO} (h:b≠a):upd H a o b=H b:=by unfold upd;rw [if_neg h]
theorem jQ {H:Hp} {a b:Addr} {o:HO} (h:H a=some o) (h':H b=none):a≠b:=by
 intro e;subst e;rw [h] at h';cases h'
section
variable (P:Program) (w:World)
def ObjOk (H:Hp) (h:Heap) (a:Addr):HO->Prop
 | .lst xs=>xs.length<=sizeLine/\∃(its:List Value) (n:Nat),Vals xs its/\h.get? a=some { cls:=.type "list",data:=.seq its.toArray n }
 | .tup xs=>xs.length<=sizeLine/\∃its:List Value,Vals xs its/\IsTup h a its.toArray
 | .dK kvs=>kvs.length<=sizeLine/\(a==sysModules)=false/\∃vs,KV kvs vs/\h.DictOf (jH P w) a vs
 | .dT kvs=>kvs.length<=sizeLine/\(a==sysModules)=false/\∃xs:List (List dv×Addr×Value),
   Paired (fun (p:List dv×V) (q:List dv×Addr×Value)=>p.1=q.1/\H q.2.1=some (.tup (p.1.map kV))/\RelV p.2 q.2.2) kvs xs /\
   ∃o es ep,h.get? a=some o/\o.ExactDict/\o.data=.dict es ep/\es.toList=xs.map (entryOfKey (tupleKind (jH P w)))/\(xs.map (·.1)).Nodup
 | .set S n=>h.SetOf (intKind P w) a S n
 | .ins C dx fs=>H dx=some (.own a)/\fs.length<=1000/\dx≠a/\h.get? a=some (PySem.W.instObj C dx) /\
   ∃mA,h.Ns1 dx mA/\(∀f,RelO (fs.lookup f) (mA f))/\PySem.Within mA (fs.map (·.1))
 | .own _=>∃o,h.get? a=some o
 | .xd fs=>∃mA,h.Ns1 a mA/\∀f,RelO (fs.lookup f) (mA f)
 | .rng lo hi=>∃t u v,h.get? a=some { cls:=.type "range",data:=.fields #[.int lo t,.int hi u,.int 1 v] }
 | .frz o u=>h.get? a=some o/\ObjOk H h a u
 | .tbl ps=>h.get? a=some { cls:=.none,data:=.fields ps }
 | .met f x=>h.get? a=some (PySem.W.methodObj (.ref f) (.ref x))
 | .ext φ=>φ h/\(∃o,h.get? a=some o)/\∀h1 h2:Heap,φ h1->(∀o,h1.get? a=some o->h2.get? a=some o)->φ h2
def HOk (H:Hp) (h:Heap):Prop:=∀a o,H a=some o->ObjOk P w H h a o
end
section
variable {P:Program} {w:World} {H H':Hp} {h h':Heap} {a:Addr} {o:HO}
theorem ObjOk.lt (x:ObjOk P w H h a o):a<h.objs.size:=by
 cases o with
 | lst xs=>obtain ⟨_,_,_,_,e⟩:=x;exact Heap.lt_size e
 | tup xs=>obtain ⟨_,_,_,p⟩:=x;exact p.lt
 | dK kvs=>obtain ⟨_,_,_,_,o,_,_,e,_⟩:=x;exact Heap.lt_size e
 | dT kvs=>obtain ⟨_,_,_,_,o,_,_,e,_⟩:=x;exact Heap.lt_size e
 | set S n=>obtain ⟨o,_,_,_,e,_⟩:=x;exact Heap.lt_size e
 | ins C dx fs=>obtain ⟨_,_,_,e,_⟩:=x;exact Heap.lt_size e
 | own y=>obtain ⟨_,e⟩:=x;exact Heap.lt_size e
 | xd fs=>obtain ⟨_,⟨_,_,_,e,_⟩,_⟩:=x;exact Heap.lt_size e
 | rng lo hi=>obtain ⟨_,_,_,e⟩:=x;exact Heap.lt_size e
 | frz ob u=>obtain ⟨e,_⟩:=x;exact Heap.lt_size e
 | tbl ps=>exact Heap.lt_size (show h.get? a=some _ from x)
 | met f y=>exact Heap.lt_size (show h.get? a=some _ from x)
 | ext φ=>obtain ⟨_,⟨_,e⟩,_⟩:=x;exact Heap.lt_size e
theorem Paired.mapP {α β:Type} {F G:α->β->Prop}:∀{l₁:List α} {l₂:List β},Paired F l₁ l₂->(∀a b,F a b->G a b)->Paired G l₁ l₂
 | _,_,.nil,_=>.nil
 | _,_,.cons r t,f=>.cons (f _ _ r) (Paired.mapP t f)
theorem ObjOk.stay (x:ObjOk P w H h a o) (k:∀b u,(b=a\/H b=some (.own a))->h.get? b=some u->h'.get? b=some u)
  (ho:∀b,H b=some (.own a)->H' b=some (.own a)) (ht:∀b xs,H b=some (.tup xs)->H' b=some (.tup xs)):ObjOk P w H' h' a o:=by
 induction o with
 | lst xs=>obtain ⟨z,its,n,r,e⟩:=x;exact ⟨z,its,n,r,k _ _ (.inl rfl) e⟩
 | tup xs=>obtain ⟨z,its,r,ob,e,c⟩:=x;exact ⟨z,its,r,ob,k _ _ (.inl rfl) e,c⟩
 | dK kvs=>obtain ⟨z,y,vs,r,ob,es,ep,e,c⟩:=x;exact ⟨z,y,vs,r,ob,es,ep,k _ _ (.inl rfl) e,c⟩
 | dT kvs=>
  obtain ⟨z,y,xs,r,ob,es,ep,e,c⟩:=x;exact ⟨z,y,xs,Paired.mapP r fun p q z=>⟨z.1,ht _ _ z.2.1,z.2.2⟩,ob,es,ep,k _ _ (.inl rfl) e,c⟩
 | set S n=>obtain ⟨ob,es,ep,t,e,c⟩:=x;exact ⟨ob,es,ep,t,k _ _ (.inl rfl) e,c⟩
 | ins C dx fs=>
  obtain ⟨d,z,ne,e,mA,⟨od,es,ep,e2,c⟩,r⟩:=x;exact ⟨ho _ d,z,ne,k _ _ (.inl rfl) e,mA,⟨od,es,ep,k _ _ (.inr d) e2,c⟩,r⟩
 | own y=>obtain ⟨ob,e⟩:=x;exact ⟨ob,k _ _ (.inl rfl) e⟩
 | xd fs=>obtain ⟨mA,⟨od,es,ep,e,c⟩,r⟩:=x;exact ⟨mA,⟨od,es,ep,k _ _ (.inl rfl) e,c⟩,r⟩
 | rng lo hi=>obtain ⟨t,u,v,e⟩:=x;exact ⟨t,u,v,k _ _ (.inl rfl) e⟩
 | frz ob u ih=>obtain ⟨e,q⟩:=x;exact ⟨k _ _ (.inl rfl) e,ih q⟩
 | tbl ps=>
  have e:h.get? a=some { cls:=.none,data:=.fields ps }:=x
  show h'.get? a=some { cls:=.none,data:=.fields ps }
  exact k a _ (.inl rfl) e
 | met f y=>
  have e:h.get? a=some (PySem.W.methodObj (.ref f) (.ref y)):=x
  show h'.get? a=some (PySem.W.methodObj (.ref f) (.ref y))
  exact k a _ (.inl rfl) e
 | ext φ=>obtain ⟨p,⟨o,e⟩,st⟩:=x;exact ⟨st _ _ p fun o q=>k _ _ (.inl rfl) q,⟨o,k _ _ (.inl rfl) e⟩,st⟩
theorem HOk.lt (x:HOk P w H h) (e:H a=some o):a<h.objs.size:=(x a o e).lt
theorem HOk.fresh (x:HOk P w H h) (e:h.objs.size<=a):H a=none:=by
 cases q:H a with
 | none=>rfl
 | some u=>exact absurd (Nat.lt_of_lt_of_le (x.lt q) e) (Nat.lt_irrefl _)
theorem HOk.kept (x:HOk P w H h) (k:∀b u,h.get? b=some u->h'.get? b=some u):HOk P w H h':=fun a o e=>
 (x a o e).stay (fun b u _ q=>k b u q) (fun _ q=>q) fun _ _ q=>q
theorem HOk.laid (x:HOk P w H h) (k:∀b u,h.get? b=some u->h'.get? b=some u) (hp:h.objs.size<=a) (new:ObjOk P w (upd H a o) h' a o):HOk P w (upd H a o) h':=fun b u e=>by
 have hn:=x.fresh hp
 by_cases hb:b=a
 ·subst hb;rw [cB] at e;cases e;exact new
 ·rw [bE hb] at e
  exact (x b u e).stay (fun c v _ q=>k c v q) (fun c q=>by rw [bE (jQ q hn)];exact q) fun c xs q=>by rw [bE (jQ q hn)];exact q
end
def Rd (H:Hp) (a:Addr) (u:HO):Prop:=H a=some u\/∃o,H a=some (.frz o u)
theorem Rd.ok {P:Program} {w:World} {H:Hp} {h:Heap} {a:Addr} {u:HO} (r:Rd H a u) (x:HOk P w H h):ObjOk P w H h a u:=by
 rcases r with r | ⟨o,r⟩
 ·exact x a u r
 ·obtain ⟨_,q⟩:=x a _ r
  exact q
def Dc:Option HO->Prop
 | some (.lst _)=>True
 | some (.dK _)=>True
 | some (.dT _)=>True
 | some (.set _ _)=>True
 | some (.ins _ _ _)=>True
 | some (.ext _)=>True
 | _=>False
section
variable {P:Program} {w:World} {H:Hp} {h h':Heap} {x e:Addr} {o':HO}
theorem HOk.write (ok:HOk P w H h) (mu:Dc (H x)) (he:e=x\/H e=some (.own x)) (k:∀b u,b≠e->h.get? b=some u->h'.get? b=some u) (heo:∃u,h'.get? e=some u)
  (new:ObjOk P w (upd H x o') h' x o'):HOk P w (upd H x o') h':=fun b u q=>by
 have nown:∀c y,H c=some (.own y)->c≠x:=fun c y r z=>by subst z;rw [r] at mu;exact mu
 have ntup:∀c xs,H c=some (.tup xs)->c≠x:=fun c xs r z=>by subst z;rw [r] at mu;exact mu
 by_cases hb:b=x
 ·subst hb;rw [cB] at q;cases q;exact new
 ·rw [bE hb] at q
  by_cases hbe:b=e
  ·have q':H b=some (.own x):=by
    rcases he with z | z
    ·exact absurd (hbe.trans z) hb
    ·rw [hbe];exact z
   rw [q] at q';cases q'
   obtain ⟨v,hv⟩:=heo;exact ⟨v,by rw [hbe];exact hv⟩
  ·refine (ok b u q).stay (fun c v hc r=>k c v ?_ r) (fun c r=>by rw [bE (nown c b r)];exact r) fun c xs r=>by rw [bE (ntup c xs r)];exact r
   rcases hc with rfl | hc
   ·exact hbe
   ·rintro rfl
    rcases he with z | z
    ·exact nown c b hc z
    ·rw [hc] at z;cases z;exact hb rfl
end
structure Un (fs ex:List Addr) (H H':Hp) (h h':Heap):Prop where
 keep:∀b o,h.get? b=some o->H b=none->b∉fs->b∉ex->h'.get? b=some o
 slot:∀b o,h.get? b=some o->H b=none->b∈fs->b∉ex->∃sl,h'.get? b=some { o with slots:=sl }
 free:∀b o,h.get? b=some o->H b=none->b∉ex->H' b=none
 there:∀b o,h.get? b=some o->b∉ex->∃o',h'.get? b=some o'
 tups:∀b xs,H b=some (.tup xs)->H' b=some (.tup xs)
 frzs:∀b o u,H b=some (.frz o u)->H' b=some (.frz o u)
 tbls:∀b ps,H b=some (.tbl ps)->∃more,H' b=some (.tbl (ps++more))
section
variable {fs fs' ex ex':List Addr} {H H1 H2:Hp} {h h1 h2 h':Heap} {a x e:Addr} {o:HO}
theorem Un.any (u:Un fs ex H H1 h h1) {b:Addr} {ob:Obj} (q:h.get? b=some ob) (n:H b=none) (hx:b∉ex):∃sl,h1.get? b=some { ob with slots:=sl }:=by
 by_cases hb:b∈fs
 ·exact u.slot b ob q n hb hx
 ·exact ⟨ob.slots,u.keep b ob q n hb hx⟩
theorem Un.kept (k:∀b u,h.get? b=some u->h'.get? b=some u):Un fs ex H H h h':=
 ⟨fun b ob q _ _ _=>k b ob q,fun b ob q _ _ _=>⟨ob.slots,k b ob q⟩,fun _ _ _ n _=>n,fun b ob q _=>⟨ob,k b ob q⟩,fun _ _ q=>q,fun _ _ _ q=>q,fun _ ps q=>⟨#[],by rw [q];simp⟩⟩
theorem Un.refl:Un fs ex H H h h:=Un.kept fun _ _ q=>q
theorem Un.laid (k:∀b u,h.get? b=some u->h'.get? b=some u) (hp:h.objs.size<=a) (hn:H a=none):Un fs ex H (upd H a o) h h' where
 keep:=fun b u q _ _ _=>k b u q
 slot:=fun b u q _ _ _=>⟨u.slots,k b u q⟩
 free:=fun b u q n _=>by rw [bE (Nat.ne_of_lt (Nat.lt_of_lt_of_le (Heap.lt_size q) hp))];exact n
 there:=fun b u q _=>⟨u,k b u q⟩
 tups:=fun b xs q=>by rw [bE (jQ q hn)];exact q
 frzs:=fun b u xs q=>by rw [bE (jQ q hn)];exact q
 tbls:=fun b ps q=>⟨#[],by rw [bE (jQ q hn),q];simp⟩
theorem Un.write (mu:Dc (H x)) (he:e=x\/H e=some (.own x)) (k:∀b u,b≠e->h.get? b=some u->h'.get? b=some u) (heo:∃u,h'.get? e=some u):Un fs ex H (upd H x o) h h':=by
 have hx:∀b,H b=none->b≠x:=fun b n z=>by subst z;rw [n] at mu;exact mu
 have hb:∀b,H b=none->b≠e:=fun b n z=>by
  subst z;rcases he with r | r
  ·exact hx b n r
  ·rw [n] at r;cases r
 have hm:∀b u,H b=some u->¬Dc (some u)->b≠x:=fun b u q nm z=>by subst z;rw [q] at mu;exact nm mu
 refine ⟨fun b u q n _ _=>k b u (hb b n) q,fun b u q n _ _=>⟨u.slots,k b u (hb b n) q⟩,fun b u q n _=>by rw [bE (hx b n)];exact n,fun b u q _=>?_,
  fun b xs q=>by rw [bE (hm b _ q fun z=>z)];exact q,fun b u xs q=>by rw [bE (hm b _ q fun z=>z)];exact q,fun b ps q=>⟨#[],by rw [bE (hm b _ q fun z=>z),q];simp⟩⟩
 by_cases hbe:b=e
 ·subst hbe;exact heo
 ·exact ⟨u,k b u hbe q⟩
end
def DR (h:Heap) (H:Hp):List Addr:=(List.range h.objs.size).filter fun a=>(H a).isSome
def js (h:Heap) (H:Hp):Heap:=PySem.W.hideAll h (DR h H)
theorem pP (h:Heap) (H:Hp):(js h H).objs.size=h.objs.size:=PySem.W.hideAll_size _ _
theorem tf {h:Heap} {H:Hp} {b:Addr} {o:Obj} (e:h.get? b=some o) (n:H b=none):(js h H).get? b=some o:=
 PySem.W.hideAll_get _ e fun hm=>by
  have q:(H b).isSome=true:=(List.mem_filter.mp hm).2
  rw [n] at q;simp at q
theorem vJ {h:Heap} {H:Hp} {b:Addr} {o:Obj} (e:(js h H).get? b=some o):h.get? b=some o/\H b=none:=by
 have e':h.get? b=some o:=PySem.W.of_hideAll (DR h H) e
 refine ⟨e',?_⟩
 cases q:H b with
 | none=>rfl
 | some x=>
  have hm:b∈DR h H:=List.mem_filter.mpr ⟨List.mem_range.mpr (Heap.lt_size e'),by simp [q]⟩
  have z:(js h H).get? b=none:=PySem.W.hideAll_none (DR h H) hm
  rw [z] at e;cases e
def wQ (g h:Heap) (L:Addr):List (Addr×Obj):=(List.range h.objs.size).filterMap fun a=>if a=L\/(g.get? a).isSome=true then none else (h.get? a).map fun o=>(a,o)
def bC (g h:Heap) (L d:Addr):List (Addr×Obj):=(wQ g h L).filter fun p=>decide (p.1≠d)
structure Mod (K:Fg) (mg:Str->Option Value) (base:Heap):Prop where
 kin:K.In base
 glob:base.Ns mainGlobals mg
 blt:∃mb,base.Ns builtinsNs mb/\∀x:Str,x ≠ "__name__"->mb x=bootBuiltins x
 nolimit:base.NoLimit
structure Cx where
 prog:Program
 w:World
 K:Fg
 mg:Str->Option Value
 base:Heap
 A:Around
 N:List Str
 s₀:Shared
 H₀:Hp
 env:Env
 outer:List Env
 stack:List Env
 ex:List Addr
 fn:Str->Bool
 calm:Bool
 pn:List (Addr×Obj)
 xe:Value->Shared->Prop
def tw (l:List Env):List Addr:=l.filterMap (·.frame)
abbrev Cx.fs (X:Cx):List Addr:=tw X.outer
def Bh (sc:Scope) (x:Str):Prop:=sc.names.lookup x=some .local\/sc.names.lookup x=some .cell\/sc.names.lookup x=some .free
def Loc (sc:Scope) (x:Str):Prop:=sc.names.lookup x=some .local\/sc.names.lookup x=some .cell
def Look (env:Env) (h:Heap) (m:Str->Option Value) (x:Str) (u:Value):Prop:=
 (env.kindOf x=some .local/\m x=some u)\/((env.kindOf x=some .cell\/env.kindOf x=some .free)/\∃c,env.cells.lookup x=some c/\h.IsCell c (some u))
structure Cx.Ok (X:Cx):Prop where
 mod:Mod X.K X.mg X.base
 kind:X.env.scope.kind=.function
 glob:X.env.globals=mainGlobals
 blt:X.env.builtins=builtinsNs
 above:X.s₀.heap.objs.size<=X.env.locals
 inj:∀x y c,X.env.cells.lookup x=some c->X.env.cells.lookup y=some c->x=y
 has:∀x,(X.env.kindOf x=some .cell\/X.env.kindOf x=some .free)->∃c,X.env.cells.lookup x=some c
 cab:∀x c,X.fn x=true->X.env.cells.lookup x=some c->X.s₀.heap.objs.size<=c
 hd:X.calm=true->X.A.handled=none
 frames:X.A.frames=some X.stack
 stk:X.stack=X.outer\/(X.stack=X.env::X.outer/\X.env.frame=some X.env.locals)
 exf:∀b∈X.ex,b≠X.env.locals/\∀x c,X.env.cells.lookup x=some c->c≠b
 bs:∀b o,X.base.get? b=some o->X.s₀.heap.get? b=some o/\X.H₀ b=none
 bsz:X.base.objs.size<=X.s₀.heap.objs.size
 noex:∀b o,X.base.get? b=some o->b∉X.ex
 exfs:∀b∈X.ex,b∉X.fs
 funs:X.s₀.heap.FunFrames X.base X.outer
 frf:∀b∈X.fs,X.H₀ b=none
structure Inv (X:Cx) (pins:List (Addr×Obj)) (σ:List (Option V)) (H:Hp) (s:Shared):Prop where
 ok:X.Ok
 os:s.os=X.s₀.os
 bare:AllBare s.gens
 base:Un X.fs X.ex X.H₀ H X.s₀.heap s.heap
 loc:∃m,s.heap.Ns X.env.locals m/\∀(i:Nat) (x:Str) (v:V),X.N[i]?=some x->σ[i]?=some (some v)->Bh X.env.scope x->∃u,RelV v u/\Look X.env s.heap m x u
 cell:∀x c,X.env.cells.lookup x=some c->∃v,s.heap.IsCell c v
 free:H X.env.locals=none
 freeC:∀x c,X.env.cells.lookup x=some c->H c=none
 pin:∀p∈X.pn++pins,s.heap.get? p.1=some p.2/\H p.1=none/\p.1≠X.env.locals/\p.1∉X.fs/\∀v,p.2.data≠.cell v
 hok:HOk X.prog X.w H s.heap
 len:σ.length=X.N.length
section
variable {X:Cx} {pins:List (Addr×Obj)} {σ:List (Option V)} {H H':Hp} {s:Shared} {h':Heap}
theorem Cx.Ok.nofr (ok:X.Ok) {b:Addr} {o:Obj} (e:X.base.get? b=some o):b∉X.fs:=fun hb=>by
 have:=(ok.funs.mem hb).1
 rw [e] at this;cases this
theorem Inv.bs (I:Inv X pins σ H s):∀b o,X.base.get? b=some o->s.heap.get? b=some o/\H b=none:=fun b o e=>
 ⟨I.base.keep b o (I.ok.bs b o e).1 (I.ok.bs b o e).2 (I.ok.nofr e) (I.ok.noex b o e),I.base.free b o (I.ok.bs b o e).1 (I.ok.bs b o e).2 (I.ok.noex b o e)⟩
theorem Inv.bk (I:Inv X pins σ H s):∀b o,X.base.get? b=some o->s.heap.get? b=some o:=fun b o e=>(I.bs b o e).1
theorem Inv.mod (I:Inv X pins σ H s):Mod X.K X.mg X.base:=I.ok.mod
theorem Inv.kIn (I:Inv X pins σ H s):X.K.In s.heap:=I.ok.mod.kin.keeps I.bk
theorem Inv.lt (I:Inv X pins σ H s):X.env.locals<s.heap.objs.size:=let ⟨_,hn,_⟩:=I.loc;hn.lt
theorem Inv.sz (I:Inv X pins σ H s):X.s₀.heap.objs.size<=s.heap.objs.size:=Nat.le_trans I.ok.above (Nat.le_of_lt I.lt)
theorem Inv.nofs (I:Inv X pins σ H s) {a:Addr} (h:s.heap.objs.size<=a):a∉X.fs:=fun hb=>by
 obtain ⟨_,o,ho,_⟩:=I.ok.funs.mem hb;exact absurd (Nat.lt_of_lt_of_le (Heap.lt_size ho) (Nat.le_trans I.sz h)) (Nat.lt_irrefl _)
theorem Inv.cne (I:Inv X pins σ H s):∀x c,X.env.cells.lookup x=some c->c≠X.env.locals:=fun x c e z=>by
 obtain ⟨v,o,ho,hd⟩:=I.cell x c e;obtain ⟨m,⟨o',es,ep,ho',hd',_⟩,_⟩:=I.loc;rw [z,ho'] at ho;cases ho;rw [hd'] at hd;cases hd
theorem Inv.funs (I:Inv X pins σ H s):s.heap.FunFrames X.base X.outer:=by
 have all:∀(l:List Env),(∀b∈tw l,b∈X.fs)->X.s₀.heap.FunFrames X.base l->s.heap.FunFrames X.base l:=by
  intro l;induction l with
  | nil=>intro _ _;trivial
  | cons env r ih=>
   intro hs hl;obtain ⟨hk,⟨L,o,hf,hn,ho,hd⟩,hr⟩:=hl;have hL:L∈X.fs:=hs L (by unfold tw;rw [filterMap_cons,hf];exact mem_cons_self)
   obtain ⟨sl,e⟩:=I.base.slot L o ho (I.ok.frf L hL) hL fun z=>I.ok.exfs L z hL
   exact ⟨hk,⟨L,_,hf,hn,e,hd⟩,ih (fun b hb=>hs b (by unfold tw;rw [filterMap_cons,hf];exact mem_cons_of_mem _ hb)) hr⟩
 exact all X.outer (fun _ hb=>hb) I.ok.funs
theorem Inv.stack (I:Inv X pins σ H s):s.heap.FunFrames X.base X.stack:=by
 rcases I.ok.stk with e | ⟨e,hf⟩
 ·rw [e];exact I.funs
 ·rw [e]
  obtain ⟨m,hn,_⟩:=I.loc;refine .cons (by rw [I.ok.kind];decide) hf hn ?_ I.funs
  exact Heap.get?_none_of_le (Nat.le_trans I.ok.bsz I.ok.above)
theorem Inv.stkSub (I:Inv X pins σ H s):∀b∈tw X.stack,b∈X.env.locals::X.fs:=fun b hb=>by
 rcases I.ok.stk with e | ⟨e,hf⟩
 ·rw [e] at hb;exact mem_cons_of_mem _ hb
 ·rw [e] at hb
  unfold tw at hb;rw [filterMap_cons,hf] at hb;exact hb
theorem Inv.stkFree (I:Inv X pins σ H s):∀b∈tw X.stack,H b=none:=fun b hb=>by
 rcases List.mem_cons.mp (I.stkSub b hb) with e | hb
 ·rw [e];exact I.free
 ·obtain ⟨_,o,ho,_⟩:=I.ok.funs.mem hb
  exact I.base.free b o ho (I.ok.frf b hb) fun z=>I.ok.exfs b z hb
theorem Inv.step {g':Array GenState} {t':Nat} {d':Drawn} {ch:List Addr} (I:Inv X pins σ H s)
  (hch:∀b∈ch,(b∈X.ex\/X.s₀.heap.objs.size<=b)/\b≠X.env.locals/\(∀x c,X.env.cells.lookup x=some c->c≠b)/\∀p∈X.pn++pins,p.1≠b)
  (keep:∀b o,b≠X.env.locals->b∉X.fs->b∉ch->s.heap.get? b=some o->H b=none->h'.get? b=some o)
  (slot:∀b o,b≠X.env.locals->b∈X.fs->b∉ch->s.heap.get? b=some o->H b=none->∃sl,h'.get? b=some { o with slots:=sl }) (free:∀b o,b∉ch->s.heap.get? b=some o->H b=none->H' b=none)
  (there:∀b o,b∉ch->s.heap.get? b=some o->∃o',h'.get? b=some o')
  (tups:∀b xs,H b=some (.tup xs)->H' b=some (.tup xs)) (frzs:∀b o u,H b=some (.frz o u)->H' b=some (.frz o u)) (tbls:∀b ps,H b=some (.tbl ps)->∃more,H' b=some (.tbl (ps++more)))
  (ns:∀m,s.heap.Ns X.env.locals m->h'.Ns X.env.locals m) (hok:HOk X.prog X.w H' h') (hg:AllBare g') :
  Inv X pins σ H' { s with heap:=h',gens:=g',drawn:=d',toks:=t' }:=by
 have neL:∀b o,X.s₀.heap.get? b=some o->b≠X.env.locals:=fun b o e=>Nat.ne_of_lt (Nat.lt_of_lt_of_le (Heap.lt_size e) I.ok.above)
 have neC:∀b o,X.s₀.heap.get? b=some o->b∉X.ex->b∉ch:=fun b o e hx hb=>by
  rcases (hch b hb).1 with z | z
  ·exact hx z
  ·exact absurd (Nat.lt_of_lt_of_le (Heap.lt_size e) z) (Nat.lt_irrefl _)
 have cellK:∀x c,X.env.cells.lookup x=some c->∀v,s.heap.IsCell c v->h'.IsCell c v:=fun x c e v ⟨o,ho,hd⟩=>by
  have nch:c∉ch:=fun z=>(hch c z).2.2.1 x c e rfl
  by_cases hc:c∈X.fs
  ·obtain ⟨sl,q⟩:=slot c o (I.cne x c e) hc nch ho (I.freeC x c e)
   exact ⟨_,q,hd⟩
  ·exact ⟨o,keep c o (I.cne x c e) hc nch ho (I.freeC x c e),hd⟩
 refine ⟨I.ok,I.os,hg,⟨fun b o e n hb hx=>?_,fun b o e n hb hx=>?_,fun b o e n hx=>?_,fun b o e hx=>?_,fun b xs e=>tups b xs (I.base.tups b xs e),fun b o xs e=>frzs b o xs (I.base.frzs b o xs e),fun b ps e=>?_⟩,?_,fun x c e=>?_,?_,fun x c e=>?_,fun p hp=>?_,hok,I.len⟩
 ·exact keep b o (neL b o e) hb (neC b o e hx) (I.base.keep b o e n hb hx) (I.base.free b o e n hx)
 ·obtain ⟨sl,e1⟩:=I.base.slot b o e n hb hx
  obtain ⟨sl',e2⟩:=slot b _ (neL b o e) hb (neC b o e hx) e1 (I.base.free b o e n hx);exact ⟨sl',e2⟩
 ·obtain ⟨o',e1⟩:=I.base.there b o e hx
  exact free b o' (neC b o e hx) e1 (I.base.free b o e n hx)
 ·obtain ⟨o',e1⟩:=I.base.there b o e hx
  exact there b o' (neC b o e hx) e1
 ·obtain ⟨m1,e1⟩:=I.base.tbls b ps e
  obtain ⟨m2,e2⟩:=tbls b _ e1;exact ⟨m1++m2,by rw [e2,Array.append_assoc]⟩
 ·obtain ⟨m,hn,hl⟩:=I.loc
  refine ⟨m,ns m hn,fun i x v e1 e2 e3=>?_⟩
  obtain ⟨u,r,l⟩:=hl i x v e1 e2 e3;refine ⟨u,r,?_⟩
  rcases l with l | ⟨k,c,e,z⟩
  ·exact .inl l
  ·exact .inr ⟨k,c,e,cellK x c e _ z⟩
 ·obtain ⟨v,z⟩:=I.cell x c e
  exact ⟨v,cellK x c e v z⟩
 ·obtain ⟨m,⟨o,_,_,ho,_⟩,_⟩:=I.loc
  exact free _ o (fun z=>(hch _ z).2.1 rfl) ho I.free
 ·obtain ⟨v,o,ho,hd⟩:=I.cell x c e
  exact free c o (fun z=>(hch c z).2.2.1 x c e rfl) ho (I.freeC x c e)
 ·obtain ⟨e,n,ne,nf,d⟩:=I.pin p hp
  have nch:p.1∉ch:=fun z=>(hch p.1 z).2.2.2 p hp rfl
  exact ⟨keep p.1 p.2 ne nf nch e n,free p.1 p.2 nch e n,ne,nf,d⟩
theorem Inv.un {t':Nat} (I:Inv X pins σ H s) (u:Un X.fs [] H H' s.heap h') (hok:HOk X.prog X.w H' h'):Inv X pins σ H' { s with heap:=h',toks:=t' }:=by
 obtain ⟨m,⟨o,es,ep,ho,r⟩,_⟩:=id I.loc;obtain ⟨sl,hL⟩:=u.any ho I.free (by simp)
 exact I.step (g':=s.gens) (d':=s.drawn) (ch:=[]) (fun _ z=>nomatch z) (fun b o _ hb _ e n=>u.keep b o e n hb (by simp)) (fun b o _ hb _ e n=>u.slot b o e n hb (by simp)) (fun b o _ e n=>u.free b o e n (by simp)) (fun b o _ e=>u.there b o e (by simp)) u.tups u.frzs u.tbls (fun m' hm=>by
  obtain ⟨o',es',ep',ho',r'⟩:=hm;rw [ho] at ho';cases ho'
  exact ⟨_,es',ep',hL,r'⟩) hok I.bare
theorem Inv.call {g':Array GenState} {t':Nat} {d':Drawn} {ch:List Addr} (I:Inv X pins σ H s) (u:Un (tw X.stack) ch H H' s.heap h') (hok:HOk X.prog X.w H' h') (hg:AllBare g')
  (hch:∀b∈ch,(b∈X.ex\/X.s₀.heap.objs.size<=b)/\b≠X.env.locals/\(∀x c,X.env.cells.lookup x=some c->c≠b)/\∀p∈X.pn++pins,p.1≠b) :
  Inv X pins σ H' { s with heap:=h',gens:=g',drawn:=d',toks:=t' }:=by
 obtain ⟨m,⟨o,es,ep,ho,r⟩,_⟩:=id I.loc;obtain ⟨sl,hL⟩:=u.any ho I.free fun z=>(hch _ z).2.1 rfl
 exact I.step (ch:=ch) hch (fun b o hL hb hc e n=>u.keep b o e n (fun z=>(List.mem_cons.mp (I.stkSub b z)).elim hL hb) hc) (fun b o _ _ hc e n=>u.any e n hc) (fun b o hc e n=>u.free b o e n hc) (fun b o hc e=>u.there b o e hc) u.tups u.frzs u.tbls (fun m' hm=>by
  obtain ⟨o',es',ep',ho',r'⟩:=hm;rw [ho] at ho';cases ho'
  exact ⟨_,es',ep',hL,r'⟩) hok hg
theorem Inv.turned {t':Nat} {it:Addr} (I:Inv X pins σ H s) (k:∀b o,b≠it->s.heap.get? b=some o->h'.get? b=some o) (hn:H it=none) (hL:it≠X.env.locals)
  (h1:it∈X.ex\/X.s₀.heap.objs.size<=it) (h2:∀x c,X.env.cells.lookup x=some c->c≠it) (h3:∀p∈X.pn++pins,p.1≠it):Inv X pins σ H { s with heap:=h',toks:=t' }:=by
 have nit:∀b u,H b=some u->b≠it:=fun b u e z=>by rw [z,hn] at e;cases e
 refine I.step (g':=s.gens) (d':=s.drawn) (ch:=[it]) (fun b hb=>?_) (fun b o _ _ hc e _=>k b o (fun z=>hc (by simp [z])) e) (fun b o _ _ hc e _=>⟨o.slots,k b o (fun z=>hc (by simp [z])) e⟩) (fun _ _ _ _ n=>n)
  (fun b o hc e=>⟨o,k b o (fun z=>hc (by simp [z])) e⟩) (fun _ _ e=>e) (fun _ _ _ e=>e) (fun b ps e=>⟨#[],by rw [e];simp⟩) (fun m hm=>?_) (fun b u e=>?_) I.bare
 ·have e:b=it:=by simpa using hb
  subst e;exact ⟨h1,hL,h2,h3⟩
 ·obtain ⟨o,es,ep,ho,r⟩:=hm
  exact ⟨o,es,ep,k _ o (Ne.symm hL) ho,r⟩
 ·refine (I.hok b u e).stay (fun c v hc q=>k c v ?_ q) (fun _ q=>q) fun _ _ q=>q
  rcases hc with z | z
  ·rw [z];exact nit b u e
  ·exact nit c _ z
theorem Inv.tok (I:Inv X pins σ H s) (t:Nat):Inv X pins σ H { s with toks:=t }:=I.un (h':=s.heap) (t':=t) Un.refl I.hok
theorem Inv.kept {t':Nat} (I:Inv X pins σ H s) (k:∀b u,s.heap.get? b=some u->h'.get? b=some u):Inv X pins σ H { s with heap:=h',toks:=t' }:=I.un (Un.kept k) (I.hok.kept k)
theorem Inv.laid {a:Addr} {o:HO} {t':Nat} (I:Inv X pins σ H s) (k:∀b u,s.heap.get? b=some u->h'.get? b=some u) (hp:s.heap.objs.size<=a) (new:ObjOk X.prog X.w (upd H a o) h' a o) :
  Inv X pins σ (upd H a o) { s with heap:=h',toks:=t' }:=I.un (Un.laid k hp (I.hok.fresh hp)) (I.hok.laid k hp new)
theorem Inv.write {x e:Addr} {o:HO} {t':Nat} (I:Inv X pins σ H s) (mu:Dc (H x)) (he:e=x\/H e=some (.own x)) (k:∀b u,b≠e->s.heap.get? b=some u->h'.get? b=some u) (heo:∃u,h'.get? e=some u)
  (new:ObjOk X.prog X.w (upd H x o) h' x o):Inv X pins σ (upd H x o) { s with heap:=h',toks:=t' }:=I.un (Un.write mu he k heo) (I.hok.write mu he k heo new)
theorem Inv.weak {σ':List (Option V)} (I:Inv X pins σ H s) (hl:σ'.length=σ.length) (w:∀(i:Nat) v,σ'[i]?=some (some v)->σ[i]?=some (some v)):Inv X pins σ' H s:=
 ⟨I.ok,I.os,I.bare,I.base,let ⟨m,hn,hl'⟩:=I.loc;⟨m,hn,fun i x v e1 e2 e3=>hl' i x v e1 (w i v e2) e3⟩,I.cell,I.free,I.freeC,I.pin,I.hok,hl.trans I.len⟩
theorem Inv.pins_of {pins':List (Addr×Obj)} (I:Inv X pins σ H s) (h:∀p∈pins',s.heap.get? p.1=some p.2/\H p.1=none/\p.1≠X.env.locals/\p.1∉X.fs/\∀v,p.2.data≠.cell v):Inv X pins' σ H s:=
 ⟨I.ok,I.os,I.bare,I.base,I.loc,I.cell,I.free,I.freeC,fun p hp=>(List.mem_append.mp hp).elim (fun z=>I.pin p (mem_append_left _ z)) (h p),I.hok,I.len⟩
theorem ko {N:List Str} (hN:N.Nodup) {i j:Nat} {x:Str} (a:N[i]?=some x) (b:N[j]?=some x):i=j:=by
 obtain ⟨h1,e1⟩:=List.getElem?_eq_some_iff.mp a
 obtain ⟨h2,e2⟩:=List.getElem?_eq_some_iff.mp b
 exact (List.getElem_inj hN).mp (e1.trans e2.symm)
theorem iH {M:Model} {A:Around} {E:Value->Shared->Prop} {i:Nat} {x:Str} {v:V} {u:Value} {Q:Unit->Shared->Prop} (I:Inv X pins σ H s) (hN:X.N.Nodup) (hi:X.N[i]?=some x) (hx:Loc X.env.scope x) (r:RelV v u)
  (h:∀s',Inv X pins (σ.set i (some v)) H s'->(∃a,Heap.SameBut a s.heap s'.heap/\(a=X.env.locals\/X.env.cells.lookup x=some a))->Q () s') (hf:X.fn x=true\/X.env.scope.names.lookup x=some .local:=by first | exact .inl rfl | exact .inr rfl | assumption):wpAny M A (storeName X.env x u) Q E s:=by
 obtain ⟨m,hn,hl⟩:=id I.loc;have hcls:(X.env.scope.kind==.class||(X.env.scope.kind==.module&&X.env.locals != X.env.globals))=false:=by rw [I.ok.kind];rfl
 have hiσ:i<σ.length:=by rw [I.len];exact (List.getElem?_eq_some_iff.mp hi).1
 have cne:=I.cne
 have tracked:∀{a:Addr} {h':Heap},(∃o,s.heap.get? a=some o/\H a=none)->Heap.SameBut a s.heap h'->HOk X.prog X.w H h':=fun {a h'} ha hs b ob e=>by
  obtain ⟨_,_,hfree⟩:=ha;refine (I.hok b ob e).stay (fun c w' hc q=>(hs.2 c ?_).trans q) (fun _ q=>q) fun _ _ q=>q
  rintro rfl
  rcases hc with rfl | hc
  ·rw [hfree] at e;cases e
  ·rw [hfree] at hc;cases hc
 rcases hx with hk | hk
 ·refine wpAny_storeName_local hk hn (fun h' hn' hs=>?_) hcls
  obtain ⟨oL,_,_,hoL,_⟩:=id hn;refine h _ ⟨I.ok,I.os,I.bare,⟨fun b o e n hb hx=>?_,fun b o e n hb hx=>?_,I.base.free,fun b o e hx=>?_,I.base.tups,I.base.frzs,I.base.tbls⟩,⟨_,hn',fun j y v' e1 e2 e3=>?_⟩,fun y c e=>?_,I.free,I.freeC,fun p hp=>?_,tracked ⟨oL,hoL,I.free⟩ hs,by simpa using I.len⟩ ⟨_,hs,.inl rfl⟩
  ·exact (hs.2 b (Nat.ne_of_lt (Nat.lt_of_lt_of_le (Heap.lt_size e) I.ok.above))).trans (I.base.keep b o e n hb hx)
  ·obtain ⟨sl,e1⟩:=I.base.slot b o e n hb hx
   exact ⟨sl,(hs.2 b (Nat.ne_of_lt (Nat.lt_of_lt_of_le (Heap.lt_size e) I.ok.above))).trans e1⟩
  ·obtain ⟨o',e1⟩:=I.base.there b o e hx
   exact ⟨o',(hs.2 b (Nat.ne_of_lt (Nat.lt_of_lt_of_le (Heap.lt_size e) I.ok.above))).trans e1⟩
  ·by_cases hj:j=i
   ·subst hj
    rw [hi] at e1;cases e1;rw [getElem?_set_self hiσ] at e2
    cases e2;exact ⟨u,r,.inl ⟨hk,by simp⟩⟩
   ·rw [getElem?_set_ne (Ne.symm hj)] at e2
    obtain ⟨u',r',q⟩:=hl j y v' e1 e2 e3
    refine ⟨u',r',?_⟩
    rcases q with ⟨k,e⟩ | ⟨k,c,e,z⟩
    ·refine .inl ⟨k,?_⟩
     have:y≠x:=fun e=>hj (ko hN e1 (e▸hi))
     simp [this,e]
    ·exact .inr ⟨k,c,e,z.sameBut hs (cne y c e)⟩
  ·obtain ⟨w',z⟩:=I.cell y c e
   exact ⟨w',z.sameBut hs (cne y c e)⟩
  ·obtain ⟨e,n,ne,nf,d⟩:=I.pin p hp
   exact ⟨(hs.2 p.1 ne).trans e,n,ne,nf,d⟩
 ·have hfn:X.fn x=true:=by
   rcases hf with z | z
   ·exact z
   ·rw [z] at hk;cases hk
  obtain ⟨c,hc⟩:=I.ok.has x (.inl hk);obtain ⟨w',z⟩:=I.cell x c hc;refine wpAny_storeName_cell I.ok.kind hk hc z (fun h' hc' hs=>?_)
  obtain ⟨oc,hoc,hocd⟩:=id z;refine h { s with heap:=h' } ⟨I.ok,I.os,I.bare,⟨fun b o e n hb hx=>?_,fun b o e n hb hx=>?_,I.base.free,fun b o e hx=>?_,I.base.tups,I.base.frzs,I.base.tbls⟩,⟨m,hn.sameBut hs (Ne.symm (cne x c hc)),fun j y v' e1 e2 e3=>?_⟩,fun y c' e=>?_,I.free,I.freeC,fun p hp=>?_,tracked ⟨oc,hoc,I.freeC x c hc⟩ hs,by simpa using I.len⟩ ⟨c,hs,.inr hc⟩
  ·exact (hs.2 b (Nat.ne_of_lt (Nat.lt_of_lt_of_le (Heap.lt_size e) (I.ok.cab x c hfn hc)))).trans (I.base.keep b o e n hb hx)
  ·obtain ⟨sl,e1⟩:=I.base.slot b o e n hb hx
   exact ⟨sl,(hs.2 b (Nat.ne_of_lt (Nat.lt_of_lt_of_le (Heap.lt_size e) (I.ok.cab x c hfn hc)))).trans e1⟩
  ·obtain ⟨o',e1⟩:=I.base.there b o e hx
   exact ⟨o',(hs.2 b (Nat.ne_of_lt (Nat.lt_of_lt_of_le (Heap.lt_size e) (I.ok.cab x c hfn hc)))).trans e1⟩
  ·by_cases hj:j=i
   ·subst hj
    rw [hi] at e1;cases e1;rw [getElem?_set_self hiσ] at e2
    cases e2;exact ⟨u,r,.inr ⟨.inl hk,c,hc,hc'⟩⟩
   ·rw [getElem?_set_ne (Ne.symm hj)] at e2
    obtain ⟨u',r',q⟩:=hl j y v' e1 e2 e3
    refine ⟨u',r',?_⟩
    rcases q with q | ⟨k,c',e,z'⟩
    ·exact .inl q
    ·refine .inr ⟨k,c',e,z'.sameBut hs ?_⟩
     rintro rfl
     exact hj (ko hN e1 (I.ok.inj _ _ _ e hc▸hi))
  ·by_cases hcc:c'=c
   ·subst hcc;exact ⟨_,hc'⟩
   ·obtain ⟨w2,z2⟩:=I.cell y c' e
    exact ⟨w2,z2.sameBut hs hcc⟩
  ·obtain ⟨e,n,ne,nf,d⟩:=I.pin p hp
   refine ⟨(hs.2 p.1 ?_).trans e,n,ne,nf,d⟩
   intro q;rw [q,hoc] at e;have q':oc=p.2:=Option.some.inj e
   exact d w' (by rw [<-q'];exact hocd)
theorem jW {M:Model} {A:Around} {E:Value->Shared->Prop} {i:Nat} {x:Str} {v:V} {u:Value} {Q:Unit->Shared->Prop} (I:Inv X pins σ H s) (hN:X.N.Nodup) (hi:X.N[i]?=some x) (hx:Loc X.env.scope x) (r:RelV v u)
  (h:∀s',Inv X pins (σ.set i (some v)) H s'->Q () s') (hf:X.fn x=true\/X.env.scope.names.lookup x=some .local:=by first | exact .inl rfl | exact .inr rfl | assumption):wpAny M A (storeName X.env x u) Q E s:=
 iH I hN hi hx r (fun s' I' _=>h s' I') hf
theorem Inv.call' {s':Shared} {ch:List Addr} (I:Inv X pins σ H s) (ho:s'.os=s.os) (u:Un (tw X.stack) ch H H' s.heap s'.heap) (hok:HOk X.prog X.w H' s'.heap) (hg:AllBare s'.gens)
  (hch:∀b∈ch,(b∈X.ex\/X.s₀.heap.objs.size<=b)/\b≠X.env.locals/\(∀x c,X.env.cells.lookup x=some c->c≠b)/\∀p∈X.pn++pins,p.1≠b):Inv X pins σ H' s':=by
 obtain ⟨h',g',d',t',o'⟩:=s'
 have e:o'=s.os:=ho
 subst e;exact I.call (g':=g') (t':=t') (d':=d') u hok hg hch
end
abbrev XK:=Value->Option Addr->Hp->Prop
abbrev St:=List (Option V)
abbrev VK:=V->Hp->Prop
abbrev TE:=St->Hp->VK->Prop
abbrev TT:=St->Hp->(Bool->Hp->Prop)->Prop
abbrev TA:=St->Hp->(List V->Hp->Prop)->Prop
structure bS where
 nx:St->Hp->Prop
 rt:VK
 bk:St->Hp->Prop:=fun _ _=>False
 ct:St->Hp->Prop:=fun _ _=>False
abbrev TS:=bS->St->Hp->Prop
def EP (X:Cx) (pins:List (Addr×Obj)) (σ:St) (Q:VK) (u:Value) (s':Shared):Prop:=∃v H',Inv X pins σ H' s'/\RelV v u/\Q v H'
def TP (X:Cx) (pins:List (Addr×Obj)) (σ:St) (Q:Bool->Hp->Prop) (b:Bool) (s':Shared):Prop:=∃H',Inv X pins σ H' s'/\Q b H'
def AP (X:Cx) (pins:List (Addr×Obj)) (σ:St) (Q:List V->Hp->Prop) (us:List Value) (s':Shared):Prop:=∃vs H',Inv X pins σ H' s'/\Vals vs us/\Q vs H'
def SP (X:Cx) (pins:List (Addr×Obj)) (D:bS) (f:Flow) (s':Shared):Prop:=
 match f with
 | .next=>∃σ' H',Inv X pins σ' H' s'/\D.nx σ' H'
 | .brk=>∃σ' H',Inv X pins σ' H' s'/\D.bk σ' H'
 | .cont=>∃σ' H',Inv X pins σ' H' s'/\D.ct σ' H'
 | .ret u=>∃v σ' H',Inv X pins σ' H' s'/\RelV v u/\D.rt v H'
def PE (X:Cx) (e:Expr) (t:TE):Prop:=
 ∀(pins:List (Addr×Obj)) (s:Shared) (σ:St) (H:Hp) (Q:VK),Inv X pins σ H s->t σ H Q->wpAny (model X.prog X.w) X.A (eval e X.env) (EP X pins σ Q) X.xe s
def PT (X:Cx) (e:Expr) (t:TT):Prop:=
 ∀(pins:List (Addr×Obj)) (s:Shared) (σ:St) (H:Hp) (Q:Bool->Hp->Prop),Inv X pins σ H s->t σ H Q->wpAny (model X.prog X.w) X.A (isTrue e X.env (eval e X.env)) (TP X pins σ Q) X.xe s
def PW (X:Cx) (e:Expr) (t:TT):Prop:=
 ∀(whole:Sem Value) (pins:List (Addr×Obj)) (s:Shared) (σ:St) (H:Hp) (Q:Bool->Hp->Prop),Inv X pins σ H s->t σ H Q->wpAny (model X.prog X.w) X.A (isTrue e X.env whole) (TP X pins σ Q) X.xe s
theorem PW.pt {X:Cx} {e:Expr} {t:TT} (h:PW X e t):PT X e t:=h _
def PA (X:Cx) (es:List Expr) (t:TA):Prop:=
 ∀(pos:Pos) (pins:List (Addr×Obj)) (s:Shared) (σ:St) (H:Hp) (Q:List V->Hp->Prop),Inv X pins σ H s->t σ H Q->wpAny (model X.prog X.w) X.A (spliced (backTo pos (starEach es X.env))) (AP X pins σ Q) X.xe s
def PS (X:Cx) (st:Stmt) (t:TS):Prop:=
 ∀(pins:List (Addr×Obj)) (s:Shared) (σ:St) (H:Hp) (D:bS),Inv X pins σ H s->t D σ H->wpAny (model X.prog X.w) X.A (exec st X.env) (SP X pins D) X.xe s
def PSs (X:Cx) (st:List Stmt) (t:TS):Prop:=
 ∀(pins:List (Addr×Obj)) (s:Shared) (σ:St) (H:Hp) (D:bS),Inv X pins σ H s->t D σ H->wpAny (model X.prog X.w) X.A (execs st X.env) (SP X pins D) X.xe s
theorem bq {α:Type} {t:Sem α} {Q Q':α->Shared->Prop} {M:Model} {A:Around} {E:Value->Shared->Prop} {s:Shared} (h:wpAny M A t Q E s) (hQ:∀a s,Q a s->Q' a s):wpAny M A t Q' E s:=wpAny_mono h hQ fun _ _ x=>x
section
variable {X:Cx}
def aD (i:Nat):TE:=fun σ H Q=>∃v,σ[i]?=some (some v)/\Q v H
def tC (v:V):TE:=fun _ H Q=>Q v H
theorem qB {i:Nat} {x:Str} {pos:Pos} (hN:X.N[i]?=some x) (hv:Bh X.env.scope x) (hd:(x==("__debug__":Str))=false:=by decide) (hcd:(x==("__classdict__":Str))=false:=by decide):PE X (.Name x pos) (aD i):=by
 intro pins s σ H Q I h;obtain ⟨v,e,h⟩:=h;obtain ⟨m,hn,hl⟩:=I.loc;obtain ⟨u,r,l⟩:=hl i x v hN e hv;have fin:EP X pins σ Q u s:=⟨v,H,I,r,h⟩
 rcases l with ⟨hk,hm⟩ | ⟨hk,c,hc,hcell⟩
 ·exact wpAny_Name (wpAny_loadName_local I.ok.kind hk hn hm fin) hd
 ·rcases hk with hk | hk
  ·exact wpAny_Name (wpAny_loadName_cell I.ok.kind hk hc hcell fin) hd
  ·exact wpAny_Name (wpAny_loadName_free I.ok.kind hk hc hcell fin hcd) hd
theorem oB {i j pos}:PE X (.Constant (.int i) j pos) (tC (.int i)):=fun _ _ _ H _ I h=>wpAny_Constant_int ⟨.int i,H,I.tok _,⟨_,rfl⟩,h⟩
theorem dZ {b j pos}:PE X (.Constant (.bool b) j pos) (tC (.bl b)):=fun _ _ _ H _ I h=>Constant_bool ⟨.bl b,H,I,rfl,h⟩
theorem sj {x j pos}:PE X (.Constant (.str x) j pos) (tC (.str x)):=fun _ _ _ H _ I h=>Calls.Constant_str ⟨.str x,H,I.tok _,⟨_,rfl⟩,h⟩
def Gl (X:Cx) (x:Str):Prop:=X.env.kindOf x=some .globalImplicit
theorem nU {E:Value->Shared->Prop} {pins:List (Addr×Obj)} {s:Shared} {σ:St} {H:Hp} {x:Str} {u:Value} {pos:Pos} {Q:Value->Shared->Prop} (I:Inv X pins σ H s) (hg:Gl X x) (hm:X.mg x=some u) (h:Q u s)
  (hd:(x==("__debug__":Str))=false:=by decide):wpAny (model X.prog X.w) X.A (eval (.Name x pos) X.env) Q E s:=
 Calls.Name_function_global I.ok.kind hg (Calls.loadGlobal_global (by rw [I.ok.glob];exact I.mod.glob.keeps I.bk) hm h) hd
theorem xb {E:Value->Shared->Prop} {pins:List (Addr×Obj)} {s:Shared} {σ:St} {H:Hp} {x:Str} {u:Value} {pos:Pos} {Q:Value->Shared->Prop} (I:Inv X pins σ H s) (hg:Gl X x) (hm:X.mg x=none) (hv:bootBuiltins x=some u) (h:Q u s)
  (hn:x ≠ "__name__":=by decide) (hd:(x==("__debug__":Str))=false:=by decide):wpAny (model X.prog X.w) X.A (eval (.Name x pos) X.env) Q E s:=by
 obtain ⟨mb,h1,h2⟩:=I.mod.blt;exact Calls.Name_function_global I.ok.kind hg (Calls.loadGlobal_builtin (by rw [I.ok.glob];exact I.mod.glob.keeps I.bk) hm (by rw [I.ok.blt];exact h1.keeps I.bk) ((h2 x hn).trans hv) h) hd
theorem vD {x:Str} {v:V} {u:Value} {pos:Pos} (hg:Gl X x) (hm:X.mg x=some u) (r:RelV v u) (hd:(x==("__debug__":Str))=false:=by decide):PE X (.Name x pos) (tC v):=
 fun _ _ _ H _ I h=>nU I hg hm ⟨v,H,I,r,h⟩ hd
theorem vE {x:Str} {v:V} {u:Value} {pos:Pos} (hg:Gl X x) (hm:X.mg x=none) (hv:bootBuiltins x=some u) (r:RelV v u) (hn:x ≠ "__name__":=by decide) (hd:(x==("__debug__":Str))=false:=by decide):PE X (.Name x pos) (tC v):=
 fun _ _ _ H _ I h=>xb I hg hm hv ⟨v,H,I,r,h⟩ hn hd
variable {a b:Expr} {ta tb:TE} {pos:Pos}
def PC (X:Cx) (op:CmpOp) (a b:Expr) (t:TE):Prop:=
 ∀(pins:List (Addr×Obj)) (s:Shared) (σ:St) (H:Hp) (Q:VK),Inv X pins σ H s->t σ H Q ->
  wpAny (model X.prog X.w) X.A (eval a X.env) (fun v s₁=>wpAny (model X.prog X.w) X.A (eval b X.env) (fun u s₂=>wpAny (model X.prog X.w) X.A (compareOp op v u) (EP X pins σ Q) X.xe s₂) X.xe s₁) X.xe s
def tB (t:TE):TT:=fun σ H Q=>t σ H fun x H1=>∃c,x=.bl c/\Q c H1
theorem ze {op:CmpOp} {t:TE} (h:PC X op a b t) (h1:behindInMarks op b=false:=by first | exact nobehind _ (by decide) (by decide) | rfl):PT X (.Compare a [op] [b] pos) (tB t):=by
 intro pins s σ H Q I hw;refine wpAny_isTrue_Compare1 (bq (h pins s σ H _ I hw) fun v s1 h1=>bq h1 fun u s2 h2=>bq h2 fun c s3 ⟨x,H1,I1,r1,q1⟩=>?_) h1
 obtain ⟨d,rfl,q⟩:=q1
 cases r1;exact wpAny_truthy_bool ⟨H1,I1,q⟩
theorem xU {e:Expr} {t:TE} (h:PE X e t) (he:∀whole,isTrue e X.env whole=(do let v <-whole;standAt e.pos;holding [v] (truthy v)):=by intro _;rfl):PT X e (tB t):=by
 intro pins s σ H Q I hw;refine isTrue_plain (bq (h pins s σ H _ I hw) fun v s1 ⟨x,H1,I1,r1,q1⟩=>?_) (he _)
 obtain ⟨d,rfl,q⟩:=q1
 cases r1;exact wpAny_truthy_bool ⟨H1,I1,q⟩
variable {tA tB':TT} {bC:List Expr}
def BL (t u:TT):TT:=fun σ H Q=>t σ H fun c H1=>if c=true then u σ H1 Q else Q false H1
def Ic (t u:TT):TT:=fun σ H Q=>t σ H fun c H1=>if c=true then Q true H1 else u σ H1 Q
def qV (t:TT):TT:=fun σ H Q=>t σ H fun c H1=>Q (!c) H1
theorem vv (ha:PT X a tA):PW X (.BoolOp .And [a] pos) tA:=by
 intro wh pins s σ H Q I h;refine isTrue_and (bq (ha pins s σ H Q I h) fun c s1 e=>?_)
 cases c with
 | true=>exact isTrue_and_nil e
 | false=>exact e
theorem zc (ha:PT X a tA):PW X (.BoolOp .Or [a] pos) tA:=by
 intro wh pins s σ H Q I h;refine isTrue_or (bq (ha pins s σ H Q I h) fun c s1 e=>?_)
 cases c with
 | false=>exact isTrue_or_nil e
 | true=>exact e
theorem zd (ha:PT X a tA) (hb:PW X (.BoolOp .And (b::bC) pos) tB'):PW X (.BoolOp .And (a::b::bC) pos) (BL tA tB'):=by
 intro wh pins s σ H Q I h;refine isTrue_and (bq (ha pins s σ H _ I h) fun c s1 ⟨H1,I1,q1⟩=>?_)
 cases c with
 | true=>exact hb wh pins s1 σ H1 Q I1 q1
 | false=>exact ⟨H1,I1,q1⟩
theorem Ca (ha:PT X a tA) (hb:PW X (.BoolOp .Or (b::bC) pos) tB'):PW X (.BoolOp .Or (a::b::bC) pos) (Ic tA tB'):=by
 intro wh pins s σ H Q I h;refine isTrue_or (bq (ha pins s σ H _ I h) fun c s1 ⟨H1,I1,q1⟩=>?_)
 cases c with
 | true=>exact ⟨H1,I1,q1⟩
 | false=>exact hb wh pins s1 σ H1 Q I1 q1
theorem Bl (ha:PT X a tA):PT X (.UnaryOp .Not a pos) (qV tA):=by
 intro pins s σ H Q I h;exact isTrue_not (ha pins s σ H (fun c H1=>Q (!c) H1) I h)
def qY (ta tb:TE):TE:=fun σ H Q=>ta σ H fun x H1=>∃c,x=.bl c/\if c=true then tb σ H1 Q else Q (.bl false) H1
def BJ (ta tb:TE):TE:=fun σ H Q=>ta σ H fun x H1=>∃c,x=.bl c/\if c=true then Q (.bl true) H1 else tb σ H1 Q
def qU (ta:TE):TE:=fun σ H Q=>ta σ H fun x H1=>∃c,x=.bl c/\Q (.bl (!c)) H1
theorem pe_one {op} {t:TE} (h:PE X a t):PE X (.BoolOp op [a] pos) t:=fun pins s σ H Q I hw=>BoolOp_one (h pins s σ H Q I hw)
theorem sv (ha:PE X a ta) (hb:PE X (.BoolOp .And (b::bC) pos) tb):PE X (.BoolOp .And (a::b::bC) pos) (qY ta tb):=by
 intro pins s σ H Q I h;refine BoolOp_and (bq (ha pins s σ H _ I h) fun v s1 ⟨x,H1,I1,r1,q1⟩=>?_)
 obtain ⟨c,rfl,q1⟩:=q1
 cases r1;refine wpAny_truthy_bool ?_
 cases c with
 | true=>exact hb pins s1 σ H1 Q I1 q1
 | false=>exact ⟨.bl false,H1,I1,rfl,q1⟩
theorem Cd (ha:PE X a ta) (hb:PE X (.BoolOp .Or (b::bC) pos) tb):PE X (.BoolOp .Or (a::b::bC) pos) (BJ ta tb):=by
 intro pins s σ H Q I h;refine BoolOp_or (bq (ha pins s σ H _ I h) fun v s1 ⟨x,H1,I1,r1,q1⟩=>?_)
 obtain ⟨c,rfl,q1⟩:=q1
 cases r1;refine wpAny_truthy_bool ?_
 cases c with
 | false=>exact hb pins s1 σ H1 Q I1 q1
 | true=>exact ⟨.bl true,H1,I1,rfl,q1⟩
theorem sq (ha:PE X a ta):PE X (.UnaryOp .Not a pos) (qU ta):=by
 intro pins s σ H Q I h;refine UnaryOp_ (bq (ha pins s σ H _ I h) fun v s1 ⟨x,H1,I1,r1,q1⟩=>?_)
 obtain ⟨c,rfl,q1⟩:=q1
 cases r1;exact not_of (wpAny_truthy_bool ⟨.bl (!c),H1,I1,rfl,q1⟩)
def Gd (t:TT) (ta tb:TE):TE:=fun σ H Q=>t σ H fun c H1=>if c=true then ta σ H1 Q else tb σ H1 Q
theorem kf {c:Expr} (hc:PT X c tA) (ha:PE X a ta) (hb:PE X b tb):PE X (.IfExp c a b pos) (Gd tA ta tb):=by
 intro pins s σ H Q I h;refine wpAny_IfExp (bq (hc pins s σ H _ I h) fun d s1 ⟨H1,I1,q1⟩=>?_)
 cases d with
 | true=>exact ha pins s1 σ H1 Q I1 q1
 | false=>exact hb pins s1 σ H1 Q I1 q1
end
def SqL (K:Fg) (H:Hp) (a:Addr) (xs:List V):Prop:=
 Rd H a (.lst xs) \/
  ∃(o:Obj) (its:Array Value) (n:Nat),K.lookup a=some o/\o.cls=.type "list"/\o.dict=none/\o.data=.seq its n/\its.size<=sizeLine/\Vals xs its.toList
def SqT (K:Fg) (H:Hp) (a:Addr) (xs:List V):Prop:=
 Rd H a (.tup xs) \/
  ∃(o:Obj) (its:Array Value) (n:Nat),K.lookup a=some o/\o.cls=.type "tuple"/\o.data=.seq its n/\its.size<=sizeLine/\Vals xs its.toList
def HG:Value->Option V
 | .none=>some .non
 | .bool b=>some (.bl b)
 | .int i _=>some (.int i)
 | .str x _=>some (.str x)
 | .bytes b _=>some (.byt b)
 | .float b _=>some (.flt b)
 | .ref a=>some (.ref a)
 | .type n=>some (.ty n)
 | _=>none
theorem RelV.abs {x:V} {u:Value} (r:RelV x u):HG u=some x:=by
 cases x with
 | non=>cases r;rfl
 | bl _=>cases r;rfl
 | int _=>obtain ⟨t,rfl⟩:=r;rfl
 | str _=>obtain ⟨t,rfl⟩:=r;rfl
 | byt _=>obtain ⟨t,rfl⟩:=r;rfl
 | flt _=>obtain ⟨t,rfl⟩:=r;rfl
 | ref _=>cases r;rfl
 | ty _=>cases r;rfl
theorem RelV.inj {x y:V} {u:Value} (r:RelV x u) (q:RelV y u):x=y:=Option.some.inj (r.abs.symm.trans q.abs)
theorem Vals.inj:∀{xs ys:List V} {us:List Value},Vals xs us->Vals ys us->xs=ys
 | _,_,_,.nil,.nil=>rfl
 | _,_,_,.cons r t,.cons r' t'=>by rw [r.inj r',Vals.inj t t']
section
variable {X:Cx} {pins:List (Addr×Obj)} {σ:St} {H:Hp} {s:Shared} {a:Addr} {xs ys:List V}
theorem SqL.of {K:Fg} (h:H a=some (.lst xs)):SqL K H a xs:=.inl (.inl h)
theorem SqT.of {K:Fg} (h:H a=some (.tup xs)):SqT K H a xs:=.inl (.inl h)
theorem Inv.list (I:Inv X pins σ H s) (h:SqL X.K H a xs):∃its:List Value,Vals xs its/\PlainL s.heap a its.toArray/\xs.length<=sizeLine:=by
 rcases h with h | ⟨o,its,n,hk,hc,hd,hs,hz,r⟩
 ·obtain ⟨z,its,n,r,e⟩:=h.ok I.hok
  exact ⟨its,r,⟨_,n,e,rfl,rfl,rfl⟩,z⟩
 ·refine ⟨its.toList,r,⟨o,n,I.kIn a o hk,hc,hd,by simpa using hs⟩,?_⟩
  have e:=r.length
  simp only [Array.length_toList] at e
  omega
theorem Inv.tuple (I:Inv X pins σ H s) (h:SqT X.K H a xs):∃its:List Value,Vals xs its/\IsTup s.heap a its.toArray/\xs.length<=sizeLine:=by
 rcases h with h | ⟨o,its,n,hk,hc,hs,hz,r⟩
 ·obtain ⟨z,its,r,p⟩:=h.ok I.hok
  exact ⟨its,r,p,z⟩
 ·refine ⟨its.toList,r,⟨o,I.kIn a o hk,hc,n,by simpa using hs⟩,?_⟩
  have e:=r.length
  simp only [Array.length_toList] at e
  omega
theorem Inv.list_inj (I:Inv X pins σ H s) (h:SqL X.K H a xs) (h':SqL X.K H a ys):xs=ys:=by
 obtain ⟨its,r,⟨o,n,e,_,_,d⟩,_⟩:=I.list h;obtain ⟨its',r',⟨o',n',e',_,_,d'⟩,_⟩:=I.list h'
 rw [e] at e';cases e'
 rw [d] at d';injection d' with d1 _
 have:its=its':=by simpa using congrArg Array.toList d1
 subst this;exact r.inj r'
theorem Inv.tuple_inj (I:Inv X pins σ H s) (h:SqT X.K H a xs) (h':SqT X.K H a ys):xs=ys:=by
 obtain ⟨its,r,⟨o,e,_,n,d⟩,_⟩:=I.tuple h;obtain ⟨its',r',⟨o',e',_,n',d'⟩,_⟩:=I.tuple h'
 rw [e] at e';cases e'
 rw [d] at d';injection d' with d1 _
 have:its=its':=by simpa using congrArg Array.toList d1
 subst this;exact r.inj r'
end
abbrev Cx.wish (X:Cx) (E:Value->Shared->Prop):Cx:={ X with xe:=E }
abbrev Cx.nox (X:Cx):Cx:=X.wish fun _ _=>False
theorem Cx.Ok.wish {X:Cx} (ok:X.Ok) (E:Value->Shared->Prop):(X.wish E).Ok:=
 ⟨ok.mod,ok.kind,ok.glob,ok.blt,ok.above,ok.inj,ok.has,ok.cab,ok.hd,ok.frames,ok.stk,ok.exf,ok.bs,ok.bsz,ok.noex,ok.exfs,ok.funs,ok.frf⟩
theorem Cx.Ok.unwish {X:Cx} {E:Value->Shared->Prop} (ok:(X.wish E).Ok):X.Ok:=
 ⟨ok.mod,ok.kind,ok.glob,ok.blt,ok.above,ok.inj,ok.has,ok.cab,ok.hd,ok.frames,ok.stk,ok.exf,ok.bs,ok.bsz,ok.noex,ok.exfs,ok.funs,ok.frf⟩
section
variable {X:Cx} {pins:List (Addr×Obj)} {σ:St} {H:Hp} {s:Shared} {E:Value->Shared->Prop}
theorem Inv.wish (I:Inv X pins σ H s) (E:Value->Shared->Prop):Inv (X.wish E) pins σ H s:=⟨I.ok.wish E,I.os,I.bare,I.base,I.loc,I.cell,I.free,I.freeC,I.pin,I.hok,I.len⟩
theorem Inv.unwish (I:Inv (X.wish E) pins σ H s):Inv X pins σ H s:=⟨I.ok.unwish,I.os,I.bare,I.base,I.loc,I.cell,I.free,I.freeC,I.pin,I.hok,I.len⟩
theorem SP.unwish {D:bS} {f:Flow} {s':Shared} (h:SP (X.wish E) pins D f s'):SP X pins D f s':=by
 cases f with
 | next=>obtain ⟨σ',H',I,q⟩:=h;exact ⟨σ',H',I.unwish,q⟩
 | brk=>obtain ⟨σ',H',I,q⟩:=h;exact ⟨σ',H',I.unwish,q⟩
 | cont=>obtain ⟨σ',H',I,q⟩:=h;exact ⟨σ',H',I.unwish,q⟩
 | ret u=>obtain ⟨v,σ',H',I,r,q⟩:=h;exact ⟨v,σ',H',I.unwish,r,q⟩
theorem PSs.nox {st:List Stmt} {t:TS} (h:PSs X.nox st t):PSs X st t:=fun pins s σ H D I hw=>
 wpAny_mono (h pins s σ H D (I.wish _) hw) (fun _ _ q=>q.unwish) fun _ _ z=>False.elim z
end
section
variable {X:Cx} {st:Stmt} {bC:List Stmt} {t u:TS} {e:Expr} {te:TE} {pos:Pos}
def iG:TS:=fun D σ H=>D.nx σ H
def cC (t u:TS):TS:=fun D σ H=>t { D with nx:=u D } σ H
theorem AU:PSs X [] iG:=fun _ _ σ H _ I h=>wpAny_execs_nil ⟨σ,H,I,h⟩
theorem jb (h1:PS X st t) (h2:PSs X bC u):PSs X (st::bC) (cC t u):=by
 intro pins s σ H D I h;refine wpAny_execs_cons (bq (h1 pins s σ H { D with nx:=u D } I h) fun f s1 q=>?_)
 cases f with
 | next=>
  obtain ⟨σ',H',I',q⟩:=q;exact h2 pins s1 σ' H' D I' q
 | ret v=>exact q
 | brk=>exact q
 | cont=>exact q
theorem gX (h1:PS X st t):PSs X [st] t:=by
 intro pins s σ H D I h;refine wpAny_execs_cons (bq (h1 pins s σ H D I h) fun f s1 q=>?_)
 cases f with
 | next=>exact wpAny_execs_nil q
 | ret v=>exact q
 | brk=>exact q
 | cont=>exact q
theorem Inv.quiet {pins:List (Addr×Obj)} {σ:St} {H:Hp} {s:Shared} (I:Inv X pins σ H s):interactive X.env=false:=by simp [interactive,I.ok.kind]
def cc (te:TE):TS:=fun D σ H=>te σ H fun _ H1=>D.nx σ H1
theorem yf (he:PE X e te) (hs:swapsWith e none pos.line X.env=pure false:=by rfl):PS X (.Expr e pos) (cc te):=by
 intro pins s σ H D I h;exact wpAny_Expr_any (bq (he pins s σ H _ I h) fun v s1 ⟨x,H1,I1,r1,q1⟩=>⟨σ,H1,I1,q1⟩) I.quiet hs
def mf (te:TE):TS:=fun D σ H=>te σ H D.rt
theorem xT (he:PE X e te):PS X (.Return (some e) pos) (mf te):=by
 intro pins s σ H D I h;exact wpAny_Return_some (bq (he pins s σ H _ I h) fun v s1 ⟨x,H1,I1,r1,q1⟩=>⟨x,σ,H1,I1,r1,q1⟩)
def oP (c:TT) (t u:TS):TS:=fun D σ H=>c σ H fun b H1=>if b=true then t D σ H1 else u D σ H1
theorem iL {c:Expr} {a b:List Stmt} {tc:TT} (hc:PT X c tc) (ha:PSs X a t) (hb:PSs X b u):PS X (.If c a b pos) (oP tc t u):=by
 intro pins s σ H D I h;refine wpAny_If (bq (hc pins s σ H _ I h) fun d s1 ⟨H1,I1,q1⟩=>?_)
 cases d with
 | true=>exact ha pins s1 σ H1 D I1 q1
 | false=>exact hb pins s1 σ H1 D I1 q1
end
abbrev TG:=V->St->Hp->(St->Hp->Prop)->Prop
abbrev Av:=List V->St->Hp->(St->Hp->Prop)->Prop
def PG (X:Cx) (target:Expr) (t:TG):Prop:=
 ∀(pins:List (Addr×Obj)) (s:Shared) (σ:St) (H:Hp) (v:V) (u:Value) (Q:St->Hp->Prop),Inv X pins σ H s->RelV v u->t v σ H Q ->
  wpAny (model X.prog X.w) X.A (assign target X.env u) (fun _ s'=>∃σ' H',Inv X pins σ' H' s'/\Q σ' H') X.xe s
def Eo (X:Cx) (ts:List Expr) (t:Av):Prop:=
 ∀(pins:List (Addr×Obj)) (s:Shared) (σ:St) (H:Hp) (vs:List V) (us:List Value) (Q:St->Hp->Prop),Inv X pins σ H s->Vals vs us->t vs σ H Q ->
  wpAny (model X.prog X.w) X.A (assignInOrder ((assignEach ts X.env).map (·.2)) us) (fun _ s'=>∃σ' H',Inv X pins σ' H' s'/\Q σ' H') X.xe s
abbrev HJ:=V->V->V->Hp->(Hp->Prop)->Prop
section
variable {X:Cx} {pos:Pos}
def gName (i:Nat):TG:=fun v σ H Q=>Q (σ.set i (some v)) H
theorem jI {i:Nat} {x:Str} (hN:X.N.Nodup) (hi:X.N[i]?=some x) (hx:Loc X.env.scope x) (hf:X.fn x=true\/X.env.scope.names.lookup x=some .local:=by first | exact .inl rfl | exact .inr rfl | assumption):PG X (.Name x pos) (gName i):=by
 intro pins s σ H v u Q I r h;exact wpAny_assign_Name (jW I hN hi hx r (fun s' I'=>⟨_,H,I',h⟩) hf)
def wc:Av:=fun vs σ H Q=>vs=[]/\Q σ H
def gM (t:TG) (u:Av):Av:=fun vs σ H Q=>∃v r,vs=v::r/\t v σ H fun σ' H'=>u r σ' H' Q
theorem Fn:Eo X [] wc:=by
 intro pins s σ H vs us Q I r h;obtain ⟨e,h⟩:=h;subst e
 cases r;exact assignInOrder_nil ⟨σ,H,I,h⟩
theorem AY {e:Expr} {es:List Expr} {t:TG} {u:Av} (h1:PG X e t) (h2:Eo X es u)
  (hs:(assignEach (e::es) X.env).map (·.2)=assign e X.env::(assignEach es X.env).map (·.2):=by rfl):Eo X (e::es) (gM t u):=by
 intro pins s σ H vs us Q I r h;obtain ⟨v,vr,e1,h⟩:=h;subst e1
 cases r with
 | cons r rr=>
  rw [hs];refine assignInOrder_cons (bq (h1 pins s σ H _ _ _ I r h) fun _ s1 ⟨σ1,H1,I1,q1⟩=>?_)
  exact h2 pins s1 σ1 H1 _ _ Q I1 rr q1
def wa (K:Fg) (n:Nat) (t:Av):TG:=fun v σ H Q=>∃a xs,v=.ref a/\SqT K H a xs/\xs.length=n/\t xs σ H Q
theorem Ey {es:List Expr} {k:Nat} {t:Av} {n:Nat} (hc:X.calm=true) (h:Eo X es t)
  (hn:(assignEach es X.env).length=n:=by rfl) (hst:(assignEach es X.env).findIdx? (·.1)=none:=by rfl):PG X (.Tuple es k pos) (wa X.K n t):=by
 intro pins s σ H v u Q I r hw;obtain ⟨a,xs,e1,hq,hl,hw⟩:=hw;subst e1
 cases r;obtain ⟨its,rv,ht,hz⟩:=I.tuple hq;refine assign_Tuple_tuple (I.ok.hd hc) ht (by simp [hn,<-hl,rv.length]) hst fun h' hx=>?_
 have I1:Inv X pins σ H { s with heap:=h' }:=I.kept (t':=s.toks) fun b o e=>hx b o (Nat.ne_of_lt (Heap.lt_size e)) e
 exact h pins _ σ H xs _ Q I1 (by simpa using rv) hw
def gSub (to ti:TE) (t:HJ):TG:=fun v σ H Q=>to σ H fun o H1=>ti σ H1 fun i H2=>t o i v H2 fun H3=>Q σ H3
def fH (te:TE) (g:TG):TS:=fun D σ H=>te σ H fun x H1=>g x σ H1 D.nx
theorem uj {i:Nat} {x:Str} {e:Expr} {te:TE} {pos':Pos} (hN:X.N.Nodup) (hi:X.N[i]?=some x) (hx:Loc X.env.scope x) (he:PE X e te) (hs:swapsWith e (some (.Name x pos')) pos.line X.env=pure false:=by rfl) (hf:X.fn x=true\/X.env.scope.names.lookup x=some .local:=by first | exact .inl rfl | exact .inr rfl | assumption) :
  PS X (.Assign [.Name x pos'] e pos) (fH te (gName i)):=by
 intro pins s σ H D I h;refine wpAny_Assign_Name (bq (he pins s σ H _ I h) fun v s1 ⟨y,H1,I1,r1,q1⟩=>?_) hs
 exact jW I1 hN hi hx r1 (fun s2 I2=>⟨_,H1,I2,q1⟩) hf
end
section
variable {X:Cx} {pos:Pos}
def EC (c:TT) (tb:TS):TS:=fun D σ H=>∃W:Nat->St->Hp->Prop,(∃m,W m σ H)/\∀m σ H,W m σ H ->
 c σ H fun b H1=>if b=true then ∃N:St->Hp->Prop,(∀σ' H',N σ' H'->∃m',m'<m/\W m' σ' H')/\tb { D with nx:=N,ct:=N,bk:=D.nx } σ H1 else D.nx σ H1
theorem kd {c:Expr} {body:List Stmt} {tc:TT} {tb:TS} (hp:PassesOwn (model X.prog X.w) X.A X.env X.xe) (hc:PT X c tc) (hb:PSs X body tb):PS X (.While c body [] pos) (EC tc tb):=by
 intro pins s σ H D I h;obtain ⟨W,⟨m0,w0⟩,turn⟩:=h;refine wpAny_While (codeAny_whileLoop (fun n s'=>∃σ' H',Inv X pins σ' H' s'/\W n σ' H') ?_ m0 ⟨σ,H,I,w0⟩)
 rintro n s1 ⟨σ1,H1,I1,w1⟩
 refine wpAny_passesOwn hp (bq (hc pins s1 σ1 H1 _ I1 (turn n σ1 H1 w1)) fun b s2 ⟨H2,I2,q2⟩=>?_)
 cases b with
 | true=>
  obtain ⟨N,hN,q2⟩:=q2;rw [if_pos rfl];refine wpAny_passesOwn hp (bq (hb pins s2 σ1 H2 _ I2 q2) fun f s3 q3=>?_)
  cases f with
  | next=>
   obtain ⟨σ3,H3,I3,n3⟩:=q3;obtain ⟨m',hm,w3⟩:=hN σ3 H3 n3;exact ⟨m',hm,σ3,H3,I3,w3⟩
  | cont=>
   obtain ⟨σ3,H3,I3,n3⟩:=q3;obtain ⟨m',hm,w3⟩:=hN σ3 H3 n3;exact ⟨m',hm,σ3,H3,I3,w3⟩
  | brk=>exact q3
  | ret v=>exact q3
 | false=>
  rw [if_neg Bool.false_ne_true];exact wpAny_execs_nil ⟨σ1,H2,I2,q2⟩
end
structure It where
 go:Nat->Hp->Prop
 yld:Nat->Hp->V->Hp->Prop
 stop:Nat->Hp->Prop
def iB (X:Cx) (pins:List (Addr×Obj)) (H:Hp) (b:Addr):Prop:=
 H b=none/\b≠X.env.locals/\b∉X.fs/\(b∈X.ex\/X.s₀.heap.objs.size<=b)/\(∀x c,X.env.cells.lookup x=some c->c≠b)/\∀p∈X.pn++pins,p.1≠b
theorem Inv.fpOk {X:Cx} {pins:List (Addr×Obj)} {σ:St} {H H':Hp} {s:Shared} {b:Addr} (I:Inv X pins σ H s) (hb:s.heap.objs.size<=b) (hn:H' b=none):iB X pins H' b:=by
 refine ⟨hn,Nat.ne_of_gt (Nat.lt_of_lt_of_le I.lt hb),I.nofs hb,.inr (Nat.le_trans I.sz hb),fun x c e z=>?_,fun p hp z=>?_⟩
 ·obtain ⟨v,q⟩:=I.cell x c e
  exact absurd (Nat.lt_of_lt_of_le q.lt (by rw [z];exact hb)) (Nat.lt_irrefl _)
 ·exact absurd (Nat.lt_of_lt_of_le (Heap.lt_size (I.pin p hp).1) (by rw [z];exact hb)) (Nat.lt_irrefl _)
structure ud (P:Program) (w:World) (K:Fg) (tg:Expr) (J:It) (fp:List Addr) (it:Addr) (tn:Nat->Heap->Prop):Prop where
 mem:it∈fp
 obj:∀i h,tn i h->∀b∈fp,∃o,h.get? b=some o/\∀v,o.data≠.cell v
 keep:∀i h h',tn i h->(∀b∈fp,∀o,h.get? b=some o->h'.get? b=some o)->tn i h'
 item:∀(X:Cx),X.prog=P->X.w=w->X.K=K->X.calm=true->∀(i:Nat) (pins:List (Addr×Obj)) (s:Shared) (σ:St) (H:Hp) (E:Value->Shared->Prop),Inv X pins σ H s->(∀b∈fp,iB X pins H b)->tn i s.heap->J.go i H ->
  wpAny (model P w) X.A (pyNext (.ref it)) (fun r s1=>∃u,r=some u /\
   wpAny (model P w) X.A (letOwnedTupleGo tg (.ref it) u) (fun _ s2=>∃x H',Inv X pins σ H' s2/\RelV x u/\J.yld i H x H'/\tn (i+1) s2.heap/\∀b∈fp,H' b=none) E s1) E s
 done:∀(X:Cx),X.prog=P->X.w=w->X.K=K->X.calm=true->∀(i:Nat) (pins:List (Addr×Obj)) (s:Shared) (σ:St) (H:Hp) (E:Value->Shared->Prop),Inv X pins σ H s->(∀b∈fp,iB X pins H b)->tn i s.heap->J.stop i H ->
  wpAny (model P w) X.A (pyNext (.ref it)) (fun r s1=>r=none/\Inv X pins σ H s1) E s
 self:∀(A:Around) (i:Nat) (s:Shared) (Q:Value->Shared->Prop) (E:Value->Shared->Prop),tn i s.heap->Q (.ref it) s->wpAny (model P w) A (pyIter (.ref it)) Q E s
abbrev TI:=St->Hp->(It->Hp->Prop)->Prop
def IW (X:Cx) (pins:List (Addr×Obj)) (σ:St) (tg:Expr) (R:It->Hp->Prop) (itv:Value) (s2:Shared):Prop:=
 ∃(it:Addr) (fp:List Addr) (tn:Nat->Heap->Prop) (J:It) (H':Hp),itv=.ref it/\Inv X pins σ H' s2/\ud X.prog X.w X.K tg J fp it tn/\tn 0 s2.heap/\(∀b∈fp,iB X pins H' b)/\R J H'
def PI (X:Cx) (tg iter:Expr) (wi:TI):Prop:=
 ∀(pins:List (Addr×Obj)) (s:Shared) (σ:St) (H:Hp) (R:It->Hp->Prop),Inv X pins σ H s->wi σ H R ->
  wpAny (model X.prog X.w) X.A (eval iter X.env) (fun v s1=>wpAny (model X.prog X.w) X.A (pyIter v) (IW X pins σ tg R) X.xe s1) X.xe s
theorem tm {M:Model} {A:Around} {E:Value->Shared->Prop} {s:Shared} {tg:Expr} {it:Addr} {u:Value} {o:Obj} {n:String} {vs:Array Value} {Q:Unit->Shared->Prop} (ho:s.heap.get? it=some o) (hc:o.cls=.type n) (hd:o.data=.fields vs)
  (hn:["enumerate", "zip", "dict_itemiterator", "dict_reverseitemiterator", "odict_iterator", "itertools.zip_longest", "itertools.pairwise"].contains n=false) (hQ:Q () s):wpAny M A (letOwnedTupleGo tg (.ref it) u) Q E s:=by
 unfold letOwnedTupleGo
 cases tg<;>first
  | exact wpAny_pure hQ
  | (cases u<;>first
      | exact wpAny_pure hQ
      | (refine wpAny_bind (wpAny_load ho ?_)
         rw [hc,hd];show wpAny M A (if (["enumerate", "zip", "dict_itemiterator", "dict_reverseitemiterator", "odict_iterator", "itertools.zip_longest", "itertools.pairwise"].contains n&&vs[0]?==some (rawInt _))=true then _ else _) Q E s
         rw [if_neg (by intro h;rw [hn,Bool.false_and] at h;cases h)]
         exact wpAny_pure hQ))
def AA (K:Fg) (a:Addr):It:=
 ⟨fun i H=>∃xs x,SqL K H a xs/\xs[i]?=some x,fun i H x H'=>H'=H/\∀xs,SqL K H a xs->xs[i]?=some x,fun i H=>∃xs,SqL K H a xs/\xs.length<=i⟩
def Dd (K:Fg) (a:Addr):It:=
 ⟨fun i H=>∃xs x,SqT K H a xs/\xs[i]?=some x,fun i H x H'=>H'=H/\∀xs,SqT K H a xs->xs[i]?=some x,fun i H=>∃xs,SqT K H a xs/\xs.length<=i⟩
def uA (lo:Int) (n:Nat):It:=⟨fun i _=>i<n,fun i H x H'=>H'=H/\x=.int (lo+i),fun i _=>n<=i⟩
theorem oM {P:Program} {w:World} {K:Fg} {tg:Expr} (a it:Addr):ud P w K tg (AA K a) [it] it (fun i h=>h.IsListIter it a i) where
 mem:=by simp
 obj:=fun i h st b hb=>by
  have e:b=it:=by simpa using hb
  subst e;obtain ⟨o,e,c,d⟩:=st;exact ⟨o,e,fun v z=>by rw [d] at z;cases z⟩
 keep:=fun i h h' st k=>st.at fun o e=>k it (by simp) o e
 item:=by
  intro X hP hw hK hc i pins s σ H E I hf st hg;subst hP hw hK;obtain ⟨xs,x,hq,hx⟩:=hg;obtain ⟨its,rv,p,hz⟩:=I.list hq;obtain ⟨u,hu,ru⟩:=rv.get hx;obtain ⟨f0,f1,f2,f3,f4,f5⟩:=hf it (by simp)
  refine wpAny_pyNext_list_item st p.isList (x:=u) (by simpa using hu) fun h' st' sb=>?_
  have I1:Inv X pins σ H { s with heap:=h' }:=I.turned (t':=s.toks) (fun b o hb e=>(sb.2 b hb).trans e) f0 f1 f3 f4 f5
  obtain ⟨o,e,c,d⟩:=id st'
  exact ⟨u,rfl,tm (s:={ s with heap:=h' }) e c d (by decide) ⟨x,H,I1,ru,⟨rfl,fun ys hy=>by rw [I.list_inj hy hq];exact hx⟩,st',fun b hb=>(hf b hb).1⟩⟩
 done:=by
  intro X hP hw hK hc i pins s σ H E I hf st hg;subst hP hw hK;obtain ⟨xs,hq,hx⟩:=hg;obtain ⟨its,rv,p,hz⟩:=I.list hq;obtain ⟨f0,f1,f2,f3,f4,f5⟩:=hf it (by simp)
  have hl:=rv.length
  exact wpAny_pyNext_list_end (I.ok.hd hc) st p.isList (by simp;omega) fun h' eb=>⟨rfl,I.turned (t':=s.toks) (fun b o hb e=>eb b o hb e) f0 f1 f3 f4 f5⟩
 self:=fun _ _ _ _ _ st h=>wpAny_pyIter_listiter st h
theorem md {P:Program} {w:World} {K:Fg} {tg:Expr} (a it:Addr):ud P w K tg (Dd K a) [it] it (fun i h=>h.IsTupleIter it a i) where
 mem:=by simp
 obj:=fun i h st b hb=>by
  have e:b=it:=by simpa using hb
  subst e;obtain ⟨o,e,c,d⟩:=st;exact ⟨o,e,fun v z=>by rw [d] at z;cases z⟩
 keep:=fun i h h' st k=>st.at fun o e=>k it (by simp) o e
 item:=by
  intro X hP hw hK hc i pins s σ H E I hf st hg;subst hP hw hK;obtain ⟨xs,x,hq,hx⟩:=hg;obtain ⟨its,rv,p,hz⟩:=I.tuple hq;obtain ⟨u,hu,ru⟩:=rv.get hx;obtain ⟨f0,f1,f2,f3,f4,f5⟩:=hf it (by simp)
  refine wpAny_pyNext_tuple_item st (show s.heap.IsTuple a its.toArray from p) (x:=u) (by simpa using hu) fun h' st' sb=>?_
  have I1:Inv X pins σ H { s with heap:=h' }:=I.turned (t':=s.toks) (fun b o hb e=>(sb.2 b hb).trans e) f0 f1 f3 f4 f5
  obtain ⟨o,e,c,d⟩:=id st'
  exact ⟨u,rfl,tm (s:={ s with heap:=h' }) e c d (by decide) ⟨x,H,I1,ru,⟨rfl,fun ys hy=>by rw [I.tuple_inj hy hq];exact hx⟩,st',fun b hb=>(hf b hb).1⟩⟩
 done:=by
  intro X hP hw hK hc i pins s σ H E I hf st hg;subst hP hw hK;obtain ⟨xs,hq,hx⟩:=hg;obtain ⟨its,rv,p,hz⟩:=I.tuple hq;obtain ⟨f0,f1,f2,f3,f4,f5⟩:=hf it (by simp)
  have hl:=rv.length
  exact wpAny_pyNext_tuple_end (I.ok.hd hc) st (show s.heap.IsTuple a its.toArray from p) (by simp;omega) fun h' eb=>⟨rfl,I.turned (t':=s.toks) (fun b o hb e=>eb b o hb e) f0 f1 f3 f4 f5⟩
 self:=fun _ _ _ _ _ st h=>wpAny_pyIter_tupleiter st h
theorem me {P:Program} {w:World} {K:Fg} {tg:Expr} (it:Addr) (lo:Int) (n:Nat):ud P w K tg (uA lo n) [it] it (fun i h=>IsRangeIter h it (lo+(i:Nat)*1) ((n:Int)-(i:Nat)) 1) where
 mem:=by simp
 obj:=fun i h st b hb=>by
  have e:b=it:=by simpa using hb
  subst e;exact ⟨_,st,fun v z=>by
   have z':Data.fields _=Data.cell v:=z
   cases z'⟩
 keep:=fun i h h' st k=>k it (by simp) _ st
 item:=by
  intro X hP hw hK hc i pins s σ H E I hf st hg;subst hP hw hK;obtain ⟨f0,f1,f2,f3,f4,f5⟩:=hf it (by simp)
  have W:=Walks.range (prog:=X.prog) (w:=X.w) (I.ok.hd hc) it lo 1 n
  refine W.item i s _ _ hg st fun v h' tk hv st' kk=>?_
  obtain ⟨t,rfl⟩:=hv;have I1:Inv X pins σ H { s with heap:=h',toks:=tk }:=I.turned (fun b o hb e=>kk b o (by simpa using hb) e) f0 f1 f3 f4 f5
  refine ⟨_,rfl,tm (s:={ s with heap:=h',toks:=tk }) (n := "range_iterator") st' rfl rfl (by decide) ⟨.int (lo+i),H,I1,⟨t,?_⟩,⟨rfl,rfl⟩,st',fun b hb=>(hf b hb).1⟩⟩
  rw [Int.mul_one]
 done:=by
  intro X hP hw hK hc i pins s σ H E I hf st hg;subst hP hw hK;obtain ⟨f0,f1,f2,f3,f4,f5⟩:=hf it (by simp)
  exact wpAny_pyNext_range_end (I.ok.hd hc) st (by have:n<=i:=hg;omega) fun h' eb=>⟨rfl,I.turned (t':=s.toks) (fun b o hb e=>eb b o hb e) f0 f1 f3 f4 f5⟩
 self:=fun _ _ _ _ _ st h=>wpAny_pyIter_rangeiter st h
section
variable {X:Cx} {tg:Expr}
def cU (K:Fg) (tl:TE):TI:=fun σ H R=>tl σ H fun x H1=>∃a,x=.ref a/\(∃xs,SqL K H1 a xs)/\R (AA K a) H1
def CG (K:Fg) (tl:TE):TI:=fun σ H R=>tl σ H fun x H1=>∃a,x=.ref a/\(∃xs,SqT K H1 a xs)/\R (Dd K a) H1
theorem xi {l:Expr} {tl:TE} (hl:PE X l tl):PI X tg l (cU X.K tl):=by
 intro pins s σ H R I h;refine bq (hl pins s σ H _ I h) fun v s1 ⟨x,H1,I1,r1,q1⟩=>?_
 obtain ⟨a,e,⟨xs,hq⟩,q⟩:=q1;subst e
 cases r1;obtain ⟨its,rv,p,hz⟩:=I1.list hq;refine wpAny_pyIter_list p.isList ?_
 refine ⟨s1.heap.objs.size,[s1.heap.objs.size],_,_,H1,rfl,I1.kept (t':=s1.toks) fun b o e=>Heap.get?_push_of_some _ e,oM a _,⟨_,Heap.get?_push_size _ rfl,rfl,rfl⟩,fun b hb=>?_,q⟩
 have e:b=s1.heap.objs.size:=by simpa using hb
 subst e;exact I1.fpOk (Nat.le_refl _) (I1.hok.fresh (Nat.le_refl _))
theorem zi {l:Expr} {tl:TE} (hl:PE X l tl):PI X tg l (CG X.K tl):=by
 intro pins s σ H R I h;refine bq (hl pins s σ H _ I h) fun v s1 ⟨x,H1,I1,r1,q1⟩=>?_
 obtain ⟨a,e,⟨xs,hq⟩,q⟩:=q1;subst e
 cases r1;obtain ⟨its,rv,p,hz⟩:=I1.tuple hq;refine wpAny_pyIter_tuple (show s1.heap.IsTuple a its.toArray from p) ?_
 refine ⟨s1.heap.objs.size,[s1.heap.objs.size],_,_,H1,rfl,I1.kept (t':=s1.toks) fun b o e=>Heap.get?_push_of_some _ e,md a _,⟨_,Heap.get?_push_size _ rfl,rfl,rfl⟩,fun b hb=>?_,q⟩
 have e:b=s1.heap.objs.size:=by simpa using hb
 subst e;exact I1.fpOk (Nat.le_refl _) (I1.hok.fresh (Nat.le_refl _))
theorem j9 {pins:List (Addr×Obj)} {σ:St} {H:Hp} {s:Shared} {R:It->Hp->Prop} {E:Value->Shared->Prop} {lo hi:Int} {t u v:Tok} {tk:Nat} (I:Inv X pins σ H s) (h1:-(2 ^ 62)<=lo) (h2:lo<2 ^ 62) (h3:-(2 ^ 62)<=hi) (h4:hi<2 ^ 62)
  (q:R (uA lo (hi-lo).toNat) H):wpAny (model X.prog X.w) X.A (pyIter (.ref s.heap.objs.size)) (IW X pins σ tg R) E { s with heap:=s.heap.push { cls:=.type "range",data:=.fields #[.int lo t,.int hi u,.int 1 v] },toks:=tk }:=by
 refine wpAny_pyIter_range (IsRange.new ..) (small_one h1 h2 h3 h4) ?_
 have I1:Inv X pins σ H { s with heap:=s.heap.push { cls:=.type "range",data:=.fields #[.int lo t,.int hi u,.int 1 v] },toks:=tk }:=I.kept fun b o e=>Heap.get?_push_of_some _ e
 refine ⟨(s.heap.push { cls:=.type "range",data:=.fields #[.int lo t,.int hi u,.int 1 v] }).objs.size,[(s.heap.push { cls:=.type "range",data:=.fields #[.int lo t,.int hi u,.int 1 v] }).objs.size],_,_,H,rfl,
  I1.kept (t':=tk) fun b o e=>Heap.get?_push_of_some _ e,me _ lo (hi-lo).toNat,?_,fun b hb=>?_,q⟩
 ·have e1:lo+((0:Nat):Int)*1=lo:=by simp
  have e2:(((hi-lo).toNat:Nat):Int)-((0:Nat):Int)=Builtin.Range.rangeSize lo hi 1:=by rw [rangeSize_one];split<;>omega
  show IsRangeIter _ _ (lo+((0:Nat):Int)*1) ((((hi-lo).toNat:Nat):Int)-((0:Nat):Int)) 1
  rw [e1,e2];exact Heap.get?_push_size _ rfl
 ·have e:b=(s.heap.push { cls:=.type "range",data:=.fields #[.int lo t,.int hi u,.int 1 v] }).objs.size:=by simpa using hb
  subst e;exact I1.fpOk (Nat.le_refl _) (I1.hok.fresh (Nat.le_refl _))
def fz (ta:TA):TI:=fun σ H R=>ta σ H fun vs H1=>∃j:Int,vs=[.int j]/\-(2 ^ 62)<=j/\j<2 ^ 62/\R (uA 0 j.toNat) H1
def xI (ta:TA):TI:=fun σ H R=>ta σ H fun vs H1=>∃i j:Int,vs=[.int i,.int j]/\(-(2 ^ 62)<=i/\i<2 ^ 62/\-(2 ^ 62)<=j/\j<2 ^ 62)/\R (uA i (j-i).toNat) H1
theorem Bz {a:Expr} {ta:TA} {p pos:Pos} (hg:Gl X "range") (hm:X.mg "range"=none) (ha:PA X [a] ta) (hs:starEach [a] X.env=[(false,eval a X.env)]:=by rfl):PI X tg (.Call (.Name "range" p) [a] [] pos) (fz ta):=by
 intro pins s σ H R I h;refine Call_ (xb I hg hm boot_range (PyProof.Rows.callWith_type1 (bq (ha pos pins s σ H _ I h) fun us s1 ⟨vs,H1,I1,r1,q1⟩=>?_) hs rfl))
 obtain ⟨j,e,q1,q2,q⟩:=q1;subst e
 cases r1 with
 | cons r rr=>
  cases rr;obtain ⟨t,rfl⟩:=r;exact call_range_1 (j9 I1 (by omega) (by omega) q1 q2 (by simpa using q))
theorem pk {a b:Expr} {ta:TA} {p pos:Pos} (hg:Gl X "range") (hm:X.mg "range"=none) (ha:PA X [a,b] ta) (hs:starEach [a,b] X.env=[(false,eval a X.env),(false,eval b X.env)]:=by rfl) (hs2:starEach [b] X.env=[(false,eval b X.env)]:=by rfl) :
  PI X tg (.Call (.Name "range" p) [a,b] [] pos) (xI ta):=by
 intro pins s σ H R I h;refine Call_ (xb I hg hm boot_range (PyProof.Rows.callWith_type1 (bq (ha pos pins s σ H _ I h) fun us s1 ⟨vs,H1,I1,r1,q1⟩=>?_) (by rw [hs,hs2]) (by rw [hs2];rfl)))
 obtain ⟨i,j,e,⟨q1,q2,q3,q4⟩,q⟩:=q1;subst e
 cases r1 with
 | cons r rr=>
  cases rr with
  | cons r' rr=>
   cases rr;obtain ⟨t,rfl⟩:=r;obtain ⟨t',rfl⟩:=r'
   exact call_range_2 (j9 I1 q1 q2 q3 q4 q)
def eC (wi:TI) (g:TG) (tb:TS):TS:=fun D σ H=>wi σ H fun J H1=>∃W:Nat->Nat->St->Hp->Prop,(∃m,W 0 m σ H1)/\∀i m σ H,W i m σ H ->
 (J.stop i H/\D.nx σ H)\/(J.go i H/\∃N:St->Hp->Prop,(∀σ' H',N σ' H'->∃m',m'<m/\W (i+1) m' σ' H')/\∀x H',J.yld i H x H'->g x σ H' fun σ2 H2=>tb { D with nx:=N,ct:=N,bk:=D.nx } σ2 H2)
def Bk (fp:List Addr) (h:Heap):List (Addr×Obj):=fp.filterMap fun b=>(h.get? b).map fun o=>(b,o)
theorem DL {fp:List Addr} {h:Heap} {b:Addr} {o:Obj} (hb:b∈fp) (e:h.get? b=some o):(b,o)∈Bk fp h:=List.mem_filterMap.mpr ⟨b,hb,by rw [e];rfl⟩
theorem pC {fp:List Addr} {h:Heap} {p:Addr×Obj} (hp:p∈Bk fp h):p.1∈fp/\h.get? p.1=some p.2:=by
 obtain ⟨b,hb,e⟩:=List.mem_filterMap.mp hp
 cases q:h.get? b with
 | none=>rw [q] at e;cases e
 | some o=>
  rw [q] at e;have e':(b,o)=p:=Option.some.inj e
  subst e'
  exact ⟨hb,q⟩
theorem Inv.pinned {pins:List (Addr×Obj)} {σ:St} {H:Hp} {s:Shared} {fp:List Addr} (I:Inv X pins σ H s) (hf:∀b∈fp,iB X pins H b) (ho:∀b∈fp,∃o,s.heap.get? b=some o/\∀v,o.data≠.cell v):Inv X (pins++Bk fp s.heap) σ H s:=
 I.pins_of fun p hp=>(List.mem_append.mp hp).elim (fun z=>I.pin p (mem_append_right _ z)) fun z=>by
  obtain ⟨hb,e⟩:=pC z;obtain ⟨f0,f1,f2,_⟩:=hf p.1 hb;obtain ⟨o,e',d⟩:=ho p.1 hb;rw [e] at e';cases e'
  exact ⟨e,f0,f1,f2,d⟩
theorem Inv.unpinned {pins pl:List (Addr×Obj)} {σ:St} {H:Hp} {s:Shared} (I:Inv X (pins++pl) σ H s):Inv X pins σ H s:=I.pins_of fun p hp=>I.pin p (mem_append_right _ (mem_append_left _ hp))
theorem qx {iter:Expr} {body:List Stmt} {wi:TI} {g:TG} {tb:TS} {pos:Pos} (hp:PassesOwn (model X.prog X.w) X.A X.env X.xe) (hc:X.calm=true) (hi:PI X tg iter wi) (hg:PG X tg g) (hb:PSs X body tb)
  (hs:∀x,foldedSetIterable iter X.env x=pure x:=by intro _;rfl):PS X (.For tg iter body [] pos) (eC wi g tb):=by
 intro pins s σ H D I h;refine wpAny_For (bq (hi pins s σ H _ I h) fun v s1 h1=>bq h1 fun itv s2 h2=>?_) hs
 obtain ⟨it,fp,tn,J,H2,e,I2,T,st2,f2,W,⟨m0,w0⟩,turn⟩:=h2;subst e;have stat:∀{H':Hp},(∀b∈fp,H' b=none)->∀b∈fp,iB X pins H' b:=fun hn b hb=>⟨hn b hb,(f2 b hb).2⟩
 refine codeAny_forLoop_any (fun n s'=>∃i σ' H',Inv X pins σ' H' s'/\tn i s'.heap/\(∀b∈fp,H' b=none)/\W i n σ' H') ?_ m0 ⟨0,σ,H2,I2,st2,fun b hb=>(f2 b hb).1,w0⟩
 rintro n s3 ⟨i,σ3,H3,I3,st3,fr3,w3⟩
 rcases turn i n σ3 H3 w3 with ⟨stop,qn⟩ | ⟨go,N,hN,step⟩
 ·refine wpAny_passesOwn hp (bq (T.done X rfl rfl rfl hc i pins s3 σ3 H3 X.xe I3 (stat fr3) st3 stop) fun r s4 ⟨hr,I4⟩=>?_)
  subst hr;exact wpAny_execs_nil ⟨σ3,H3,I4,qn⟩
 ·refine wpAny_passesOwn hp (bq (T.item X rfl rfl rfl hc i pins s3 σ3 H3 X.xe I3 (stat fr3) st3 go) fun r s4 ⟨u,hr,h4⟩=>?_)
  subst hr;refine wpAny_passesOwn hp (bq h4 fun _ s5 ⟨x,H5,I5,r5,y5,st5,fr5⟩=>?_)
  have I5':=I5.pinned (stat fr5) (T.obj _ _ st5)
  refine wpAny_passesOwn hp (bq (hg _ s5 σ3 H5 x u _ I5' r5 (step x H5 y5)) fun _ s6 ⟨σ6,H6,I6,q6⟩=>?_)
  refine wpAny_passesOwn hp (bq (hb _ s6 σ6 H6 _ I6 q6) fun f s7 q7=>?_)
  have again:∀{σ7:St} {H7:Hp},Inv X (pins++Bk fp s5.heap) σ7 H7 s7->N σ7 H7->∃m,m<n/\∃i σ' H',Inv X pins σ' H' s7/\tn i s7.heap/\(∀b∈fp,H' b=none)/\W i m σ' H':=fun {σ7 H7} I7 n7=>by
   obtain ⟨m',hm,w7⟩:=hN σ7 H7 n7;refine ⟨m',hm,i+1,σ7,H7,I7.unpinned,T.keep _ _ _ st5 fun b hb o e=>(I7.pin (b,o) (mem_append_right _ (mem_append_right _ (DL hb e)))).1,fun b hb=>?_,w7⟩
   obtain ⟨o,e,d⟩:=T.obj _ _ st5 b hb;exact (I7.pin (b,o) (mem_append_right _ (mem_append_right _ (DL hb e)))).2.1
  cases f with
  | next=>obtain ⟨σ7,H7,I7,n7⟩:=q7;exact again I7 n7
  | cont=>obtain ⟨σ7,H7,I7,n7⟩:=q7;exact again I7 n7
  | brk=>obtain ⟨σ7,H7,I7,q7⟩:=q7;exact ⟨σ7,H7,I7.unpinned,q7⟩
  | ret v=>obtain ⟨x7,σ7,H7,I7,r7,q7⟩:=q7;exact ⟨x7,σ7,H7,I7.unpinned,r7,q7⟩
end
theorem Dw {K:Fg} {a:Addr} {xs:List V} {g:TG} {tb:TS} {D:bS} {σ:St} {H:Hp} (Pv:Nat->St->Hp->Prop) (h0:Pv 0 σ H) (hl:∀i σ H,i<=xs.length->Pv i σ H->SqL K H a xs)
  (hs:∀i x σ H,xs[i]?=some x->Pv i σ H->g x σ H fun σ2 H2=>tb { D with nx:=Pv (i+1),ct:=Pv (i+1),bk:=D.nx } σ2 H2) (hd:∀σ H,Pv xs.length σ H->D.nx σ H) :
  ∃W:Nat->Nat->St->Hp->Prop,(∃m,W 0 m σ H)/\∀i m σ H,W i m σ H ->
   ((AA K a).stop i H/\D.nx σ H)\/((AA K a).go i H/\∃N:St->Hp->Prop,(∀σ' H',N σ' H'->∃m',m'<m/\W (i+1) m' σ' H')/\∀x H',(AA K a).yld i H x H'->g x σ H' fun σ2 H2=>tb { D with nx:=N,ct:=N,bk:=D.nx } σ2 H2):=by
 refine ⟨fun i m σ H=>m=xs.length-i/\i<=xs.length/\Pv i σ H,⟨xs.length,by simp,Nat.zero_le _,h0⟩,?_⟩
 rintro i m σ H ⟨rfl,hi,p⟩
 have q:=hl i σ H hi p
 by_cases hlt:i<xs.length
 ·refine .inr ⟨⟨xs,xs[i],q,by simp [hlt]⟩,Pv (i+1),fun σ' H' p'=>⟨xs.length-(i+1),by omega,rfl,hlt,p'⟩,fun x H' y=>?_⟩
  obtain ⟨e,y⟩:=y;subst e;exact hs i x σ _ (y xs q) p
 ·have e:i=xs.length:=by omega
  subst e;exact .inl ⟨⟨xs,q,Nat.le_refl _⟩,hd σ H p⟩
theorem wj {K:Fg} {a:Addr} {xs:List V} {g:TG} {tb:TS} {D:bS} {σ:St} {H:Hp} (Pv:Nat->St->Hp->Prop) (h0:Pv 0 σ H) (hl:∀i σ H,i<=xs.length->Pv i σ H->SqT K H a xs)
  (hs:∀i x σ H,xs[i]?=some x->Pv i σ H->g x σ H fun σ2 H2=>tb { D with nx:=Pv (i+1),ct:=Pv (i+1),bk:=D.nx } σ2 H2) (hd:∀σ H,Pv xs.length σ H->D.nx σ H) :
  ∃W:Nat->Nat->St->Hp->Prop,(∃m,W 0 m σ H)/\∀i m σ H,W i m σ H ->
   ((Dd K a).stop i H/\D.nx σ H)\/((Dd K a).go i H/\∃N:St->Hp->Prop,(∀σ' H',N σ' H'->∃m',m'<m/\W (i+1) m' σ' H')/\∀x H',(Dd K a).yld i H x H'->g x σ H' fun σ2 H2=>tb { D with nx:=N,ct:=N,bk:=D.nx } σ2 H2):=by
 refine ⟨fun i m σ H=>m=xs.length-i/\i<=xs.length/\Pv i σ H,⟨xs.length,by simp,Nat.zero_le _,h0⟩,?_⟩
 rintro i m σ H ⟨rfl,hi,p⟩
 have q:=hl i σ H hi p
 by_cases hlt:i<xs.length
 ·refine .inr ⟨⟨xs,xs[i],q,by simp [hlt]⟩,Pv (i+1),fun σ' H' p'=>⟨xs.length-(i+1),by omega,rfl,hlt,p'⟩,fun x H' y=>?_⟩
  obtain ⟨e,y⟩:=y;subst e;exact hs i x σ _ (y xs q) p
 ·have e:i=xs.length:=by omega
  subst e;exact .inl ⟨⟨xs,q,Nat.le_refl _⟩,hd σ H p⟩
theorem Fz {lo:Int} {n:Nat} {g:TG} {tb:TS} {D:bS} {σ:St} {H:Hp} (Pv:Nat->St->Hp->Prop) (h0:Pv 0 σ H)
  (hs:∀i σ H,i<n->Pv i σ H->g (.int (lo+i)) σ H fun σ2 H2=>tb { D with nx:=Pv (i+1),ct:=Pv (i+1),bk:=D.nx } σ2 H2) (hd:∀σ H,Pv n σ H->D.nx σ H) :
  ∃W:Nat->Nat->St->Hp->Prop,(∃m,W 0 m σ H)/\∀i m σ H,W i m σ H ->
   ((uA lo n).stop i H/\D.nx σ H)\/((uA lo n).go i H/\∃N:St->Hp->Prop,(∀σ' H',N σ' H'->∃m',m'<m/\W (i+1) m' σ' H')/\∀x H',(uA lo n).yld i H x H'->g x σ H' fun σ2 H2=>tb { D with nx:=N,ct:=N,bk:=D.nx } σ2 H2):=by
 refine ⟨fun i m σ H=>m=n-i/\i<=n/\Pv i σ H,⟨n,by simp,Nat.zero_le _,h0⟩,?_⟩
 rintro i m σ H ⟨rfl,hi,p⟩
 by_cases hlt:i<n
 ·refine .inr ⟨hlt,Pv (i+1),fun σ' H' p'=>⟨n-(i+1),by omega,rfl,hlt,p'⟩,fun x H' y=>?_⟩
  obtain ⟨e,y⟩:=y;subst e y;exact hs i σ _ hlt p
 ·have e:i=n:=by omega
  subst e;exact .inl ⟨Nat.le_refl _,hd σ H p⟩
abbrev R2:=V->V->Hp->VK->Prop
def OpR (X:Cx) (f:Value->Value->Sem Value) (r:R2):Prop:=
 ∀(pins:List (Addr×Obj)) (s:Shared) (σ:St) (H:Hp) (x y:V) (v u:Value) (Q:VK),Inv X pins σ H s->RelV x v->RelV y u->r x y H Q ->
  wpAny (model X.prog X.w) X.A (f v u) (EP X pins σ Q) X.xe s
def IT (X:Cx) (f:Value->Sem Value) (r:V->Hp->VK->Prop):Prop:=
 ∀(pins:List (Addr×Obj)) (s:Shared) (σ:St) (H:Hp) (x:V) (v:Value) (Q:VK),Inv X pins σ H s->RelV x v->r x H Q ->
  wpAny (model X.prog X.w) X.A (f v) (EP X pins σ Q) X.xe s
def CallR (X:Cx) (f:Value) (r:List V->Hp->VK->Prop):Prop:=
 ∀(pins:List (Addr×Obj)) (s:Shared) (σ:St) (H:Hp) (xs:List V) (us:List Value) (Q:VK),Inv X pins σ H s->Vals xs us->r xs H Q ->
  wpAny (model X.prog X.w) X.A (call f us) (EP X pins σ Q) X.xe s
def HI (X:Cx) (r:V->Hp->(Bool->Hp->Prop)->Prop):Prop:=
 ∀(pins:List (Addr×Obj)) (s:Shared) (σ:St) (H:Hp) (x:V) (v:Value) (Q:Bool->Hp->Prop),Inv X pins σ H s->RelV x v->r x H Q ->
  wpAny (model X.prog X.w) X.A (truthy v) (TP X pins σ Q) X.xe s
def gZ (r:R2) (ta tb:TE):TE:=fun σ H Q=>ta σ H fun x H1=>tb σ H1 fun y H2=>r x y H2 Q
def Gb (r:V->Hp->VK->Prop) (ta:TE):TE:=fun σ H Q=>ta σ H fun x H1=>r x H1 Q
def rI (C:Int->Int->Prop) (g:Int->Int->V):R2:=fun x y H Q=>∃i j,x=.int i/\y=.int j/\C i j/\Q (g i j) H
def mq (g:Int->Int->V):R2:=fun x y H Q=>∃i j,x=.int i/\y=.int j/\Q (g i j) H
def rU (g:Int->V):V->Hp->VK->Prop:=fun x H Q=>∃i,x=.int i/\Q (g i) H
section
variable {X:Cx} {a b c:Expr} {ta tb tc:TE} {pos:Pos}
theorem An (ha:PE X a ta) (hb:PE X b tb) {pins:List (Addr×Obj)} {s:Shared} {σ:St} {H:Hp} {R:V->V->Hp->Prop} (I:Inv X pins σ H s)
  (h:ta σ H fun x H1=>tb σ H1 fun y H2=>R x y H2) {Q:Value->Shared->Prop} {f:Value->Value->Sem Value}
  (hf:∀v u s2 x y H2,Inv X pins σ H2 s2->RelV x v->RelV y u->R x y H2->wpAny (model X.prog X.w) X.A (f v u) Q X.xe s2) :
  wpAny (model X.prog X.w) X.A (eval a X.env) (fun v s₁=>wpAny (model X.prog X.w) X.A (eval b X.env) (fun u s₂=>wpAny (model X.prog X.w) X.A (f v u) Q X.xe s₂) X.xe s₁) X.xe s:=by
 refine bq (ha pins s σ H _ I h) fun v s1 ⟨x,H1,I1,r1,q1⟩=>?_
 refine bq (hb pins s1 σ H1 _ I1 q1) fun u s2 ⟨y,H2,I2,r2,q2⟩=>?_
 exact hf v u s2 x y H2 I2 r1 r2 q2
theorem iM {op:Operator} {r:R2} (ho:OpR X (binaryOp op) r) (ha:PE X a ta) (hb:PE X b tb):PE X (.BinOp a op b pos) (gZ r ta tb):=by
 intro pins s σ H Q I h;exact wpAny_BinOp (An ha hb I h fun v u s2 x y H2 I2 rx ry q=>ho pins s2 σ H2 x y v u Q I2 rx ry q)
theorem Cc {op:UnaryOp} {r:V->Hp->VK->Prop} (ho:IT X (unaryOp op) r) (ha:PE X a ta):PE X (.UnaryOp op a pos) (Gb r ta):=by
 intro pins s σ H Q I h;exact UnaryOp_ (bq (ha pins s σ H _ I h) fun v s1 ⟨x,H1,I1,r1,q1⟩=>ho pins s1 σ H1 x v Q I1 r1 q1)
theorem D8 {f:Value->Value->Sem Value} {C:Int->Int->Prop} {g:Int->Int->Int}
  (rule:∀(i j:Int) (t u:Tok) (s:Shared) (Q:Value->Shared->Prop) (E:Value->Shared->Prop),C i j->Q (.int (g i j) s.toks) { s with toks:=s.toks+1 }->wpAny (model X.prog X.w) X.A (f (.int i t) (.int j u)) Q E s) :
  OpR X f (rI C fun i j=>.int (g i j)):=by
 intro pins s σ H x y v u Q I rx ry h;obtain ⟨i,j,rfl,rfl,hc,q⟩:=h;obtain ⟨t,rfl⟩:=rx;obtain ⟨t',rfl⟩:=ry;exact rule i j t t' s _ _ hc ⟨.int (g i j),H,I.tok _,⟨_,rfl⟩,q⟩
theorem Cf {f:Value->Value->Sem Value} {g:Int->Int->Int}
  (rule:∀(i j:Int) (t u:Tok) (s:Shared) (Q:Value->Shared->Prop) (E:Value->Shared->Prop),Q (.int (g i j) s.toks) { s with toks:=s.toks+1 }->wpAny (model X.prog X.w) X.A (f (.int i t) (.int j u)) Q E s) :
  OpR X f (mq fun i j=>.int (g i j)):=by
 intro pins s σ H x y v u Q I rx ry h;obtain ⟨i,j,rfl,rfl,q⟩:=h;obtain ⟨t,rfl⟩:=rx;obtain ⟨t',rfl⟩:=ry;exact rule i j t t' s _ _ ⟨.int (g i j),H,I.tok _,⟨_,rfl⟩,q⟩
theorem vH {f:Value->Value->Sem Value} {g:Int->Int->Bool}
  (rule:∀(i j:Int) (t u:Tok) (s:Shared) (Q:Value->Shared->Prop) (E:Value->Shared->Prop),Q (.bool (g i j)) s->wpAny (model X.prog X.w) X.A (f (.int i t) (.int j u)) Q E s) :
  OpR X f (mq fun i j=>.bl (g i j)):=by
 intro pins s σ H x y v u Q I rx ry h;obtain ⟨i,j,rfl,rfl,q⟩:=h;obtain ⟨t,rfl⟩:=rx;obtain ⟨t',rfl⟩:=ry;exact rule i j t t' s _ _ ⟨.bl (g i j),H,I,rfl,q⟩
def HW (i j:Int):Prop:=0<j/\j<1073741824
def HV (i j:Int):Prop:=0<=j/\j<=1000000/\i.natAbs<2 ^ 64
def CMul (i j:Int):Prop:=(-(2 ^ 64)<i/\i<2 ^ 64)\/(-(2 ^ 64)<j/\j<2 ^ 64)
theorem CMul.ok {i j:Int} (h:CMul i j):IntMulOk i j:=by
 rcases h with ⟨h1,h2⟩ | ⟨h1,h2⟩
 ·exact .of_left (intBits_le_64 h1 h2)
 ·exact .of_right (intBits_le_64 h1 h2)
theorem zq:OpR X (binaryOp .Add) (mq fun i j=>.int (i+j)):=Cf fun _ _ _ _ _ _ _ q=>add_int q
theorem zj:OpR X (binaryOp .Sub) (mq fun i j=>.int (i-j)):=Cf fun _ _ _ _ _ _ _ q=>sub_int q
theorem zm:OpR X (binaryOp .Mult) (rI CMul fun i j=>.int (i*j)):=D8 fun _ _ _ _ _ _ _ hc q=>mul_int q hc.ok
theorem vG:OpR X (binaryOp .FloorDiv) (rI HW fun i j=>.int (i / j)):=D8 fun i j _ _ _ _ _ hc q=>by
 have h1:(0:Int)<j:=hc.1
 have h2:j<1073741824:=hc.2
 exact floordiv_int (by omega) (by rw [Int.fdiv_eq_ediv_of_nonneg i (by omega)];exact q) (.inl (PyProof.noPylong_small (by omega)))
theorem zo:OpR X (binaryOp .Mod) (rI (fun _ j=>0<j) fun i j=>.int (i % j)):=D8 fun i j _ _ _ _ _ hc q=>by
 have h1:(0:Int)<j:=hc
 exact mod_int' (by omega) (by rw [Int.fmod_eq_emod_of_nonneg i (by omega)];exact q)
theorem zk:OpR X (binaryOp .Pow) (rI HV fun i j=>.int (i ^ j.toNat)):=D8 fun _ _ _ _ _ _ _ hc q=>pow_int_small hc.1 hc.2.1 hc.2.2 q
end
def scal:V->V->Bool
 | .non,.non=>true | .non,.int _=>true | .int _,.non=>true | .non,.bl _=>true | .bl _,.non=>true | .non,.str _=>true | .str _,.non=>true
 | .int _,.int _=>true | .bl _,.bl _=>true | .str _,.str _=>true | .byt _,.byt _=>true
 | .int _,.str _=>true | .str _,.int _=>true | .bl _,.str _=>true | .str _,.bl _=>true
 | _,_=>false
section
variable {X:Cx} {a b c:Expr} {ta tb tc:TE} {pos:Pos}
theorem tF {pins:List (Addr×Obj)} {σ:St} {H:Hp} {s:Shared} {Q:VK} {k k':Bool} (I:Inv X pins σ H s) (q:Q (.bl k) H) (e:k=k'):EP X pins σ Q (.bool k') s:=by
 subst e;exact ⟨.bl k,H,I,rfl,q⟩
theorem op_lt:OpR X (compareOp .Lt) (mq fun i j=>.bl (decide (i<j))):=vH fun _ _ _ _ _ _ _ q=>lt_int q
theorem Ce:OpR X (compareOp .LtE) (mq fun i j=>.bl (decide (i<=j))):=vH fun _ _ _ _ _ _ _ q=>le_int q
theorem xC:OpR X (compareOp .Gt) (mq fun i j=>.bl (decide (j<i))):=vH fun _ _ _ _ _ _ _ q=>gt_int q
theorem op_ge:OpR X (compareOp .GtE) (mq fun i j=>.bl (decide (j<=i))):=vH fun _ _ _ _ _ _ _ q=>ge_int q
theorem pw:OpR X (compareOp .Lt) (fun x y H Q=>∃i j,x=.str i/\y=.str j/\Q (.bl (decide (i.cps.toList<j.cps.toList))) H):=by
 intro pins s σ H x y v u Q I rx ry h;obtain ⟨i,j,rfl,rfl,q⟩:=h;obtain ⟨t,rfl⟩:=rx;obtain ⟨t',rfl⟩:=ry;exact lt_str (tF I q rfl)
theorem OpR.or {f:Value->Value->Sem Value} {r r':R2} (h:OpR X f r) (h':OpR X f r'):OpR X f (fun x y H Q=>r x y H Q\/r' x y H Q):=by
 intro pins s σ H x y v u Q I rx ry q;rcases q with q | q
 ·exact h pins s σ H x y v u Q I rx ry q
 ·exact h' pins s σ H x y v u Q I rx ry q
theorem Fm {op:CmpOp} {r:R2} (ho:OpR X (compareOp op) r) (ha:PE X a ta) (hb:PE X b tb) (hm:behindInMarks op b=false):PE X (.Compare a [op] [b] pos) (gZ r ta tb):=by
 intro pins s σ H Q I h;exact wpAny_Compare1 (An ha hb I h fun v u s2 x y H2 I2 rx ry q=>ho pins s2 σ H2 x y v u Q I2 rx ry q) hm
def qR (t:TE):TT:=fun σ H Q=>t σ H fun x H'=>∃k,x=.bl k/\Q k H'
theorem nK {op:CmpOp} {r:R2} (ho:OpR X (compareOp op) r) (ha:PE X a ta) (hb:PE X b tb) (hm:behindInMarks op b=false):PT X (.Compare a [op] [b] pos) (qR (gZ r ta tb)):=by
 intro pins s σ H Q I h;refine wpAny_isTrue_Compare1 (bq (ha pins s σ H _ I h) fun v s1 ⟨x,H1,I1,r1,q1⟩=>bq (hb pins s1 σ H1 _ I1 q1) fun u s2 ⟨y,H2,I2,r2,q2⟩=>
  bq (ho pins s2 σ H2 x y v u _ I2 r1 r2 q2) fun c s3 ⟨z,H3,I3,r3,k,e,q3⟩=>?_) hm
 subst e
 cases r3;exact wpAny_truthy_bool ⟨H3,I3,q3⟩
def qX (r r':R2) (ta tb tc:TE):TE:=fun σ H Q=>ta σ H fun x H1=>tb σ H1 fun y H2=>r x y H2 fun z H3=>∃k,z=.bl k /\
 (if k=true then tc σ H3 fun w' H4=>r' y w' H4 Q else Q (.bl false) H3)
theorem sr {op op':CmpOp} {r r':R2} (ho:OpR X (compareOp op) r) (ho':OpR X (compareOp op') r') (ha:PE X a ta) (hb:PE X b tb) (hc:PE X c tc)
  (hm:lastMarks [op,op'] [b,c]=false:=by with_unfolding_all rfl):PE X (.Compare a [op,op'] [b,c] pos) (qX r r' ta tb tc):=by
 intro pins s σ H Q I h;refine Compare_chain (bq (ha pins s σ H _ I h) fun v s1 ⟨x,H1,I1,r1,q1⟩=>chain_link (bq (hb pins s1 σ H1 _ I1 q1) fun u s2 ⟨y,H2,I2,r2,q2⟩=>
  bq (ho pins s2 σ H2 x y v u _ I2 r1 r2 q2) fun d s3 ⟨z,H3,I3,r3,k,e,q3⟩=>?_)) hm
 subst e
 cases r3;refine wpAny_truthy_bool ?_
 cases k with
 | false=>exact ite_ff ⟨.bl false,H3,I3,rfl,q3⟩
 | true=>exact ite_tt (chain_last (bq (hc pins s3 σ H3 _ I3 q3) fun w' s4 ⟨z',H4,I4,r4,q4⟩=>ho' pins s4 σ H4 y z' u w' Q I4 r2 r4 q4))
def Au (K:Fg) (x:V) (H:Hp) (k:Bool):Prop:=
 match x with
 | .non=>k=false
 | .bl b=>k=b
 | .int i=>k=(i != 0)
 | .str y=>y.length<=sizeLine/\k=((y.length:Int) != 0)
 | .byt y=>y.size<=sizeLine/\k=((y.size:Int) != 0)
 | .ref p=>(∃xs,SqL K H p xs/\k=!xs.isEmpty)\/(∃xs,SqT K H p xs/\k=!xs.isEmpty)\/∃kvs,H p=some (.dK kvs)/\k=!kvs.isEmpty
 | _=>False
theorem mI {κ:Type} {kvs:List (κ×V)} {vs:List (κ×Value)} (r:KV kvs vs):(!vs.isEmpty)=!kvs.isEmpty:=by
 cases r<;>rfl
theorem gJ {xs:List V} {its:List Value} (r:Vals xs its):(!its.toArray.isEmpty)=!xs.isEmpty:=by
 cases r<;>simp
theorem AJ:(sizeLine:Nat)<2 ^ 63:=by rw [sizeLine_eq];decide
theorem yu:HI X (fun x H Q=>∃k,Au X.K x H k/\Q k H):=by
 intro pins s σ H x v Q I rx h;obtain ⟨k,e,q⟩:=h;have hl:=AJ
 have hs:sizeLine=16777216:=sizeLine_eq
 cases x with
 | non=>
  cases rx;have e':k=false:=e
  subst e'
  exact truthy_none ⟨H,I,q⟩
 | bl b=>
  cases rx;have e':k=b:=e
  subst e'
  exact wpAny_truthy_bool ⟨H,I,q⟩
 | int i=>
  obtain ⟨t,rfl⟩:=rx;have e':k=(i != 0):=e
  subst e'
  exact PySem.P.truthy_int ⟨H,I,q⟩
 | str y=>
  obtain ⟨t,rfl⟩:=rx;obtain ⟨hy,e'⟩:y.length<=sizeLine/\k=((y.length:Int) != 0):=e
  subst e'
  exact PySem.P.truthy_str (by omega) ⟨H,I.tok _,q⟩
 | byt y=>
  obtain ⟨t,rfl⟩:=rx;obtain ⟨hy,e'⟩:y.size<=sizeLine/\k=((y.size:Int) != 0):=e
  subst e'
  exact PySem.W.truthy_bytes (by omega) ⟨H,I.tok _,q⟩
 | ref p=>
  cases rx;have e':(∃xs,SqL X.K H p xs/\k=!xs.isEmpty)\/(∃xs,SqT X.K H p xs/\k=!xs.isEmpty)\/∃kvs,H p=some (.dK kvs)/\k=!kvs.isEmpty:=e
  rcases e' with ⟨xs,hx,e'⟩ | ⟨xs,hx,e'⟩ | ⟨kvs,hx,e'⟩
  ·subst e'
   obtain ⟨its,r,pl,hz⟩:=I.list hx;have hlen:=r.length
   exact wpAny_truthy_list pl.isList (by simp only [size_toArray];omega) ⟨H,I.tok _,by rw [gJ r];exact q⟩
  ·subst e'
   obtain ⟨its,r,pl,hz⟩:=I.tuple hx;have hlen:=r.length
   exact truthy_tuple pl (by simp only [size_toArray];omega) ⟨H,I.tok _,by rw [gJ r];exact q⟩
  ·subst e'
   obtain ⟨hz,hS,vs,r,m⟩:kvs.length<=sizeLine/\(p==sysModules)=false/\∃vs,KV kvs vs/\s.heap.DictOf (jH X.prog X.w) p vs:=I.hok p _ hx
   have hlen:kvs.length=vs.length:=Paired.length r
   exact wpAny_truthy_dict hS m (by omega) ⟨H,I.tok _,by rw [mI r];exact q⟩
 | _=>exact (show False from e).elim
theorem rT (ha:PE X a ta) (he:∀whole,isTrue a X.env whole=(do let v <-whole;standAt a.pos;holding [v] (truthy v))) :
  PT X a (fun σ H Q=>ta σ H fun x H'=>∃k,Au X.K x H' k/\Q k H'):=by
 intro pins s σ H Q I h;exact isTrue_plain (bq (ha pins s σ H _ I h) fun v s1 ⟨x,H1,I1,r1,q1⟩=>yu pins s1 σ H1 x v Q I1 r1 q1) (he _)
theorem vals1 {x:V} {us:List Value} (r:Vals [x] us):∃u,us=[u]/\RelV x u:=by
 cases r with
 | cons r1 r2=>cases r2;exact ⟨_,rfl,r1⟩
theorem qj:CallR X (.type "int") (fun xs H Q=>(∃i,xs=[.int i]/\Q (.int i) H)\/∃k,xs=[.bl k]/\Q (.int (if k then 1 else 0)) H):=by
 intro pins s σ H xs us Q I r h;rcases h with ⟨i,rfl,q⟩ | ⟨k,rfl,q⟩
 ·obtain ⟨u,rfl,t,rfl⟩:=vals1 r
  exact call_int_int ⟨.int i,H,I,⟨_,rfl⟩,q⟩
 ·obtain ⟨u,rfl,r1⟩:=vals1 r
  cases r1;exact call_int_bool ⟨.int (if k then 1 else 0),H,I.tok _,⟨_,rfl⟩,q⟩
end
structure ObjM (h:Heap) (x dx C:Addr) (mA:Str->Option Value):Prop where
 obj:h.get? x=some (PySem.W.instObj C dx)
 ns:h.Ns1 dx mA
 ne:dx≠x
theorem pK {h:Heap} {dx:Addr} {mA:Str->Option Value} (n:h.Ns1 dx mA):∃od,h.get? dx=some od/\∀name,PySem.W.lookIn name od=some (mA name):=by
 obtain ⟨o,es,ep,ho,hd,hk,_,hm⟩:=n;refine ⟨o,ho,fun name=>?_⟩
 have e:=hm name
 unfold nsFind findBy at e;rw [<-Array.find?_toList] at e;unfold PySem.W.lookIn;rw [hd];dsimp only;split
 ·rename_i y q
  rw [q] at e;exact congrArg some e
 ·rename_i q
  rw [q] at e;have a:es.toList.any (·.refKey)=false:=by
   rw [List.any_eq_false];intro y hy;obtain ⟨z,t,hkey⟩:=hk y (Array.mem_toList_iff.mp hy);simp [DictEntry.refKey,hkey]
  have a':¬es.toList.any (·.refKey)=true:=by rw [a];exact Bool.false_ne_true
  rw [if_neg a'];exact congrArg some e
theorem ObjM.look {h:Heap} {x dx C:Addr} {mA:Str->Option Value} (I:ObjM h x dx C mA):∃od,PySem.W.InstAt h x (PySem.W.instObj C dx) C (some od)/\∀name,PySem.W.lookIn name od=some (mA name):=
 let ⟨od,ho,hl⟩:=pK I.ns
 ⟨od,⟨I.obj,rfl,rfl,ho⟩,hl⟩
theorem RelO.some_of {v:V} {o:Option Value} (r:RelO (some v) o):∃u,o=some u/\RelV v u:=by
 cases o with
 | none=>exact (show False from r).elim
 | some u=>exact ⟨u,rfl,r⟩
section
variable {P:Program} {w:World} {H H':Hp} {h h':Heap} {a C dx:Addr} {fs fs':List (Str×V)}
theorem vW (hok:HOk P w H h) (e:H a=some (.ins C dx fs)):∃mA,ObjM h a dx C mA/\(∀f,RelO (fs.lookup f) (mA f))/\PySem.Within mA (fs.map (·.1))/\fs.length<=1000/\H dx=some (.own a):=by
 obtain ⟨d,z,ne,ob,mA,n,r,q⟩:=(show ObjOk P w H h a (.ins C dx fs) from hok a _ e);exact ⟨mA,⟨ob,n,ne⟩,r,q,z,d⟩
end
structure Cls (K:Fg) (C:Addr):Prop where
 pg:PySem.W.plainGet K C Str.empty=true
 hd:PySem.W.hasDictIn K C=true
 po:PySem.W.plainOver K C=true
 sa:PySem.W.findIn K (.ref C) "__setattr__"=some (some (.builtin "object.__setattr__"))
theorem Cls.get {K:Fg} {C:Addr} (c:Cls K C) (f:Str):PySem.W.plainGet K C f=true:=c.pg
structure Con (K:Fg) (C:Addr) (f:Str) (v:V) (u:Value):Prop where
 at_:PySem.W.findIn K (.ref C) f=some (some u)
 rel:RelV v u
 get:PySem.W.specialIn K u "__get__"=some none
 cp:PySem.W.copiedNames.contains f=false
structure Jx (K:Fg) (C:Addr) (m:Str) (f:Addr):Prop where
 at_:PySem.W.findIn K (.ref C) m=some (some (.ref f))
 fn:PySem.W.isFn K (.ref f)=true
 kp:PySem.W.keepIn K (.ref f)=true
section
variable {X:Cx} {pins:List (Addr×Obj)} {σ:St} {H:Hp} {s:Shared} {A:Around} {E:Value->Shared->Prop} {Q:Value->Shared->Prop} {c:Value} {b:Bool}
inductive fT (K:Fg) (H:Hp):V->Value->Prop where
 | non:fT K H .non (.type "NoneType")
 | bl (x:Bool):fT K H (.bl x) (.type "bool")
 | int (i:Int):fT K H (.int i) (.type "int")
 | str (x:Str):fT K H (.str x) (.type "str")
 | flt (x:UInt64):fT K H (.flt x) (.type "float")
 | lst {a:Addr} {xs:List V} (e:H a=some (.lst xs)):fT K H (.ref a) (.type "list")
 | frz {a:Addr} {o:Obj} {xs:List V} (e:H a=some (.frz o (.lst xs))):fT K H (.ref a) (.type "list")
 | tup {a:Addr} {xs:List V} (e:H a=some (.tup xs)):fT K H (.ref a) (.type "tuple")
 | dK {a:Addr} {kvs:List (dv×V)} (e:H a=some (.dK kvs)):fT K H (.ref a) (.type "dict")
 | dT {a:Addr} {kvs:List (List dv×V)} (e:H a=some (.dT kvs)):fT K H (.ref a) (.type "dict")
 | ins {a C dx:Addr} {fs:List (Str×V)} (e:H a=some (.ins C dx fs)) (cl:Cls K C) (ha:PySem.W.findIn K (.ref C) "__class__"=some (some (.builtin "object.__class__")))
   (hn:PySem.W.specialIn K (.builtin "object.__class__") "__get__"=some (some (.builtin "getset_descriptor.__get__"))) (htk:PySem.W.takesIn K (.builtin "object.__class__")=some true)
   (hm:PySem.W.mroIn K C (.type "object")=some true):fT K H (.ref a) (.ref C)
theorem yk {x:V} {u t:Value} (I:Inv X pins σ H s) (rx:RelV x u) (ty:fT X.K H x t) (e:PySem.W.kitOne X.K t c=some b) (h:∀tk,Q (.bool b) { s with toks:=tk }) :
  wpAny (model X.prog X.w) A (call (.builtin "isinstance") [u,c]) Q E s:=by
 cases ty with
 | non=>cases (show u=Value.none from rx);exact PySem.W.kia_one PySem.W.kitx_none I.kIn True.intro e nofun h
 | bl y=>cases (show u=Value.bool y from rx);exact PySem.W.kia_one PySem.W.kitx_bool I.kIn True.intro e nofun h
 | int i=>obtain ⟨t,q⟩:=(show ∃t,u=Value.int i t from rx);cases q;exact PySem.W.kia_one PySem.W.kitx_int I.kIn True.intro e nofun h
 | str y=>obtain ⟨t,q⟩:=(show ∃t,u=Value.str y t from rx);cases q;exact PySem.W.kia_one PySem.W.kitx_str I.kIn True.intro e nofun h
 | flt y=>obtain ⟨t,q⟩:=(show ∃t,u=Value.float y t from rx);cases q;exact PySem.W.kia_one PySem.W.kitx_float I.kIn True.intro e nofun h
 | @lst a xs ea=>
  cases (show u=Value.ref a from rx)
  obtain ⟨_,_,n,_,h1⟩:=(show ObjOk X.prog X.w H s.heap a (.lst xs) from I.hok a _ ea);exact PySem.W.kia_one PySem.W.kitx_list I.kIn ⟨_,h1,rfl⟩ e nofun h
 | @frz a ob xs ea=>
  cases (show u=Value.ref a from rx)
  obtain ⟨_,_,_,n,_,h1⟩:=(show ObjOk X.prog X.w H s.heap a (.frz ob (.lst xs)) from I.hok a _ ea);exact PySem.W.kia_one PySem.W.kitx_list I.kIn ⟨_,h1,rfl⟩ e nofun h
 | @tup a xs ea=>
  cases (show u=Value.ref a from rx)
  obtain ⟨_,_,_,p⟩:=(show ObjOk X.prog X.w H s.heap a (.tup xs) from I.hok a _ ea);obtain ⟨o,h1,h2,_⟩:=p;exact PySem.W.kia_one PySem.W.kitx_tuple I.kIn ⟨o,h1,h2⟩ e nofun h
 | @dK a kvs ea=>
  cases (show u=Value.ref a from rx)
  obtain ⟨_,_,vs,_,p⟩:=(show ObjOk X.prog X.w H s.heap a (.dK kvs) from I.hok a _ ea);obtain ⟨o,es,ep,h1,h2,_⟩:=p;exact PySem.W.kia_one PySem.W.kitx_dict I.kIn ⟨o,h1,h2.1⟩ e nofun h
 | @dT a kvs ea=>
  cases (show u=Value.ref a from rx)
  obtain ⟨_,_,xs,_,o,es,ep,h1,h2,_⟩:=(show ObjOk X.prog X.w H s.heap a (.dT kvs) from I.hok a _ ea);exact PySem.W.kia_one PySem.W.kitx_dict I.kIn ⟨o,h1,h2.1⟩ e nofun h
 | @ins a C dx fs ea cl ha hn htk hm=>
  cases (show u=Value.ref a from rx)
  obtain ⟨mA,O,_⟩:=vW I.hok ea;obtain ⟨od,J,_⟩:=O.look;exact PySem.W.kia_one (PySem.W.kitx_own (cl.get _) cl.hd ha hn htk hm) I.kIn J e nofun h
end
structure Room (k:Nat) (A:Around):Prop where
 hd:A.handled=none
 dp:A.depth+3*k+5<recursionLimit
 un:A.units+16*k+200<cLine
 gd:A.guards=some []
theorem Room.mono {j k:Nat} {A:Around} (r:Room k A) (h:j<=k):Room j A:=⟨r.hd,by have:=r.dp;omega,by have:=r.un;omega,r.gd⟩
theorem Room.deeper {k:Nat} {A:Around} (r:Room (k+1) A) (env:Env):Room k (A.deeper env):=
 ⟨r.hd,by have:=r.dp;show A.depth+1+3*k+5<_;omega,by have:=r.un;show A.units+3+16*k+200<_;omega,r.gd⟩
theorem Room.depth {k:Nat} {A:Around} (r:Room k A):A.depth<recursionLimit:=by have:=r.dp;omega
theorem Room.units {k:Nat} {A:Around} (r:Room k A):A.units+64<cLine:=by have:=r.un;omega
def bF:TA:=fun _ H Q=>Q [] H
def aT (ta:TE) (tr:TA):TA:=fun σ H Q=>ta σ H fun x H1=>tr σ H1 fun xs H2=>Q (x::xs) H2
section
variable {X:Cx} {e:Expr} {es:List Expr} {te:TE} {t:TA} {pos:Pos}
theorem fU:PA X [] bF:=fun _ _ _ _ H Q I h=>Calls.spliced_nil ⟨[],H,I,.nil,h⟩
theorem dP (ha:PE X e te) (hr:PA X es t) (hs:starEach (e::es) X.env=(false,eval e X.env)::starEach es X.env:=by rfl):PA X (e::es) (aT te t):=by
 intro pos pins s σ H Q I h;rw [hs];show wpAny _ _ (spliced ((false,eval e X.env)::backTo pos (starEach es X.env))) _ _ s
 refine Calls.spliced_cons (bq (ha pins s σ H _ I h) fun u s1 ⟨x,H1,I1,r1,q1⟩=>?_)
 exact bq (hr pos pins s1 σ H1 _ I1 q1) fun us s2 ⟨xs,H2,I2,r2,q2⟩=>⟨x::xs,H2,I2,.cons r1 r2,q2⟩
def uT (t:TA):TE:=fun σ H Q=>t σ H fun xs H1=>xs.length<=sizeLine/\∀p,H1 p=none->Q (.ref p) (upd H1 p (.tup xs))
def oO (t:TA):TE:=fun σ H Q=>t σ H fun xs H1=>xs.length<=sizeLine/\∀p,H1 p=none->Q (.ref p) (upd H1 p (.lst xs))
theorem Dl {x1} (h:PA X es t):PE X (.Tuple es x1 pos) (uT t):=by
 intro pins s σ H Q I hq;refine wpAny_Tuple_spliced (bq (h pos pins s σ H _ I hq) fun us s1 ⟨xs,H1,I1,r,z,q⟩=>⟨by rw [<-r.length];exact z,?_⟩)
 have hf:H1 s1.heap.objs.size=none:=I1.hok.fresh (Nat.le_refl _)
 refine ⟨.ref s1.heap.objs.size,upd H1 s1.heap.objs.size (.tup xs),I1.laid (t':=s1.toks) (fun b u e=>Heap.get?_push_of_some _ e) (Nat.le_refl _) ?_,rfl,q _ hf⟩
 exact ⟨z,us,r,⟨_,Heap.get?_push_size _ rfl,rfl,_,rfl⟩⟩
theorem Ex (h:PA X es t):PE X (.List es pos) (oO t):=by
 intro pins s σ H Q I hq;refine wpAny_List_spliced (bq (h pos pins s σ H _ I hq) fun us s1 ⟨xs,H1,I1,r,z,q⟩=>⟨by rw [<-r.length];exact z,?_⟩)
 have hf:H1 s1.heap.objs.size=none:=I1.hok.fresh (Nat.le_refl _)
 refine ⟨.ref s1.heap.objs.size,upd H1 s1.heap.objs.size (.lst xs),I1.laid (t':=s1.toks) (fun b u e=>Heap.get?_push_of_some _ e) (Nat.le_refl _) ?_,rfl,q _ hf⟩
 exact ⟨z,us,0,r,Heap.get?_push_size _ rfl⟩
end
abbrev Sp:=List V->Hp->VK->XK->Prop
abbrev uh:=List Env->Hp->Shared->XK->Value->Shared->Prop
structure wX (P:Program) (w:World) (K:Fg) (mg:Str->Option Value) (base:Heap) (A:Around) (outer:List Env) (s:Shared) (H:Hp):Prop where
 frames:A.frames=some outer
 mod:Mod K mg base
 bs:∀b o,base.get? b=some o->s.heap.get? b=some o/\H b=none
 bsz:base.objs.size<=s.heap.objs.size
 funs:s.heap.FunFrames base outer
 frf:∀b∈tw outer,H b=none
 hok:HOk P w H s.heap
 bare:AllBare s.gens
def CE (outer:List Env) (P:Program) (w:World) (H:Hp) (s:Shared) (Q:VK) (u:Value) (s':Shared):Prop:=
 ∃v H',s'.os=s.os/\AllBare s'.gens/\Un (tw outer) [] H H' s.heap s'.heap/\HOk P w H' s'.heap/\RelV v u/\Q v H'
def CR (CX:uh) (outer:List Env) (P:Program) (w:World) (H:Hp) (s:Shared) (Q:VK) (E:XK) (r:Result) (s':Shared):Prop:=
 match r with
 | .ok (.ret u)=>CE outer P w H s Q u s'
 | .ok _=>False
 | .error e=>CX outer H s E e s'
structure cE (P:Program) (w:World) (K:Fg) (mg:Str->Option Value) (base:Heap) (CX:uh) (k:Nat) (f:Addr) (fd:FuncData) (ps:List Str) (sp:Sp):Prop where
 len:∀vs H Q E,sp vs H Q E->vs.length=ps.length
 run:∀(A:Around) (outer:List Env) (s:Shared) (H:Hp) (args:Args) (us:List Value) (vs:List V) (Q:VK) (E:XK),Room k A->wX P w K mg base A outer s H->BindsTo s fd args (ps.zip us)->Vals vs us->sp vs H Q E ->
  codeAny (model P w) A (.call (.ref f) args) (CR CX outer P w H s Q E) s
section
variable {X:Cx} {pins:List (Addr×Obj)} {σ:St} {H:Hp} {s s':Shared}
theorem Inv.env0 (I:Inv X pins σ H s):wX X.prog X.w X.K X.mg X.base X.A X.stack s H:=
 ⟨I.ok.frames,I.ok.mod,I.bs,Nat.le_trans I.ok.bsz I.sz,I.stack,I.stkFree,I.hok,I.bare⟩
theorem Inv.after {Q:VK} {u:Value} (I:Inv X pins σ H s) (h:CE X.stack X.prog X.w H s Q u s'):EP X pins σ Q u s':=by
 obtain ⟨v,H',os,bare,un,hok,r,q⟩:=h;obtain ⟨hh,g,d,t,os'⟩:=s'
 obtain rfl:os'=s.os:=os
 exact ⟨v,H',I.call (h':=hh) (g':=g) (d':=d) (t':=t) (ch:=[]) un hok bare (fun b z=>absurd z (by simp)),r,q⟩
end
def gh (sp:Sp) (dvs:List V) (E:XK) (t:TA):TE:=fun σ H Q=>t σ H fun vs H1=>sp (vs++dvs) H1 Q E
def Binds (K:Fg) (fd:FuncData) (ps:List Str) (ds:List Value):Prop:=
 ∀(s:Shared) (us:List Value),K.In s.heap->(us++ds).length=ps.length->BindsTo s fd ⟨us,[]⟩ (ps.zip (us++ds))
theorem Binds.all {K:Fg} {fd:FuncData} {ps:List Str} (h:∀us:List Value,us.length=ps.length->bindArgs fd ⟨us,[]⟩=pure (ps.zip us)):Binds K fd ps []:=fun s us _ hl=>by
 rw [append_nil] at hl ⊢;exact .of_eq (h us hl)
def Eu (CX:uh) (X:Cx) (E:XK):Prop:=∀(pins:List (Addr×Obj)) (σ:St) (H:Hp) (s:Shared) (e:Value) (s':Shared),Inv X pins σ H s->CX X.stack H s E e s'->X.xe e s'
section
variable {X:Cx} {CX:uh} {k:Nat} {f C:Addr} {fd:FuncData} {ps:List Str} {sp:Sp} {dvs:List V} {ds:List Value} {E:XK} {x m:Str} {p pos apos:Pos} {e o:Expr} {es:List Expr} {ta:TE} {t:TA}
theorem yD {pins:List (Addr×Obj)} {σ:St} {H:Hp} {s:Shared} {Q:VK} {us:List Value} {vs:List V} (F:cE X.prog X.w X.K X.mg X.base CX k f fd ps sp) (hr:Room k X.A) (hb:Binds X.K fd ps ds) (hd:Vals dvs ds) (hx:Eu CX X E)
  (I:Inv X pins σ H s) (r:Vals vs us) (h:sp (vs++dvs) H Q E):wpAny (model X.prog X.w) X.A (call (.ref f) us) (EP X pins σ Q) X.xe s:=by
 have r2:Vals (vs++dvs) (us++ds):=r.append hd
 have hl:(us++ds).length=ps.length:=by rw [<-r2.length];exact F.len _ _ _ _ h
 refine wpAny_call (codeAny_mono (F.run X.A X.stack s H ⟨us,[]⟩ (us++ds) (vs++dvs) Q E hr I.env0 (hb s us I.kIn hl) r2 h) fun r s' hq=>?_)
 cases r with
 | error e=>exact hx pins σ H s e s' I hq
 | ok fl=>
  cases fl with
  | ret u=>exact I.after hq
  | next=>exact False.elim hq
  | brk=>exact False.elim hq
  | cont=>exact False.elim hq
theorem AR (F:cE X.prog X.w X.K X.mg X.base CX k f fd ps sp) (hr:Room k X.A) (hg:Gl X x) (hm:X.mg x=some (.ref f)) (hk:PySem.W.keepIn X.K (.ref f)=true) (hb:Binds X.K fd ps ds) (hd:Vals dvs ds) (hx:Eu CX X E)
  (ha:PA X (e::es) t) (hdb:(x==("__debug__":Str))=false:=by decide) (he:starEach (e::es) X.env=(false,eval e X.env)::starEach es X.env:=by rfl) (hpl:(backTo pos (starEach es X.env)).any (·.1)=false:=by rfl) :
  PE X (.Call (.Name x p) (e::es) [] pos) (gh sp dvs E t):=by
 intro pins s σ H Q I h;refine wpAny_Call_Name_kw (nU I hg hm ?_ hdb)
 refine PySem.W.callWith_K (h₀:=X.base) I.ok.mod.kin hk (bq (ha pos pins s σ H _ I h) fun us s1 ⟨vs,H1,I1,r,q⟩=>⟨I1.kIn,?_⟩) he hpl
 exact yD F hr hb hd hx I1 r q
structure Mk (K:Fg) (C f:Addr):Prop where
 makes:PySem.W.makesIn K C=true
 init:PySem.W.findIn K (.ref C) "__init__"=some (some (.ref f))
 fn:PySem.W.isFn K (.ref f)=true
 kp:PySem.W.keepIn K (.ref C)=true
end
section
variable {X:Cx} {CX:uh} {k:Nat} {f C:Addr} {fd:FuncData} {ps ks:List Str} {sp:Sp} {E:XK} {x m:Str} {p pos apos kpos:Pos} {e o:Expr} {es:List Expr} {kws:List Keyword} {te ta:TE} {t tk:TA} {nm:Option Str}
structure HN (K:Fg) (fd:FuncData) (ps ks:List Str) (g:List Value->List Value->List Value) (gV:List V->List V->List V):Prop where
 to:∀(s:Shared) (us ws:List Value),K.In s.heap->(g us ws).length=ps.length->BindsTo s fd ⟨us,ks.zip ws⟩ (ps.zip (g us ws))
 rel:∀{vs:List V} {us:List Value} {zs:List V} {ws:List Value},Vals vs us->Vals zs ws->Vals (gV vs zs) (g us ws)
variable {g:List Value->List Value->List Value} {gV:List V->List V->List V}
end
structure bB (N P:List Str) (sc:Scope):Prop where
 kind:sc.kind=.function
 co:sc.isCoroutine=false
 gen:sc.isGenerator=false
 nd:N.Nodup
 pre:N.take P.length=P
 par:∀x∈P,sc.names.lookup x=some .local\/sc.names.lookup x=some .cell
 nofree:∀y∈sc.names,y.2≠.free
theorem i5 {kindOf:Str->Option NameKind} {x:Str}:∀{binds:List (Str×Value)} {m:Str->Option Value},(∀v,(x,v)∉binds)->bindL kindOf binds m x=m x
 | [],_,_=>rfl
 | (n,v)::r,m,h=>by
  unfold bindL;rw [i5 fun w hw=>h w (mem_cons_of_mem _ hw)]
  split
  ·have:x≠n:=by rintro rfl;exact h v mem_cons_self
   simp [this]
  ·rfl
theorem i7 {kindOf:Str->Option NameKind} {x:Str}:∀{binds:List (Str×Value)} {m:Str->Option Value},(∀v,(x,v)∉binds)->bindC kindOf binds m x=m x
 | [],_,_=>rfl
 | (n,v)::r,m,h=>by
  unfold bindC;rw [i7 fun w hw=>h w (mem_cons_of_mem _ hw)]
  split
  ·rfl
  ·have:x≠n:=by rintro rfl;exact h v mem_cons_self
   simp [this]
theorem i6 {kindOf:Str->Option NameKind} {x:Str} {v:Value}:∀{P:List Str} {vs:List Value} {i:Nat} {m:Str->Option Value},P.Nodup->P[i]?=some x->vs[i]?=some v->kindOf x=some .local ->
  bindL kindOf (P.zip vs) m x=some v
 | [],_,_,_,_,h,_,_=>by simp at h
 | _::_,[],_,_,_,_,h,_=>by simp at h
 | p::P,w::vs,0,m,nd,h1,h2,hk=>by
  simp at h1 h2;subst h1;subst h2;show bindL kindOf ((p,w)::P.zip vs) m p=_
  unfold bindL;rw [i5 fun v hv=>(List.nodup_cons.mp nd).1 (List.of_mem_zip hv).1,if_pos hk]
  simp
 | p::P,w::vs,i+1,m,nd,h1,h2,hk=>by
  show bindL kindOf ((p,w)::P.zip vs) m x=_
  unfold bindL;exact i6 (i:=i) (List.nodup_cons.mp nd).2 (by simpa using h1) (by simpa using h2) hk
theorem i8 {kindOf:Str->Option NameKind} {x:Str} {v:Value}:∀{P:List Str} {vs:List Value} {i:Nat} {m:Str->Option Value},P.Nodup->P[i]?=some x->vs[i]?=some v->kindOf x≠some .local ->
  bindC kindOf (P.zip vs) m x=some v
 | [],_,_,_,_,h,_,_=>by simp at h
 | _::_,[],_,_,_,_,h,_=>by simp at h
 | p::P,w::vs,0,m,nd,h1,h2,hk=>by
  simp at h1 h2;subst h1;subst h2;show bindC kindOf ((p,w)::P.zip vs) m p=_
  unfold bindC;rw [i7 fun v hv=>(List.nodup_cons.mp nd).1 (List.of_mem_zip hv).1,if_neg hk]
  simp
 | p::P,w::vs,i+1,m,nd,h1,h2,hk=>by
  show bindC kindOf ((p,w)::P.zip vs) m x=_
  unfold bindC;exact i8 (i:=i) (List.nodup_cons.mp nd).2 (by simpa using h1) (by simpa using h2) hk
def start (N:List Str) (vs:List V):St:=vs.map some++List.replicate (N.length-vs.length) none
def jy (CX:uh) (P:Program) (w:World) (K:Fg) (mg:Str->Option Value) (base:Heap) (N:List Str) (qual:Str) (scope:Scope) (f:Addr) (cd:Value) (A:Around) (outer:List Env) (s:Shared) (H:Hp) (E:XK):Cx where
 prog:=P
 w:=w
 K:=K
 mg:=mg
 base:=base
 A:=A.deeper (envOfC qual scope s.heap.objs.size f cd)
 N:=N
 s₀:=s
 H₀:=H
 env:=envOfC qual scope s.heap.objs.size f cd
 outer:=outer
 stack:=envOfC qual scope s.heap.objs.size f cd::outer
 ex:=[]
 calm:=true
 fn:=fun _=>true
 pn:=[]
 xe:=fun e s'=>wpAny (model P w) (A.deeper (envOfC qual scope s.heap.objs.size f cd)) (leaving (envOfC qual scope s.heap.objs.size f cd) e) (fun _ s''=>CX outer H s E e s'') (fun e' s''=>CX outer H s E e' s'') s'
theorem lE {sc:Scope} {n:Nat} {x:Str} (h:sc.names.lookup x=some .cell):∃c,(cellsFrom n sc.names []).lookup x=some c:=by
 have q:=PySem.W.cellsFrom_some sc.names n [] (.inl h)
 exact Option.isSome_iff_exists.mp q
theorem pO {CX:uh} {P:Program} {w:World} {K:Fg} {mg:Str->Option Value} {base:Heap} {N ps:List Str} {qual:Str} {scope:Scope} {f:Addr} {cd:Value} {A:Around} {outer:List Env} {s s1:Shared} {H:Hp} {E:XK} {us:List Value} {vs:List V}
  (S:bB N ps scope) (hd:A.handled=none) (e0:wX P w K mg base A outer s H) (hl:vs.length=ps.length) (r:Vals vs us)
  (x:InCallC s s.heap.objs.size (bindL (envOfC qual scope s.heap.objs.size f cd).kindOf (ps.zip us) fun _=>none) (cellsFrom (s.heap.objs.size+1) scope.names []) (bindC (envOfC qual scope s.heap.objs.size f cd).kindOf (ps.zip us) fun _=>none) s1) :
  Inv (jy CX P w K mg base N qual scope f cd A outer s H E) [] (start N vs) H s1:=by
 have hpl:ps.length<=N.length:=by have:=congrArg List.length S.pre;rw [length_take] at this;omega
 obtain ⟨h1,tk,rfl,hk⟩:=x.done;have noA:∀b:Addr,b∉(jy CX P w K mg base N qual scope f cd A outer s H E).ex:=fun b z=>absurd (show b∈([]:List Addr) from z) (by simp)
 refine ⟨⟨e0.mod,S.kind,rfl,rfl,Nat.le_refl _,fun y z c h1 h2=>?_,fun y hy=>?_,fun y c _ h=>?_,fun _=>hd,Around.frames_deeper e0.frames,.inr ⟨rfl,rfl⟩,fun b z=>absurd z (noA b),e0.bs,e0.bsz,fun b _ _=>noA b,fun b z=>absurd z (noA b),e0.funs,e0.frf⟩,
  rfl,e0.bare,Un.kept hk,⟨_,x.toInCall.ns,fun i y v h1 h2 h3=>?_⟩,fun y c h=>⟨_,x.cell y c h⟩,e0.hok.fresh (Nat.le_refl _),fun y c h=>?_,fun p hp=>absurd (show p∈([]:List (Addr×Obj)) from hp) (by simp),e0.hok.kept hk,?_⟩
 ·exact name_of_addr x.apart (PySem.mem_of_lookup h1) (PySem.mem_of_lookup h2)
 ·have hy:scope.names.lookup y=some .cell\/scope.names.lookup y=some .free:=hy
  rcases hy with hy | hy
  ·exact lE hy
  ·exact absurd rfl (S.nofree _ (PySem.mem_of_lookup hy))
 ·exact Nat.le_of_lt (x.above y c (PySem.mem_of_lookup h))
 ·have hi:i<vs.length:=by
   unfold start at h2;by_cases hi:i<vs.length
   ·exact hi
   ·rw [getElem?_append_right (by simpa using hi)] at h2
    rw [getElem?_replicate] at h2;split at h2<;>cases h2
  have ha:vs[i]?=some v:=by
   unfold start at h2;rw [getElem?_append_left (by simpa using hi),getElem?_map] at h2
   cases e:vs[i]? with
   | none=>rw [e] at h2;cases h2
   | some a=>rw [e] at h2;cases h2;rfl
  obtain ⟨u,hu,rv⟩:=r.get ha;have hp:ps[i]?=some y:=by
   rw [<-S.pre,List.getElem?_take_of_lt (by omega)];exact h1
  have ndP:ps.Nodup:=by rw [<-S.pre];exact S.nd.sublist (List.take_sublist _ _)
  refine ⟨u,rv,?_⟩
  rcases S.par y (mem_of_getElem? hp) with k | k
  ·exact .inl ⟨k,i6 ndP hp hu k⟩
  ·obtain ⟨c,e⟩:=lE (n:=s.heap.objs.size+1) k
   refine .inr ⟨.inl k,c,e,?_⟩
   have q:=x.cell y c e
   rw [i8 ndP hp hu (by show scope.names.lookup y≠_;rw [k];decide)] at q
   exact q
 ·exact e0.hok.fresh (Nat.le_of_lt (x.above y c (PySem.mem_of_lookup h)))
 ·unfold start
  show _=N.length
  rw [length_append,length_map,List.length_replicate];omega
theorem CJ {CX:uh} {P:Program} {w:World} {K:Fg} {mg:Str->Option Value} {base:Heap} {k:Nat} {f:Addr} {name qual:Str} {params:Arguments} {body:List Stmt} {scope:Scope} {dV kV doc pm cdv ct oc:Value} {an od:Option Addr}
  {osl:Array (Option Value)} {N ps:List Str} {sp:Sp} (lk:K.lookup f=some ⟨oc,od,.func (PySem.W.fnOf name qual params body scope dV kV doc pm an cdv ct),osl⟩) (hcd:PySem.W.codeIn K cdv qual=true) (S:bB N ps scope)
  (len:∀vs H Q E,sp vs H Q E->vs.length=ps.length)
  (hbody:∀(A:Around) (outer:List Env) (s:Shared) (H:Hp) (vs:List V) (Q:VK) (E:XK),Room k (A.deeper (envOfC qual scope s.heap.objs.size f cdv))->sp vs H Q E ->
   ∃t,PSs (jy CX P w K mg base N qual scope f cdv A outer s H E) body t/\t { nx:=fun _ H'=>Q .non H',rt:=Q } (start N vs) H) :
  cE P w K mg base CX (k+1) f (PySem.W.fnOf name qual params body scope dV kV doc pm an cdv ct) ps sp:=by
 refine ⟨len,fun A outer s H args us vs Q E hr e0 hb r hsp=>?_⟩
 have hl:=len _ _ _ _ hsp
 have KX:K.In s.heap:=e0.mod.kin.keeps fun b o e=>(e0.bs b o e).1
 have lim:s.heap.NoLimit:=e0.mod.nolimit.keeps fun b o e=>(e0.bs b o e).1
 have hkind:∀y∈ps.zip us,scope.names.lookup y.1=some .local\/(scope.names.lookup y.1=some .cell/\((cellsFrom (s.heap.objs.size+1) scope.names []).lookup y.1).isSome=true):=fun ⟨n,v⟩ hy=>by
  rcases S.par n (List.of_mem_zip hy).1 with q | q
  ·exact .inl q
  ·exact .inr ⟨q,PySem.W.cellsFrom_some _ _ _ (.inl q)⟩
 refine codeAny_call_function hr.depth (KX _ _ lk) rfl S.co S.gen rfl (PySem.W.codeRec_of KX hcd) (hb _ _ _ _ ?_)
 refine wpAny_newFunctionEnv_cells S.kind hkind fun env he s1 x=>?_
 subst he;refine ⟨lim.keeps x.toInCall.keep,codeAny_func ?_⟩
 obtain ⟨t,ht,hq⟩:=hbody A outer s H vs Q E (hr.deeper _) hsp;have I:Inv (jy CX P w K mg base N qual scope f cdv A outer s H E) [] (start N vs) H s1:=pO S hr.hd e0 hl r x
 refine wpAny_mono (ht [] s1 (start N vs) H _ I hq) (fun fl s' hs=>?_) fun e s' hs=>hs
 have fin:∀{σ':St} {H':Hp} {v:V} {u:Value},Inv (jy CX P w K mg base N qual scope f cdv A outer s H E) [] σ' H' s'->RelV v u->Q v H'->CE outer P w H s Q u s':=
  fun {σ' H' v u} J rv q=>⟨v,H',J.os,J.bare,J.base,J.hok,rv,q⟩
 cases fl with
 | ret u=>
  obtain ⟨v,σ',H',J,rv,q⟩:=hs;exact fin J rv q
 | next=>
  obtain ⟨σ',H',J,q⟩:=hs;exact fin (v:=V.non) (u:=Value.none) J rfl q
 | brk=>
  obtain ⟨_,_,_,q⟩:=hs;exact False.elim q
 | cont=>
  obtain ⟨_,_,_,q⟩:=hs;exact False.elim q
section
variable {X:Cx} {x:Str} {p pos:Pos} {e:Expr} {es:List Expr} {t:TA} {id T:String} {r:List V->Hp->VK->Prop}
def oQ (r:List V->Hp->VK->Prop) (t:TA):TE:=fun σ H Q=>t σ H fun vs H1=>r vs H1 Q
theorem xk (hc:CallR X (.builtin id) r) (hg:Gl X x) (hm:X.mg x=none) (hv:bootBuiltins x=some (.builtin id)) (ha:PA X (e::es) t) (hn:x ≠ "__name__":=by decide) (hdb:(x==("__debug__":Str))=false:=by decide)
  (he:starEach (e::es) X.env=(false,eval e X.env)::starEach es X.env:=by rfl) (hpl:(backTo pos (starEach es X.env)).any (·.1)=false:=by rfl):PE X (.Call (.Name x p) (e::es) [] pos) (oQ r t):=by
 intro pins s σ H Q I h;refine wpAny_Call_Name_kw (xb I hg hm hv ?_ hn hdb)
 exact PyProof.Rows.callWith_builtin1 (bq (ha pos pins s σ H _ I h) fun us s1 ⟨vs,H1,I1,r1,q1⟩=>hc pins s1 σ H1 vs us Q I1 r1 q1) he hpl
theorem DH (hc:CallR X (.type T) r) (hg:Gl X x) (hm:X.mg x=none) (hv:bootBuiltins x=some (.type T)) (ha:PA X (e::es) t) (hn:x ≠ "__name__":=by decide) (hdb:(x==("__debug__":Str))=false:=by decide)
  (he:starEach (e::es) X.env=(false,eval e X.env)::starEach es X.env:=by rfl) (hpl:(backTo pos (starEach es X.env)).any (·.1)=false:=by rfl):PE X (.Call (.Name x p) (e::es) [] pos) (oQ r t):=by
 intro pins s σ H Q I h;refine wpAny_Call_Name_kw (xb I hg hm hv ?_ hn hdb)
 exact PyProof.Rows.callWith_type1 (bq (ha pos pins s σ H _ I h) fun us s1 ⟨vs,H1,I1,r1,q1⟩=>hc pins s1 σ H1 vs us Q I1 r1 q1) he hpl
end
end L2
namespace HT
open PySem PyProof.Rows
section
open PySem.SeqAt
open PySem.AutoSeq1 (wpAny_loadPart')
open PySem.MeetsSeq PySem.MeetsSeq2 PySem.MeetsSeq3
end
section
variable {prog:Program} {w:World} {A:Around} {E:Value->Shared->Prop} {s:Shared}
def sIx (n d:Nat):Option Int->Nat
 | none=>d
 | some v=>if v<0 then (v+(n:Int)).toNat else min v.toNat n
theorem yC (n d:Nat) (hd:d<=n) (o:Option Int):sIx n d o<=n:=by
 cases o with
 | none=>exact hd
 | some v=>
  show (if v<0 then (v+(n:Int)).toNat else min v.toNat n)<=n
  by_cases hv:v<0
  ·rw [if_pos hv];omega
  ·rw [if_neg hv];exact Nat.min_le_right _ _
theorem ou (v:Int) (n d:Nat):(if v<0 then max (v+(n:Int)) 0 else min v (n:Int))=((sIx n d (some v):Nat):Int):=by
 show (if v<0 then max (v+(n:Int)) 0 else min v (n:Int))=(((if v<0 then (v+(n:Int)).toNat else min v.toNat n):Nat):Int)
 by_cases hv:v<0
 ·simp only [if_pos hv];omega
 ·simp only [if_neg hv];omega
theorem nc (lo hi:Option Int) (n:Nat):Builtin.Slice.sliceAdjust lo hi 1 (n:Int)=(((sIx n 0 lo:Nat):Int),((sIx n n hi:Nat):Int)):=by
 have h1:¬((1:Int)<0):=by omega
 unfold Builtin.Slice.sliceAdjust;simp only [h1,if_false]
 refine Prod.ext ?_ ?_
 ·cases lo with
  | none=>rfl
  | some v=>exact ou v n 0
 ·cases hi with
  | none=>rfl
  | some v=>exact ou v n n
theorem mw (i j:Nat):Builtin.Slice.slicePlaces (i:Int) (j:Int) 1=j-i:=by
 unfold Builtin.Slice.slicePlaces;have h1:(1:Int)>0:=by omega
 simp only [h1,if_true,Int.ediv_one]
 split<;>omega
theorem gp {v:Value} {o:Option Int} {Q:Option Int->Shared->Prop} (p:IsPart v o) (h:Q o s):wpAny (model prog w) A (Builtin.Slice.slicePartIndex v) Q E s:=by
 cases p with
 | none=>exact slicePart_none h
 | int i t=>exact slicePart_int h
theorem eD {sl:Addr} {vl vu:Value} {lo hi:Option Int} {n:Nat} {Q:Int×Int×Nat->Shared->Prop} (hs:s.heap.IsSliceOf sl vl vu .none) (pl:IsPart vl lo) (pu:IsPart vu hi)
  (h:Q (((sIx n 0 lo:Nat):Int),1,sIx n n hi-sIx n 0 lo) s):wpAny (model prog w) A (Builtin.Slice.sliceApplied (.ref sl) (pure (n:Int))) Q E s:=by
 obtain ⟨os,hos,hcs,hds⟩:=id hs;unfold Builtin.Slice.sliceApplied Builtin.Slice.sliceFields;refine wpAny_bind (wpAny_bind (wpAny_field hos hds (x:=vl) rfl (wpAny_bind (wpAny_field hos hds (x:=vu) rfl (wpAny_bind (wpAny_field hos hds (x:=.none) rfl (wpAny_pure ?_)))))))
 refine wpAny_bind (slicePart_none ?_)
 show wpAny _ _ (if ((1:Int)==0)=true then _ else _) _ _ s
 rw [if_neg (by decide)]
 refine wpAny_bind (gp pl (wpAny_bind (gp pu (wpAny_bind (wpAny_pure ?_)))))
 show wpAny _ _ (match Builtin.Slice.sliceAdjust lo hi 1 (n:Int) with | (lo,hi)=>pure (lo,(1:Int),Builtin.Slice.slicePlaces lo hi 1)) _ _ s
 rw [nc lo hi n];show wpAny _ _ (pure (((sIx n 0 lo:Nat):Int),(1:Int),Builtin.Slice.slicePlaces ((sIx n 0 lo:Nat):Int) ((sIx n n hi:Nat):Int) 1)) _ _ s
 rw [mw];exact wpAny_pure h
theorem r9 (xs:Array Value) (i k:Nat):((List.range k).filterMap fun (m:Nat)=>xs[((i:Int)+(m:Int)*1).toNat]?).toArray=((xs.toList.drop i).take k).toArray:=by
 have e:(fun (m:Nat)=>xs[((i:Int)+(m:Int)*1).toNat]?)=fun m=>xs[i+m]?:=by
  funext m
  have:((i:Int)+(m:Int)*1).toNat=i+m:=by omega
  rw [this]
 rw [e];have:=pick_run xs i k
 rw [List.filterMap_map] at this;have e2:((fun x=>xs[x]?)∘fun x=>i+x)=fun m=>xs[i+m]?:=rfl
 rw [e2] at this;rw [this]
theorem getItem_tuple_cut {t sl:Addr} {items:Array Value} {vl vu:Value} {lo hi:Option Int} {Q:Value->Shared->Prop} (ht:IsTup s.heap t items) (hs:s.heap.IsSliceOf sl vl vu .none) (pl:IsPart vl lo) (pu:IsPart vu hi)
  (hw:¬(sIx items.size 0 lo=0/\sIx items.size items.size hi=items.size))
  (h:Q (.ref s.heap.objs.size) { s with heap:=s.heap.push { cls:=.type "tuple",data:=.seq ((items.toList.drop (sIx items.size 0 lo)).take (sIx items.size items.size hi-sIx items.size 0 lo)).toArray } })
  (hsz:items.size<=sizeLine):wpAny (model prog w) A (getItem (.ref t) (.ref sl)) Q E s:=by
 have htake:sizeOk (.seq ((items.toList.drop (sIx items.size 0 lo)).take (sIx items.size items.size hi-sIx items.size 0 lo)).toArray):=by
  show ((items.toList.drop (sIx items.size 0 lo)).take (sIx items.size items.size hi-sIx items.size 0 lo)).toArray.size<=sizeLine
  rw [size_toArray,length_take,List.length_drop,Array.length_toList];omega
 have hj:sIx items.size items.size hi<=items.size:=yC _ _ (Nat.le_refl _) hi
 obtain ⟨os,hos,hcs,hds⟩:=id hs;have hTs:s.TypeIs (.ref sl) "slice":=⟨os,hos,hcs⟩
 unfold getItem;try with_reducible refine wpAny_holding ?_
 first | refine wpAny_bind (wpAny_pure ?_) | skip
 refine wpAny_bind (wpAny_sequenceKey ht.typeIs (by decide) ?_)
 refine wpAny_bind (wpAny_callSpecial?_slot (name:=Str.ofString "__getitem__") ht.typeIs PyProof.Rows.slot_tuple_getitem
  (wpAny_call_entry PyProof.Rows.slot_tuple_getitem ht.typeIs entry_tuple_getitem ?_ (args_tuple_getitem _ _)))
 show wpAny _ _ (Builtin.Tuple.tupleItemsOf (.ref t) >>= _) _ _ s
 refine wpAny_bind (tupleItemsOf_ ht ?_)
 refine wpAny_bind (wpAny_typeOf hTs ?_)
 rw [if_pos (by decide)]
 refine wpAny_bind (eD hs pl pu ?_)
 have hno:¬((((sIx items.size 0 lo:Nat):Int)==0&&(1:Int)==1&&(sIx items.size items.size hi-sIx items.size 0 lo)==items.size)=true):=by
  intro q;rw [Bool.and_eq_true,Bool.and_eq_true] at q;have q1:((sIx items.size 0 lo:Nat):Int)=0:=eq_of_beq q.1.1
  have q2:sIx items.size items.size hi-sIx items.size 0 lo=items.size:=eq_of_beq q.2
  exact hw ⟨by omega,by omega⟩
 show wpAny _ _ (if (((sIx items.size 0 lo:Nat):Int)==0&&(1:Int)==1&&(sIx items.size items.size hi-sIx items.size 0 lo)==items.size)=true then _ else _) _ _ s
 rw [if_neg hno,r9];first
  | exact wpAny_bind (m:=Builtin.Tuple.tupleExact _) (wpAny_newObj_type (wpAny_pure ⟨_,rfl,wpAny_pure h⟩) htake)
  | exact wpAny_bind (m:=Builtin.Tuple.tupleExact _) (wpAny_newObj_type (wpAny_bind (wpAny_pure (wpAny_pure ⟨_,rfl,wpAny_pure h⟩))) htake)
  | exact wpAny_bind (wpAny_bind (m:=Builtin.Tuple.tupleExact _) (wpAny_newObj_type (wpAny_pure (wpAny_pure ⟨_,rfl,wpAny_pure h⟩)) htake))
  | exact wpAny_bind (wpAny_bind (m:=Builtin.Tuple.tupleExact _) (wpAny_newObj_type (wpAny_pure ⟨_,rfl,wpAny_pure h⟩) htake))
end
end HT
namespace L2
open PySem PySem.Spec PyProof.Rows
abbrev TO:=St->Hp->(Option Int->Hp->Prop)->Prop
def PO (X:Cx) (e:Option Expr) (t:TO):Prop:=
 ∀(pins:List (Addr×Obj)) (s:Shared) (σ:St) (H:Hp) (Q:Option Int->Hp->Prop),Inv X pins σ H s->t σ H Q ->
  wpAny (model X.prog X.w) X.A (evalPart e X.env) (fun u s'=>∃o H',Inv X pins σ H' s'/\IsPart u o/\Q o H') X.xe s
def nu:TO:=fun _ H Q=>Q none H
def xu (t:TE):TO:=fun σ H Q=>t σ H fun x H1=>∃i,x=.int i/\Q (some i) H1
section
variable {X:Cx} {e:Expr} {te:TE} {lo hi:Option Expr} {tl th:TO} {pos p2:Pos}
theorem vB:PO X none nu:=by
 intro pins s σ H Q I h;rw [evalPart_none];exact wpAny_pure ⟨none,H,I,.none,h⟩
theorem vA (h:PE X e te):PO X (some e) (xu te):=by
 intro pins s σ H Q I hw;rw [evalPart_some];refine bq (h pins s σ H _ I hw) fun u s1 ⟨x,H1,I1,r1,q1⟩=>?_
 obtain ⟨i,rfl,q⟩:=q1;obtain ⟨t,rfl⟩:=r1;exact ⟨some i,H1,I1,.int i t,q⟩
def IU (X:Cx) (r:V->Option Int->Option Int->Hp->VK->Prop):Prop:=
 ∀(pins:List (Addr×Obj)) (s:Shared) (σ:St) (H:Hp) (x:V) (v vl vu:Value) (lo hi:Option Int) (sl:Addr) (Q:VK),Inv X pins σ H s->RelV x v->s.heap.IsSliceOf sl vl vu .none->IsPart vl lo->IsPart vu hi->r x lo hi H Q ->
  ∃T id,typeLookup (.type T) "__getitem__"=pure (some (.builtin id))/\s.TypeIs v T/\wpAny (model X.prog X.w) X.A (getItem v (.ref sl)) (EP X pins σ Q) X.xe s
def Ia (r:V->Option Int->Option Int->Hp->VK->Prop) (te:TE) (tl th:TO):TE:=fun σ H Q=>te σ H fun x H1=>tl σ H1 fun l H2=>th σ H2 fun u H3=>r x l u H3 Q
theorem so {r:V->Option Int->Option Int->Hp->VK->Prop} (hr:IU X r) (he:PE X e te) (hl:PO X lo tl) (hu:PO X hi th):PE X (.Subscript e (.Slice lo hi none p2) pos) (Ia r te tl th):=by
 intro pins s σ H Q I h;refine Subscript_ (bq (he pins s σ H _ I h) fun v s1 ⟨x,H1,I1,r1,q1⟩=>?_)
 refine wpAny_Slice (bq (hl pins s1 σ H1 _ I1 q1) fun vl s2 ⟨l,H2,I2,pl,q2⟩=>bq (hu pins s2 σ H2 _ I2 q2) fun vu s3 ⟨u,H3,I3,pu,q3⟩=>?_)
 rw [evalPart_none];refine wpAny_pure ?_
 have I4:Inv X pins σ H3 { s3 with heap:=s3.heap.push { cls:=.type "slice",data:=.fields #[vl,vu,.none] } }:=I3.kept (t':=s3.toks) fun b ob q=>Heap.get?_push_of_some _ q
 obtain ⟨T,id,hT,ht,hg⟩:=hr pins { s3 with heap:=s3.heap.push { cls:=.type "slice",data:=.fields #[vl,vu,.none] } } σ H3 x v vl vu l u s3.heap.objs.size Q I4 r1 (Heap.IsSliceOf.new ..) pl pu q3
 show wpAny (model X.prog X.w) X.A (subscriptTail e (.Slice lo hi none p2) v (.ref s3.heap.objs.size)) (EP X pins σ Q) X.xe { s3 with heap:=s3.heap.push { cls:=.type "slice",data:=.fields #[vl,vu,.none] } }
 exact tail_any (ops:=[.ref s3.heap.objs.size,v]) ht hT hg (by with_unfolding_all rfl)
def wG (xs:List V) (lo hi:Option Int):List V:=(xs.drop (HT.sIx xs.length 0 lo)).take (HT.sIx xs.length xs.length hi-HT.sIx xs.length 0 lo)
theorem lA (xs:List V) (lo hi:Option Int):(wG xs lo hi).length<=xs.length:=by
 unfold wG;rw [length_take,List.length_drop];omega
def B3 (K:Fg):V->Option Int->Option Int->Hp->VK->Prop:=fun x lo hi H Q=>∃a xs,x=.ref a/\SqT K H a xs /\
 ¬(HT.sIx xs.length 0 lo=0/\HT.sIx xs.length xs.length hi=xs.length)/\∀p,H p=none->Q (.ref p) (upd H p (.tup (wG xs lo hi)))
theorem yy:IU X (B3 X.K):=by
 intro pins s σ H x v vl vu lo hi sl Q I rx hs pl pu h;obtain ⟨a,xs,rfl,hx,hw,q⟩:=h
 cases rx;obtain ⟨its,r,ht,hz⟩:=I.tuple hx;have hlen:its.toArray.size=xs.length:=by rw [size_toArray];exact r.length.symm
 refine ⟨"tuple",_,PyProof.Rows.slot_tuple_getitem.lookup,ht.typeIs,?_⟩
 refine HT.getItem_tuple_cut ht hs pl pu (by rw [hlen];exact hw) ?_ (by rw [hlen];exact hz)
 rw [hlen];refine ⟨.ref s.heap.objs.size,_,I.laid (t':=s.toks) (o:=.tup (wG xs lo hi)) (fun b ob q=>Heap.get?_push_of_some _ q) (Nat.le_refl _) ?_,rfl,q _ (I.hok.fresh (Nat.le_refl _))⟩
 exact ⟨Nat.le_trans (lA xs lo hi) hz,_,(r.drop (HT.sIx xs.length 0 lo)).take (HT.sIx xs.length xs.length hi-HT.sIx xs.length 0 lo),IsTup.new _ _⟩
end
def dn (n:Nat) (i:Int):Option Nat:=if 0<=i then (if i<n then some i.toNat else none) else if -(n:Int)<=i then some (i+n).toNat else none
def cZ {α:Type} (xs:List α) (i:Int):Option α:=(dn xs.length i).bind fun j=>xs[j]?
theorem vS {n:Nat} {i:Int} {j:Nat} (h:dn n i=some j):seqIndex? i n=some j/\j<n/\-(n:Int)<=i/\i<n:=by
 unfold dn at h;by_cases h0:0<=i
 ·rw [if_pos h0] at h
  by_cases h1:i<n
  ·rw [if_pos h1] at h
   have e:i.toNat=j:=Option.some.inj h
   exact ⟨by rw [seqIndex_of h0 h1,e],by omega,by omega,h1⟩
  ·rw [if_neg h1] at h;cases h
 ·rw [if_neg h0] at h
  by_cases h1:-(n:Int)<=i
  ·rw [if_pos h1] at h
   have e:(i+n).toNat=j:=Option.some.inj h
   exact ⟨by rw [seqIndex_neg (by omega) h1,e],by omega,h1,by omega⟩
  ·rw [if_neg h1] at h;cases h
theorem EE {α:Type} {xs:List α} {i:Int} {v:α} (h:cZ xs i=some v):∃j,seqIndex? i xs.length=some j/\xs[j]?=some v/\j<xs.length/\-(xs.length:Int)<=i/\i<xs.length:=by
 unfold cZ at h
 cases e:dn xs.length i with
 | none=>rw [e] at h;cases h
 | some j=>
  rw [e] at h;obtain ⟨h1,h2,h3,h4⟩:=vS e;exact ⟨j,h1,h,h2,h3,h4⟩
def oC (b:Expr):Prop:=∀o i,subscripted b false o i=operate [o,i] (getItem o i)
def IxR (X:Cx) (r:R2):Prop:=
 ∀(value slice:Expr) (pins:List (Addr×Obj)) (s:Shared) (σ:St) (H:Hp) (x y:V) (v u:Value) (Q:VK),Inv X pins σ H s->RelV x v->RelV y u->r x y H Q ->
  subscripted slice false v u=operate [v,u] (getItem v u)->wpAny (model X.prog X.w) X.A (subscriptTail value slice v u) (EP X pins σ Q) X.xe s
def Jv (X:Cx) (id:String) (r:V->List V->Hp->VK->Prop):Prop:=
 ∀(pins:List (Addr×Obj)) (s:Shared) (σ:St) (H:Hp) (x:V) (xs:List V) (v:Value) (us:List Value) (Q:VK),Inv X pins σ H s->RelV x v->Vals xs us->r x xs H Q ->
  wpAny (model X.prog X.w) X.A (call (.builtin id) (v::us)) (EP X pins σ Q) X.xe s
section
variable {X:Cx} {a b:Expr} {ta tb:TE} {pos:Pos}
theorem IxR.or {r r':R2} (h:IxR X r) (h':IxR X r'):IxR X (fun x y H Q=>r x y H Q\/r' x y H Q):=by
 intro value slice pins s σ H x y v u Q I rx ry q hs;rcases q with q | q
 ·exact h value slice pins s σ H x y v u Q I rx ry q hs
 ·exact h' value slice pins s σ H x y v u Q I rx ry q hs
theorem cS {r:R2} (hr:IxR X r) (ha:PE X a ta) (hb:PE X b tb) (hs:oC b):PE X (.Subscript a b pos) (gZ r ta tb):=by
 intro pins s σ H Q I h;exact Subscript_ (An ha hb I h fun v u s2 x y H2 I2 rx ry q=>hr a b pins s2 σ H2 x y v u Q I2 rx ry q (hs _ _))
def B9 (K:Fg):R2:=fun x y H Q=>∃p xs i v,x=.ref p/\y=.int i/\SqL K H p xs/\cZ xs i=some v/\Q v H
def B7 (K:Fg):R2:=fun x y H Q=>∃p xs i v,x=.ref p/\y=.int i/\SqT K H p xs/\cZ xs i=some v/\Q v H
def B8:R2:=fun x y H Q=>∃z i c,x=.str z/\y=.int i/\z.length<=sizeLine/\cZ z.cps.toList i=some c/\Q (.str ⟨#[c]⟩) H
theorem ix_list:IxR X (B9 X.K):=by
 intro value slice pins s σ H x y v u Q I rx ry h hs;obtain ⟨p,xs,i,z,rfl,rfl,hq,he,q⟩:=h
 cases rx;obtain ⟨t,rfl⟩:=ry;obtain ⟨its,r,pl,hz⟩:=I.list hq;obtain ⟨j,h1,h2,h3,h4,h5⟩:=EE he;obtain ⟨w,ew,rw'⟩:=r.get h2;have hl:=r.length
 have hn:=AJ
 have fin:EP X pins σ Q w s:=⟨z,H,I,rw',q⟩
 by_cases h0:0<=i
 ·have hj:i.toNat=j:=by
   rw [seqIndex_of h0 h5] at h1;exact Option.some.inj h1
  exact item_listR pl.isList h0 (by omega) (by rw [hj];simpa using ew) fin hs
 ·have hj:(i+(its.toArray.size:Int)).toNat=j:=by
   rw [seqIndex_neg (by omega) h4] at h1
   rw [size_toArray,<-hl];exact Option.some.inj h1
  exact subscriptTail_builtinR (x:=w) pl.isList.typeIs slot_list_getitem.lookup
   (wpAny_getItem_list_neg (Q:=fun r s'=>r=w/\EP X pins σ Q r s') pl.isList (by omega) (by rw [size_toArray]<;>omega) (by omega) (by rw [hj];simpa using ew) ⟨rfl,fin⟩) hs
theorem ix_tup:IxR X (B7 X.K):=by
 intro value slice pins s σ H x y v u Q I rx ry h hs;obtain ⟨p,xs,i,z,rfl,rfl,hq,he,q⟩:=h
 cases rx;obtain ⟨t,rfl⟩:=ry;obtain ⟨its,r,pl,hz⟩:=I.tuple hq;obtain ⟨j,h1,h2,h3,h4,h5⟩:=EE he;obtain ⟨w,ew,rw'⟩:=r.get h2;have hl:=r.length
 have hn:=AJ
 have fin:EP X pins σ Q w s:=⟨z,H,I,rw',q⟩
 exact subscriptTail_builtinR (x:=w) pl.typeIs slot_tuple_getitem.lookup
  (getItem_tuple (j:=j) (Q:=fun r s'=>r=w/\EP X pins σ Q r s') pl (by omega) (by omega) (by rw [size_toArray,<-hl];exact h1) (by simpa using ew) ⟨rfl,fin⟩) hs
theorem zG:IxR X B8:=by
 intro value slice pins s σ H x y v u Q I rx ry h hs;obtain ⟨z,i,c,rfl,rfl,hz,he,q⟩:=h;obtain ⟨t,rfl⟩:=rx;obtain ⟨t',rfl⟩:=ry;obtain ⟨j,h1,h2,h3,h4,h5⟩:=EE he;have hl:z.cps.toList.length=z.length:=by simp [Str.length]
 rw [hl] at h1 h4 h5
 have hn:=AJ
 exact tail_any (typeIs_str s z t) slot_str_getitem.lookup (getItem_str (c:=c) (by
  have e1:decide (i < -(2 ^ 63:Int))=false:=decide_eq_false (by omega)
  have e2:decide (i≥2 ^ 63)=false:=decide_eq_false (by omega)
  rw [e1,e2,Bool.or_false]) (by rw [h1];simpa using h2) ⟨.str ⟨#[c]⟩,H,I.tok _,⟨_,rfl⟩,q⟩) hs
def mm (K:Fg):R2:=fun x y H Q=>B9 K x y H Q\/B7 K x y H Q\/B8 x y H Q
theorem qp:IxR X (mm X.K):=ix_list.or (ix_tup.or zG)
theorem call_len_seq:CallR X (.builtin "len") (fun xs H Q=>∃p ys,xs=[.ref p]/\(SqL X.K H p ys\/SqT X.K H p ys)/\Q (.int ys.length) H):=by
 intro pins s σ H xs us Q I r h;obtain ⟨p,ys,rfl,hq,q⟩:=h;obtain ⟨u,rfl,rx⟩:=vals1 r
 cases rx;have hn:=AJ
 rcases hq with hq | hq
 ·obtain ⟨its,r',pl,hz⟩:=I.list hq
  have hlen:=r'.length
  exact Calls.call_len_list pl.isList (by simp only [size_toArray]<;>omega) ⟨.int ys.length,H,I.tok _,⟨s.toks+1,by rw [size_toArray,hlen]⟩,q⟩
 ·obtain ⟨its,r',pl,hz⟩:=I.tuple hq
  have hlen:=r'.length
  exact len_tuple pl (by simp only [size_toArray]<;>omega) ⟨.int ys.length,H,I.tok _,⟨s.toks+1,by rw [size_toArray,hlen]⟩,q⟩
theorem jB:CallR X (.builtin "len") (fun xs H Q=>∃z,xs=[.str z]/\z.length<=sizeLine/\Q (.int z.length) H):=by
 intro pins s σ H xs us Q I r h;obtain ⟨z,rfl,hz,q⟩:=h;obtain ⟨u,rfl,t,rfl⟩:=vals1 r;have hn:=AJ
 exact len_str (by omega) ⟨.int z.length,H,I.tok _,⟨_,rfl⟩,q⟩
theorem CallR.or {f:Value} {r r':List V->Hp->VK->Prop} (h:CallR X f r) (h':CallR X f r'):CallR X f (fun xs H Q=>r xs H Q\/r' xs H Q):=by
 intro pins s σ H xs us Q I rs q;rcases q with q | q
 ·exact h pins s σ H xs us Q I rs q
 ·exact h' pins s σ H xs us Q I rs q
theorem jA:CallR X (.type "list") (fun xs H Q=>∃p ys,xs=[.ref p]/\(SqL X.K H p ys\/SqT X.K H p ys)/\∀l,H l=none->Q (.ref l) (upd H l (.lst ys))):=by
 intro pins s σ H xs us Q I r h;obtain ⟨p,ys,rfl,hq,q⟩:=h;obtain ⟨u,rfl,rx⟩:=vals1 r
 cases rx;have fin:∀(its:List Value),Vals ys its->ys.length<=sizeLine->∀(h':Heap) (c':Nat),(∀b o',s.heap.get? b=some o'->h'.get? b=some o') ->
   h'.get? s.heap.objs.size=some { cls:=.type "list",dict:=none,data:=.seq its.toArray c',slots:=#[] }->EP X pins σ Q (.ref s.heap.objs.size) { s with heap:=h' }:=fun its r' hz h' c' kp e=>
  ⟨.ref s.heap.objs.size,_,I.laid (t':=s.toks) kp (Nat.le_refl _) (show ObjOk X.prog X.w _ h' _ (.lst ys) from ⟨hz,its,c',r',e⟩),rfl,q _ (I.hok.fresh (Nat.le_refl _))⟩
 rcases hq with hq | hq
 ·obtain ⟨its,r',pl,hz⟩:=I.list hq
  have hlen:=r'.length
  obtain ⟨o,ho,hc,n,hd⟩:=pl.isList;exact call_list_seq p (.inl rfl) ho hc hd (fun h' c' kp e=>fin its r' hz h' c' kp e) (by simp only [size_toArray]<;>omega)
 ·obtain ⟨its,r',pl,hz⟩:=I.tuple hq
  have hlen:=r'.length
  obtain ⟨o,ho,hc,n,hd⟩:=pl;exact call_list_seq p (.inr rfl) ho hc hd (fun h' c' kp e=>fin its r' hz h' c' kp e) (by simp only [size_toArray]<;>omega)
theorem iA:CallR X (.type "tuple") (fun xs H Q=>∃p ys,xs=[.ref p]/\((SqL X.K H p ys/\∀l,H l=none->Q (.ref l) (upd H l (.tup ys)))\/(SqT X.K H p ys/\Q (.ref p) H))):=by
 intro pins s σ H xs us Q I r h;obtain ⟨p,ys,rfl,h⟩:=h;obtain ⟨u,rfl,rx⟩:=vals1 r
 cases rx;rcases h with ⟨hq,q⟩ | ⟨hq,q⟩
 ·obtain ⟨its,r',pl,hz⟩:=I.list hq
  have hlen:=r'.length
  refine call_tuple_list pl.isList (fun h' kp=>?_) (by simp only [size_toArray]<;>omega)
  have I1:Inv X pins σ H { s with heap:=h' }:=I.kept (t':=s.toks) kp
  have I2:Inv X pins σ (upd H h'.objs.size (.tup ys)) { s with heap:=h'.push { cls:=.type "tuple",data:=.seq its.toArray } }:=
   I1.laid (t':=s.toks) (fun b o e=>Heap.get?_push_of_some _ e) (Nat.le_refl _) (show ObjOk X.prog X.w _ _ _ (.tup ys) from ⟨hz,its,r',IsTup.new _ _⟩)
  exact ⟨.ref h'.objs.size,_,I2,rfl,q _ (I1.hok.fresh (Nat.le_refl _))⟩
 ·obtain ⟨its,r',pl,hz⟩:=I.tuple hq
  exact call_tuple_same pl ⟨.ref p,H,I,rfl,q⟩
def HX (K:Fg) (T:String) (x:V) (H:Hp):Prop:=match x with
 | .str _=>T = "str"
 | .int _=>T = "int"
 | .ref p=>(T = "list"/\∃xs,SqL K H p xs)\/(T = "tuple"/\∃o,K.lookup p=some o/\o.cls=.type "tuple"/\o.dict=none) \/
   (T = "dict"/\((∃kvs,H p=some (.dK kvs))\/∃kvs,H p=some (.dT kvs)))\/(T = "set"/\∃S n,H p=some (.set S n))
 | _=>False
theorem yq {pins:List (Addr×Obj)} {σ:St} {H:Hp} {s:Shared} {T:String} {x:V} {v:Value} (I:Inv X pins σ H s) (r:RelV x v) (ty:HX X.K T x H) :
  s.TypeIs v T/\∀a,v=.ref a->∃ob,s.heap.get? a=some ob/\ob.dict=none:=by
 cases x with
 | str z=>
  obtain ⟨t,rfl⟩:=r
  cases (show T = "str" from ty)
  exact ⟨typeIs_str s z t,fun _ e=>nomatch e⟩
 | int i=>
  obtain ⟨t,rfl⟩:=r
  cases (show T = "int" from ty)
  exact ⟨typeIs_int s i t,fun _ e=>nomatch e⟩
 | ref p=>
  cases r;rcases ty with ⟨rfl,xs,hq⟩ | ⟨rfl,o,hk,hc,hd⟩ | ⟨rfl,hk⟩ | ⟨rfl,S,n,hk⟩
  ·obtain ⟨its,_,pl,_⟩:=I.list hq
   refine ⟨pl.isList.typeIs,fun a e=>?_⟩
   cases e;obtain ⟨o,n,e,c,hd,_⟩:=pl;exact ⟨o,e,hd⟩
  ·refine ⟨⟨o,I.kIn p o hk,hc⟩,fun a e=>?_⟩
   cases e;exact ⟨o,I.kIn _ o hk,hd⟩
  ·have z:∃o,s.heap.get? p=some o/\o.ExactDict:=by
    rcases hk with ⟨kvs,hk⟩ | ⟨kvs,hk⟩
    ·obtain ⟨_,_,_,_,o,_,_,e,ex,_⟩:=I.hok p _ hk
     exact ⟨o,e,ex⟩
    ·obtain ⟨_,_,_,_,o,_,_,e,ex,_⟩:=I.hok p _ hk
     exact ⟨o,e,ex⟩
   obtain ⟨o,e,ex⟩:=z;refine ⟨⟨o,e,ex.1⟩,fun a e2=>?_⟩
   cases e2;exact ⟨o,e,ex.2.1⟩
  ·obtain ⟨o,_,_,_,e,ex,_⟩:=I.hok p _ hk
   refine ⟨⟨o,e,ex.1⟩,fun a e2=>?_⟩
   cases e2;exact ⟨o,e,ex.2.1⟩
 | _=>exact False.elim ty
def oR (K:Fg) (T:String) (r:V->List V->Hp->VK->Prop) (to:TE) (t:TA):TE:=fun σ H Q=>to σ H fun x H1=>HX K T x H1/\t σ H1 fun xs H2=>r x xs H2 Q
variable {o e:Expr} {es:List Expr} {to:TE} {t:TA} {name:Str} {apos cpos:Pos} {T id:String} {r:V->List V->Hp->VK->Prop}
theorem kh (pa:PlainAttrs T) (slot:Slot T name id) (hty:typeOf (.builtin id)=pure (.type "method_descriptor")) (hm:Jv X id r) (ho:PE X o to) (ha:PA X (e::es) t)
  (hbase:attributeBase o name X.env (eval o X.env)=eval o X.env:=by rfl)
  (hfew:((backTo cpos (starEach (e::es) X.env)).all (fun x=>!x.1)&&(backToKw cpos (keywordEach [] X.env)).all (fun x=>x.1.isSome)
   && decide ((e::es).length+([]:List Keyword).length+(if ([]:List Keyword).isEmpty then 0 else 1)<30))=true:=by rfl)
  (hline:(apos.endLine==cpos.line)=true:=by rfl) (hs:starEach (e::es) X.env=(false,eval e X.env)::starEach es X.env:=by rfl) (hplain:(backTo cpos (starEach es X.env)).any (·.1)=false:=by rfl) :
  PE X (.Call (.Attribute o name apos) (e::es) [] cpos) (oR X.K T r to t):=by
 intro pins s σ H Q I h;refine wpAny_Call_method_late hbase hfew hline rfl (bq (ho pins s σ H _ I h) fun v s1 ⟨x,H1,I1,r1,ty,q1⟩=>?_)
 obtain ⟨h1,h2⟩:=yq I1 r1 ty;refine ⟨T,id,pa,slot,hty,h1,h2,?_⟩
 have hA:=ha cpos pins s1 σ H1 _ I1 q1
 rw [hs] at hA ⊢;refine Calls.callWith_builtin (by show (false||(backTo cpos (starEach es X.env)).any (·.1))=false;rw [hplain]<;>rfl) (Calls.evalArgs_plain ?_)
 exact bq hA fun us s2 ⟨vs,H2,I2,r2,q2⟩=>hm pins s2 σ H2 x vs v us Q I2 r1 r2 q2
end
def Jw (X:Cx) (id:String) (r:V->List V->Hp->VK->Prop):Prop:=
 ∀(pins:List (Addr×Obj)) (s:Shared) (σ:St) (H:Hp) (x:V) (xs:List V) (v:Value) (us:List Value) (Q:VK),Inv X pins σ H s->RelV x v->Vals xs us->r x xs H Q ->
  wpAny (model X.prog X.w) X.A (call (.builtin id) (v::us)) (EP X pins σ Q) X.xe s
theorem Vals.one:∀{x:V} {us:List Value},Vals [x] us->∃u,us=[u]/\RelV x u
 | _,_,.cons r .nil=>⟨_,rfl,r⟩
section
variable {X:Cx} {pins:List (Addr×Obj)} {σ:St} {H:Hp} {s:Shared} {l b:Addr} {xs ys zs:List V}
theorem Inv.lset {its its':List Value} {n:Nat} {f:Array Value->Array Value} {t':Nat} (I:Inv X pins σ H s) (hH:H l=some (.lst xs))
  (e:s.heap.get? l=some { cls:=.type "list",data:=.seq its.toArray n }) (hf:f its.toArray=its'.toArray) (hv:Vals ys its') (hz:ys.length<=sizeLine) :
  Inv X pins σ (upd H l (.lst ys)) { s with heap:=s.heap.update l (Obj.mapSeq f),toks:=t' }:=by
 have q:=PySem.IsL.update e f
 rw [hf] at q;refine I.write (x:=l) (e:=l) (by rw [hH];exact trivial) (.inl rfl) (fun b' u hb hu=>(Heap.get?_update_other s.heap (Obj.mapSeq f) (Ne.symm hb)).trans hu) ⟨_,q⟩ ?_
 exact ⟨hz,its',_,hv,q⟩
theorem Inv.lstM (I:Inv X pins σ H s) (hH:H l=some (.lst xs)):xs.length<=sizeLine/\∃(its:List Value) (n:Nat),Vals xs its/\xs.length=its.length/\s.heap.get? l=some { cls:=.type "list",data:=.seq its.toArray n }:=by
 obtain ⟨z,its,n,r,e⟩:=I.hok l _ hH;exact ⟨z,its,n,r,r.length,e⟩
end
section
variable {X:Cx}
def oF:V->List V->Hp->VK->Prop:=fun x vs H Q=>∃l xs y,x=.ref l/\vs=[y]/\H l=some (.lst xs)/\xs.length<sizeLine/\Q .non (upd H l (.lst (xs++[y])))
theorem AW:Jw X "list.append" oF:=by
 intro pins s σ H x vs v us Q I rx rv h;obtain ⟨l,xs,y,rfl,rfl,hH,hz,q⟩:=h
 cases rx;obtain ⟨u,rfl,ru⟩:=rv.one;obtain ⟨z,its,n,r,hl,e⟩:=I.lstM hH;refine call_meets F.slot_list_append ⟨_,e,rfl⟩ F.entry_list_append (F.args_list_append_2 _ _) (PySem.list_append l its.toArray n u (by rw [size_toArray];omega)) ⟨e,?_⟩
 refine ⟨.non,_,I.lset (its':=its++[u]) hH e (by simp) (r.append (.cons ru .nil)) ?_,rfl,q⟩
 rw [length_append,length_singleton];omega
end
section
variable {prog:Program} {w:World} {A:Around} {E:Value->Shared->Prop} {s:Shared}
set_option maxRecDepth 100000 in
end
end L2
namespace Att
open PySem PySem.W PySem.Calls PyProof.Rows
theorem fP {P:Params} {h:Heap}:∀(ns:List Int) (vs:List Value),WellAll P h vs (ns.map WData.int)->IntsAre vs ns:=by
 intro ns;induction ns with
 | nil=>
  intro vs w;rw [List.map_nil] at w
  cases w;exact .nil
 | cons n ns ih=>
  intro vs w;rw [map_cons] at w
  cases w with
  | cons a b=>
   cases a;exact .cons _ _ (ih _ b)
theorem oY {l:OpenLaw} {n:Nat} (hn:l.most=some n) {P:Params} {h:Heap} {args:List WData} {vals:List Value}
  (hpre:l.row.toRowW.claim.pre args=true) (hwl:WellAll P h vals args) :
  ∃a vs ns,vals=[Value.ref a]/\args=[WData.list (ns.map WData.int)]/\h.get? a=some { cls:=.type "list",data:=.seq vs.toArray }/\IntsAre vs ns/\ns.length<=n:=by
 have hsh:WShape.hasAll [] args [.list .int]=true:=(pre_splitW hpre).1
 have hc:l.pre.holds [] { args:=args }=true:=(pre_splitW hpre).2
 obtain ⟨d,r,rfl,h1,h2⟩:=hasAllW_cons hsh;obtain rfl:=hasAllW_nil h2
 obtain ⟨xs,rfl,h3⟩:=hasW_list h1;obtain ⟨ns,rfl⟩:=items_int h3;have hlen:ns.length<=n:=by
  unfold OpenLaw.pre at hc;have h4:(WTm.not (.lt (.lit (.int (n:Int))) (.len (.arg 0)))).holds [] { args:=[.list (ns.map .int)] }=true:=by
   have h4:=(holds_andW hc).1
   rw [hn] at h4;exact h4
  have h5:=condW_of h4 (w_not (w_lt w_lit (w_len_list (w_arg rfl))))
  rw [length_map] at h5;refine Nat.le_of_not_lt fun q=>?_
  have q':(n:Int)<((ns.length:Nat):Int):=by omega
  first
   | (rw [decide_eq_true q'] at h5;exact absurd h5 (by decide))
   | (simp at h5;omega)
 cases hwl with
 | cons w1 w2=>
  cases w2
  cases w1 with
  | list ho hall=>exact ⟨_,_,ns,rfl,rfl,ho,fP ns _ hall,hlen⟩
theorem pj (l:OpenLaw) (args:List WData):l.row.toRowW.claim.post args (.bool true) args=true:=
 postW_of (r:=l.row.toRowW) (X:=(true==true))
  (show WShape.has [] (.bool true) .bool=true by first | rfl | decide | simp [WShape.has,WShape.arms,WShape.armsAll])
  (show (WTm.eq .res (.lit (.bool true))).value [] { args:=args,res:=some (.bool true),after:=args }=some (.bool (true==true)) from w_eq_bool (w_res rfl) w_lit) rfl
theorem attach_call {l:OpenLaw} {n:Nat} {q:Program} {loose:List Str} {XP:(Str->Option Value)->Heap->Prop} {YP:World->Heap->Prop} {d:DefRec}
  (hn:l.most=some n) (hdf:d.params.defaults=[])
  (call:∀(w:World) (s₀ s₁:Shared) (mg mb:Str->Option Value) (fa:Addr) (o:Obj) (pm cd doc:Value) (a:Addr) (vs:List Value) (ns:List Int),
   Ground q loose [] XP w s₀ mg mb s₁.heap->YP w s₁.heap ->
   s₁.heap.get? fa=some o->o.data=.func (docDef d.name d.params d.body d.scope pm cd doc)->s₁.heap.CodeRec cd d.name->mg d.name=some (.ref fa) ->
   s₁.heap.get? a=some { cls:=.type "list",data:=.seq vs.toArray }->IntsAre vs ns->ns.length<=n->s₁.gens=#[] ->
   codeAny (model l.prog w) callerA (.call (.ref fa) ⟨[.ref a],[]⟩) (fun r s'=>r=.ok (.ret (.bool true))/\OldK s₁.heap s'.heap/\s'.os=s₁.os/\AllBare s'.gens) s₁) :
  WalkO q loose XP YP l.row.toRowW d [] (fun f vs=>PySem.call f vs):=by
 intro w s₀ s₁ mg mb G Y fa o pm cd doc dV kV ho hd hcd hD hmg hg args vals as hpre hlay hrd hwl hlo;obtain rfl:dV=.none:=Dflts.none hD hdf
 obtain rfl:kV=.none:=Dflts.noKw hD
 obtain ⟨a,vs,ns,rfl,rfl,hobj,hints,hlen⟩:=oY hn hpre hwl;refine enter_call (codeAny_mono (call w s₀ s₁ mg mb fa o pm cd doc a vs ns G Y ho (fd_plain hd) hcd hmg hobj hints hlen hg) fun r s' hq=>?_)
 obtain ⟨rfl,h2,h3,h4⟩:=hq;exact ⟨.inl ⟨.bool true,.bool true,[],rfl,fun _=>rfl,.bool true,pj l _,fun _=>⟨List.Pairwise.nil,fun _ hm=>(nomatch hm)⟩⟩,h2,h3,h4⟩
end Att
namespace L2
open PySem PySem.Spec PyProof.Rows
theorem iE:∀{vs:List Value} {ns:List Int},IntsAre vs ns->Vals (ns.map V.int) vs
 | _,_,.nil=>.nil
 | _,_,.cons n t h=>.cons ⟨t,rfl⟩ (iE h)
def Ay (H:Hp):Prop:=∀b,H b=none\/∃o xs,H b=some (.frz o (.lst xs))
theorem sP {P:Program} {w:World} {K:Fg} {mg mb:Str->Option Value} {CX:uh} {k:Nat} {fa a:Addr} {fd:FuncData} {x:Str} {sp:Sp} {s₁:Shared} {vs:List Value} {ns:List Int}
  (KX:K.In s₁.heap) (hns:s₁.heap.Ns mainGlobals mg) (hb:s₁.heap.Ns builtinsNs mb) (hbb:∀x:Str,x ≠ "__name__"->mb x=bootBuiltins x) (hlim:s₁.heap.NoLimit) (hg:s₁.gens=#[])
  (ha:s₁.heap.get? a=some { cls:=.type "list",data:=.seq vs.toArray }) (hi:IntsAre vs ns) (hl:ns.length<=sizeLine) (hr:Room k callerA)
  (F:∀base:Heap,K.In base->base.Ns mainGlobals mg->cE P w K mg base CX k fa fd [x] sp) (hbind:∀(s:Shared) (u:Value),BindsTo s fd ⟨[u],[]⟩ [(x,u)])
  (hsp:∀H:Hp,Ay H->SqL K H a (ns.map V.int)->sp [.ref a] H (fun v _=>v=.bl true) fun _ _ _=>False)
  (hCX:∀H e s',CX [] H s₁ (fun _ _ _=>False) e s'->False) :
  codeAny (model P w) callerA (.call (.ref fa) ⟨[.ref a],[]⟩) (fun r s'=>r=.ok (.ret (.bool true))/\OldK s₁.heap s'.heap/\s'.os=s₁.os/\AllBare s'.gens) s₁:=by
 have rv:=iE hi
 have lenV:=hi.length
 have core:∀H:Hp,Ay H->SqL K H a (ns.map V.int)->HOk P w H s₁.heap->(∀b,H b≠none->b=a)->(H a≠none->K.lookup a=none) ->
   codeAny (model P w) callerA (.call (.ref fa) ⟨[.ref a],[]⟩) (fun r s'=>r=.ok (.ret (.bool true))/\OldK s₁.heap s'.heap/\s'.os=s₁.os/\AllBare s'.gens) s₁:=by
  intro H hO hS hok hA hK;have base_of:∀{b:Addr} {o:Obj},s₁.heap.get? b=some o->H b=none->(js s₁.heap H).get? b=some o:=fun e n=>tf e n
  have noA:∀{b:Addr} {o:Obj} {es:Array DictEntry} {ep:Nat},s₁.heap.get? b=some o->o.data=.dict es ep->H b=none:=fun {b o es ep} e d=>by
   cases q:H b with
   | none=>rfl
   | some u=>
    have e':b=a:=hA b (by rw [q];simp)
    subst e'
    rw [ha] at e;cases e;have d':Data.seq vs.toArray _=Data.dict es ep:=d
    cases d'
  have nsK:∀{b:Addr} {m:Str->Option Value},s₁.heap.Ns b m->(js s₁.heap H).Ns b m:=fun {b m} ⟨o,es,ep,e,d,r⟩=>⟨o,es,ep,base_of e (noA e d),d,r⟩
  have hKb:K.In (js s₁.heap H):=fun b o e=>base_of (KX b o e) (by
   cases q:H b with
   | none=>rfl
   | some u=>
    have e':b=a:=hA b (by rw [q];simp)
    subst e'
    rw [hK (by rw [q];simp)] at e;cases e)
  have hM:Mod K mg (js s₁.heap H):=⟨hKb,nsK hns,⟨mb,nsK hb,hbb⟩,let ⟨mc,h1,h2⟩:=hlim;⟨mc,nsK h1,h2⟩⟩
  have e0:wX P w K mg (js s₁.heap H) callerA [] s₁ H:=⟨rfl,hM,fun b o e=>vJ e,Nat.le_of_eq (pP _ _),trivial,fun b hb=>absurd (show b∈([]:List Addr) from hb) (by simp),hok,.of_eq hg⟩
  refine codeAny_mono ((F _ hKb (nsK hns)).run callerA [] s₁ H ⟨[.ref a],[]⟩ [.ref a] [.ref a] _ _ hr e0 (hbind s₁ (.ref a)) (.cons rfl .nil) (hsp H hO hS)) fun r s' h=>?_
  cases r with
  | error e=>exact (hCX H e s' h).elim
  | ok fl=>
   cases fl with
   | next=>exact False.elim h
   | brk=>exact False.elim h
   | cont=>exact False.elim h
   | ret u=>
    obtain ⟨v,H',os,bare,un,hok',r',q⟩:=h;have q':v=.bl true:=q
    subst q'
    obtain rfl:u=Value.bool true:=r'
    refine ⟨rfl,OldK.of_keep fun b o e=>?_,os,bare⟩
    cases q:H b with
    | none=>exact un.keep b o e q (by intro z;exact absurd (show b∈([]:List Addr) from z) (by simp)) (by simp)
    | some u=>
     rcases hO b with z | ⟨ob,xs,z⟩
     ·rw [q] at z;cases z
     ·have z2:=un.frzs b ob _ z
      obtain ⟨e1,_⟩:=hok b _ z;obtain ⟨e2,_⟩:=hok' b _ z2
      rw [e] at e1;cases e1;exact e2
 cases hk:K.lookup a with
 | some o=>
  have e:=KX a o hk
  rw [ha] at e
  cases e;refine core (fun _=>none) (fun _=>.inl rfl) (.inr ⟨_,vs.toArray,_,hk,rfl,rfl,rfl,by rw [size_toArray,lenV];exact hl,by simpa using rv⟩) (fun b u z=>by have z':(none:Option HO)=some u:=z;cases z') (fun b z=>absurd rfl z) fun z=>absurd rfl z
 | none=>
  refine core (fun b=>if b=a then some (.frz { cls:=.type "list",data:=.seq vs.toArray } (.lst (ns.map V.int))) else none) (fun b=>?_) (.inl (.inr ⟨{ cls:=.type "list",data:=.seq vs.toArray },if_pos rfl⟩)) (fun b u z=>?_) (fun b z=>?_) fun _=>hk
  ·by_cases hb:b=a
   ·exact .inr ⟨_,_,if_pos hb⟩
   ·exact .inl (if_neg hb)
  ·by_cases hb:b=a
   ·have z':=(if_pos hb).symm.trans z
    cases z'
    subst hb;exact ⟨ha,by rw [length_map];exact hl,vs,_,rv,ha⟩
   ·have z':=(if_neg hb).symm.trans z
    cases z'
  ·by_cases hb:b=a
   ·exact hb
   ·exact absurd (if_neg hb) z
theorem walk_of {l:PySem.W.OpenLaw} {n k:Nat} {q:Program} {loose:List Str} {XP:(Str->Option Value)->Heap->Prop} {YP:World->Heap->Prop} {d:DefRec} {K:Params->Fg} {CX:World->uh} {sp:World->Sp} {x:Str}
  (hn:l.most=some n) (hn2:n<=sizeLine) (hdf:d.params.defaults=[]) (hr:Room k callerA)
  (hY:∀(w:World) (h:Heap),YP w h->(K w.params).In h)
  (F:∀(w:World) (mg:Str->Option Value) (fa:Addr) (h:Heap),(K w.params).In h->h.Ns mainGlobals mg->mg d.name=some (.ref fa) ->
   ∃fd:FuncData,(∀(s:Shared) (u:Value),BindsTo s fd ⟨[u],[]⟩ [(x,u)]) /\
    ∀base:Heap,(K w.params).In base->base.Ns mainGlobals mg->cE l.prog w (K w.params) mg base (CX w) k fa fd [x] (sp w))
  (hsp:∀(w:World) (H:Hp) (a:Addr) (ns:List Int),ns.length<=n->Ay H->SqL (K w.params) H a (ns.map V.int)->sp w [.ref a] H (fun v _=>v=.bl true) fun _ _ _=>False)
  (hCX:∀(w:World) (H:Hp) (s:Shared) (e:Value) (s':Shared),CX w [] H s (fun _ _ _=>False) e s'->False) :
  PySem.W.WalkO q loose XP YP l.row.toRowW d [] (fun f vs=>PySem.call f vs):=by
 refine Att.attach_call hn hdf fun w s₀ s₁ mg mb fa o pm cd doc a vs ns G Y ho hd hcd hmg hobj hints hlen hg=>?_
 have KX:=hY w _ Y
 obtain ⟨fd,hb,hF⟩:=F w mg fa _ KX G.T.g hmg;exact sP KX G.T.g G.T.b G.T.builtins G.T.nolimit hg hobj hints (Nat.le_trans hlen hn2) hr hF hb (fun H hO hS=>hsp w H a ns hlen hO hS) fun H e s'=>hCX w H s₁ e s'
def AM (s:Stmt):Arguments:=match s with
 | .FunctionDef _ a _ _ _ _ _ _ _ _=>a
 | _=>{ posonlyargs:=[],args:=[],vararg:=none,kwonlyargs:=[],kw_defaults:=[],kwarg:=none,defaults:=[] }
def jG (s:Stmt):List Stmt:=match s with
 | .FunctionDef _ _ b _ _ _ _ _ _ _=>b
 | _=>[]
def cP (s:Stmt):Scope:=match s with
 | .FunctionDef _ _ _ _ _ _ sc _ _ _=>sc
 | _=>{ kind:=.function,names:=[],isGenerator:=false,isCoroutine:=false }
abbrev g7:uh:=fun _ _ _ _ _ _=>False
abbrev E0:XK:=fun _ _ _=>False
theorem iN {X:Cx}:Eu g7 X E0:=fun _ _ _ _ _ _ _ h=>h.elim
structure Fun (K:Fg) (x qual:Str) (st:Stmt) (f:Addr) (fd:FuncData):Prop where
 ex:∃(oc:Value) (od:Option Addr) (kV doc pm:Value) (an:Option Addr) (cdv ct:Value) (osl:Array (Option Value)),
  fd=PySem.W.fnOf x qual (AM st) (jG st) (cP st) .none kV doc pm an cdv ct/\K.lookup f=some ⟨oc,od,.func fd,osl⟩/\PySem.W.codeIn K cdv qual=true
 kp:PySem.W.keepIn K (.ref f)=true
section
variable {P:Program} {w:World} {K:Fg} {mg:Str->Option Value} {base:Heap}
theorem Fun.ok {x qual:Str} {st:Stmt} {f:Addr} {fd:FuncData} {N ps:List Str} {k:Nat} {sp:Sp} (F:Fun K x qual st f fd) (S:bB N ps (cP st)) (len:∀vs H Q E,sp vs H Q E->vs.length=ps.length)
  (hbody:∀(cdv:Value) (A:Around) (outer:List Env) (s:Shared) (H:Hp) (vs:List V) (Q:VK) (E:XK),Room k (A.deeper (envOfC qual (cP st) s.heap.objs.size f cdv))->sp vs H Q E ->
   ∃t,PSs (jy g7 P w K mg base N qual (cP st) f cdv A outer s H E).nox (jG st) t/\t { nx:=fun _ H'=>Q .non H',rt:=Q } (start N vs) H):cE P w K mg base g7 (k+1) f fd ps sp:=by
 obtain ⟨oc,od,kV,doc,pm,an,cdv,ct,osl,rfl,lk,hcd⟩:=F.ex;refine CJ lk hcd S len fun A outer s H vs Q E hr hsp=>?_
 obtain ⟨t,h,q⟩:=hbody cdv A outer s H vs Q E hr hsp;exact ⟨t,h.nox,q⟩
theorem Fun.binds {x qual:Str} {st:Stmt} {f:Addr} {fd:FuncData} {ps:List Str} (F:Fun K x qual st f fd)
  (h:∀(kV doc pm:Value) (an:Option Addr) (cdv ct:Value) (us:List Value),us.length=ps.length->bindArgs (PySem.W.fnOf x qual (AM st) (jG st) (cP st) .none kV doc pm an cdv ct) ⟨us,[]⟩=pure (ps.zip us)):Binds K fd ps []:=by
 obtain ⟨oc,od,kV,doc,pm,an,cdv,ct,osl,rfl,lk,hcd⟩:=F.ex;exact .all (h kV doc pm an cdv ct)
theorem zT {x qual:Str} {st:Stmt} {f:Addr} {oc:Value} {od an:Option Addr} {osl:Array (Option Value)} {kV doc pm cdv ct:Value} (l:K.lookup f=some ⟨oc,od,.func (PySem.W.fnOf x qual (AM st) (jG st) (cP st) .none kV doc pm an cdv ct),osl⟩)
  (c:PySem.W.codeIn K cdv qual=true) (k:PySem.W.keepIn K (.ref f)=true):Fun K x qual st f (PySem.W.fnOf x qual (AM st) (jG st) (cP st) .none kV doc pm an cdv ct):=⟨⟨oc,od,kV,doc,pm,an,cdv,ct,osl,rfl,l,c⟩,k⟩
end
theorem oV {n:Nat} (h:n<=1000):n<sizeLine:=Nat.lt_of_le_of_lt h (by decide)
theorem cX {A B:Prop} (h:B):if false=true then A else B:=by
 rw [if_neg Bool.false_ne_true];exact h
theorem dq {A B:Prop} (h:A):if true=true then A else B:=by
 rw [if_pos rfl];exact h
def Same (H H':Hp):Prop:=∀b o,H b=some o->H' b=some o
theorem Same.refl (H:Hp):Same H H:=fun _ _ h=>h
theorem Same.trans {H H1 H2:Hp} (a:Same H H1) (b:Same H1 H2):Same H H2:=fun c o h=>b c o (a c o h)
theorem Same.free {H H':Hp} (e:Same H H') {l:Addr} (h:H' l=Option.none):H l=Option.none:=by
 cases q:H l with
 | none=>rfl
 | some o=>
  rw [e l o q] at h
  cases h
theorem Same.seq {K:Fg} {H H':Hp} {a:Addr} {xs:List V} (e:Same H H') (h:SqL K H a xs):SqL K H' a xs:=by
 rcases h with (h | ⟨o,h⟩) | h
 ·exact .inl (.inl (e _ _ h))
 ·exact .inl (.inr ⟨o,e _ _ h⟩)
 ·exact .inr h
section
variable {prog:Program} {w:World} {A:Around} {R:Result->Shared->Prop} {s:Shared}
abbrev wV:Value->Shared->Prop:=fun _ _=>False
theorem jz {elt target iter:Expr} {ifs:List Expr} {scope:Scope} {pos:Pos} {it acc:Value} {env:Env} (I:Nat->Shared->Prop)
  (turn:∀n s,I n s->wpAny (model prog w) A (pyNext it) (fun r s₁=>match r with
   | none=>R (.ok .next) s₁
   | some v=>wpAny (model prog w) A (letOwnedTupleGo target it v) (fun _ s₁'=>wpAny (model prog w) A (assign target env v) (fun _ s₂=>
     wpAny (model prog w) A (forIn ifs true fun c r=>if r=true then do let ok <-isTrue c env (eval c env);pure (ForInStep.yield ok) else pure (ForInStep.yield r)) (fun ok s₃=>
      if ok=true then wpAny (model prog w) A (eval elt env) (fun x s₄=>
       wpAny (model prog w) A (call (.builtin "list.append") [acc,x]) (fun _ s₅=>∃m,m<n/\I m s₅) wV s₄) wV s₃
      else ∃m,m<n/\I m s₃) wV s₂) wV s₁') wV s₁) wV s)
  (n:Nat) (h:I n s) :
  codeAny (model prog w) A (.compLoop (.ListComp elt [⟨target,iter,ifs,0⟩] scope pos) 0 it acc env) R s:=by
 refine codeAny_loop rfl I (fun n s hI=>?_) n h
 show wpAny _ A ((compTurn (.ListComp elt [⟨target,iter,ifs,0⟩] scope pos) 0 it acc env).onRaise (fun x=>do noteFrame x env;theTreesLotGoes x)) _ _ s
 refine wpAny_noted ?_
 rw [compTurn_list];have F:∀{Z:Value->Shared->Prop},∀(e:Value) (s:Shared),wV e s->Z e s:=fun _ _ x=>x.elim
 refine wpAny_bind (wpAny_standAt (wpAny_bind (wpAny_mono (turn n s hI) (fun r s₁ h₁=>?_) F)))
 cases r with
 | none=>exact wpAny_pure h₁
 | some v=>
  refine wpAny_bind (wpAny_mono h₁ (fun _ s₁' h₁'=>?_) F)
  refine wpAny_bind (wpAny_mono h₁' (fun _ s₂ h₂=>wpAny_bind (wpAny_mono h₂ (fun ok s₃ h₃=>?_) F)) F)
  cases ok with
  | false=>exact wpAny_pure ⟨rfl,h₃⟩
  | true=>
   exact wpAny_bind (wpAny_bind (wpAny_mono h₃ (fun x s₄ h₄=>wpAny_bind (wpAny_mono h₄ (fun _ s₅ h₅=>wpAny_pure (wpAny_pure ⟨rfl,h₅⟩)) F)) F))
end
def bX (env:Env):List (Str×NameKind)->List (Str×Addr)->List (Str×Addr)
 | [],acc=>acc
 | (n,k)::r,acc=>if k==.free then bX env r ((n,(env.cells.lookup n).getD 0)::acc) else bX env r acc
theorem FF {env:Env}:∀(names:List (Str×NameKind)) (acc:List (Str×Addr)),(∀n,(n,NameKind.free)∈names->∃c,env.cells.lookup n=some c) ->
  (forIn names acc fun (x:Str×NameKind) (cs:List (Str×Addr))=>(match x with | (name,kind)=>if kind==.free then (do let a <-cellOf env name;pure (ForInStep.yield ((name,a)::cs))) else pure (ForInStep.yield cs):Sem (ForInStep (List (Str×Addr)))))=(pure (bX env names acc):Sem (List (Str×Addr)))
 | [],acc,_=>by rw [List.forIn_nil];rfl
 | (n,k)::r,acc,h=>by
  rw [List.forIn_cons];unfold bX;by_cases hk:(k==.free)=true
  ·simp only [hk,if_true]
   have hk':k=.free:=by simpa using hk
   obtain ⟨c,hc⟩:=h n (by rw [hk'];exact mem_cons_self)
   have e:cellOf env n=pure c:=by unfold cellOf;rw [hc]
   rw [e,hc];exact FF r ((n,c)::acc) fun n' hn=>h n' (mem_cons_of_mem _ hn)
  ·rw [if_neg hk]
   simp only [hk]
   exact FF r acc fun n' hn=>h n' (mem_cons_of_mem _ hn)
theorem ez {env:Env} {scope:Scope} (h:∀n,(n,NameKind.free)∈scope.names->∃c,env.cells.lookup n=some c):closureFor scope env=pure (bX env scope.names []):=by
 have:=FF (env:=env) scope.names [] h
 unfold closureFor;rw [show (pure (bX env scope.names []):Sem (List (Str×Addr)))=(pure (bX env scope.names []) >>= fun x=>pure x) from rfl,<-this]
theorem FK {env:Env} {x:Str} {c:Addr}:∀{names:List (Str×NameKind)} {acc:List (Str×Addr)},(∀n,(n,NameKind.free)∈names->∃c,env.cells.lookup n=some c)->(bX env names acc).lookup x=some c->env.cells.lookup x=some c\/acc.lookup x=some c
 | [],_,_,e=>.inr e
 | (n,k)::r,acc,h,e=>by
  unfold bX at e;have h':∀n',(n',NameKind.free)∈r->∃c,env.cells.lookup n'=some c:=fun n' hn=>h n' (mem_cons_of_mem _ hn)
  by_cases hk:(k==.free)=true
  ·rw [if_pos hk] at e
   rcases FK h' e with q | q
   ·exact .inl q
   ·rw [lookup_cons] at q
    have hk':k=.free:=by simpa using hk
    obtain ⟨c',hc⟩:=h n (by rw [hk'];exact mem_cons_self)
    cases hx:x==n with
    | true=>
     rw [hx,hc] at q
     cases q;rw [eq_of_beq hx];exact .inl hc
    | false=>
     rw [hx] at q;exact .inr q
  ·rw [if_neg hk] at e
   exact FK h' e
theorem A9 {env:Env} {x:Str}:∀{names:List (Str×NameKind)} {acc:List (Str×Addr)},(x,NameKind.free)∈names\/(acc.lookup x).isSome=true->((bX env names acc).lookup x).isSome=true
 | [],_,h=>h.elim nofun id
 | (n,k)::r,acc,h=>by
  unfold bX;by_cases hk:(k==.free)=true
  ·rw [if_pos hk]
   refine A9 (names:=r) ?_
   rcases h with h | h
   ·rcases List.mem_cons.mp h with e | h
    ·cases e
     exact .inr (by rw [lookup_cons];simp)
    ·exact .inl h
   ·right
    rw [lookup_cons]
    cases hx:x==n with
    | true=>rfl
    | false=>exact h
  ·rw [if_neg hk]
   refine A9 (names:=r) ?_
   rcases h with h | h
   ·rcases List.mem_cons.mp h with e | h
    ·cases e
     exact absurd rfl hk
    ·exact .inl h
   ·exact .inr h
theorem BB {x:Str} {c:Addr}:∀{names:List (Str×NameKind)} {n:Nat} {acc:List (Str×Addr)},(cellsFrom n names acc).lookup x=some c->((x,NameKind.cell)∈names/\n<=c)\/acc.lookup x=some c
 | [],_,_,e=>.inr e
 | (y,k)::r,n,acc,e=>by
  unfold cellsFrom at e;by_cases hk:(k==.cell)=true
  ·rw [if_pos hk] at e
   have hk':k=.cell:=by simpa using hk
   rcases BB e with ⟨q,l⟩ | q
   ·exact .inl ⟨mem_cons_of_mem _ q,by omega⟩
   ·rw [lookup_cons] at q
    cases hx:x==y with
    | true=>
     rw [hx] at q
     cases q;exact .inl ⟨by rw [eq_of_beq hx,hk'];exact mem_cons_self,Nat.le_refl _⟩
    | false=>
     rw [hx] at q;exact .inr q
  ·rw [if_neg hk] at e
   rcases BB e with ⟨q,l⟩ | q
   ·exact .inl ⟨mem_cons_of_mem _ q,l⟩
   ·exact .inr q
theorem FQ {x y:Str} {c:Addr}:∀{names:List (Str×NameKind)} {n:Nat} {acc:List (Str×Addr)},(∀z d,acc.lookup z=some d->d<n)->(∀x y d,acc.lookup x=some d->acc.lookup y=some d->x=y) ->
  (cellsFrom n names acc).lookup x=some c->(cellsFrom n names acc).lookup y=some c->x=y
 | [],_,_,_,hi,e,e'=>hi _ _ _ e e'
 | (z,k)::r,n,acc,hl,hi,e,e'=>by
  unfold cellsFrom at e e'
  by_cases hk:(k==.cell)=true
  ·rw [if_pos hk] at e e'
   refine FQ (names:=r) (n:=n+1) (acc:=(z,n)::acc) (fun a d q=>?_) (fun a b d q q'=>?_) e e'
   ·rw [lookup_cons] at q
    cases hx:a==z with
    | true=>rw [hx] at q;cases q;exact Nat.lt_succ_self _
    | false=>rw [hx] at q;exact Nat.lt_succ_of_lt (hl a d q)
   ·rw [lookup_cons] at q q'
    cases hx:a==z with
    | true=>
     rw [hx] at q
     cases q
     cases hy:b==z with
     | true=>rw [eq_of_beq hx,eq_of_beq hy]
     | false=>rw [hy] at q';exact absurd (hl b n q') (Nat.lt_irrefl _)
    | false=>
     rw [hx] at q
     cases hy:b==z with
     | true=>rw [hy] at q';cases q';exact absurd (hl a n q) (Nat.lt_irrefl _)
     | false=>rw [hy] at q';exact hi a b d q q'
  ·rw [if_neg hk] at e e'
   exact FQ hl hi e e'
theorem FG {env:Env} {x:Str} {c:Addr}:∀{names:List (Str×NameKind)} {acc:List (Str×Addr)},(bX env names acc).lookup x=some c->(x,NameKind.free)∈names\/acc.lookup x=some c
 | [],_,e=>.inr e
 | (n,k)::r,acc,e=>by
  unfold bX at e;by_cases hk:(k==.free)=true
  ·rw [if_pos hk] at e
   have hk':k=.free:=by simpa using hk
   rcases FG e with q | q
   ·exact .inl (mem_cons_of_mem _ q)
   ·rw [lookup_cons] at q
    cases hx:x==n with
    | true=>rw [eq_of_beq hx,hk'];exact .inl mem_cons_self
    | false=>rw [hx] at q;exact .inr q
  ·rw [if_neg hk] at e
   rcases FG e with q | q
   ·exact .inl (mem_cons_of_mem _ q)
   ·exact .inr q
theorem DO {x:Str}:∀{names:List (Str×NameKind)} {n:Nat} {acc:List (Str×Addr)},(x,NameKind.cell)∈names\/(acc.lookup x).isSome=true->((cellsFrom n names acc).lookup x).isSome=true
 | [],_,_,h=>h.elim nofun id
 | (y,k)::r,n,acc,h=>by
  unfold cellsFrom;by_cases hk:(k==.cell)=true
  ·rw [if_pos hk]
   refine DO (names:=r) ?_
   rcases h with h | h
   ·rcases List.mem_cons.mp h with e | h
    ·cases e
     exact .inr (by rw [lookup_cons];simp)
    ·exact .inl h
   ·right
    rw [lookup_cons]
    cases hx:x==y with
    | true=>rfl
    | false=>exact h
  ·rw [if_neg hk]
   refine DO (names:=r) ?_
   rcases h with h | h
   ·rcases List.mem_cons.mp h with e | h
    ·cases e
     exact absurd rfl hk
    ·exact .inl h
   ·exact .inr h
theorem DN {x:Str}:∀{names:List (Str×NameKind)} {n:Nat} {acc:List (Str×Addr)},(x,NameKind.cell)∉names->(cellsFrom n names acc).lookup x=acc.lookup x
 | [],_,_,_=>rfl
 | (y,k)::r,n,acc,h=>by
  unfold cellsFrom;have hr:(x,NameKind.cell)∉r:=fun z=>h (mem_cons_of_mem _ z)
  by_cases hk:(k==.cell)=true
  ·rw [if_pos hk,DN hr,lookup_cons]
   have hk':k=.cell:=by simpa using hk
   cases hx:x==y with
   | true=>exact absurd (by rw [eq_of_beq hx,hk'];exact mem_cons_self) h
   | false=>rfl
  ·rw [if_neg hk]
   exact DN hr
theorem DP {x:Str} {c:Addr}:∀{names:List (Str×NameKind)} {n:Nat} {acc:List (Str×Addr)},(x,NameKind.cell)∈names->(cellsFrom n names acc).lookup x=some c->(cellsFrom n names []).lookup x=some c
 | [],_,_,h,_=>nomatch h
 | (y,k)::r,n,acc,h,e=>by
  unfold cellsFrom at e ⊢
  by_cases hk:(k==.cell)=true
  ·rw [if_pos hk] at e ⊢
   by_cases hr:(x,NameKind.cell)∈r
   ·have:∀{acc acc':List (Str×Addr)},(cellsFrom (n+1) r acc).lookup x=some c->(cellsFrom (n+1) r acc').lookup x=some c:=fun {a a'} q=>by
     have q0:=DP hr q
     have hs:=DO (n:=n+1) (acc:=a') (.inl hr)
     obtain ⟨c',hc'⟩:=Option.isSome_iff_exists.mp hs;have q1:=DP hr hc'
     rw [q0] at q1
     cases q1;exact hc'
    exact this e
   ·rw [DN hr] at e ⊢
    rw [lookup_cons] at e ⊢
    cases hx:x==y with
    | true=>rw [hx] at e;exact e
    | false=>
     rcases List.mem_cons.mp h with z | z
     ·cases z
      simp at hx
     ·exact absurd z hr
  ·rw [if_neg hk] at e ⊢
   rcases List.mem_cons.mp h with z | z
   ·cases z
    exact absurd rfl hk
   ·exact DP z e
def blk (X:Cx) (scope:Scope) (cells:List (Str×Addr)) (C:Addr) (s₀:Shared) (H₀:Hp) (ex:List Addr):Cx where
 prog:=X.prog
 w:=X.w
 K:=X.K
 mg:=X.mg
 base:=X.base
 A:=X.A
 N:=X.N
 s₀:=s₀
 H₀:=H₀
 env:={ scope:=relabel scope X.env,locals:=C,globals:=X.env.globals,cells:=cells,qual:=X.env.qual,func:=none,code:=X.env.code,frame:=X.env.frame,builtins:=X.env.builtins }
 outer:=X.stack
 stack:=X.stack
 ex:=ex
 fn:=fun x=>scope.names.any fun y=>y.1==x&&y.2==.cell
 calm:=X.calm
 pn:=[]
 xe:=fun _ _=>False
structure cF (N:List Str) (is:List Nat) (osc scope:Scope):Prop where
 kind:scope.kind=.function
 free:∀n,(n,NameKind.free)∈scope.names->osc.names.lookup n=some .cell\/osc.names.lookup n=some .free
 own:∀(i:Nat) (x:Str),N[i]?=some x->(x,NameKind.local)∈scope.names\/(x,NameKind.cell)∈scope.names->i∈is
 loc:∀x∈scope.names,x.2=.local->scope.names.lookup x.1=some .local
 one:∀n,(n,NameKind.free)∈scope.names->(n,NameKind.cell)∉scope.names
def aP (is:List Nat) (σ:St):St:=σ.mapIdx fun i v=>if i∈is then none else v
theorem xp (is:List Nat) (σ:St):(aP is σ).length=σ.length:=by unfold aP;simp
theorem DF {is:List Nat} {σ:St} {i:Nat} {v:V} (h:(aP is σ)[i]?=some (some v)):i∉is/\σ[i]?=some (some v):=by
 unfold aP at h;rw [List.getElem?_mapIdx] at h
 cases e:σ[i]? with
 | none=>rw [e] at h;cases h
 | some o=>
  rw [e] at h;simp only [Option.map_some,Option.some.injEq] at h
  by_cases hi:i∈is
  ·rw [if_pos hi] at h;cases h
  ·rw [if_neg hi] at h;exact ⟨hi,by rw [h]⟩
def Az (σ0 σ2:St):Prop:=σ2.length=σ0.length/\∀(i:Nat) v,σ0[i]?=some (some v)->σ2[i]?=some (some v)
theorem gG {x:Str} {k:NameKind} {l:List (Str×NameKind)} (h:l.lookup x=some k):(x,k)∈l:=PySem.mem_of_lookup h
theorem A7 {scope:Scope} {env:Env} {x:Str} {k:NameKind} (h:(relabel scope env).names.lookup x=some k) :
  (x,k)∈scope.names\/((x,NameKind.free)∈scope.names/\k=.cell):=by
 have h:=gG h
 unfold relabel at h;obtain ⟨⟨n,k'⟩,hm,e⟩:=List.mem_map.mp h;dsimp only at e;by_cases hc:(k'==NameKind.free&&env.scope.kind==.function&&env.kindOf n==some .cell)=true
 ·rw [if_pos hc] at e
  cases e;have:k'=.free:=by
   simp only [Bool.and_eq_true,beq_iff_eq] at hc
   exact hc.1.1
  exact .inr ⟨this▸hm,rfl⟩
 ·rw [if_neg hc] at e
  cases e;exact .inl hm
def ja (X:Cx) (scope:Scope) (C:Addr):List (Str×Addr):=cellsFrom (C+1) scope.names (bX X.env scope.names [])
section
variable {X:Cx} {pins:List (Addr×Obj)} {σ:St} {H:Hp} {s:Shared} {scope:Scope} {is:List Nat}
theorem Inv.freeCells (I:Inv X pins σ H s) (S:cF X.N is X.env.scope scope):∀n,(n,NameKind.free)∈scope.names->∃c,X.env.cells.lookup n=some c:=fun n hn=>
 I.ok.has n (S.free n hn)
theorem Inv.blkOld (I:Inv X pins σ H s) (S:cF X.N is X.env.scope scope) {x:Str} {c:Addr} (h:(bX X.env scope.names []).lookup x=some c):X.env.cells.lookup x=some c:=by
 rcases FK (I.freeCells S) h with q | q
 ·exact q
 ·cases q
theorem Inv.block {fp:List Addr} {t':Nat} (I:Inv X pins σ H s) (S:cF X.N is X.env.scope scope) (hf:∀b∈fp,iB X pins H b) (hfs:∀b∈fp,b<s.heap.objs.size) :
  Inv (blk X scope (ja X scope (s.heap.objs.size+1)) (s.heap.objs.size+1) s H fp) [] (aP is σ) (upd H s.heap.objs.size (.lst []))
   { s with heap:=pushCells ((s.heap.push { cls:=.type "list",data:=.seq ([]:List Value).toArray }).push { cls:=.type "dict",data:=.dict #[] }) scope.names,toks:=t' }:=by
 generalize hC:s.heap.objs.size+1=C
 have hDn:H s.heap.objs.size=none:=I.hok.fresh (Nat.le_refl _)
 have s1:(s.heap.push { cls:=.type "list",data:=.seq ([]:List Value).toArray }).objs.size=C:=by rw [Heap.size_push,hC]
 have kept:∀b o,s.heap.get? b=some o->(pushCells ((s.heap.push { cls:=.type "list",data:=.seq ([]:List Value).toArray }).push { cls:=.type "dict",data:=.dict #[] }) scope.names).get? b=some o:=
  fun b o e=>pushCells_keeps _ _ b o (Heap.get?_push_of_some _ (Heap.get?_push_of_some _ e))
 have cellsL:∀x c,(ja X scope C).lookup x=some c->((x,NameKind.cell)∈scope.names/\C+1<=c)\/X.env.cells.lookup x=some c:=fun x c e=>by
  rcases BB e with q | q
  ·exact .inl q
  ·exact .inr (I.blkOld S q)
 have oldLt:∀x c,X.env.cells.lookup x=some c->c<s.heap.objs.size:=fun x c e=>by
  obtain ⟨v,q⟩:=I.cell x c e;exact q.lt
 have cok:CellsOk (pushCells ((s.heap.push { cls:=.type "list",data:=.seq ([]:List Value).toArray }).push { cls:=.type "dict",data:=.dict #[] }) scope.names) (C+1)
   (cellsFrom (C+1) scope.names []):=by
  have:=cellsFrom_ok scope.names ((s.heap.push { cls:=.type "list",data:=.seq ([]:List Value).toArray }).push { cls:=.type "dict",data:=.dict #[] }) (C+1) [] ⟨fun _ _ hm=>(nomatch hm),List.Pairwise.nil⟩ (by rw [Heap.size_push,s1];exact Nat.le_refl _)
  rw [Heap.size_push,s1] at this;exact this
 have lt1:∀{b:Nat},b<s.heap.objs.size->b≠C:=fun {b} h e=>by subst e;rw [<-hC] at h;exact absurd (Nat.lt_of_succ_lt h) (Nat.lt_irrefl _)
 have hDle:s.heap.objs.size<=C:=by rw [<-hC];exact Nat.le_succ _
 have cellAt:∀x c,(ja X scope C).lookup x=some c->(C<c/\(pushCells ((s.heap.push { cls:=.type "list",data:=.seq ([]:List Value).toArray }).push { cls:=.type "dict",data:=.dict #[] }) scope.names).IsCell c none)\/X.env.cells.lookup x=some c:=fun x c e=>by
  rcases cellsL x c e with ⟨q1,q2⟩ | q
  ·exact .inl ⟨q2,(cok.empty x c (PySem.mem_of_lookup (DP q1 e))).1⟩
  ·exact .inr q
 refine ⟨⟨I.ok.mod,S.kind,I.ok.glob,I.ok.blt,hDle,?_,?_,?_,I.ok.hd,I.ok.frames,.inl rfl,?_,I.bs,Nat.le_trans I.ok.bsz I.sz,?_,?_,I.stack,I.stkFree⟩,rfl,I.bare,?_,?_,?_,?_,?_,fun p hp=>absurd (show p∈([]:List (Addr×Obj)) from hp) (by simp),?_,(xp _ _).trans I.len⟩
 ·-- inj
  intro x y c hx hy;refine FQ (fun z d q=>?_) (fun a b d q q'=>I.ok.inj a b d (I.blkOld S q) (I.blkOld S q')) hx hy
  exact Nat.lt_succ_of_lt (Nat.lt_of_lt_of_le (oldLt z d (I.blkOld S q)) hDle)
 ·-- has
  intro x hx;have q:((ja X scope C).lookup x).isSome=true:=by
   refine DO ?_
   have hx:(relabel scope X.env).names.lookup x=some .cell\/(relabel scope X.env).names.lookup x=some .free:=hx
   rcases hx with hx | hx
   ·rcases A7 hx with z | ⟨z,_⟩
    ·exact .inl z
    ·exact .inr (A9 (.inl z))
   ·rcases A7 hx with z | ⟨z,_⟩
    ·exact .inr (A9 (.inl z))
    ·exact .inr (A9 (.inl z))
  exact Option.isSome_iff_exists.mp q
 ·-- cab
  intro x c hx e;have hx:(scope.names.any fun y=>y.1==x&&y.2==NameKind.cell)=true:=hx
  obtain ⟨y,hy,hz⟩:=List.any_eq_true.mp hx;simp only [Bool.and_eq_true,beq_iff_eq] at hz
  have hm:(x,NameKind.cell)∈scope.names:=by rw [<-hz.1,<-hz.2];exact hy
  rcases BB e with ⟨_,q⟩ | q
  ·exact Nat.le_trans hDle (Nat.le_of_succ_le q)
  ·rcases FG q with z | z
   ·exact absurd hm (S.one x z)
   ·cases z
 ·-- exf
  intro b hb;obtain ⟨f0,f1,f2,f3,f4,f5⟩:=hf b hb;refine ⟨lt1 (hfs b hb),fun x c e z=>?_⟩
  rcases cellsL x c e with ⟨_,q⟩ | q
  ·subst z
   exact absurd (Nat.lt_of_lt_of_le (hfs _ hb) hDle) (Nat.not_lt.mpr (Nat.le_of_succ_le q))
  ·exact f4 x c q z
 ·-- noex
  intro b o e hb;obtain ⟨f0,f1,f2,f3,f4,f5⟩:=hf b hb;rcases f3 with z | z
  ·exact I.ok.noex b o e z
  ·exact absurd (Nat.lt_of_lt_of_le (Heap.lt_size e) (Nat.le_trans I.ok.bsz z)) (Nat.lt_irrefl _)
 ·-- exfs
  intro b hb z;obtain ⟨f0,f1,f2,f3,f4,f5⟩:=hf b hb;rcases List.mem_cons.mp (I.stkSub b z) with e | e
  ·exact f1 e
  ·exact f2 e
 ·-- base
  exact Un.laid kept (Nat.le_refl _) hDn
 ·-- loc
  refine ⟨fun _=>none,?_,fun i x v e1 e2 e3=>?_⟩
  ·have:=(Heap.Ns.new (s.heap.push { cls:=.type "list",data:=.seq ([]:List Value).toArray }) (.type "dict")).keeps (pushCells_keeps scope.names _)
   rw [s1] at this;exact this
  ·obtain ⟨hni,e2'⟩:=DF e2
   obtain ⟨m,hn,hl⟩:=id I.loc;have hfree:(x,NameKind.free)∈scope.names:=by
    have e3:(relabel scope X.env).names.lookup x=some .local\/(relabel scope X.env).names.lookup x=some .cell\/(relabel scope X.env).names.lookup x=some .free:=e3
    rcases e3 with z | z | z
    ·rcases A7 z with y | ⟨y,_⟩
     ·exact absurd (S.own i x e1 (.inl y)) hni
     ·exact y
    ·rcases A7 z with y | ⟨y,_⟩
     ·exact absurd (S.own i x e1 (.inr y)) hni
     ·exact y
    ·rcases A7 z with y | ⟨y,_⟩
     ·exact y
     ·exact y
   have hk:=S.free x hfree
   obtain ⟨u,r,l⟩:=hl i x v e1 e2' (.inr hk)
   refine ⟨u,r,?_⟩
   rcases l with ⟨k,_⟩ | ⟨k,c,e,z⟩
   ·have k:X.env.scope.names.lookup x=some .local:=k
    rcases hk with q | q<;>(rw [q] at k;cases k)
   ·refine .inr ⟨?_,c,?_,z.keeps kept⟩
    ·have e3:(relabel scope X.env).names.lookup x=some .local\/(relabel scope X.env).names.lookup x=some .cell\/(relabel scope X.env).names.lookup x=some .free:=e3
     rcases e3 with y | y | y
     ·rcases A7 y with y' | ⟨_,y'⟩
      ·exact absurd (S.own i x e1 (.inl y')) hni
      ·cases y'
     ·exact .inl y
     ·exact .inr y
    ·have q:=A9 (env:=X.env) (acc:=[]) (.inl hfree)
     obtain ⟨c',hc'⟩:=Option.isSome_iff_exists.mp q;have:=I.blkOld S hc'
     rw [e] at this
     cases this;show (ja X scope C).lookup x=some c
     unfold ja;rw [DN (S.one x hfree)];exact hc'
 ·-- cell
  intro x c e;rcases cellAt x c e with ⟨_,q⟩ | q
  ·exact ⟨_,q⟩
  ·obtain ⟨v,z⟩:=I.cell x c q
   exact ⟨v,z.keeps kept⟩
 ·-- free
  show upd H s.heap.objs.size (.lst []) C=none
  rw [bE (by rw [<-hC];exact Nat.ne_of_gt (Nat.lt_succ_self _))]
  exact I.hok.fresh hDle
 ·-- freeC
  intro x c e;show upd H s.heap.objs.size (.lst []) c=none
  rcases cellAt x c e with ⟨q,_⟩ | q
  ·have hc:s.heap.objs.size<c:=Nat.lt_of_le_of_lt hDle q
   rw [bE (Nat.ne_of_gt hc)];exact I.hok.fresh (Nat.le_of_lt hc)
  ·rw [bE (Nat.ne_of_lt (oldLt x c q))]
   exact I.freeC x c q
 ·-- hok
  exact I.hok.laid kept (Nat.le_refl _) ⟨Nat.zero_le _,[],0,.nil,pushCells_keeps _ _ _ _ (Heap.get?_push_of_some _ (Heap.get?_push_size _ rfl))⟩
end
section
variable {M:Model} {A:Around} {E:Value->Shared->Prop} {s:Shared}
theorem ie {scope:Scope} {globals:Addr} {cl:List (Str×Addr)} {qual:Str} {env:Env} {Q:Env->Shared->Prop}
  (hQ:Q (newEnv scope s.heap.objs.size globals (cellsFrom (s.heap.objs.size+1) scope.names cl) qual none .none (some env) builtinsNs) { s with heap:=pushCells (s.heap.push { cls:=.type "dict",data:=.dict #[] }) scope.names }) :
  wpAny M A (newFunctionEnv scope globals cl [] qual none .none (some env)) Q E s:=by
 simp only [newFunctionEnv,Option.isSome_some,if_true]
 refine wpAny_bind (wpAny_alloc ?_)
 refine wpAny_bind (wpAny_layCells _ (fun name kind cells=>by cases hkc:kind==NameKind.cell<;>simp [hkc]) _ _ _ _ ?_)
 rw [show ({ s with heap:=s.heap.push { cls:=.type "dict",data:=.dict #[] } }:Shared).heap.objs.size=s.heap.objs.size+1 from Heap.size_push ..]
 rw [List.forIn_nil];exact wpAny_bind (wpAny_pure (wpAny_pure hQ))
end
def PF (X:Cx) (ifs:List Expr) (t:TT):Prop:=
 ∀(pins:List (Addr×Obj)) (s:Shared) (σ:St) (H:Hp) (Q:Bool->Hp->Prop),Inv X pins σ H s->t σ H Q ->
  wpAny (model X.prog X.w) X.A (forIn ifs true fun c r=>if r=true then do let ok <-isTrue c X.env (eval c X.env);pure (ForInStep.yield ok) else pure (ForInStep.yield r)) (TP X pins σ Q) X.xe s
def gc:TT:=fun _ H Q=>Q true H
theorem Dm {X:Cx}:PF X [] gc:=fun pins s σ H Q I h=>wpAny_tests_nil ⟨H,I,h⟩
theorem se {X:Cx} {c:Expr} {t:TT} (h:PT X c t):PF X [c] t:=fun pins s σ H Q I q=>wpAny_tests_one (h pins s σ H Q I q)
def dh (is:List Nat) (wi:TI) (g:TG) (tc:TT) (te:TE):TE:=fun σ H Q=>wi σ H fun J H1=>∀D,H1 D=none->∃W:Nat->Nat->List V->Hp->Prop,(∃m,W 0 m [] (upd H1 D (.lst [])))/\∀k m ys H,W k m ys H ->
 H D=some (.lst ys)/\((J.stop k H/\Q (.ref D) H)\/(J.go k H/\ys.length<sizeLine/\∀x H',J.yld k H x H'->g x (aP is σ) H' fun σ2 H2=>Az (aP is σ) σ2/\tc σ2 H2 fun b H3=>
  if b=true then te σ2 H3 fun v H4=>H4 D=some (.lst ys)/\∃m',m'<m/\W (k+1) m' (ys++[v]) (upd H4 D (.lst (ys++[v]))) else ∃m',m'<m/\W (k+1) m' ys H3))
section
variable {X:Cx} {scope:Scope} {is:List Nat} {tg iter elt:Expr} {ifs:List Expr} {wi:TI} {g:TG} {tc:TT} {te:TE} {pos:Pos}
theorem iY {pins:List (Addr×Obj)} {s:Shared} {σ:St} {H:Hp} {Q:VK} {RR:Value->Addr->Result->Shared->Prop} (S:cF X.N is X.env.scope scope) (hcalm:X.calm=true) (hi:PI X tg iter wi)
  (hg:∀cells C s₀ H₀ ex,PG (blk X scope cells C s₀ H₀ ex) tg g) (hc:∀cells C s₀ H₀ ex,PF (blk X scope cells C s₀ H₀ ex) ifs tc) (he:∀cells C s₀ H₀ ex,PE (blk X scope cells C s₀ H₀ ex) elt te)
  (I:Inv X pins σ H s) (h:dh is wi g tc te σ H Q)
  (hRR:∀D C s' H' m,Inv X pins σ H' s'->s'.heap.Ns C m->Q (.ref D) H'->H' C=none->C≠X.env.locals->X.s₀.heap.objs.size<=C->(∀x c,X.env.cells.lookup x=some c->c≠C)->(∀p∈X.pn++pins,p.1≠C)->RR (.ref D) C (.ok .next) s') :
  wpAny (model X.prog X.w) X.A (eval iter X.env) (fun x s₁=>wpAny (model X.prog X.w) X.A (pyIter x) (fun it s₂=>wpAny (model X.prog X.w) X.A (newList []) (fun acc s₃=>
   wpAny (model X.prog X.w) X.A (newFunctionEnv scope X.env.globals (bX X.env scope.names []) [] X.env.qual none .none (some X.env)) (fun cenv s₄=>
    codeAny (model X.prog X.w) X.A (.compStart (.ListComp elt [⟨tg,iter,ifs,0⟩] scope pos) 0 it acc { cenv with scope:=relabel scope X.env }) (RR acc cenv.locals) s₄) X.xe s₃) X.xe s₂) X.xe s₁) X.xe s:=by
 refine bq (hi pins s σ H _ I h) fun v s1 h1=>bq h1 fun itv s2 h2=>?_
 obtain ⟨it,fp,tn,J,H2,e,I2,T,st2,f2,hW⟩:=h2;subst e;obtain ⟨W,⟨m0,w0⟩,turn⟩:=hW s2.heap.objs.size (I2.hok.fresh (Nat.le_refl _));refine wpAny_newObj_type (ie ?_)
 have s1:(s2.heap.push { cls:=.type "list",dict:=none,data:=.seq ([]:List Value).toArray }).objs.size=s2.heap.objs.size+1:=by rw [Heap.size_push]
 dsimp only;rw [s1];have hfs:∀b∈fp,b<s2.heap.objs.size:=fun b hb=>by
  obtain ⟨o,e,_⟩:=T.obj 0 _ st2 b hb;exact Heap.lt_size e
 have I4:=I2.block (t':=s2.toks) S f2 hfs
 generalize hCC:s2.heap.objs.size+1=C at I4 ⊢
 have hDC:s2.heap.objs.size<C:=by rw [<-hCC];exact Nat.lt_succ_self _
 have Hg:=hg (ja X scope C) C s2 H2 fp
 have Hc:=hc (ja X scope C) C s2 H2 fp
 have He:=he (ja X scope C) C s2 H2 fp
 have Ha:=AW (X:=blk X scope (ja X scope C) C s2 H2 fp)
 have hYcell:∀x c,(blk X scope (ja X scope C) C s2 H2 fp).env.cells.lookup x=some c->s2.heap.objs.size<=c\/X.env.cells.lookup x=some c:=fun x c e=>by
  have e:(cellsFrom (C+1) scope.names (bX X.env scope.names [])).lookup x=some c:=e
  rcases BB e with ⟨_,q⟩ | q
  ·exact .inl (Nat.le_trans (Nat.le_of_lt hDC) (Nat.le_of_succ_le q))
  ·exact .inr (I2.blkOld S q)
 have FY:∀{H':Hp},(∀b∈fp,H' b=none)->∀b∈fp,iB (blk X scope (ja X scope C) C s2 H2 fp) [] H' b:=fun {H'} hn b hb=>by
  obtain ⟨f0,f1,f3,f4,f5,f6⟩:=f2 b hb;refine ⟨hn b hb,Nat.ne_of_lt (Nat.lt_trans (hfs b hb) hDC),fun z=>?_,.inl hb,fun x c e z=>?_,fun p hp=>absurd (show p∈([]:List (Addr×Obj)) from hp) (by simp)⟩
  ·rcases List.mem_cons.mp (I2.stkSub b z) with e | e
   ·exact f1 e
   ·exact f3 e
  ·rcases hYcell x c e with q | q
   ·rw [z] at q
    exact absurd (Nat.lt_of_lt_of_le (hfs b hb) q) (Nat.lt_irrefl _)
   ·exact f5 x c q z
 have hCx:∀x c,X.env.cells.lookup x=some c->c≠C:=fun x c e z=>by
  obtain ⟨v,q⟩:=I2.cell x c e;have:=q.lt
  rw [z] at this;exact absurd (Nat.lt_trans this hDC) (Nat.lt_irrefl _)
 have hCp:∀p∈X.pn++pins,p.1≠C:=fun p hp z=>by
  have:=Heap.lt_size (I2.pin p hp).1
  rw [z] at this;exact absurd (Nat.lt_trans this hDC) (Nat.lt_irrefl _)
 have out:∀{σ':St} {H':Hp} {s':Shared},Inv (blk X scope (ja X scope C) C s2 H2 fp) [] σ' H' s'->Inv X pins σ H' s':=fun {σ' H' s'} J=>
  I2.call' (ch:=fp) J.os J.base J.hok J.bare fun b hb=>by
   obtain ⟨f0,f1,f3,f4,f5,f6⟩:=f2 b hb;exact ⟨f4,f1,f5,f6⟩
 have loop:∀s₃:Shared,s₃={ s2 with heap:=pushCells ((s2.heap.push { cls:=.type "list",data:=.seq ([]:List Value).toArray }).push { cls:=.type "dict",data:=.dict #[] }) scope.names } ->
   codeAny (model X.prog X.w) X.A (.compLoop (.ListComp elt [⟨tg,iter,ifs,0⟩] scope pos) 0 (.ref it) (.ref s2.heap.objs.size) (blk X scope (ja X scope C) C s2 H2 fp).env) (RR (.ref s2.heap.objs.size) C) s₃:=by
  rintro s₃ rfl
  refine jz (fun n s'=>∃k ys H',Inv (blk X scope (ja X scope C) C s2 H2 fp) [] (aP is σ) H' s'/\tn k s'.heap/\(∀b∈fp,H' b=none)/\W k n ys H') ?_ m0
   ⟨0,[],_,I4,T.keep 0 _ _ st2 fun b _ o e=>pushCells_keeps _ _ b o (Heap.get?_push_of_some _ (Heap.get?_push_of_some _ e)),fun b hb=>by rw [bE (Nat.ne_of_lt (hfs b hb))];exact (f2 b hb).1,w0⟩
  rintro n s3 ⟨k,ys,H3,I3,st3,fr3,w3⟩
  obtain ⟨hD3,hcase⟩:=turn k n ys H3 w3;rcases hcase with ⟨stop,qn⟩ | ⟨go,hlen,step⟩
  ·refine bq (T.done (blk X scope (ja X scope C) C s2 H2 fp) rfl rfl rfl hcalm k [] s3 (aP is σ) H3 wV I3 (FY fr3) st3 stop) fun r s4 ⟨hr,I4⟩=>?_
   subst hr;obtain ⟨m,hn,_⟩:=id I4.loc;exact hRR _ C s4 H3 m (out I4) hn qn I4.free (fun z=>Nat.lt_irrefl _ (Nat.lt_trans (Nat.lt_of_lt_of_eq hDC z) I2.lt)) (Nat.le_trans I2.sz (Nat.le_of_lt hDC)) hCx hCp
  ·refine bq (T.item (blk X scope (ja X scope C) C s2 H2 fp) rfl rfl rfl hcalm k [] s3 (aP is σ) H3 wV I3 (FY fr3) st3 go) fun r s4 ⟨u,hr,h4⟩=>?_
   subst hr;refine bq h4 fun _ s5 ⟨x,H5,I5,r5,y5,st5,fr5⟩=>?_
   have I5':=I5.pinned (FY fr5) (T.obj _ _ st5)
   refine bq (Hg _ s5 (aP is σ) H5 x u _ I5' r5 (step x H5 y5)) fun _ s6 ⟨σ6,H6,I6,le6,q6⟩=>?_
   refine bq (Hc _ s6 σ6 H6 _ I6 q6) fun ok s7 ⟨H7,I7,q7⟩=>?_
   have again:∀{H8:Hp} {s8:Shared} {ys':List V},Inv (blk X scope (ja X scope C) C s2 H2 fp) ([]++Bk fp s5.heap) σ6 H8 s8->(∃m',m'<n/\W (k+1) m' ys' H8) ->
     ∃m,m<n/\∃k ys H',Inv (blk X scope (ja X scope C) C s2 H2 fp) [] (aP is σ) H' s8/\tn k s8.heap/\(∀b∈fp,H' b=none)/\W k m ys H':=fun {H8 s8 ys'} I8 ⟨m',hm,w8⟩=>by
    refine ⟨m',hm,k+1,ys',H8,(I8.weak le6.1.symm le6.2).unpinned,T.keep _ _ _ st5 fun b hb o e=>(I8.pin (b,o) (mem_append_right _ (mem_append_right _ (DL hb e)))).1,fun b hb=>?_,w8⟩
    obtain ⟨o,e,d⟩:=T.obj _ _ st5 b hb;exact (I8.pin (b,o) (mem_append_right _ (mem_append_right _ (DL hb e)))).2.1
   cases ok with
   | false=>
    rw [if_neg Bool.false_ne_true] at q7;exact again I7 q7
   | true=>
    rw [if_pos rfl] at q7;refine bq (He _ s7 σ6 H7 _ I7 q7) fun y s8 ⟨v8,H8,I8,r8,q8⟩=>?_
    obtain ⟨hD8,q8⟩:=q8;refine bq (Ha _ s8 σ6 H8 (.ref s2.heap.objs.size) [v8] (.ref s2.heap.objs.size) [y] (fun _ H9=>∃m',m'<n/\W (k+1) m' (ys++[v8]) H9) I8 rfl (.cons r8 .nil) ⟨_,ys,v8,rfl,rfl,hD8,hlen,q8⟩) fun _ s9 ⟨_,H9,I9,_,q9⟩=>?_
    exact again I9 q9
 exact codeAny_compStart_list (loop _ rfl) (T.self X.A 0 _ _ _ (T.keep 0 _ _ st2 fun b _ o e=>pushCells_keeps _ _ b o (Heap.get?_push_of_some _ (Heap.get?_push_of_some _ e))) (loop _ rfl))
theorem AS (S:cF X.N is X.env.scope scope) (hcalm:X.calm=true) (hi:PI X tg iter wi)
  (hg:∀cells C s₀ H₀ ex,PG (blk X scope cells C s₀ H₀ ex) tg g) (hc:∀cells C s₀ H₀ ex,PF (blk X scope cells C s₀ H₀ ex) ifs tc) (he:∀cells C s₀ H₀ ex,PE (blk X scope cells C s₀ H₀ ex) elt te)
  (hs:∀x,foldedSetIterable iter X.env x=pure x:=by intro _;rfl):PE X (.ListComp elt [⟨tg,iter,ifs,0⟩] scope pos) (dh is wi g tc te):=by
 intro pins s σ H Q I h;rw [eval_ListComp];refine wpAny_comprehension_free (use:=none) rfl hs (ez (I.freeCells S)) S.kind S.loc (iY (RR:=fun acc C=>compPost (model X.prog X.w) X.A X.xe none (EP X pins σ Q) acc C) S hcalm hi hg hc he I h ?_)
 intro D C s' H' m I' hn q n1 n2 n3 n4 n5
 refine ⟨m,hn,fun h' hs'=>?_⟩
 exact ⟨.ref D,H',I'.turned (t':=s'.toks) (fun b o hb e=>(hs'.2 b hb).trans e) n1 n2 (.inr n3) n4 n5,rfl,q⟩
theorem mr {i:Nat} {y:Str} {pos' spos:Pos} (hN:X.N.Nodup) (hy:X.N[i]?=some y) (hl:X.env.scope.names.lookup y=some .local) (S:cF X.N is X.env.scope scope) (hcalm:X.calm=true) (hi:PI X tg iter wi)
  (hg:∀cells C s₀ H₀ ex,PG (blk X scope cells C s₀ H₀ ex) tg g) (hc:∀cells C s₀ H₀ ex,PF (blk X scope cells C s₀ H₀ ex) ifs tc) (he:∀cells C s₀ H₀ ex,PE (blk X scope cells C s₀ H₀ ex) elt te)
  (hsw:swapsWith (.ListComp elt [⟨tg,iter,ifs,0⟩] scope pos) (some (.Name y pos')) spos.line X.env=pure true)
  (hs:∀x,foldedSetIterable iter X.env x=pure x:=by intro _;rfl):PS X (.Assign [.Name y pos'] (.ListComp elt [⟨tg,iter,ifs,0⟩] scope pos) spos) (fun D σ H=>dh is wi g tc te σ H fun v H'=>D.nx (σ.set i (some v)) H'):=by
 intro pins s σ H Ds I h;rw [exec_Assign_Name_used _ _ _ _ hsw];refine wpAny_bind (wpAny_standAt (wpAny_bind ?_))
 show wpAny _ X.A (do let _ <-comprehension (.ListComp elt [⟨tg,iter,ifs,0⟩] scope pos) scope X.env _ (newList []) false (eval iter X.env) (some (assign (.Name y pos') X.env))) _ _ s
 refine wpAny_bind (wpAny_mono (wpAny_comprehension_free (use:=some (assign (.Name y pos') X.env)) (Q:=fun _ s'=>SP X pins Ds .next s') rfl hs (ez (I.freeCells S)) S.kind S.loc
  (iY (RR:=fun acc C=>compPost (model X.prog X.w) X.A X.xe (some (assign (.Name y pos') X.env)) (fun _ s'=>SP X pins Ds .next s') acc C) S hcalm hi hg hc he I h ?_)) (fun _ s' hq=>wpAny_pure (wpAny_pure hq)) fun _ _ e=>e)
 intro D C s' H' m I' hn q n1 n2 n3 n4 n5
 show wpAny _ X.A (assign (.Name y pos') X.env (.ref D)) _ _ _
 refine wpAny_assign_Name (iH (v:=.ref D) I' hN hy (.inl hl) rfl (fun s'' I'' hch=>?_) (.inr hl))
 obtain ⟨a,hsb,ha⟩:=hch;have hCa:C≠a:=by
  rcases ha with e | e
  ·rw [e];exact n2
  ·exact (n4 y a e).symm
 refine ⟨m,hn.sameBut hsb hCa,fun h' hs'=>?_⟩
 exact ⟨_,H',I''.turned (t':=s''.toks) (fun b o hb e=>(hs'.2 b hb).trans e) n1 n2 (.inr n3) n4 n5,q⟩
end
end L2
namespace T
open PySem PySem.Spec L2
open PyProof.Rows hiding St
abbrev D:=PyData
inductive Rep (K:Fg) (H:Hp):V->D->Prop where
 | non:Rep K H .non .none
 | bl (b:Bool):Rep K H (.bl b) (.bool b)
 | int (i:Int):Rep K H (.int i) (.int i)
 | str (x:Str):Rep K H (.str x) (.str x)
 | lst {p:Addr} {vs:List V} {ds:List D}:SqL K H p vs->vs.length=ds.length->(∀(i:Nat) v d,vs[i]?=some v->ds[i]?=some d->Rep K H v d)->Rep K H (.ref p) (.list ds)
 | tup {p:Addr} {vs:List V} {ds:List D}:SqT K H p vs->vs.length=ds.length->(∀(i:Nat) v d,vs[i]?=some v->ds[i]?=some d->Rep K H v d)->Rep K H (.ref p) (.tuple ds)
theorem dG {K:Fg} {H H':Hp} {a:Addr} {xs:List V} (e:Same H H') (h:SqT K H a xs):SqT K H' a xs:=by
 rcases h with (h | ⟨o,h⟩) | h
 ·exact .inl (.inl (e _ _ h))
 ·exact .inl (.inr ⟨o,e _ _ h⟩)
 ·exact .inr h
theorem Rep.mono {K:Fg} {H H':Hp} {v:V} {d:D} (e:Same H H') (h:Rep K H v d):Rep K H' v d:=by
 induction h with
 | non=>exact .non
 | bl b=>exact .bl b
 | int i=>exact .int i
 | str x=>exact .str x
 | lst hs hl _ ih=>exact .lst (e.seq hs) hl ih
 | tup hs hl _ ih=>exact .tup (dG e hs) hl ih
def Reps (K:Fg) (H:Hp) (vs:List V) (ds:List D):Prop:=vs.length=ds.length/\∀(i:Nat) v d,vs[i]?=some v->ds[i]?=some d->Rep K H v d
def bA (H:Hp) (O:List Addr):Hp:=fun a=>if a∈O then none else H a
theorem hid_le {H:Hp} {O:List Addr}:Same (bA H O) H:=fun b o h=>by
 unfold bA at h;split at h
 ·cases h
 ·exact h
theorem jc {H:Hp} {O:List Addr} {a:Addr} {o:HO} (h:H a=some o) (n:a∉O):bA H O a=some o:=by
 unfold bA;rw [if_neg n];exact h
theorem oH {H H':Hp} {O O':List Addr} (e:Same H H') (h:∀a∈O',a∈O\/H a=none):Same (bA H O) (bA H' O'):=fun b o q=>by
 unfold bA at q ⊢
 split at q
 ·cases q
 ·rename_i hn
  have hb:b∉O':=fun z=>(h b z).elim hn fun z=>by rw [z] at q;cases q
  rw [if_neg hb];exact e b o q
theorem oe {H:Hp} {O:List Addr} {p:Addr} {o:HO} (h:p∈O):bA (upd H p o) O=bA H O:=by
 funext b
 unfold bA;split
 ·rfl
 ·rename_i hb
  exact bE fun e=>hb (e▸h)
theorem og {H:Hp}:bA H []=H:=by
 funext b;unfold bA;simp
theorem cu {H:Hp} {p:Addr} {o:HO} (h:H p=none):Same H (upd H p o):=fun b u e=>by
 rw [bE (jQ e h)];exact e
inductive Sh where
 | view | leaf | lst (s:Sh) | tup (ss:List Sh)
def Sh.isView:Sh->Bool
 | .view=>true
 | _=>false
inductive Own (K:Fg) (O:List Addr) (H:Hp):Sh->List Addr->V->D->Prop where
 | view {v d}:Rep K H v d->Own K O H .view [] v d
 | leaf {v d}:Rep K (bA H O) v d->Own K O H .leaf [] v d
 | lst {s:Sh} {p:Addr} {vs:List V} {ds:List D} {Fs:List (List Addr)}:s.isView=false->H p=some (.lst vs)->vs.length=ds.length->Fs.length=ds.length->(p::Fs.flatten).Nodup ->
   (∀(i:Nat) v d F,vs[i]?=some v->ds[i]?=some d->Fs[i]?=some F->Own K O H s F v d)->Own K O H (.lst s) (p::Fs.flatten) (.ref p) (.list ds)
 | tup {ss:List Sh} {p:Addr} {vs:List V} {ds:List D} {Fs:List (List Addr)}:(∀s∈ss,s.isView=false)->H p=some (.tup vs)->p∉O->vs.length=ds.length->Fs.length=ds.length->ss.length=ds.length->Fs.flatten.Nodup ->
   (∀(i:Nat) v d F s,vs[i]?=some v->ds[i]?=some d->Fs[i]?=some F->ss[i]?=some s->Own K O H s F v d)->Own K O H (.tup ss) Fs.flatten (.ref p) (.tuple ds)
theorem Own.mono {K:Fg} {O O':List Addr} {H H':Hp} {s:Sh} {G:List Addr} {v:V} {d:D} (h:Own K O H s G v d) (e:Same H H') (hO:∀a∈O',a∈O\/H a=none):Own K O' H' s G v d:=by
 induction h with
 | view r=>exact .view (r.mono e)
 | leaf r=>exact .leaf (r.mono (oH e hO))
 | lst hv hp hl hf nd _ ih=>exact .lst hv (e _ _ hp) hl hf nd fun i v d F h1 h2 h3=>ih i v d F h1 h2 h3
 | tup hv hp hn hl hf hs nd _ ih=>exact .tup hv (e _ _ hp) (fun z=>(hO _ z).elim hn fun z=>by rw [z] at hp;cases hp) hl hf hs nd fun i v d F s h1 h2 h3 h4=>ih i v d F s h1 h2 h3 h4
theorem Own.rep {K:Fg} {O:List Addr} {H:Hp} {s:Sh} {G:List Addr} {v:V} {d:D} (h:Own K O H s G v d):Rep K H v d:=by
 induction h with
 | view r=>exact r
 | leaf r=>exact r.mono hid_le
 | lst hv hp hl hf _ q ih=>
  refine .lst (.of hp) hl fun i v d h1 h2=>?_
  rename_i Fs _;obtain ⟨F,hF⟩:∃F,Fs[i]?=some F:=by
   have:=(List.getElem?_eq_some_iff.mp h2).1
   exact ⟨Fs[i]'(by omega),getElem?_eq_getElem _⟩
  exact ih i v d F h1 h2 hF
 | tup hv hp hn hl hf hs _ q ih=>
  refine .tup (.of hp) hl fun i v d h1 h2=>?_
  rename_i ss _ _ _ Fs _;have hi:=(List.getElem?_eq_some_iff.mp h2).1
  exact ih i v d (Fs[i]'(by omega)) (ss[i]'(by omega)) h1 h2 (getElem?_eq_getElem _) (getElem?_eq_getElem _)
theorem fG {Fs:List (List Addr)} {i:Nat} {F:List Addr} {a:Addr} (h:Fs[i]?=some F) (ha:a∈F):a∈Fs.flatten:=List.mem_flatten.mpr ⟨F,mem_of_getElem? h,ha⟩
theorem Own.freeze {K:Fg} {O O':List Addr} {H:Hp} {s:Sh} {G:List Addr} {v:V} {d:D} (h:Own K O H s G v d) (hs:s.isView=false) (h1:∀a∈O',a∈O) (h2:∀a∈G,a∉O'):Rep K (bA H O') v d:=by
 induction h with
 | view r=>cases hs
 | leaf r=>exact r.mono (oH (Same.refl _) fun a z=>.inl (h1 a z))
 | lst hv hp hl hf _ q ih=>
  refine .lst (.of (jc hp (h2 _ mem_cons_self))) hl fun i v d e1 e2=>?_
  rename_i Fs _;obtain ⟨F,hF⟩:∃F,Fs[i]?=some F:=by
   have:=(List.getElem?_eq_some_iff.mp e2).1
   exact ⟨Fs[i]'(by omega),getElem?_eq_getElem _⟩
  exact ih i v d F e1 e2 hF hv fun a ha=>h2 a (mem_cons_of_mem _ (fG hF ha))
 | tup hv hp hn hl hf hs' _ q ih=>
  refine .tup (.of (jc hp fun z=>hn (h1 _ z))) hl fun i v d e1 e2=>?_
  rename_i ss _ _ _ Fs _;have hi:=(List.getElem?_eq_some_iff.mp e2).1
  have e3:Fs[i]?=some (Fs[i]'(by omega)):=getElem?_eq_getElem _
  exact ih i v d _ (ss[i]'(by omega)) e1 e2 e3 (getElem?_eq_getElem _) (hv _ (getElem_mem _)) fun a ha=>h2 a (fG e3 ha)
theorem Own.mut {K:Fg} {O:List Addr} {H:Hp} {s:Sh} {G:List Addr} {v:V} {d:D} {p:Addr} {o:HO} {xs:List V} (h:Own K O H s G v d) (hs:s.isView=false) (hp:p∈O) (hg:p∉G) (hl:H p=some (.lst xs)):Own K O (upd H p o) s G v d:=by
 induction h with
 | view r=>cases hs
 | leaf r=>refine .leaf ?_;rw [oe hp];exact r
 | lst hv hq hl' hf nd q ih=>
  refine .lst hv ?_ hl' hf nd fun i v d F e1 e2 e3=>ih i v d F e1 e2 e3 hv fun z=>hg (mem_cons_of_mem _ (fG e3 z))
  rw [bE (fun z=>hg (by rw [<-z];exact mem_cons_self))]
  exact hq
 | tup hv hq hn hl' hf hs' nd q ih=>
  refine .tup hv ?_ hn hl' hf hs' nd fun i v d F s e1 e2 e3 e4=>ih i v d F s e1 e2 e3 e4 (hv _ (mem_of_getElem? e4)) fun z=>hg (fG e3 z)
  rw [bE (fun z=>by rw [z,hl] at hq;cases hq)]
  exact hq
inductive Sc:V->D->Prop where
 | non:Sc .non .none
 | bl (b:Bool):Sc (.bl b) (.bool b)
 | int (i:Int):Sc (.int i) (.int i)
 | str (x:Str):Sc (.str x) (.str x)
theorem Sc.rep {K:Fg} {H:Hp} {v:V} {d:D} (h:Sc v d):Rep K H v d:=by cases h<;>constructor
def aW:D->Bool
 | .list _=>false
 | .tuple _=>false
 | .dict _=>false
 | _=>true
theorem Rep.sc {K:Fg} {H:Hp} {v:V} {d:D} (h:Rep K H v d) (s:aW d=true):Sc v d:=by
 cases h with
 | non=>exact .non
 | bl b=>exact .bl b
 | int i=>exact .int i
 | str x=>exact .str x
 | lst _ _ _=>cases s
 | tup _ _ _=>cases s
structure PV where
 s:Sh
 d:D
abbrev Ev:=List (Option PV)
inductive Out (α:Type) where
 | ok (a:α) (e:Ev)
 | er (c:Str) (e:Ev)
 | no
def Out.bind {α β:Type} (x:Out α) (k:α->Ev->Out β):Out β:=match x with
 | .ok a e=>k a e
 | .er c e=>.er c e
 | .no=>.no
structure EnvOk (K:Fg) (He:Hp) (O:List Addr) (Fs:List (List Addr)) (H:Hp) (σ:St) (Γ:Ev):Prop where
 len1:σ.length=Γ.length
 len2:Fs.length=Γ.length
 same:Same He H
 nd:(O++Fs.flatten).Nodup
 inH:∀a∈O++Fs.flatten,H a≠none
 fresh:∀a∈Fs.flatten,He a=none
 slot:∀(i:Nat) (p:PV),Γ[i]?=some (some p)->p.s.isView=false/\∃v F,σ[i]?=some (some v)/\Fs[i]?=some F/\Own K (O++Fs.flatten) H p.s F v p.d
section
variable {K:Fg} {He H H':Hp} {O O' G:List Addr} {Fs:List (List Addr)} {σ:St} {Γ:Ev}
theorem EnvOk.grow (h:EnvOk K He O Fs H σ Γ) (e:Same H H'):EnvOk K He O Fs H' σ Γ:=
 ⟨h.len1,h.len2,h.same.trans e,h.nd,fun a ha z=>h.inH a ha (e.free z),h.fresh,fun i p q=>let ⟨a,v,F,b,c,d⟩:=h.slot i p q;⟨a,v,F,b,c,d.mono e fun _ z=>.inl z⟩⟩
theorem EnvOk.drop (h:EnvOk K He O Fs H σ Γ) (hs:∀a∈O',a∈O) (nd:O'.Nodup):EnvOk K He O' Fs H σ Γ:=by
 obtain ⟨n1,n2,n3⟩:=List.nodup_append.mp h.nd;refine ⟨h.len1,h.len2,h.same,List.nodup_append.mpr ⟨nd,n2,fun a ha b hb=>n3 a (hs a ha) b hb⟩,fun a ha=>h.inH a ?_,h.fresh,fun i p q=>let ⟨a,v,F,b,c,d⟩:=h.slot i p q;⟨a,v,F,b,c,d.mono (Same.refl _) fun a z=>.inl ?_⟩⟩
 ·rcases List.mem_append.mp ha with z | z
  ·exact mem_append_left _ (hs a z)
  ·exact mem_append_right _ z
 ·rcases List.mem_append.mp z with z | z
  ·exact mem_append_left _ (hs a z)
  ·exact mem_append_right _ z
theorem EnvOk.dropL (h:EnvOk K He (G++O) Fs H σ Γ):EnvOk K He O Fs H σ Γ:=h.drop (fun a z=>mem_append_right _ z) (List.nodup_append.mp (List.nodup_append.mp h.nd).1).2.1
theorem EnvOk.hide (h:EnvOk K He O Fs H σ Γ) (e:Same H H') (nd:G.Nodup) (hn:∀a∈G,H a=none) (hi:∀a∈G,H' a≠none):EnvOk K He (G++O) Fs H' σ Γ:=by
 refine ⟨h.len1,h.len2,h.same.trans e,?_,fun a ha=>?_,h.fresh,fun i p q=>let ⟨a,v,F,b,c,d⟩:=h.slot i p q;⟨a,v,F,b,c,d.mono e fun a z=>?_⟩⟩
 ·rw [append_assoc]
  exact List.nodup_append.mpr ⟨nd,h.nd,fun a ha b hb z=>h.inH b hb (by rw [<-z];exact hn a ha)⟩
 ·rw [append_assoc] at ha
  rcases List.mem_append.mp ha with z | z
  ·exact hi a z
  ·exact fun q=>h.inH a z (e.free q)
 ·rw [append_assoc] at z
  rcases List.mem_append.mp z with z | z
  ·exact .inr (hn a z)
  ·exact .inl z
end
structure Aft (K:Fg) (He:Hp) (O:List Addr) (Fs:List (List Addr)) (H:Hp) (σ:St) (Γ':Ev) (p:PV) (v:V) (H':Hp) (G:List Addr) (Fs':List (List Addr)):Prop where
 same:Same H H'
 env:EnvOk K He (G++O) Fs' H' σ Γ'
 new:∀a∈G++Fs'.flatten,a∈Fs.flatten\/H a=none
 own:Own K (G++O++Fs'.flatten) H' p.s G v p.d
abbrev XW:=Str->St->Hp->Prop
abbrev F1:=Ev->Out PV
def tE (K:Fg) (W:XW) (f:F1):TE:=fun σ H Q=>∃He O Fs Γ,EnvOk K He O Fs H σ Γ/\match f Γ with
 | .ok p Γ'=>∀v H' G Fs',Aft K He O Fs H σ Γ' p v H' G Fs'->Q v H'
 | .er c Γ'=>∀H' Fs',Same H H'->EnvOk K He O Fs' H' σ Γ'->W c σ H'
 | .no=>False
def Wants (K:Fg) (W:XW) (He:Hp) (O:List Addr) (Fs:List (List Addr)) (H:Hp) (σ:St) (Q:VK) (o:Out PV):Prop:=match o with
 | .ok p Γ'=>∀v H' G Fs',Aft K He O Fs H σ Γ' p v H' G Fs'->Q v H'
 | .er c Γ'=>∀H' Fs',Same H H'->EnvOk K He O Fs' H' σ Γ'->W c σ H'
 | .no=>False
section
variable {K:Fg} {W:XW} {He H:Hp} {O:List Addr} {Fs:List (List Addr)} {σ:St} {Γ Γ':Ev} {Q:VK}
theorem Wants.scal {H2:Hp} {O2:List Addr} {Fs2:List (List Addr)} {v:V} {d:D} (h:Wants K W He O Fs H σ Q (.ok ⟨.leaf,d⟩ Γ')) (s:Sc v d) (e:Same H H2) (E:EnvOk K He O2 Fs2 H2 σ Γ')
  (hO:∀a∈O,a∈O2) (nd:O.Nodup) (new:∀a∈Fs2.flatten,a∈Fs.flatten\/H a=none):Q v H2:=
 h v H2 [] Fs2 ⟨e,by rw [nil_append];exact E.drop hO nd,by rw [nil_append];exact new,.leaf s.rep⟩
theorem EnvOk.ndO (E:EnvOk K He O Fs H σ Γ):O.Nodup:=(List.nodup_append.mp E.nd).1
end
def aR {β:Type} (f:F1) (k:PV->Ev->Out β):Ev->Out β:=fun Γ=>(f Γ).bind k
section
variable {K:Fg} {W:XW} {σ:St} {H:Hp} {Q:VK} {fa fb:F1}
theorem AL {k:PV->F1} {R:VK} (h:tE K W (aR fa k) σ H Q)
  (hk:∀He O Fs Γ1 p v H1 G Fs1,O.Nodup->Aft K He O Fs H σ Γ1 p v H1 G Fs1->Wants K W He O Fs H σ Q (k p Γ1)->R v H1):tE K W fa σ H R:=by
 obtain ⟨He,O,Fs,Γ,E,h⟩:=h;refine ⟨He,O,Fs,Γ,E,?_⟩
 unfold aR at h
 cases e:fa Γ with
 | ok p Γ1=>
  rw [e] at h;exact fun v H' G Fs' A=>hk He O Fs Γ1 p v H' G Fs' E.ndO A h
 | er c Γ1=>
  rw [e] at h;exact h
 | no=>
  rw [e] at h;exact h
theorem EB {k:PV->PV->F1} {R:V->V->Hp->Prop} (h:tE K W (aR fa fun p=>aR fb fun q=>k p q) σ H Q)
  (hk:∀He O Fs Γ2 p q v u H1 H2 G1 G2 Fs2,O.Nodup->Same H H1->Same H1 H2->EnvOk K He (G2++(G1++O)) Fs2 H2 σ Γ2->(∀a∈G2++(G1++Fs2.flatten),a∈Fs.flatten\/H a=none) ->
   Own K (G2++(G1++O)++Fs2.flatten) H2 p.s G1 v p.d->Own K (G2++(G1++O)++Fs2.flatten) H2 q.s G2 u q.d->Wants K W He O Fs H σ Q (k p q Γ2)->R v u H2) :
  tE K W fa σ H fun v H1=>tE K W fb σ H1 fun u H2=>R v u H2:=by
 refine AL (k:=fun p=>aR fb fun q=>k p q) h fun He O Fs Γ1 p v H1 G1 Fs1 nd A1 h1=>?_
 refine ⟨He,G1++O,Fs1,Γ1,A1.env,?_⟩
 unfold aR at h1
 cases e:fb Γ1 with
 | ok q Γ2=>
  rw [e] at h1;intro u H2 G2 Fs2 A2;have new:∀a∈G2++(G1++Fs2.flatten),a∈Fs.flatten\/H a=none:=fun a ha=>by
   have up:a∈G1++Fs1.flatten->a∈Fs.flatten\/H a=none:=A1.new a
   rcases List.mem_append.mp ha with z | z
   ·rcases A2.new a (mem_append_left _ z) with y | y
    ·exact up (mem_append_right _ y)
    ·exact .inr (A1.same.free y)
   ·rcases List.mem_append.mp z with z | z
    ·exact up (mem_append_left _ z)
    ·rcases A2.new a (mem_append_right _ z) with y | y
     ·exact up (mem_append_right _ y)
     ·exact .inr (A1.same.free y)
  refine hk He O Fs Γ2 p q v u H1 H2 G1 G2 Fs2 nd A1.same A2.same A2.env new (A1.own.mono A2.same fun a ha=>?_) A2.own h1
  rcases List.mem_append.mp ha with z | z
  ·rcases List.mem_append.mp z with z | z
   ·rcases A2.new a (mem_append_left _ z) with y | y
    ·exact .inl (mem_append_right _ y)
    ·exact .inr y
   ·exact .inl (mem_append_left _ z)
  ·rcases A2.new a (mem_append_right _ z) with y | y
   ·exact .inl (mem_append_right _ y)
   ·exact .inr y
 | er c Γ2=>
  rw [e] at h1;intro H2 Fs2 hs E2;exact h1 H2 Fs2 (A1.same.trans hs) E2.dropL
 | no=>
  rw [e] at h1;exact h1
end
section
variable {X:Cx} {e:Expr}
theorem bc {t t':TE} (h:PE X e t) (i:∀σ H Q,t' σ H Q->t σ H Q):PE X e t':=fun pins s σ H Q I q=>h pins s σ H Q I (i σ H Q q)
theorem uf {t t':TT} (h:PT X e t) (i:∀σ H Q,t' σ H Q->t σ H Q):PT X e t':=fun pins s σ H Q I q=>h pins s σ H Q I (i σ H Q q)
theorem C7 {t t':TT} (h:PW X e t) (i:∀σ H Q,t' σ H Q->t σ H Q):PW X e t':=fun whole pins s σ H Q I q=>h whole pins s σ H Q I (i σ H Q q)
theorem xQ {es:List Expr} {t t':TA} (h:PA X es t) (i:∀σ H Q,t' σ H Q->t σ H Q):PA X es t':=fun pos pins s σ H Q I q=>h pos pins s σ H Q I (i σ H Q q)
theorem dH {st:Stmt} {t t':TS} (h:PS X st t) (i:∀D σ H,t' D σ H->t D σ H):PS X st t':=fun pins s σ H D I q=>h pins s σ H D I (i D σ H q)
theorem Dh {st:List Stmt} {t t':TS} (h:PSs X st t) (i:∀D σ H,t' D σ H->t D σ H):PSs X st t':=fun pins s σ H D I q=>h pins s σ H D I (i D σ H q)
theorem C8 {es:List Expr} {t t':TT} (h:PF X es t) (i:∀σ H Q,t' σ H Q->t σ H Q):PF X es t':=fun pins s σ H Q I q=>h pins s σ H Q I (i σ H Q q)
end
theorem FP {h:Heap}:∀{vs:List V} {its:List Value} {ds:List D},Vals vs its->vs.length=ds.length->(∀(i:Nat) v d,vs[i]?=some v->ds[i]?=some d->∀u,RelV v u->∃as,Reads h u d as)->∃as,ReadsAll h its ds as
 | _,_,[],.nil,_,_=>⟨_,.nil⟩
 | _,_,d::ds,.cons (a:=v) (b:=u) r t,hl,h=>by
  obtain ⟨as,ra⟩:=h 0 v d rfl rfl u r;obtain ⟨bs,rb⟩:=FP t (by simpa using hl) fun i v d h1 h2=>h (i+1) v d (by simpa using h1) (by simpa using h2)
  exact ⟨_,.cons ra rb⟩
 | _,_,[],.cons _ _,hl,_=>by simp at hl
 | _,_,_::_,.nil,hl,_=>by simp at hl
theorem Rep.reads {X:Cx} {pins:List (Addr×Obj)} {σ:St} {H:Hp} {s:Shared} {x:V} {d:D} (I:Inv X pins σ H s) (r:Rep X.K H x d):∀u,RelV x u->∃as,Reads s.heap u d as:=by
 induction r with
 | non=>rintro u rfl;exact ⟨_,.none⟩
 | bl b=>rintro u rfl;exact ⟨_,.bool b⟩
 | int i=>rintro u ⟨t,rfl⟩;exact ⟨_,.int i t⟩
 | str x=>rintro u ⟨t,rfl⟩;exact ⟨_,.str x t⟩
 | lst hq hl _ ih=>
  rintro u rfl
  obtain ⟨its,rv,⟨o,n,e1,e2,e3,e4⟩,_⟩:=I.list hq;obtain ⟨as,ra⟩:=FP rv hl ih;exact ⟨_,.list e1 e2 e4 (by simpa using ra)⟩
 | tup hq hl _ ih=>
  rintro u rfl
  obtain ⟨its,rv,⟨o,e1,e2,n,e4⟩,_⟩:=I.tuple hq;obtain ⟨as,ra⟩:=FP rv hl ih;exact ⟨_,.tuple e1 e2 e4 (by simpa using ra)⟩
theorem lM {α:Type} {F G:List α}:∀{Fs:List (List α)} {i:Nat},Fs[i]?=some F->(F++(Fs.set i G).flatten).Perm (G++Fs.flatten)
 | [],_,h=>by simp at h
 | A::r,0,h=>by
  simp at h
  subst h;simp only [List.set_cons_zero,flatten_cons]
  rw [<-append_assoc,<-append_assoc];exact List.Perm.append_right _ perm_append_comm
 | A::r,i+1,h=>by
  have ih:=lM (G:=G) (Fs:=r) (i:=i) (by simpa using h)
  simp only [List.set_cons_succ,flatten_cons]
  calc (F++(A++(r.set i G).flatten)).Perm (A++(F++(r.set i G).flatten)):=by
        rw [<-append_assoc,<-append_assoc];exact List.Perm.append_right _ perm_append_comm
    _ |>.Perm (A++(G++r.flatten)):=List.Perm.append_left _ ih
    _ |>.Perm (G++(A++r.flatten)):=by
        rw [<-append_assoc,<-append_assoc];exact List.Perm.append_right _ perm_append_comm
section
variable {K:Fg} {He H:Hp} {O G:List Addr} {Fs:List (List Addr)} {σ:St} {Γ:Ev}
theorem EnvOk.lt (E:EnvOk K He O Fs H σ Γ) {i:Nat} (h:i<Γ.length):∃F,Fs[i]?=some F:=⟨Fs[i]'(by rw [E.len2];exact h),getElem?_eq_getElem _⟩
theorem EnvOk.move {i:Nat} {p:PV} (E:EnvOk K He O Fs H σ Γ) (h:Γ[i]?=some (some p)) :
  p.s.isView=false/\∃v F,σ[i]?=some (some v)/\EnvOk K He (F++O) (Fs.set i []) H σ (Γ.set i none)/\Own K (F++O++(Fs.set i []).flatten) H p.s F v p.d/\(∀a∈F++(Fs.set i []).flatten,a∈Fs.flatten):=by
 obtain ⟨hv,v,F,h1,h2,h3⟩:=E.slot i p h;have pm:(F++(Fs.set i []).flatten).Perm Fs.flatten:=by simpa using lM (G:=[]) h2
 have pm2:(F++O++(Fs.set i []).flatten).Perm (O++Fs.flatten):=by
  rw [append_assoc]
  calc (F++(O++(Fs.set i []).flatten)).Perm (O++(F++(Fs.set i []).flatten)):=by
        rw [<-append_assoc,<-append_assoc];exact List.Perm.append_right _ perm_append_comm
    _ |>.Perm (O++Fs.flatten):=List.Perm.append_left _ pm
 refine ⟨hv,v,F,h1,⟨by rw [length_set];exact E.len1,by rw [length_set,length_set];exact E.len2,E.same,pm2.nodup_iff.mpr E.nd,fun a ha=>E.inH a (pm2.mem_iff.mp ha),fun a ha=>E.fresh a (pm.mem_iff.mp (mem_append_right _ ha)),fun j q hq=>?_⟩,h3.mono (Same.refl _) fun a ha=>.inl (pm2.mem_iff.mp ha),fun a ha=>pm.mem_iff.mp ha⟩
 by_cases hj:j=i
 ·subst hj
  rw [getElem?_set] at hq;split at hq
  ·split at hq<;>cases hq
  ·rename_i z
   exact absurd rfl z
 ·rw [getElem?_set_ne (Ne.symm hj)] at hq
  obtain ⟨w1,v',F',e1,e2,e3⟩:=E.slot j q hq;exact ⟨w1,v',F',e1,by rw [getElem?_set_ne (Ne.symm hj)];exact e2,e3.mono (Same.refl _) fun a ha=>.inl (pm2.mem_iff.mp ha)⟩
theorem EnvOk.put {i:Nat} {p:PV} {v:V} (E:EnvOk K He (G++O) Fs H σ Γ) (ho:Own K (G++O++Fs.flatten) H p.s G v p.d) (hv:p.s.isView=false) (hn:∀a∈G,He a=none) (hi:i<Γ.length) :
  EnvOk K He O (Fs.set i G) H (σ.set i (some v)) (Γ.set i (some p)):=by
 obtain ⟨F,hF⟩:=E.lt hi;have pm:=lM (G:=G) hF
 have nd:=E.nd
 rw [append_assoc] at nd;have sub:∀a∈O++(Fs.set i G).flatten,a∈G++O++Fs.flatten:=fun a ha=>by
  rw [append_assoc];rcases List.mem_append.mp ha with z | z
  ·exact mem_append_right _ (mem_append_left _ z)
  ·rcases List.mem_append.mp (pm.mem_iff.mp (mem_append_right _ z)) with y | y
   ·exact mem_append_left _ y
   ·exact mem_append_right _ (mem_append_right _ y)
 refine ⟨by rw [length_set,length_set];exact E.len1,by rw [length_set,length_set];exact E.len2,E.same,?_,fun a ha=>E.inH a (sub a ha),fun a ha=>?_,fun j q hq=>?_⟩
 ·have p1:(O++(F++(Fs.set i G).flatten)).Perm (G++(O++Fs.flatten)):=by
   calc (O++(F++(Fs.set i G).flatten)).Perm (O++(G++Fs.flatten)):=List.Perm.append_left _ pm
     _ |>.Perm (G++(O++Fs.flatten)):=by
       rw [<-append_assoc,<-append_assoc];exact List.Perm.append_right _ perm_append_comm
  have p2:=p1.nodup_iff.mpr nd
  refine p2.sublist ?_
  exact List.Sublist.append_left (List.sublist_append_right _ _) _
 ·rcases List.mem_append.mp (pm.mem_iff.mp (mem_append_right _ ha)) with y | y
  ·exact hn a y
  ·exact E.fresh a y
 ·by_cases hj:j=i
  ·subst hj
   rw [getElem?_set_self hi] at hq
   cases hq;refine ⟨hv,v,G,?_,?_,ho.mono (Same.refl _) fun a ha=>.inl (sub a ha)⟩
   ·rw [getElem?_set_self (by rw [E.len1];exact hi)]
   ·rw [getElem?_set_self (by rw [E.len2];exact hi)]
  ·rw [getElem?_set_ne (Ne.symm hj)] at hq
   obtain ⟨w1,v',F',e1,e2,e3⟩:=E.slot j q hq;exact ⟨w1,v',F',by rw [getElem?_set_ne (Ne.symm hj)];exact e1,by rw [getElem?_set_ne (Ne.symm hj)];exact e2,e3.mono (Same.refl _) fun a ha=>.inl (sub a ha)⟩
theorem Aft.freshG {Γ':Ev} {p:PV} {v:V} {H':Hp} {Fs':List (List Addr)} (E:EnvOk K He O Fs H σ Γ) (A:Aft K He O Fs H σ Γ' p v H' G Fs'):∀a∈G,He a=none:=fun a ha=>by
 rcases A.new a (mem_append_left _ ha) with z | z
 ·exact E.fresh a z
 ·exact E.same.free z
end
def ae (i:Nat):F1:=fun Γ=>match Γ[i]? with
 | some (some p)=>(match p.s with
  | .leaf=>.ok ⟨.leaf,p.d⟩ Γ
  | _=>.ok ⟨.view,p.d⟩ Γ)
 | _=>.no
def aV (i:Nat):F1:=fun Γ=>match Γ[i]? with
 | some (some p)=>.ok p (Γ.set i none)
 | _=>.no
def eK (d:D):F1:=fun Γ=>.ok ⟨.leaf,d⟩ Γ
section
variable {X:Cx} {W:XW} {i:Nat} {e:Expr} {pos:Pos}
theorem yH {K:Fg} {σ:St} {H:Hp} {Q:VK} (h:tE K W (ae i) σ H Q):aD i σ H Q:=by
 obtain ⟨He,O,Fs,Γ,E,h⟩:=h;unfold ae at h
 cases e:Γ[i]? with
 | none=>rw [e] at h;exact h.elim
 | some o=>
  rw [e] at h
  cases o with
  | none=>exact h.elim
  | some p=>
   obtain ⟨hv,v,F,h1,h2,h3⟩:=E.slot i p e;obtain ⟨s,d⟩:=p;have new:∀a∈[]++Fs.flatten,a∈Fs.flatten\/H a=none:=fun a ha=>.inl (by simpa using ha)
   cases s with
   | leaf=>
    cases h3 with
    | leaf r=>exact ⟨v,h1,h v H [] Fs ⟨Same.refl _,by simpa using E,new,.leaf r⟩⟩
   | view=>cases hv
   | lst s=>exact ⟨v,h1,h v H [] Fs ⟨Same.refl _,by simpa using E,new,.view h3.rep⟩⟩
   | tup ss=>exact ⟨v,h1,h v H [] Fs ⟨Same.refl _,by simpa using E,new,.view h3.rep⟩⟩
theorem ve {K:Fg} {σ:St} {H:Hp} {Q:VK} (h:tE K W (aV i) σ H Q):aD i σ H Q:=by
 obtain ⟨He,O,Fs,Γ,E,h⟩:=h;unfold aV at h
 cases e:Γ[i]? with
 | none=>rw [e] at h;exact h.elim
 | some o=>
  rw [e] at h
  cases o with
  | none=>exact h.elim
  | some p=>
   obtain ⟨hv,v,F,h1,E',o',sub⟩:=E.move e;exact ⟨v,h1,h v H F (Fs.set i []) ⟨Same.refl _,E',fun a ha=>.inl (sub a ha),o'⟩⟩
theorem Ae (h:PE X e (aD i)):PE X e (tE X.K W (ae i)):=bc h fun _ _ _=>yH
theorem wz (h:PE X e (aD i)):PE X e (tE X.K W (aV i)):=bc h fun _ _ _=>ve
theorem vg {K:Fg} {σ:St} {H:Hp} {Q:VK} {v:V} {d:D} (hs:∀H,Rep K H v d) (h:tE K W (eK d) σ H Q):Q v H:=by
 obtain ⟨He,O,Fs,Γ,E,h⟩:=h;exact h v H [] Fs ⟨Same.refl _,by simpa using E,fun a ha=>.inl (by simpa using ha),.leaf (hs _)⟩
theorem wA {x:Str} {v:V} {u:Value} {d:D} (hg:Gl X x) (hm:X.mg x=some u) (r:RelV v u) (hr:∀H,Rep X.K H v d) (hd:(x==("__debug__":Str))=false:=by decide):PE X (.Name x pos) (tE X.K W (eK d)):=
 bc (vD hg hm r hd) fun _ _ _=>vg hr
end
def ax (g:D->D->Option D) (fa fb:F1):F1:=aR fa fun p=>aR fb fun q=>fun Γ=>match g p.d q.d with
 | some d=>.ok ⟨.leaf,d⟩ Γ
 | none=>.no
def GOp (K:Fg) (r:R2) (g:D->D->Option D):Prop:=∀x y H Q a b d,Rep K H x a->Rep K H y b->g a b=some d->(∀v,Sc v d->Q v H)->r x y H Q
section
variable {K:Fg} {W:XW} {σ:St} {H:Hp} {Q:VK} {fa fb:F1} {r:R2} {g:D->D->Option D}
theorem e9 (hg:GOp K r g) (h:tE K W (ax g fa fb) σ H Q):gZ r (tE K W fa) (tE K W fb) σ H Q:=by
 refine EB h ?_
 intro He O Fs Γ2 p q v u H1 H2 G1 G2 Fs2 nd s1 s2 E new o1 o2 w
 cases e:g p.d q.d with
 | none=>rw [e] at w;exact w.elim
 | some d=>
  rw [e] at w;exact hg v u H2 Q p.d q.d d o1.rep o2.rep e fun z s=>w.scal s (s1.trans s2) E (fun a ha=>mem_append_right _ (mem_append_right _ ha)) nd fun a ha=>new a (mem_append_right _ (mem_append_right _ ha))
end
theorem GOp.or {K:Fg} {r r':R2} {g g':D->D->Option D} (h:GOp K r g) (h':GOp K r' g'):GOp K (fun x y H Q=>r x y H Q\/r' x y H Q) (fun a b=>(g a b).or (g' a b)):=by
 intro x y H Q a b d ra rb e k;have e:(g a b).or (g' a b)=some d:=e
 cases e1:g a b with
 | some z=>rw [e1] at e;cases e;exact .inl (h x y H Q a b _ ra rb e1 k)
 | none=>rw [e1] at e;exact .inr (h' x y H Q a b d ra rb (by simpa using e) k)
def gI (C:Int->Int->Bool) (f:Int->Int->D):D->D->Option D
 | .int i,.int j=>if C i j then some (f i j) else none
 | _,_=>none
theorem oh {K:Fg} {C:Int->Int->Prop} {C':Int->Int->Bool} {g:Int->Int->V} {f:Int->Int->D} (hC:∀i j,C' i j=true->C i j) (hs:∀i j,Sc (g i j) (f i j)):GOp K (rI C g) (gI C' f):=by
 intro x y H Q a b d ra rb e k
 cases ra<;>cases rb<;>simp only [gI] at e<;>try cases e
 rename_i i j;split at e
 ·rename_i c
  cases e;exact ⟨i,j,rfl,rfl,hC i j c,k _ (hs i j)⟩
 ·cases e
def xM (f:Int->Int->D):D->D->Option D
 | .int i,.int j=>some (f i j)
 | _,_=>none
theorem AF {K:Fg} {g:Int->Int->V} {f:Int->Int->D} (hs:∀i j,Sc (g i j) (f i j)):GOp K (mq g) (xM f):=by
 intro x y H Q a b d ra rb e k
 cases ra<;>cases rb<;>simp only [xM] at e<;>try cases e
 rename_i i j;exact ⟨i,j,rfl,rfl,k _ (hs i j)⟩
abbrev gSub:=xM fun i j=>.int (i-j)
abbrev aG:=xM fun i j=>.int (i+j)
def ql (i j:Int):Bool:=(decide (-(2 ^ 64)<i)&&decide (i<2 ^ 64))||(decide (-(2 ^ 64)<j)&&decide (j<2 ^ 64))
abbrev kP:=gI ql fun i j=>.int (i*j)
def wM (_ j:Int):Bool:=decide (0<j)&&decide (j<1073741824)
abbrev kQ:=gI wM fun i j=>.int (i / j)
def wL (_ j:Int):Bool:=decide (0<j)
abbrev cj:=gI wL fun i j=>.int (i % j)
def wK (i j:Int):Bool:=decide (0<=j)&&decide (j<=1000000)&&decide (i.natAbs<2 ^ 64)
abbrev wb:=gI wK fun i j=>.int (i ^ j.toNat)
mutual
def Sh.same:Sh->Sh->Bool
 | .view,.view=>true
 | .leaf,.leaf=>true
 | .lst a,.lst b=>Sh.same a b
 | .tup as,.tup bs=>Sh.sameL as bs
 | _,_=>false
def Sh.sameL:List Sh->List Sh->Bool
 | [],[]=>true
 | a::as,b::bs=>Sh.same a b&&Sh.sameL as bs
 | _,_=>false
end
mutual
theorem Sh.same_eq:∀{a b:Sh},Sh.same a b=true->a=b
 | .view,.view,_=>rfl
 | .leaf,.leaf,_=>rfl
 | .lst a,.lst b,h=>by rw [Sh.same_eq (a:=a) (b:=b) (by simpa [Sh.same] using h)]
 | .tup as,.tup bs,h=>by rw [Sh.sameL_eq (as:=as) (bs:=bs) (by simpa [Sh.same] using h)]
 | .view,.leaf,h=>by simp [Sh.same] at h
 | .view,.lst _,h=>by simp [Sh.same] at h
 | .view,.tup _,h=>by simp [Sh.same] at h
 | .leaf,.view,h=>by simp [Sh.same] at h
 | .leaf,.lst _,h=>by simp [Sh.same] at h
 | .leaf,.tup _,h=>by simp [Sh.same] at h
 | .lst _,.view,h=>by simp [Sh.same] at h
 | .lst _,.leaf,h=>by simp [Sh.same] at h
 | .lst _,.tup _,h=>by simp [Sh.same] at h
 | .tup _,.view,h=>by simp [Sh.same] at h
 | .tup _,.leaf,h=>by simp [Sh.same] at h
 | .tup _,.lst _,h=>by simp [Sh.same] at h
theorem Sh.sameL_eq:∀{as bs:List Sh},Sh.sameL as bs=true->as=bs
 | [],[],_=>rfl
 | a::as,b::bs,h=>by
  have h:Sh.same a b=true/\Sh.sameL as bs=true:=by simpa [Sh.sameL] using h
  rw [Sh.same_eq h.1,Sh.sameL_eq h.2]
 | [],_::_,h=>by simp [Sh.sameL] at h
 | _::_,[],h=>by simp [Sh.sameL] at h
end
def coer (s:Sh) (p:PV):Bool:=match s with
 | .leaf=>!p.s.isView||aW p.d
 | .view=>false
 | s=>Sh.same s p.s
def aK (s:Sh) (G:List Addr):List Addr:=match s with
 | .leaf=>[]
 | _=>G
theorem FC {s:Sh} {G:List Addr} {a:Addr} (h:a∈aK s G):a∈G:=by
 unfold aK at h;split at h
 ·simp at h
 ·exact h
theorem Own.coer {K:Fg} {O O':List Addr} {H:Hp} {s:Sh} {p:PV} {G:List Addr} {v:V} (h:Own K O H p.s G v p.d) (c:coer s p=true) (h1:∀a∈O',a∈O) (h2:∀a∈G,a∈O'->a∈aK s G):Own K O' H s (aK s G) v p.d:=by
 cases s with
 | view=>simp [T.coer] at c
 | leaf=>
  show Own K O' H .leaf [] v p.d
  have c:(!p.s.isView||aW p.d)=true:=c
  cases hv:p.s.isView with
  | false=>exact .leaf (h.freeze hv h1 fun a ha z=>by simpa [aK] using h2 a ha z)
  | true=>
   rw [hv] at c;exact .leaf (h.rep.sc (by simpa using c)).rep
 | lst s=>
  have e:Sh.lst s=p.s:=Sh.same_eq c
  show Own K O' H (.lst s) G v p.d
  rw [e];exact h.mono (Same.refl _) fun a ha=>.inl (h1 a ha)
 | tup ss=>
  have e:Sh.tup ss=p.s:=Sh.same_eq c
  show Own K O' H (.tup ss) G v p.d
  rw [e];exact h.mono (Same.refl _) fun a ha=>.inl (h1 a ha)
open PySem.SeqAt in
def bL:D->D->Option D:=fun a b=>if shaped a&&shaped b then some (.bool (PyData.eqv a b)) else none
open PySem.SeqAt in
def dS:D->D->Option D:=fun a b=>if shaped a&&shaped b then some (.bool (!PyData.eqv a b)) else none
open PySem.SeqAt in
def ka (K:Fg) (neg:Bool):R2:=fun x y H Q=>∃a b,Rep K H x a/\Rep K H y b/\shaped a=true/\shaped b=true/\Q (.bl (if neg then !PyData.eqv a b else PyData.eqv a b)) H
section
variable {X:Cx}
theorem EZ (hu:X.A.units+64<cLine):OpR X (compareOp .Eq) (ka X.K false):=by
 intro pins s σ H x y v u Q I rx ry h;obtain ⟨a,b,ra,rb,sa,sb,q⟩:=h;obtain ⟨as,r1⟩:=ra.reads I v rx;obtain ⟨bs,r2⟩:=rb.reads I u ry;exact SeqAt.compareEq_shaped r1 r2 sa sb hu ⟨.bl _,H,I,rfl,q⟩
theorem zl (hu:X.A.units+64<cLine):OpR X (compareOp .NotEq) (ka X.K true):=by
 intro pins s σ H x y v u Q I rx ry h;obtain ⟨a,b,ra,rb,sa,sb,q⟩:=h;obtain ⟨as,r1⟩:=ra.reads I v rx;obtain ⟨bs,r2⟩:=rb.reads I u ry;exact SeqAt.compareNe_shaped r1 r2 sa sb hu ⟨.bl _,H,I,rfl,q⟩
end
theorem zO {K:Fg}:GOp K (ka K false) bL:=by
 intro x y H Q a b d ra rb e k;unfold bL at e;split at e
 ·rename_i c
  cases e;simp only [Bool.and_eq_true] at c
  exact ⟨a,b,ra,rb,c.1,c.2,k _ (.bl _)⟩
 ·cases e
theorem zK {K:Fg}:GOp K (ka K true) dS:=by
 intro x y H Q a b d ra rb e k;unfold dS at e;split at e
 ·rename_i c
  cases e;simp only [Bool.and_eq_true] at c
  exact ⟨a,b,ra,rb,c.1,c.2,k _ (.bl _)⟩
 ·cases e
def zR:D->D->Option D
 | .str i,.str j=>some (.bool (decide (i.cps.toList<j.cps.toList)))
 | _,_=>none
abbrev Hm:=xM fun i j=>.bool (decide (i<j))
abbrev lP:D->D->Option D:=fun a b=>(Hm a b).or (zR a b)
abbrev El:=xM fun i j=>.bool (decide (i<=j))
abbrev lQ:=xM fun i j=>.bool (decide (j<i))
abbrev Jn:=xM fun i j=>.bool (decide (j<=i))
theorem vZ {K:Fg}:GOp K (fun x y H Q=>∃i j,x=.str i/\y=.str j/\Q (.bl (decide (i.cps.toList<j.cps.toList))) H) zR:=by
 intro x y H Q a b d ra rb e k
 cases ra<;>cases rb<;>simp only [zR] at e<;>try cases e
 rename_i i j;exact ⟨i,j,rfl,rfl,k _ (.bl _)⟩
theorem zL {K:Fg}:GOp K (fun x y H Q=>mq (fun i j=>.bl (decide (i<j))) x y H Q\/∃i j,x=.str i/\y=.str j/\Q (.bl (decide (i.cps.toList<j.cps.toList))) H) lP:=
 (AF fun _ _=>.bl _).or vZ
open PySem.SeqAt in
def cA (neg:Bool):D->D->Option D
 | a,.list xs=>if shaped a&&shaped (.list xs) then some (.bool (if neg then !xs.any fun y=>PyData.eqv y a else xs.any fun y=>PyData.eqv y a)) else none
 | a,.tuple xs=>if shaped a&&shaped (.tuple xs) then some (.bool (if neg then !xs.any fun y=>PyData.eqv y a else xs.any fun y=>PyData.eqv y a)) else none
 | _,_=>none
def y3 (K:Fg) (neg:Bool):R2:=fun x y H Q=>∃a b d,Rep K H x a/\Rep K H y b/\cA neg a b=some (.bool d)/\Q (.bl d) H
theorem zM {K:Fg} {neg:Bool}:GOp K (y3 K neg) (cA neg):=by
 intro x y H Q a b d ra rb e k;have:∃c,d=.bool c:=by
  cases b<;>simp only [cA] at e<;>(try cases e)<;>(split at e<;>cases e<;>exact ⟨_,rfl⟩)
 obtain ⟨c,rfl⟩:=this;exact ⟨a,b,c,ra,rb,e,k _ (.bl c)⟩
theorem dW {d:D} {xs:List D} (h:SeqAt.shaped d=true) (e:d=.list xs\/d=.tuple xs):PyData.canLayAll0 xs=true/\PyData.depthAll xs+1<=64:=by
 have h1:=SeqAt.canLay_of_shaped h
 have h2:=SeqAt.depth_of_shaped h
 rcases e with e | e<;>subst e<;>exact ⟨by simpa [PyData.canLay0] using h1,by simpa [PyData.depth] using h2⟩
section
variable {X:Cx}
theorem zp (hu:X.A.units+64<cLine):OpR X (compareOp .In) (y3 X.K false):=by
 intro pins s σ H x y v u Q I rx ry h;obtain ⟨a,b,d,ra,rb,e,q⟩:=h;obtain ⟨as,r1⟩:=ra.reads I v rx;obtain ⟨bs,r2⟩:=rb.reads I u ry
 cases b<;>simp only [cA] at e<;>try cases e
 all_goals
  split at e
  ·rename_i c
   simp only [Bool.and_eq_true] at c
   simp only [Option.some.injEq,PyData.bool.injEq] at e
   subst e;first
    | (obtain ⟨p1,p2⟩:=dW c.2 (.inl rfl)
       exact SeqAt.in_list_reads r2 r1 p1 (SeqAt.canLay_of_shaped c.1) (Nat.lt_of_le_of_lt (by have:=Nat.min_le_left (PyData.depthAll ‹_›) a.depth;omega) hu) ⟨.bl _,H,I,rfl,q⟩)
    | (obtain ⟨p1,p2⟩:=dW c.2 (.inr rfl)
       exact SeqAt.in_tuple_reads r2 r1 p1 (SeqAt.canLay_of_shaped c.1) (Nat.lt_of_le_of_lt (by have:=Nat.min_le_left (PyData.depthAll ‹_›) a.depth;omega) hu) ⟨.bl _,H,I,rfl,q⟩)
  ·cases e
end
def WantsB (K:Fg) (W:XW) (He:Hp) (O:List Addr) (Fs:List (List Addr)) (H:Hp) (σ:St) (Q:Bool->Hp->Prop) (o:Out Bool):Prop:=match o with
 | .ok b Γ'=>∀H' Fs',Same H H'->EnvOk K He O Fs' H' σ Γ'->(∀a∈Fs'.flatten,a∈Fs.flatten\/H a=none)->Q b H'
 | .er c Γ'=>∀H' Fs',Same H H'->EnvOk K He O Fs' H' σ Γ'->W c σ H'
 | .no=>False
abbrev FB:=Ev->Out Bool
def tT (K:Fg) (W:XW) (f:FB):TT:=fun σ H Q=>∃He O Fs Γ,EnvOk K He O Fs H σ Γ/\WantsB K W He O Fs H σ Q (f Γ)
section
variable {K:Fg} {W:XW} {He H H1:Hp} {O:List Addr} {Fs Fs1:List (List Addr)} {σ:St} {Γ Γ':Ev} {Q:VK} {QB:Bool->Hp->Prop}
theorem Wants.after {o:Out PV} (h:Wants K W He O Fs H σ Q o) (s:Same H H1) (n:∀a∈Fs1.flatten,a∈Fs.flatten\/H a=none):Wants K W He O Fs1 H1 σ Q o:=by
 cases o with
 | ok p Γ'=>exact fun v H' G Fs' A=>h v H' G Fs' ⟨s.trans A.same,A.env,fun a ha=>(A.new a ha).elim (n a) fun z=>.inr (s.free z),A.own⟩
 | er c Γ'=>exact fun H' Fs' e E=>h H' Fs' (s.trans e) E
 | no=>exact h
theorem WantsB.after {o:Out Bool} (h:WantsB K W He O Fs H σ QB o) (s:Same H H1) (n:∀a∈Fs1.flatten,a∈Fs.flatten\/H a=none):WantsB K W He O Fs1 H1 σ QB o:=by
 cases o with
 | ok p Γ'=>exact fun H' Fs' e E n'=>h H' Fs' (s.trans e) E fun a ha=>(n' a ha).elim (n a) fun z=>.inr (s.free z)
 | er c Γ'=>exact fun H' Fs' e E=>h H' Fs' (s.trans e) E
 | no=>exact h
theorem Aft.go {p:PV} {v:V} {G:List Addr} (A:Aft K He O Fs H σ Γ' p v H1 G Fs1):EnvOk K He O Fs1 H1 σ Γ':=A.env.dropL
theorem Aft.newF {p:PV} {v:V} {G:List Addr} (A:Aft K He O Fs H σ Γ' p v H1 G Fs1):∀a∈Fs1.flatten,a∈Fs.flatten\/H a=none:=fun a ha=>A.new a (mem_append_right _ ha)
end
section
variable {K:Fg} {W:XW} {σ:St} {H:Hp} {Q:VK} {QB:Bool->Hp->Prop} {fa fb fc:F1} {ga gb:FB}
def aN (g:D->Option Bool) (f:F1):FB:=fun Γ=>(f Γ).bind fun p Γ'=>match g p.d with
 | some b=>.ok b Γ'
 | none=>.no
theorem ny {g:D->Option Bool} {R:VK} (h:tT K W (aN g fa) σ H QB) (hR:∀v d b H1,Rep K H1 v d->g d=some b->QB b H1->R v H1):tE K W fa σ H R:=by
 obtain ⟨He,O,Fs,Γ,E,h⟩:=h;refine ⟨He,O,Fs,Γ,E,?_⟩
 unfold aN at h
 cases e:fa Γ with
 | ok p Γ'=>
  rw [e] at h;intro v H' G Fs' A
  have h:WantsB K W He O Fs H σ QB (match g p.d with | some b=>.ok b Γ' | none=>.no):=h
  cases e2:g p.d with
  | some b=>
   rw [e2] at h;exact hR v p.d b H' A.own.rep e2 (h H' Fs' A.same A.go A.newF)
  | none=>rw [e2] at h;exact h.elim
 | er c Γ'=>rw [e] at h;exact h
 | no=>rw [e] at h;exact h
def aq:D->Option Bool
 | .bool b=>some b
 | _=>none
theorem u9 {t:TE} (hi:∀Q,tE K W fa σ H Q->t σ H Q) (h:tT K W (aN aq fa) σ H QB):qR t σ H QB:=by
 refine hi _ (ny h fun v d b H1 r e q=>?_)
 cases r<;>simp only [aq] at e<;>try cases e
 exact ⟨_,rfl,q⟩
def aZ:D->Option Bool
 | .none=>some false
 | .bool b=>some b
 | .int i=>some (i != 0)
 | .str x=>if x.length<=sizeLine then some ((x.length:Int) != 0) else none
 | .list xs=>some (!xs.isEmpty)
 | .tuple xs=>some (!xs.isEmpty)
 | .dict _=>none
theorem yJ (h:tT K W (aN aZ fa) σ H QB):tE K W fa σ H fun x H'=>∃k,Au K x H' k/\QB k H':=by
 refine ny h fun v d b H1 r e q=>?_
 cases r with
 | non=>cases e;exact ⟨_,rfl,q⟩
 | bl c=>cases e;exact ⟨_,rfl,q⟩
 | int i=>cases e;exact ⟨_,rfl,q⟩
 | str x=>
  simp only [aZ] at e
  split at e
  ·rename_i z;cases e;exact ⟨_,⟨z,rfl⟩,q⟩
  ·cases e
 | @lst p vs ds hq hl _=>
  cases e;exact ⟨_,.inl ⟨vs,hq,by cases vs<;>cases ds<;>simp_all⟩,q⟩
 | @tup p vs ds hq hl _=>
  cases e;exact ⟨_,.inr (.inl ⟨vs,hq,by cases vs<;>cases ds<;>simp_all⟩),q⟩
def Aq (a b:FB):FB:=fun Γ=>(a Γ).bind fun c Γ'=>if c then b Γ' else .ok false Γ'
def cY (a b:FB):FB:=fun Γ=>(a Γ).bind fun c Γ'=>if c then .ok true Γ' else b Γ'
def bx (a:FB):FB:=fun Γ=>(a Γ).bind fun c Γ'=>.ok (!c) Γ'
theorem qS {k:Bool->Ev->Out Bool} {R:Bool->Hp->Prop} (h:tT K W (fun Γ=>(ga Γ).bind k) σ H QB)
  (hk:∀(He:Hp) (O:List Addr) Γ1 b H1 Fs1,Same H H1->EnvOk K He O Fs1 H1 σ Γ1->WantsB K W He O Fs1 H1 σ QB (k b Γ1)->R b H1):tT K W ga σ H R:=by
 obtain ⟨He,O,Fs,Γ,E,h⟩:=h;have h:WantsB K W He O Fs H σ QB ((ga Γ).bind k):=h
 refine ⟨He,O,Fs,Γ,E,?_⟩
 cases e:ga Γ with
 | ok b Γ1=>rw [e] at h;exact fun H' Fs' s E' n=>hk He O Γ1 b H' Fs' s E' (WantsB.after (o:=k b Γ1) h s n)
 | er c Γ1=>rw [e] at h;exact h
 | no=>rw [e] at h;exact h
theorem WantsB.now {He:Hp} {O:List Addr} {Fs:List (List Addr)} {Γ:Ev} {b:Bool} (h:WantsB K W He O Fs H σ QB (.ok b Γ)) (E:EnvOk K He O Fs H σ Γ):QB b H:=h H Fs (Same.refl _) E fun _ z=>.inl z
theorem yY (h:tT K W (cY ga gb) σ H QB):Ic (tT K W ga) (tT K W gb) σ H QB:=by
 refine qS h fun He O Γ1 b H1 Fs1 s E w=>?_
 cases b with
 | false=>exact cX ⟨He,O,Fs1,Γ1,E,w⟩
 | true=>exact dq (WantsB.now w E)
theorem vp (h:tT K W (bx ga) σ H QB):qV (tT K W ga) σ H QB:=qS h fun He O Γ1 b H1 Fs1 s E w=>WantsB.now w E
def fQ (fa fb:F1):F1:=aR fa fun p Γ=>match p.d with
 | .bool true=>fb Γ
 | .bool false=>.ok ⟨.leaf,.bool false⟩ Γ
 | _=>.no
def mN (fa:F1):F1:=aR fa fun p Γ=>match p.d with
 | .bool b=>.ok ⟨.leaf,.bool (!b)⟩ Γ
 | _=>.no
theorem yZ (h:tE K W (fQ fa fb) σ H Q):qY (tE K W fa) (tE K W fb) σ H Q:=by
 refine AL h fun He O Fs Γ1 p v H1 G Fs1 nd A w=>?_
 have r:=A.own.rep
 obtain ⟨s,d⟩:=p
 cases r with
 | bl b=>
  cases b with
  | true=>exact ⟨true,rfl,dq ⟨He,O,Fs1,Γ1,A.go,Wants.after w A.same A.newF⟩⟩
  | false=>exact ⟨false,rfl,cX (Wants.scal w (.bl false) A.same A.env (fun a ha=>mem_append_right _ ha) nd A.newF)⟩
 | _=>exact w.elim
theorem yP (h:tE K W (mN fa) σ H Q):qU (tE K W fa) σ H Q:=by
 refine AL h fun He O Fs Γ1 p v H1 G Fs1 nd A w=>?_
 have r:=A.own.rep
 obtain ⟨s,d⟩:=p
 cases r with
 | bl b=>exact ⟨b,rfl,Wants.scal w (.bl _) A.same A.env (fun a ha=>mem_append_right _ ha) nd A.newF⟩
 | _=>exact w.elim
def ux (c:FB) (fa fb:F1):F1:=fun Γ=>(c Γ).bind fun b Γ'=>if b then fa Γ' else fb Γ'
theorem BX (h:tE K W (ux ga fa fb) σ H Q):Gd (tT K W ga) (tE K W fa) (tE K W fb) σ H Q:=by
 obtain ⟨He,O,Fs,Γ,E,h⟩:=h;refine ⟨He,O,Fs,Γ,E,?_⟩
 unfold ux at h
 cases e:ga Γ with
 | ok b Γ1=>
  rw [e] at h;intro H' Fs' s E' n
  have h':=Wants.after (o:=if b then fa Γ1 else fb Γ1) h s n
  cases b with
  | true=>exact dq ⟨He,O,Fs',Γ1,E',h'⟩
  | false=>exact cX ⟨He,O,Fs',Γ1,E',h'⟩
 | er c Γ1=>rw [e] at h;exact h
 | no=>rw [e] at h;exact h
def xZ (g g':D->D->Option D) (fa fb fc:F1):F1:=aR fa fun p=>aR fb fun q=>fun Γ=>match g p.d q.d with
 | some (.bool true)=>if aW q.d then (fc Γ).bind fun z Γ'=>(match g' q.d z.d with | some d=>.ok ⟨.leaf,d⟩ Γ' | none=>.no) else .no
 | some (.bool false)=>.ok ⟨.leaf,.bool false⟩ Γ
 | _=>.no
theorem rJ {r r':R2} {g g':D->D->Option D} (hg:GOp K r g) (hg':GOp K r' g') (h:tE K W (xZ g g' fa fb fc) σ H Q):qX r r' (tE K W fa) (tE K W fb) (tE K W fc) σ H Q:=by
 refine EB h ?_
 intro He O Fs Γ2 p q v u H1 H2 G1 G2 Fs2 nd s1 s2 E new o1 o2 w;have sub:∀a∈O,a∈G2++(G1++O):=fun a ha=>mem_append_right _ (mem_append_right _ ha)
 have newF:∀a∈Fs2.flatten,a∈Fs.flatten\/H a=none:=fun a ha=>new a (mem_append_right _ (mem_append_right _ ha))
 cases e:g p.d q.d with
 | none=>rw [e] at w;exact w.elim
 | some d=>
  rw [e] at w;refine hg v u H2 _ p.d q.d d o1.rep o2.rep e fun z s=>?_
  cases s with
  | bl b=>
   cases b with
   | false=>exact ⟨false,rfl,cX (Wants.scal w (.bl false) (s1.trans s2) E sub nd newF)⟩
   | true=>
    refine ⟨true,rfl,dq ?_⟩
    have w:Wants K W He O Fs H σ Q (if aW q.d then (fc Γ2).bind fun z Γ'=>(match g' q.d z.d with | some d=>.ok ⟨.leaf,d⟩ Γ' | none=>.no) else .no):=w
    cases hs:aW q.d with
    | false=>rw [hs] at w;exact w.elim
    | true=>
     rw [hs] at w;have w:Wants K W He O Fs H σ Q ((fc Γ2).bind fun z Γ'=>(match g' q.d z.d with | some d=>.ok ⟨.leaf,d⟩ Γ' | none=>.no)):=w
     have su:=o2.rep.sc hs
     refine ⟨He,O,Fs2,Γ2,E.drop sub nd,?_⟩
     cases e3:fc Γ2 with
     | ok p3 Γ3=>
      rw [e3] at w;intro v3 H3 G3 Fs3 A3;have w:Wants K W He O Fs H σ Q (match g' q.d p3.d with | some d=>.ok ⟨.leaf,d⟩ Γ3 | none=>.no):=w
      cases e4:g' q.d p3.d with
      | none=>rw [e4] at w;exact w.elim
      | some d4=>
       rw [e4] at w;exact hg' u v3 H3 Q q.d p3.d d4 su.rep A3.own.rep e4 fun z s=>Wants.scal w s ((s1.trans s2).trans A3.same) A3.env (fun a ha=>mem_append_right _ ha) nd fun a ha=>(A3.new a (mem_append_right _ ha)).elim (newF a) fun z=>.inr ((s1.trans s2).free z)
     | er c Γ3=>
      rw [e3] at w;exact fun H' Fs' s E'=>w H' Fs' ((s1.trans s2).trans s) E'
     | no=>rw [e3] at w;exact w
  | non=>exact w.elim
  | int i=>exact w.elim
  | str x=>exact w.elim
end
structure AftL (K:Fg) (He:Hp) (O:List Addr) (Fs:List (List Addr)) (H:Hp) (σ:St) (Γ':Ev) (ps:List PV) (vs:List V) (H':Hp) (Gs Fs':List (List Addr)):Prop where
 same:Same H H'
 len1:vs.length=ps.length
 len2:Gs.length=ps.length
 env:EnvOk K He (Gs.flatten++O) Fs' H' σ Γ'
 new:∀a∈Gs.flatten++Fs'.flatten,a∈Fs.flatten\/H a=none
 own:∀(i:Nat) v p G,vs[i]?=some v->ps[i]?=some p->Gs[i]?=some G->Own K (Gs.flatten++O++Fs'.flatten) H' p.s G v p.d
abbrev FL:=Ev->Out (List PV)
def uc (K:Fg) (W:XW) (He:Hp) (O:List Addr) (Fs:List (List Addr)) (H:Hp) (σ:St) (Q:List V->Hp->Prop) (o:Out (List PV)):Prop:=match o with
 | .ok ps Γ'=>∀vs H' Gs Fs',AftL K He O Fs H σ Γ' ps vs H' Gs Fs'->Q vs H'
 | .er c Γ'=>∀H' Fs',Same H H'->EnvOk K He O Fs' H' σ Γ'->W c σ H'
 | .no=>False
def tA (K:Fg) (W:XW) (f:FL):TA:=fun σ H Q=>∃He O Fs Γ,EnvOk K He O Fs H σ Γ/\uc K W He O Fs H σ Q (f Γ)
def af:FL:=fun Γ=>.ok [] Γ
def ab (fa:F1) (fl:FL):FL:=fun Γ=>(fa Γ).bind fun p Γ1=>(fl Γ1).bind fun ps Γ2=>.ok (p::ps) Γ2
section
variable {K:Fg} {W:XW} {σ:St} {H:Hp} {Q:VK} {QL:List V->Hp->Prop} {fa fb:F1} {fl:FL}
theorem yQ (h:tA K W af σ H QL):bF σ H QL:=by
 obtain ⟨He,O,Fs,Γ,E,h⟩:=h;exact h [] H [] Fs ⟨Same.refl _,rfl,rfl,by simpa using E,fun a ha=>.inl (by simpa using ha),fun i v p G e=>by simp at e⟩
theorem ke {α:Type} (A B C:List α):(A++(B++C)).Perm (B++(A++C)):=by
 rw [<-append_assoc,<-append_assoc];exact List.Perm.append_right _ perm_append_comm
theorem EnvOk.perm {He H:Hp} {O O':List Addr} {Fs:List (List Addr)} {Γ:Ev} (E:EnvOk K He O Fs H σ Γ) (p:O'.Perm O):EnvOk K He O' Fs H σ Γ:=E.drop (fun a ha=>p.mem_iff.mp ha) (p.nodup_iff.mpr E.ndO)
theorem Own.perm {H:Hp} {O O':List Addr} {s:Sh} {G:List Addr} {v:V} {d:D} (h:Own K O H s G v d) (p:∀a∈O',a∈O):Own K O' H s G v d:=h.mono (Same.refl _) fun a ha=>.inl (p a ha)
theorem vn (h:tA K W (ab fa fl) σ H QL):aT (tE K W fa) (tA K W fl) σ H QL:=by
 obtain ⟨He,O,Fs,Γ,E,h⟩:=h;refine ⟨He,O,Fs,Γ,E,?_⟩
 unfold ab at h
 cases e:fa Γ with
 | ok p Γ1=>
  rw [e] at h;intro v H1 G1 Fs1 A1;refine ⟨He,G1++O,Fs1,Γ1,A1.env,?_⟩
  have h:uc K W He O Fs H σ QL ((fl Γ1).bind fun ps Γ2=>.ok (p::ps) Γ2):=h
  cases e2:fl Γ1 with
  | ok ps Γ2=>
   rw [e2] at h;intro vs H2 Gs Fs2 A2;have pm:((G1::Gs).flatten++O).Perm (Gs.flatten++(G1++O)):=by
    rw [flatten_cons,append_assoc];exact ke _ _ _
   refine h (v::vs) H2 (G1::Gs) Fs2 ⟨A1.same.trans A2.same,by simp [A2.len1],by simp [A2.len2],A2.env.perm pm,fun a ha=>?_,fun i u q G h1 h2 h3=>?_⟩
   ·rcases List.mem_append.mp ha with z | z
    ·rw [flatten_cons] at z
     rcases List.mem_append.mp z with z | z
     ·exact A1.new a (mem_append_left _ z)
     ·exact (A2.new a (mem_append_left _ z)).elim (fun y=>A1.new a (mem_append_right _ y)) fun y=>.inr (A1.same.free y)
    ·exact (A2.new a (mem_append_right _ z)).elim (fun y=>A1.new a (mem_append_right _ y)) fun y=>.inr (A1.same.free y)
   ·have sub:∀a∈(G1::Gs).flatten++O++Fs2.flatten,a∈Gs.flatten++(G1++O)++Fs2.flatten:=fun a ha=>by
     rcases List.mem_append.mp ha with z | z
     ·exact mem_append_left _ (pm.mem_iff.mp z)
     ·exact mem_append_right _ z
    cases i with
    | zero=>
     simp at h1 h2 h3
     subst h1 h2 h3;refine (A1.own.mono A2.same fun a ha=>?_).perm sub
     rcases List.mem_append.mp ha with z | z
     ·rcases List.mem_append.mp z with z | z
      ·exact (A2.new a (mem_append_left _ z)).elim (fun y=>.inl (mem_append_right _ y)) .inr
      ·exact .inl (mem_append_left _ z)
     ·exact (A2.new a (mem_append_right _ z)).elim (fun y=>.inl (mem_append_right _ y)) .inr
    | succ i=>
     simp at h1 h2 h3
     exact (A2.own i u q G h1 h2 h3).perm sub
  | er c Γ2=>
   rw [e2] at h;exact fun H2 Fs2 s E2=>h H2 Fs2 (A1.same.trans s) E2.dropL
  | no=>rw [e2] at h;exact h
 | er c Γ1=>rw [e] at h;exact h
 | no=>rw [e] at h;exact h
theorem AftL.reps {He:Hp} {O:List Addr} {Fs Gs Fs':List (List Addr)} {Γ':Ev} {ps:List PV} {vs:List V} {H':Hp} (A:AftL K He O Fs H σ Γ' ps vs H' Gs Fs'):Reps K H' vs (ps.map (·.d)):=by
 refine ⟨by rw [length_map];exact A.len1,fun i v d h1 h2=>?_⟩
 rw [getElem?_map] at h2
 cases e:ps[i]? with
 | none=>rw [e] at h2;cases h2
 | some p=>
  rw [e] at h2
  cases h2;have hi:=(List.getElem?_eq_some_iff.mp e).1
  exact (A.own i v p (Gs[i]'(by rw [A.len2];exact hi)) h1 e (getElem?_eq_getElem _)).rep
def bb (g:List D->Option D) (fl:FL):F1:=fun Γ=>(fl Γ).bind fun ps Γ'=>match g (ps.map (·.d)) with
 | some d=>.ok ⟨.leaf,d⟩ Γ'
 | none=>.no
def GCall (K:Fg) (r:List V->Hp->VK->Prop) (g:List D->Option D):Prop:=∀vs H Q ds d,Reps K H vs ds->g ds=some d->(∀v,Sc v d->Q v H)->r vs H Q
theorem xy {r:List V->Hp->VK->Prop} {g:List D->Option D} (hg:GCall K r g) (h:tE K W (bb g fl) σ H Q):oQ r (tA K W fl) σ H Q:=by
 obtain ⟨He,O,Fs,Γ,E,h⟩:=h;refine ⟨He,O,Fs,Γ,E,?_⟩
 unfold bb at h
 cases e:fl Γ with
 | ok ps Γ'=>
  rw [e] at h;intro vs H' Gs Fs' A
  have h:Wants K W He O Fs H σ Q (match g (ps.map (·.d)) with | some d=>.ok ⟨.leaf,d⟩ Γ' | none=>.no):=h
  cases e2:g (ps.map (·.d)) with
  | none=>rw [e2] at h;exact h.elim
  | some d=>
   rw [e2] at h;exact hg vs H' Q _ d A.reps e2 fun v s=>Wants.scal h s A.same A.env (fun a ha=>mem_append_right _ ha) E.ndO fun a ha=>A.new a (mem_append_right _ ha)
 | er c Γ'=>rw [e] at h;exact h
 | no=>rw [e] at h;exact h
theorem GCall.or {r r':List V->Hp->VK->Prop} {g g':List D->Option D} (h:GCall K r g) (h':GCall K r' g'):GCall K (fun xs H Q=>r xs H Q\/r' xs H Q) (fun ds=>(g ds).or (g' ds)):=by
 intro vs H Q ds d rs e k;have e:(g ds).or (g' ds)=some d:=e
 cases e1:g ds with
 | some z=>rw [e1] at e;cases e;exact .inl (h vs H Q ds _ rs e1 k)
 | none=>rw [e1] at e;exact .inr (h' vs H Q ds d rs (by simpa using e) k)
theorem Reps.one {vs:List V} {d:D} (h:Reps K H vs [d]):∃v,vs=[v]/\Rep K H v d:=by
 obtain ⟨hl,h⟩:=h;match vs,hl with
 | [v],_=>exact ⟨v,rfl,h 0 v d rfl rfl⟩
theorem Reps.two {vs:List V} {d e:D} (h:Reps K H vs [d,e]):∃v u,vs=[v,u]/\Rep K H v d/\Rep K H u e:=by
 obtain ⟨hl,h⟩:=h;match vs,hl with
 | [v,u],_=>exact ⟨v,u,rfl,h 0 v d rfl rfl,h 1 u e rfl rfl⟩
end
def xJ:List D->Option D
 | [.list xs]=>some (.int xs.length)
 | [.tuple xs]=>some (.int xs.length)
 | _=>none
def tq:List D->Option D
 | [.str x]=>if x.length<=sizeLine then some (.int x.length) else none
 | _=>none
abbrev aU:List D->Option D:=fun ds=>(xJ ds).or (tq ds)
theorem zP {K:Fg}:GCall K (fun xs H Q=>(∃p ys,xs=[.ref p]/\(SqL K H p ys\/SqT K H p ys)/\Q (.int ys.length) H)\/∃z,xs=[.str z]/\z.length<=sizeLine/\Q (.int z.length) H) aU:=by
 refine GCall.or (g:=xJ) (g':=tq) (r:=fun xs H Q=>∃p ys,xs=[.ref p]/\(SqL K H p ys\/SqT K H p ys)/\Q (.int ys.length) H) (r':=fun xs H Q=>∃z,xs=[.str z]/\z.length<=sizeLine/\Q (.int z.length) H) ?_ ?_
 ·intro vs H Q ds d rs e k
  match ds,e with
  | [.list xs],e=>
   obtain ⟨v,rfl,r⟩:=rs.one
   cases e
   cases r with
   | @lst p us _ hq hl _=>exact ⟨p,us,rfl,.inl hq,by rw [hl];exact k _ (.int _)⟩
  | [.tuple xs],e=>
   obtain ⟨v,rfl,r⟩:=rs.one
   cases e
   cases r with
   | @tup p us _ hq hl _=>exact ⟨p,us,rfl,.inr hq,by rw [hl];exact k _ (.int _)⟩
 ·intro vs H Q ds d rs e k
  match ds,e with
  | [.str x],e=>
   obtain ⟨v,rfl,r⟩:=rs.one;simp only [tq] at e
   split at e
   ·rename_i z
    cases e
    cases r;exact ⟨x,rfl,z,k _ (.int _)⟩
   ·cases e
def mK:List D->Option D
 | [.int i]=>some (.int i)
 | [.bool b]=>some (.int (if b then 1 else 0))
 | _=>none
theorem zQ {K:Fg}:GCall K (fun xs H Q=>(∃i,xs=[.int i]/\Q (.int i) H)\/∃k,xs=[.bl k]/\Q (.int (if k then 1 else 0)) H) mK:=by
 intro vs H Q ds d rs e k;match ds,e with
 | [.int i],e=>
  obtain ⟨v,rfl,r⟩:=rs.one
  cases e;cases r;exact .inl ⟨i,rfl,k _ (.int _)⟩
 | [.bool b],e=>
  obtain ⟨v,rfl,r⟩:=rs.one
  cases e;cases r;exact .inr ⟨b,rfl,k _ (.int _)⟩
def Jm:List D->Option D
 | [.int i,.int j]=>some (.int (if j>i then j else i))
 | _=>none
def uk:List D->Option (List Bool)
 | []=>some []
 | .bool b::r=>(uk r).map (b :: ·)
 | _=>none
theorem gU:∀{ds:List D} {bs:List Bool},uk ds=some bs->ds=bs.map PyData.bool
 | [],bs,h=>by cases h;rfl
 | .bool b::r,bs,h=>by
  simp only [uk] at h
  cases e:uk r with
  | none=>rw [e] at h;cases h
  | some cs=>rw [e] at h;cases h;rw [gU e];rfl
 | .none::_,_,h=>by cases h
 | .int _::_,_,h=>by cases h
 | .str _::_,_,h=>by cases h
 | .list _::_,_,h=>by cases h
 | .tuple _::_,_,h=>by cases h
 | .dict _::_,_,h=>by cases h
def bN (any:Bool):List D->Option D
 | [.list xs]=>(uk xs).map fun bs=>.bool (if any then bs.any id else bs.all id)
 | _=>none
theorem gu {K:Fg} {H:Hp}:∀{vs:List V} {bs:List Bool},Reps K H vs (bs.map PyData.bool)->vs=bs.map V.bl
 | [],[],_=>rfl
 | v::vs,b::bs,⟨hl,h⟩=>by
  have r:=h 0 v (.bool b) rfl rfl
  cases r;rw [gu (bs:=bs) (vs:=vs) ⟨by simpa using hl,fun i v d h1 h2=>h (i+1) v d (by simpa using h1) (by simpa using h2)⟩]
  rfl
 | [],_::_,⟨hl,_⟩=>by simp at hl
 | _::_,[],⟨hl,_⟩=>by simp at hl
def rR (K:Fg) (any:Bool):List V->Hp->VK->Prop:=fun xs H Q=>∃(p:Addr) (bs:List Bool),xs=[.ref p]/\SqL K H p (bs.map V.bl)/\Q (.bl (if any then bs.any id else bs.all id)) H
theorem tp {K:Fg} {any:Bool}:GCall K (rR K any) (bN any):=by
 intro vs H Q ds d rs e k;match ds,e with
 | [.list xs],e=>
  obtain ⟨v,rfl,r⟩:=rs.one;simp only [bN] at e
  cases eb:uk xs with
  | none=>rw [eb] at e;cases e
  | some bs=>
   rw [eb] at e
   cases e;have:=gU eb
   subst this
   cases r with
   | @lst p us _ hq hl hr=>
    have:=gu ⟨hl,hr⟩
    subst this;exact ⟨p,bs,rfl,hq,k _ (.bl _)⟩
section
variable {X:Cx}
theorem i4 {bs:List Bool}:∀{its:List Value},Vals (bs.map V.bl) its->its=bs.map Value.bool:=by
 induction bs with
 | nil=>intro its h;cases h;rfl
 | cons b bs ih=>
  intro its h
  cases h with
  | cons r t=>
   cases (show _=Value.bool b from r)
   rw [ih t];rfl
theorem pb (bs:List Bool):(List.range bs.length).all (fun i=>bs.getD i false)=bs.all id:=by
 rw [Bool.eq_iff_iff,all_eq_true,all_eq_true];constructor
 ·intro h b hb
  obtain ⟨i,hi,e⟩:=List.mem_iff_getElem.mp hb;have:=h i (List.mem_range.mpr hi)
  rw [getD_eq_getElem?_getD,getElem?_eq_getElem hi] at this;rw [<-e];simpa using this
 ·intro h i hi
  have hi:=List.mem_range.mp hi
  rw [getD_eq_getElem?_getD,getElem?_eq_getElem hi];exact h _ (getElem_mem hi)
theorem o9 (bs:List Bool):(List.range bs.length).any (fun i=>bs.getD i false)=bs.any id:=by
 rw [Bool.eq_iff_iff,any_eq_true,any_eq_true];constructor
 ·rintro ⟨i,hi,h⟩
  have hi:=List.mem_range.mp hi
  rw [getD_eq_getElem?_getD,getElem?_eq_getElem hi] at h;exact ⟨_,getElem_mem hi,h⟩
 ·rintro ⟨b,hb,h⟩
  obtain ⟨i,hi,e⟩:=List.mem_iff_getElem.mp hb;refine ⟨i,List.mem_range.mpr hi,?_⟩
  rw [getD_eq_getElem?_getD,getElem?_eq_getElem hi,e];exact h
theorem eZ {prog:Program} {w:World} {A:Around} {bs:List Bool}:TruthOf prog w A (fun i v=>(bs.map Value.bool).toArray[i]?=some v) (fun i=>bs.getD i false):=by
 intro i v s Q E hP hQ;simp only [getElem?_toArray,getElem?_map] at hP
 cases e:bs[i]? with
 | none=>rw [e] at hP;cases hP
 | some b=>
  rw [e] at hP
  cases hP;have hQ:Q (bs.getD i false) s:=hQ
  rw [getD_eq_getElem?_getD,e] at hQ;exact wpAny_truthy_bool hQ
theorem qk (hc:X.calm=true):CallR X (.builtin "all") (rR X.K false):=by
 intro pins s σ H vs us Q I rv h;obtain ⟨p,bs,rfl,hq,q⟩:=h;obtain ⟨u,rfl,ru⟩:=vals1 rv
 cases ru;obtain ⟨its,rv,pl,hz⟩:=I.list hq;have:=i4 rv
 subst this;have hd:=I.ok.hd hc
 refine call_all_walk (wpAny_pyIter_list pl.isList ?_)
 have ne:p≠s.heap.objs.size:=by
  obtain ⟨o,n,e,_⟩:=pl;exact Nat.ne_of_lt (Heap.lt_size e)
 refine ⟨s.heap.objs.size,_,_,_,_,_,fun i=>bs.getD i false,rfl,Walks.list (prog:=X.prog) (w:=X.w) (A:=X.A.in1) hd s.heap.objs.size p ne (bs.map Value.bool).toArray,⟨⟨_,Heap.get?_push_size _ rfl,rfl,rfl⟩,pl.isList.at fun o e=>Heap.get?_push_of_some _ e⟩,eZ,fun h' tk hk=>?_⟩
 refine ⟨.bl _,H,I.kept (h':=h') (t':=tk) fun b o e=>hk b o (fun z=>?_) (Heap.get?_push_of_some _ e),rfl,?_⟩
 ·have z:b=s.heap.objs.size:=by simpa using z
  exact absurd (Heap.lt_size e) (by rw [z];exact Nat.lt_irrefl _)
 ·rw [size_toArray,length_map,pb]
  exact q
theorem Fi (hc:X.calm=true):CallR X (.builtin "any") (rR X.K true):=by
 intro pins s σ H vs us Q I rv h;obtain ⟨p,bs,rfl,hq,q⟩:=h;obtain ⟨u,rfl,ru⟩:=vals1 rv
 cases ru;obtain ⟨its,rv,pl,hz⟩:=I.list hq;have:=i4 rv
 subst this;have hd:=I.ok.hd hc
 refine call_any_walk (wpAny_pyIter_list pl.isList ?_)
 have ne:p≠s.heap.objs.size:=by
  obtain ⟨o,n,e,_⟩:=pl;exact Nat.ne_of_lt (Heap.lt_size e)
 refine ⟨s.heap.objs.size,_,_,_,_,_,fun i=>bs.getD i false,rfl,Walks.list (prog:=X.prog) (w:=X.w) (A:=X.A.in1) hd s.heap.objs.size p ne (bs.map Value.bool).toArray,⟨⟨_,Heap.get?_push_size _ rfl,rfl,rfl⟩,pl.isList.at fun o e=>Heap.get?_push_of_some _ e⟩,eZ,fun h' tk hk=>?_⟩
 refine ⟨.bl _,H,I.kept (h':=h') (t':=tk) fun b o e=>hk b o (fun z=>?_) (Heap.get?_push_of_some _ e),rfl,?_⟩
 ·have z:b=s.heap.objs.size:=by simpa using z
  exact absurd (Heap.lt_size e) (by rw [z];exact Nat.lt_irrefl _)
 ·rw [size_toArray,length_map,o9]
  exact q
end
def lL (s:Sh) (j:Nat) (d:D):Option Sh:=match s with
 | .leaf=>some .leaf
 | .view=>some (if aW d then .leaf else .view)
 | .lst s=>some s
 | .tup ss=>ss[j]?
def ag (fa fb:F1):F1:=aR fa fun p=>aR fb fun q=>fun Γ=>match q.d with
 | .int i=>(match p.d with
  | .list ds=>(match dn ds.length i with
   | some j=>(match ds[j]? with
    | some d=>(match lL p.s j d with
     | some s=>.ok ⟨s,d⟩ Γ
     | none=>.no)
    | none=>.no)
   | none=>.no)
  | .tuple ds=>(match dn ds.length i with
   | some j=>(match ds[j]? with
    | some d=>(match lL p.s j d with
     | some s=>.ok ⟨s,d⟩ Γ
     | none=>.no)
    | none=>.no)
   | none=>.no)
  | .str z=>if z.length<=sizeLine then (match cZ z.cps.toList i with
   | some c=>.ok ⟨.leaf,.str ⟨#[c]⟩⟩ Γ
   | none=>.no) else .no
  | _=>.no)
 | _=>.no
theorem Own.item {K:Fg} {O:List Addr} {H:Hp} {s s':Sh} {G:List Addr} {p:Addr} {ds:List D} {j:Nat} {d:D} (h:Own K O H s G (.ref p) (.list ds)) (hd:ds[j]?=some d) (hs:lL s j d=some s') :
  ∃vs v G',SqL K H p vs/\vs.length=ds.length/\vs[j]?=some v/\(∀a∈G',a∈G)/\G'.Nodup/\Own K O H s' G' v d:=by
 have hi:=(List.getElem?_eq_some_iff.mp hd).1
 cases h with
 | view r=>
  cases r with
  | @lst _ vs _ hq hl hr=>
   have hv:vs[j]?=some (vs[j]'(by omega)):=getElem?_eq_getElem _
   have r':=hr j _ d hv hd
   simp only [lL,Option.some.injEq] at hs
   cases e:aW d with
   | true=>
    rw [e] at hs
    cases hs;exact ⟨vs,_,[],hq,hl,hv,(fun _ z=>nomatch z),nodup_nil,.leaf (r'.sc e).rep⟩
   | false=>
    rw [e] at hs
    cases hs;exact ⟨vs,_,[],hq,hl,hv,(fun _ z=>nomatch z),nodup_nil,.view r'⟩
 | leaf r=>
  cases r with
  | @lst _ vs _ hq hl hr=>
   have hv:vs[j]?=some (vs[j]'(by omega)):=getElem?_eq_getElem _
   cases hs;exact ⟨vs,_,[],hid_le.seq hq,hl,hv,(fun _ z=>nomatch z),nodup_nil,.leaf (hr j _ d hv hd)⟩
 | @lst s₀ _ vs _ Fs hv hp hl hf nd hr=>
  have hv':vs[j]?=some (vs[j]'(by omega)):=getElem?_eq_getElem _
  have hF:Fs[j]?=some (Fs[j]'(by omega)):=getElem?_eq_getElem _
  cases hs;refine ⟨vs,_,_,.of hp,hl,hv',fun a ha=>mem_cons_of_mem _ (fG hF ha),?_,hr j _ d _ hv' hd hF⟩
  exact ((List.nodup_cons.mp nd).2).sublist (List.sublist_flatten_of_mem (mem_of_getElem? hF))
theorem Own.itemT {K:Fg} {O:List Addr} {H:Hp} {s s':Sh} {G:List Addr} {p:Addr} {ds:List D} {j:Nat} {d:D} (h:Own K O H s G (.ref p) (.tuple ds)) (hd:ds[j]?=some d) (hs:lL s j d=some s') :
  ∃vs v G',SqT K H p vs/\vs.length=ds.length/\vs[j]?=some v/\(∀a∈G',a∈G)/\G'.Nodup/\Own K O H s' G' v d:=by
 have hi:=(List.getElem?_eq_some_iff.mp hd).1
 cases h with
 | view r=>
  cases r with
  | @tup _ vs _ hq hl hr=>
   have hv:vs[j]?=some (vs[j]'(by omega)):=getElem?_eq_getElem _
   have r':=hr j _ d hv hd
   simp only [lL,Option.some.injEq] at hs
   cases e:aW d with
   | true=>
    rw [e] at hs
    cases hs;exact ⟨vs,_,[],hq,hl,hv,(fun _ z=>nomatch z),nodup_nil,.leaf (r'.sc e).rep⟩
   | false=>
    rw [e] at hs
    cases hs;exact ⟨vs,_,[],hq,hl,hv,(fun _ z=>nomatch z),nodup_nil,.view r'⟩
 | leaf r=>
  cases r with
  | @tup _ vs _ hq hl hr=>
   have hv:vs[j]?=some (vs[j]'(by omega)):=getElem?_eq_getElem _
   cases hs;exact ⟨vs,_,[],dG hid_le hq,hl,hv,(fun _ z=>nomatch z),nodup_nil,.leaf (hr j _ d hv hd)⟩
 | @tup ss _ vs _ Fs hv hp hn hl hf hl2 nd hr=>
  have hv':vs[j]?=some (vs[j]'(by omega)):=getElem?_eq_getElem _
  have hF:Fs[j]?=some (Fs[j]'(by omega)):=getElem?_eq_getElem _
  have hs:ss[j]?=some s':=hs
  refine ⟨vs,_,_,.of hp,hl,hv',fun a ha=>fG hF ha,?_,hr j _ d _ _ hv' hd hF hs⟩
  exact nd.sublist (List.sublist_flatten_of_mem (mem_of_getElem? hF))
theorem Wants.part {K:Fg} {W:XW} {σ:St} {He H H2:Hp} {O G G':List Addr} {Fs Fs2:List (List Addr)} {Γ':Ev} {Q:VK} {s:Sh} {v:V} {d:D} (h:Wants K W He O Fs H σ Q (.ok ⟨s,d⟩ Γ')) (e:Same H H2)
  (E:EnvOk K He (G++O) Fs2 H2 σ Γ') (sub:∀a∈G',a∈G) (nd:G'.Nodup) (new:∀a∈G++Fs2.flatten,a∈Fs.flatten\/H a=none) (o:Own K (G++O++Fs2.flatten) H2 s G' v d):Q v H2:=by
 have sub2:∀a∈G'++O,a∈G++O:=fun a ha=>by
  rcases List.mem_append.mp ha with z | z
  ·exact mem_append_left _ (sub a z)
  ·exact mem_append_right _ z
 obtain ⟨n1,n2,n3⟩:=List.nodup_append.mp E.ndO;refine h v H2 G' Fs2 ⟨e,E.drop sub2 (List.nodup_append.mpr ⟨nd,n2,fun a ha b hb=>n3 a (sub a ha) b hb⟩),fun a ha=>new a ?_,o.perm fun a ha=>?_⟩
 ·rcases List.mem_append.mp ha with z | z
  ·exact mem_append_left _ (sub a z)
  ·exact mem_append_right _ z
 ·rcases List.mem_append.mp ha with z | z
  ·exact mem_append_left _ (sub2 a z)
  ·exact mem_append_right _ z
theorem t7 {α β:Type} {xs:List α} {ys:List β} {i:Int} {j:Nat} {v:α} (hl:xs.length=ys.length) (h:dn ys.length i=some j) (hv:xs[j]?=some v):cZ xs i=some v:=by
 unfold cZ;rw [hl,h];exact hv
section
variable {K:Fg} {W:XW} {σ:St} {H:Hp} {Q:VK} {fa fb:F1}
theorem yT (h:tE K W (ag fa fb) σ H Q):gZ (mm K) (tE K W fa) (tE K W fb) σ H Q:=by
 refine EB h ?_
 intro He O Fs Γ2 p q v u H1 H2 G1 G2 Fs2 nd s1 s2 E new o1 o2 w;obtain ⟨ps,pd⟩:=p;obtain ⟨qs,qd⟩:=q;have ri:=o2.rep
 cases qd<;>try exact w.elim
 rename_i i
 cases ri;have E':EnvOk K He ((G2++G1)++O) Fs2 H2 σ Γ2:=by rw [append_assoc];exact E
 have new':∀a∈(G2++G1)++Fs2.flatten,a∈Fs.flatten\/H a=none:=fun a ha=>new a (by rw [<-append_assoc];exact ha)
 have o1':Own K ((G2++G1)++O++Fs2.flatten) H2 ps G1 v pd:=o1.perm fun a ha=>by rw [append_assoc G2] at ha;exact ha
 have rp:=o1.rep
 cases pd with
 | list ds=>
  obtain ⟨p0,rfl⟩:∃p0,v=.ref p0:=by cases rp;exact ⟨_,rfl⟩
  have w:Wants K W He O Fs H σ Q (match dn ds.length i with | some j=>(match ds[j]? with | some d=>(match lL ps j d with | some s=>.ok ⟨s,d⟩ Γ2 | none=>.no) | none=>.no) | none=>.no):=w
  cases e1:dn ds.length i with
  | none=>rw [e1] at w;exact w.elim
  | some j=>
   rw [e1] at w;have w:Wants K W He O Fs H σ Q (match ds[j]? with | some d=>(match lL ps j d with | some s=>.ok ⟨s,d⟩ Γ2 | none=>.no) | none=>.no):=w
   cases e2:ds[j]? with
   | none=>rw [e2] at w;exact w.elim
   | some d=>
    rw [e2] at w;have w:Wants K W He O Fs H σ Q (match lL ps j d with | some s=>.ok ⟨s,d⟩ Γ2 | none=>.no):=w
    cases e3:lL ps j d with
    | none=>rw [e3] at w;exact w.elim
    | some s=>
     rw [e3] at w;obtain ⟨vs,v',G',h1,h2,h3,h4,h5,h6⟩:=o1'.item e2 e3
     exact .inl ⟨p0,vs,i,v',rfl,rfl,h1,t7 h2 e1 h3,Wants.part w (s1.trans s2) E' (fun a ha=>mem_append_right _ (h4 a ha)) h5 new' h6⟩
 | tuple ds=>
  obtain ⟨p0,rfl⟩:∃p0,v=.ref p0:=by cases rp;exact ⟨_,rfl⟩
  have w:Wants K W He O Fs H σ Q (match dn ds.length i with | some j=>(match ds[j]? with | some d=>(match lL ps j d with | some s=>.ok ⟨s,d⟩ Γ2 | none=>.no) | none=>.no) | none=>.no):=w
  cases e1:dn ds.length i with
  | none=>rw [e1] at w;exact w.elim
  | some j=>
   rw [e1] at w;have w:Wants K W He O Fs H σ Q (match ds[j]? with | some d=>(match lL ps j d with | some s=>.ok ⟨s,d⟩ Γ2 | none=>.no) | none=>.no):=w
   cases e2:ds[j]? with
   | none=>rw [e2] at w;exact w.elim
   | some d=>
    rw [e2] at w;have w:Wants K W He O Fs H σ Q (match lL ps j d with | some s=>.ok ⟨s,d⟩ Γ2 | none=>.no):=w
    cases e3:lL ps j d with
    | none=>rw [e3] at w;exact w.elim
    | some s=>
     rw [e3] at w;obtain ⟨vs,v',G',h1,h2,h3,h4,h5,h6⟩:=o1'.itemT e2 e3
     exact .inr (.inl ⟨p0,vs,i,v',rfl,rfl,h1,t7 h2 e1 h3,Wants.part w (s1.trans s2) E' (fun a ha=>mem_append_right _ (h4 a ha)) h5 new' h6⟩)
 | str z=>
  cases rp;have w:Wants K W He O Fs H σ Q (if z.length<=sizeLine then (match cZ z.cps.toList i with | some c=>.ok ⟨.leaf,.str ⟨#[c]⟩⟩ Γ2 | none=>.no) else .no):=w
  by_cases hz:z.length<=sizeLine
  ·rw [if_pos hz] at w
   cases e1:cZ z.cps.toList i with
   | none=>rw [e1] at w;exact w.elim
   | some c=>
    rw [e1] at w;exact .inr (.inr ⟨z,i,c,rfl,rfl,hz,e1,Wants.scal w (.str _) (s1.trans s2) E (fun a ha=>mem_append_right _ (mem_append_right _ ha)) nd fun a ha=>new a (mem_append_right _ (mem_append_right _ ha))⟩)
  ·rw [if_neg hz] at w
   exact w.elim
 | none=>exact w.elim
 | bool b=>exact w.elim
 | int k=>exact w.elim
 | dict k=>exact w.elim
end
theorem kK (s:Sh):∀Gs:List (List Addr),((Gs.map (aK s)).flatten).Sublist Gs.flatten
 | []=>List.Sublist.refl _
 | G::Gs=>by
  simp only [map_cons,flatten_cons]
  refine List.Sublist.append ?_ (kK s Gs)
  unfold aK;split
  ·exact List.nil_sublist _
  ·exact List.Sublist.refl _
theorem iP:∀Gs:List (List Addr),(Gs.map (aK .leaf)).flatten=[]
 | []=>rfl
 | _::Gs=>by simp only [map_cons,flatten_cons,iP Gs];rfl
section
variable {K:Fg} {W:XW} {σ:St} {He H H':Hp} {O:List Addr} {Fs Fs' Gs:List (List Addr)} {Γ':Ev} {ps:List PV} {vs:List V} {Q:VK}
theorem AftL.newList {s:Sh} {p:Addr} (A:AftL K He O Fs H σ Γ' ps vs H' Gs Fs') (hs:s.isView=false) (hc:ps.all (T.coer s)=true) (hp:H' p=none) :
  Aft K He O Fs H σ Γ' ⟨.lst s,.list (ps.map (·.d))⟩ (.ref p) (upd H' p (.lst vs)) (p::(Gs.map (aK s)).flatten) Fs':=by
 obtain ⟨n1,n2,n3⟩:=List.nodup_append.mp A.env.ndO;obtain ⟨m1,m2,m3⟩:=List.nodup_append.mp A.env.nd;have hsub:=kK s Gs
 have E1:EnvOk K He ((Gs.map (aK s)).flatten++O) Fs' H' σ Γ':=A.env.drop (fun a ha=>by
   rcases List.mem_append.mp ha with z | z
   ·exact mem_append_left _ (hsub.subset z)
   ·exact mem_append_right _ z) (List.nodup_append.mpr ⟨n1.sublist hsub,n2,fun a ha b hb=>n3 a (hsub.subset ha) b hb⟩)
 have E2:=E1.hide (G:=[p]) (cu (o:=.lst vs) hp) (by simp) (fun a ha=>by simp at ha;rw [ha];exact hp) (fun a ha=>by simp at ha;rw [ha,cB];exact Option.some_ne_none _)
 have pn:∀{a},a∈Gs.flatten++O++Fs'.flatten->a≠p:=fun {a} ha z=>A.env.inH a ha (by rw [z];exact hp)
 refine ⟨A.same.trans (cu hp),E2,fun a ha=>?_,?_⟩
 ·rcases List.mem_append.mp ha with z | z
  ·rcases List.mem_cons.mp z with z | z
   ·rw [z];exact .inr (A.same.free hp)
   ·exact A.new a (mem_append_left _ (hsub.subset z))
  ·exact A.new a (mem_append_right _ z)
 ·refine .lst hs cB (by rw [length_map];exact A.len1) (by rw [length_map,length_map];exact A.len2) ?_ fun i v d F h1 h2 h3=>?_
  ·refine List.nodup_cons.mpr ⟨fun z=>pn (mem_append_left _ (mem_append_left _ (hsub.subset z))) rfl,n1.sublist hsub⟩
  ·rw [getElem?_map] at h2 h3
   cases e2:ps[i]? with
   | none=>rw [e2] at h2;cases h2
   | some q=>
    cases e3:Gs[i]? with
    | none=>rw [e3] at h3;cases h3
    | some G=>
     rw [e2] at h2;rw [e3] at h3
     cases h2
     cases h3;have cq:T.coer s q=true:=List.all_eq_true.mp hc q (mem_of_getElem? e2)
     have o1:=(A.own i v q G h1 e2 e3).mono (O':=p::(Gs.flatten++O++Fs'.flatten)) (cu (o:=.lst vs) hp) fun a ha=>by
      rcases List.mem_cons.mp ha with z | z
      ·rw [z];exact .inr hp
      ·exact .inl z
     refine o1.coer cq (fun a ha=>?_) fun a ha hO=>?_
     ·rw [append_assoc] at ha
      rcases List.mem_append.mp ha with z | z
      ·rcases List.mem_cons.mp z with z | z
       ·rw [z];exact mem_cons_self
       ·exact mem_cons_of_mem _ (mem_append_left _ (mem_append_left _ (hsub.subset z)))
      ·rcases List.mem_append.mp z with z | z
       ·exact mem_cons_of_mem _ (mem_append_left _ (mem_append_right _ z))
       ·exact mem_cons_of_mem _ (mem_append_right _ z)
     ·have hG:a∈Gs.flatten:=fG e3 ha
      cases s with
      | leaf=>
       rw [iP] at hO;exfalso
       rw [append_assoc] at hO;rcases List.mem_append.mp hO with z | z
       ·have z:a=p:=by simpa using z
        exact pn (mem_append_left _ (mem_append_left _ hG)) z
       ·rcases List.mem_append.mp z with z | z
        ·exact n3 a hG a z rfl
        ·exact m3 a (mem_append_left _ hG) a z rfl
      | view=>cases hs
      | lst s=>exact ha
      | tup ss=>exact ha
def aQ (s:Sh) (fl:FL):F1:=fun Γ=>(fl Γ).bind fun ps Γ'=>if !s.isView&&ps.all (T.coer s)&&decide (ps.length<=sizeLine) then .ok ⟨.lst s,.list (ps.map (·.d))⟩ Γ' else .no
theorem vf {s:Sh} {fl:FL} (h:tE K W (aQ s fl) σ H Q):oO (tA K W fl) σ H Q:=by
 obtain ⟨He,O,Fs,Γ,E,h⟩:=h;refine ⟨He,O,Fs,Γ,E,?_⟩
 unfold aQ at h
 cases e:fl Γ with
 | ok ps Γ'=>
  rw [e] at h;intro vs H' Gs Fs' A
  have h:Wants K W He O Fs H σ Q (if (!s.isView&&ps.all (T.coer s)&&decide (ps.length<=sizeLine))=true then .ok ⟨.lst s,.list (ps.map (·.d))⟩ Γ' else .no):=h
  by_cases hc:(!s.isView&&ps.all (T.coer s)&&decide (ps.length<=sizeLine))=true
  ·rw [if_pos hc] at h
   simp only [Bool.and_eq_true,decide_eq_true_eq,Bool.not_eq_true'] at hc
   exact ⟨by rw [A.len1];exact hc.2,fun p hp=>h _ _ _ _ (A.newList hc.1.1 hc.1.2 hp)⟩
  ·rw [if_neg hc] at h
   exact h.elim
 | er c Γ'=>rw [e] at h;exact h
 | no=>rw [e] at h;exact h
def yt (p:PV):Sh:=if p.s.isView then .leaf else p.s
def tok (p:PV):Bool:=!p.s.isView||aW p.d
theorem AftL.newTup {p:Addr} (A:AftL K He O Fs H σ Γ' ps vs H' Gs Fs') (hc:ps.all tok=true) (hp:H' p=none) :
  Aft K He O Fs H σ Γ' ⟨.tup (ps.map yt),.tuple (ps.map (·.d))⟩ (.ref p) (upd H' p (.tup vs)) Gs.flatten Fs':=by
 obtain ⟨n1,n2,n3⟩:=List.nodup_append.mp A.env.ndO;have pn:p∉Gs.flatten++O++Fs'.flatten:=fun ha=>A.env.inH p ha hp
 refine ⟨A.same.trans (cu hp),A.env.grow (cu hp),A.new,?_⟩
 refine .tup (fun s hs=>?_) cB pn (by rw [length_map];exact A.len1) (by rw [length_map];exact A.len2) (by rw [length_map,length_map]) n1 fun i v d F s h1 h2 h3 h4=>?_
 ·obtain ⟨q,_,rfl⟩:=List.mem_map.mp hs
  unfold yt;split
  ·rfl
  ·rename_i z;simpa using z
 ·rw [getElem?_map] at h2 h4
  cases e2:ps[i]? with
  | none=>rw [e2] at h2;cases h2
  | some q=>
   rw [e2] at h2 h4
   cases h2
   cases h4;have cq:tok q=true:=List.all_eq_true.mp hc q (mem_of_getElem? e2)
   have o1:=(A.own i v q F h1 e2 h3).mono (O':=Gs.flatten++O++Fs'.flatten) (cu (o:=.tup vs) hp) fun a ha=>.inl ha
   unfold yt
   cases hv:q.s.isView with
   | false=>exact o1
   | true=>
    unfold tok at cq;rw [hv] at cq;obtain ⟨s,d⟩:=q
    cases s with
    | view=>
     cases o1 with
     | view r=>exact .leaf (r.sc (by simpa using cq)).rep
    | _=>cases hv
def bD (fl:FL):F1:=fun Γ=>(fl Γ).bind fun ps Γ'=>if ps.all tok&&decide (ps.length<=sizeLine) then .ok ⟨.tup (ps.map yt),.tuple (ps.map (·.d))⟩ Γ' else .no
theorem yI {fl:FL} (h:tE K W (bD fl) σ H Q):uT (tA K W fl) σ H Q:=by
 obtain ⟨He,O,Fs,Γ,E,h⟩:=h;refine ⟨He,O,Fs,Γ,E,?_⟩
 unfold bD at h
 cases e:fl Γ with
 | ok ps Γ'=>
  rw [e] at h;intro vs H' Gs Fs' A
  have h:Wants K W He O Fs H σ Q (if (ps.all tok&&decide (ps.length<=sizeLine))=true then .ok ⟨.tup (ps.map yt),.tuple (ps.map (·.d))⟩ Γ' else .no):=h
  by_cases hc:(ps.all tok&&decide (ps.length<=sizeLine))=true
  ·rw [if_pos hc] at h
   simp only [Bool.and_eq_true,decide_eq_true_eq] at hc
   exact ⟨by rw [A.len1];exact hc.2,fun p hp=>h _ _ _ _ (A.newTup hc.1 hp)⟩
  ·rw [if_neg hc] at h
   exact h.elim
 | er c Γ'=>rw [e] at h;exact h
 | no=>rw [e] at h;exact h
end
def du (p:PV) (ds:List D):Bool:=!p.s.isView||ds.all aW
theorem Own.items {K:Fg} {O O':List Addr} {H:Hp} {s:Sh} {G:List Addr} {v:V} {ds:List D} (h:Own K O H s G v (.list ds)) (hc:du ⟨s,.list ds⟩ ds=true) (h1:∀a∈O',a∈O) (h2:∀a∈G,a∉O') :
  ∃p vs,v=.ref p/\SqL K H p vs/\(s.isView=false->SqL K (bA H O') p vs)/\Reps K (bA H O') vs ds:=by
 have hr:=h.rep
 cases hv:s.isView with
 | false=>
  have r:=h.freeze hv h1 h2
  cases r with
  | @lst p vs _ hq hl hr=>exact ⟨p,vs,rfl,hid_le.seq hq,fun _=>hq,hl,hr⟩
 | true=>
  unfold du at hc;have hc:ds.all aW=true:=by simpa [hv] using hc
  cases hr with
  | @lst p vs _ hq hl hr=>exact ⟨p,vs,rfl,hq,nofun,hl,fun i v d e1 e2=>((hr i v d e1 e2).sc (List.all_eq_true.mp hc d (mem_of_getElem? e2))).rep⟩
theorem Own.itemsT {K:Fg} {O O':List Addr} {H:Hp} {s:Sh} {G:List Addr} {v:V} {ds:List D} (h:Own K O H s G v (.tuple ds)) (hc:du ⟨s,.tuple ds⟩ ds=true) (h1:∀a∈O',a∈O) (h2:∀a∈G,a∉O') :
  ∃p vs,v=.ref p/\SqT K H p vs/\(s.isView=false->SqT K (bA H O') p vs)/\Reps K (bA H O') vs ds:=by
 have hr:=h.rep
 cases hv:s.isView with
 | false=>
  have r:=h.freeze hv h1 h2
  cases r with
  | @tup p vs _ hq hl hr=>exact ⟨p,vs,rfl,dG hid_le hq,fun _=>hq,hl,hr⟩
 | true=>
  unfold du at hc;have hc:ds.all aW=true:=by simpa [hv] using hc
  cases hr with
  | @tup p vs _ hq hl hr=>exact ⟨p,vs,rfl,hq,nofun,hl,fun i v d e1 e2=>((hr i v d e1 e2).sc (List.all_eq_true.mp hc d (mem_of_getElem? e2))).rep⟩
theorem kF {K:Fg} {σ:St} {He H H1:Hp} {O:List Addr} {Fs Fs1:List (List Addr)} {Γ1:Ev} {vs:List V} {ds:List D} {p:Addr} (E:EnvOk K He O Fs1 H1 σ Γ1) (s:Same H H1) (n:∀a∈Fs1.flatten,a∈Fs.flatten\/H a=none)
  (hr:Reps K (bA H1 (O++Fs1.flatten)) vs ds) (hp:H1 p=none):Aft K He O Fs H σ Γ1 ⟨.lst .leaf,.list ds⟩ (.ref p) (upd H1 p (.lst vs)) [p] Fs1:=by
 have E2:=E.hide (G:=[p]) (cu (o:=.lst vs) hp) (by simp) (fun a ha=>by simp at ha;rw [ha];exact hp) (fun a ha=>by simp at ha;rw [ha,cB];exact Option.some_ne_none _)
 refine ⟨s.trans (cu hp),E2,fun a ha=>?_,?_⟩
 ·rcases List.mem_append.mp ha with z | z
  ·have z:a=p:=by simpa using z
   rw [z];exact .inr (s.free hp)
  ·exact n a z
 ·have fl:(List.replicate ds.length ([]:List Addr)).flatten=[]:=by simp
  have:[p]=p::(List.replicate ds.length ([]:List Addr)).flatten:=by rw [fl]
  rw [this];refine .lst rfl cB hr.1 (by simp) (by rw [fl];simp) fun i v d F h1 h2 h3=>?_
  rw [getElem?_replicate] at h3;split at h3
  ·cases h3
   refine .leaf ((hr.2 i v d h1 h2).mono (oH (cu hp) fun a ha=>?_))
   rw [fl] at ha;rcases List.mem_append.mp ha with z | z
   ·rcases List.mem_append.mp z with z | z
    ·have z:a=p:=by simpa using z
     rw [z];exact .inr hp
    ·exact .inl (mem_append_left _ z)
   ·exact .inl (mem_append_right _ z)
  ·cases h3
def oE (fa:F1):F1:=aR fa fun p Γ=>match p.d with
 | .list ds=>if du p ds then .ok ⟨.lst .leaf,.list ds⟩ Γ else .no
 | .tuple ds=>if du p ds then .ok ⟨.lst .leaf,.list ds⟩ Γ else .no
 | _=>.no
section
variable {K:Fg} {W:XW} {σ:St} {H:Hp} {Q:VK} {fa fb:F1}
theorem Aft.disj {He H1:Hp} {O G:List Addr} {Fs Fs1:List (List Addr)} {Γ1:Ev} {p:PV} {v:V} (A:Aft K He O Fs H σ Γ1 p v H1 G Fs1):∀a∈G,a∉O++Fs1.flatten:=fun a ha z=>by
 have nd:=A.env.nd
 rw [append_assoc] at nd;exact (List.nodup_append.mp nd).2.2 a ha a z rfl
theorem fI {G O F:List Addr}:∀a∈O++F,a∈G++O++F:=fun a ha=>by
 rw [append_assoc];exact mem_append_right _ ha
theorem o7 (h:tE K W (oE fa) σ H Q):oQ (fun xs H Q=>∃p ys,xs=[.ref p]/\(SqL K H p ys\/SqT K H p ys)/\∀l,H l=none->Q (.ref l) (upd H l (.lst ys))) (tA K W (ab fa af)) σ H Q:=by
 have h1:tE K W fa σ H fun x H1=>∃p ys,x=.ref p/\(SqL K H1 p ys\/SqT K H1 p ys)/\∀l,H1 l=none->Q (.ref l) (upd H1 l (.lst ys)):=by
  refine AL h fun He O Fs Γ1 p v H1 G Fs1 nd A w=>?_
  obtain ⟨s,d⟩:=p
  cases d with
  | list ds=>
   have w:Wants K W He O Fs H σ Q (if du ⟨s,.list ds⟩ ds then .ok ⟨.lst .leaf,.list ds⟩ Γ1 else .no):=w
   cases hc:du ⟨s,.list ds⟩ ds with
   | false=>rw [hc] at w;exact w.elim
   | true=>
    rw [hc] at w;obtain ⟨p,vs,rfl,hq,_,hr⟩:=A.own.items (O':=O++Fs1.flatten) hc fI A.disj
    exact ⟨p,vs,rfl,.inl hq,fun l hl=>w _ _ _ _ (kF A.go A.same A.newF hr hl)⟩
  | tuple ds=>
   have w:Wants K W He O Fs H σ Q (if du ⟨s,.tuple ds⟩ ds then .ok ⟨.lst .leaf,.list ds⟩ Γ1 else .no):=w
   cases hc:du ⟨s,.tuple ds⟩ ds with
   | false=>rw [hc] at w;exact w.elim
   | true=>
    rw [hc] at w;obtain ⟨p,vs,rfl,hq,_,hr⟩:=A.own.itemsT (O':=O++Fs1.flatten) hc fI A.disj
    exact ⟨p,vs,rfl,.inr hq,fun l hl=>w _ _ _ _ (kF A.go A.same A.newF hr hl)⟩
  | _=>exact w.elim
 obtain ⟨He,O,Fs,Γ,E,h1⟩:=h1;refine ⟨He,O,Fs,Γ,E,?_⟩
 unfold ab af
 cases e:fa Γ with
 | ok p Γ'=>
  rw [e] at h1;intro vs H' Gs Fs' A
  match vs,Gs,A.len1,A.len2 with
  | [v],[G],_,_=>
   have A':Aft K He O Fs H σ Γ' p v H' G Fs':=⟨A.same,by simpa using A.env,by simpa using A.new,by simpa using A.own 0 v p G rfl rfl rfl⟩
   obtain ⟨q,ys,rfl,h2,h3⟩:=h1 v H' G Fs' A'
   exact ⟨q,ys,rfl,h2,h3⟩
 | er c Γ'=>rw [e] at h1;exact h1
 | no=>rw [e] at h1;exact h1
end
structure AB (J:It) (P:Hp->Prop) (vs:List V):Prop where
 go:∀(i:Nat) H v,P H->vs[i]?=some v->J.go i H/\∀x H',J.yld i H x H'->H'=H/\x=v
 stop:∀H,P H->J.stop vs.length H
theorem vV {K:Fg} {a:Addr} {vs:List V}:AB (AA K a) (fun H=>SqL K H a vs) vs:=
 ⟨fun i H v hp hv=>⟨⟨vs,v,hp,hv⟩,fun x H' ⟨e,q⟩=>⟨e,Option.some.inj ((q vs hp).symm.trans hv)⟩⟩,fun H hp=>⟨vs,hp,Nat.le_refl _⟩⟩
def jk (lo:Int) (n:Nat):List V:=(List.range n).map fun i=>.int (lo+(i:Nat))
def bQ (lo:Int) (n:Nat):List D:=(List.range n).map fun i=>.int (lo+(i:Nat))
theorem sV {lo:Int} {n:Nat}:AB (uA lo n) (fun _=>True) (jk lo n):=by
 refine ⟨fun i H v _ hv=>?_,fun H _=>?_⟩
 ·unfold jk at hv
  rw [getElem?_map] at hv
  cases e:(List.range n)[i]? with
  | none=>rw [e] at hv;cases hv
  | some k=>
   rw [e] at hv;obtain ⟨h1,h2⟩:=List.getElem?_eq_some_iff.mp e
   simp at h1 h2
   subst h2
   cases hv;exact ⟨h1,fun x H' ⟨q1,q2⟩=>⟨q1,q2⟩⟩
 ·show n<=(jk lo n).length
  simp [jk]
theorem j7 {K:Fg} {H:Hp} {lo:Int} {n:Nat}:Reps K H (jk lo n) (bQ lo n):=by
 refine ⟨by simp [jk,bQ],fun i v d h1 h2=>?_⟩
 unfold jk at h1;unfold bQ at h2;rw [getElem?_map] at h1 h2
 cases e:(List.range n)[i]? with
 | none=>rw [e] at h1;cases h1
 | some k=>
  rw [e] at h1 h2
  cases h1
  cases h2;exact .int _
structure Er where
 ds:List D
 st:Bool
abbrev FI:=Ev->Out Er
def Di (K:Fg) (W:XW) (He:Hp) (O:List Addr) (Fs:List (List Addr)) (H:Hp) (σ:St) (R:It->Hp->Prop) (o:Out Er):Prop:=match o with
 | .ok t Γ'=>∀J H' Fs' vs P,Same H H'->EnvOk K He O Fs' H' σ Γ'->(∀a∈Fs'.flatten,a∈Fs.flatten\/H a=none)->AB J P vs->P H'->(∀H2,Same H' H2->P H2)->(t.st=true->∀H2,Same (bA H' Fs'.flatten) H2->P H2) ->
   Reps K (bA H' (O++Fs'.flatten)) vs t.ds->R J H'
 | .er c Γ'=>∀H' Fs',Same H H'->EnvOk K He O Fs' H' σ Γ'->W c σ H'
 | .no=>False
def tI (K:Fg) (W:XW) (f:FI):TI:=fun σ H R=>∃He O Fs Γ,EnvOk K He O Fs H σ Γ/\Di K W He O Fs H σ R (f Γ)
theorem ug {X:Cx} {tg iter:Expr} {t t':TI} (h:PI X tg iter t) (i:∀σ H R,t' σ H R->t σ H R):PI X tg iter t':=fun pins s σ H R I q=>h pins s σ H R I (i σ H R q)
def aJ (fa:F1):FI:=fun Γ=>(fa Γ).bind fun p Γ'=>match p.d with
 | .list ds=>if du p ds then .ok ⟨ds,!p.s.isView⟩ Γ' else .no
 | _=>.no
def sX (fa:F1):FI:=fun Γ=>(fa Γ).bind fun p Γ'=>match p.d with
 | .tuple ds=>if du p ds then .ok ⟨ds,!p.s.isView⟩ Γ' else .no
 | _=>.no
section
variable {K:Fg} {W:XW} {σ:St} {H:Hp} {R:It->Hp->Prop} {fa fb:F1}
theorem sub_hid {H:Hp} {O F:List Addr}:Same (bA H (O++F)) (bA H F):=oH (Same.refl _) fun a ha=>.inl (mem_append_right _ ha)
theorem vh (h:tI K W (aJ fa) σ H R):cU K (tE K W fa) σ H R:=by
 obtain ⟨He,O,Fs,Γ,E,h⟩:=h;refine ⟨He,O,Fs,Γ,E,?_⟩
 unfold aJ at h
 cases e:fa Γ with
 | ok p Γ1=>
  rw [e] at h;intro v H1 G Fs1 A;obtain ⟨s,d⟩:=p
  cases d with
  | list ds=>
   have h:Di K W He O Fs H σ R (if du ⟨s,.list ds⟩ ds then .ok ⟨ds,!s.isView⟩ Γ1 else .no):=h
   cases hc:du ⟨s,.list ds⟩ ds with
   | false=>rw [hc] at h;exact h.elim
   | true=>
    rw [hc] at h;obtain ⟨p,vs,rfl,hq,hst,hr⟩:=A.own.items (O':=O++Fs1.flatten) hc fI A.disj
    exact ⟨p,rfl,⟨vs,hq⟩,h (AA K p) H1 Fs1 vs (fun H=>SqL K H p vs) A.same A.go A.newF vV hq (fun H2 s2=>s2.seq hq) (fun ht H2 s2=>s2.seq (sub_hid.seq (hst (by simpa using ht)))) hr⟩
  | _=>exact h.elim
 | er c Γ'=>rw [e] at h;exact h
 | no=>rw [e] at h;exact h
def dt (j:Int):Bool:=decide (-(2 ^ 62)<=j)&&decide (j<2 ^ 62)
def ml:List D->Option Int
 | [.int j]=>if dt j then some j else none
 | _=>none
def o5:List D->Option (Int×Int)
 | [.int i,.int j]=>if dt i&&dt j then some (i,j) else none
 | _=>none
theorem u6 {ds:List D} {j:Int} (h:ml ds=some j):ds=[.int j]/\-(2 ^ 62)<=j/\j<2 ^ 62:=by
 unfold ml at h;split at h
 ·split at h
  ·rename_i hc
   cases h;simp only [dt,Bool.and_eq_true,decide_eq_true_eq] at hc
   exact ⟨rfl,hc.1,hc.2⟩
  ·cases h
 ·cases h
theorem u5 {ds:List D} {i j:Int} (h:o5 ds=some (i,j)):ds=[.int i,.int j]/\(-(2 ^ 62)<=i/\i<2 ^ 62/\-(2 ^ 62)<=j/\j<2 ^ 62):=by
 unfold o5 at h;split at h
 ·split at h
  ·rename_i hc
   cases h;simp only [dt,Bool.and_eq_true,decide_eq_true_eq] at hc
   exact ⟨rfl,hc.1.1,hc.1.2,hc.2.1,hc.2.2⟩
  ·cases h
 ·cases h
def cK (fl:FL):FI:=fun Γ=>(fl Γ).bind fun ps Γ'=>match ml (ps.map (·.d)) with
 | some j=>.ok ⟨bQ 0 j.toNat,true⟩ Γ'
 | none=>.no
def vX (fl:FL):FI:=fun Γ=>(fl Γ).bind fun ps Γ'=>match o5 (ps.map (·.d)) with
 | some (i,j)=>.ok ⟨bQ i (j-i).toNat,true⟩ Γ'
 | none=>.no
theorem yV {fl:FL} (h:tI K W (cK fl) σ H R):fz (tA K W fl) σ H R:=by
 obtain ⟨He,O,Fs,Γ,E,h⟩:=h;refine ⟨He,O,Fs,Γ,E,?_⟩
 unfold cK at h
 cases e:fl Γ with
 | ok ps Γ1=>
  rw [e] at h;intro vs H1 Gs Fs1 A;have h:Di K W He O Fs H σ R (match ml (ps.map (·.d)) with | some j=>.ok ⟨bQ 0 j.toNat,true⟩ Γ1 | none=>.no):=h
  have rs:=A.reps
  cases e1:ml (ps.map (·.d)) with
  | none=>rw [e1] at h;exact h.elim
  | some j=>
   rw [e1] at h;obtain ⟨e2,h1,h2⟩:=u6 e1;rw [e2] at rs;obtain ⟨v,rfl,r⟩:=rs.one
   cases r;exact ⟨j,rfl,h1,h2,h (uA 0 j.toNat) H1 Fs1 (jk 0 j.toNat) (fun _=>True) A.same A.env.dropL (fun a ha=>A.new a (mem_append_right _ ha)) sV trivial (fun _ _=>trivial) (fun _ _ _=>trivial) j7⟩
 | er c Γ'=>rw [e] at h;exact h
 | no=>rw [e] at h;exact h
theorem yU {fl:FL} (h:tI K W (vX fl) σ H R):xI (tA K W fl) σ H R:=by
 obtain ⟨He,O,Fs,Γ,E,h⟩:=h;refine ⟨He,O,Fs,Γ,E,?_⟩
 unfold vX at h
 cases e:fl Γ with
 | ok ps Γ1=>
  rw [e] at h;intro vs H1 Gs Fs1 A;have h:Di K W He O Fs H σ R (match o5 (ps.map (·.d)) with | some (i,j)=>.ok ⟨bQ i (j-i).toNat,true⟩ Γ1 | none=>.no):=h
  have rs:=A.reps
  cases e1:o5 (ps.map (·.d)) with
  | none=>rw [e1] at h;exact h.elim
  | some ij=>
   obtain ⟨i,j⟩:=ij;rw [e1] at h;obtain ⟨e2,hb⟩:=u5 e1;rw [e2] at rs;obtain ⟨v,u,rfl,r,r'⟩:=rs.two
   cases r
   cases r'
   exact ⟨i,j,rfl,hb,h (uA i (j-i).toNat) H1 Fs1 (jk i (j-i).toNat) (fun _=>True) A.same A.env.dropL (fun a ha=>A.new a (mem_append_right _ ha)) sV trivial (fun _ _=>trivial) (fun _ _ _=>trivial) j7⟩
 | er c Γ'=>rw [e] at h;exact h
 | no=>rw [e] at h;exact h
end
def oA (i:Nat) (fc:FB) (fe:F1) (s:Sh):List D->Ev->List D->Out (List D)
 | [],Γ,acc=>.ok acc Γ
 | d::r,Γ,acc=>match fc (Γ.set i (some ⟨.leaf,d⟩)) with
  | .ok true Γ1=>(match fe Γ1 with
   | .ok p Γ2=>if T.coer s p&&decide (acc.length<sizeLine) then oA i fc fe s r (Γ2.set i none) (acc++[p.d]) else .no
   | _=>.no)
  | .ok false Γ1=>if acc.length<sizeLine then oA i fc fe s r (Γ1.set i none) acc else .no
  | _=>.no
def ao (s:Sh) (i:Nat) (fi:FI) (fc:FB) (fe:F1):F1:=fun Γ=>(fi Γ).bind fun t Γ1=>match oA i fc fe s t.ds (Γ1.set i none) [] with
 | .ok ds Γ2=>if !s.isView&&decide (i<Γ1.length) then .ok ⟨.lst s,.list ds⟩ (Γ2.set i (Γ1.getD i none)) else .no
 | _=>.no
abbrev W0:XW:=fun _ _ _=>False
section
variable {K:Fg} {He H H1 H2:Hp} {O G:List Addr} {Fs Fs1 Fs2:List (List Addr)} {σ:St} {Γ Γ1 Γ2:Ev}
theorem Fb {is:List Nat} {σ:St} {j:Nat} (h:j∉is):(aP is σ)[j]?=σ[j]?:=by
 unfold aP;rw [List.getElem?_mapIdx]
 cases σ[j]? with
 | none=>rfl
 | some o=>simp [h]
theorem DK {Γ:Ev} {i j:Nat} {p:PV} (h:(Γ.set i none)[j]?=some (some p)):j≠i/\Γ[j]?=some (some p):=by
 by_cases hj:j=i
 ·subst hj
  rw [getElem?_set] at h;split at h
  ·split at h<;>cases h
  ·rename_i z;exact absurd rfl z
 ·rw [getElem?_set_ne (Ne.symm hj)] at h
  exact ⟨hj,h⟩
theorem EnvOk.shut {i:Nat} (E:EnvOk K He O Fs H σ Γ) (hi:i<Γ.length) :
  ∃F,Fs[i]?=some F/\EnvOk K He (F++O) (Fs.set i []) H (aP [i] σ) (Γ.set i none)/\∀a,a∈F++(Fs.set i []).flatten↔a∈Fs.flatten:=by
 obtain ⟨F,hF⟩:=E.lt hi;have pm:(F++(Fs.set i []).flatten).Perm Fs.flatten:=by simpa using lM (G:=[]) hF
 have pm2:(F++O++(Fs.set i []).flatten).Perm (O++Fs.flatten):=by
  rw [append_assoc];exact (ke _ _ _).trans (List.Perm.append_left _ pm)
 refine ⟨F,hF,⟨by rw [xp,length_set];exact E.len1,by rw [length_set,length_set];exact E.len2,E.same,pm2.nodup_iff.mpr E.nd,fun a ha=>E.inH a (pm2.mem_iff.mp ha),fun a ha=>E.fresh a (pm.mem_iff.mp (mem_append_right _ ha)),fun j q hq=>?_⟩,fun a=>pm.mem_iff⟩
 obtain ⟨hj,hq⟩:=DK hq;obtain ⟨w1,v',F',e1,e2,e3⟩:=E.slot j q hq;exact ⟨w1,v',F',by rw [Fb (by simpa using hj)];exact e1,by rw [getElem?_set_ne (Ne.symm hj)];exact e2,e3.mono (Same.refl _) fun a ha=>.inl (pm2.mem_iff.mp ha)⟩
theorem EnvOk.forget {i:Nat} {x:Option V} (E:EnvOk K He O Fs H ((aP [i] σ).set i x) Γ) (hi:i<Γ.length):EnvOk K He O (Fs.set i []) H (aP [i] σ) (Γ.set i none):=by
 obtain ⟨F,hF⟩:=E.lt hi;have pm:(F++(Fs.set i []).flatten).Perm Fs.flatten:=by simpa using lM (G:=[]) hF
 have sub:∀a∈O++(Fs.set i []).flatten,a∈O++Fs.flatten:=fun a ha=>by
  rcases List.mem_append.mp ha with z | z
  ·exact mem_append_left _ z
  ·exact mem_append_right _ (pm.mem_iff.mp (mem_append_right _ z))
 have l1:=E.len1
 rw [length_set] at l1;obtain ⟨n1,n2,n3⟩:=List.nodup_append.mp E.nd;have n4:((Fs.set i []).flatten).Nodup:=(List.nodup_append.mp (pm.nodup_iff.mpr n2)).2.1
 refine ⟨by rw [length_set];exact l1,by rw [length_set,length_set];exact E.len2,E.same,List.nodup_append.mpr ⟨n1,n4,fun a ha b hb=>n3 a ha b (pm.mem_iff.mp (mem_append_right _ hb))⟩,fun a ha=>E.inH a (sub a ha),fun a ha=>E.fresh a (pm.mem_iff.mp (mem_append_right _ ha)),fun j q hq=>?_⟩
 obtain ⟨hj,hq⟩:=DK hq;obtain ⟨w1,v',F',e1,e2,e3⟩:=E.slot j q hq;rw [getElem?_set_ne (Ne.symm hj)] at e1;exact ⟨w1,v',F',e1,by rw [getElem?_set_ne (Ne.symm hj)];exact e2,e3.mono (Same.refl _) fun a ha=>.inl (sub a ha)⟩
theorem EnvOk.reopen {i:Nat} {F:List Addr} (E1:EnvOk K He O Fs1 H1 σ Γ1) (hF:Fs1[i]?=some F) (E2:EnvOk K He (G++(F++O)) Fs2 H2 (aP [i] σ) Γ2) (hl:Γ2.length=Γ1.length) (s:Same H1 H2)
  (hn:Γ2[i]?=some none) (hF2:Fs2[i]?=some []) (new:∀a∈G++Fs2.flatten,a∈Fs1.flatten\/H1 a=none):EnvOk K He (G++O) (Fs2.set i F) H2 σ (Γ2.set i (Γ1.getD i none)):=by
 have pm:((Fs2.set i F).flatten).Perm (F++Fs2.flatten):=by simpa using lM (G:=F) hF2
 have pm2:(G++O++(Fs2.set i F).flatten).Perm (G++(F++O)++Fs2.flatten):=by
  refine (List.Perm.append_left _ pm).trans ?_
  rw [append_assoc,append_assoc];refine List.Perm.append_left _ ?_
  rw [append_assoc];exact ke _ _ _
 have hi:i<Γ2.length:=(List.getElem?_eq_some_iff.mp hn).1
 refine ⟨by rw [length_set,hl];exact E1.len1,by rw [length_set,length_set];exact E2.len2,E2.same,pm2.nodup_iff.mpr E2.nd,fun a ha=>E2.inH a (pm2.mem_iff.mp ha),fun a ha=>?_,fun j q hq=>?_⟩
 ·rcases List.mem_append.mp (pm.mem_iff.mp ha) with z | z
  ·exact E1.fresh a (fG hF z)
  ·exact E2.fresh a z
 ·by_cases hj:j=i
  ·subst hj
   rw [getElem?_set_self hi] at hq;have hq:Γ1.getD j none=some q:=Option.some.inj hq
   rw [getD_eq_getElem?_getD] at hq;have hq':Γ1[j]?=some (some q):=by
    cases e:Γ1[j]? with
    | none=>rw [e] at hq;cases hq
    | some o=>rw [e] at hq;simp only [Option.getD_some] at hq;rw [hq]
   obtain ⟨w1,v',F',e1,e2,e3⟩:=E1.slot j q hq'
   rw [hF] at e2
   cases e2;refine ⟨w1,v',F,e1,getElem?_set_self (by rw [E2.len2];exact hi),e3.mono s fun a ha=>?_⟩
   rcases List.mem_append.mp ha with z | z
   ·rcases List.mem_append.mp z with z | z
    ·exact (new a (mem_append_left _ z)).elim (fun y=>.inl (mem_append_right _ y)) .inr
    ·exact .inl (mem_append_left _ z)
   ·rcases List.mem_append.mp (pm.mem_iff.mp z) with y | y
    ·exact .inl (mem_append_right _ (fG hF y))
    ·exact (new a (mem_append_right _ y)).elim (fun y=>.inl (mem_append_right _ y)) .inr
  ·rw [getElem?_set_ne (Ne.symm hj)] at hq
   obtain ⟨w1,v',F',e1,e2,e3⟩:=E2.slot j q hq;rw [Fb (by simpa using hj)] at e1
   exact ⟨w1,v',F',e1,by rw [getElem?_set_ne (Ne.symm hj)];exact e2,e3.mono (Same.refl _) fun a ha=>.inl (pm2.mem_iff.mp ha)⟩
theorem EnvOk.mutO {p:Addr} {o:HO} {xs:List V} (E:EnvOk K He O Fs H σ Γ) (hp:p∈O) (hl:H p=some (.lst xs)) (hn:He p=none):EnvOk K He O Fs (upd H p o) σ Γ:=by
 obtain ⟨n1,n2,n3⟩:=List.nodup_append.mp E.nd;refine ⟨E.len1,E.len2,fun b u e=>?_,E.nd,fun a ha=>?_,E.fresh,fun j q hq=>?_⟩
 ·rw [bE (jQ e hn)]
  exact E.same b u e
 ·by_cases h:a=p
  ·rw [h,cB];exact Option.some_ne_none _
  ·rw [bE h];exact E.inH a ha
 ·obtain ⟨w1,v',F',e1,e2,e3⟩:=E.slot j q hq
  exact ⟨w1,v',F',e1,e2,e3.mut w1 (mem_append_left _ hp) (fun z=>n3 p hp p (fG e2 z) rfl) hl⟩
end
structure HQ (K:Fg) (He:Hp) (O F:List Addr) (Fs1:List (List Addr)) (H1:Hp) (σ:St) (i:Nat) (s:Sh) (A0:Addr) (n:Nat) (ys:List V) (H:Hp) (Γk:Ev) (Fk Gs:List (List Addr)) (acc:List D):Prop where
 env:EnvOk K He (A0::Gs.flatten++(F++O)) Fk H (aP [i] σ) Γk
 same:Same H1 H
 at_:H A0=some (.lst ys)
 new:∀a∈Gs.flatten++Fk.flatten,a∈Fs1.flatten\/H1 a=none
 l1:ys.length=acc.length
 l2:Gs.length=acc.length
 own:∀(j:Nat) v d G,ys[j]?=some v->acc[j]?=some d->Gs[j]?=some G->Own K (A0::Gs.flatten++(F++O)++Fk.flatten) H s G v d
 noneG:Γk[i]?=some none
 noneF:Fk[i]?=some []
 len:Γk.length=n
theorem uE {α:Type} (Gs:List (List α)) (G:List α):(Gs++[G]).flatten=Gs.flatten++G:=by simp
section
variable {K:Fg} {W:XW} {σ:St} {H:Hp} {Q:VK} {fe:F1} {fc:FB} {fi:FI} {s:Sh} {i:Nat}
theorem nH (h:tE K W (ao s i fi fc fe) σ H Q):dh [i] (tI K W fi) (gName i) (tT K W0 fc) (tE K W0 fe) σ H Q:=by
 obtain ⟨He,O,Fs,Γ,E,h⟩:=h;refine ⟨He,O,Fs,Γ,E,?_⟩
 unfold ao at h
 cases e:fi Γ with
 | er c Γ'=>rw [e] at h;exact h
 | no=>rw [e] at h;exact h
 | ok t Γ1=>
  rw [e] at h;intro J H1 Fs1 vs P s1 E1 n1 it hP hP1 _ hr A0 hD;have h:Wants K W He O Fs H σ Q (match oA i fc fe s t.ds (Γ1.set i none) [] with | .ok ds Γ2=>if !s.isView&&decide (i<Γ1.length) then .ok ⟨.lst s,.list ds⟩ (Γ2.set i (Γ1.getD i none)) else .no | _=>.no):=h
  cases eg:oA i fc fe s t.ds (Γ1.set i none) [] with
  | er c Γ'=>rw [eg] at h;exact h.elim
  | no=>rw [eg] at h;exact h.elim
  | ok ds' Γ2=>
   rw [eg] at h;have h:Wants K W He O Fs H σ Q (if (!s.isView&&decide (i<Γ1.length))=true then .ok ⟨.lst s,.list ds'⟩ (Γ2.set i (Γ1.getD i none)) else .no):=h
   by_cases hc:(!s.isView&&decide (i<Γ1.length))=true
   case neg=>rw [if_neg hc] at h;exact h.elim
   rw [if_pos hc] at h;simp only [Bool.and_eq_true,decide_eq_true_eq,Bool.not_eq_true'] at hc
   obtain ⟨hsv,hi⟩:=hc;obtain ⟨F,hF,E0,hmem⟩:=E1.shut hi;have hHeD:He A0=none:=E1.same.free hD
   have E0':EnvOk K He (A0::([]:List (List Addr)).flatten++(F++O)) (Fs1.set i []) (upd H1 A0 (.lst [])) (aP [i] σ) (Γ1.set i none):=
    E0.hide (G:=[A0]) (cu hD) (by simp) (fun a ha=>by simp at ha;rw [ha];exact hD) (fun a ha=>by simp at ha;rw [ha,cB];exact Option.some_ne_none _)
   refine ⟨fun k m ys H'=>m=vs.length-k/\k<=vs.length/\∃Γk Fk Gs acc,HQ K He O F Fs1 H1 σ i s A0 Γ1.length ys H' Γk Fk Gs acc/\oA i fc fe s (t.ds.drop k) Γk acc=.ok ds' Γ2,⟨vs.length,by simp,Nat.zero_le _,Γ1.set i none,Fs1.set i [],[],[],⟨E0',cu hD,cB,fun a ha=>.inl ((hmem a).mp (mem_append_right _ (by simpa using ha))),rfl,rfl,fun j v d G h1=>by simp at h1,getElem?_set_self hi,getElem?_set_self (by rw [E1.len2];exact hi),by rw [length_set]⟩,by simpa using eg⟩,?_⟩
   rintro k m ys H' ⟨rfl,hk,Γk,Fk,Gs,acc,g,eg'⟩
   refine ⟨g.at_,?_⟩
   have hPk:P H':=hP1 H' g.same
   have hlen:vs.length=t.ds.length:=hr.1
   by_cases hlt:k<vs.length
   case neg=>
    have hke:k=vs.length:=by omega
    left
    have:t.ds.drop k=[]:=drop_eq_nil_of_le (by omega)
    rw [this] at eg';have eg'':(Out.ok acc Γk:Out (List D))=.ok ds' Γ2:=eg'
    injection eg'' with e1 e2
    subst e1;subst e2;refine ⟨by rw [hke];exact it.stop H' hPk,?_⟩
    have E3:EnvOk K He ((A0::Gs.flatten)++O) (Fk.set i F) H' σ (Γk.set i (Γ1.getD i none)):=
     EnvOk.reopen (G:=A0::Gs.flatten) E1 hF g.env g.len g.same g.noneG g.noneF fun a ha=>by
      rcases List.mem_append.mp ha with z | z
      ·rcases List.mem_cons.mp z with z | z
       ·rw [z];exact .inr hD
       ·exact g.new a (mem_append_left _ z)
      ·exact g.new a (mem_append_right _ z)
    have pmF:((Fk.set i F).flatten).Perm (F++Fk.flatten):=by simpa using lM (G:=F) g.noneF
    obtain ⟨n1',_,n3'⟩:=List.nodup_append.mp g.env.ndO;refine h (.ref A0) H' (A0::Gs.flatten) (Fk.set i F) ⟨s1.trans g.same,E3,fun a ha=>?_,?_⟩
    ·have up:a∈Fs1.flatten\/H1 a=none->a∈Fs.flatten\/H a=none:=fun z=>z.elim (n1 a) fun y=>.inr (s1.free y)
     rcases List.mem_append.mp ha with z | z
     ·rcases List.mem_cons.mp z with z | z
      ·exact up (.inr (by rw [z];exact hD))
      ·exact up (g.new a (mem_append_left _ z))
     ·rcases List.mem_append.mp (pmF.mem_iff.mp z) with y | y
      ·exact up (.inl (fG hF y))
      ·exact up (g.new a (mem_append_right _ y))
    ·refine .lst hsv g.at_ g.l1 g.l2 n1' fun j v d G h1 h2 h3=>(g.own j v d G h1 h2 h3).perm fun a ha=>?_
     rw [append_assoc] at ha ⊢;rcases List.mem_append.mp ha with z | z
     ·exact mem_append_left _ z
     ·refine mem_append_right _ ?_
      rcases List.mem_append.mp z with z | z
      ·exact mem_append_left _ (mem_append_right _ z)
      ·rcases List.mem_append.mp (pmF.mem_iff.mp z) with y | y
       ·exact mem_append_left _ (mem_append_left _ y)
       ·exact mem_append_right _ y
   case pos=>
    right
    have hv:vs[k]?=some vs[k]:=getElem?_eq_getElem hlt
    have hkd:k<t.ds.length:=by omega
    have hd:t.ds[k]?=some t.ds[k]:=getElem?_eq_getElem hkd
    have hdr:t.ds.drop k=t.ds[k]::t.ds.drop (k+1):=drop_eq_getElem_cons hkd
    rw [hdr] at eg';generalize hdk:t.ds[k]=d at hd eg'
    generalize hvk:vs[k]=v at hv
    obtain ⟨hgo,hyld⟩:=it.go k H' v hPk hv
    simp only [oA] at eg'
    have hik:i<Γk.length:=by rw [g.len];exact hi
    have rep:Rep K (bA H' (A0::Gs.flatten++(F++O)++Fk.flatten)) v d:=(hr.2 k v d hv hd).mono (oH g.same fun a ha=>by
     rcases List.mem_append.mp ha with z | z
     ·rcases List.mem_append.mp z with z | z
      ·rcases List.mem_cons.mp z with z | z
       ·rw [z];exact .inr hD
       ·exact (g.new a (mem_append_left _ z)).elim (fun y=>.inl (mem_append_right _ y)) .inr
      ·rcases List.mem_append.mp z with z | z
       ·exact .inl (mem_append_right _ (fG hF z))
       ·exact .inl (mem_append_left _ z)
     ·exact (g.new a (mem_append_right _ z)).elim (fun y=>.inl (mem_append_right _ y)) .inr)
    have Ep:EnvOk K He (A0::Gs.flatten++(F++O)) (Fk.set i []) H' ((aP [i] σ).set i (some v)) (Γk.set i (some ⟨.leaf,d⟩)):=
     EnvOk.put (G:=[]) (p:=⟨.leaf,d⟩) (v:=v) g.env (.leaf rep) rfl (fun a ha=>by simp at ha) hik
    have hsl:ys.length<sizeLine:=by
     rw [g.l1]
     cases ec:fc (Γk.set i (some ⟨.leaf,d⟩)) with
     | no=>rw [ec] at eg';cases eg'
     | er c Γ'=>rw [ec] at eg';cases eg'
     | ok b Γa=>
      rw [ec] at eg'
      cases b with
      | false=>
       dsimp only at eg'
       split at eg'
       ·assumption
       ·cases eg'
      | true=>
       dsimp only at eg'
       split at eg'
       ·split at eg'
        ·rename_i z
         simp only [Bool.and_eq_true,decide_eq_true_eq] at z
         exact z.2
        ·cases eg'
       ·cases eg'
    refine ⟨hgo,hsl,fun x Hx hx=>?_⟩
    obtain ⟨rfl,rfl⟩:=hyld x Hx hx;show Az (aP [i] σ) ((aP [i] σ).set i (some x))/\_
    refine ⟨⟨by rw [length_set],fun j u hj=>?_⟩,?_⟩
    ·have:=(DF hj).1
     rw [getElem?_set_ne (by simp at this;exact fun z=>this z.symm)]
     exact hj
    refine ⟨He,_,_,_,Ep,?_⟩
    cases ec:fc (Γk.set i (some ⟨.leaf,d⟩)) with
    | no=>rw [ec] at eg';cases eg'
    | er c Γ'=>rw [ec] at eg';cases eg'
    | ok b Γa=>
     rw [ec] at eg';intro H3 Fs3 s3 E3 n3;have lena:Γa.length=Γ1.length:=by
      have:=E3.len1
      rw [length_set,xp,E1.len1] at this;exact this.symm
     have n3':∀a∈Fs3.flatten,a∈Fs1.flatten\/H1 a=none:=fun a ha=>(n3 a ha).elim (fun z=>by
      have pm:((Fk.set i []).flatten).Perm Fk.flatten:=by simpa using lM (G:=[]) g.noneF
      exact g.new a (mem_append_right _ (pm.mem_iff.mp z))) fun z=>.inr (g.same.free z)
     cases b with
     | false=>
      dsimp only at eg'
      split at eg'
      case isFalse=>cases eg'
      refine cX ⟨vs.length-(k+1),by omega,rfl,hlt,Γa.set i none,Fs3.set i [],Gs,acc,⟨E3.forget (by rw [lena];exact hi),g.same.trans s3,s3 _ _ g.at_,fun a ha=>?_,g.l1,g.l2,fun j v d G h1 h2 h3=>(g.own j v d G h1 h2 h3).mono s3 fun a ha=>?_,getElem?_set_self (by rw [lena];exact hi),getElem?_set_self (by rw [E3.len2,lena];exact hi),by rw [length_set];exact lena⟩,eg'⟩
      ·rcases List.mem_append.mp ha with z | z
       ·exact g.new a (mem_append_left _ z)
       ·obtain ⟨F3,hF3⟩:=E3.lt (i:=i) (by rw [lena];exact hi)
        have pm:(F3++(Fs3.set i []).flatten).Perm Fs3.flatten:=by simpa using lM (G:=[]) hF3
        exact n3' a (pm.mem_iff.mp (mem_append_right _ z))
      ·rcases List.mem_append.mp ha with z | z
       ·exact .inl (mem_append_left _ z)
       ·obtain ⟨F3,hF3⟩:=E3.lt (i:=i) (by rw [lena];exact hi)
        have pm:(F3++(Fs3.set i []).flatten).Perm Fs3.flatten:=by simpa using lM (G:=[]) hF3
        have pm2:((Fk.set i []).flatten).Perm Fk.flatten:=by simpa using lM (G:=[]) g.noneF
        exact (n3 a (pm.mem_iff.mp (mem_append_right _ z))).elim (fun y=>.inl (mem_append_right _ (pm2.mem_iff.mp y))) .inr
     | true=>
      refine dq ⟨He,_,_,_,E3,?_⟩
      dsimp only at eg'
      cases ee:fe Γa with
      | no=>rw [ee] at eg';cases eg'
      | er c Γ'=>rw [ee] at eg';cases eg'
      | ok p Γb=>
       rw [ee] at eg';dsimp only at eg'
       split at eg'
       case isFalse=>cases eg'
       rename_i hco;simp only [Bool.and_eq_true,decide_eq_true_eq] at hco
       obtain ⟨hco,_⟩:=hco;intro u H4 G Fs4 A4;have lenb:Γb.length=Γ1.length:=by
        have:=A4.env.len1
        rw [length_set,xp,E1.len1] at this;exact this.symm
       have hib:i<Γb.length:=by rw [lenb];exact hi
       have at4:H4 A0=some (.lst ys):=A4.same _ _ (s3 _ _ g.at_)
       have s14:Same H1 H4:=(g.same.trans s3).trans A4.same
       have pmk:((Fk.set i []).flatten).Perm Fk.flatten:=by simpa using lM (G:=[]) g.noneF
       obtain ⟨F4,hF4⟩:=A4.env.lt hib;have pm4:(F4++(Fs4.set i []).flatten).Perm Fs4.flatten:=by simpa using lM (G:=[]) hF4
       have new4:∀a∈G++Fs4.flatten,a∈Fs1.flatten\/H1 a=none:=fun a ha=>(A4.new a ha).elim (n3' a) fun z=>.inr ((g.same.trans s3).free z)
       have hG':∀a∈aK s G,a∈G:=fun a ha=>FC ha
       obtain ⟨k1,k2,k3⟩:=List.nodup_append.mp A4.env.ndO;have ndk:(aK s G).Nodup:=by
        cases s<;>first | exact nodup_nil | exact k1
       have pmO:(A0::(Gs++[aK s G]).flatten++(F++O)).Perm (aK s G++(A0::Gs.flatten++(F++O))):=by
        rw [uE];show (A0::((Gs.flatten++aK s G)++(F++O))).Perm _
        refine List.Perm.trans ?_ List.perm_middle.symm
        refine List.Perm.cons _ ?_
        rw [append_assoc];exact ke _ _ _
       have E5:EnvOk K He (aK s G++(A0::Gs.flatten++(F++O))) Fs4 H4 ((aP [i] σ).set i (some x)) Γb:=A4.env.drop (fun a ha=>by
        rcases List.mem_append.mp ha with z | z
        ·exact mem_append_left _ (hG' a z)
        ·exact mem_append_right _ z) (List.nodup_append.mpr ⟨ndk,k2,fun a ha b hb=>k3 a (hG' a ha) b hb⟩)
       have E6:=(E5.perm pmO).forget hib
       have hDin:A0∈A0::(Gs++[aK s G]).flatten++(F++O):=mem_cons_self
       have E7:=E6.mutO (o:=.lst (ys++[u])) hDin at4 hHeD
       have subH:∀a∈A0::(Gs++[aK s G]).flatten++(F++O)++(Fs4.set i []).flatten,a∈G++(A0::Gs.flatten++(F++O))++Fs4.flatten:=fun a ha=>by
        rcases List.mem_append.mp ha with z | z
        ·rcases List.mem_append.mp (pmO.mem_iff.mp z) with y | y
         ·exact mem_append_left _ (mem_append_left _ (hG' a y))
         ·exact mem_append_left _ (mem_append_right _ y)
        ·exact mem_append_right _ (pm4.mem_iff.mp (mem_append_right _ z))
       have Dnot:∀{j:Nat} {Gj:List Addr},Gs[j]?=some Gj->A0∉Gj:=fun {j Gj} hj z=>by
        have nd:=g.env.ndO
        exact (List.nodup_cons.mp nd).1 (mem_append_left _ (fG hj z))
       refine ⟨at4,vs.length-(k+1),by omega,rfl,hlt,Γb.set i none,Fs4.set i [],Gs++[aK s G],acc++[p.d],⟨E7,fun b o hb=>?_,cB,fun a ha=>?_,by simp [g.l1],by simp [g.l2],fun j w d' G' h1 h2 h3=>?_,getElem?_set_self hib,getElem?_set_self (by rw [A4.env.len2];exact hib),by rw [length_set];exact lenb⟩,eg'⟩
       ·rw [bE (jQ hb hD)]
        exact s14 b o hb
       ·rcases List.mem_append.mp ha with z | z
        ·rw [uE] at z
         rcases List.mem_append.mp z with z | z
         ·exact g.new a (mem_append_left _ z)
         ·exact new4 a (mem_append_left _ (hG' a z))
        ·exact new4 a (mem_append_right _ (pm4.mem_iff.mp (mem_append_right _ z)))
       ·by_cases hj:j<ys.length
        ·rw [getElem?_append_left hj] at h1
         rw [getElem?_append_left (by rw [<-g.l1];exact hj)] at h2
         rw [getElem?_append_left (by rw [g.l2,<-g.l1];exact hj)] at h3
         have o1:=g.own j w d' G' h1 h2 h3
         have o2:=o1.mono (O':=A0::(Gs++[aK s G]).flatten++(F++O)++(Fs4.set i []).flatten) (s3.trans A4.same) fun a ha=>by
          have up:a∈G++Fs4.flatten->a∈A0::Gs.flatten++(F++O)++Fk.flatten\/Hx a=none:=fun z=>(A4.new a z).elim (fun y=>(n3 a y).elim (fun y=>.inl (mem_append_right _ (pmk.mem_iff.mp y))) .inr) fun y=>.inr (s3.free y)
          rcases List.mem_append.mp (subH a ha) with z | z
          ·rcases List.mem_append.mp z with z | z
           ·exact up (mem_append_left _ z)
           ·exact .inl (mem_append_left _ z)
          ·exact up (mem_append_right _ z)
         exact o2.mut hsv (mem_append_left _ hDin) (Dnot h3) at4
        ·have hj':j=ys.length:=by
          have:=(List.getElem?_eq_some_iff.mp h1).1
          rw [length_append,length_singleton] at this;omega
         subst hj'
         rw [getElem?_append_right (Nat.le_refl _),Nat.sub_self] at h1;rw [getElem?_append_right (by rw [g.l1];exact Nat.le_refl _),show ys.length-acc.length=0 by rw [g.l1];exact Nat.sub_self _] at h2
         rw [getElem?_append_right (by rw [g.l2,g.l1];exact Nat.le_refl _),show ys.length-Gs.length=0 by rw [g.l2,g.l1];exact Nat.sub_self _] at h3
         cases h1
         cases h2
         cases h3;have o3:=A4.own.coer (s:=s) (O':=A0::(Gs++[aK s G]).flatten++(F++O)++(Fs4.set i []).flatten) hco subH fun a ha hO=>by
          cases s with
          | leaf=>
           exfalso
           have hO':a∈(A0::Gs.flatten++(F++O))++(Fs4.set i []).flatten:=by
            rw [uE] at hO;simpa [aK] using hO
           rcases List.mem_append.mp hO' with z | z
           ·exact k3 a ha a z rfl
           ·have nd:=A4.env.nd
            exact (List.nodup_append.mp nd).2.2 a (mem_append_left _ ha) a (pm4.mem_iff.mp (mem_append_right _ z)) rfl
          | view=>cases hsv
          | lst s=>exact ha
          | tup ss=>exact ha
         refine o3.mut hsv (mem_append_left _ hDin) (fun z=>?_) at4
         exact k3 A0 (hG' A0 z) A0 mem_cons_self rfl
end
inductive OutS where
 | nx (e:Ev) | bk (e:Ev) | ct (e:Ev) | rt (p:PV) | er (c:Str) (e:Ev) | no
abbrev FS:=Ev->OutS
structure RetOk (K:Fg) (He:Hp) (O:List Addr) (p:PV) (v:V) (H':Hp) (G:List Addr):Prop where
 same:Same He H'
 fresh:∀a∈G,He a=none
 inH:∀a∈G,H' a≠none
 nd:G.Nodup
 own:Own K (G++O) H' p.s G v p.d
 nv:p.s.isView=false
def jM (K:Fg) (W:XW) (He:Hp) (O:List Addr) (D:bS):OutS->Prop
 | .nx Γ'=>∀σ' H' Fs',EnvOk K He O Fs' H' σ' Γ'->D.nx σ' H'
 | .bk Γ'=>∀σ' H' Fs',EnvOk K He O Fs' H' σ' Γ'->D.bk σ' H'
 | .ct Γ'=>∀σ' H' Fs',EnvOk K He O Fs' H' σ' Γ'->D.ct σ' H'
 | .rt p=>∀v H' G,RetOk K He O p v H' G->D.rt v H'
 | .er c Γ'=>∀σ' H' Fs',EnvOk K He O Fs' H' σ' Γ'->W c σ' H'
 | .no=>False
def tS (K:Fg) (W:XW) (g:FS):TS:=fun D σ H=>∃He O Fs Γ,EnvOk K He O Fs H σ Γ/\jM K W He O D (g Γ)
def aM:FS:=fun Γ=>.nx Γ
def aj (g1 g2:FS):FS:=fun Γ=>match g1 Γ with
 | .nx Γ'=>g2 Γ'
 | o=>o
def g6 (f:F1) (k:PV->Ev->OutS):FS:=fun Γ=>match f Γ with
 | .ok p Γ'=>k p Γ'
 | .er c Γ'=>.er c Γ'
 | .no=>.no
def bV (c:FB) (a b:FS):FS:=fun Γ=>match c Γ with
 | .ok t Γ'=>if t then a Γ' else b Γ'
 | .er c Γ'=>.er c Γ'
 | .no=>.no
section
variable {K:Fg} {W:XW} {σ:St} {H:Hp} {D:bS} {fa fb:F1} {ga gb:FB} {g1 g2:FS}
theorem vd (h:tS K W aM D σ H):iG D σ H:=by
 obtain ⟨He,O,Fs,Γ,E,h⟩:=h;exact h σ H Fs E
theorem yM (h:tS K W (aj g1 g2) D σ H):cC (tS K W g1) (tS K W g2) D σ H:=by
 obtain ⟨He,O,Fs,Γ,E,h⟩:=h;refine ⟨He,O,Fs,Γ,E,?_⟩
 unfold aj at h
 cases e:g1 Γ with
 | nx Γ'=>rw [e] at h;exact fun σ' H' Fs' E'=>⟨He,O,Fs',Γ',E',h⟩
 | bk Γ'=>rw [e] at h;exact h
 | ct Γ'=>rw [e] at h;exact h
 | rt p=>rw [e] at h;exact h
 | er c Γ'=>rw [e] at h;exact h
 | no=>rw [e] at h;exact h
theorem iF {k:PV->Ev->OutS} {R:VK} (h:tS K W (g6 fa k) D σ H)
  (hk:∀He O Fs Γ1 p v H1 G Fs1,EnvOk K He O Fs H σ Γ1\/True->(∀a∈G,He a=none)->Aft K He O Fs H σ Γ1 p v H1 G Fs1->jM K W He O D (k p Γ1)->R v H1):tE K W fa σ H R:=by
 obtain ⟨He,O,Fs,Γ,E,h⟩:=h;refine ⟨He,O,Fs,Γ,E,?_⟩
 unfold g6 at h
 cases e:fa Γ with
 | ok p Γ1=>rw [e] at h;exact fun v H' G Fs' A=>hk He O Fs Γ1 p v H' G Fs' (.inr trivial) (A.freshG E) A h
 | er c Γ1=>rw [e] at h;exact fun H' Fs' s E'=>h σ H' Fs' E'
 | no=>rw [e] at h;exact h
theorem yS (h:tS K W (bV ga g1 g2) D σ H):oP (tT K W ga) (tS K W g1) (tS K W g2) D σ H:=by
 obtain ⟨He,O,Fs,Γ,E,h⟩:=h;refine ⟨He,O,Fs,Γ,E,?_⟩
 unfold bV at h
 cases e:ga Γ with
 | ok b Γ1=>
  rw [e] at h;intro H' Fs' s E' n
  cases b with
  | true=>exact dq ⟨He,O,Fs',Γ1,E',h⟩
  | false=>exact cX ⟨He,O,Fs',Γ1,E',h⟩
 | er c Γ1=>rw [e] at h;exact fun H' Fs' s E'=>h σ H' Fs' E'
 | no=>rw [e] at h;exact h
def aE (f:F1):FS:=g6 f fun p _=>if p.s.isView then (if aW p.d then .rt ⟨.leaf,p.d⟩ else .no) else .rt p
theorem yN (h:tS K W (aE fa) D σ H):mf (tE K W fa) D σ H:=by
 refine iF h fun He O Fs Γ1 p v H1 G Fs1 _ fr A w=>?_
 obtain ⟨n1,n2,n3⟩:=List.nodup_append.mp A.env.ndO;have inH:∀a∈G,H1 a≠none:=fun a ha=>A.env.inH a (mem_append_left _ (mem_append_left _ ha))
 cases hv:p.s.isView with
 | false=>
  have w:jM K W He O D (.rt p):=by simpa [hv] using w
  exact w v H1 G ⟨A.env.same,fr,inH,n1,A.own.perm fun a ha=>mem_append_left _ ha,hv⟩
 | true=>
  cases hs:aW p.d with
  | false=>rw [hv,hs] at w;exact w.elim
  | true=>
   have w:jM K W He O D (.rt ⟨.leaf,p.d⟩):=by simpa [hv,hs] using w
   exact w v H1 [] ⟨A.env.same,(fun _ z=>nomatch z),(fun _ z=>nomatch z),nodup_nil,.leaf (A.own.rep.sc hs).rep,rfl⟩
def av (own:Bool) (i:Nat) (f:F1):FS:=g6 f fun p Γ=>if i<Γ.length then (if own&&!p.s.isView then .nx (Γ.set i (some p)) else if T.coer .leaf p then .nx (Γ.set i (some ⟨.leaf,p.d⟩)) else .no) else .no
theorem rF {own:Bool} {i:Nat} (h:tS K W (av own i fa) D σ H):fH (tE K W fa) (gName i) D σ H:=by
 refine iF h fun He O Fs Γ1 p v H1 G Fs1 _ fr A w=>?_
 show D.nx (σ.set i (some v)) H1
 have w:jM K W He O D (if i<Γ1.length then (if own&&!p.s.isView then .nx (Γ1.set i (some p)) else if T.coer .leaf p then .nx (Γ1.set i (some ⟨.leaf,p.d⟩)) else .no) else .no):=w
 by_cases hi:i<Γ1.length
 case neg=>rw [if_neg hi] at w;exact w.elim
 rw [if_pos hi] at w
 cases ho:(own&&!p.s.isView) with
 | true=>
  rw [ho] at w;have hv:p.s.isView=false:=by
   simp only [Bool.and_eq_true,Bool.not_eq_true'] at ho
   exact ho.2
  exact w _ H1 _ (EnvOk.put A.env A.own hv fr hi)
 | false=>
  rw [ho] at w
  cases hc:T.coer .leaf p with
  | false=>rw [hc] at w;exact w.elim
  | true=>
   rw [hc] at w;have o:=A.own.coer (s:=.leaf) (O':=O++Fs1.flatten) hc fI fun a ha z=>absurd z (A.disj a ha)
   exact w _ H1 _ (EnvOk.put (G:=[]) (p:=⟨.leaf,p.d⟩) (v:=v) A.go o rfl (fun a ha=>by simp at ha) hi)
def cR (f:F1):FS:=g6 f fun _ Γ=>.nx Γ
theorem vm (h:tS K W (cR fa) D σ H):cc (tE K W fa) D σ H:=
 iF h fun He O Fs Γ1 p v H1 G Fs1 _ fr A w=>w σ H1 Fs1 A.go
theorem yi {α:Type} {l:List α} {i:Nat} {x:α} (h:l[i]?=some x):l.set i x=l:=by
 apply ext_getElem?
 intro j;by_cases hj:j=i
 ·subst hj
  rw [getElem?_set_self (List.getElem?_eq_some_iff.mp h).1,h]
 ·rw [getElem?_set_ne (Ne.symm hj)]
def As (i:Nat) (p:PV) (Γ:Ev):OutS:=match Γ[i]? with
 | some (some ⟨.lst s,.list ds⟩)=>if T.coer s p&&decide (ds.length<sizeLine) then .nx (Γ.set i (some ⟨.lst s,.list (ds++[p.d])⟩)) else .no
 | _=>.no
def Bj:Option (Option PV)->Bool
 | some (some ⟨.lst _,.list _⟩)=>true
 | _=>false
def dC (i:Nat) (f:F1):FS:=fun Γ=>if Bj Γ[i]? then g6 f (As i) Γ else .no
theorem wN {He H:Hp} {O G:List Addr} {Fs:List (List Addr)} {Γ:Ev} {i:Nat} {s:Sh} {ds:List PySem.PyData} {p:PV} {v:V} (E:EnvOk K He (G++O) Fs H σ Γ) (o:Own K (G++O++Fs.flatten) H p.s G v p.d) (fr:∀a∈G,He a=none)
  (h:Γ[i]?=some (some ⟨.lst s,.list ds⟩)) (hc:T.coer s p=true) :
  ∃l vs,σ[i]?=some (some (.ref l))/\H l=some (.lst vs)/\vs.length=ds.length/\∃Fs',EnvOk K He O Fs' (upd H l (.lst (vs++[v]))) σ (Γ.set i (some ⟨.lst s,.list (ds++[p.d])⟩)):=by
 obtain ⟨hv,u,F,h1,E1,o1,sub⟩:=E.move h;have hi:i<Γ.length:=(List.getElem?_eq_some_iff.mp h).1
 cases o1 with
 | @lst _ l vs _ Fs0 hsv hp hl hf nd q=>
  refine ⟨l,vs,h1,hp,hl,Fs.set i (l::(Fs0++[aK s G]).flatten),?_⟩
  have hlF:l∈Fs.flatten:=sub l (mem_append_left _ mem_cons_self)
  have hHe:He l=none:=E.fresh l hlF
  have hG':∀a∈aK s G,a∈G:=fun a ha=>FC ha
  obtain ⟨k1,k2,k3⟩:=List.nodup_append.mp E1.ndO;obtain ⟨g1,g2,g3⟩:=List.nodup_append.mp k2;have ndk:(aK s G).Nodup:=by
   cases s<;>first | exact nodup_nil | exact g1
  have pmO:((l::(Fs0++[aK s G]).flatten)++O).Perm ((l::Fs0.flatten)++(aK s G++O)):=by
   rw [uE];show (l::((Fs0.flatten++aK s G)++O)).Perm (l::(Fs0.flatten++(aK s G++O)))
   rw [append_assoc]
  have E2:EnvOk K He ((l::Fs0.flatten)++(aK s G++O)) (Fs.set i []) H σ (Γ.set i none):=E1.drop (fun a ha=>by
   rcases List.mem_append.mp ha with z | z
   ·exact mem_append_left _ z
   ·refine mem_append_right _ ?_
    rcases List.mem_append.mp z with z | z
    ·exact mem_append_left _ (hG' a z)
    ·exact mem_append_right _ z) (List.nodup_append.mpr ⟨k1,List.nodup_append.mpr ⟨ndk,g2,fun a ha b hb=>g3 a (hG' a ha) b hb⟩,fun a ha b hb=>k3 a ha b (by
     rcases List.mem_append.mp hb with z | z
     ·exact mem_append_left _ (hG' b z)
     ·exact mem_append_right _ z)⟩)
  have E3:=E2.perm pmO
  have hlin:l∈(l::(Fs0++[aK s G]).flatten)++O:=mem_cons_self
  have E4:=E3.mutO (o:=.lst (vs++[v])) hlin hp hHe
  have lnG:l∉G:=fun z=>k3 l mem_cons_self l (mem_append_left _ z) rfl
  have subH:∀a∈(l::(Fs0++[aK s G]).flatten)++O++(Fs.set i []).flatten,a∈(l::Fs0.flatten)++(G++O)++(Fs.set i []).flatten:=fun a ha=>by
   rcases List.mem_append.mp ha with z | z
   ·refine mem_append_left _ ?_
    rcases List.mem_append.mp (pmO.mem_iff.mp z) with y | y
    ·exact mem_append_left _ y
    ·refine mem_append_right _ ?_
     rcases List.mem_append.mp y with y | y
     ·exact mem_append_left _ (hG' a y)
     ·exact mem_append_right _ y
   ·exact mem_append_right _ z
  have ownL:Own K ((l::(Fs0++[aK s G]).flatten)++O++(Fs.set i []).flatten) (upd H l (.lst (vs++[v]))) (.lst s) (l::(Fs0++[aK s G]).flatten) (.ref l) (.list (ds++[p.d])):=by
   refine .lst hsv cB (by simp [hl]) (by simp [hf]) ?_ fun j w d' G' e1 e2 e3=>?_
   ·have nd2:=E3.ndO
    exact (List.nodup_append.mp nd2).1
   ·by_cases hj:j<vs.length
    ·rw [getElem?_append_left hj] at e1
     rw [getElem?_append_left (by omega)] at e2
     rw [getElem?_append_left (by omega)] at e3
     exact ((q j w d' G' e1 e2 e3).perm subH).mut hsv (mem_append_left _ hlin) (fun z=>(List.nodup_cons.mp nd).1 (fG e3 z)) hp
    ·have hj':j=vs.length:=by
      have:=(List.getElem?_eq_some_iff.mp e1).1
      rw [length_append,length_singleton] at this;omega
     subst hj'
     rw [getElem?_append_right (Nat.le_refl _),Nat.sub_self] at e1;rw [getElem?_append_right (by omega),show vs.length-ds.length=0 by omega] at e2
     rw [getElem?_append_right (by omega),show vs.length-Fs0.length=0 by omega] at e3
     cases e1
     cases e2
     cases e3;have osub:∀a∈(l::(Fs0++[aK s G]).flatten)++O++(Fs.set i []).flatten,a∈G++O++Fs.flatten:=fun a ha=>by
      rcases List.mem_append.mp (subH a ha) with z | z
      ·rcases List.mem_append.mp z with z | z
       ·exact mem_append_right _ (sub a (mem_append_left _ z))
       ·exact mem_append_left _ z
      ·exact mem_append_right _ (sub a (mem_append_right _ z))
     have o3:=o.coer (s:=s) hc osub fun a ha hO=>by
      cases s with
      | leaf=>
       exfalso
       rw [uE] at hO;have hO':a∈(l::Fs0.flatten)++O++(Fs.set i []).flatten:=by simpa [aK] using hO
       have ndE:=E.nd
       rw [append_assoc] at ndE;have dis:=(List.nodup_append.mp ndE).2.2
       rcases List.mem_append.mp hO' with z | z
       ·rcases List.mem_append.mp z with z | z
        ·exact dis a ha a (mem_append_right _ (sub a (mem_append_left _ z))) rfl
        ·exact dis a ha a (mem_append_left _ z) rfl
       ·exact dis a ha a (mem_append_right _ (sub a (mem_append_right _ z))) rfl
      | view=>cases hsv
      | lst s=>exact ha
      | tup ss=>exact ha
     exact o3.mut hsv (mem_append_left _ hlin) (fun z=>lnG (hG' l z)) hp
  have fin:=EnvOk.put (i:=i) (p:=⟨.lst s,.list (ds++[p.d])⟩) (v:=.ref l) E4 ownL rfl (fun a ha=>?_) (by rw [length_set];exact hi)
  ·rw [set_set,set_set,yi h1] at fin
   exact fin
  ·rcases List.mem_cons.mp ha with z | z
   ·rw [z];exact hHe
   ·rw [uE] at z
    rcases List.mem_append.mp z with z | z
    ·exact E.fresh a (sub a (mem_append_left _ (mem_cons_of_mem _ z)))
    ·exact fr a (hG' a z)
theorem Bo {QL:List V->Hp->Prop} (h1:tE K W fa σ H fun v H'=>QL [v] H'):tA K W (ab fa af) σ H QL:=by
 obtain ⟨He,O,Fs,Γ,E,h1⟩:=h1;refine ⟨He,O,Fs,Γ,E,?_⟩
 unfold ab af
 cases e:fa Γ with
 | ok p Γ'=>
  rw [e] at h1;intro vs H' Gs Fs' A
  match vs,Gs,A.len1,A.len2 with
  | [v],[G],_,_=>exact h1 v H' G Fs' ⟨A.same,by simpa using A.env,by simpa using A.new,by simpa using A.own 0 v p G rfl rfl rfl⟩
 | er c Γ'=>rw [e] at h1;exact h1
 | no=>rw [e] at h1;exact h1
theorem pN {o:Option (Option PV)} (h:Bj o=true):∃s ds,o=some (some ⟨.lst s,.list ds⟩):=by
 unfold Bj at h;split at h
 ·exact ⟨_,_,rfl⟩
 ·cases h
theorem EnvOk.ownL {He H:Hp} {O:List Addr} {Fs:List (List Addr)} {Γ:Ev} {i:Nat} {s:Sh} {ds:List PySem.PyData} (E:EnvOk K He O Fs H σ Γ) (h:Γ[i]?=some (some ⟨.lst s,.list ds⟩)):∃l vs,σ[i]?=some (some (.ref l))/\H l=some (.lst vs)/\vs.length=ds.length:=by
 obtain ⟨hv,v,F,h1,h2,h3⟩:=E.slot i _ h
 cases h3 with
 | @lst _ l vs _ Fs0 hsv hp hl hf nd q=>exact ⟨l,vs,h1,hp,hl⟩
theorem o8 {i:Nat} (h:tS K W (dC i fa) D σ H):cc (oR K "list" oF (aD i) (tA K W (ab fa af))) D σ H:=by
 obtain ⟨He,O,Fs,Γ,E,h⟩:=h;unfold dC at h
 cases ho:Bj Γ[i]? with
 | false=>rw [ho] at h;exact h.elim
 | true=>
  rw [ho] at h;obtain ⟨s,ds,e0⟩:=pN ho;obtain ⟨l,vs,h1,h2,h3⟩:=E.ownL e0;refine ⟨.ref l,h1,.inl ⟨rfl,vs,.of h2⟩,Bo (iF (D:=D) ⟨He,O,Fs,Γ,E,h⟩ fun He O Fs Γ1 p v H1 G Fs1 _ fr A w=>?_)⟩
  unfold As at w;split at w
  ·rename_i s1 ds1 e1
   cases hc:(T.coer s1 p&&decide (ds1.length<sizeLine)) with
   | false=>rw [hc] at w;exact w.elim
   | true=>
    rw [hc] at w;simp only [Bool.and_eq_true,decide_eq_true_eq] at hc
    obtain ⟨l1,vs1,q1,q2,q3,Fs',E'⟩:=wN A.env A.own fr e1 hc.1;rw [h1] at q1
    cases q1;exact ⟨l,vs1,v,rfl,rfl,q2,by rw [q3];exact hc.2,w σ _ Fs' E'⟩
  ·exact w.elim
def ck (i:Nat) (body:FS):List PySem.PyData->Ev->OutS
 | [],Γ=>.nx Γ
 | d::r,Γ=>if i<Γ.length then (match body (Γ.set i (some ⟨.leaf,d⟩)) with
  | .nx Γ'=>ck i body r Γ'
  | .ct Γ'=>ck i body r Γ'
  | .bk Γ'=>.nx Γ'
  | .rt p=>.rt p
  | .er c Γ'=>.er c Γ'
  | .no=>.no) else .no
def cI (i:Nat) (fi:FI) (body:FS):FS:=fun Γ=>match fi Γ with
 | .ok t Γ1=>if t.st then ck i body t.ds Γ1 else .no
 | .er c Γ1=>.er c Γ1
 | .no=>.no
theorem EnvOk.rebase {He H:Hp} {O:List Addr} {Fs:List (List Addr)} {Γ:Ev} (E:EnvOk K He O Fs H σ Γ):EnvOk K (bA H Fs.flatten) O Fs H σ Γ/\Same He (bA H Fs.flatten):=
 ⟨⟨E.len1,E.len2,hid_le,E.nd,E.inH,fun a ha=>by unfold bA;rw [if_pos ha],E.slot⟩,fun b o e=>jc (E.same b o e) fun z=>by have:=E.fresh b z;rw [e] at this;cases this⟩
theorem EnvOk.unbase {He He' H:Hp} {O:List Addr} {Fs:List (List Addr)} {Γ:Ev} (E:EnvOk K He' O Fs H σ Γ) (s:Same He He'):EnvOk K He O Fs H σ Γ:=
 ⟨E.len1,E.len2,s.trans E.same,E.nd,E.inH,fun a ha=>s.free (E.fresh a ha),E.slot⟩
theorem RetOk.unbase {He He' H:Hp} {O G:List Addr} {p:PV} {v:V} (r:RetOk K He' O p v H G) (s:Same He He'):RetOk K He O p v H G:=
 ⟨s.trans r.same,fun a ha=>s.free (r.fresh a ha),r.inH,r.nd,r.own,r.nv⟩
theorem yX {i:Nat} {fi:FI} {body:FS} (h:tS K W (cI i fi body) D σ H):eC (tI K W fi) (gName i) (tS K W body) D σ H:=by
 obtain ⟨He,O,Fs,Γ,E,h⟩:=h;refine ⟨He,O,Fs,Γ,E,?_⟩
 unfold cI at h
 cases e:fi Γ with
 | er c Γ1=>rw [e] at h;exact fun H' Fs' s E'=>h σ H' Fs' E'
 | no=>rw [e] at h;exact h
 | ok t Γ1=>
  rw [e] at h;intro J H1 Fs1 vs P s1 E1 n1 it hP hP1 hst hr;have h:jM K W He O D (if t.st then ck i body t.ds Γ1 else .no):=h
  cases ht:t.st with
  | false=>rw [ht] at h;exact h.elim
  | true=>
   rw [ht] at h;have h:jM K W He O D (ck i body t.ds Γ1):=h
   obtain ⟨E1',sHe⟩:=E1.rebase;have hlen:vs.length=t.ds.length:=hr.1
   refine ⟨fun k m σ' H'=>m=vs.length-k/\k<=vs.length/\∃Γk Fk,EnvOk K (bA H1 Fs1.flatten) O Fk H' σ' Γk/\jM K W He O D (ck i body (t.ds.drop k) Γk),⟨vs.length,by simp,Nat.zero_le _,Γ1,Fs1,E1',by simpa using h⟩,?_⟩
   rintro k m σ' H' ⟨rfl,hk,Γk,Fk,Ek,hw⟩
   have hPk:P H':=hst ht H' Ek.same
   by_cases hlt:k<vs.length
   case neg=>
    left
    have hke:k=vs.length:=by omega
    have:t.ds.drop k=[]:=drop_eq_nil_of_le (by omega)
    rw [this] at hw;exact ⟨by rw [hke];exact it.stop H' hPk,hw σ' H' Fk (Ek.unbase sHe)⟩
   case pos=>
    right
    have hv:vs[k]?=some vs[k]:=getElem?_eq_getElem hlt
    have hkd:k<t.ds.length:=by omega
    have hd:t.ds[k]?=some t.ds[k]:=getElem?_eq_getElem hkd
    have hdr:t.ds.drop k=t.ds[k]::t.ds.drop (k+1):=drop_eq_getElem_cons hkd
    rw [hdr] at hw;generalize hdk:t.ds[k]=d at hd hw
    generalize hvk:vs[k]=v at hv
    obtain ⟨hgo,hyld⟩:=it.go k H' v hPk hv
    simp only [ck] at hw
    by_cases hi:i<Γk.length
    case neg=>rw [if_neg hi] at hw;exact hw.elim
    rw [if_pos hi] at hw;have rep:Rep K (bA H' (O++Fk.flatten)) v d:=by
     refine (hr.2 k v d hv hd).mono fun b o hb=>?_
     have hb1:bA H1 Fs1.flatten b=some o:=sub_hid b o hb
     have hbO:b∉O:=fun z=>by
      unfold bA at hb;rw [if_pos (mem_append_left _ z)] at hb
      cases hb
     have hbF:b∉Fk.flatten:=fun z=>by
      have:=Ek.fresh b z
      rw [hb1] at this
      cases this
     exact jc (Ek.same b o hb1) fun z=>(List.mem_append.mp z).elim hbO hbF
    have Ep:EnvOk K (bA H1 Fs1.flatten) O (Fk.set i []) H' (σ'.set i (some v)) (Γk.set i (some ⟨.leaf,d⟩)):=
     EnvOk.put (G:=[]) (p:=⟨.leaf,d⟩) (v:=v) Ek (.leaf rep) rfl (fun a ha=>by simp at ha) hi
    refine ⟨hgo,fun σ2 H2=>∃Γk Fk,EnvOk K (bA H1 Fs1.flatten) O Fk H2 σ2 Γk/\jM K W He O D (ck i body (t.ds.drop (k+1)) Γk),fun σ2 H2 q=>⟨vs.length-(k+1),by omega,rfl,hlt,q⟩,fun x Hx hx=>?_⟩
    obtain ⟨rfl,rfl⟩:=hyld x Hx hx;show tS K W body _ (σ'.set i (some x)) Hx
    refine ⟨bA H1 Fs1.flatten,O,_,_,Ep,?_⟩
    cases eb:body (Γk.set i (some ⟨.leaf,d⟩)) with
    | nx Γ'=>rw [eb] at hw;exact fun σ2 H2 F2 E2=>⟨Γ',F2,E2,hw⟩
    | ct Γ'=>rw [eb] at hw;exact fun σ2 H2 F2 E2=>⟨Γ',F2,E2,hw⟩
    | bk Γ'=>rw [eb] at hw;exact fun σ2 H2 F2 E2=>hw σ2 H2 F2 (E2.unbase sHe)
    | rt p=>rw [eb] at hw;exact fun u H2 G r=>hw u H2 G (r.unbase sHe)
    | er c Γ'=>rw [eb] at hw;exact fun σ2 H2 F2 E2=>hw σ2 H2 F2 (E2.unbase sHe)
    | no=>rw [eb] at hw;exact hw
end
inductive Res where
 | ok (p:PV) | er (c:Str) | no
def oS (K:Fg) (n:Nat) (den:List PySem.PyData->Res):Sp:=fun vs H Q _=>vs.length=n/\∃O ds,O.Nodup/\(∀a∈O,H a≠none)/\Reps K (bA H O) vs ds/\match den ds with
 | .ok p=>∀v H' G,RetOk K H O p v H' G->Q v H'
 | .er _=>False
 | .no=>False
def cL (n:Nat) (ds:List PySem.PyData):Ev:=ds.map (fun d=>some ⟨.leaf,d⟩)++List.replicate (n-ds.length) none
def aF (n:Nat) (g:FS) (ds:List PySem.PyData):Res:=match g (cL n ds) with
 | .nx _=>.ok ⟨.leaf,.none⟩
 | .rt p=>.ok p
 | .er c _=>.er c
 | _=>.no
section
variable {P:Program} {w:World} {K:Fg} {mg:Str->Option Value} {base:Heap}
theorem pU {N:List Str} {H:Hp} {O:List Addr} {vs:List V} {ds:List PySem.PyData} (hn:vs.length<=N.length) (nd:O.Nodup) (inH:∀a∈O,H a≠none) (rs:Reps K (bA H O) vs ds) :
  EnvOk K H O (List.replicate N.length []) H (L2.start N vs) (cL N.length ds):=by
 have fl:(List.replicate N.length ([]:List Addr)).flatten=[]:=by simp
 have hl:=rs.1
 refine ⟨by simp [L2.start,cL,hl],by simp [cL];omega,Same.refl _,by rw [fl];simpa using nd,by rw [fl];simpa using inH,fun a ha=>by rw [fl] at ha;simp at ha,fun i p hp=>?_⟩
 unfold cL at hp;by_cases hi:i<ds.length
 ·rw [getElem?_append_left (by simpa using hi),getElem?_map,getElem?_eq_getElem hi] at hp
  cases hp;refine ⟨rfl,vs[i]'(by omega),[],?_,?_,?_⟩
  ·unfold L2.start
   rw [getElem?_append_left (by simp;omega),getElem?_map,getElem?_eq_getElem (by omega)]
   rfl
  ·rw [getElem?_replicate,if_pos (by omega)]
  ·refine .leaf ?_
   rw [fl,append_nil];exact rs.2 i _ _ (getElem?_eq_getElem _) (getElem?_eq_getElem hi)
 ·rw [getElem?_append_right (by simpa using hi),getElem?_replicate] at hp
  split at hp<;>cases hp
theorem zU {x qual:Str} {st:Stmt} {f:Addr} {fd:FuncData} {N ps:List Str} {k:Nat} {g:FS} (F:Fun K x qual st f fd) (S:bB N ps (cP st))
  (hb:∀(cdv:Value) (A:Around) (outer:List Env) (s:Shared) (H:Hp) (E:XK),Room k (A.deeper (envOfC qual (cP st) s.heap.objs.size f cdv)) ->
   PSs (jy g7 P w K mg base N qual (cP st) f cdv A outer s H E).nox (jG st) (tS K W0 g)):cE P w K mg base g7 (k+1) f fd ps (oS K ps.length (aF N.length g)):=by
 have hpl:ps.length<=N.length:=by have:=congrArg List.length S.pre;rw [length_take] at this;omega
 refine F.ok S (fun vs H Q E h=>h.1) (fun cdv A outer s H vs Q E hr h=>⟨_,hb cdv A outer s H E hr,?_⟩)
 obtain ⟨hl,O,ds,nd,inH,rs,w⟩:=h;refine ⟨H,O,List.replicate N.length [],cL N.length ds,pU (by omega) nd inH rs,?_⟩
 unfold aF at w
 cases e:g (cL N.length ds) with
 | nx Γ'=>
  rw [e] at w;exact fun σ' H' Fs' E'=>w .non H' [] ⟨E'.same,(fun _ z=>nomatch z),(fun _ z=>nomatch z),nodup_nil,.leaf .non,rfl⟩
 | rt p=>rw [e] at w;exact w
 | bk Γ'=>rw [e] at w;exact w.elim
 | ct Γ'=>rw [e] at w;exact w.elim
 | er c Γ'=>rw [e] at w;exact w.elim
 | no=>rw [e] at w;exact w.elim
end
def ah (n:Nat) (den:List PySem.PyData->Res) (fl:FL):F1:=fun Γ=>(fl Γ).bind fun ps Γ'=>if ps.length=n then (match den (ps.map (·.d)) with
 | .ok p=>if ps.all (T.coer .leaf) then .ok p Γ' else if aW p.d then .ok ⟨.leaf,p.d⟩ Γ' else .ok ⟨.view,p.d⟩ Γ'
 | _=>.no) else .no
section
variable {K:Fg} {W:XW} {σ:St} {H:Hp} {Q:VK} {fl:FL}
theorem vo {n:Nat} {den:List PySem.PyData->Res} {E:XK} (h:tE K W (ah n den fl) σ H Q):gh (oS K n den) [] E (tA K W fl) σ H Q:=by
 obtain ⟨He,O,Fs,Γ,E0,h⟩:=h;refine ⟨He,O,Fs,Γ,E0,?_⟩
 unfold ah at h
 cases e:fl Γ with
 | er c Γ'=>rw [e] at h;exact h
 | no=>rw [e] at h;exact h
 | ok ps Γ1=>
  rw [e] at h;intro vs H1 Gs Fs1 A;have h:Wants K W He O Fs H σ Q (if ps.length=n then (match den (ps.map (·.d)) with | .ok p=>if ps.all (T.coer .leaf) then .ok p Γ1 else if aW p.d then .ok ⟨.leaf,p.d⟩ Γ1 else .ok ⟨.view,p.d⟩ Γ1 | _=>.no) else .no):=h
  by_cases hn:ps.length=n
  case neg=>rw [if_neg hn] at h;exact h.elim
  rw [if_pos hn] at h;have hl:(vs++[]).length=n:=by rw [append_nil,A.len1];exact hn
  cases ed:den (ps.map (·.d)) with
  | er c=>rw [ed] at h;exact h.elim
  | no=>rw [ed] at h;exact h.elim
  | ok p=>
   rw [ed] at h;have h:Wants K W He O Fs H σ Q (if ps.all (T.coer .leaf) then .ok p Γ1 else if aW p.d then .ok ⟨.leaf,p.d⟩ Γ1 else .ok ⟨.view,p.d⟩ Γ1):=h
   obtain ⟨n1,n2,n3⟩:=List.nodup_append.mp A.env.nd;obtain ⟨m1,m2,m3⟩:=List.nodup_append.mp n1;have newF:∀a∈Fs1.flatten,a∈Fs.flatten\/H a=none:=fun a ha=>A.new a (mem_append_right _ ha)
   cases hc:ps.all (T.coer .leaf) with
   | true=>
    rw [hc] at h;have h:Wants K W He O Fs H σ Q (.ok p Γ1):=h
    refine ⟨hl,O++Fs1.flatten,ps.map (·.d),A.env.dropL.nd,A.env.dropL.inH,?_,?_⟩
    ·rw [append_nil]
     refine ⟨A.reps.1,fun i v d h1 h2=>?_⟩
     rw [getElem?_map] at h2
     cases e2:ps[i]? with
     | none=>rw [e2] at h2;cases h2
     | some q=>
      rw [e2] at h2
      cases h2;have hi:=(List.getElem?_eq_some_iff.mp e2).1
      have e3:Gs[i]?=some (Gs[i]'(by rw [A.len2];exact hi)):=getElem?_eq_getElem _
      have o:=A.own i v q _ h1 e2 e3
      have o2:=o.coer (s:=.leaf) (O':=O++Fs1.flatten) (List.all_eq_true.mp hc q (mem_of_getElem? e2)) fI fun a ha z=>by
       exfalso
       have hG:=fG e3 ha
       rcases List.mem_append.mp z with y | y
       ·exact m3 a hG a y rfl
       ·exact n3 a (mem_append_left _ hG) a y rfl
      cases o2 with
      | leaf r=>exact r
    ·rw [ed]
     intro v H2 G r;refine h v H2 G Fs1 ⟨A.same.trans r.same,A.env.dropL.hide r.same r.nd r.fresh r.inH,fun a ha=>?_,by rw [append_assoc];exact r.own⟩
     rcases List.mem_append.mp ha with z | z
     ·exact .inr (A.same.free (r.fresh a z))
     ·exact newF a z
   | false=>
    rw [hc] at h;have h:Wants K W He O Fs H σ Q (if aW p.d then .ok ⟨.leaf,p.d⟩ Γ1 else .ok ⟨.view,p.d⟩ Γ1):=h
    refine ⟨hl,[],ps.map (·.d),nodup_nil,(fun _ z=>nomatch z),by rw [append_nil,og];exact A.reps,?_⟩
    rw [ed];intro v H2 G r
    cases hs:aW p.d with
    | true=>
     rw [hs] at h;exact Wants.scal h (r.own.rep.sc hs) (A.same.trans r.same) (A.env.dropL.grow r.same) (fun a ha=>ha) E0.ndO newF
    | false=>
     rw [hs] at h;have h:Wants K W He O Fs H σ Q (.ok ⟨.view,p.d⟩ Γ1):=h
     exact h v H2 [] Fs1 ⟨A.same.trans r.same,by simpa using A.env.dropL.grow r.same,by simpa using newF,.view r.own.rep⟩
end
theorem lJ:bootBuiltins "len"=some (.builtin "len"):=by decide +kernel
theorem C4:bootBuiltins "all"=some (.builtin "all"):=by decide +kernel
theorem t6:bootBuiltins "any"=some (.builtin "any"):=by decide +kernel
theorem C3:bootBuiltins "max"=some (.builtin "max"):=by decide +kernel
theorem t5:bootBuiltins "sorted"=some (.builtin "sorted"):=by decide +kernel
theorem jC:bootBuiltins "isinstance"=some (.builtin "isinstance"):=by decide +kernel
theorem xP:bootBuiltins "int"=some (.type "int"):=by decide +kernel
theorem w5:bootBuiltins "list"=some (.type "list"):=by decide +kernel
theorem EF:bootBuiltins "tuple"=some (.type "tuple"):=by decide +kernel
theorem Ao:bootBuiltins "bool"=some (.type "bool"):=by decide +kernel
theorem C1:bootBuiltins "str"=some (.type "str"):=by decide +kernel
section
variable {X:Cx} {W:XW} {a b c e:Expr} {es:List Expr} {pos:Pos} {fa fb fc:F1} {fl:FL} {ga gb:FB} {g1 g2:FS}
theorem Af {op:CmpOp} {r:R2} {g:PySem.PyData->PySem.PyData->Option PySem.PyData} (ho:OpR X (compareOp op) r) (hg:GOp X.K r g) (ha:PE X a (tE X.K W fa)) (hb:PE X b (tE X.K W fb)) (hm:behindInMarks op b=false:=by with_unfolding_all rfl) :
  PE X (.Compare a [op] [b] pos) (tE X.K W (ax g fa fb)):=bc (Fm ho ha hb hm) fun _ _ _=>e9 hg
theorem Aa {op:CmpOp} {r:R2} {g:PySem.PyData->PySem.PyData->Option PySem.PyData} (ho:OpR X (compareOp op) r) (hg:GOp X.K r g) (ha:PE X a (tE X.K W fa)) (hb:PE X b (tE X.K W fb)) (hm:behindInMarks op b=false:=by with_unfolding_all rfl) :
  PT X (.Compare a [op] [b] pos) (tT X.K W (aN aq (ax g fa fb))):=uf (nK ho ha hb hm) fun σ H QB=>u9 fun Q=>e9 hg
theorem tP {op op':CmpOp} {r r':R2} {g g':PySem.PyData->PySem.PyData->Option PySem.PyData} (ho:OpR X (compareOp op) r) (hg:GOp X.K r g) (ho':OpR X (compareOp op') r') (hg':GOp X.K r' g') (ha:PE X a (tE X.K W fa)) (hb:PE X b (tE X.K W fb)) (hc:PE X c (tE X.K W fc))
  (hm:lastMarks [op,op'] [b,c]=false:=by with_unfolding_all rfl):PE X (.Compare a [op,op'] [b,c] pos) (tE X.K W (xZ g g' fa fb fc)):=bc (sr ho ho' ha hb hc hm) fun _ _ _=>rJ hg hg'
theorem da_nil:PA X [] (tA X.K W af):=xQ fU fun _ _ _=>yQ
theorem da_cons (ha:PE X e (tE X.K W fa)) (hr:PA X es (tA X.K W fl)) (hs:starEach (e::es) X.env=(false,eval e X.env)::starEach es X.env:=by rfl):PA X (e::es) (tA X.K W (ab fa fl)):=xQ (dP ha hr hs) fun _ _ _=>vn
theorem oq {x:Str} {id:String} {r:List V->Hp->VK->Prop} {g:List PySem.PyData->Option PySem.PyData} {p:Pos} (hc:CallR X (.builtin id) r) (hg:GCall X.K r g) (hv:bootBuiltins x=some (.builtin id)) (hm:X.mg x=none) (ha:PA X (e::es) (tA X.K W fl)) (hG:Gl X x:=by rfl)
  (hn:x ≠ "__name__":=by decide) (hdb:(x==("__debug__":Str))=false:=by decide) (he:starEach (e::es) X.env=(false,eval e X.env)::starEach es X.env:=by rfl) (hpl:(backTo pos (starEach es X.env)).any (·.1)=false:=by rfl) :
  PE X (.Call (.Name x p) (e::es) [] pos) (tE X.K W (bb g fl)):=bc (xk hc hG hm hv ha hn hdb he hpl) fun _ _ _=>xy hg
theorem CP {x:Str} {id:String} {r:List V->Hp->VK->Prop} {g:List PySem.PyData->Option PySem.PyData} {p:Pos} (hc:CallR X (.type id) r) (hg:GCall X.K r g) (hv:bootBuiltins x=some (.type id)) (hm:X.mg x=none) (ha:PA X (e::es) (tA X.K W fl)) (hG:Gl X x:=by rfl)
  (hn:x ≠ "__name__":=by decide) (hdb:(x==("__debug__":Str))=false:=by decide) (he:starEach (e::es) X.env=(false,eval e X.env)::starEach es X.env:=by rfl) (hpl:(backTo pos (starEach es X.env)).any (·.1)=false:=by rfl) :
  PE X (.Call (.Name x p) (e::es) [] pos) (tE X.K W (bb g fl)):=bc (DH hc hG hm hv ha hn hdb he hpl) fun _ _ _=>xy hg
theorem qc {p:Pos} (hm:X.mg "list"=none) (ha:PE X e (tE X.K W fa)) (hG:Gl X "list":=by rfl) (hs:starEach [e] X.env=[(false,eval e X.env)]:=by rfl) :
  PE X (.Call (.Name "list" p) [e] [] pos) (tE X.K W (oE fa)):=bc (DH jA hG hm w5 (da_cons ha da_nil hs) (by decide) (by decide) hs rfl) fun _ _ _=>o7
theorem wC {f:Addr} {fd:FuncData} {ps:List Str} {k n:Nat} {den:List PySem.PyData->Res} {x:Str} {p:Pos} (F:cE X.prog X.w X.K X.mg X.base g7 k f fd ps (oS X.K n den)) (hr:Room k X.A) (hm:X.mg x=some (.ref f)) (hk:PySem.W.keepIn X.K (.ref f)=true)
  (hb:Binds X.K fd ps []) (ha:PA X (e::es) (tA X.K W fl)) (hg:Gl X x:=by rfl) (hdb:(x==("__debug__":Str))=false:=by decide) (he:starEach (e::es) X.env=(false,eval e X.env)::starEach es X.env:=by rfl)
  (hpl:(backTo pos (starEach es X.env)).any (·.1)=false:=by rfl):PE X (.Call (.Name x p) (e::es) [] pos) (tE X.K W (ah n den fl)):=bc (AR F hr hg hm hk hb .nil iN ha hdb he hpl) fun _ _ _=>vo
theorem CO {tg:Expr} {p:Pos} (hm:X.mg "range"=none) (ha:PA X [a] (tA X.K W fl)) (hg:Gl X "range":=by rfl) (hs:starEach [a] X.env=[(false,eval a X.env)]:=by rfl):PI X tg (.Call (.Name "range" p) [a] [] pos) (tI X.K W (cK fl)):=ug (Bz hg hm ha hs) fun _ _ _=>yV
theorem CM {tg:Expr} {p:Pos} (hm:X.mg "range"=none) (ha:PA X [a,b] (tA X.K W fl)) (hg:Gl X "range":=by rfl) (hs:starEach [a,b] X.env=[(false,eval a X.env),(false,eval b X.env)]:=by rfl) (hs2:starEach [b] X.env=[(false,eval b X.env)]:=by rfl) :
  PI X tg (.Call (.Name "range" p) [a,b] [] pos) (tI X.K W (vX fl)):=ug (pk hg hm ha hs hs2) fun _ _ _=>yU
def az:FB:=fun Γ=>.ok true Γ
theorem wB {scope:Scope} {x:Str} {px:Pos} {iter elt:Expr} {ifs:List Expr} {fi:FI} {fe:F1} {fc:FB} (s:Sh) (i:Nat) (S:cF X.N [i] X.env.scope scope) (hN:X.N.Nodup) (hi':PI X (.Name x px) iter (tI X.K W fi))
  (hc:∀cells C s₀ H₀ ex,PF (blk X scope cells C s₀ H₀ ex) ifs (tT X.K W0 fc)) (he:∀cells C s₀ H₀ ex,PE (blk X scope cells C s₀ H₀ ex) elt (tE X.K W0 fe))
  (hcalm:X.calm=true:=by rfl) (hx:X.N[i]?=some x:=by rfl) (hl:∀cells C s₀ H₀ ex,Loc (blk X scope cells C s₀ H₀ ex).env.scope x:=by first | exact fun _ _ _ _ _=>Or.inl rfl | exact fun _ _ _ _ _=>Or.inr rfl)
  (hf:∀cells C s₀ H₀ ex,(blk X scope cells C s₀ H₀ ex).fn x=true\/(blk X scope cells C s₀ H₀ ex).env.scope.names.lookup x=some .local:=by first | exact fun _ _ _ _ _=>Or.inr rfl | exact fun _ _ _ _ _=>Or.inl rfl)
  (hs:∀x,foldedSetIterable iter X.env x=pure x:=by intro _;rfl):PE X (.ListComp elt [⟨.Name x px,iter,ifs,0⟩] scope pos) (tE X.K W (ao s i fi fc fe)):=
 bc (AS S hcalm hi' (fun cells C s₀ H₀ ex=>jI (X:=blk X scope cells C s₀ H₀ ex) (i:=i) hN hx (hl cells C s₀ H₀ ex) (hf cells C s₀ H₀ ex)) hc he hs) fun _ _ _=>nH
theorem Ab (own:Bool) (i:Nat) {x:Str} {pos':Pos} (hN:X.N.Nodup) (ha:PE X a (tE X.K W fa)) (hi:X.N[i]?=some x:=by rfl) (hx:Loc X.env.scope x:=by first | exact Or.inl rfl | exact Or.inr rfl) (hs:swapsWith a (some (.Name x pos')) pos.line X.env=pure false:=by rfl)
  (hf:X.fn x=true\/X.env.scope.names.lookup x=some .local:=by first | exact .inl rfl | exact .inr rfl):PS X (.Assign [.Name x pos'] a pos) (tS X.K W (av own i fa)):=dH (uj hN hi hx ha hs hf) fun _ _ _=>rF
theorem mP (own:Bool) (j:Nat) {scope:Scope} {x y:Str} {px pos' spos:Pos} {iter elt:Expr} {ifs:List Expr} {fi:FI} {fe:F1} {fc:FB} (s:Sh) (i:Nat) (S:cF X.N [i] X.env.scope scope) (hN:X.N.Nodup) (hi':PI X (.Name x px) iter (tI X.K W fi))
  (hc:∀cells C s₀ H₀ ex,PF (blk X scope cells C s₀ H₀ ex) ifs (tT X.K W0 fc)) (he:∀cells C s₀ H₀ ex,PE (blk X scope cells C s₀ H₀ ex) elt (tE X.K W0 fe))
  (hsw:swapsWith (.ListComp elt [⟨.Name x px,iter,ifs,0⟩] scope pos) (some (.Name y pos')) spos.line X.env=pure true:=by rfl)
  (hy:X.N[j]?=some y:=by rfl) (hly:X.env.scope.names.lookup y=some .local:=by rfl)
  (hcalm:X.calm=true:=by rfl) (hx:X.N[i]?=some x:=by rfl) (hl:∀cells C s₀ H₀ ex,Loc (blk X scope cells C s₀ H₀ ex).env.scope x:=by first | exact fun _ _ _ _ _=>Or.inl rfl | exact fun _ _ _ _ _=>Or.inr rfl)
  (hf:∀cells C s₀ H₀ ex,(blk X scope cells C s₀ H₀ ex).fn x=true\/(blk X scope cells C s₀ H₀ ex).env.scope.names.lookup x=some .local:=by first | exact fun _ _ _ _ _=>Or.inr rfl | exact fun _ _ _ _ _=>Or.inl rfl)
  (hs:∀x,foldedSetIterable iter X.env x=pure x:=by intro _;rfl):PS X (.Assign [.Name y pos'] (.ListComp elt [⟨.Name x px,iter,ifs,0⟩] scope pos) spos) (tS X.K W (av own j (ao s i fi fc fe))):=
 dH (mr hN hy hly S hcalm hi' (fun cells C s₀ H₀ ex=>jI (X:=blk X scope cells C s₀ H₀ ex) (i:=i) hN hx (hl cells C s₀ H₀ ex) (hf cells C s₀ H₀ ex)) hc he hsw hs) fun D σ H h=>by
  have h2:fH (tE X.K W (ao s i fi fc fe)) (gName j) D σ H:=rF h
  exact nH h2
theorem pW (i:Nat) {x:Str} {p apos cpos:Pos} (ha:PE X a (tE X.K W fa)) (hN:X.N[i]?=some x:=by rfl) (hv:Bh X.env.scope x:=by first | exact Or.inl rfl | exact Or.inr (Or.inl rfl) | exact Or.inr (Or.inr rfl)) (hd:(x==("__debug__":Str))=false:=by decide)
  (hcd:(x==("__classdict__":Str))=false:=by decide) (hs:starEach [a] X.env=[(false,eval a X.env)]:=by rfl)
  (hbase:attributeBase (.Name x p) "append" X.env (eval (.Name x p) X.env)=eval (.Name x p) X.env:=by rfl) (hline:(apos.endLine==cpos.line)=true:=by rfl)
  (hfew:((backTo cpos (starEach [a] X.env)).all (fun x=>!x.1)&&(backToKw cpos (keywordEach [] X.env)).all (fun x=>x.1.isSome)
   && decide ([a].length+([]:List Keyword).length+(if ([]:List Keyword).isEmpty then 0 else 1)<30))=true:=by rfl)
  (hsw:swapsWith (.Call (.Attribute (.Name x p) "append" apos) [a] [] cpos) none pos.line X.env=pure false:=by rfl) :
  PS X (.Expr (.Call (.Attribute (.Name x p) "append" apos) [a] [] cpos) pos) (tS X.K W (dC i fa)):=
 dH (yf (kh PySem.F.plainAttrs_list PySem.F.slot_list_append PySem.F.type_list_append AW (qB hN hv hd hcd) (da_cons ha da_nil hs) hbase hfew hline hs rfl) hsw) fun _ _ _=>o8
theorem Ac (i:Nat) {x:Str} {px:Pos} {iter:Expr} {body:List Stmt} {fi:FI} {g:FS} (hp:PassesOwn (model X.prog X.w) X.A X.env X.xe) (hN:X.N.Nodup) (hi':PI X (.Name x px) iter (tI X.K W fi)) (hb:PSs X body (tS X.K W g)) (hcalm:X.calm=true:=by rfl)
  (hx:X.N[i]?=some x:=by rfl) (hl:Loc X.env.scope x:=by first | exact Or.inl rfl | exact Or.inr rfl) (hf:X.fn x=true\/X.env.scope.names.lookup x=some .local:=by first | exact .inl rfl | exact .inr rfl)
  (hs:∀x,foldedSetIterable iter X.env x=pure x:=by intro _;rfl):PS X (.For (.Name x px) iter body [] pos) (tS X.K W (cI i fi g)):=
 dH (qx hp hcalm hi' (jI hN hx hl hf) hb hs) fun _ _ _=>yX
end
structure Cp (X:Cx) (N gl:List Str) (vs cs ls lo gs:List Nat):Prop where
 hN:X.N=N
 nd:N.Nodup
 nm:∀x∈N,(x==("__debug__":Str))=false/\(x==("__classdict__":Str))=false
 ng:∀x∈gl,(x==("__debug__":Str))=false/\x ≠ "__name__"
 vis:∀(i:Nat) x,N[i]?=some x->vs.contains i=true->Bh X.env.scope x
 cel:∀(i:Nat) x,N[i]?=some x->cs.contains i=true->X.env.scope.names.lookup x=some .cell\/X.env.scope.names.lookup x=some .free
 loc:∀(i:Nat) x,N[i]?=some x->ls.contains i=true->Loc X.env.scope x/\(X.fn x=true\/X.env.scope.names.lookup x=some .local)
 loo:∀(i:Nat) x,N[i]?=some x->lo.contains i=true->X.env.scope.names.lookup x=some .local
 glb:∀(j:Nat) x,gl[j]?=some x->gs.contains j=true->Gl X x
 calm:X.calm=true
 kind:X.env.scope.kind=.function
def xa (sc:Scope) (ks:List NameKind) (o:Option Str):Bool:=match o with
 | some x=>(match sc.names.lookup x with
  | some k=>ks.any fun z=>decide (z=k)
  | none=>false)
 | none=>true
def gR (N gl:List Str) (vs cs ls lo gs:List Nat) (sc:Scope):Bool:=
 decide (sc.kind=.function)&&(vs.all fun i=>xa sc [.local,.cell,.free] N[i]?)&&(cs.all fun i=>xa sc [.cell,.free] N[i]?)&&(ls.all fun i=>xa sc [.local,.cell] N[i]?)&&(lo.all fun i=>xa sc [.local] N[i]?)&&(gs.all fun j=>xa sc [.globalImplicit] gl[j]?)
def pH (N gl:List Str):Bool:=decide N.Nodup&&(N.all fun x=>!(x==("__debug__":Str))&&!(x==("__classdict__":Str)))&&(gl.all fun x=>!(x==("__debug__":Str))&&!decide (x = "__name__"))
theorem A5 {sc:Scope} {ks:List NameKind} {x:Str} (h:xa sc ks (some x)=true):∃k∈ks,sc.names.lookup x=some k:=by
 unfold xa at h;simp only at h
 split at h
 ·rename_i k e
  simp only [any_eq_true,decide_eq_true_eq] at h
  obtain ⟨z,hz,rfl⟩:=h;exact ⟨z,hz,e⟩
 ·cases h
theorem Bq {P:Nat->Bool} {l:List Nat} {i:Nat} (h:l.all P=true) (hi:l.contains i=true):P i=true:=by
 rw [all_eq_true] at h;exact h i (by simpa using hi)
structure Jz (N gl:List Str) (vs cs ls lo gs:List Nat) (sc:Scope):Prop where
 kind:sc.kind=.function
 vis:∀(i:Nat) x,N[i]?=some x->vs.contains i=true->Bh sc x
 cel:∀(i:Nat) x,N[i]?=some x->cs.contains i=true->sc.names.lookup x=some .cell\/sc.names.lookup x=some .free
 loc:∀(i:Nat) x,N[i]?=some x->ls.contains i=true->Loc sc x
 loo:∀(i:Nat) x,N[i]?=some x->lo.contains i=true->sc.names.lookup x=some .local
 glb:∀(j:Nat) x,gl[j]?=some x->gs.contains j=true->sc.names.lookup x=some .globalImplicit
theorem ER {N gl:List Str} {vs cs ls lo gs:List Nat} {sc:Scope} (h:gR N gl vs cs ls lo gs sc=true):Jz N gl vs cs ls lo gs sc:=by
 unfold gR at h;simp only [Bool.and_eq_true,decide_eq_true_eq] at h
 obtain ⟨⟨⟨⟨⟨h0,h1⟩,h2⟩,h3⟩,h4⟩,h5⟩:=h;refine ⟨h0,fun i x e hi=>?_,fun i x e hi=>?_,fun i x e hi=>?_,fun i x e hi=>?_,fun i x e hi=>?_⟩
 ·have q:=Bq h1 hi
  rw [e] at q;obtain ⟨k,hk,q⟩:=A5 q;simp only [mem_cons,not_mem_nil,or_false] at hk
  rcases hk with rfl | rfl | rfl
  ·exact .inl q
  ·exact .inr (.inl q)
  ·exact .inr (.inr q)
 ·have q:=Bq h2 hi
  rw [e] at q;obtain ⟨k,hk,q⟩:=A5 q;simp only [mem_cons,not_mem_nil,or_false] at hk
  rcases hk with rfl | rfl
  ·exact .inl q
  ·exact .inr q
 ·have q:=Bq h3 hi
  rw [e] at q;obtain ⟨k,hk,q⟩:=A5 q;simp only [mem_cons,not_mem_nil,or_false] at hk
  rcases hk with rfl | rfl
  ·exact .inl q
  ·exact .inr q
 ·have q:=Bq h4 hi
  rw [e] at q;obtain ⟨k,hk,q⟩:=A5 q;simp only [mem_cons,not_mem_nil,or_false] at hk
  rw [hk] at q;exact q
 ·have q:=Bq h5 hi
  rw [e] at q;obtain ⟨k,hk,q⟩:=A5 q;simp only [mem_cons,not_mem_nil,or_false] at hk
  rw [hk] at q;exact q
theorem sE {N gl:List Str} (h:pH N gl=true):N.Nodup/\(∀x∈N,(x==("__debug__":Str))=false/\(x==("__classdict__":Str))=false)/\∀x∈gl,(x==("__debug__":Str))=false/\x ≠ "__name__":=by
 unfold pH at h;simp only [Bool.and_eq_true,decide_eq_true_eq,all_eq_true,Bool.not_eq_true',decide_eq_false_iff_not] at h
 exact ⟨h.1.1,h.1.2,h.2⟩
theorem Cp.fn {P:Program} {w:World} {K:Fg} {mg:Str->Option Value} {base:Heap} {N gl:List Str} {vs cs ls lo gs:List Nat} {qual:Str} {sc:Scope} {f:Addr} {cd:Value} {A:Around} {outer:List Env} {s:Shared} {H:Hp} {E:XK}
  (h:gR N gl vs cs ls lo gs sc=true) (h':pH N gl=true):Cp (jy g7 P w K mg base N qual sc f cd A outer s H E).nox N gl vs cs ls lo gs:=by
 obtain ⟨a,b,c⟩:=sE h'
 have q:=ER h
 exact ⟨rfl,a,b,c,q.vis,q.cel,fun i x e hi=>⟨q.loc i x e hi,.inl rfl⟩,q.loo,q.glb,rfl,q.kind⟩
theorem xw {env:Env} {x:Str} {k:NameKind}:∀{names:List (Str×NameKind)},names.lookup x=some k ->
  (names.map fun (n,k)=>if (k==NameKind.free&&env.scope.kind==.function&&env.kindOf n==some .cell) then (n,NameKind.cell) else (n,k)).lookup x=some k \/
  (k=.free/\(names.map fun (n,k)=>if (k==NameKind.free&&env.scope.kind==.function&&env.kindOf n==some .cell) then (n,NameKind.cell) else (n,k)).lookup x=some .cell)
 | [],h=>by simp at h
 | (n,k')::r,h=>by
  have ih:=@xw env x k r
  rw [map_cons];show List.lookup x ((if (k'==NameKind.free&&env.scope.kind==.function&&env.kindOf n==some .cell)=true then (n,NameKind.cell) else (n,k'))::_)=_\/_/\List.lookup x ((if (k'==NameKind.free&&env.scope.kind==.function&&env.kindOf n==some .cell)=true then (n,NameKind.cell) else (n,k'))::_)=_
  by_cases hc:(k'==NameKind.free&&env.scope.kind==.function&&env.kindOf n==some .cell)=true
  ·rw [if_pos hc]
   cases hx:x==n with
   | true=>
    simp only [lookup_cons,hx] at h ⊢
    cases h;simp only [Bool.and_eq_true,beq_iff_eq] at hc
    exact .inr ⟨hc.1.1,trivial⟩
   | false=>
    simp only [lookup_cons,hx] at h ⊢
    exact ih h
  ·rw [if_neg hc]
   cases hx:x==n with
   | true=>
    simp only [lookup_cons,hx] at h ⊢
    cases h;exact .inl rfl
   | false=>
    simp only [lookup_cons,hx] at h ⊢
    exact ih h
theorem uC {scope:Scope} {env:Env} {x:Str} {k:NameKind} (h:scope.names.lookup x=some k):(relabel scope env).names.lookup x=some k\/(k=.free/\(relabel scope env).names.lookup x=some .cell):=xw h
theorem Cp.blk {X:Cx} {N gl:List Str} {vs cs ls lo gs vs' cs' ls' lo' gs':List Nat} {scope:Scope} (S:Cp X N gl vs cs ls lo gs) (h:gR N gl vs' cs' ls' lo' gs' scope=true) (cells C s₀ H₀ ex) :
  Cp (blk X scope cells C s₀ H₀ ex) N gl vs' cs' ls' lo' gs':=by
 have q:=ER h
 refine ⟨S.hN,S.nd,S.nm,S.ng,fun i x e hi=>?_,fun i x e hi=>?_,fun i x e hi=>?_,fun i x e hi=>?_,fun i x e hi=>?_,S.calm,q.kind⟩
 ·show Bh (relabel scope X.env) x
  rcases q.vis i x e hi with z | z | z
  ·rcases uC (env:=X.env) z with y | ⟨y,_⟩
   ·exact .inl y
   ·cases y
  ·rcases uC (env:=X.env) z with y | ⟨y,_⟩
   ·exact .inr (.inl y)
   ·cases y
  ·rcases uC (env:=X.env) z with y | ⟨_,y⟩
   ·exact .inr (.inr y)
   ·exact .inr (.inl y)
 ·show (relabel scope X.env).names.lookup x=some .cell\/(relabel scope X.env).names.lookup x=some .free
  rcases q.cel i x e hi with z | z
  ·rcases uC (env:=X.env) z with y | ⟨y,_⟩
   ·exact .inl y
   ·cases y
  ·rcases uC (env:=X.env) z with y | ⟨_,y⟩
   ·exact .inr y
   ·exact .inl y
 ·show Loc (relabel scope X.env) x/\((scope.names.any fun y=>y.1==x&&y.2==.cell)=true\/(relabel scope X.env).names.lookup x=some .local)
  rcases q.loc i x e hi with z | z
  ·rcases uC (env:=X.env) z with y | ⟨y,_⟩
   ·exact ⟨.inl y,.inr y⟩
   ·cases y
  ·rcases uC (env:=X.env) z with y | ⟨y,_⟩
   ·refine ⟨.inr y,.inl ?_⟩
    rw [any_eq_true];exact ⟨(x,.cell),gG z,by simp⟩
   ·cases y
 ·show (relabel scope X.env).names.lookup x=some .local
  rcases uC (env:=X.env) (q.loo i x e hi) with y | ⟨y,_⟩
  ·exact y
  ·cases y
 ·show (relabel scope X.env).names.lookup x=some .globalImplicit
  rcases uC (env:=X.env) (q.glb i x e hi) with y | ⟨y,_⟩
  ·exact y
  ·cases y
def iZ (N:List Str) (i:Nat) (cs:List Nat) (sc:Scope):Bool:=
 decide (sc.kind=.function)&&(sc.names.all fun p=>!decide (p.2=.free)||cs.any fun j=>decide (N[j]?=some p.1)) &&
 ((List.range N.length).all fun j=>j==i||(sc.names.all fun p=>!decide (some p.1=N[j]?)||(!decide (p.2=.local)&&!decide (p.2=.cell)))) &&
 (sc.names.all fun p=>!decide (p.2=.local)||decide (sc.names.lookup p.1=some .local)) &&
 (sc.names.all fun p=>!decide (p.2=.free)||sc.names.all fun q=>!decide (q.1=p.1)||!decide (q.2=.cell))
theorem lC {X:Cx} {N gl:List Str} {vs cs ls lo gs:List Nat} {scope:Scope} {i:Nat} (S:Cp X N gl vs cs ls lo gs) (h:iZ N i cs scope=true):cF X.N [i] X.env.scope scope:=by
 unfold iZ at h;simp only [Bool.and_eq_true,decide_eq_true_eq,all_eq_true,Bool.or_eq_true,Bool.not_eq_true',decide_eq_false_iff_not,any_eq_true,mem_range,beq_iff_eq] at h
 obtain ⟨⟨⟨⟨h0,h1⟩,h2⟩,h3⟩,h4⟩:=h;refine ⟨h0,fun n hn=>?_,fun j x e hj=>?_,fun x hx e=>?_,fun n hn hc=>?_⟩
 ·rcases h1 _ hn with z | ⟨j,hj,e⟩
  ·exact absurd rfl z
  ·exact S.cel j n e (by simpa using hj)
 ·rw [S.hN] at e
  rcases h2 j (List.getElem?_eq_some_iff.mp e).1 with z | z
  ·rw [z];exact List.mem_singleton.mpr rfl
  ·exfalso
   rcases hj with y | y
   ·rcases z _ y with w | w
    ·exact w e.symm
    ·exact w.1 rfl
   ·rcases z _ y with w | w
    ·exact w e.symm
    ·exact w.2 rfl
 ·rcases h3 x hx with z | z
  ·exact absurd e z
  ·exact z
 ·rcases h4 _ hn with z | z
  ·exact z rfl
  ·rcases z _ hc with w | w
   ·exact w rfl
   ·exact w rfl
structure Fx (X Y:Cx):Prop where
 prog:Y.prog=X.prog
 w:Y.w=X.w
 K:Y.K=X.K
 mg:Y.mg=X.mg
 base:Y.base=X.base
 A:Y.A=X.A
def Rm (X:Cx):Prop:=X.A.units+64<cLine
def Bi (X:Cx) (x:Str) (n:Nat) (den:List PySem.PyData->Res):Prop:=∃(k:Nat) (f:Addr) (fd:FuncData) (ps:List Str),cE X.prog X.w X.K X.mg X.base g7 k f fd ps (oS X.K n den)/\Room k X.A/\X.mg x=some (.ref f)/\PySem.W.keepIn X.K (.ref f)=true/\Binds X.K fd ps []
def Con (X:Cx) (x:Str) (d:PySem.PyData):Prop:=∃u v,X.mg x=some u/\RelV v u/\∀H,Rep X.K H v d
section
variable {X:Cx} {N gl:List Str} {vs cs ls lo gs:List Nat} {W:XW} {a b c e:Expr} {es:List Expr} {pos p:Pos} {fa fb fc:F1} {fl:FL} {ga gb:FB} {g1 g2:FS}
theorem cm (S:Cp X N gl vs cs ls lo gs) (i:Nat) {x:Str} (hN:N[i]?=some x) (hv:vs.contains i=true):PE X (.Name x pos) (tE X.K W (aV i)):=by
 have m:=S.nm x (mem_of_getElem? hN)
 exact wz (qB (by rw [S.hN];exact hN) (S.vis i x hN hv) m.1 m.2)
theorem Cp.g (S:Cp X N gl vs cs ls lo gs) {j:Nat} {x:Str} (hj:gl[j]?=some x) (hg:gs.contains j=true):Gl X x/\(x==("__debug__":Str))=false/\x ≠ "__name__":=
 ⟨S.glb j x hj hg,S.ng x (mem_of_getElem? hj)⟩
def B5:R2:=fun x y H Q=>mq (fun i j=>.bl (decide (i<j))) x y H Q\/∃i j,x=.str i/\y=.str j/\Q (.bl (decide (i.cps.toList<j.cps.toList))) H
theorem Cg:OpR X (compareOp .Lt) B5:=op_lt.or pw
def zS:PySem.PyData->PySem.PyData->Option PySem.PyData
 | .str i,.str j=>some (.bool (!decide (i.cps.toList<j.cps.toList)))
 | _,_=>none
abbrev mL:PySem.PyData->PySem.PyData->Option PySem.PyData:=fun a b=>(Jn a b).or (zS a b)
def y4:R2:=fun x y H Q=>mq (fun i j=>.bl (decide (j<=i))) x y H Q\/∃i j,x=.str i/\y=.str j/\Q (.bl (!decide (i.cps.toList<j.cps.toList))) H
theorem pA:OpR X (compareOp .GtE) (fun x y H Q=>∃i j,x=.str i/\y=.str j/\Q (.bl (!decide (i.cps.toList<j.cps.toList))) H):=by
 intro pins s σ H x y v u Q I rx ry h;obtain ⟨i,j,rfl,rfl,q⟩:=h;obtain ⟨t,rfl⟩:=rx;obtain ⟨t',rfl⟩:=ry;exact PySem.P.ge_str (tF I q rfl)
theorem Ci:OpR X (compareOp .GtE) y4:=op_ge.or pA
theorem v5 {K:Fg}:GOp K (fun x y H Q=>∃i j,x=.str i/\y=.str j/\Q (.bl (!decide (i.cps.toList<j.cps.toList))) H) zS:=by
 intro x y H Q a b d ra rb e k
 cases ra<;>cases rb<;>simp only [zS] at e<;>try cases e
 rename_i i j;exact ⟨i,j,rfl,rfl,k _ (.bl _)⟩
theorem zN {K:Fg}:GOp K y4 mL:=(AF fun _ _=>.bl _).or v5
structure Ck (X:Cx) (op:CmpOp) (r:R2) (g:PySem.PyData->PySem.PyData->Option PySem.PyData):Prop where
 o:OpR X (compareOp op) r
 g:GOp X.K r g
theorem vq (R:Rm X):Ck X .Lt B5 lP:=⟨Cg,zL⟩
theorem G0 (R:Rm X):Ck X .LtE (mq fun i j=>.bl (decide (i<=j))) El:=⟨Ce,AF fun _ _=>.bl _⟩
theorem vt (R:Rm X):Ck X .Gt (mq fun i j=>.bl (decide (j<i))) lQ:=⟨xC,AF fun _ _=>.bl _⟩
theorem G4 (R:Rm X):Ck X .GtE y4 mL:=⟨Ci,zN⟩
theorem kc (R:Rm X):Ck X .Eq (ka X.K false) bL:=⟨EZ R,zO⟩
theorem kb (R:Rm X):Ck X .NotEq (ka X.K true) dS:=⟨zl R,zK⟩
theorem zb (R:Rm X):Ck X .In (y3 X.K false) (cA false):=⟨zp R,zM⟩
theorem ce {op:CmpOp} {r:R2} {g:PySem.PyData->PySem.PyData->Option PySem.PyData} (k:Ck X op r g) (ha:PE X a (tE X.K W fa)) (hb:PE X b (tE X.K W fb)) (hm:behindInMarks op b=false):PE X (.Compare a [op] [b] pos) (tE X.K W (ax g fa fb)):=Af k.o k.g ha hb hm
theorem ct {op:CmpOp} {r:R2} {g:PySem.PyData->PySem.PyData->Option PySem.PyData} (k:Ck X op r g) (ha:PE X a (tE X.K W fa)) (hb:PE X b (tE X.K W fb)) (hm:behindInMarks op b=false):PT X (.Compare a [op] [b] pos) (tT X.K W (aN aq (ax g fa fb))):=Aa k.o k.g ha hb hm
abbrev uB (X:Cx) (N gl:List Str) (vs cs ls lo gs:List Nat) (R:Cx->Prop):Prop:=∀Y:Cx,Cp Y N gl vs cs ls lo gs->Fx X Y->R Y
theorem co {scope:Scope} {x:Str} {px:Pos} {iter elt:Expr} {ifs:List Expr} {fi:FI} {fe:F1} {fc:FB} {vs' cs' lo' gs':List Nat} (S:Cp X N gl vs cs ls lo gs) (s:Sh) (i:Nat) (hx:N[i]?=some x) (h1:iZ N i cs scope=true) (h2:gR N gl vs' cs' [i] lo' gs' scope=true)
  (hi':PI X (.Name x px) iter (tI X.K W fi)) (hc:uB X N gl vs' cs' [i] lo' gs' fun Y=>PF Y ifs (tT Y.K W0 fc)) (he:uB X N gl vs' cs' [i] lo' gs' fun Y=>PE Y elt (tE Y.K W0 fe)) (hs:∀x,foldedSetIterable iter X.env x=pure x) :
  PE X (.ListComp elt [⟨.Name x px,iter,ifs,0⟩] scope pos) (tE X.K W (ao s i fi fc fe)):=by
 have B:=fun cells C s₀ H₀ ex=>S.blk h2 cells C s₀ H₀ ex
 have L:=fun cells C s₀ H₀ ex=>(B cells C s₀ H₀ ex).loc i x hx (by simp)
 exact wB (X:=X) s i (lC S h1) (by rw [S.hN];exact S.nd) hi' (fun cells C s₀ H₀ ex=>hc _ (B cells C s₀ H₀ ex) ⟨rfl,rfl,rfl,rfl,rfl,rfl⟩) (fun cells C s₀ H₀ ex=>he _ (B cells C s₀ H₀ ex) ⟨rfl,rfl,rfl,rfl,rfl,rfl⟩)
  S.calm (by rw [S.hN];exact hx) (fun cells C s₀ H₀ ex=>(L cells C s₀ H₀ ex).1) (fun cells C s₀ H₀ ex=>(L cells C s₀ H₀ ex).2) hs
theorem mh {elt:Expr} {gens:List Comprehension} {scope:Scope} {y:Str} {pos':Pos} {line:Nat} (hk:X.env.scope.kind=.function) (hy:X.env.scope.names.lookup y=some .local) (hl:(pos'.line==pos.line)=true)
  (hn:(scope.names.any fun (n,k)=>n==y&&(k==NameKind.local||k==NameKind.cell))=false):swapsWith (.ListComp elt gens scope pos) (some (.Name y pos')) line X.env=pure true:=by
 have e1:(X.env.blockKind==ScopeKind.function)=true:=by unfold Env.blockKind;rw [hk];rfl
 have e2:(X.env.kindOf y==some NameKind.local)=true:=by unfold Env.kindOf;rw [hy];rfl
 show (pure (X.env.blockKind==.function&&X.env.kindOf y==some .local&&pos'.line==pos.line&&!(scope.names.any fun (n,k)=>n==y&&(k==NameKind.local||k==NameKind.cell))):Sem Bool)=pure true
 rw [e1,e2,hl,hn];rfl
theorem cs_append (S:Cp X N gl vs cs ls lo gs) (i:Nat) {x:Str} {apos cpos:Pos} (hi:N[i]?=some x) (hv:vs.contains i=true) (ha:PE X a (tE X.K W fa)) (hs:starEach [a] X.env=[(false,eval a X.env)])
  (hbase:attributeBase (.Name x p) "append" X.env (eval (.Name x p) X.env)=eval (.Name x p) X.env) (hline:(apos.endLine==cpos.line)=true)
  (hfew:((backTo cpos (starEach [a] X.env)).all (fun x=>!x.1)&&(backToKw cpos (keywordEach [] X.env)).all (fun x=>x.1.isSome)
   && decide ([a].length+([]:List Keyword).length+(if ([]:List Keyword).isEmpty then 0 else 1)<30))=true)
  (hsw:swapsWith (.Call (.Attribute (.Name x p) "append" apos) [a] [] cpos) none pos.line X.env=pure false) :
  PS X (.Expr (.Call (.Attribute (.Name x p) "append" apos) [a] [] cpos) pos) (tS X.K W (dC i fa)):=
 pW i ha (by rw [S.hN];exact hi) (S.vis i x hi hv) (S.nm x (mem_of_getElem? hi)).1 (S.nm x (mem_of_getElem? hi)).2 hs hbase hline hfew hsw
end
def eU (g:PySem.PyData->Option PySem.PyData) (fa:F1):F1:=aR fa fun p Γ=>match g p.d with
 | some d=>.ok ⟨.leaf,d⟩ Γ
 | none=>.no
def CI:PySem.PyData->Option PySem.PyData
 | .int i=>some (.int (-i))
 | _=>none
def EJ:Option (Option PV)->Bool
 | some (some ⟨.lst .leaf,.list _⟩)=>true
 | _=>false
def Gi (i:Nat) (p q:PV) (Γ:Ev):OutS:=match Γ[i]? with
 | some (some ⟨.lst .leaf,.list ds⟩)=>(match q.d with
  | .int k=>(match dn ds.length k with
   | some j=>if T.coer .leaf p then .nx (Γ.set i (some ⟨.lst .leaf,.list (ds.set j p.d)⟩)) else .no
   | none=>.no)
  | _=>.no)
 | _=>.no
def BV (i:Nat) (fv fk:F1):FS:=fun Γ=>if EJ Γ[i]? then g6 fv (fun p=>g6 fk (Gi i p)) Γ else .no
def Gn (i:Nat) (g:FS):FS:=fun Γ=>match Γ[i]? with
 | some (some p)=>g (Γ.set i (some ⟨.leaf,p.d⟩))
 | _=>.no
def xW (n:Nat) (ss:List Sh) (ds:List PySem.PyData):Ev:=(ss.zip ds).map (fun x=>some ⟨x.1,x.2⟩)++List.replicate (n-ds.length) none
def wy (n:Nat) (ss:List Sh) (g:FS) (ds:List PySem.PyData):Res:=match g (xW n ss ds) with
 | .nx _=>.ok ⟨.leaf,.none⟩
 | .rt p=>.ok p
 | .er c _=>.er c
 | _=>.no
section
variable {K:Fg} {W:XW} {σ:St} {H:Hp} {Q:VK} {D:bS} {fa fb:F1} {fl:FL}
theorem Fy:∀{Fs:List (List Addr)},(∀F∈Fs,F=[])->Fs.flatten=[]
 | [],_=>rfl
 | F::r,h=>by rw [flatten_cons,h F mem_cons_self,Fy fun G hG=>h G (mem_cons_of_mem _ hG)];rfl
theorem Own.leaves {O:List Addr} {G:List Addr} {v:V} {ds:List PySem.PyData} (h:Own K O H (.lst .leaf) G v (.list ds)):∃l vs,v=.ref l/\G=[l]/\H l=some (.lst vs)/\vs.length=ds.length/\∀(j:Nat) u d,vs[j]?=some u->ds[j]?=some d->Rep K (bA H O) u d:=by
 cases h with
 | @lst _ l vs _ Fs hsv hp hl hf nd q=>
  have hF:∀F∈Fs,F=[]:=fun F hF=>by
   obtain ⟨j,hj,e⟩:=getElem_of_mem hF;have o:=q j (vs[j]'(by omega)) (ds[j]'(by omega)) F (getElem?_eq_getElem _) (getElem?_eq_getElem _) (by rw [getElem?_eq_getElem hj,e])
   cases o;rfl
  refine ⟨l,vs,rfl,by rw [Fy hF],hp,hl,fun j u d h1 h2=>?_⟩
  have hj:=(List.getElem?_eq_some_iff.mp h2).1
  have o:=q j u d (Fs[j]'(by omega)) h1 h2 (getElem?_eq_getElem _)
  generalize Fs[j]'(by omega)=F at o
  cases o with
  | leaf r=>exact r
theorem Own.mkLeaves {O:List Addr} {l:Addr} {vs:List V} {ds:List PySem.PyData} (hp:H l=some (.lst vs)) (hl:vs.length=ds.length) (q:∀(j:Nat) u d,vs[j]?=some u->ds[j]?=some d->Rep K (bA H O) u d):Own K O H (.lst .leaf) [l] (.ref l) (.list ds):=by
 have hF:(List.replicate ds.length ([]:List Addr)).flatten=[]:=Fy fun F hF=>(List.mem_replicate.mp hF).2
 have o:Own K O H (.lst .leaf) (l::(List.replicate ds.length ([]:List Addr)).flatten) (.ref l) (.list ds):=by
  refine .lst rfl hp hl (by simp) (by rw [hF];simp) fun j u d F h1 h2 h3=>?_
  have:F=[]:=(List.mem_replicate.mp (mem_of_getElem? h3)).2
  subst this;exact .leaf (q j u d h1 h2)
 rw [hF] at o;exact o
end
def BN (K:Fg) (ss:List Sh) (den:List PySem.PyData->Res):Sp:=fun vs H Q _=>vs.length=ss.length/\∃(O:List Addr) (Gs:List (List Addr)) (ds:List PySem.PyData),(Gs.flatten++O).Nodup/\(∀a∈Gs.flatten++O,H a≠none)/\Gs.length=ss.length/\ds.length=ss.length/\(∀s∈ss,s.isView=false) /\
 (∀(i:Nat) v d G s,vs[i]?=some v->ds[i]?=some d->Gs[i]?=some G->ss[i]?=some s->Own K (Gs.flatten++O) H s G v d)/\match den ds with
 | .ok p=>∀v H' G,RetOk K (bA H Gs.flatten) O p v H' G->Q v H'
 | .er _=>False
 | .no=>False
section
variable {P:Program} {w:World} {K:Fg} {mg:Str->Option Value} {base:Heap}
theorem mM {N:List Str} {H:Hp} {O:List Addr} {Gs:List (List Addr)} {ss:List Sh} {vs:List V} {ds:List PySem.PyData} (hn:ss.length<=N.length) (hv:vs.length=ss.length) (hG:Gs.length=ss.length) (hd:ds.length=ss.length) (nd:(Gs.flatten++O).Nodup) (inH:∀a∈Gs.flatten++O,H a≠none) (nv:∀s∈ss,s.isView=false)
  (ow:∀(i:Nat) v d G s,vs[i]?=some v->ds[i]?=some d->Gs[i]?=some G->ss[i]?=some s->Own K (Gs.flatten++O) H s G v d) :
  EnvOk K (bA H Gs.flatten) O (Gs++List.replicate (N.length-ss.length) []) H (L2.start N vs) (xW N.length ss ds):=by
 have fl:(Gs++List.replicate (N.length-ss.length) ([]:List Addr)).flatten=Gs.flatten:=by simp
 have pm:(O++Gs.flatten).Perm (Gs.flatten++O):=perm_append_comm
 refine ⟨by simp [L2.start,xW,hd,hv],by simp [xW,hd,hG],hid_le,by rw [fl];exact pm.nodup_iff.mpr nd,fun a ha=>inH a (by rw [fl] at ha;exact pm.mem_iff.mp ha),fun a ha=>by rw [fl] at ha;unfold bA;rw [if_pos ha],fun i p hp=>?_⟩
 unfold xW at hp;have hzl:((ss.zip ds).map (fun x=>some (⟨x.1,x.2⟩:PV))).length=ss.length:=by simp [hd]
 by_cases hi:i<ss.length
 ·rw [getElem?_append_left (by rw [hzl];exact hi),getElem?_map] at hp
  have hz:(ss.zip ds)[i]?=some (ss[i]'hi,ds[i]'(by omega)):=by
   rw [getElem?_eq_getElem (by simp;omega),List.getElem_zip]
  rw [hz] at hp
  cases hp;refine ⟨nv _ (getElem_mem _),vs[i]'(by omega),Gs[i]'(by omega),?_,?_,?_⟩
  ·unfold L2.start
   rw [getElem?_append_left (by simp;omega),getElem?_map,getElem?_eq_getElem (by omega)]
   rfl
  ·rw [getElem?_append_left (by omega),getElem?_eq_getElem]
  ·refine (ow i _ _ _ _ (getElem?_eq_getElem _) (getElem?_eq_getElem (by omega)) (getElem?_eq_getElem (by omega)) (getElem?_eq_getElem hi)).perm fun a ha=>?_
   rw [fl] at ha;exact pm.mem_iff.mp ha
 ·rw [getElem?_append_right (by rw [hzl];omega),getElem?_replicate] at hp
  split at hp<;>cases hp
theorem wm {x qual:Str} {st:Stmt} {f:Addr} {fd:FuncData} {N ps:List Str} {k:Nat} {g:FS} {ss:List Sh} (F:Fun K x qual st f fd) (S:bB N ps (cP st)) (hss:ss.length=ps.length)
  (hb:∀(cdv:Value) (A:Around) (outer:List Env) (s:Shared) (H:Hp) (E:XK),Room k (A.deeper (envOfC qual (cP st) s.heap.objs.size f cdv)) ->
   PSs (jy g7 P w K mg base N qual (cP st) f cdv A outer s H E).nox (jG st) (tS K W0 g)):cE P w K mg base g7 (k+1) f fd ps (BN K ss (wy N.length ss g)):=by
 have hpl:ps.length<=N.length:=by have:=congrArg List.length S.pre;rw [length_take] at this;omega
 refine F.ok S (fun vs H Q E h=>by rw [h.1];exact hss) (fun cdv A outer s H vs Q E hr h=>⟨_,hb cdv A outer s H E hr,?_⟩)
 obtain ⟨hl,O,Gs,ds,nd,inH,hG,hd,nv,ow,w⟩:=h;refine ⟨_,O,_,xW N.length ss ds,mM (by omega) hl hG hd nd inH nv ow,?_⟩
 unfold wy at w
 cases e:g (xW N.length ss ds) with
 | nx Γ'=>
  rw [e] at w;exact fun σ' H' Fs' E'=>w .non H' [] ⟨E'.same,(fun _ z=>nomatch z),(fun _ z=>nomatch z),nodup_nil,.leaf .non,rfl⟩
 | rt p=>rw [e] at w;exact w
 | bk Γ'=>rw [e] at w;exact w.elim
 | ct Γ'=>rw [e] at w;exact w.elim
 | er c Γ'=>rw [e] at w;exact w.elim
 | no=>rw [e] at w;exact w.elim
end
theorem Own.step {K:Fg} {O O' M:List Addr} {H H':Hp} {s:Sh} {G:List Addr} {v:V} {d:PySem.PyData} (h:Own K O H s G v d) (hs:s.isView=false) (e:Same (bA H M) H') (hM:∀a∈M,a∈O) (hG:∀a∈G,a∉M) (hO:∀a∈O',a∈O\/bA H M a=none):Own K O' H' s G v d:=by
 induction h with
 | view r=>cases hs
 | leaf r=>
  refine .leaf (r.mono fun b o q=>?_)
  have hb:b∉O:=fun z=>by unfold bA at q;rw [if_pos z] at q;cases q
  have q1:H b=some o:=hid_le b o q
  have q2:bA H M b=some o:=jc q1 fun z=>hb (hM b z)
  exact jc (e b o q2) fun z=>(hO b z).elim hb fun y=>by rw [q2] at y;cases y
 | lst hv hp hl hf nd q ih=>exact .lst hv (e _ _ (jc hp (hG _ mem_cons_self))) hl hf nd fun i v d F h1 h2 h3=>ih i v d F h1 h2 h3 hv fun a ha=>hG a (mem_cons_of_mem _ (fG h3 ha))
 | @tup ss p vs ds Fs hv hp hn hl hf hs' nd q ih=>
  have q2:bA H M p=some (.tup vs):=jc hp fun z=>hn (hM _ z)
  exact .tup hv (e _ _ q2) (fun z=>(hO _ z).elim hn fun y=>by rw [q2] at y;cases y) hl hf hs' nd fun i v d F s h1 h2 h3 h4=>ih i v d F s h1 h2 h3 h4 (hv _ (mem_of_getElem? h4)) fun a ha=>hG a (fG h3 ha)
section
variable {K:Fg} {W:XW} {σ:St} {H:Hp} {Q:VK} {D:bS} {fa fb:F1} {fl:FL}
theorem EnvOk.step {He H':Hp} {O G M:List Addr} {Fs:List (List Addr)} {Γ:Ev} (E:EnvOk K He (M++O) Fs H σ Γ) (e:Same (bA H M) H') (hHe:∀a∈M,He a=none) (gn:G.Nodup) (gf:∀a∈G,bA H M a=none) (gi:∀a∈G,H' a≠none):EnvOk K He (G++O) Fs H' σ Γ:=by
 have nd:=E.nd
 rw [append_assoc] at nd;obtain ⟨n1,n2,n3⟩:=List.nodup_append.mp nd;have st:∀a∈O++Fs.flatten,H' a≠none/\a∉G:=fun a ha=>by
  have h1:H a≠none:=E.inH a (by rw [append_assoc];exact mem_append_right _ ha)
  cases h2:H a with
  | none=>exact absurd h2 h1
  | some o=>
   have h3:bA H M a=some o:=jc h2 fun z=>n3 a z a ha rfl
   exact ⟨by rw [e a o h3];exact Option.some_ne_none _,fun z=>by have:=gf a z;rw [h3] at this;cases this⟩
 refine ⟨E.len1,E.len2,fun b o q=>e b o (jc (E.same b o q) fun z=>by have:=hHe b z;rw [q] at this;cases this),?_,fun a ha=>?_,E.fresh,fun i p q=>?_⟩
 ·rw [append_assoc]
  exact List.nodup_append.mpr ⟨gn,n2,fun a ha b hb z=>(st b hb).2 (z▸ha)⟩
 ·rw [append_assoc] at ha
  rcases List.mem_append.mp ha with z | z
  ·exact gi a z
  ·exact (st a z).1
 ·obtain ⟨hv,v,F,h1,h2,h3⟩:=E.slot i p q
  refine ⟨hv,v,F,h1,h2,h3.step hv e (fun a ha=>mem_append_left _ (mem_append_left _ ha)) (fun a ha z=>n3 a z a (mem_append_right _ (fG h2 ha)) rfl) fun a ha=>?_⟩
  rw [append_assoc] at ha;rcases List.mem_append.mp ha with z | z
  ·exact .inr (gf a z)
  ·exact .inl (by rw [append_assoc];exact mem_append_right _ z)
theorem iT:∀{Gs:List (List Addr)} {i j:Nat} {A B:List Addr},Gs.flatten.Nodup->Gs[i]?=some A->Gs[j]?=some B->i≠j->∀a∈A,a∉B
 | G::Gs,0,j+1,A,B,nd,h1,h2,_,a,ha=>by
  rw [flatten_cons] at nd;simp at h1 h2
  subst h1;exact fun z=>(List.nodup_append.mp nd).2.2 a ha a (fG h2 z) rfl
 | G::Gs,i+1,0,A,B,nd,h1,h2,_,a,ha=>by
  rw [flatten_cons] at nd;simp at h1 h2
  subst h2;exact fun z=>(List.nodup_append.mp nd).2.2 a z a (fG h1 ha) rfl
 | G::Gs,i+1,j+1,A,B,nd,h1,h2,hij,a,ha=>by
  rw [flatten_cons] at nd;exact iT (Gs:=Gs) (i:=i) (j:=j) (List.nodup_append.mp nd).2.1 (by simpa using h1) (by simpa using h2) (by omega) a ha
 | G::Gs,0,0,A,B,_,_,_,h,_,_=>absurd rfl h
 | [],i,j,A,B,_,h1,_,_,_,_=>by simp at h1
end
section
variable {X:Cx}
theorem yp:IT X (unaryOp .USub) (fun x H Q=>∃i,x=.int i/\Q (.int (-i)) H):=by
 intro pins s σ H x v Q I rx h;obtain ⟨i,rfl,q⟩:=h;obtain ⟨t,rfl⟩:=rx;exact neg_int ⟨.int (-i),H,I.tok _,⟨_,rfl⟩,q⟩
end
section
variable {X:Cx}
variable {N gl:List Str} {vs cs ls lo gs:List Nat} {W:XW} {a b c e:Expr} {es:List Expr} {pos p:Pos} {fa fb fc:F1} {fl:FL} {g:FS}
def wY (X:Cx) (x:Str) (ss:List Sh) (den:List PySem.PyData->Res):Prop:=∃(k:Nat) (f:Addr) (fd:FuncData) (ps:List Str),cE X.prog X.w X.K X.mg X.base g7 k f fd ps (BN X.K ss den)/\Room k X.A/\X.mg x=some (.ref f)/\PySem.W.keepIn X.K (.ref f)=true/\Binds X.K fd ps []
end
def w6:Expr->Bool
 | .Starred ..=>true
 | _=>false
theorem br {e:Expr} {es:List Expr} {env:Env} (h:w6 e=false):starEach (e::es) env=(false,eval e env)::starEach es env:=by
 cases e<;>first | rfl | cases h
theorem cV {a:Expr} {env:Env} (h:w6 a=false):starEach [a] env=[(false,eval a env)]:=br h
theorem qZ {a b:Expr} {env:Env} (h:w6 a=false) (h2:w6 b=false):starEach [a,b] env=[(false,eval a env),(false,eval b env)]:=by rw [br h,cV h2]
def DefOk (P:Program) (w:World) (K:Fg) (mg:Str->Option Value) (base:Heap) (j:Nat) (x:Str) (n:Nat) (den:List PySem.PyData->Res):Prop:=
 ∃(f:Addr) (fd:FuncData) (ps:List Str),cE P w K mg base g7 j f fd ps (oS K n den)/\mg x=some (.ref f)/\PySem.W.keepIn K (.ref f)=true/\Binds K fd ps []
def DefOkM (P:Program) (w:World) (K:Fg) (mg:Str->Option Value) (base:Heap) (j:Nat) (x:Str) (ss:List Sh) (den:List PySem.PyData->Res):Prop:=
 ∃(f:Addr) (fd:FuncData) (ps:List Str),cE P w K mg base g7 j f fd ps (BN K ss den)/\mg x=some (.ref f)/\PySem.W.keepIn K (.ref f)=true/\Binds K fd ps []
def nh (K:Fg) (mg:Str->Option Value) (x:Str) (d:PySem.PyData):Prop:=∃u v,mg x=some u/\RelV v u/\∀H,Rep K H v d
theorem DefOk.cal {X:Cx} {j k n:Nat} {x:Str} {den:List PySem.PyData->Res} (h:DefOk X.prog X.w X.K X.mg X.base j x n den) (hr:Room k X.A) (hj:decide (j<=k)=true):Bi X x n den:=by
 obtain ⟨f,fd,ps,F,a,b,c⟩:=h;exact ⟨j,f,fd,ps,F,hr.mono (of_decide_eq_true hj),a,b,c⟩
theorem DefOkM.cal {X:Cx} {j k:Nat} {x:Str} {ss:List Sh} {den:List PySem.PyData->Res} (h:DefOkM X.prog X.w X.K X.mg X.base j x ss den) (hr:Room k X.A) (hj:decide (j<=k)=true):wY X x ss den:=by
 obtain ⟨f,fd,ps,F,a,b,c⟩:=h;exact ⟨j,f,fd,ps,F,hr.mono (of_decide_eq_true hj),a,b,c⟩
def F9:PySem.PyData->V
 | .none=>.non
 | .bool b=>.bl b
 | .int i=>.int i
 | .str x=>.str x
 | _=>.non
def qh:List Value->List PySem.PyData->Bool
 | .int i _::r,.int j::ds=>decide (i=j)&&qh r ds
 | .str x _::r,.str y::ds=>decide (x=y)&&qh r ds
 | [],[]=>true
 | _,_=>false
theorem EG:∀{us:List Value} {ds:List PySem.PyData},qh us ds=true->Vals (ds.map F9) us/\∀d∈ds,Sc (F9 d) d
 | [],[],_=>⟨.nil,fun d hd=>(nomatch hd)⟩
 | .int i t::r,.int j::ds,h=>by
  simp only [qh,Bool.and_eq_true,decide_eq_true_eq] at h
  obtain ⟨rfl,h⟩:=h;obtain ⟨a,b⟩:=EG h;refine ⟨.cons ⟨t,rfl⟩ a,fun d hd=>?_⟩
  rcases List.mem_cons.mp hd with z | z
  ·rw [z];exact .int i
  ·exact b d z
 | .str i t::r,.str j::ds,h=>by
  simp only [qh,Bool.and_eq_true,decide_eq_true_eq] at h
  obtain ⟨rfl,h⟩:=h;obtain ⟨a,b⟩:=EG h;refine ⟨.cons ⟨t,rfl⟩ a,fun d hd=>?_⟩
  rcases List.mem_cons.mp hd with z | z
  ·rw [z];exact .str i
  ·exact b d z
def Am (its:Array Value) (ds:List PySem.PyData):Bool:=decide (its.size<=sizeLine)&&qh its.toList ds
theorem wH {K:Fg} {mg:Str->Option Value} {x:Str} {a:Addr} {dd:Option Addr} {its:Array Value} {n:Nat} {sl:Array (Option Value)} {ds:List PySem.PyData} (hm:mg x=some (.ref a)) (l:K.lookup a=some ⟨.type "tuple",dd,.seq its n,sl⟩) (h:Am its ds=true):nh K mg x (.tuple ds):=by
 unfold Am at h;simp only [Bool.and_eq_true,decide_eq_true_eq] at h
 obtain ⟨v,s⟩:=EG h.2;refine ⟨.ref a,.ref a,hm,rfl,fun H=>.tup (vs:=ds.map F9) (.inr ⟨_,its,n,l,rfl,rfl,h.1,v⟩) (by simp) fun i v d h1 h2=>?_⟩
 rw [getElem?_map,h2] at h1
 cases h1;exact (s d (mem_of_getElem? h2)).rep
theorem wI {K:Fg} {mg:Str->Option Value} {x:Str} {i:Int} {t:Tok} (hm:mg x=some (.int i t)):nh K mg x (.int i):=⟨.int i t,.int i,hm,⟨t,rfl⟩,fun H=>.int i⟩
theorem zz {K:Fg} {m:List PySem.PyData->Res} {H:Hp} {a:Addr} {ns:List Int} {E:XK} (h:m [.list (ns.map .int)]=.ok ⟨.leaf,.bool true⟩) (hS:SqL K H a (ns.map V.int)):oS K 1 m [.ref a] H (fun v _=>v=.bl true) E:=by
 refine ⟨rfl,[],[.list (ns.map .int)],nodup_nil,(fun _ z=>nomatch z),⟨rfl,fun i v d h1 h2=>?_⟩,?_⟩
 ·rw [og]
  match i,h1,h2 with
  | 0,h1,h2=>
   cases h1
   cases h2;refine .lst hS (by simp) fun i v d h1 h2=>?_
   rw [getElem?_map] at h1 h2
   cases e:ns[i]? with
   | none=>rw [e] at h1;cases h1
   | some z=>
    rw [e] at h1 h2
    cases h1
    cases h2;exact .int z
  | i+1,h1,h2=>simp at h1
 ·rw [h]
  intro v H' G r
  have o:=r.own.rep
  cases o;rfl
end T
namespace TQ
open PySem PySem.Spec L2 T
open PyProof.Rows hiding St
structure Q (p:Prop):Prop where
 p:p
section
variable {X:Cx} {N gl:List Str} {vs cs ls lo gs:List Nat} {W:XW} {a b c e:Expr} {es:List Expr} {pos p:Pos} {fa fb fc:F1} {fl:FL} {ga gb:FB} {g1 g2 g:FS}
theorem FU (S:Cp X N gl vs cs ls lo gs) (i:Nat) {x:Str} (hN:N[i]?=some x) (hv:vs.contains i=true):Q (PE X (.Name x pos) (tE X.K W (ae i))):=⟨by
 have m:=S.nm x (mem_of_getElem? hN)
 exact Ae (qB (by rw [S.hN];exact hN) (S.vis i x hN hv) m.1 m.2)⟩
theorem fW (S:Cp X N gl vs cs ls lo gs) (i:Nat) {x:Str} (hN:N[i]?=some x) (hv:vs.contains i=true):Q (PE X (.Name x pos) (tE X.K W (aV i))):=⟨T.cm S i hN hv⟩
theorem ym (S:Cp X N gl vs cs ls lo gs) (j:Nat) {x:Str} {d:PySem.PyData} (hj:gl[j]?=some x) (hg:gs.contains j=true) (h:Con X x d):Q (PE X (.Name x pos) (tE X.K W (eK d))):=⟨by
 obtain ⟨u,v,h1,h2,h3⟩:=h;have q:=S.g hj hg
 exact wA q.1 h1 h2 h3 q.2.1⟩
theorem bj {j:Int} {k pos}:Q (PE X (.Constant (.int j) k pos) (tE X.K W (eK (.int j)))):=⟨bc oB fun _ _ _=>vg fun _=>.int j⟩
theorem qu {j:Bool} {k pos}:Q (PE X (.Constant (.bool j) k pos) (tE X.K W (eK (.bool j)))):=⟨bc dZ fun _ _ _=>vg fun _=>.bl j⟩
theorem DD {j:Str} {k pos}:Q (PE X (.Constant (.str j) k pos) (tE X.K W (eK (.str j)))):=⟨bc sj fun _ _ _=>vg fun _=>.str j⟩
theorem lU (ha:Q (PE X a (tE X.K W fa))) (hb:Q (PE X b (tE X.K W fb))):Q (PE X (.BinOp a .Add b pos) (tE X.K W (ax aG fa fb))):=⟨have ha:=ha.p;have hb:=hb.p;bc (iM zq ha hb) fun _ _ _=>e9 (AF fun _ _=>.int _)⟩
theorem qG (ha:Q (PE X a (tE X.K W fa))) (hb:Q (PE X b (tE X.K W fb))):Q (PE X (.BinOp a .Sub b pos) (tE X.K W (ax gSub fa fb))):=⟨have ha:=ha.p;have hb:=hb.p;bc (iM zj ha hb) fun _ _ _=>e9 (AF fun _ _=>.int _)⟩
theorem Bw (ha:Q (PE X a (tE X.K W fa))) (hb:Q (PE X b (tE X.K W fb))):Q (PE X (.BinOp a .Mult b pos) (tE X.K W (ax kP fa fb))):=⟨have ha:=ha.p;have hb:=hb.p;bc (iM zm ha hb) fun _ _ _=>e9 (oh (fun i j h=>by
 simp only [ql,Bool.or_eq_true,Bool.and_eq_true,decide_eq_true_eq] at h
 exact h) fun _ _=>.int _)⟩
theorem Fh (ha:Q (PE X a (tE X.K W fa))) (hb:Q (PE X b (tE X.K W fb))):Q (PE X (.BinOp a .FloorDiv b pos) (tE X.K W (ax kQ fa fb))):=⟨have ha:=ha.p;have hb:=hb.p;bc (iM vG ha hb) fun _ _ _=>e9 (oh (fun i j h=>by
 simp only [wM,Bool.and_eq_true,decide_eq_true_eq] at h
 exact h) fun _ _=>.int _)⟩
theorem ur (ha:Q (PE X a (tE X.K W fa))) (hb:Q (PE X b (tE X.K W fb))):Q (PE X (.BinOp a .Mod b pos) (tE X.K W (ax cj fa fb))):=⟨have ha:=ha.p;have hb:=hb.p;bc (iM zo ha hb) fun _ _ _=>e9 (oh (fun i j h=>by
 simp only [wL,decide_eq_true_eq] at h
 exact h) fun _ _=>.int _)⟩
theorem qH (ha:Q (PE X a (tE X.K W fa))) (hb:Q (PE X b (tE X.K W fb))):Q (PE X (.BinOp a .Pow b pos) (tE X.K W (ax wb fa fb))):=⟨have ha:=ha.p;have hb:=hb.p;bc (iM zk ha hb) fun _ _ _=>e9 (oh (fun i j h=>by
 simp only [wK,Bool.and_eq_true,decide_eq_true_eq] at h
 exact ⟨h.1.1,h.1.2,h.2⟩) fun _ _=>.int _)⟩
theorem qI (ha:Q (PE X a (tE X.K W fa))):Q (PE X (.UnaryOp .Not a pos) (tE X.K W (mN fa))):=⟨have ha:=ha.p;bc (sq ha) fun _ _ _=>yP⟩
theorem FX {op:CmpOp} {r:R2} {g:PySem.PyData->PySem.PyData->Option PySem.PyData} (k:Ck X op r g) (ha:Q (PE X a (tE X.K W fa))) (hb:Q (PE X b (tE X.K W fb))) (hm:behindInMarks op b=false):Q (PE X (.Compare a [op] [b] pos) (tE X.K W (ax g fa fb))):=⟨T.ce k ha.p hb.p hm⟩
theorem BF {op op':CmpOp} {r r':R2} {g g':PySem.PyData->PySem.PyData->Option PySem.PyData} (k:Ck X op r g) (k':Ck X op' r' g') (ha:Q (PE X a (tE X.K W fa))) (hb:Q (PE X b (tE X.K W fb))) (hc:Q (PE X c (tE X.K W fc))) (hm:lastMarks [op,op'] [b,c]=false):Q (PE X (.Compare a [op,op'] [b,c] pos) (tE X.K W (xZ g g' fa fb fc))):=⟨have ha:=ha.p;have hb:=hb.p;have hc:=hc.p;tP k.o k.g k'.o k'.g ha hb hc hm⟩
theorem Bx {op} (h:Q (PE X a (tE X.K W fa))):Q (PE X (.BoolOp op [a] pos) (tE X.K W fa)):=⟨L2.pe_one h.p⟩
theorem Bv (ha:Q (PE X a (tE X.K W fa))) (hb:Q (PE X (.BoolOp .And (b::es) pos) (tE X.K W fb))):Q (PE X (.BoolOp .And (a::b::es) pos) (tE X.K W (fQ fa fb))):=⟨have ha:=ha.p;have hb:=hb.p;bc (sv ha hb) fun _ _ _=>yZ⟩
theorem uL (hc:Q (PT X c (tT X.K W ga))) (ha:Q (PE X a (tE X.K W fa))) (hb:Q (PE X b (tE X.K W fb))):Q (PE X (.IfExp c a b pos) (tE X.K W (ux ga fa fb))):=⟨have hc:=hc.p;have ha:=ha.p;have hb:=hb.p;bc (kf hc ha hb) fun _ _ _=>BX⟩
theorem qJ (ha:Q (PE X a (tE X.K W fa))) (hb:Q (PE X b (tE X.K W fb))) (hs:oC b):Q (PE X (.Subscript a b pos) (tE X.K W (ag fa fb))):=⟨have ha:=ha.p;have hb:=hb.p;bc (cS qp ha hb hs) fun _ _ _=>yT⟩
theorem qv (s:Sh) (h:Q (PA X es (tA X.K W fl))):Q (PE X (.List es pos) (tE X.K W (aQ s fl))):=⟨have h:=h.p;bc (Ex h) fun _ _ _=>vf⟩
theorem uu {x1} (h:Q (PA X es (tA X.K W fl))):Q (PE X (.Tuple es x1 pos) (tE X.K W (bD fl))):=⟨have h:=h.p;bc (Dl h) fun _ _ _=>yI⟩
theorem xm :Q (PA X [] (tA X.K W af)):=⟨T.da_nil ⟩
theorem iD (ha:Q (PE X e (tE X.K W fa))) (hr:Q (PA X es (tA X.K W fl))) (hs:starEach (e::es) X.env=(false,eval e X.env)::starEach es X.env):Q (PA X (e::es) (tA X.K W (ab fa fl))):=⟨T.da_cons ha.p hr.p hs⟩
theorem FW {scope:Scope} {x:Str} {px:Pos} {iter elt:Expr} {ifs:List Expr} {fi:FI} {fe:F1} {fc:FB} {vs' cs' lo' gs':List Nat} (S:Cp X N gl vs cs ls lo gs) (s:Sh) (i:Nat) (hx:N[i]?=some x) (h1:iZ N i cs scope=true) (h2:gR N gl vs' cs' [i] lo' gs' scope=true) (hi':Q (PI X (.Name x px) iter (tI X.K W fi))) (hc:uB X N gl vs' cs' [i] lo' gs' fun Y=>Q (PF Y ifs (tT Y.K W0 fc))) (he:uB X N gl vs' cs' [i] lo' gs' fun Y=>Q (PE Y elt (tE Y.K W0 fe))) (hs:∀x,foldedSetIterable iter X.env x=pure x):Q (PE X (.ListComp elt [⟨.Name x px,iter,ifs,0⟩] scope pos) (tE X.K W (ao s i fi fc fe))):=⟨T.co S s i hx h1 h2 hi'.p (fun Y S F=>(hc Y S F).p) (fun Y S F=>(he Y S F).p) hs⟩
theorem A8 {scope:Scope} {x y:Str} {px pos' spos:Pos} {iter elt:Expr} {ifs:List Expr} {fi:FI} {fe:F1} {fc:FB} {vs' cs' lo' gs':List Nat} (S:Cp X N gl vs cs ls lo gs) (own:Bool) (j:Nat) (s:Sh) (i:Nat) (hy:N[j]?=some y) (hyl:lo.contains j=true) (hx:N[i]?=some x) (hsl:(pos'.line==pos.line)=true) (hsn:(scope.names.any fun (n,k)=>n==y&&(k==NameKind.local||k==NameKind.cell))=false) (h1:iZ N i cs scope=true) (h2:gR N gl vs' cs' [i] lo' gs' scope=true) (hi':Q (PI X (.Name x px) iter (tI X.K W fi))) (hc:uB X N gl vs' cs' [i] lo' gs' fun Y=>Q (PF Y ifs (tT Y.K W0 fc))) (he:uB X N gl vs' cs' [i] lo' gs' fun Y=>Q (PE Y elt (tE Y.K W0 fe))) (hs:∀x,foldedSetIterable iter X.env x=pure x):Q (PS X (.Assign [.Name y pos'] (.ListComp elt [⟨.Name x px,iter,ifs,0⟩] scope pos) spos) (tS X.K W (av own j (ao s i fi fc fe)))):=⟨by
 have hi':=hi'.p
 have hc:=fun Y S F=>(hc Y S F).p
 have he:=fun Y S F=>(he Y S F).p
 have B:=fun cells C s₀ H₀ ex=>S.blk h2 cells C s₀ H₀ ex
 have L:=fun cells C s₀ H₀ ex=>(B cells C s₀ H₀ ex).loc i x hx (by simp)
 exact mP (X:=X) own j s i (lC S h1) (by rw [S.hN];exact S.nd) hi' (fun cells C s₀ H₀ ex=>hc _ (B cells C s₀ H₀ ex) ⟨rfl,rfl,rfl,rfl,rfl,rfl⟩) (fun cells C s₀ H₀ ex=>he _ (B cells C s₀ H₀ ex) ⟨rfl,rfl,rfl,rfl,rfl,rfl⟩)
  (mh S.kind (S.loo j y hy hyl) hsl hsn) (by rw [S.hN];exact hy) (S.loo j y hy hyl) S.calm (by rw [S.hN];exact hx) (fun cells C s₀ H₀ ex=>(L cells C s₀ H₀ ex).1) (fun cells C s₀ H₀ ex=>(L cells C s₀ H₀ ex).2) hs⟩
theorem qL (S:Cp X N gl vs cs ls lo gs) (j:Nat) (hj:gl[j]?=some ("len":Str)) (hg:gs.contains j=true) (hm:X.mg "len"=none) (ha:Q (PA X (e::es) (tA X.K W fl))) (he:starEach (e::es) X.env=(false,eval e X.env)::starEach es X.env) (hpl:(backTo pos (starEach es X.env)).any (·.1)=false):Q (PE X (.Call (.Name "len" p) (e::es) [] pos) (tE X.K W (bb aU fl))):=⟨have ha:=ha.p;oq (call_len_seq.or jB) zP lJ hm ha (S.g hj hg).1 (S.g hj hg).2.2 (S.g hj hg).2.1 he hpl⟩
theorem uD (S:Cp X N gl vs cs ls lo gs) (j:Nat) (hj:gl[j]?=some ("all":Str)) (hg:gs.contains j=true) (hm:X.mg "all"=none) (ha:Q (PA X (e::es) (tA X.K W fl))) (he:starEach (e::es) X.env=(false,eval e X.env)::starEach es X.env) (hpl:(backTo pos (starEach es X.env)).any (·.1)=false):Q (PE X (.Call (.Name "all" p) (e::es) [] pos) (tE X.K W (bb (bN false) fl))):=⟨have ha:=ha.p;oq (qk S.calm) tp C4 hm ha (S.g hj hg).1 (S.g hj hg).2.2 (S.g hj hg).2.1 he hpl⟩
theorem qN (S:Cp X N gl vs cs ls lo gs) (j:Nat) (hj:gl[j]?=some ("any":Str)) (hg:gs.contains j=true) (hm:X.mg "any"=none) (ha:Q (PA X (e::es) (tA X.K W fl))) (he:starEach (e::es) X.env=(false,eval e X.env)::starEach es X.env) (hpl:(backTo pos (starEach es X.env)).any (·.1)=false):Q (PE X (.Call (.Name "any" p) (e::es) [] pos) (tE X.K W (bb (bN true) fl))):=⟨have ha:=ha.p;oq (Fi S.calm) tp t6 hm ha (S.g hj hg).1 (S.g hj hg).2.2 (S.g hj hg).2.1 he hpl⟩
theorem qM (S:Cp X N gl vs cs ls lo gs) (j:Nat) (hj:gl[j]?=some ("int":Str)) (hg:gs.contains j=true) (hm:X.mg "int"=none) (ha:Q (PA X (e::es) (tA X.K W fl))) (he:starEach (e::es) X.env=(false,eval e X.env)::starEach es X.env) (hpl:(backTo pos (starEach es X.env)).any (·.1)=false):Q (PE X (.Call (.Name "int" p) (e::es) [] pos) (tE X.K W (bb mK fl))):=⟨have ha:=ha.p;CP qj zQ xP hm ha (S.g hj hg).1 (S.g hj hg).2.2 (S.g hj hg).2.1 he hpl⟩
theorem DI (S:Cp X N gl vs cs ls lo gs) (j:Nat) (hj:gl[j]?=some ("list":Str)) (hg:gs.contains j=true) (hm:X.mg "list"=none) (ha:Q (PE X e (tE X.K W fa))) (hs:starEach [e] X.env=[(false,eval e X.env)]):Q (PE X (.Call (.Name "list" p) [e] [] pos) (tE X.K W (oE fa))):=⟨have ha:=ha.p;qc hm ha (S.g hj hg).1 hs⟩
theorem FZ {x:Str} {n:Nat} {den:List PySem.PyData->Res} (S:Cp X N gl vs cs ls lo gs) (j:Nat) (hj:gl[j]?=some x) (hg:gs.contains j=true) (C:Bi X x n den) (ha:Q (PA X (e::es) (tA X.K W fl))) (he:starEach (e::es) X.env=(false,eval e X.env)::starEach es X.env) (hpl:(backTo pos (starEach es X.env)).any (·.1)=false):Q (PE X (.Call (.Name x p) (e::es) [] pos) (tE X.K W (ah n den fl))):=⟨by
 have ha:=ha.p
 obtain ⟨k,f,fd,ps,F,hr,hm,hk,hb⟩:=C;exact wC F hr hm hk hb ha (S.g hj hg).1 (S.g hj hg).2.1 he hpl⟩
theorem cQ {tg:Expr} (S:Cp X N gl vs cs ls lo gs) (j:Nat) (hj:gl[j]?=some ("range":Str)) (hg:gs.contains j=true) (hm:X.mg "range"=none) (ha:Q (PA X [a] (tA X.K W fl))) (hs:starEach [a] X.env=[(false,eval a X.env)]):Q (PI X tg (.Call (.Name "range" p) [a] [] pos) (tI X.K W (cK fl))):=⟨have ha:=ha.p;CO hm ha (S.g hj hg).1 hs⟩
theorem BD {tg:Expr} (S:Cp X N gl vs cs ls lo gs) (j:Nat) (hj:gl[j]?=some ("range":Str)) (hg:gs.contains j=true) (hm:X.mg "range"=none) (ha:Q (PA X [a,b] (tA X.K W fl))) (hs:starEach [a,b] X.env=[(false,eval a X.env),(false,eval b X.env)]) (hs2:starEach [b] X.env=[(false,eval b X.env)]):Q (PI X tg (.Call (.Name "range" p) [a,b] [] pos) (tI X.K W (vX fl))):=⟨have ha:=ha.p;CM hm ha (S.g hj hg).1 hs hs2⟩
theorem gY {tg:Expr} (ha:Q (PE X a (tE X.K W fa))):Q (PI X tg a (tI X.K W (aJ fa))):=⟨have ha:=ha.p;ug (xi ha) fun _ _ _=>vh⟩
theorem FV {op:CmpOp} {r:R2} {g:PySem.PyData->PySem.PyData->Option PySem.PyData} (k:Ck X op r g) (ha:Q (PE X a (tE X.K W fa))) (hb:Q (PE X b (tE X.K W fb))) (hm:behindInMarks op b=false):Q (PT X (.Compare a [op] [b] pos) (tT X.K W (aN aq (ax g fa fb)))):=⟨T.ct k ha.p hb.p hm⟩
theorem lN (ha:Q (PT X a (tT X.K W ga))):Q (PT X (.UnaryOp .Not a pos) (tT X.K W (bx ga))):=⟨have ha:=ha.p;uf (Bl ha) fun _ _ _=>vp⟩
theorem xn (ha:Q (PT X a (tT X.K W ga))):Q (PW X (.BoolOp .Or [a] pos) (tT X.K W ga)):=⟨have ha:=ha.p;zc ha⟩
theorem oG (ha:Q (PT X a (tT X.K W ga))) (hb:Q (PW X (.BoolOp .Or (b::es) pos) (tT X.K W gb))):Q (PW X (.BoolOp .Or (a::b::es) pos) (tT X.K W (cY ga gb))):=⟨have ha:=ha.p;have hb:=hb.p;C7 (Ca ha hb) fun _ _ _=>yY⟩
theorem xj (h:Q (PW X a (tT X.K W ga))):Q (PT X a (tT X.K W ga)):=⟨L2.PW.pt h.p⟩
theorem jJ (ha:Q (PE X a (tE X.K W fa))) (he:∀whole,isTrue a X.env whole=(do let v <-whole;standAt a.pos;holding [v] (truthy v))):Q (PT X a (tT X.K W (aN aZ fa))):=⟨have ha:=ha.p;uf (rT ha he) fun _ _ _=>yJ⟩
theorem jP :Q (PSs X [] (tS X.K W aM)):=⟨Dh AU fun _ _ _=>vd⟩
theorem lW {st:Stmt} (h1:Q (PS X st (tS X.K W g1))):Q (PSs X [st] (tS X.K W g1)):=⟨have h1:=h1.p;gX h1⟩
theorem bO {st:Stmt} {bC:List Stmt} (h1:Q (PS X st (tS X.K W g1))) (h2:Q (PSs X bC (tS X.K W g2))):Q (PSs X (st::bC) (tS X.K W (aj g1 g2))):=⟨have h1:=h1.p;have h2:=h2.p;Dh (jb h1 h2) fun _ _ _=>yM⟩
theorem qF (ha:Q (PE X a (tE X.K W fa))):Q (PS X (.Return (some a) pos) (tS X.K W (aE fa))):=⟨have ha:=ha.p;dH (xT ha) fun _ _ _=>yN⟩
theorem jO {A B:List Stmt} (hc:Q (PT X c (tT X.K W ga))) (ha:Q (PSs X A (tS X.K W g1))) (hb:Q (PSs X B (tS X.K W g2))):Q (PS X (.If c A B pos) (tS X.K W (bV ga g1 g2))):=⟨have hc:=hc.p;have ha:=ha.p;have hb:=hb.p;dH (iL hc ha hb) fun _ _ _=>yS⟩
theorem xl (S:Cp X N gl vs cs ls lo gs) (i:Nat) {x:Str} {px:Pos} {iter:Expr} {body:List Stmt} {fi:FI} {g:FS} (hx:N[i]?=some x) (hl:ls.contains i=true) (hp:PassesOwn (model X.prog X.w) X.A X.env X.xe) (hi':Q (PI X (.Name x px) iter (tI X.K W fi))) (hb:Q (PSs X body (tS X.K W g))) (hs:∀x,foldedSetIterable iter X.env x=pure x):Q (PS X (.For (.Name x px) iter body [] pos) (tS X.K W (cI i fi g))):=⟨have hi':=hi'.p;have hb:=hb.p;Ac i hp (by rw [S.hN];exact S.nd) hi' hb S.calm (by rw [S.hN];exact hx) (S.loc i x hx hl).1 (S.loc i x hx hl).2 hs⟩
theorem qK (S:Cp X N gl vs cs ls lo gs) (own:Bool) (i:Nat) {x:Str} {pos':Pos} (hi:N[i]?=some x) (hl:ls.contains i=true) (hs:swapsWith a (some (.Name x pos')) pos.line X.env=pure false) (ha:Q (PE X a (tE X.K W fa))):Q (PS X (.Assign [.Name x pos'] a pos) (tS X.K W (av own i fa))):=⟨have ha:=ha.p;Ab own i (by rw [S.hN];exact S.nd) ha (by rw [S.hN];exact hi) (S.loc i x hi hl).1 hs (S.loc i x hi hl).2⟩
theorem BC (S:Cp X N gl vs cs ls lo gs) (i:Nat) {x:Str} {apos cpos:Pos} (hi:N[i]?=some x) (hv:vs.contains i=true) (ha:Q (PE X a (tE X.K W fa))) (hs:starEach [a] X.env=[(false,eval a X.env)]) (hbase:attributeBase (.Name x p) "append" X.env (eval (.Name x p) X.env)=eval (.Name x p) X.env) (hline:(apos.endLine==cpos.line)=true) (hfew:((backTo cpos (starEach [a] X.env)).all (fun x=>!x.1)&&(backToKw cpos (keywordEach [] X.env)).all (fun x=>x.1.isSome)
   && decide ([a].length+([]:List Keyword).length+(if ([]:List Keyword).isEmpty then 0 else 1)<30))=true) (hsw:swapsWith (.Call (.Attribute (.Name x p) "append" apos) [a] [] cpos) none pos.line X.env=pure false):Q (PS X (.Expr (.Call (.Attribute (.Name x p) "append" apos) [a] [] cpos) pos) (tS X.K W (dC i fa))):=⟨T.cs_append S i hi hv ha.p hs hbase hline hfew hsw⟩
theorem fV :Q (PF X [] (tT X.K W0 az)):=⟨C8 Dm fun σ H Q h=>by
 obtain ⟨He,O,Fs,Γ,E,h⟩:=h;exact h H Fs (Same.refl _) E fun _ z=>.inl z⟩
theorem DE (h:Q (PT X c (tT X.K W0 ga))):Q (PF X [c] (tT X.K W0 ga)):=⟨have h:=h.p;se h⟩
end
end TQ
namespace T
open PySem PySem.Spec L2
open PyProof.Rows hiding St
def Gm:FS:=fun _=>.no
def yr:PySem.PyData->String
 | .none => "NoneType"
 | .bool _ => "bool"
 | .int _ => "int"
 | .str _ => "str"
 | .list _ => "list"
 | .tuple _ => "tuple"
 | .dict _ => "dict"
def sW (t c:String):Bool:=t==c||(t == "bool"&&c == "int")
def kinds:List String:=["bool", "int", "str", "list", "tuple"]
theorem vR {K:Fg} {c:String} (hc:c∈kinds):∀t∈["NoneType", "bool", "int", "str", "list", "tuple"],PySem.W.kitOne K (.type t) (.type c)=some (sW t c):=by
 intro t ht;unfold kinds at hc;simp only [mem_cons,not_mem_nil,or_false] at hc ht
 rcases hc with rfl | rfl | rfl | rfl | rfl<;>rcases ht with rfl | rfl | rfl | rfl | rfl | rfl<;>kernel_rfl
section
variable {X:Cx} {pins:List (Addr×Obj)} {σ:St} {H:Hp} {s:Shared} {A:Around} {E:Value->Shared->Prop} {Q:Value->Shared->Prop} {c:Value} {b:Bool}
theorem mG {x:V} {u:Value} {d:PySem.PyData} (I:Inv X pins σ H s) (rx:RelV x u) (r:Rep X.K H x d) (e:PySem.W.kitOne X.K (.type (yr d)) c=some b) (h:∀tk,Q (.bool b) { s with toks:=tk }) :
  wpAny (model X.prog X.w) A (call (.builtin "isinstance") [u,c]) Q E s:=by
 cases r with
 | non=>exact yk I rx .non e h
 | bl y=>exact yk I rx (.bl y) e h
 | int i=>exact yk I rx (.int i) e h
 | str y=>exact yk I rx (.str y) e h
 | @lst p vs ds hs hl q=>
  rcases hs with (z | ⟨o,z⟩) | ⟨o,its,n,hk,hc,hd,hz,_⟩
  ·exact yk I rx (.lst z) e h
  ·exact yk I rx (.frz z) e h
  ·cases (show u=Value.ref p from rx)
   exact PySem.W.kia_one PySem.W.kitx_list I.kIn ⟨o,I.kIn _ o hk,hc⟩ e nofun h
 | @tup p vs ds hs hl q=>
  rcases hs with (z | ⟨o,z⟩) | ⟨o,its,n,hk,hc,hd,hz,_⟩
  ·exact yk I rx (.tup z) e h
  ·cases (show u=Value.ref p from rx)
   obtain ⟨_,_,_,n,p1,h1,h2,_⟩:=(show ObjOk X.prog X.w H s.heap p (.frz o (.tup vs)) from I.hok p _ z);exact PySem.W.kia_one PySem.W.kitx_tuple I.kIn ⟨p1,h1,h2⟩ e nofun h
  ·cases (show u=Value.ref p from rx)
   exact PySem.W.kia_one PySem.W.kitx_tuple I.kIn ⟨o,I.kIn _ o hk,hc⟩ e nofun h
end
def y1 (K:Fg) (c:String):List V->Hp->VK->Prop:=fun xs H Q=>∃x d,xs=[x,.ty c]/\Rep K H x d/\Q (.bl (sW (yr d) c)) H
theorem t4 {X:Cx} {c:String} (hc:c∈kinds):CallR X (.builtin "isinstance") (y1 X.K c):=by
 intro pins s σ H xs us Q I rv h;obtain ⟨x,d,rfl,r,q⟩:=h;match us,rv with
 | [u,t],.cons r1 (.cons r2 .nil)=>
  cases (show t=Value.type c from r2)
  have ht:yr d∈["NoneType", "bool", "int", "str", "list", "tuple"]:=by cases r<;>simp [yr]
  exact mG I r1 r (vR hc _ ht) fun tk=>⟨.bl _,H,I.tok tk,rfl,q⟩
def bW (c:String) (fa:F1):F1:=aR fa fun p Γ=>.ok ⟨.leaf,.bool (sW (yr p.d) c)⟩ Γ
theorem yR {K:Fg} {W:XW} {σ:St} {H:Hp} {Q:VK} {fa:F1} {c:String} (h:tE K W (bW c fa) σ H Q):oQ (y1 K c) (aT (tE K W fa) (aT (tC (.ty c)) bF)) σ H Q:=by
 show tE K W fa σ H fun x H1=>y1 K c [x,.ty c] H1 Q
 refine AL h fun He O Fs Γ1 p v H1 G Fs1 nd A w=>?_
 exact ⟨v,p.d,rfl,A.own.rep,Wants.scal w (.bl _) A.same A.env.dropL (fun a ha=>ha) nd fun a ha=>A.new a (mem_append_right _ ha)⟩
def uo (c:FB) (g:FS):Nat->Ev->OutS
 | 0,_=>.no
 | n+1,Γ=>match c Γ with
  | .ok true Γ1=>(match g Γ1 with
   | .nx Γ2=>uo c g n Γ2
   | .ct Γ2=>uo c g n Γ2
   | .bk Γ2=>.nx Γ2
   | .rt p=>.rt p
   | .er e Γ2=>.er e Γ2
   | .no=>.no)
  | .ok false Γ1=>.nx Γ1
  | .er e Γ1=>.er e Γ1
  | .no=>.no
def xg (n:Nat) (c:FB) (g:FS):FS:=uo c g n
section
variable {K:Fg} {W:XW} {σ:St} {H:Hp} {Q:VK} {D:bS} {fa fb:F1} {fl:FL}
theorem rB {n:Nat} {c:FB} {g:FS} (h:tS K W (xg n c g) D σ H):EC (tT K W c) (tS K W g) D σ H:=by
 obtain ⟨He,O,Fs,Γ,E,h⟩:=h;refine ⟨fun m σ' H'=>∃Γk Fk,EnvOk K He O Fk H' σ' Γk/\jM K W He O D (uo c g m Γk),⟨n,Γ,Fs,E,h⟩,?_⟩
 rintro m σ' H' ⟨Γk,Fk,Ek,hw⟩
 cases m with
 | zero=>exact hw.elim
 | succ m=>
  refine ⟨He,O,Fk,Γk,Ek,?_⟩
  rw [uo] at hw
  cases e:c Γk with
  | er x Γ1=>rw [e] at hw;exact fun H2 Fs2 s E2=>hw σ' H2 Fs2 E2
  | no=>rw [e] at hw;exact hw
  | ok b Γ1=>
   rw [e] at hw;intro H2 Fs2 s2 E2 n2
   cases b with
   | false=>rw [if_neg Bool.false_ne_true];exact hw σ' H2 Fs2 E2
   | true=>
    rw [if_pos rfl];refine ⟨fun σ3 H3=>∃Γ3 F3,EnvOk K He O F3 H3 σ3 Γ3/\jM K W He O D (uo c g m Γ3),fun σ3 H3 q=>⟨m,Nat.lt_succ_self _,q⟩,He,O,Fs2,Γ1,E2,?_⟩
    have hw:jM K W He O D (match g Γ1 with | .nx Γ2=>uo c g m Γ2 | .ct Γ2=>uo c g m Γ2 | .bk Γ2=>.nx Γ2 | .rt p=>.rt p | .er e Γ2=>.er e Γ2 | .no=>.no):=hw
    cases eb:g Γ1 with
    | nx Γ'=>rw [eb] at hw;exact fun σ2 H2 F2 E2=>⟨Γ',F2,E2,hw⟩
    | ct Γ'=>rw [eb] at hw;exact fun σ2 H2 F2 E2=>⟨Γ',F2,E2,hw⟩
    | bk Γ'=>rw [eb] at hw;exact fun σ2 H2 F2 E2=>hw σ2 H2 F2 E2
    | rt p=>rw [eb] at hw;exact fun u H2 G r=>hw u H2 G r
    | er x Γ'=>rw [eb] at hw;exact fun σ2 H2 F2 E2=>hw σ2 H2 F2 E2
    | no=>rw [eb] at hw;exact hw
def Ig (j i:Nat):FS:=fun Γ=>match Γ[i]? with
 | some (some ⟨.lst .leaf,.list ds⟩)=>(match ds.getLast? with
  | some d=>if j<Γ.length/\j≠i then .nx ((Γ.set i (some ⟨.lst .leaf,.list ds.dropLast⟩)).set j (some ⟨.leaf,d⟩)) else .no
  | none=>.no)
 | _=>.no
def Br:Option (Option PV)->Bool
 | some (some ⟨.lst (.lst .leaf),.list _⟩)=>true
 | _=>false
theorem mH {o:Option (Option PV)} (h:Br o=true):∃ds,o=some (some ⟨.lst (.lst .leaf),.list ds⟩):=by
 unfold Br at h;split at h
 ·exact ⟨_,rfl⟩
 ·cases h
theorem EnvOk.chg2 {He:Hp} {O:List Addr} {Fs:List (List Addr)} {Γ:Ev} {i j:Nat} {ds es:List PySem.PyData} (E:EnvOk K He O Fs H σ Γ) (h:Γ[i]?=some (some ⟨.lst (.lst .leaf),.list ds⟩)) (hj:ds[j]?=some (.list es)) :
  ∃l vs m ws,σ[i]?=some (some (.ref l))/\H l=some (.lst vs)/\vs.length=ds.length/\vs[j]?=some (.ref m)/\H m=some (.lst ws)/\ws.length=es.length/\(∀(k:Nat) u d,ws[k]?=some u->es[k]?=some d->Rep K (bA H (O++Fs.flatten)) u d) /\
   ∀(ws':List V) (es':List PySem.PyData),ws'.length=es'.length->(∀(k:Nat) u d,ws'[k]?=some u->es'[k]?=some d->Rep K (bA H (O++Fs.flatten)) u d)->EnvOk K He O Fs (upd H m (.lst ws')) σ (Γ.set i (some ⟨.lst (.lst .leaf),.list (ds.set j (.list es'))⟩)):=by
 obtain ⟨hv,v,F,h1,E1,o1,sub⟩:=E.move h;have hi:i<Γ.length:=(List.getElem?_eq_some_iff.mp h).1
 obtain ⟨_,v0,F0,h10,h20,o0⟩:=E.slot i _ h;have eF:F0=F:=by
  have q:=E.move h
  cases o0 with
  | @lst _ l0 vs0 _ Fs0 a1 a2 a3 a4 a5 a6=>
   cases o1 with
   | @lst _ l1 vs1 _ Fs1 b1 b2 b3 b4 b5 b6=>
    rw [h1] at h10
    cases h10;rw [a2] at b2
    cases b2;have:Fs0=Fs1:=by
     apply ext_getElem?
     intro k;by_cases hk:k<ds.length
     ·have c0:=a6 k (vs0[k]'(by omega)) (ds[k]'hk) (Fs0[k]'(by omega)) (getElem?_eq_getElem _) (getElem?_eq_getElem _) (getElem?_eq_getElem _)
      have c1:=b6 k (vs0[k]'(by omega)) (ds[k]'hk) (Fs1[k]'(by omega)) (getElem?_eq_getElem _) (getElem?_eq_getElem _) (getElem?_eq_getElem _)
      rw [getElem?_eq_getElem (by omega),getElem?_eq_getElem (by omega)]
      generalize Fs0[k]'(by omega)=A0 at c0
      generalize Fs1[k]'(by omega)=A1 at c1
      generalize vs0[k]'(by omega)=u at c0 c1
      generalize ds[k]'hk=d at c0 c1
      cases c0 with
      | lst x1 x2 x3 x4 x5 x6=>
       rename_i p0 vs2 ds2 Fs2;obtain ⟨l2,_,e2,e3,_⟩:=(Own.lst x1 x2 x3 x4 x5 x6).leaves;obtain ⟨l3,_,e4,e5,_⟩:=c1.leaves
       cases e2
       cases e4;rw [e3,e5]
     ·rw [getElem?_eq_none (by omega),getElem?_eq_none (by omega)]
    rw [this]
 subst eF;clear o0
 cases o1 with
 | @lst _ l vs _ Fs0 hsv hp hl hf nd q=>
  have hjl:j<ds.length:=(List.getElem?_eq_some_iff.mp hj).1
  have vj:vs[j]?=some (vs[j]'(by omega)):=getElem?_eq_getElem _
  have fj:Fs0[j]?=some (Fs0[j]'(by omega)):=getElem?_eq_getElem _
  obtain ⟨m,ws,em,eG,hm,hwl,hwr⟩:=(q j _ _ _ vj hj fj).leaves;rw [em] at vj;rw [eG] at fj;have hmF:m∈Fs0.flatten:=fG fj (List.mem_singleton.mpr rfl)
  have lnm:l≠m:=fun z=>(List.nodup_cons.mp nd).1 (z▸hmF)
  have pm:((l::Fs0.flatten)++(Fs.set i []).flatten).Perm Fs.flatten:=by simpa using lM (G:=[]) h20
  have subA:∀a∈O++Fs.flatten,a∈(l::Fs0.flatten)++O++(Fs.set i []).flatten:=fun a ha=>by
   rcases List.mem_append.mp ha with z | z
   ·exact mem_append_left _ (mem_append_right _ z)
   ·rcases List.mem_append.mp (pm.mem_iff.mpr z) with y | y
    ·exact mem_append_left _ (mem_append_left _ y)
    ·exact mem_append_right _ y
  have subB:∀a∈(l::Fs0.flatten)++O++(Fs.set i []).flatten,a∈O++Fs.flatten:=fun a ha=>by
   rcases List.mem_append.mp ha with z | z
   ·rcases List.mem_append.mp z with z | z
    ·exact mem_append_right _ (pm.mem_iff.mp (mem_append_left _ z))
    ·exact mem_append_left _ z
   ·exact mem_append_right _ (pm.mem_iff.mp (mem_append_right _ z))
  refine ⟨l,vs,m,ws,h1,hp,hl,vj,hm,hwl,fun k u d a1 a2=>(hwr k u d a1 a2).mono (oH (Same.refl _) fun a ha=>.inl (subA a ha)),fun ws' es' hw q'=>?_⟩
  have hmO:m∈(l::Fs0.flatten)++O:=mem_append_left _ (mem_cons_of_mem _ hmF)
  have hfr:∀a∈l::Fs0.flatten,He a=none:=fun a ha=>E.fresh a (sub a (mem_append_left _ ha))
  have E4:=E1.mutO (o:=.lst ws') hmO hm (hfr m (mem_cons_of_mem _ hmF))
  have ownL:Own K ((l::Fs0.flatten)++O++(Fs.set i []).flatten) (upd H m (.lst ws')) (.lst (.lst .leaf)) (l::Fs0.flatten) (.ref l) (.list (ds.set j (.list es'))):=by
   refine .lst rfl (by rw [bE lnm];exact hp) (by rw [length_set];exact hl) (by rw [length_set];exact hf) nd fun k v d F e1 e2 e3=>?_
   by_cases hk:k=j
   ·subst hk
    rw [getElem?_set_self hjl] at e2
    cases e2;rw [vj] at e1
    cases e1;rw [fj] at e3
    cases e3;refine Own.mkLeaves cB hw fun n u d a1 a2=>?_
    rw [oe (mem_append_left _ hmO)];exact (q' n u d a1 a2).mono (oH (Same.refl _) fun a ha=>.inl (subB a ha))
   ·rw [getElem?_set_ne (Ne.symm hk)] at e2
    exact (q k v d F e1 e2 e3).mut rfl (mem_append_left _ hmO) (fun z=>iT (List.nodup_cons.mp nd).2 e3 fj hk m z (List.mem_singleton.mpr rfl)) hm
  have fin:=EnvOk.put (i:=i) (p:=⟨.lst (.lst .leaf),.list (ds.set j (.list es'))⟩) (v:=.ref l) E4 ownL rfl hfr (by rw [length_set];exact hi)
  rw [set_set,set_set,yi h1,yi h20] at fin;exact fin
def EO (i:Nat) (q p:PV) (Γ:Ev):OutS:=match Γ[i]? with
 | some (some ⟨.lst (.lst .leaf),.list ds⟩)=>(match q.d with
  | .int k=>(match dn ds.length k with
   | some j=>(match ds[j]? with
    | some (.list es)=>if T.coer .leaf p&&decide (es.length<sizeLine) then .nx (Γ.set i (some ⟨.lst (.lst .leaf),.list (ds.set j (.list (es++[p.d])))⟩)) else .no
    | _=>.no)
   | none=>.no)
  | _=>.no)
 | _=>.no
def pB (i:Nat) (q:PV) (Γ:Ev):Bool:=match Γ[i]? with
 | some (some ⟨.lst (.lst .leaf),.list ds⟩)=>(match q.d with
  | .int k=>(match dn ds.length k with
   | some j=>(match ds[j]? with
    | some (.list _)=>true
    | _=>false)
   | none=>false)
  | _=>false)
 | _=>false
theorem vI {i:Nat} {q:PV} {Γ:Ev} (h:pB i q Γ=true):∃ds k j es,Γ[i]?=some (some ⟨.lst (.lst .leaf),.list ds⟩)/\q.d=.int k/\dn ds.length k=some j/\ds[j]?=some (.list es):=by
 unfold pB at h;split at h
 ·rename_i ds e
  split at h
  ·rename_i k ek
   split at h
   ·rename_i j ej
    split at h
    ·rename_i es ee
     exact ⟨ds,k,j,es,e,ek,ej,ee⟩
    ·cases h
   ·cases h
  ·cases h
 ·cases h
def xc (i:Nat) (fk fa:F1):FS:=fun Γ=>if Br Γ[i]? then g6 fk (fun q Γ1=>if pB i q Γ1 then g6 fa (EO i q) Γ1 else .no) Γ else .no
theorem rN {i:Nat} (h:tS K W (xc i fa fb) D σ H):cc (oR K "list" oF (gZ (mm K) (aD i) (tE K W fa)) (tA K W (ab fb af))) D σ H:=by
 obtain ⟨He,O,Fs,Γ,E,h⟩:=h;unfold xc at h
 cases ho:Br Γ[i]? with
 | false=>rw [ho] at h;exact h.elim
 | true=>
  rw [ho] at h;obtain ⟨ds0,e0⟩:=mH ho;obtain ⟨_,v0,F0,s0,_,o0⟩:=E.slot i _ e0;refine ⟨v0,s0,iF (D:=D) ⟨He,O,Fs,Γ,E,h⟩ fun He O Fs Γ1 q u H1 G1 Fs1 _ fr A1 w=>?_⟩
  cases hk:pB i q Γ1 with
  | false=>rw [hk] at w;exact w.elim
  | true=>
   rw [hk] at w;obtain ⟨ds,k,j,es,e1,ek,ej,ee⟩:=vI hk;obtain ⟨l,vs,m,ws,q1,q2,q3,q4,q5,q6,q7,q8⟩:=A1.env.dropL.chg2 e1 ee;rw [s0] at q1
   cases q1;have hu:=A1.own.rep
   rw [ek] at hu
   cases hu;have hat:cZ vs k=some (.ref m):=by unfold cZ;rw [q3,ej];exact q4
   refine .inl ⟨l,vs,k,.ref m,rfl,rfl,.of q2,hat,.inl ⟨rfl,ws,.of q5⟩,Bo (iF (D:=D) ⟨He,O,Fs1,Γ1,A1.env.dropL,w⟩ fun He O Fs Γ2 p v H2 G Fs2 _ fr2 A2 w2=>?_)⟩
   unfold EO at w2;split at w2
   ·rename_i ds2 e2
    rw [ek] at w2;dsimp only at w2;split at w2
    ·rename_i j2 ej2
     split at w2
     ·rename_i es2 ee2
      cases hc:(T.coer .leaf p&&decide (es2.length<sizeLine)) with
      | false=>rw [hc] at w2;exact w2.elim
      | true=>
       rw [hc] at w2;simp only [Bool.and_eq_true,decide_eq_true_eq] at hc
       obtain ⟨l2,vs2,m2,ws2,r1,r2,r3,r4,r5,r6,r7,r8⟩:=A2.env.dropL.chg2 e2 ee2;rw [s0] at r1
       cases r1;have x2:H2 l=some (.lst vs):=A2.same _ _ q2
       rw [x2] at r2
       cases r2;have y2:cZ vs k=some (.ref m2):=by unfold cZ;rw [r3,ej2];exact r4
       rw [hat] at y2
       cases y2;have ov:Own K (O++Fs2.flatten) H2 .leaf [] v p.d:=A2.own.coer (s:=.leaf) hc.1 fI fun a ha z=>absurd z (A2.disj a ha)
       cases ov with
       | leaf rv=>
        have E4:=r8 (ws2++[v]) (es2++[p.d]) (by simp [r6]) fun n x d a1 a2=>by
         by_cases hn:n<ws2.length
         ·rw [getElem?_append_left hn] at a1
          rw [getElem?_append_left (by omega)] at a2
          exact r7 n x d a1 a2
         ·have hn':n=ws2.length:=by
           have:=(List.getElem?_eq_some_iff.mp a1).1
           rw [length_append,length_singleton] at this;omega
          subst hn'
          rw [getElem?_append_right (Nat.le_refl _),Nat.sub_self] at a1;rw [getElem?_append_right (by omega),show ws2.length-es2.length=0 by omega] at a2
          cases a1
          cases a2;exact rv
        exact ⟨m,ws2,v,rfl,rfl,r5,by rw [r6];exact hc.2,w2 σ _ _ E4⟩
     ·exact w2.elim
    ·exact w2.elim
   ·exact w2.elim
end
theorem EI:∀{ns:List Int} {us:List Value},Vals (ns.map V.int) us->IntsAre us ns
 | [],_,.nil=>.nil
 | n::ns,_,.cons r t=>by
  obtain ⟨tk,rfl⟩:=(show ∃t,_=Value.int n t from r)
  exact .cons _ _ (EI t)
theorem nq:∀{ns:List Int} {us:List Value},IntsAre us ns->Vals (ns.map V.int) us
 | _,_,.nil=>.nil
 | _,_,.cons _ _ t=>.cons ⟨_,rfl⟩ (nq t)
section
variable {K:Fg} {W:XW} {σ:St} {H:Hp} {Q:VK} {fa:F1} {fl:FL}
theorem AftL.newSc {He:Hp} {O:List Addr} {Fs Gs Fs1:List (List Addr)} {Γ1:Ev} {ps:List PV} {us:List V} {H1:Hp} {l:Addr} {vs:List V} {ds:List PySem.PyData} (A:AftL K He O Fs H σ Γ1 ps us H1 Gs Fs1) (nd:O.Nodup) (hl:H1 l=none) (hv:vs.length=ds.length) (hs:∀(i:Nat) v d,vs[i]?=some v->ds[i]?=some d->Sc v d) :
  Aft K He O Fs H σ Γ1 ⟨.lst .leaf,.list ds⟩ (.ref l) (upd H1 l (.lst vs)) [l] Fs1:=by
 refine ⟨A.same.trans (cu hl),A.env.dropL.hide (cu hl) (by simp) (by simpa using hl) (fun a ha=>by rw [List.mem_singleton.mp ha,cB];exact Option.some_ne_none _),fun a ha=>?_,?_⟩
 ·rcases List.mem_append.mp ha with z | z
  ·rw [List.mem_singleton.mp z];exact .inr (A.same.free hl)
  ·exact A.new a (mem_append_right _ z)
 ·exact Own.mkLeaves cB hv fun j u d e1 e2=>(hs j u d e1 e2).rep
def Jp (fl:FL):F1:=fun Γ=>(fl Γ).bind fun ps Γ'=>match ml (ps.map (·.d)) with
 | some j=>if j<=sizeLine then .ok ⟨.lst .leaf,.list (bQ 0 j.toNat)⟩ Γ' else .no
 | none=>.no
def intsOf:List PySem.PyData->Option (List Int)
 | []=>some []
 | .int i::r=>(intsOf r).map (i :: ·)
 | _=>none
theorem FA:∀{ds:List PySem.PyData} {ns:List Int},intsOf ds=some ns->ds=ns.map .int
 | [],ns,h=>by cases h;rfl
 | .int i::r,ns,h=>by
  unfold intsOf at h
  cases e:intsOf r with
  | none=>rw [e] at h;cases h
  | some ms=>rw [e] at h;cases h;rw [FA e];rfl
 | .none::_,_,h=>by cases h
 | .bool _::_,_,h=>by cases h
 | .str _::_,_,h=>by cases h
 | .list _::_,_,h=>by cases h
 | .tuple _::_,_,h=>by cases h
 | .dict _::_,_,h=>by cases h
def sortArg:List PySem.PyData->Option (List Int)
 | [.list ds]=>intsOf ds
 | _=>none
theorem mi {ds:List PySem.PyData} {ns:List Int} (h:sortArg ds=some ns):ds=[.list (ns.map .int)]:=by
 unfold sortArg at h;split at h
 ·rw [FA h]
 ·cases h
end
section
variable {X:Cx} {N gl:List Str} {vs cs ls lo gs:List Nat} {W:XW} {a b c e:Expr} {es:List Expr} {pos p:Pos} {fa fb fc:F1} {fl:FL} {g:FS} {ga:FB}
theorem cs_appAt (S:Cp X N gl vs cs ls lo gs) (i:Nat) {x:Str} {spos apos cpos:Pos} (hi:N[i]?=some x) (hv:vs.contains i=true) (hk:PE X b (tE X.K W fb)) (ha:PE X a (tE X.K W fa)) (hx:oC b) (hs:starEach [a] X.env=[(false,eval a X.env)])
  (hbase:attributeBase (.Subscript (.Name x p) b spos) "append" X.env (eval (.Subscript (.Name x p) b spos) X.env)=eval (.Subscript (.Name x p) b spos) X.env) (hline:(apos.endLine==cpos.line)=true)
  (hfew:((backTo cpos (starEach [a] X.env)).all (fun x=>!x.1)&&(backToKw cpos (keywordEach [] X.env)).all (fun x=>x.1.isSome)
   && decide ([a].length+([]:List Keyword).length+(if ([]:List Keyword).isEmpty then 0 else 1)<30))=true)
  (hsw:swapsWith (.Call (.Attribute (.Subscript (.Name x p) b spos) "append" apos) [a] [] cpos) none pos.line X.env=pure false) :
  PS X (.Expr (.Call (.Attribute (.Subscript (.Name x p) b spos) "append" apos) [a] [] cpos) pos) (tS X.K W (xc i fb fa)):=by
 have m:=S.nm x (mem_of_getElem? hi)
 exact dH (yf (kh PySem.F.plainAttrs_list PySem.F.slot_list_append PySem.F.type_list_append AW (cS qp (qB (by rw [S.hN];exact hi) (S.vis i x hi hv) m.1 m.2) hk hx) (da_cons ha da_nil hs) hbase hfew hline hs rfl) hsw) fun _ _ _=>rN
end
theorem Inv.turnedL {X:Cx} {pins:List (Addr×Obj)} {σ:St} {H:Hp} {s:Shared} {h':Heap} {t':Nat} {fp:List Addr} (I:L2.Inv X pins σ H s) (k:∀b o,b∉fp->s.heap.get? b=some o->h'.get? b=some o) (hf:∀b∈fp,iB X pins H b):L2.Inv X pins σ H { s with heap:=h',toks:=t' }:=by
 have nit:∀b u,H b=some u->b∉fp:=fun b u e z=>by have:=(hf b z).1;rw [e] at this;cases this
 have hL:X.env.locals∉fp:=fun z=>(hf _ z).2.1 rfl
 refine I.step (g':=s.gens) (d':=s.drawn) (ch:=fp) (fun b hb=>?_) (fun b o _ _ hc e _=>k b o hc e) (fun b o _ _ hc e _=>⟨o.slots,k b o hc e⟩) (fun _ _ _ _ n=>n)
  (fun b o hc e=>⟨o,k b o hc e⟩) (fun _ _ e=>e) (fun _ _ _ e=>e) (fun b ps e=>⟨#[],by rw [e];simp⟩) (fun m hm=>?_) (fun b u e=>?_) I.bare
 ·obtain ⟨f0,f1,f2,f3,f4,f5⟩:=hf b hb
  exact ⟨f3,f1,f4,f5⟩
 ·obtain ⟨o,es,ep,ho,r⟩:=hm
  exact ⟨o,es,ep,k _ o hL ho,r⟩
 ·refine (I.hok b u e).stay (fun c v hc q=>k c v ?_ q) (fun _ q=>q) fun _ _ q=>q
  rcases hc with z | z
  ·rw [z];exact nit b u e
  ·exact nit c _ z
theorem Inv.turnedT {X:Cx} {pins:List (Addr×Obj)} {σ:St} {H:Hp} {s:Shared} {h':Heap} {t':Nat} {fp:List Addr} {T:Addr} {xs:List V} (I:L2.Inv X pins σ H s) (k:∀b o,b∉fp->s.heap.get? b=some o->h'.get? b=some o) (hf:∀b∈fp,iB X pins H b) (hT:s.heap.objs.size<=T)
  (new:ObjOk X.prog X.w (upd H T (.tup xs)) h' T (.tup xs)):L2.Inv X pins σ (upd H T (.tup xs)) { s with heap:=h',toks:=t' }:=by
 have hTn:H T=none:=I.hok.fresh hT
 have nit:∀b u,H b=some u->b∉fp:=fun b u e z=>by have:=(hf b z).1;rw [e] at this;cases this
 have up:∀b u,H b=some u->upd H T (.tup xs) b=some u:=fun b u e=>by rw [bE (jQ e hTn)];exact e
 have hL:X.env.locals∉fp:=fun z=>(hf _ z).2.1 rfl
 refine I.step (g':=s.gens) (d':=s.drawn) (ch:=fp) (fun b hb=>?_) (fun b o _ _ hc e _=>k b o hc e) (fun b o _ _ hc e _=>⟨o.slots,k b o hc e⟩) (fun b o _ e n=>by rw [bE (Nat.ne_of_lt (Nat.lt_of_lt_of_le (Heap.lt_size e) hT))];exact n)
  (fun b o hc e=>⟨o,k b o hc e⟩) (fun b _ e=>up b _ e) (fun b _ _ e=>up b _ e) (fun b ps e=>⟨#[],by rw [up b _ e];simp⟩) (fun m hm=>?_) (fun b u e=>?_) I.bare
 ·obtain ⟨f0,f1,f2,f3,f4,f5⟩:=hf b hb
  exact ⟨f3,f1,f4,f5⟩
 ·obtain ⟨o,es,ep,ho,r⟩:=hm
  exact ⟨o,es,ep,k _ o hL ho,r⟩
 ·by_cases hb:b=T
  ·subst hb
   rw [cB] at e
   cases e;exact new
  ·rw [bE hb] at e
   refine (I.hok b u e).stay (fun c v hc q=>k c v ?_ q) (fun c q=>up c _ q) fun c _ q=>up c _ q
   rcases hc with z | z
   ·rw [z];exact nit b u e
   ·exact nit c _ z
def HP (K:Fg) (a:Addr):It:=
 ⟨fun i H=>∃xs x,SqL K H a xs/\xs[i]?=some x,fun i H x H'=>∃T v,x=.ref T/\H T=none/\H'=upd H T (.tup [.int i,v])/\∀xs,SqL K H a xs->xs[i]?=some v,fun i H=>∃xs,SqL K H a xs/\xs.length<=i⟩
theorem oN {P:Program} {w:World} {K:Fg} {elts:List Expr} {k:Nat} {pos:Pos} (a e it:Addr) (hei:e≠it) (hae:a≠e) (hai:a≠it) :
  ud P w K (.Tuple elts k pos) (HP K a) [e,it] e (fun i h=>(∃old,IsEnum h e it i old)/\h.IsListIter it a i) where
 mem:=by simp
 obj:=fun i h st b hb=>by
  obtain ⟨⟨old,he⟩,o,e1,c,d⟩:=st;simp only [mem_cons,not_mem_nil,or_false] at hb
  rcases hb with rfl | rfl
  ·exact ⟨_,he,fun v z=>by
    have z':Data.fields _=Data.cell v:=z
    cases z'⟩
  ·exact ⟨o,e1,fun v z=>by rw [d] at z;cases z⟩
 keep:=fun i h h' st kk=>by
  obtain ⟨⟨old,he⟩,hit⟩:=st;exact ⟨⟨old,kk e (by simp) _ he⟩,hit.at fun o q=>kk it (by simp) o q⟩
 item:=by
  intro X hP hw hK hc i pins s σ H E I hf st hg;subst hP hw hK;obtain ⟨xs,x,hq,hx⟩:=hg;obtain ⟨its,rv,p,hz⟩:=I.list hq;obtain ⟨u,hu,ru⟩:=rv.get hx;have W:=WalksT.enumerate (prog:=X.prog) (w:=X.w) (A:=X.A) (I.ok.hd hc) e it a hei hae hai its.toArray
  have hil:i<its.toArray.size:=by
   have:=(List.getElem?_eq_some_iff.mp hu).1
   simpa using this
  refine W.item i s _ _ hil ⟨st.1,st.2,p.isList⟩ fun T vals h' tk hv hT hTT hMid kk=>?_
  obtain ⟨t,y,hy,rfl⟩:=hv;have ey:y=u:=by
   rw [getElem?_toArray,hu] at hy;exact (Option.some.inj hy).symm
  subst ey;refine ⟨.ref T,rfl,W.go elts k pos i T _ _ _ hMid fun h2 st2 kk2=>?_⟩
  have hTn:H T=none:=I.hok.fresh hT
  have hTw:T∉[e,it]:=W.apart i T _ hMid
  have kAll:∀b o,b∉[e,it]->s.heap.get? b=some o->h2.get? b=some o:=fun b o hb q=>kk2 b o hb (kk b o hb q)
  have I1:L2.Inv X pins σ H { s with heap:=h2,toks:=tk }:=Inv.turnedL I kAll hf
  have tT:h2.IsTuple T #[.int i t,y]:=by
   obtain ⟨o,q1,q2⟩:=hTT;exact ⟨o,kk2 T o hTw q1,q2⟩
  have hvs:Vals [.int (i:Int),x] [.int i t,y]:=.cons (show RelV (.int (i:Int)) (.int i t) from ⟨t,rfl⟩) (.cons ru .nil)
  have I3:L2.Inv X pins σ (upd H T (.tup [.int i,x])) { s with heap:=h2,toks:=tk }:=Inv.turnedT (t':=tk) I kAll hf hT ⟨by show 2<=sizeLine;decide,[.int i t,y],hvs,(show IsTup h2 T _ from tT)⟩
  refine ⟨.ref T,upd H T (.tup [.int i,x]),I3,rfl,⟨T,x,rfl,hTn,rfl,fun ys hy=>by rw [I.list_inj hy hq];exact hx⟩,⟨st2.1,st2.2.1⟩,fun b hb=>?_⟩
  have hbT:b≠T:=fun z=>by rw [z] at hb;exact hTw hb
  rw [bE hbT];exact (hf b hb).1
 done:=by
  intro X hP hw hK hc i pins s σ H E I hf st hg;subst hP hw hK;obtain ⟨xs,hq,hx⟩:=hg;obtain ⟨its,rv,p,hz⟩:=I.list hq;have hl:=rv.length
  obtain ⟨⟨old,he⟩,hit⟩:=st;refine wpAny_pyNext_enum_end (I.ok.hd hc) he hit p.isList (Array.getElem?_eq_none (by simp;omega)) fun h' hk=>⟨rfl,Inv.turnedL (t':=s.toks) I (fun b o hb q=>hk b o (fun z=>hb (by simp [z])) q) hf⟩
 self:=fun _ _ _ _ _ st h=>by
  obtain ⟨⟨old,he⟩,hit⟩:=st;exact wpAny_pyIter_enum he h
def sY (K:Fg) (ta:TA):TI:=fun σ H R=>ta σ H fun vs H1=>∃a,vs=[.ref a]/\(∃xs,SqL K H1 a xs)/\R (HP K a) H1
theorem nN {X:Cx} {elts:List Expr} {kt:Nat} {ptg:Pos} {l:Expr} {ta:TA} {p pos:Pos} (hg:Gl X "enumerate") (hm:X.mg "enumerate"=none) (ha:PA X [l] ta) (hs:starEach [l] X.env=[(false,eval l X.env)]) :
  PI X (.Tuple elts kt ptg) (.Call (.Name "enumerate" p) [l] [] pos) (sY X.K ta):=by
 intro pins s σ H R I h;refine Call_ (xb I hg hm boot_enumerate (PyProof.Rows.callWith_type1 (bq (ha pos pins s σ H _ I h) fun us s1 ⟨vs,H1,I1,r1,q1⟩=>?_) hs rfl))
 obtain ⟨a,e,⟨xs,hq⟩,q⟩:=q1;subst e;obtain ⟨u,rfl,ru⟩:=r1.one
 cases ru;obtain ⟨its,rv,pl,hz⟩:=I1.list hq;refine call_enumerate_list pl.isList fun h' he hit hsz hk=>?_
 have ha1:a<s1.heap.objs.size:=by
  obtain ⟨o,q1,_⟩:=pl.isList;exact Heap.lt_size q1
 refine wpAny_pyIter_enum (s:={ s1 with heap:=h' }) he ?_
 have I2:L2.Inv X pins σ H1 { s1 with heap:=h' }:=I1.kept (t':=s1.toks) hk
 refine ⟨s1.heap.objs.size+1,[s1.heap.objs.size+1,s1.heap.objs.size],_,HP X.K a,H1,rfl,I2,oN a _ _ (Nat.succ_ne_self _) (Nat.ne_of_lt (Nat.lt_succ_of_lt ha1)) (Nat.ne_of_lt ha1),⟨⟨_,he⟩,hit⟩,fun b hb=>?_,q⟩
 simp only [mem_cons,not_mem_nil,or_false] at hb
 have hb2:s1.heap.objs.size<=b:=by
  rcases hb with z | z
  ·rw [z];exact Nat.le_succ _
  ·rw [z];exact Nat.le_refl _
 have f:=I1.fpOk hb2 (I1.hok.fresh hb2)
 exact f
def qo (i j:Nat) (body:FS):Nat->List PySem.PyData->Ev->OutS
 | _,[],Γ=>.nx Γ
 | k,d::r,Γ=>if i<Γ.length/\j<Γ.length then (match body ((Γ.set i (some ⟨.leaf,.int (k:Nat)⟩)).set j (some ⟨.leaf,d⟩)) with
  | .nx Γ'=>qo i j body (k+1) r Γ'
  | .ct Γ'=>qo i j body (k+1) r Γ'
  | .bk Γ'=>.nx Γ'
  | .rt p=>.rt p
  | .er c Γ'=>.er c Γ'
  | .no=>.no) else .no
def iI (i j:Nat) (fa:F1) (body:FS):FS:=fun Γ=>match aJ fa Γ with
 | .ok t Γ1=>if t.st then qo i j body 0 t.ds Γ1 else .no
 | .er c Γ1=>.er c Γ1
 | .no=>.no
section
variable {K:Fg} {W:XW} {σ:St} {H:Hp} {D:bS} {fa:F1}
theorem vi {i j:Nat} {body:FS} (h:tS K W (iI i j fa body) D σ H):eC (sY K (tA K W (ab fa af))) (wa K 2 (gM (gName i) (gM (gName j) wc))) (tS K W body) D σ H:=by
 obtain ⟨He,O,Fs,Γ,E,h⟩:=h;refine Bo ⟨He,O,Fs,Γ,E,?_⟩
 unfold iI aJ at h
 cases e:fa Γ with
 | er c Γ1=>rw [e] at h;exact fun H' Fs' s E'=>h σ H' Fs' E'
 | no=>rw [e] at h;exact h
 | ok p Γ1=>
  rw [e] at h;intro v H1 G Fs1 A;obtain ⟨s,d⟩:=p
  cases d with
  | list ds=>
   have h:jM K W He O D (match (if du ⟨s,.list ds⟩ ds then Out.ok (⟨ds,!s.isView⟩:Er) Γ1 else .no) with | .ok t Γ1=>if t.st then qo i j body 0 t.ds Γ1 else .no | .er c Γ1=>.er c Γ1 | .no=>.no):=h
   cases hc:du ⟨s,.list ds⟩ ds with
   | false=>rw [hc] at h;exact h.elim
   | true=>
    rw [hc] at h;have h:jM K W He O D (if (!s.isView) then qo i j body 0 ds Γ1 else .no):=h
    cases ht:(!s.isView) with
    | false=>rw [ht] at h;exact h.elim
    | true=>
     rw [ht] at h;have h:jM K W He O D (qo i j body 0 ds Γ1):=h
     obtain ⟨p,vs,rfl,hq,hst,hr⟩:=A.own.items (O':=O++Fs1.flatten) hc fI A.disj
     have E1:=A.go
     obtain ⟨E1',sHe⟩:=E1.rebase;have hlen:vs.length=ds.length:=hr.1
     have hP:∀H2,Same (bA H1 Fs1.flatten) H2->SqL K H2 p vs:=fun H2 s2=>s2.seq (sub_hid.seq (hst (by simpa using ht)))
     refine ⟨p,rfl,⟨vs,hq⟩,fun k m σ' H'=>m=vs.length-k/\k<=vs.length/\∃Γk Fk,EnvOk K (bA H1 Fs1.flatten) O Fk H' σ' Γk/\jM K W He O D (qo i j body k (ds.drop k) Γk),⟨vs.length,by simp,Nat.zero_le _,Γ1,Fs1,E1',by simpa using h⟩,?_⟩
     rintro k m σ' H' ⟨rfl,hk,Γk,Fk,Ek,hw⟩
     have hPk:SqL K H' p vs:=hP H' Ek.same
     by_cases hlt:k<vs.length
     case neg=>
      left
      have:ds.drop k=[]:=drop_eq_nil_of_le (by omega)
      rw [this] at hw;exact ⟨⟨vs,hPk,by omega⟩,hw σ' H' Fk (Ek.unbase sHe)⟩
     case pos=>
      right
      have hv:vs[k]?=some vs[k]:=getElem?_eq_getElem hlt
      have hkd:k<ds.length:=by omega
      have hd:ds[k]?=some ds[k]:=getElem?_eq_getElem hkd
      have hdr:ds.drop k=ds[k]::ds.drop (k+1):=drop_eq_getElem_cons hkd
      rw [hdr] at hw;generalize hdk:ds[k]=d at hd hw
      generalize hvk:vs[k]=v at hv
      simp only [qo] at hw
      by_cases hi:i<Γk.length/\j<Γk.length
      case neg=>rw [if_neg hi] at hw;exact hw.elim
      rw [if_pos hi] at hw;refine ⟨⟨vs,v,hPk,hv⟩,fun σ2 H2=>∃Γk Fk,EnvOk K (bA H1 Fs1.flatten) O Fk H2 σ2 Γk/\jM K W He O D (qo i j body (k+1) (ds.drop (k+1)) Γk),fun σ2 H2 q=>⟨vs.length-(k+1),by omega,rfl,hlt,q⟩,?_⟩
      rintro x Hx ⟨T,v',rfl,hTn,rfl,hv'⟩
      have ev:v'=v:=Option.some.inj ((hv' vs hPk).symm.trans hv)
      subst ev;refine ⟨T,[.int k,v'],rfl,.of cB,rfl,.int k,[v'],rfl,v',[],rfl,rfl,?_⟩
      have Eg:=Ek.grow (cu (o:=.tup [.int k,v']) hTn)
      have rep:Rep K (bA (upd H' T (.tup [.int k,v'])) (O++Fk.flatten)) v' d:=by
       refine (hr.2 k v' d hv hd).mono fun b o hb=>?_
       have hb1:bA H1 Fs1.flatten b=some o:=sub_hid b o hb
       have hbO:b∉O:=fun z=>by
        unfold bA at hb;rw [if_pos (mem_append_left _ z)] at hb
        cases hb
       have hbF:b∉Fk.flatten:=fun z=>by
        have:=Ek.fresh b z
        rw [hb1] at this
        cases this
       exact jc (Eg.same b o hb1) fun z=>(List.mem_append.mp z).elim hbO hbF
      have Ep:=EnvOk.put (G:=[]) (i:=i) (p:=⟨.leaf,.int (k:Nat)⟩) (v:=.int k) Eg (.leaf (.int _)) rfl (fun a ha=>by simp at ha) hi.1
      have fk:∀a∈O++(Fk.set i []).flatten,a∈O++Fk.flatten:=fun a ha=>by
       rcases List.mem_append.mp ha with z | z
       ·exact mem_append_left _ z
       ·obtain ⟨F,hF⟩:=Eg.lt hi.1
        have:=(lM (G:=[]) hF).mem_iff.mp (mem_append_right _ z)
        exact mem_append_right _ (by simpa using this)
      have Eq:=EnvOk.put (G:=[]) (i:=j) (p:=⟨.leaf,d⟩) (v:=v') Ep (.leaf (rep.mono (oH (Same.refl _) fun a ha=>.inl (fk a ha)))) rfl (fun a ha=>by simp at ha) (by rw [length_set];exact hi.2)
      refine ⟨bA H1 Fs1.flatten,O,_,_,Eq,?_⟩
      cases eb:body ((Γk.set i (some ⟨.leaf,.int (k:Nat)⟩)).set j (some ⟨.leaf,d⟩)) with
      | nx Γ'=>rw [eb] at hw;exact fun σ2 H2 F2 E2=>⟨Γ',F2,E2,hw⟩
      | ct Γ'=>rw [eb] at hw;exact fun σ2 H2 F2 E2=>⟨Γ',F2,E2,hw⟩
      | bk Γ'=>rw [eb] at hw;exact fun σ2 H2 F2 E2=>hw σ2 H2 F2 (E2.unbase sHe)
      | rt p=>rw [eb] at hw;exact fun u H2 G r=>hw u H2 G (r.unbase sHe)
      | er c Γ'=>rw [eb] at hw;exact fun σ2 H2 F2 E2=>hw σ2 H2 F2 (E2.unbase sHe)
      | no=>rw [eb] at hw;exact hw
  | _=>exact h.elim
end
def qz (i j:Nat) (fc:FB) (fe:F1) (s:Sh):Nat->List PySem.PyData->Ev->List PySem.PyData->Out (List PySem.PyData)
 | _,[],Γ,acc=>.ok acc Γ
 | k,d::r,Γ,acc=>match fc ((Γ.set i (some ⟨.leaf,.int (k:Nat)⟩)).set j (some ⟨.leaf,d⟩)) with
  | .ok true Γ1=>(match fe Γ1 with
   | .ok p Γ2=>if T.coer s p&&decide (acc.length<sizeLine) then qz i j fc fe s (k+1) r ((Γ2.set i none).set j none) (acc++[p.d]) else .no
   | _=>.no)
  | .ok false Γ1=>if acc.length<sizeLine then qz i j fc fe s (k+1) r ((Γ1.set i none).set j none) acc else .no
  | _=>.no
def um:Option (Option PV)->Bool
 | some none=>true
 | _=>false
def ya (s:Sh) (i j:Nat) (fa:F1) (fc:FB) (fe:F1):F1:=fun Γ=>(aJ fa Γ).bind fun t Γ1=>if um Γ1[i]?&&um Γ1[j]?&&!s.isView then (match qz i j fc fe s 0 t.ds Γ1 [] with
 | .ok ds Γ2=>.ok ⟨.lst s,.list ds⟩ Γ2
 | _=>.no) else .no
theorem gH {o:Option (Option PV)} (h:um o=true):o=some none:=by
 unfold um at h;split at h
 ·rfl
 ·cases h
section
variable {K:Fg} {He H H1 H2:Hp} {O G:List Addr} {Fs Fs1 Fs2:List (List Addr)} {σ:St} {Γ Γ1 Γ2:Ev}
theorem rh {Γ:Ev} {i j m:Nat} {p:PV} (h:((Γ.set i none).set j none)[m]?=some (some p)):m≠i/\m≠j/\Γ[m]?=some (some p):=by
 obtain ⟨h1,h2⟩:=DK h;obtain ⟨h3,h4⟩:=DK h2;exact ⟨h3,h1,h4⟩
theorem EnvOk.forget2 {i j:Nat} {x y:Option V} (E:EnvOk K He O Fs H (((aP [i,j] σ).set i x).set j y) Γ):EnvOk K He O Fs H (aP [i,j] σ) ((Γ.set i none).set j none):=by
 refine ⟨by have:=E.len1;simpa using this,by have:=E.len2;simpa using this,E.same,E.nd,E.inH,E.fresh,fun m q hq=>?_⟩
 obtain ⟨h1,h2,h3⟩:=rh hq;obtain ⟨w1,v',F',e1,e2,e3⟩:=E.slot m q h3;rw [getElem?_set_ne (Ne.symm h2),getElem?_set_ne (Ne.symm h1)] at e1;exact ⟨w1,v',F',e1,e2,e3⟩
theorem EnvOk.blank2 {i j:Nat} (E:EnvOk K He O Fs H σ Γ) (hi:Γ[i]?=some none) (hj:Γ[j]?=some none):EnvOk K He O Fs H (aP [i,j] σ) Γ:=by
 refine ⟨by rw [xp];exact E.len1,E.len2,E.same,E.nd,E.inH,E.fresh,fun m q hq=>?_⟩
 obtain ⟨w1,v',F',e1,e2,e3⟩:=E.slot m q hq;refine ⟨w1,v',F',?_,e2,e3⟩
 rw [Fb (fun z=>?_)]
 ·exact e1
 ·simp only [mem_cons,not_mem_nil,or_false] at z
  rcases z with z | z
  ·rw [z,hi] at hq;cases hq
  ·rw [z,hj] at hq;cases hq
theorem EnvOk.unblank2 {i j:Nat} (E:EnvOk K He O Fs H (aP [i,j] σ) Γ):EnvOk K He O Fs H σ Γ:=by
 refine ⟨by have:=E.len1;rw [xp] at this;exact this,E.len2,E.same,E.nd,E.inH,E.fresh,fun m q hq=>?_⟩
 obtain ⟨w1,v',F',e1,e2,e3⟩:=E.slot m q hq;exact ⟨w1,v',F',(DF e1).2,e2,e3⟩
theorem kT {i:Nat} {a:Addr} (hi:i<Fs.length) (h:a∈(Fs.set i []).flatten):a∈Fs.flatten:=by
 have hF:Fs[i]?=some (Fs[i]'hi):=getElem?_eq_getElem _
 have:=(lM (G:=[]) hF).mem_iff.mp (mem_append_right _ h)
 simpa using this
structure De (K:Fg) (He:Hp) (O:List Addr) (Fs1:List (List Addr)) (H1:Hp) (σ:St) (i j:Nat) (s:Sh) (A0:Addr) (n:Nat) (ys:List V) (H:Hp) (Γk:Ev) (Fk Gs:List (List Addr)) (acc:List PySem.PyData):Prop where
 env:EnvOk K He (A0::Gs.flatten++O) Fk H (aP [i,j] σ) Γk
 same:Same H1 H
 at_:H A0=some (.lst ys)
 new:∀a∈Gs.flatten++Fk.flatten,a∈Fs1.flatten\/H1 a=none
 l1:ys.length=acc.length
 l2:Gs.length=acc.length
 own:∀(m:Nat) v d G,ys[m]?=some v->acc[m]?=some d->Gs[m]?=some G->Own K (A0::Gs.flatten++O++Fk.flatten) H s G v d
 len:Γk.length=n
end
section
variable {K:Fg} {W:XW} {σ:St} {H:Hp} {Q:VK} {fa fe:F1} {fc:FB} {s:Sh} {i j:Nat}
theorem rH (hij:i≠j) (h:tE K W (ya s i j fa fc fe) σ H Q):dh [i,j] (sY K (tA K W (ab fa af))) (wa K 2 (gM (gName i) (gM (gName j) wc))) (tT K W0 fc) (tE K W0 fe) σ H Q:=by
 obtain ⟨He,O,Fs,Γ,E,h⟩:=h;refine Bo ⟨He,O,Fs,Γ,E,?_⟩
 unfold ya aJ at h
 cases e:fa Γ with
 | er c Γ1=>rw [e] at h;exact h
 | no=>rw [e] at h;exact h
 | ok p Γ1=>
  rw [e] at h;intro v H1 G Fs1 A;obtain ⟨sp,d⟩:=p
  cases d with
  | list ds=>
   have h:Wants K W He O Fs H σ Q ((if du ⟨sp,.list ds⟩ ds then Out.ok (⟨ds,!sp.isView⟩:Er) Γ1 else .no).bind fun t Γ1=>if um Γ1[i]?&&um Γ1[j]?&&!s.isView then (match qz i j fc fe s 0 t.ds Γ1 [] with | .ok ds Γ2=>.ok ⟨.lst s,.list ds⟩ Γ2 | _=>.no) else .no):=h
   cases hc:du ⟨sp,.list ds⟩ ds with
   | false=>rw [hc] at h;exact h.elim
   | true=>
    rw [hc] at h;have h:Wants K W He O Fs H σ Q (if um Γ1[i]?&&um Γ1[j]?&&!s.isView then (match qz i j fc fe s 0 ds Γ1 [] with | .ok ds Γ2=>.ok ⟨.lst s,.list ds⟩ Γ2 | _=>.no) else .no):=h
    by_cases hn:(um Γ1[i]?&&um Γ1[j]?&&!s.isView)=true
    case neg=>rw [if_neg hn] at h;exact h.elim
    rw [if_pos hn] at h;simp only [Bool.and_eq_true,Bool.not_eq_true'] at hn
    obtain ⟨⟨hni,hnj⟩,hsv⟩:=hn;have hni:=gH hni
    have hnj:=gH hnj
    cases eg:qz i j fc fe s 0 ds Γ1 [] with
    | er c Γ'=>rw [eg] at h;exact h.elim
    | no=>rw [eg] at h;exact h.elim
    | ok ds' Γ2=>
     rw [eg] at h;have h:Wants K W He O Fs H σ Q (.ok ⟨.lst s,.list ds'⟩ Γ2):=h
     obtain ⟨p,vs,rfl,hq,hst,hr⟩:=A.own.items (O':=O++Fs1.flatten) hc fI A.disj
     have E1:=A.go
     have hlen:vs.length=ds.length:=hr.1
     have hi:i<Γ1.length:=(List.getElem?_eq_some_iff.mp hni).1
     have hj:j<Γ1.length:=(List.getElem?_eq_some_iff.mp hnj).1
     refine ⟨p,rfl,⟨vs,hq⟩,fun A0 hD=>?_⟩
     have hHeD:He A0=none:=E1.same.free hD
     have E0':EnvOk K He (A0::([]:List (List Addr)).flatten++O) Fs1 (upd H1 A0 (.lst [])) (aP [i,j] σ) Γ1:=
      (E1.blank2 hni hnj).hide (G:=[A0]) (cu hD) (by simp) (fun a ha=>by simp at ha;rw [ha];exact hD) (fun a ha=>by simp at ha;rw [ha,cB];exact Option.some_ne_none _)
     refine ⟨fun k m ys H'=>m=vs.length-k/\k<=vs.length/\∃Γk Fk Gs acc,De K He O Fs1 H1 σ i j s A0 Γ1.length ys H' Γk Fk Gs acc/\qz i j fc fe s k (ds.drop k) Γk acc=.ok ds' Γ2,⟨vs.length,by simp,Nat.zero_le _,Γ1,Fs1,[],[],⟨E0',cu hD,cB,fun a ha=>.inl (by simpa using ha),rfl,rfl,fun m v d G h1=>by simp at h1,rfl⟩,by simpa using eg⟩,?_⟩
     rintro k m ys H' ⟨rfl,hk,Γk,Fk,Gs,acc,g,eg'⟩
     refine ⟨g.at_,?_⟩
     have hPk:SqL K H' p vs:=g.same.seq hq
     by_cases hlt:k<vs.length
     case neg=>
      left
      have:ds.drop k=[]:=drop_eq_nil_of_le (by omega)
      rw [this] at eg';have eg'':(Out.ok acc Γk:Out (List PySem.PyData))=.ok ds' Γ2:=eg'
      injection eg'' with e1 e2
      subst e1;subst e2;refine ⟨⟨vs,hPk,by omega⟩,?_⟩
      obtain ⟨n1',_,n3'⟩:=List.nodup_append.mp g.env.ndO;refine h (.ref A0) H' (A0::Gs.flatten) Fk ⟨A.same.trans g.same,g.env.unblank2,fun a ha=>?_,?_⟩
      ·have up:a∈Fs1.flatten\/H1 a=none->a∈Fs.flatten\/H a=none:=fun z=>z.elim (fun y=>A.newF a y) fun y=>.inr (A.same.free y)
       rcases List.mem_append.mp ha with z | z
       ·rcases List.mem_cons.mp z with z | z
        ·exact up (.inr (by rw [z];exact hD))
        ·exact up (g.new a (mem_append_left _ z))
       ·exact up (g.new a (mem_append_right _ z))
      ·exact .lst hsv g.at_ g.l1 g.l2 n1' fun m v d G h1 h2 h3=>g.own m v d G h1 h2 h3
     case pos=>
      right
      have hv:vs[k]?=some vs[k]:=getElem?_eq_getElem hlt
      have hkd:k<ds.length:=by omega
      have hd:ds[k]?=some ds[k]:=getElem?_eq_getElem hkd
      have hdr:ds.drop k=ds[k]::ds.drop (k+1):=drop_eq_getElem_cons hkd
      rw [hdr] at eg';generalize hdk:ds[k]=d at hd eg'
      generalize hvk:vs[k]=v at hv
      simp only [qz] at eg'
      have hik:i<Γk.length:=by rw [g.len];exact hi
      have hjk:j<Γk.length:=by rw [g.len];exact hj
      have hsl:ys.length<sizeLine:=by
       rw [g.l1]
       cases ec:fc ((Γk.set i (some ⟨.leaf,.int (k:Nat)⟩)).set j (some ⟨.leaf,d⟩)) with
       | no=>rw [ec] at eg';cases eg'
       | er c Γ'=>rw [ec] at eg';cases eg'
       | ok b Γa=>
        rw [ec] at eg'
        cases b with
        | false=>
         dsimp only at eg'
         split at eg'
         ·assumption
         ·cases eg'
        | true=>
         dsimp only at eg'
         split at eg'
         ·split at eg'
          ·rename_i z
           simp only [Bool.and_eq_true,decide_eq_true_eq] at z
           exact z.2
          ·cases eg'
         ·cases eg'
      refine ⟨⟨vs,v,hPk,hv⟩,hsl,?_⟩
      rintro x Hx ⟨T,v',rfl,hTn,rfl,hv'⟩
      have ev:v'=v:=Option.some.inj ((hv' vs hPk).symm.trans hv)
      subst ev;refine ⟨T,[.int k,v'],rfl,.of cB,rfl,.int k,[v'],rfl,v',[],rfl,rfl,?_⟩
      have sT:Same H' (upd H' T (.tup [.int k,v'])):=cu hTn
      have Eg:=g.env.grow sT
      have rep:Rep K (bA (upd H' T (.tup [.int k,v'])) (A0::Gs.flatten++O++Fk.flatten)) v' d:=(hr.2 k v' d hv hd).mono (oH (g.same.trans sT) fun a ha=>by
       rcases List.mem_append.mp ha with z | z
       ·rcases List.mem_append.mp z with z | z
        ·rcases List.mem_cons.mp z with z | z
         ·rw [z];exact .inr hD
         ·exact (g.new a (mem_append_left _ z)).elim (fun y=>.inl (mem_append_right _ y)) .inr
        ·exact .inl (mem_append_left _ z)
       ·exact (g.new a (mem_append_right _ z)).elim (fun y=>.inl (mem_append_right _ y)) .inr)
      have lF:Fk.length=Γk.length:=g.env.len2
      have Ep:=EnvOk.put (G:=[]) (i:=i) (p:=⟨.leaf,.int (k:Nat)⟩) (v:=.int k) Eg (.leaf (.int _)) rfl (fun a ha=>by simp at ha) hik
      have fk:∀a∈(Fk.set i []).flatten,a∈Fk.flatten:=fun a ha=>kT (by omega) ha
      have Eq:=EnvOk.put (G:=[]) (i:=j) (p:=⟨.leaf,d⟩) (v:=v') Ep (.leaf (rep.mono (oH (Same.refl _) fun a ha=>.inl (by
       rcases List.mem_append.mp ha with z | z
       ·exact mem_append_left _ z
       ·exact mem_append_right _ (fk a z))))) rfl (fun a ha=>by simp at ha) (by rw [length_set];exact hjk)
      have fkk:∀a∈((Fk.set i []).set j []).flatten,a∈Fk.flatten:=fun a ha=>fk a (kT (by rw [length_set];omega) ha)
      refine ⟨⟨by rw [length_set,length_set],fun m u hm=>?_⟩,?_⟩
      ·have:=(DF hm).1
       simp only [mem_cons,not_mem_nil,or_false,not_or] at this
       rw [getElem?_set_ne (Ne.symm this.2),getElem?_set_ne (Ne.symm this.1)];exact hm
      refine ⟨He,_,_,_,Eq,?_⟩
      cases ec:fc ((Γk.set i (some ⟨.leaf,.int (k:Nat)⟩)).set j (some ⟨.leaf,d⟩)) with
      | no=>rw [ec] at eg';cases eg'
      | er c Γ'=>rw [ec] at eg';cases eg'
      | ok b Γa=>
       rw [ec] at eg';intro H3 Fs3 s3' E3 n3
       have s3:Same H' H3:=sT.trans s3'
       have lena:Γa.length=Γ1.length:=by
        have:=E3.len1
        rw [length_set,length_set,xp,E1.len1] at this;exact this.symm
       have n3':∀a∈Fs3.flatten,a∈Fs1.flatten\/H1 a=none:=fun a ha=>(n3 a ha).elim (fun z=>g.new a (mem_append_right _ (fkk a z))) fun z=>.inr (g.same.free (sT.free z))
       have n3k:∀a∈Fs3.flatten,a∈Fk.flatten\/H' a=none:=fun a ha=>(n3 a ha).elim (fun z=>.inl (fkk a z)) fun z=>.inr (sT.free z)
       cases b with
       | false=>
        dsimp only at eg'
        split at eg'
        case isFalse=>cases eg'
        refine cX ⟨vs.length-(k+1),by omega,rfl,hlt,(Γa.set i none).set j none,Fs3,Gs,acc,⟨E3.forget2,g.same.trans s3,s3 _ _ g.at_,fun a ha=>?_,g.l1,g.l2,fun m v d G h1 h2 h3=>(g.own m v d G h1 h2 h3).mono s3 fun a ha=>?_,by rw [length_set,length_set];exact lena⟩,eg'⟩
        ·rcases List.mem_append.mp ha with z | z
         ·exact g.new a (mem_append_left _ z)
         ·exact n3' a z
        ·rcases List.mem_append.mp ha with z | z
         ·exact .inl (mem_append_left _ z)
         ·exact (n3k a z).elim (fun y=>.inl (mem_append_right _ y)) .inr
       | true=>
        refine dq ⟨He,_,_,_,E3,?_⟩
        dsimp only at eg'
        cases ee:fe Γa with
        | no=>rw [ee] at eg';cases eg'
        | er c Γ'=>rw [ee] at eg';cases eg'
        | ok p Γb=>
         rw [ee] at eg';dsimp only at eg'
         split at eg'
         case isFalse=>cases eg'
         rename_i hco;simp only [Bool.and_eq_true,decide_eq_true_eq] at hco
         obtain ⟨hco,_⟩:=hco;intro u H4 G Fs4 A4;have lenb:Γb.length=Γ1.length:=by
          have:=A4.env.len1
          rw [length_set,length_set,xp,E1.len1] at this;exact this.symm
         have at4:H4 A0=some (.lst ys):=A4.same _ _ (s3 _ _ g.at_)
         have s14:Same H1 H4:=(g.same.trans s3).trans A4.same
         have new4:∀a∈G++Fs4.flatten,a∈Fs1.flatten\/H1 a=none:=fun a ha=>(A4.new a ha).elim (n3' a) fun z=>.inr ((g.same.trans s3).free z)
         have hG':∀a∈aK s G,a∈G:=fun a ha=>FC ha
         obtain ⟨k1,k2,k3⟩:=List.nodup_append.mp A4.env.ndO;have ndk:(aK s G).Nodup:=by
          cases s<;>first | exact nodup_nil | exact k1
         have pmO:(A0::(Gs++[aK s G]).flatten++O).Perm (aK s G++(A0::Gs.flatten++O)):=by
          rw [uE];show (A0::((Gs.flatten++aK s G)++O)).Perm _
          refine List.Perm.trans ?_ List.perm_middle.symm
          refine List.Perm.cons _ ?_
          rw [append_assoc];exact ke _ _ _
         have E5:EnvOk K He (aK s G++(A0::Gs.flatten++O)) Fs4 H4 (((aP [i,j] σ).set i (some (.int k))).set j (some v')) Γb:=A4.env.drop (fun a ha=>by
          rcases List.mem_append.mp ha with z | z
          ·exact mem_append_left _ (hG' a z)
          ·exact mem_append_right _ z) (List.nodup_append.mpr ⟨ndk,k2,fun a ha b hb=>k3 a (hG' a ha) b hb⟩)
         have E6:=(E5.perm pmO).forget2
         have hDin:A0∈A0::(Gs++[aK s G]).flatten++O:=mem_cons_self
         have E7:=E6.mutO (o:=.lst (ys++[u])) hDin at4 hHeD
         have subH:∀a∈A0::(Gs++[aK s G]).flatten++O++Fs4.flatten,a∈G++(A0::Gs.flatten++O)++Fs4.flatten:=fun a ha=>by
          rcases List.mem_append.mp ha with z | z
          ·rcases List.mem_append.mp (pmO.mem_iff.mp z) with y | y
           ·exact mem_append_left _ (mem_append_left _ (hG' a y))
           ·exact mem_append_left _ (mem_append_right _ y)
          ·exact mem_append_right _ z
         have Dnot:∀{m:Nat} {Gj:List Addr},Gs[m]?=some Gj->A0∉Gj:=fun {m Gj} hj z=>by
          have nd:=g.env.ndO
          exact (List.nodup_cons.mp nd).1 (mem_append_left _ (fG hj z))
         refine ⟨at4,vs.length-(k+1),by omega,rfl,hlt,(Γb.set i none).set j none,Fs4,Gs++[aK s G],acc++[p.d],⟨E7,fun b o hb=>?_,cB,fun a ha=>?_,by simp [g.l1],by simp [g.l2],fun m w d' G' h1 h2 h3=>?_,by rw [length_set,length_set];exact lenb⟩,eg'⟩
         ·rw [bE (jQ hb hD)]
          exact s14 b o hb
         ·rcases List.mem_append.mp ha with z | z
          ·rw [uE] at z
           rcases List.mem_append.mp z with z | z
           ·exact g.new a (mem_append_left _ z)
           ·exact new4 a (mem_append_left _ (hG' a z))
          ·exact new4 a (mem_append_right _ z)
         ·by_cases hm:m<ys.length
          ·rw [getElem?_append_left hm] at h1
           rw [getElem?_append_left (by rw [<-g.l1];exact hm)] at h2
           rw [getElem?_append_left (by rw [g.l2,<-g.l1];exact hm)] at h3
           have o1:=g.own m w d' G' h1 h2 h3
           have o2:=o1.mono (O':=A0::(Gs++[aK s G]).flatten++O++Fs4.flatten) (s3.trans A4.same) fun a ha=>by
            have up:a∈G++Fs4.flatten->a∈A0::Gs.flatten++O++Fk.flatten\/H' a=none:=fun z=>(A4.new a z).elim (fun y=>(n3k a y).elim (fun y=>.inl (mem_append_right _ y)) .inr) fun y=>.inr (s3.free y)
            rcases List.mem_append.mp (subH a ha) with z | z
            ·rcases List.mem_append.mp z with z | z
             ·exact up (mem_append_left _ z)
             ·exact .inl (mem_append_left _ z)
            ·exact up (mem_append_right _ z)
           exact o2.mut hsv (mem_append_left _ hDin) (Dnot h3) at4
          ·have hm':m=ys.length:=by
            have:=(List.getElem?_eq_some_iff.mp h1).1
            rw [length_append,length_singleton] at this;omega
           subst hm'
           rw [getElem?_append_right (Nat.le_refl _),Nat.sub_self] at h1;rw [getElem?_append_right (by rw [g.l1];exact Nat.le_refl _),show ys.length-acc.length=0 by rw [g.l1];exact Nat.sub_self _] at h2
           rw [getElem?_append_right (by rw [g.l2,g.l1];exact Nat.le_refl _),show ys.length-Gs.length=0 by rw [g.l2,g.l1];exact Nat.sub_self _] at h3
           cases h1
           cases h2
           cases h3;have o3:=A4.own.coer (s:=s) (O':=A0::(Gs++[aK s G]).flatten++O++Fs4.flatten) hco subH fun a ha hO=>by
            cases s with
            | leaf=>
             exfalso
             have hO':a∈(A0::Gs.flatten++O)++Fs4.flatten:=by
              rw [uE] at hO;simpa [aK] using hO
             rcases List.mem_append.mp hO' with z | z
             ·exact k3 a ha a z rfl
             ·have nd:=A4.env.nd
              exact (List.nodup_append.mp nd).2.2 a (mem_append_left _ ha) a z rfl
            | view=>cases hsv
            | lst s=>exact ha
            | tup ss=>exact ha
           refine o3.mut hsv (mem_append_left _ hDin) (fun z=>?_) at4
           exact k3 A0 (hG' A0 z) A0 mem_cons_self rfl
  | _=>exact h.elim
end
def xX (N:List Str) (is:List Nat) (cs:List Nat) (sc:Scope):Bool:=
 decide (sc.kind=.function)&&(sc.names.all fun p=>!decide (p.2=.free)||cs.any fun j=>decide (N[j]?=some p.1)) &&
 ((List.range N.length).all fun j=>is.contains j||(sc.names.all fun p=>!decide (some p.1=N[j]?)||(!decide (p.2=.local)&&!decide (p.2=.cell)))) &&
 (sc.names.all fun p=>!decide (p.2=.local)||decide (sc.names.lookup p.1=some .local)) &&
 (sc.names.all fun p=>!decide (p.2=.free)||sc.names.all fun q=>!decide (q.1=p.1)||!decide (q.2=.cell))
theorem BA {X:Cx} {N gl:List Str} {vs cs ls lo gs is:List Nat} {scope:Scope} (S:Cp X N gl vs cs ls lo gs) (h:xX N is cs scope=true):cF X.N is X.env.scope scope:=by
 unfold xX at h;simp only [Bool.and_eq_true,decide_eq_true_eq,all_eq_true,Bool.or_eq_true,Bool.not_eq_true',decide_eq_false_iff_not,any_eq_true,mem_range] at h
 obtain ⟨⟨⟨⟨h0,h1⟩,h2⟩,h3⟩,h4⟩:=h;refine ⟨h0,fun n hn=>?_,fun j x e hj=>?_,fun x hx e=>?_,fun n hn hc=>?_⟩
 ·rcases h1 _ hn with z | ⟨j,hj,e⟩
  ·exact absurd rfl z
  ·exact S.cel j n e (by simpa using hj)
 ·rw [S.hN] at e
  rcases h2 j (List.getElem?_eq_some_iff.mp e).1 with z | z
  ·simpa using z
  ·exfalso
   rcases hj with y | y
   ·rcases z _ y with w | w
    ·exact w e.symm
    ·exact w.1 rfl
   ·rcases z _ y with w | w
    ·exact w e.symm
    ·exact w.2 rfl
 ·rcases h3 x hx with z | z
  ·exact absurd e z
  ·exact z
 ·rcases h4 _ hn with z | z
  ·exact z rfl
  ·rcases z _ hc with w | w
   ·exact w rfl
   ·exact w rfl
end T
namespace TQ
open PySem PySem.Spec L2 T
open PyProof.Rows hiding St
section
variable {X:Cx} {N gl:List Str} {vs cs ls lo gs:List Nat} {W:XW} {a b c e:Expr} {es:List Expr} {pos p:Pos} {fa fb fc:F1} {fl:FL} {ga gb:FB} {g1 g2 g:FS}
theorem uK {st:Stmt}:Q (PS X st (tS X.K W Gm)):=⟨fun pins s σ H D I h=>by
 obtain ⟨He,O,Fs,Γ,E,h⟩:=h;exact h.elim⟩
theorem oI (ha:Q (PE X e (tE X.K W fa))) (hs:swapsWith e none pos.line X.env=pure false):Q (PS X (.Expr e pos) (tS X.K W (cR fa))):=⟨have ha:=ha.p;dH (yf ha hs) fun _ _ _=>vm⟩
theorem qC {X:Cx} {N gl:List Str} {vs cs ls lo gs:List Nat} {W:XW} {a:Expr} {pos p p2:Pos} {fa:F1} {c:String} {x:Str} (S:Cp X N gl vs cs ls lo gs) (j k:Nat) (hj:gl[j]?=some ("isinstance":Str)) (hg:gs.contains j=true) (hk:gl[k]?=some x) (hg2:gs.contains k=true) (hc:kinds.contains c=true) (hv:bootBuiltins x=some (.type c)) (hm:X.mg "isinstance"=none) (hm2:X.mg x=none) (ha:Q (PE X a (tE X.K W fa))) (hs:starEach [a,.Name x p2] X.env=(false,eval a X.env)::starEach [.Name x p2] X.env) (hs2:starEach [.Name x p2] X.env=(false,eval (.Name x p2) X.env)::starEach [] X.env) (hpl:(backTo pos (starEach [.Name x p2] X.env)).any (·.1)=false):Q (PE X (.Call (.Name "isinstance" p) [a,.Name x p2] [] pos) (tE X.K W (bW c fa))):=⟨have ha:=ha.p;bc (xk (t4 (by simpa using hc)) (S.g hj hg).1 hm jC (dP ha (dP (vE (v:=.ty c) (S.g hk hg2).1 hm2 hv rfl (S.g hk hg2).2.2 (S.g hk hg2).2.1) fU hs2) hs) (S.g hj hg).2.2 (S.g hj hg).2.1 hs hpl) fun _ _ _=>yR⟩
theorem lX (n:Nat) {body:List Stmt} (hp:PassesOwn (model X.prog X.w) X.A X.env X.xe) (hc:Q (PT X c (tT X.K W ga))) (hb:Q (PSs X body (tS X.K W g))):Q (PS X (.While c body [] pos) (tS X.K W (xg n ga g))):=⟨have hc:=hc.p;have hb:=hb.p;dH (kd hp hc hb) fun _ _ _=>rB⟩
theorem ma (S:Cp X N gl vs cs ls lo gs) (i:Nat) {x:Str} {spos apos cpos:Pos} (hi:N[i]?=some x) (hv:vs.contains i=true) (hk:Q (PE X b (tE X.K W fb))) (ha:Q (PE X a (tE X.K W fa))) (hx:oC b) (hs:starEach [a] X.env=[(false,eval a X.env)]) (hbase:attributeBase (.Subscript (.Name x p) b spos) "append" X.env (eval (.Subscript (.Name x p) b spos) X.env)=eval (.Subscript (.Name x p) b spos) X.env) (hline:(apos.endLine==cpos.line)=true) (hfew:((backTo cpos (starEach [a] X.env)).all (fun x=>!x.1)&&(backToKw cpos (keywordEach [] X.env)).all (fun x=>x.1.isSome)
   && decide ([a].length+([]:List Keyword).length+(if ([]:List Keyword).isEmpty then 0 else 1)<30))=true) (hsw:swapsWith (.Call (.Attribute (.Subscript (.Name x p) b spos) "append" apos) [a] [] cpos) none pos.line X.env=pure false):Q (PS X (.Expr (.Call (.Attribute (.Subscript (.Name x p) b spos) "append" apos) [a] [] cpos) pos) (tS X.K W (xc i fb fa))):=⟨T.cs_appAt S i hi hv hk.p ha.p hx hs hbase hline hfew hsw⟩
theorem oJ (S:Cp X N gl vs cs ls lo gs) (i j k:Nat) {x y:Str} {px py pt:Pos} {kt:Nat} {body:List Stmt} {g:FS} (hx:N[i]?=some x) (hl:ls.contains i=true) (hy:N[j]?=some y) (hl2:ls.contains j=true) (hk:gl[k]?=some ("enumerate":Str)) (hg:gs.contains k=true) (hm:X.mg "enumerate"=none) (hp:PassesOwn (model X.prog X.w) X.A X.env X.xe) (ha:Q (PE X a (tE X.K W fa))) (hs1:starEach [a] X.env=[(false,eval a X.env)]) (hb:Q (PSs X body (tS X.K W g))) (hs:∀x,foldedSetIterable (.Call (.Name "enumerate" p) [a] [] pos) X.env x=pure x) {fpos:Pos}:Q (PS X (.For (.Tuple [.Name x px,.Name y py] kt pt) (.Call (.Name "enumerate" p) [a] [] pos) body [] fpos) (tS X.K W (iI i j fa g))):=⟨by
 have ha:=ha.p
 have hb:=hb.p
 have hN:X.N.Nodup:=by rw [S.hN];exact S.nd
 exact dH (qx hp S.calm (nN (S.g hk hg).1 hm (da_cons ha da_nil hs1) hs1) (Ey S.calm (AY (jI hN (by rw [S.hN];exact hx) (S.loc i x hx hl).1 (S.loc i x hx hl).2) (AY (jI hN (by rw [S.hN];exact hy) (S.loc j y hy hl2).1 (S.loc j y hy hl2).2) Fn))) hb hs) fun _ _ _=>vi⟩
theorem BE {scope:Scope} {x y:Str} {px py pt cpos:Pos} {kt:Nat} {elt:Expr} {ifs:List Expr} {fe:F1} {fc:FB} {vs' cs' lo' gs':List Nat} (S:Cp X N gl vs cs ls lo gs) (s:Sh) (i j k:Nat) (hij:(i != j)=true) (hx:N[i]?=some x) (hy:N[j]?=some y) (hk:gl[k]?=some ("enumerate":Str)) (hg:gs.contains k=true) (hm:X.mg "enumerate"=none) (h1:xX N [i,j] cs scope=true) (h2:gR N gl vs' cs' [i,j] lo' gs' scope=true) (ha:Q (PE X a (tE X.K W fa))) (hs1:starEach [a] X.env=[(false,eval a X.env)]) (hc:uB X N gl vs' cs' [i,j] lo' gs' fun Y=>Q (PF Y ifs (tT Y.K W0 fc))) (he:uB X N gl vs' cs' [i,j] lo' gs' fun Y=>Q (PE Y elt (tE Y.K W0 fe))) (hs:∀x,foldedSetIterable (.Call (.Name "enumerate" p) [a] [] cpos) X.env x=pure x):Q (PE X (.ListComp elt [⟨.Tuple [.Name x px,.Name y py] kt pt,.Call (.Name "enumerate" p) [a] [] cpos,ifs,0⟩] scope pos) (tE X.K W (ya s i j fa fc fe))):=⟨by
 have ha:=ha.p
 have hc:=fun Y S F=>(hc Y S F).p
 have he:=fun Y S F=>(he Y S F).p
 have B:=fun cells C s₀ H₀ ex=>S.blk h2 cells C s₀ H₀ ex
 have L:=fun cells C s₀ H₀ ex=>(B cells C s₀ H₀ ex).loc i x hx (by simp)
 have L2':=fun cells C s₀ H₀ ex=>(B cells C s₀ H₀ ex).loc j y hy (by simp)
 have hN:X.N.Nodup:=by rw [S.hN];exact S.nd
 exact bc (AS (BA S h1) S.calm (nN (S.g hk hg).1 hm (da_cons ha da_nil hs1) hs1)
  (fun cells C s₀ H₀ ex=>Ey (X:=blk X scope cells C s₀ H₀ ex) S.calm (AY (jI (X:=blk X scope cells C s₀ H₀ ex) (i:=i) hN (by show X.N[i]?=_;rw [S.hN];exact hx) (L cells C s₀ H₀ ex).1 (L cells C s₀ H₀ ex).2) (AY (jI (X:=blk X scope cells C s₀ H₀ ex) (i:=j) hN (by show X.N[j]?=_;rw [S.hN];exact hy) (L2' cells C s₀ H₀ ex).1 (L2' cells C s₀ H₀ ex).2) Fn)))
  (fun cells C s₀ H₀ ex=>hc _ (B cells C s₀ H₀ ex) ⟨rfl,rfl,rfl,rfl,rfl,rfl⟩) (fun cells C s₀ H₀ ex=>he _ (B cells C s₀ H₀ ex) ⟨rfl,rfl,rfl,rfl,rfl,rfl⟩) hs) fun _ _ _=>rH (by simpa using hij)⟩
end
end TQ
namespace L2
open PySem PySem.Spec PyProof.Rows
section
variable {κ:Type} [DecidableEq κ]
def cH (kvs:List (κ×V)) (k:κ):Option V:=(kvs.find? fun kv=>decide (kv.1=k)).map (·.2)
def pe (kvs:List (κ×V)) (k:κ) (v:V):List (κ×V):=
 if (kvs.any fun kv=>decide (kv.1=k))=true then kvs.map (fun kv=>if kv.1=k then (kv.1,v) else kv) else kvs++[(k,v)]
theorem DC {p:κ×V} {r:List (κ×V)} {k:κ} (e:p.1=k):cH (p::r) k=some p.2:=by simp [cH,find?_cons,e]
theorem AZ {p:κ×V} {r:List (κ×V)} {k:κ} (e:¬p.1=k):cH (p::r) k=cH r k:=by simp [cH,find?_cons,e]
theorem DB (k:κ):∀kvs:List (κ×V),(kvs.any fun kv=>decide (kv.1=k))=(cH kvs k).isSome
 | []=>rfl
 | p::r=>by
  rw [List.any_cons];by_cases e:p.1=k
  ·simp only [DC e,decide_eq_true e,Bool.true_or,Option.isSome_some]
  ·rw [AZ e,decide_eq_false e,Bool.false_or];exact DB k r
theorem rS {kvs:List (κ×V)} {k:κ} (v:V) (h:cH kvs k=none):pe kvs k v=kvs++[(k,v)]:=by
 unfold pe;rw [DB,h];exact if_neg (by decide)
theorem RelO.isSome_eq {o:Option V} {u:Option Value} (r:RelO o u):o.isSome=u.isSome:=by
 cases o with
 | none=>cases u with
  | none=>rfl
  | some _=>exact (show False from r).elim
 | some _=>cases u with
  | none=>exact (show False from r).elim
  | some _=>rfl
theorem RelO.getD {o:Option V} {u:Option Value} {d:V} {d':Value} (r:RelO o u) (rd:RelV d d'):RelV (o.getD d) (u.getD d'):=by
 cases o with
 | none=>cases u with
  | none=>exact rd
  | some _=>exact (show False from r).elim
 | some _=>cases u with
  | none=>exact (show False from r).elim
  | some _=>exact r
end
theorem xG {P:Program} {w:World} {k:dv} {u:Value} (r:RelV (kV k) u):(jH P w).is k u=true:=by
 cases k with
 | inl i=>obtain ⟨t,e⟩:=(show ∃t,u=Value.int i t from r);subst e;exact kA P w i t
 | inr x=>obtain ⟨t,e⟩:=(show ∃t,u=Value.str x t from r);subst e;exact kz P w x t
theorem iR {P:Program} {w:World}:∀{ks:List dv} {us:List Value},Vals (ks.map kV) us->ItemsAre (jH P w) ks us
 | [],_,r=>by rw [List.map_nil] at r;cases r;exact .nil
 | k::ks,_,r=>by
  rw [map_cons] at r
  cases r with
  | cons h t=>exact .cons (xG h) (iR t)
section
variable {X:Cx} {pins:List (Addr×Obj)} {σ:St} {H:Hp} {s:Shared} {a:Addr} {y v:V} {u r:Value} {o:Option V} {A:Around} {E:Value->Shared->Prop}
theorem Inv.big (I:Inv X pins σ H s):sysModules<s.heap.objs.size:=by
 have h:mainGlobals<s.heap.objs.size:=(I.mod.glob.keeps I.bk).lt
 exact Nat.lt_trans (by decide) h
theorem ot {h':Heap} {t':Nat} {ob:HO} (I:Inv X pins σ H s) (mu:Dc (H a)) (hs:Heap.SameBut a s.heap h') (he:∃q,h'.get? a=some q) (new:ObjOk X.prog X.w (upd H a ob) h' a ob) :
  Inv X pins σ (upd H a ob) { s with heap:=h',toks:=t' }:=
 I.write (x:=a) (e:=a) mu (.inl rfl) (fun b q hb z=>(hs.2 b hb).trans z) he new
end
def Da (i:Expr):Prop:=∀ov iv,subscripted i false ov iv=operate [ov,iv] (getItem ov iv)
theorem uU {prog:Program} {w:World} {A:Around} {E:Value->Shared->Prop} {s:Shared} {env:Env} {value slice:Expr} {pos:Pos} {T id:String} {Q:Value->Shared->Prop}
  (hl:typeLookup (.type T) "__getitem__"=pure (some (.builtin id))) (hs:Da slice)
  (h:wpAny (model prog w) A (eval value env) (fun o s₁=>wpAny (model prog w) A (eval slice env) (fun i s₂=>s₂.TypeIs o T/\wpAny (model prog w) A (getItem o i) Q E s₂) E s₁) E s) :
  wpAny (model prog w) A (eval (.Subscript value slice pos) env) Q E s:=by
 refine Subscript_ (wpAny_mono h (fun o s₁ h₁=>wpAny_mono h₁ (fun i s₂ h₂=>?_) fun _ _ x=>x) fun _ _ x=>x)
 obtain ⟨hT,h₂⟩:=h₂;unfold subscriptTail;refine wpAny_bind ?_
 rw [getitemInPython_of_ne hT.not_modules];refine wpAny_bind (wpAny_specialOf hT hl ?_)
 have fin:wpAny (model prog w) A (subscripted slice false o i) (fun r s₃=>wpAny (model prog w) A (letTemporaryGo value o r >>= fun _=>pure r) Q E s₃) E s₂:=by
  rw [hs o i];exact wpAny_operating (wpAny_mono h₂ (fun r s₃ h₃=>wpAny_bind (wpAny_letTemporaryGo (wpAny_pure h₃))) fun _ _ x=>x)
 first
  | exact wpAny_pure (wpAny_bind fin)
  | exact wpAny_bind (wpAny_pure (wpAny_bind fin))
  | exact wpAny_bind fin
end L2
namespace T
open PySem PySem.Spec L2
open PyProof.Rows hiding St
def AO:PySem.PyData->Bool
 | .none=>true
 | _=>false
def mJ (neg:Bool):PySem.PyData->PySem.PyData->Option PySem.PyData
 | a,.none=>some (.bool (if neg then !AO a else AO a))
 | _,_=>none
def IM:PySem.PyData->PySem.PyData->Option PySem.PyData
 | .str i,.str j=>if i.length+j.length<=sizeLine then some (.str (i++j)) else none
 | _,_=>none
def Hz (fa fb:F1):F1:=aR fa fun p=>aR fb fun q=>fun Γ=>match p.d,q.d with
 | .list xs,.list ys=>if du p xs&&du q ys&&decide (xs.length+ys.length<=sizeLine) then .ok ⟨.lst .leaf,.list (xs++ys)⟩ Γ else .no
 | _,_=>.no
def IQ (fa fb:F1):F1:=aR fa fun p=>aR fb fun q=>fun Γ=>match p.d,q.d with
 | .tuple xs,.tuple ys=>if !p.s.isView&&du q ys&&!xs.isEmpty&&decide (xs.length+ys.length<=sizeLine) then .ok ⟨.leaf,.tuple (xs++ys)⟩ Γ else .no
 | _,_=>.no
def zY (fa fb:F1):F1:=aR fa fun p=>aR fb fun q=>fun Γ=>match p.d,q.d with
 | .tuple xs,.int k=>if !p.s.isView&&decide (1<=k)&&decide (k<=xs.length) then .ok ⟨.leaf,.tuple (xs.drop k.toNat)⟩ Γ else .no
 | _,_=>.no
section
variable {K:Fg} {W:XW} {σ:St} {H:Hp} {Q:VK} {D:bS} {fa fb:F1} {fl:FL}
theorem vN {He H1:Hp} {O:List Addr} {Fs Fs1:List (List Addr)} {Γ1:Ev} {vs:List V} {ds:List PySem.PyData} {p:Addr} (E:EnvOk K He O Fs1 H1 σ Γ1) (s:Same H H1) (n:∀a∈Fs1.flatten,a∈Fs.flatten\/H a=none)
  (hr:Reps K (bA H1 (O++Fs1.flatten)) vs ds) (hp:H1 p=none):Aft K He O Fs H σ Γ1 ⟨.leaf,.tuple ds⟩ (.ref p) (upd H1 p (.tup vs)) [] Fs1:=by
 refine ⟨s.trans (cu hp),by rw [nil_append];exact E.grow (cu hp),by rw [nil_append];exact n,.leaf ?_⟩
 rw [nil_append];have hn:p∉O++Fs1.flatten:=fun z=>E.inH p z hp
 exact .tup (.of (jc cB hn)) hr.1 fun i v d h1 h2=>(hr.2 i v d h1 h2).mono (oH (cu hp) fun a ha=>.inl ha)
theorem vO {He H1:Hp} {O:List Addr} {Fs Fs1:List (List Addr)} {Γ1:Ev} {v:V} {d:PySem.PyData} (E:EnvOk K He O Fs1 H1 σ Γ1) (s:Same H H1) (n:∀a∈Fs1.flatten,a∈Fs.flatten\/H a=none)
  (hr:Rep K (bA H1 (O++Fs1.flatten)) v d):Aft K He O Fs H σ Γ1 ⟨.leaf,d⟩ v H1 [] Fs1:=
 ⟨s,by rw [nil_append];exact E,by rw [nil_append];exact n,.leaf (by rw [nil_append];exact hr)⟩
def yc (fa:F1):F1:=aR fa fun p Γ=>match p.d with
 | .list ds=>if du p ds then .ok ⟨.leaf,.tuple ds⟩ Γ else .no
 | .tuple ds=>if !p.s.isView then .ok ⟨.leaf,.tuple ds⟩ Γ else .no
 | _=>.no
theorem rC (h:tE K W (yc fa) σ H Q):oQ (fun xs H Q=>∃p ys,xs=[.ref p]/\((SqL K H p ys/\∀l,H l=none->Q (.ref l) (upd H l (.tup ys)))\/(SqT K H p ys/\Q (.ref p) H))) (tA K W (ab fa af)) σ H Q:=by
 refine Bo (QL:=fun xs H1=>∃p ys,xs=[.ref p]/\((SqL K H1 p ys/\∀l,H1 l=none->Q (.ref l) (upd H1 l (.tup ys)))\/(SqT K H1 p ys/\Q (.ref p) H1))) ?_
 refine AL h fun He O Fs Γ1 p v H1 G Fs1 nd A w=>?_
 obtain ⟨s,d⟩:=p
 cases d with
 | list ds=>
  have w:Wants K W He O Fs H σ Q (if du ⟨s,.list ds⟩ ds then .ok ⟨.leaf,.tuple ds⟩ Γ1 else .no):=w
  cases hc:du ⟨s,.list ds⟩ ds with
  | false=>rw [hc] at w;exact w.elim
  | true=>
   rw [hc] at w;obtain ⟨p,vs,rfl,hq,_,hr⟩:=A.own.items (O':=O++Fs1.flatten) hc fI A.disj
   exact ⟨p,vs,rfl,.inl ⟨hq,fun l hl=>w _ _ _ _ (vN A.go A.same A.newF hr hl)⟩⟩
 | tuple ds=>
  have w:Wants K W He O Fs H σ Q (if !s.isView then .ok ⟨.leaf,.tuple ds⟩ Γ1 else .no):=w
  cases hc:s.isView with
  | true=>rw [hc] at w;exact w.elim
  | false=>
   rw [hc] at w;have r1:=A.own.freeze (O':=O++Fs1.flatten) hc fI A.disj
   cases r1 with
   | @tup a vs _ hq hl hr=>exact ⟨a,vs,rfl,.inr ⟨dG hid_le hq,w _ _ _ _ (vO A.go A.same A.newF (.tup hq hl hr))⟩⟩
 | _=>exact w.elim
end
def Hl:List PySem.PyData->Option PySem.PyData
 | [.list ds]=>(intsOf ds).map fun ns=>.int ns.sum
 | _=>none
theorem o6 {K:Fg} {H:Hp} {ws:List V} {ns:List Int} (h:Reps K H ws (ns.map .int)):ws=ns.map V.int:=by
 obtain ⟨hwl,hw⟩:=h;apply ext_getElem?
 intro i;by_cases hi:i<ws.length
 ·have hi2:i<ns.length:=by rw [length_map] at hwl;omega
  have q:=hw i (ws[i]'hi) (.int (ns[i]'hi2)) (getElem?_eq_getElem _) (by rw [getElem?_map,getElem?_eq_getElem hi2];rfl)
  rw [getElem?_eq_getElem hi,getElem?_map,getElem?_eq_getElem hi2];generalize ws[i]'hi=u at q
  cases q;rfl
 ·rw [getElem?_eq_none (by omega),getElem?_eq_none (by rw [length_map] at hwl ⊢;omega)]
def fw (k:Str):List (Str×Int)->Option Int
 | []=>none
 | (x,i)::r=>if k=x then some i else fw k r
def CK (neg:Bool) (tab:List (Str×Int)) (fa:F1):F1:=aR fa fun p Γ=>match p.d with
 | .str k=>.ok ⟨.leaf,.bool (if neg then !(fw k tab).isSome else (fw k tab).isSome)⟩ Γ
 | _=>.no
def xO (tab:List (Str×Int)) (fa:F1):F1:=aR fa fun p Γ=>match p.d with
 | .str k=>(match fw k tab with
  | some i=>.ok ⟨.leaf,.int i⟩ Γ
  | none=>.no)
 | _=>.no
def Hj (i:Nat) (q:PV) (Γ:Ev):Out PV:=match Γ[i]?,q.d with
 | some (some ⟨.lst .leaf,.list ds⟩),.int k=>(match dn ds.length k with
  | some j=>(match ds[j]? with
   | some d=>.ok ⟨.leaf,d⟩ Γ
   | none=>.no)
  | none=>.no)
 | _,_=>.no
def tJ (i:Nat) (fb:F1):F1:=fun Γ=>if EJ Γ[i]? then (fb Γ).bind (Hj i) else .no
section
variable {K:Fg} {W:XW} {σ:St} {H:Hp} {Q:VK} {D:bS} {fa fb:F1} {fl:FL}
def Hn (p:PV):Bool:=match p with
 | ⟨.lst .leaf,.list ds⟩=>ds.all aW
 | _=>false
def zZ (n:Nat) (den:List PySem.PyData->Res) (fl:FL):F1:=fun Γ=>(fl Γ).bind fun ps Γ'=>if ps.length=n then (match den (ps.map (·.d)) with
 | .ok p=>if Hn p then .ok p Γ' else .no
 | _=>.no) else .no
def Ar (i:Nat) (a:Int) (p:PV) (Γ:Ev):OutS:=match p.d with
 | .int b=>if i<Γ.length then .nx (Γ.set i (some ⟨.leaf,.int (a+b)⟩)) else .no
 | _=>.no
def rn (i:Nat) (f:F1):FS:=fun Γ=>match Γ[i]? with
 | some (some ⟨.leaf,.int a⟩)=>g6 f (Ar i a) Γ
 | _=>.no
def Hq (i:Nat) (p:PV) (Γ:Ev):OutS:=match Γ[i]?,p.d with
 | some (some ⟨.lst .leaf,.list ds⟩),.tuple es=>if du p es&&decide (ds.length+es.length<=sizeLine) then .nx (Γ.set i (some ⟨.lst .leaf,.list (ds++es)⟩)) else .no
 | some (some ⟨.lst .leaf,.list ds⟩),.list es=>if du p es&&decide (ds.length+es.length<=sizeLine) then .nx (Γ.set i (some ⟨.lst .leaf,.list (ds++es)⟩)) else .no
 | _,_=>.no
def Gp (i:Nat) (f:F1):FS:=fun Γ=>if EJ Γ[i]? then g6 f (Hq i) Γ else .no
end
end T
namespace TQ
open PySem PySem.Spec L2 T
open PyProof.Rows hiding St
section
variable {X:Cx} {N gl:List Str} {vs cs ls lo gs:List Nat} {W:XW} {a b c e:Expr} {es:List Expr} {pos p:Pos} {fa fb fc:F1} {fl:FL} {ga gb:FB} {g1 g2 g:FS}
theorem fX (S:Cp X N gl vs cs ls lo gs) (j:Nat) (hj:gl[j]?=some ("tuple":Str)) (hg:gs.contains j=true) (hm:X.mg "tuple"=none) (ha:Q (PE X e (tE X.K W fa))) (hs:starEach [e] X.env=[(false,eval e X.env)]):Q (PE X (.Call (.Name "tuple" p) [e] [] pos) (tE X.K W (yc fa))):=⟨have ha:=ha.p;bc (DH iA (S.g hj hg).1 hm EF (da_cons ha da_nil hs) (by decide) (by decide) hs rfl) fun _ _ _=>rC⟩
end
end TQ
namespace T
open PySem PySem.Spec L2
open PyProof.Rows hiding St
def Jr (x:Str):List PySem.PyData:=x.cps.toList.map fun c=>.str ⟨#[c]⟩
def xH (x:Str):FI:=fun Γ=>.ok ⟨Jr x,true⟩ Γ
def xK (x:Str):List PySem.PyData->Option PySem.PyData
 | [.str j]=>match Builtin.Str.occurrences x j 0 x.length 1 with
  | k::_=>some (.int k)
  | []=>none
 | _=>none
def putN:List Nat->List PV->Ev->Option Ev
 | [],[],Γ=>some Γ
 | i::is,p::ps,Γ=>if decide (i<Γ.length)&&!p.s.isView then putN is ps (Γ.set i (some p)) else none
 | _,_,_=>none
def II:List Sh->List PySem.PyData->List PV
 | s::ss,d::ds=>⟨s,d⟩::II ss ds
 | _,_=>[]
def F6 (p:PV):Option (List PV):=match p.s,p.d with
 | .tup ss,.tuple ds=>some (II ss ds)
 | .leaf,.tuple ds=>some (ds.map fun d=>⟨.leaf,d⟩)
 | _,_=>none
def BU (is:List Nat) (f:F1):FS:=g6 f fun p Γ=>match F6 p with
 | some ps=>if ps.length=is.length then (match putN is ps Γ with
  | some Γ'=>.nx Γ'
  | none=>.no) else .no
 | none=>.no
end T
namespace TQ
open PySem PySem.Spec L2 T
open PyProof.Rows hiding St
variable {X:Cx} {N gl:List Str} {vs cs ls lo gs:List Nat} {W:XW} {a:Expr} {pos:Pos} {fa:F1}
variable {X:Cx} {W:XW} {a b:Expr} {fa fb:F1} {p2 pos:Pos}
variable {X:Cx} {N gl:List Str} {vs cs ls lo gs:List Nat} {W:XW} {e a:Expr} {fe fa:F1} {p pos:Pos}
variable {X:Cx} {N gl:List Str} {vs cs ls lo gs:List Nat} {W:XW} {a:Expr} {pos p:Pos} {fa:F1}
variable {X:Cx} {N gl:List Str} {vs cs ls lo gs:List Nat} {W:XW} {a:Expr} {pos p:Pos} {fa:F1}
end TQ
namespace T
open PySem PySem.Spec L2
open PyProof.Rows hiding St
theorem Dy:(1000:Nat)<=sizeLine:=by decide
theorem FO {i:Nat} {fc:FB} {fe:F1} {s:Sh} {c:D->Bool} {f:D->PV} {Γ:Ev} (hΓ:Γ.set i none=Γ):∀(r acc:List D),(∀d∈r,fc (Γ.set i (some ⟨.leaf,d⟩))=.ok (c d) (Γ.set i (some ⟨.leaf,d⟩))) ->
  (∀d∈r,c d=true->fe (Γ.set i (some ⟨.leaf,d⟩))=.ok (f d) (Γ.set i (some ⟨.leaf,d⟩))/\coer s (f d)=true)->acc.length+r.length<=sizeLine->oA i fc fe s r Γ acc=.ok (acc++((r.filter c).map fun d=>(f d).d)) Γ
 | [],acc,_,_,_=>by simp [oA]
 | d::r,acc,hc,he,hl=>by
  have h1:=hc d mem_cons_self
  have hl1:acc.length<sizeLine:=by simp at hl;omega
  have back:(Γ.set i (some ⟨.leaf,d⟩)).set i none=Γ:=by rw [set_set];exact hΓ
  rw [oA,h1]
  cases hcd:c d with
  | false=>
   dsimp only;rw [if_pos hl1,back,FO hΓ r acc (fun d hd=>hc d (mem_cons_of_mem _ hd)) (fun d hd=>he d (mem_cons_of_mem _ hd)) (by simp at hl;omega)]
   rw [List.filter_cons_of_neg (by rw [hcd];exact Bool.false_ne_true)]
  | true=>
   obtain ⟨h2,h3⟩:=he d mem_cons_self hcd;dsimp only;rw [h2];dsimp only;rw [h3,decide_eq_true hl1,Bool.and_self,if_pos rfl,back,FO hΓ r (acc++[(f d).d]) (fun d hd=>hc d (mem_cons_of_mem _ hd)) (fun d hd=>he d (mem_cons_of_mem _ hd)) (by simp at hl ⊢;omega)]
   rw [List.filter_cons_of_pos hcd,map_cons,append_assoc];rfl
theorem FN {s:Sh} {i:Nat} {fi:FI} {fc:FB} {fe:F1} {c:D->Bool} {f:D->PV} {ds:List D} {st:Bool} {Γ:Ev} (hi:fi Γ=.ok ⟨ds,st⟩ Γ) (hl:i<Γ.length) (hs:s.isView=false) (hn:ds.length<=1000)
  (hc:∀d∈ds,fc (Γ.set i (some ⟨.leaf,d⟩))=.ok (c d) (Γ.set i (some ⟨.leaf,d⟩))) (he:∀d∈ds,c d=true->fe (Γ.set i (some ⟨.leaf,d⟩))=.ok (f d) (Γ.set i (some ⟨.leaf,d⟩))/\coer s (f d)=true) :
  ao s i fi fc fe Γ=.ok ⟨.lst s,.list ((ds.filter c).map fun d=>(f d).d)⟩ Γ:=by
 have hb:=Dy
 unfold ao;rw [hi];unfold Out.bind;dsimp only;rw [FO (c:=c) (f:=f) (by rw [set_set]) ds [] (fun d hd=>by rw [set_set];exact hc d hd) (fun d hd=>by rw [set_set];exact he d hd) (by simp;omega)]
 dsimp only;rw [hs,decide_eq_true hl];simp only [Bool.not_false,Bool.and_self,if_true,nil_append,set_set]
 have:Γ.set i (Γ.getD i none)=Γ:=by
  apply yi
  rw [getD_eq_getElem?_getD,getElem?_eq_getElem hl];rfl
 rw [this]
theorem xq {s:Sh} {i:Nat} {fi:FI} {fe:F1} {f:D->PV} {ds:List D} {st:Bool} {Γ:Ev} (hi:fi Γ=.ok ⟨ds,st⟩ Γ) (hl:i<Γ.length) (hs:s.isView=false) (hn:ds.length<=1000)
  (he:∀d∈ds,fe (Γ.set i (some ⟨.leaf,d⟩))=.ok (f d) (Γ.set i (some ⟨.leaf,d⟩))/\coer s (f d)=true) :
  ao s i fi az fe Γ=.ok ⟨.lst s,.list (ds.map fun d=>(f d).d)⟩ Γ:=by
 rw [FN (fc:=az) (c:=fun _=>true) (f:=f) hi hl hs hn (fun d hd=>rfl) fun d hd _=>he d hd,List.filter_eq_self.mpr fun _ _=>rfl]
theorem Fd {P:Nat->Ev->Prop} {i:Nat} {body:FS}:∀(ds:List D) (n:Nat) (Γ:Ev),P n Γ->(∀k d Γ,d∈ds->n<=k->k<n+ds.length->P k Γ->i<Γ.length/\∃Γ',body (Γ.set i (some ⟨.leaf,d⟩))=.nx Γ'/\P (k+1) Γ')->∃Γ',ck i body ds Γ=.nx Γ'/\P (n+ds.length) Γ'
 | [],n,Γ,h,_=>⟨Γ,rfl,h⟩
 | d::r,n,Γ,h,st=>by
  obtain ⟨hi,Γ1,e1,h1⟩:=st n d Γ mem_cons_self (Nat.le_refl _) (by simp) h
  obtain ⟨Γ2,e2,h2⟩:=Fd r (n+1) Γ1 h1 fun k d Γ hd a b c=>st k d Γ (mem_cons_of_mem _ hd) (by omega) (by simp;omega) c
  refine ⟨Γ2,?_,?_⟩
  ·rw [ck,if_pos hi,e1]
   exact e2
  ·rw [length_cons,show n+(r.length+1)=n+1+r.length by omega]
   exact h2
theorem kR {any:Bool} {α:Type} {xs:List α} {f:α->Bool}:uk (xs.map fun x=>.bool (f x))=some (xs.map f):=by
 induction xs with
 | nil=>rfl
 | cons x r ih=>rw [map_cons,uk,ih];rfl
theorem yd {α:Type} {xs:List α} {f:α->Bool}:bN false [.list (xs.map fun x=>.bool (f x))]=some (.bool (xs.all f)):=by
 show Option.map _ (uk _)=_
 rw [kR (any:=false)];simp [List.all_map]
section
variable {Γ Γ1 Γ2:Ev} {fa fb fc:F1} {fl:FL} {p q:PV} {ps:List PV} {d e:D} {s s' s2:Sh} {i j n:Nat}
theorem aC (h:Γ[i]?=some (some ⟨.leaf,d⟩)):ae i Γ=.ok ⟨.leaf,d⟩ Γ:=by unfold ae;rw [h]
theorem eY (h:Γ[i]?=some (some ⟨.lst s,d⟩)):ae i Γ=.ok ⟨.view,d⟩ Γ:=by unfold ae;rw [h]
theorem qy (h:Γ[i]?=some (some p)):aV i Γ=.ok p (Γ.set i none):=by unfold aV;rw [h]
theorem bp:eK d Γ=.ok ⟨.leaf,d⟩ Γ:=rfl
theorem aO {g:D->D->Option D} (ha:fa Γ=.ok p Γ1) (hb:fb Γ1=.ok q Γ2) (hg:g p.d q.d=some d):ax g fa fb Γ=.ok ⟨.leaf,d⟩ Γ2:=by
 unfold ax aR;rw [ha];simp only [Out.bind];rw [hb];simp only [hg]
theorem aL (ha:fa Γ=.ok p Γ1) (hl:fl Γ1=.ok ps Γ2):ab fa fl Γ=.ok (p::ps) Γ2:=by
 unfold ab;rw [ha];simp only [Out.bind];rw [hl]
theorem ak:af Γ=.ok [] Γ:=rfl
theorem b9 {g:List D->Option D} (hl:fl Γ=.ok ps Γ1) (hg:g (ps.map (·.d))=some d):bb g fl Γ=.ok ⟨.leaf,d⟩ Γ1:=by
 unfold bb;rw [hl];simp only [Out.bind];rw [hg]
theorem dO {den:List D->Res} (hl:fl Γ=.ok ps Γ1) (hd:den (ps.map (·.d))=.ok p) (hn:ps.length=n) (hc:ps.all (coer .leaf)=true):ah n den fl Γ=.ok p Γ1:=by
 unfold ah;rw [hl];simp only [Out.bind,hn,hd,hc,if_true]
theorem qq {ds:List D} {k:Int} (ha:fa Γ=.ok ⟨s,.list ds⟩ Γ1) (hb:fb Γ1=.ok ⟨s',.int k⟩ Γ2) (hi:dn ds.length k=some j) (hd:ds[j]?=some d) (hs:lL s j d=some s2):ag fa fb Γ=.ok ⟨s2,d⟩ Γ2:=by
 unfold ag aR;rw [ha];simp only [Out.bind];rw [hb];simp only [hi,hd,hs]
theorem jN {ds:List D} {k:Int} (ha:fa Γ=.ok ⟨s,.tuple ds⟩ Γ1) (hb:fb Γ1=.ok ⟨s',.int k⟩ Γ2) (hi:dn ds.length k=some j) (hd:ds[j]?=some d) (hs:lL s j d=some s2):ag fa fb Γ=.ok ⟨s2,d⟩ Γ2:=by
 unfold ag aR;rw [ha];simp only [Out.bind];rw [hb];simp only [hi,hd,hs]
theorem yo {x:Str} {k:Int} {c:Nat} (ha:fa Γ=.ok ⟨s,.str x⟩ Γ1) (hb:fb Γ1=.ok ⟨s',.int k⟩ Γ2) (hn:x.length<=sizeLine) (hi:cZ x.cps.toList k=some c):ag fa fb Γ=.ok ⟨.leaf,.str ⟨#[c]⟩⟩ Γ2:=by
 unfold ag aR;rw [ha];simp only [Out.bind];rw [hb];simp only [hi,hn,if_true]
theorem qr (hl:fl Γ=.ok ps Γ1) (hs:s.isView=false) (hc:ps.all (coer s)=true) (hn:decide (ps.length<=1000)=true):aQ s fl Γ=.ok ⟨.lst s,.list (ps.map (·.d))⟩ Γ1:=by
 have h2:ps.length<=sizeLine:=Nat.le_trans (of_decide_eq_true hn) Dy
 unfold aQ;rw [hl];simp only [Out.bind,hs,hc,decide_eq_true h2,Bool.not_false,Bool.and_self,if_true]
theorem dD (hl:fl Γ=.ok ps Γ1) (hc:ps.all tok=true) (hn:decide (ps.length<=1000)=true):bD fl Γ=.ok ⟨.tup (ps.map yt),.tuple (ps.map (·.d))⟩ Γ1:=by
 have h2:ps.length<=sizeLine:=Nat.le_trans (of_decide_eq_true hn) Dy
 unfold bD;rw [hl];simp only [Out.bind,hc,decide_eq_true h2,Bool.and_self,if_true]
theorem DA {ds:List D} (ha:fa Γ=.ok ⟨s,.list ds⟩ Γ1) (ho:du ⟨s,.list ds⟩ ds=true):oE fa Γ=.ok ⟨.lst .leaf,.list ds⟩ Γ1:=by
 unfold oE aR;rw [ha];simp only [Out.bind,ho,if_true]
theorem v_and {a b:Bool} (ha:fa Γ=.ok ⟨s,.bool a⟩ Γ) (hb:fb Γ=.ok ⟨.leaf,.bool b⟩ Γ):fQ fa fb Γ=.ok ⟨.leaf,.bool (a&&b)⟩ Γ:=by
 unfold fQ aR;rw [ha];simp only [Out.bind]
 cases a with
 | false=>rfl
 | true=>exact hb
theorem uN {g g':D->D->Option D} {b b':Bool} (ha:fa Γ=.ok p Γ) (hb:fb Γ=.ok q Γ) (hg:g p.d q.d=some (.bool b)) (hs:aW q.d=true) {z:PV} (hc:fc Γ=.ok z Γ) (hg':g' q.d z.d=some (.bool b')):xZ g g' fa fb fc Γ=.ok ⟨.leaf,.bool (b&&b')⟩ Γ:=by
 unfold xZ aR;rw [ha];simp only [Out.bind];rw [hb];simp only [hg]
 cases b with
 | false=>rfl
 | true=>simp only [hs,if_true,hc,hg',Bool.true_and]
theorem jF (ha:fa Γ=.ok ⟨s,.bool b⟩ Γ1):aN aq fa Γ=.ok b Γ1:=by unfold aN;rw [ha];rfl
theorem bP (ha:fa Γ=.ok ⟨s,.bool b⟩ Γ1):aN aZ fa Γ=.ok b Γ1:=by unfold aN;rw [ha];rfl
theorem bZ {ga:FB} {b:Bool} (h:ga Γ=.ok b Γ1):bx ga Γ=.ok (!b) Γ1:=by unfold bx;rw [h];rfl
theorem eR {ga gb:FB} {a b:Bool} (ha:ga Γ=.ok a Γ) (hb:gb Γ=.ok b Γ):cY ga gb Γ=.ok (a||b) Γ:=by
 unfold cY;rw [ha];simp only [Out.bind]
 cases a with
 | false=>exact hb
 | true=>rfl
theorem bJ {ds:List D} (ha:fa Γ=.ok ⟨s,.list ds⟩ Γ1) (ho:du ⟨s,.list ds⟩ ds=true):aJ fa Γ=.ok ⟨ds,!s.isView⟩ Γ1:=by
 unfold aJ;rw [ha];simp only [Out.bind,ho,if_true]
theorem qE {k:Int} (hl:fl Γ=.ok ps Γ1) (hp:ps.map (·.d)=[.int k]) (h0:-1000<=k) (h1:k<=100000):cK fl Γ=.ok ⟨bQ 0 k.toNat,true⟩ Γ1:=by
 have h3:dt k=true:=by unfold dt;simp only [Bool.and_eq_true,decide_eq_true_eq];omega
 unfold cK;rw [hl];simp only [Out.bind,hp,ml,h3,if_true]
theorem FT {k m:Int} (hl:fl Γ=.ok ps Γ1) (hp:ps.map (·.d)=[.int k,.int m]) (h0:-1000<=k) (h1:k<=100000) (h2:-1000<=m) (h4:m<=100000):vX fl Γ=.ok ⟨bQ k (m-k).toNat,true⟩ Γ1:=by
 have h3:dt k=true:=by unfold dt;simp only [Bool.and_eq_true,decide_eq_true_eq];omega
 have h5:dt m=true:=by unfold dt;simp only [Bool.and_eq_true,decide_eq_true_eq];omega
 unfold vX;rw [hl];simp only [Out.bind,hp,o5,h3,h5,Bool.and_self,if_true]
theorem aB {g1 g2:FS} {o:OutS} (h1:g1 Γ=.nx Γ1) (h2:g2 Γ1=o):aj g1 g2 Γ=o:=by unfold aj;rw [h1];exact h2
theorem Dq {g1 g2:FS} (h1:g1 Γ=.rt p):aj g1 g2 Γ=.rt p:=by unfold aj;rw [h1]
theorem b8 {c:FB} {a b:FS} {t:Bool} {o:OutS} (hc:c Γ=.ok t Γ1) (ht:t=true->a Γ1=o) (hf:t=false->b Γ1=o):bV c a b Γ=o:=by
 unfold bV;rw [hc]
 cases t with
 | true=>exact ht rfl
 | false=>exact hf rfl
theorem bu (h:fa Γ=.ok p Γ1) (hs:p.s.isView=false):aE fa Γ=.rt p:=by
 unfold aE g6;rw [h];simp only [hs];rfl
theorem g9 (h:fa Γ=.ok p Γ1) (hc:coer .leaf p=true) (hi:i<Γ1.length):av false i fa Γ=.nx (Γ1.set i (some ⟨.leaf,p.d⟩)):=by
 unfold av g6;rw [h];simp only [hi,if_true,hc,Bool.false_and];rfl
theorem lT (h:fa Γ=.ok p Γ1) (hs:p.s.isView=false) (hi:i<Γ1.length):av true i fa Γ=.nx (Γ1.set i (some p)):=by
 unfold av g6;rw [h];simp only [hi,if_true,hs,Bool.true_and,Bool.not_false]
theorem By {ds:List D} (ho:Γ[i]?=some (some ⟨.lst s,.list ds⟩)) (h:fa Γ=.ok p Γ) (hc:coer s p=true) (hn:ds.length<=900):dC i fa Γ=.nx (Γ.set i (some ⟨.lst s,.list (ds++[p.d])⟩)):=by
 have h2:ds.length<sizeLine:=Nat.lt_of_lt_of_le (by omega:ds.length<1000) Dy
 unfold dC Bj;rw [ho];simp only [if_true];unfold g6;rw [h];simp only;unfold As;rw [ho];simp only [hc,decide_eq_true h2,Bool.and_self,if_true]
theorem eX {fi:FI} {body:FS} {ds:List D} {o:OutS} (h:fi Γ=.ok ⟨ds,true⟩ Γ1) (hg:ck i body ds Γ1=o):cI i fi body Γ=o:=by unfold cI;rw [h];exact hg
end
end T
namespace KC
open PySem PySem.Spec L2 T
open PyProof.Rows hiding St
noncomputable def bK:PySem.PyData:=.tuple [.str "a",.str "b",.str "c",.str "d",.str "e",.str "f"]
noncomputable def bR:PySem.PyData:=.tuple [.int 0,.int 1]
noncomputable def cO:PySem.PyData:=.int 24
noncomputable def jq:PySem.PyData:=.int 200
noncomputable def jr:PySem.PyData:=.int 24
noncomputable def dm:PySem.PyData:=.tuple [.str "some until",.str "all until"]
noncomputable def d8:PySem.PyData:=.tuple [.str "some always",.str "all always"]
noncomputable def cg:PySem.PyData:=.tuple [.str "some next",.str "some until",.str "all always"]
noncomputable def jg:List (Str×Int):=[("yes",0),("not",1),("some next",1),("all next",1),("some always",1),("all always",1),("and",2),("or",2),("some until",2),("all until",2)]
noncomputable def lg:FS:=(aE (bb (bN false) (ab (ao .leaf 1 (vX (ab (eK (.int 1)) (ab (bb aU (ab (ae 0) af)) af))) az (ax lP (ag (ae 0) (ax gSub (ae 1) (eK (.int 1)))) (ag (ae 0) (ae 1)))) af)))
noncomputable def cw:List PySem.PyData->Res:=aF 2 lg
noncomputable def lx:FS:=(aE (fQ (bb (bN false) (ab (ao .leaf 1 (aJ (ae 0)) az (ax (cA false) (ae 1) (eK bK))) af)) (ah 1 cw (ab (ae 0) af))))
noncomputable def cy:List PySem.PyData->Res:=aF 2 lx
noncomputable def lq:FS:=(aE (fQ (bb (bN false) (ab (ao .leaf 2 (aJ (ae 0)) az (xZ El lP (eK (.int 0)) (ae 2) (ae 1))) af)) (ah 1 cw (ab (ae 0) af))))
noncomputable def dk:List PySem.PyData->Res:=aF 3 lq
noncomputable def lj:FS:=(aE (fQ (ax lQ (bb aU (ab (ae 0) af)) (eK (.int 0))) (ah 2 dk (ab (ae 0) (ab (ae 1) af)))))
noncomputable def cx:List PySem.PyData->Res:=aF 2 lj
noncomputable def mY:FS:=(aj (av false 3 (bb aU (ab (ae 0) af)))
  (aj (bV (cY (aN aq (ax lP (ae 3) (eK (.int 1)))) (cY (aN aq (ax lQ (ae 3) (eK cO))) (cY (aN aq (ax dS (bb aU (ab (ae 1) af)) (ae 3))) (aN aq (ax dS (bb aU (ab (ae 2) af)) (ae 3)))))) (aE (eK (.bool false))) aM)
  (aj (bV (bx (aN aZ (bb (bN false) (ab (ao .leaf 4 (aJ (ae 0)) az (ax (cA false) (ae 4) (eK bR))) af)))) (aE (eK (.bool false))) aM)
  (aE (fQ (bb (bN false) (ab (ao .leaf 5 (aJ (ae 1)) az (ah 1 cy (ab (ae 5) af))) af)) (bb (bN false) (ab (ao .leaf 5 (aJ (ae 2)) az (ah 2 cx (ab (ae 5) (ab (ae 3) af)))) af)))))))
noncomputable def cN:List PySem.PyData->Res:=aF 6 mY
noncomputable def iy:FS:=(bV (bx (aN aZ (ah 3 cN (ab (ag (ae 0) (eK (.int 0))) (ab (ag (ae 0) (eK (.int 1))) (ab (ag (ae 0) (eK (.int 2))) af)))))) Gm aM)
noncomputable def bo:List PySem.PyData->Res:=aF 1 iy
noncomputable def mX:FS:=(aE (ux (aN aq (ax bL (ag (ae 0) (eK (.int 0))) (eK (.str "mark")))) (bD af) (zY (ae 0) (eK (.int 1)))))
noncomputable def gF:List PySem.PyData->Res:=aF 1 mX
noncomputable def lh:FS:=(aj (bV (cY (bx (aN aZ (bW "tuple" (ae 0)))) (cY (aN aq (ax bL (bb aU (ab (ae 0) af)) (eK (.int 0)))) (bx (aN aZ (bW "str" (ag (ae 0) (eK (.int 0)))))))) (aE (eK (.bool false))) aM)
  (aj (bV (aN aq (ax bL (ag (ae 0) (eK (.int 0))) (eK (.str "mark")))) (aE (fQ (ax bL (bb aU (ab (ae 0) af)) (eK (.int 2))) (ax (cA false) (ag (ae 0) (eK (.int 1))) (eK bK)))) aM)
  (aE (fQ (CK false jg (ag (ae 0) (eK (.int 0)))) (ax bL (bb aU (ab (ae 0) af)) (ax aG (eK (.int 1)) (xO jg (ag (ae 0) (eK (.int 0))))))))))
noncomputable def kE:List PySem.PyData->Res:=aF 1 lh
noncomputable def gO:FS:=(aj (av true 1 (aQ .leaf af))
  (aj (cI 2 (aJ (ae 0))
  (Gp 1 (ah 1 gF (ab (ae 2) af))))
  (aE (aV 1))))
noncomputable def gE:List PySem.PyData->Res:=aF 3 gO
noncomputable def la:FS:=(aj (av true 1 (aQ .leaf af))
  (aj (av false 2 (aQ .leaf (ab (ae 0) af)))
  (aj (av false 3 (eK (.int 0)))
  (aj (xg 1000 (aN aZ (ae 2))
  (aj (rn 3 (bb aU (ab (ae 2) af)))
  (aj (bV (cY (aN aq (ax lQ (ae 3) (eK jq))) (cY (aN aq (ax bL (bb aU (ab (ae 1) af)) (eK jr))) (bx (aN aZ (bb (bN false) (ab (ao .leaf 4 (aJ (ae 2)) az (ah 1 kE (ab (ae 4) af))) af)))))) (aE (eK .none)) aM)
  (aj (dC 1 (ae 2))
  (av false 2 (ah 1 gE (ab (ae 2) af)))))))
  (aE (aV 1))))))
noncomputable def kC:List PySem.PyData->Res:=aF 5 la
noncomputable def eP:FS:=(aj (av false 1 (ah 1 kC (ab (ae 0) af)))
  (aj (bV (aN aq (ax (mJ false) (ae 1) (eK .none))) Gm aM)
  (aE (ae 1))))
noncomputable def eE:List PySem.PyData->Res:=aF 2 eP
noncomputable def eQ:FS:=(cR (ah 1 eE (ab (ae 0) af)))
noncomputable def eH:List PySem.PyData->Res:=aF 1 eQ
noncomputable def ix:FS:=(aE (ao .leaf 2 (cK (ab (bb aU (ab (ag (ae 0) (eK (.int 0))) af)) af)) (aN aq (ax (cA true) (ae 2) (ae 1))) (ae 2)))
noncomputable def ik:List PySem.PyData->Res:=aF 3 ix
noncomputable def tR:FS:=(aE (ux (aN aZ (ae 0)) (bb (bN true) (ab (ae 1) af)) (bb (bN false) (ab (ae 1) af))))
noncomputable def kD:List PySem.PyData->Res:=aF 2 tR
noncomputable def dN:FS:=(aj (bV (aN aq (ax (cA false) (ag (ae 1) (eK (.int 0))) (eK dm))) (aE (bD (ab (ag (ae 2) (eK (.int 0))) (ab (ag (ae 2) (eK (.int 1))) af)))) aM)
  (aE (bD (ab (Jp (ab (bb aU (ab (ag (ae 0) (eK (.int 0))) af)) af)) (ab (ah 2 ik (ab (ae 0) (ab (ag (ae 2) (eK (.int 0))) af))) af)))))
noncomputable def dM:List PySem.PyData->Res:=aF 3 dN
noncomputable def iw:FS:=(aj (av true 4 (aQ .leaf af))
  (aj (cI 5 (aJ (ae 2))
  (bV (Aq (aN aq (ax (mJ false) (ag (ae 3) (ae 5)) (eK .none))) (aN aZ (ah 2 kD (ab (ag (ae 1) (ae 5)) (ab (ao .leaf 6 (aJ (ag (ag (ae 0) (eK (.int 2))) (ae 5))) az (ax (mJ true) (ag (ae 3) (ae 6)) (eK .none))) af))))) (dC 4 (ae 5)) aM))
  (aE (aV 4))))
noncomputable def ig:List PySem.PyData->Res:=aF 7 iw
noncomputable def mV:FS:=(aj (av true 4 (ao .leaf 8 (aJ (ag (ae 0) (eK (.int 0)))) az (eK .none)))
  (aj (av false 5 (eK (.int 0)))
  (aj (av false 6 (ae 3))
  (aj (xg 1000 (aN aZ (ae 6))
  (aj (cI 7 (aJ (ae 6))
  (BV 4 (ae 5) (ae 7)))
  (aj (rn 5 (eK (.int 1)))
  (av false 6 (zZ 4 ig (ab (ae 0) (ab (ae 1) (ab (ae 2) (ab (ae 4) af)))))))))
  (aE (aV 4))))))
noncomputable def mD:List PySem.PyData->Res:=aF 9 mV
noncomputable def mW:FS:=(aj (av false 3 (ag (ae 1) (eK (.int 0))))
  (aj (bV (Aq (aN aq (ax (cA true) (ae 3) (eK dm))) (aN aq (ax (cA true) (ae 3) (eK d8)))) (aE (eK .none)) aM)
  (aj (av false 4 (ah 3 dM (ab (ae 0) (ab (ae 1) (ab (ae 2) af)))))
  (aE (ah 4 mD (ab (ae 0) (ab (ao .leaf 5 (aJ (ag (ae 0) (eK (.int 0)))) az (ax (cA false) (ae 3) (eK cg))) (ab (ag (ae 4) (eK (.int 0))) (ab (ag (ae 4) (eK (.int 1))) af)))))))))
noncomputable def mE:List PySem.PyData->Res:=aF 6 mW
noncomputable def mZ:FS:=(aj (av false 5 (ag (ae 1) (eK (.int 0))))
  (aj (bV (aN aq (ax bL (ae 5) (eK (.str "yes")))) (aE (eK (.bool true))) aM)
  (aj (bV (aN aq (ax bL (ae 5) (eK (.str "mark")))) (aE (ax (cA false) (ag (ae 1) (eK (.int 1))) (ag (ag (ae 0) (eK (.int 1))) (ae 4)))) aM)
  (aj (bV (aN aq (ax (cA false) (ae 5) (eK dm))) (aE (ax (mJ true) (ag (ae 3) (ae 4)) (eK .none))) aM)
  (aj (bV (aN aq (ax (cA false) (ae 5) (eK d8))) (aE (ax (mJ false) (ag (ae 3) (ae 4)) (eK .none))) aM)
  (aj (av false 6 (ao .leaf 7 (aJ (ae 2)) az (ax (cA false) (ae 4) (ae 7))))
  (aj (bV (aN aq (ax bL (ae 5) (eK (.str "not")))) (aE (mN (ag (ae 6) (eK (.int 0))))) aM)
  (aj (bV (cY (aN aq (ax bL (ae 5) (eK (.str "and")))) (aN aq (ax bL (ae 5) (eK (.str "or"))))) (aE (ux (aN aq (ax bL (ae 5) (eK (.str "and")))) (bb (bN false) (ab (ae 6) af)) (bb (bN true) (ab (ae 6) af)))) aM)
  (aE (ah 2 kD (ab (ax (cA false) (ae 5) (eK cg)) (ab (ao .leaf 8 (aJ (ag (ag (ae 0) (eK (.int 2))) (ae 4))) az (ax (cA false) (ae 8) (ag (ae 2) (eK (.int 0))))) af))))))))))))
noncomputable def mF:List PySem.PyData->Res:=aF 9 mZ
noncomputable def mU:FS:=(aE (ao .leaf 4 (cK (ab (bb aU (ab (ag (ae 0) (eK (.int 0))) af)) af)) (aN aZ (ah 5 mF (ab (ae 0) (ab (ae 1) (ab (ae 2) (ab (ae 3) (ab (ae 4) af))))))) (ae 4)))
noncomputable def mC:List PySem.PyData->Res:=aF 5 mU
noncomputable def tQ (r_judged:List PySem.PyData->Res):FS:=(aj (av false 2 (ao .leaf 3 (sX (ah 1 gF (ab (ae 1) af))) az (ah 2 r_judged (ab (ae 0) (ab (ae 3) af)))))
  (aE (ah 4 mC (ab (ae 0) (ab (ae 1) (ab (ae 2) (ab (ah 3 mE (ab (ae 0) (ab (ae 1) (ab (ae 2) af)))) af)))))))
noncomputable def kx:Nat->List PySem.PyData->Res
 | 0=>fun _=>.no
 | n+1=>aF 4 (tQ (kx n))
noncomputable def sJ:List PySem.PyData->Res:=kx 30
noncomputable def wF:FS:=(aj (cR (ah 1 bo (ab (ae 0) af)))
  (aj (cR (ah 1 eH (ab (ae 1) af)))
  (aE (ah 2 sJ (ab (ae 0) (ab (ae 1) af))))))
noncomputable def nS:List PySem.PyData->Res:=aF 2 wF
noncomputable def gQ:FS:=(aj (bV (aN aq (ax lP (ae 1) (bb aU (ab (ae 0) af)))) (aE (ag (ae 0) (ae 1))) aM)
  (aE (eK (.int 0))))
noncomputable def ay:List PySem.PyData->Res:=aF 2 gQ
noncomputable def lz:FS:=(aj (bV (aN aq (ax mL (ae 0) (ax wb (eK (.int 10)) (eK (.int 18))))) (aj (av false 4 (ae 0))
  (aj (cI 5 (cK (ab (ae 1) af))
  (av false 4 (ax kQ (ae 4) (ae 2))))
  (aE (ax cj (ae 4) (ae 2))))) aM)
  (aj (av false 3 (ax cj (ax kP (ax aG (ax aG (ax cj (ae 0) (eK (.int 1000000007))) (ax kP (eK (.int 1009)) (ae 1))) (eK (.int 17))) (eK (.int 69621))) (eK (.int 2147483647))))
  (aj (av false 3 (ax cj (ax aG (ax aG (ax kP (ae 3) (ae 3)) (ax kP (eK (.int 40503)) (ae 1))) (eK (.int 5))) (eK (.int 2147483629))))
  (aE (ax cj (ax kQ (ax cj (ax kP (ae 3) (eK (.int 48271))) (eK (.int 2147483647))) (eK (.int 32))) (ae 2))))))
noncomputable def ai:List PySem.PyData->Res:=aF 6 lz
noncomputable def d__law_world:FS:=(aj (av false 3 (ax aG (eK (.int 1)) (ax cj (ah 2 ay (ab (ae 0) (ab (ae 1) af))) (ae 2))))
  (aj (av true 4 (aQ .leaf af))
  (aj (av true 5 (aQ .leaf af))
  (aj (av true 6 (aQ .leaf af))
  (aj (cI 7 (cK (ab (ae 3) af))
  (aj (av false 8 (ah 2 ay (ab (ae 0) (ab (ax aG (ax aG (ae 1) (eK (.int 1))) (ae 7)) af))))
  (aj (dC 4 (ah 3 ai (ab (ae 8) (ab (eK (.int 0)) (ab (eK (.int 2)) af)))))
  (aj (dC 5 (ao .leaf 11 (cK (ab (eK (.int 3)) af)) (aN aq (ax bL (ah 3 ai (ab (ae 8) (ab (ax aG (eK (.int 1)) (ae 11)) (ab (eK (.int 2)) af)))) (eK (.int 1)))) (ag (eK (.str "abc")) (ae 11))))
  (aj (av false 9 (ao .leaf 10 (cK (ab (ae 3) af)) (aN aq (ax bL (ah 3 ai (ab (ae 8) (ab (ax aG (eK (.int 4)) (ae 10)) (ab (ax aG (eK (.int 2)) (bb mK (ab (ax lQ (ae 3) (eK (.int 3))) af))) af)))) (eK (.int 1)))) (ae 10)))
  (aj (bV (aN aq (ax bL (ae 9) (aQ .leaf af))) (av false 9 (aQ .leaf (ab (ah 3 ai (ab (ae 8) (ab (ax aG (eK (.int 4)) (ae 3)) (ab (ae 3) af)))) af))) aM)
  (dC 6 (ae 9))))))))
  (aE (bD (ab (aV 4) (ab (aV 5) (ab (aV 6) af))))))))))
noncomputable def m__law_world:List PySem.PyData->Res:=aF 12 d__law_world
noncomputable def fS:FS:=(aj (av false 3 (aQ .leaf (ab (eK (.str "mark")) (ab (eK (.str "mark")) (ab (eK (.str "not")) (ab (eK (.str "and")) (ab (eK (.str "some until")) (ab (eK (.str "all until")) (ab (eK (.str "some next")) (ab (eK (.str "all next")) (ab (eK (.str "some always")) af)))))))))))
  (aj (av false 3 (Hz (ae 3) (aQ .leaf (ab (eK (.str "all always")) (ab (eK (.str "or")) (ab (eK (.str "yes")) af))))))
  (aj (av true 4 (aQ .leaf (ab (bD (ab (eK (.str "mark")) (ab (ag (eK (.str "abc")) (ah 3 ai (ab (ah 2 ay (ab (ae 0) (ab (ae 1) af))) (ab (eK (.int 3)) (ab (eK (.int 3)) af))))) af))) af)))
  (aj (cI 5 (vX (ab (eK (.int 1)) (ab (ae 2) af)))
  (aj (av false 6 (ah 2 ay (ab (ae 0) (ab (ax aG (ae 1) (ae 5)) af))))
  (aj (av false 7 (ag (ae 3) (ah 3 ai (ab (ae 6) (ab (eK (.int 0)) (ab (eK (.int 12)) af))))))
  (aj (av false 8 (tJ 4 (ax gSub (eU CI (eK (.int 1))) (ax cj (ah 3 ai (ab (ae 6) (ab (eK (.int 1)) (ab (eK (.int 2)) af)))) (bb aU (ab (ae 4) af))))))
  (aj (av false 9 (tJ 4 (ax cj (ah 3 ai (ab (ae 6) (ab (eK (.int 2)) (ab (eK (.int 60)) af)))) (bb aU (ab (ae 4) af)))))
  (bV (aN aq (ax bL (ae 7) (eK (.str "yes")))) (dC 4 (bD (ab (eK (.str "yes")) af))) (bV (aN aq (ax bL (ae 7) (eK (.str "mark")))) (dC 4 (bD (ab (eK (.str "mark")) (ab (ag (eK (.str "abc")) (ah 3 ai (ab (ae 6) (ab (eK (.int 3)) (ab (eK (.int 3)) af))))) af)))) (bV (aN aq (ax (cA false) (ae 7) (bD (ab (eK (.str "and")) (ab (eK (.str "or")) (ab (eK (.str "some until")) (ab (eK (.str "all until")) af))))))) (dC 4 (bD (ab (ae 7) (ab (ae 9) (ab (ae 8) af))))) (dC 4 (bD (ab (ae 7) (ab (ae 8) af))))))))))))
  (aE (tJ 4 (eU CI (eK (.int 1)))))))))
noncomputable def fO:List PySem.PyData->Res:=aF 10 fS
noncomputable def jx (r__law_count:List PySem.PyData->Res):FS:=(aE (ax aG (eK (.int 1)) (bb Hl (ab (ao .leaf 1 (sX (zY (ae 0) (eK (.int 1)))) (aN aZ (bW "tuple" (ae 1))) (ah 1 r__law_count (ab (ae 1) af))) af))))
noncomputable def d6:Nat->List PySem.PyData->Res
 | 0=>fun _=>.no
 | n+1=>aF 2 (jx (d6 n))
noncomputable def jo:List PySem.PyData->Res:=d6 20
open PySem.SeqAt
noncomputable def Ef (a b:D):Bool:=match lP a b with
 | some (.bool t)=>t
 | _=>false
noncomputable def eA (ds:List D):Prop:=∀a∈ds,∃n,a=.int n
noncomputable def gW (ds:List D):Prop:=∀a∈ds,∃x,a=.str x/\PyData.strOk x=true
noncomputable def Row (ds:List D):Prop:=eA ds\/gW ds
theorem AK (i:Int):shaped (.int i)=true:=by simp [shaped,PyData.canLay0,PyData.depth]
theorem yz {x:Str} (h:PyData.strOk x=true):shaped (.str x)=true:=by simp [shaped,PyData.canLay0,PyData.depth,h]
theorem Row.lt {ds:List D} {a b:D} (h:Row ds) (ha:a∈ds) (hb:b∈ds):lP a b=some (.bool (Ef a b))/\mL a b=some (.bool (!Ef a b)):=by
 rcases h with h | h
 ·obtain ⟨n,rfl⟩:=h a ha
  obtain ⟨m,rfl⟩:=h b hb;refine ⟨rfl,?_⟩
  show some (PyData.bool (decide (m<=n)))=some (.bool (!decide (n<m)))
  congr 2
  by_cases q:n<m
  ·simp [q,Int.not_le.mpr q]
  ·simp [q,Int.not_lt.mp q]
 ·obtain ⟨n,rfl,_⟩:=h a ha
  obtain ⟨m,rfl,_⟩:=h b hb;exact ⟨rfl,rfl⟩
noncomputable def xF (ds:List D) (d:D):Bool:=match d with
 | .int j=>Ef (ds.getD (j-1).toNat .none) (ds.getD j.toNat .none)
 | _=>false
noncomputable def e8 (ds:List D):Bool:=(bQ 1 ((ds.length:Int)-1).toNat).all (xF ds)
theorem xo {lo:Int} {n:Nat} {d:D} (h:d∈bQ lo n):∃k:Nat,k<n/\d=.int (lo+k):=by
 unfold bQ at h;simp only [mem_map,mem_range] at h
 obtain ⟨k,hk,e⟩:=h;exact ⟨k,hk,e.symm⟩
theorem AV {lo:Int} {n:Nat}:(bQ lo n).length=n:=by unfold bQ;simp
theorem w9 {n:Nat} {k:Nat} (h:k<n):dn n (k:Int)=some k:=by
 unfold dn;rw [if_pos (by omega),if_pos (by omega)]
 simp
theorem CA {n:Nat} {i:Int} (h0:0<=i) (h1:i<n):dn n i=some i.toNat:=by
 unfold dn;rw [if_pos h0,if_pos h1]
theorem Dk {ds:List D} {k:Nat} (h:k<ds.length):ds[k]?=some (ds.getD k .none):=by
 rw [getD_eq_getElem?_getD,getElem?_eq_getElem h];rfl
theorem getD_mem {ds:List D} {k:Nat} (h:k<ds.length):ds.getD k .none∈ds:=mem_of_getElem? (Dk h)
theorem Cv {ds:List D} {k:Nat} (h:Row ds) (hk:k<((ds.length:Int)-1).toNat):dn ds.length (1+(k:Int)-1)=some k/\dn ds.length (1+(k:Int))=some (k+1)/\ds[k]?=some (ds.getD k .none)/\ds[k+1]?=some (ds.getD (k+1) .none) /\
  lP (ds.getD k .none) (ds.getD (k+1) .none)=some (.bool (xF ds (.int (1+(k:Int)))))/\mL (ds.getD k .none) (ds.getD (k+1) .none)=some (.bool (!xF ds (.int (1+(k:Int))))):=by
 have h1:k<ds.length:=by omega
 have h2:k+1<ds.length:=by omega
 have l:=h.lt (getD_mem h1) (getD_mem h2)
 have e3:xF ds (.int (1+(k:Int)))=Ef (ds.getD k .none) (ds.getD (k+1) .none):=by
  unfold xF;dsimp only;rw [show (1+(k:Int)-1).toNat=k by omega,show (1+(k:Int)).toNat=k+1 by omega]
 rw [e3];exact ⟨by rw [show (1+(k:Int)-1)=k by omega];exact w9 h1,by rw [show (1+(k:Int))=((k+1:Nat):Int) by omega];exact w9 h2,Dk h1,Dk h2,l.1,l.2⟩
theorem bH {n:Nat} {g:FS} {ds:List D} {p:PV} (h:g (cL n ds)=.rt p):aF n g ds=.ok p:=by unfold aF;rw [h]
theorem eq_int {a b:Int}:bL (.int a) (.int b)=some (.bool (a==b)):=by
 unfold bL;rw [AK,AK,Bool.and_self,if_pos rfl,PyData.eqv]
theorem dF {ds:List D} (h:Row ds) (hl:ds.length<=100):cw [.list ds]=.ok ⟨.leaf,.bool (e8 ds)⟩:=by
 have hc:ao .leaf 1 (vX (ab (eK (.int 1)) (ab (bb aU (ab (ae 0) af)) af))) az (ax lP (ag (ae 0) (ax gSub (ae 1) (eK (.int 1)))) (ag (ae 0) (ae 1))) [some ⟨.leaf,.list ds⟩,none] =
   .ok ⟨.lst .leaf,.list ((bQ 1 ((ds.length:Int)-1).toNat).map fun d=>.bool (xF ds d))⟩ [some ⟨.leaf,.list ds⟩,none]:=by
  refine xq (f:=fun d=>⟨.leaf,.bool (xF ds d)⟩) (st:=true) (FT (k:=1) (m:=(ds.length:Int)) (aL bp (aL (b9 (aL (aC rfl) ak) rfl) ak)) rfl (by omega) (by omega) (by omega) (by omega)) (by simp) rfl (by rw [AV];omega) fun d hd=>⟨?_,rfl⟩
  obtain ⟨k,hk,rfl⟩:=xo hd;obtain ⟨e1,e2,e3,e4,e5,e6⟩:=Cv h hk;exact aO (qq (aC rfl) (aO (aC rfl) bp rfl) e1 e3 rfl) (qq (aC rfl) (aC rfl) e2 e4 rfl) e5
 exact bH (bu (b9 (aL hc ak) yd) rfl)
noncomputable def CF (a:D):Bool:=[PyData.str "a",.str "b",.str "c",.str "d",.str "e",.str "f"].any fun y=>PyData.eqv y a
noncomputable def CD (a:D):Bool:=[PyData.int 0,.int 1].any fun y=>PyData.eqv y a
noncomputable def inR (n:Int) (a:D):Bool:=match a with
 | .int i=>decide (0<=i)&&decide (i<n)
 | _=>false
noncomputable def zv (d:D):Bool:=match d with
 | .list xs=>xs.all CF&&e8 xs
 | _=>false
noncomputable def DY (n:Int) (d:D):Bool:=match d with
 | .list xs=>decide (0<xs.length)&&(xs.all (inR n)&&e8 xs)
 | _=>false
theorem yA:shaped bK=true:=by decide +kernel
theorem BO:shaped bR=true:=by decide +kernel
theorem zJ {x:Str} (hx:PyData.strOk x=true):cA false (.str x) bK=some (.bool (CF (.str x))):=by
 unfold cA bK;have:=yA
 unfold bK at this;simp only [yz hx,this,Bool.and_self,if_true]
 rfl
theorem CC {i:Int}:cA false (.int i) bR=some (.bool (CD (.int i))):=by
 unfold cA bR;have:=BO
 unfold bR at this;simp only [AK,this,Bool.and_self,if_true]
 rfl
theorem iu {ds:List D} (h:gW ds) (hl:ds.length<=100):cy [.list ds]=.ok ⟨.leaf,.bool (ds.all CF&&e8 ds)⟩:=by
 have hc:ao .leaf 1 (aJ (ae 0)) az (ax (cA false) (ae 1) (eK bK)) [some ⟨.leaf,.list ds⟩,none]=.ok ⟨.lst .leaf,.list (ds.map fun d=>.bool (CF d))⟩ [some ⟨.leaf,.list ds⟩,none]:=by
  refine xq (f:=fun d=>⟨.leaf,.bool (CF d)⟩) (bJ (aC rfl) rfl) (by simp) rfl (by omega) fun d hd=>⟨?_,rfl⟩
  obtain ⟨x,rfl,hx⟩:=h d hd;exact aO (aC rfl) bp (zJ hx)
 exact bH (bu (v_and (b9 (aL hc ak) yd) (dO (aL (aC rfl) ak) (dF (.inr h) hl) rfl rfl)) rfl)
theorem chain_ev {i n:Int}:El (.int 0) (.int i)=some (.bool (decide (0<=i)))/\lP (.int i) (.int n)=some (.bool (decide (i<n))):=⟨rfl,rfl⟩
theorem ir {ds:List D} {n:Int} (h:eA ds) (hl:ds.length<=100):dk [.list ds,.int n]=.ok ⟨.leaf,.bool (ds.all (inR n)&&e8 ds)⟩:=by
 have hc:ao .leaf 2 (aJ (ae 0)) az (xZ El lP (eK (.int 0)) (ae 2) (ae 1)) [some ⟨.leaf,.list ds⟩,some ⟨.leaf,.int n⟩,none]=.ok ⟨.lst .leaf,.list (ds.map fun d=>.bool (inR n d))⟩ [some ⟨.leaf,.list ds⟩,some ⟨.leaf,.int n⟩,none]:=by
  refine xq (f:=fun d=>⟨.leaf,.bool (inR n d)⟩) (bJ (aC rfl) rfl) (by simp) rfl (by omega) fun d hd=>⟨?_,rfl⟩
  obtain ⟨i,rfl⟩:=h d hd;exact uN bp (aC rfl) (chain_ev (n:=n)).1 rfl (aC rfl) chain_ev.2
 exact bH (bu (v_and (b9 (aL hc ak) yd) (dO (aL (aC rfl) ak) (dF (.inl h) hl) rfl rfl)) rfl)
theorem iq {ds:List D} {n:Int} (h:eA ds) (hl:ds.length<=100):cx [.list ds,.int n]=.ok ⟨.leaf,.bool (decide (0<ds.length)&&(ds.all (inR n)&&e8 ds))⟩:=by
 have e:lQ (.int (ds.length:Nat)) (.int 0)=some (.bool (decide (0<ds.length))):=by
  show some (PyData.bool (decide ((0:Int)<(ds.length:Int))))=_
  congr 2
  exact decide_eq_decide.mpr (by omega)
 exact bH (bu (v_and (aO (b9 (aL (aC rfl) ak) rfl) bp e) (dO (aL (aC rfl) (aL (aC rfl) ak)) (ir h hl) rfl rfl)) rfl)
structure Wk (b:Nat) (os ms ss:List D):Prop where
 o:eA os
 m:∀r∈ms,∃xs,r=.list xs/\gW xs/\xs.length<=30
 s:∀r∈ss,∃xs,r=.list xs/\eA xs/\xs.length<=30
 lo:os.length<=b
 lm:ms.length<=b
 ls:ss.length<=b
noncomputable def En (os ms ss:List D):Bool:=decide ((os.length:Int)<1)||(decide ((24:Int)<os.length)||((!((ms.length:Int)==(os.length:Int)))||(!((ss.length:Int)==(os.length:Int)))))
noncomputable def isW (os ms ss:List D):Bool:=!En os ms ss&&(os.all CD&&(ms.all zv&&ss.all (DY os.length)))
theorem ne_int {a b:Int}:dS (.int a) (.int b)=some (.bool (!(a==b))):=by
 unfold dS;rw [AK,AK,Bool.and_self,if_pos rfl,PyData.eqv]
theorem ju {b:Nat} {os ms ss:List D} (h:Wk b os ms ss) (hb:b<=100):cN [.list os,.list ms,.list ss]=.ok ⟨.leaf,.bool (isW os ms ss)⟩:=by
 have lo:=h.lo
 have lm:=h.lm
 have ls:=h.ls
 refine bH ?_
 refine aB (g9 (b9 (aL (aC rfl) ak) rfl) rfl (by simp [cL])) ?_
 have hif:(cY (aN aq (ax lP (ae 3) (eK (.int 1)))) (cY (aN aq (ax lQ (ae 3) (eK cO))) (cY (aN aq (ax dS (bb aU (ab (ae 1) af)) (ae 3))) (aN aq (ax dS (bb aU (ab (ae 2) af)) (ae 3)))))) [some ⟨.leaf,.list os⟩,some ⟨.leaf,.list ms⟩,some ⟨.leaf,.list ss⟩,some ⟨.leaf,.int (os.length:Nat)⟩,none,none]
   = .ok (En os ms ss) [some ⟨.leaf,.list os⟩,some ⟨.leaf,.list ms⟩,some ⟨.leaf,.list ss⟩,some ⟨.leaf,.int (os.length:Nat)⟩,none,none]:=
  eR (jF (aO (aC rfl) bp rfl)) (eR (jF (aO (aC rfl) bp rfl)) (eR (jF (aO (b9 (aL (aC rfl) ak) rfl) (aC rfl) ne_int)) (jF (aO (b9 (aL (aC rfl) ak) rfl) (aC rfl) ne_int))))
 cases hbad:En os ms ss with
 | true=>
  rw [hbad] at hif;unfold isW;rw [hbad];exact Dq (b8 hif (fun _=>bu bp rfl) nofun)
 | false=>
  rw [hbad] at hif;refine aB (b8 hif nofun (fun _=>rfl)) ?_
  have c1:ao .leaf 4 (aJ (ae 0)) az (ax (cA false) (ae 4) (eK bR)) [some ⟨.leaf,.list os⟩,some ⟨.leaf,.list ms⟩,some ⟨.leaf,.list ss⟩,some ⟨.leaf,.int (os.length:Nat)⟩,none,none]
    = .ok ⟨.lst .leaf,.list (os.map fun d=>.bool (CD d))⟩ [some ⟨.leaf,.list os⟩,some ⟨.leaf,.list ms⟩,some ⟨.leaf,.list ss⟩,some ⟨.leaf,.int (os.length:Nat)⟩,none,none]:=by
   refine xq (f:=fun d=>⟨.leaf,.bool (CD d)⟩) (bJ (aC rfl) rfl) (by simp) rfl (by omega) fun d hd=>⟨?_,rfl⟩
   obtain ⟨i,rfl⟩:=h.o d hd;exact aO (aC rfl) bp CC
  have c2:ao .leaf 5 (aJ (ae 1)) az (ah 1 cy (ab (ae 5) af)) [some ⟨.leaf,.list os⟩,some ⟨.leaf,.list ms⟩,some ⟨.leaf,.list ss⟩,some ⟨.leaf,.int (os.length:Nat)⟩,none,none]
    = .ok ⟨.lst .leaf,.list (ms.map fun d=>.bool (zv d))⟩ [some ⟨.leaf,.list os⟩,some ⟨.leaf,.list ms⟩,some ⟨.leaf,.list ss⟩,some ⟨.leaf,.int (os.length:Nat)⟩,none,none]:=by
   refine xq (f:=fun d=>⟨.leaf,.bool (zv d)⟩) (bJ (aC rfl) rfl) (by simp) rfl (by omega) fun d hd=>⟨?_,rfl⟩
   obtain ⟨xs,rfl,hx,hl⟩:=h.m d hd;exact dO (aL (aC rfl) ak) (iu hx (by omega)) rfl rfl
  have c3:ao .leaf 5 (aJ (ae 2)) az (ah 2 cx (ab (ae 5) (ab (ae 3) af))) [some ⟨.leaf,.list os⟩,some ⟨.leaf,.list ms⟩,some ⟨.leaf,.list ss⟩,some ⟨.leaf,.int (os.length:Nat)⟩,none,none]
    = .ok ⟨.lst .leaf,.list (ss.map fun d=>.bool (DY os.length d))⟩ [some ⟨.leaf,.list os⟩,some ⟨.leaf,.list ms⟩,some ⟨.leaf,.list ss⟩,some ⟨.leaf,.int (os.length:Nat)⟩,none,none]:=by
   refine xq (f:=fun d=>⟨.leaf,.bool (DY os.length d)⟩) (bJ (aC rfl) rfl) (by simp) rfl (by omega) fun d hd=>⟨?_,rfl⟩
   obtain ⟨xs,rfl,hx,hl⟩:=h.s d hd;exact dO (aL (aC rfl) (aL (aC rfl) ak)) (iq hx (by omega)) rfl rfl
  have t1:=bZ (bP (b9 (aL c1 ak) yd))
  cases ho:os.all CD with
  | false=>
   rw [ho] at t1;unfold isW;rw [ho,Bool.false_and,Bool.and_false];exact Dq (b8 t1 (fun _=>bu bp rfl) nofun)
  | true=>
   rw [ho] at t1;refine aB (b8 t1 nofun (fun _=>rfl)) ?_
   unfold isW;rw [hbad,ho,Bool.not_false,Bool.true_and,Bool.true_and];exact bu (v_and (b9 (aL c2 ak) yd) (b9 (aL c3 ak) yd)) rfl
theorem zW {xs:List D} (h:shaped (.list xs)=true):bL (.list xs) (.list [])=some (.bool (decide (xs.length=0))):=by
 unfold bL;have h2:shaped (.list [])=true:=by decide +kernel
 rw [h,h2,Bool.and_self,if_pos rfl]
 cases xs with
 | nil=>rfl
 | cons a r=>rfl
theorem Fu {xs:List D} (h:eA xs):shaped (.list xs)=true:=by
 have c:PyData.canLayAll0 xs=true/\PyData.depthAll xs=0:=by
  induction xs with
  | nil=>exact ⟨rfl,rfl⟩
  | cons a r ih=>
   obtain ⟨n,rfl⟩:=h a mem_cons_self;have q:=ih fun x hx=>h x (mem_cons_of_mem _ hx)
   simp [PyData.canLayAll0,PyData.canLay0,PyData.depthAll,PyData.depth,q.1,q.2]
 simp [shaped,PyData.canLay0,PyData.depth,c.1,c.2]
theorem uZ {xs:List D} (h:gW xs):shaped (.list xs)=true:=by
 have c:PyData.canLayAll0 xs=true/\PyData.depthAll xs=0:=by
  induction xs with
  | nil=>exact ⟨rfl,rfl⟩
  | cons a r ih=>
   obtain ⟨n,rfl,hn⟩:=h a mem_cons_self;have q:=ih fun x hx=>h x (mem_cons_of_mem _ hx)
   simp [PyData.canLayAll0,PyData.canLay0,PyData.depthAll,PyData.depth,q.1,q.2,hn]
 simp [shaped,PyData.canLay0,PyData.depth,c.1,c.2]
theorem lt_int {a b:Int}:lP (.int a) (.int b)=some (.bool (decide (a<b))):=rfl
theorem v7 {a b:Int}:mL (.int a) (.int b)=some (.bool (decide (b<=a))):=rfl
theorem lV {a b:Int}:aG (.int a) (.int b)=some (.int (a+b)):=rfl
theorem dE {a b:Int} (h:0<b):cj (.int a) (.int b)=some (.int (a % b)):=by
 show (if wL a b then _ else _)=_
 rw [if_pos (by unfold wL;simpa using h)]
theorem tM {a b:Int} (h:0<b) (h2:b<1073741824):kQ (.int a) (.int b)=some (.int (a / b)):=by
 show (if wM a b then _ else _)=_
 rw [if_pos (by unfold wM;simp [h,h2])]
theorem xE {a b:Int} (h:-1000000000000<b) (h2:b<1000000000000):kP (.int a) (.int b)=some (.int (a*b)):=by
 show (if ql a b then _ else _)=_
 rw [if_pos (by unfold ql;simp only [Bool.or_eq_true,Bool.and_eq_true,decide_eq_true_eq];right;omega)]
theorem sG {a b:Int} (h:-1000000000000<a) (h2:a<1000000000000):kP (.int a) (.int b)=some (.int (a*b)):=by
 show (if ql a b then _ else _)=_
 rw [if_pos (by unfold ql;simp only [Bool.or_eq_true,Bool.and_eq_true,decide_eq_true_eq];left;omega)]
theorem Cb {b:Int} (h:0<=b) (h2:b<=100):wb (.int 10) (.int b)=some (.int (10 ^ b.toNat)):=by
 show (if wK 10 b then _ else _)=_
 rw [if_pos (by unfold wK;simp only [Bool.and_eq_true,decide_eq_true_eq];exact ⟨⟨h,by omega⟩,by decide⟩)]
theorem Dv {xs:List D} (h:eA xs) {k:Int} (hk:0<=k):∃c,ay [.list xs,.int k]=.ok ⟨.leaf,.int c⟩:=by
 have t:aN aq (ax lP (ae 1) (bb aU (ab (ae 0) af))) [some ⟨.leaf,.list xs⟩,some ⟨.leaf,.int k⟩]=.ok (decide (k<(xs.length:Int))) [some ⟨.leaf,.list xs⟩,some ⟨.leaf,.int k⟩]:=
  jF (aO (aC rfl) (b9 (aL (aC rfl) ak) rfl) lt_int)
 cases hlt:decide (k<(xs.length:Int)) with
 | true=>
  rw [hlt] at t;have hl:=of_decide_eq_true hlt
  have hk2:k.toNat<xs.length:=by omega
  obtain ⟨c,hc⟩:=h _ (getD_mem hk2);have g:=Dk hk2
  rw [hc] at g;exact ⟨c,bH (Dq (b8 t (fun _=>bu (qq (aC rfl) (aC rfl) (CA hk hl) g rfl) rfl) nofun))⟩
 | false=>
  rw [hlt] at t;exact ⟨0,bH (aB (b8 t nofun (fun _=>rfl)) (bu bp rfl))⟩
theorem kZ {c k b:Int} (hk:0<=k) (hk2:k<=1000) (hb:1<=b) (hb2:b<=1000):∃r,ai [.int c,.int k,.int b]=.ok ⟨.leaf,.int r⟩/\0<=r/\r<b:=by
 have t:aN aq (ax mL (ae 0) (ax wb (eK (.int 10)) (eK (.int 18)))) [some ⟨.leaf,.int c⟩,some ⟨.leaf,.int k⟩,some ⟨.leaf,.int b⟩,none,none,none]=.ok (decide (10 ^ (18:Int).toNat<=c)) [some ⟨.leaf,.int c⟩,some ⟨.leaf,.int k⟩,some ⟨.leaf,.int b⟩,none,none,none]:=
  jF (aO (aC rfl) (aO bp bp (Cb (by omega) (by omega))) v7)
 cases hge:decide (10 ^ (18:Int).toNat<=c) with
 | true=>
  rw [hge] at t;obtain ⟨Γ',e,l,x,hΓ⟩:=Fd (P:=fun _ Γ=>∃l x,Γ=[some ⟨.leaf,.int c⟩,some ⟨.leaf,.int k⟩,some ⟨.leaf,.int b⟩,none,some ⟨.leaf,.int l⟩,x]) (i:=5) (body:=av false 4 (ax kQ (ae 4) (ae 2))) (bQ 0 k.toNat) 0
   [some ⟨.leaf,.int c⟩,some ⟨.leaf,.int k⟩,some ⟨.leaf,.int b⟩,none,some ⟨.leaf,.int c⟩,none] ⟨c,none,rfl⟩ (fun m d Γ hd _ _ ⟨l,x,hΓ⟩=>by
    subst hΓ;refine ⟨by simp,_,g9 (aO (aC rfl) (aC rfl) (tM (by omega) (by omega))) rfl (by simp),_,_,rfl⟩)
  subst hΓ;exact ⟨_,bH (Dq (b8 t (fun _=>aB (g9 (aC rfl) rfl (by simp)) (aB (eX (qE (k:=k) (aL (aC rfl) ak) rfl (by omega) (by omega)) e) (bu (aO (aC rfl) (aC rfl) (dE (by omega))) rfl))) nofun)),Int.emod_nonneg _ (by omega),Int.emod_lt_of_pos _ (by omega)⟩
 | false=>
  rw [hge] at t;have m1:∀x:Int,0<=x % 2147483647/\x % 2147483647<2147483647:=fun x=>⟨Int.emod_nonneg _ (by omega),Int.emod_lt_of_pos _ (by omega)⟩
  refine ⟨_,bH (aB (b8 t nofun (fun _=>rfl)) (aB (g9 (aO (aO (aO (aO (aO (aC rfl) bp (dE (by omega))) (aO bp (aC rfl) (sG (by omega) (by omega))) lV) bp lV) bp (xE (by omega) (by omega))) bp (dE (by omega))) rfl (by simp [cL]))
   (aB (g9 (aO (aO (aO (aO (aC rfl) (aC rfl) (sG ?_ ?_)) (aO bp (aC rfl) (sG (by omega) (by omega))) lV) bp lV) bp (dE (by omega))) rfl (by simp [cL]))
   (bu (aO (aO (aO (aO (aC rfl) bp (xE (by omega) (by omega))) bp (dE (by omega))) bp (tM (by omega) (by omega))) (aC rfl) (dE (by omega))) rfl)))),Int.emod_nonneg _ (by omega),Int.emod_lt_of_pos _ (by omega)⟩
  ·exact Int.lt_of_lt_of_le (by omega) (m1 _).1
  ·exact Int.lt_trans (m1 _).2 (by omega)
noncomputable def eh (c k b:Int):Int:=match ai [.int c,.int k,.int b] with
 | .ok ⟨_,.int r⟩=>r
 | _=>0
theorem AN {c k b:Int} (hk:0<=k) (hk2:k<=1000) (hb:1<=b) (hb2:b<=1000):ai [.int c,.int k,.int b]=.ok ⟨.leaf,.int (eh c k b)⟩:=by
 obtain ⟨r,e,_⟩:=kZ (c:=c) hk hk2 hb hb2
 unfold eh;rw [e]
theorem Dj {c k b:Int} (hk:0<=k) (hk2:k<=1000) (hb:1<=b) (hb2:b<=1000):0<=eh c k b/\eh c k b<b:=by
 obtain ⟨r,e,h⟩:=kZ (c:=c) hk hk2 hb hb2
 unfold eh;rw [e];exact h
noncomputable def abc (d:D):D:=match d with
 | .int k=>(match cZ [97,98,99] k with
  | some c=>.str ⟨#[c]⟩
  | none=>.none)
 | _=>.none
theorem sy {c:Nat} (h:c<1000):PyData.strOk ⟨#[c]⟩=true:=by
 unfold PyData.strOk;simp
 omega
theorem wU:(Str.ofString "abc").cps.toList=[97,98,99]:=by decide +kernel
theorem wR:(Str.ofString "abc").length<=sizeLine:=by decide +kernel
theorem ub {k:Nat} (hk:k<3):∃c,c<1000/\cZ (Str.ofString "abc").cps.toList (k:Int)=some c/\abc (.int k)=.str ⟨#[c]⟩:=by
 rw [wU];match k,hk with
 | 0,_=>exact ⟨97,by omega,rfl,rfl⟩
 | 1,_=>exact ⟨98,by omega,rfl,rfl⟩
 | 2,_=>exact ⟨99,by omega,rfl,rfl⟩
noncomputable abbrev eW:FS:=(aj (av false 8 (ah 2 ay (ab (ae 0) (ab (ax aG (ax aG (ae 1) (eK (.int 1))) (ae 7)) af))))
  (aj (dC 4 (ah 3 ai (ab (ae 8) (ab (eK (.int 0)) (ab (eK (.int 2)) af)))))
  (aj (dC 5 (ao .leaf 11 (cK (ab (eK (.int 3)) af)) (aN aq (ax bL (ah 3 ai (ab (ae 8) (ab (ax aG (eK (.int 1)) (ae 11)) (ab (eK (.int 2)) af)))) (eK (.int 1)))) (ag (eK (.str "abc")) (ae 11))))
  (aj (av false 9 (ao .leaf 10 (cK (ab (ae 3) af)) (aN aq (ax bL (ah 3 ai (ab (ae 8) (ab (ax aG (eK (.int 4)) (ae 10)) (ab (ax aG (eK (.int 2)) (bb mK (ab (ax lQ (ae 3) (eK (.int 3))) af))) af)))) (eK (.int 1)))) (ae 10)))
  (aj (bV (aN aq (ax bL (ae 9) (aQ .leaf af))) (av false 9 (aQ .leaf (ab (ah 3 ai (ab (ae 8) (ab (ax aG (eK (.int 4)) (ae 3)) (ab (ae 3) af)))) af))) aM)
  (dC 6 (ae 9)))))))
theorem rA {ts:List Int} (h:ts.Pairwise (· < ·)):e8 (ts.map .int)=true:=by
 unfold e8;rw [all_eq_true];intro d hd;obtain ⟨k,hk,rfl⟩:=xo hd;rw [length_map] at hk;have h1:k<ts.length:=by omega
 have h2:k+1<ts.length:=by omega
 unfold xF;dsimp only;rw [show (1+(k:Int)-1).toNat=k by omega,show (1+(k:Int)).toNat=k+1 by omega]
 rw [getD_eq_getElem?_getD,getD_eq_getElem?_getD,getElem?_map,getElem?_map,getElem?_eq_getElem h1,getElem?_eq_getElem h2];have:=List.pairwise_iff_getElem.mp h k (k+1) h1 h2 (by omega)
 show decide (ts[k]<ts[k+1])=true
 exact decide_eq_true this
structure Gw (N:Int) (n:Nat) (os ms ss:List D):Prop where
 lo:os.length=n
 lm:ms.length=n
 ls:ss.length=n
 o:∀a∈os,a=.int 0\/a=.int 1
 m:∀r∈ms,∃xs,r=.list xs/\gW xs/\xs.length<=30/\zv r=true
 s:∀r∈ss,∃ts:List Int,r=.list (ts.map .int)/\ts.length<=30/\ts≠[]/\(∀t∈ts,0<=t/\t<N)/\ts.Pairwise (· < ·)
theorem Dz {ts:List Int}:eA (ts.map .int):=fun a ha=>by
 obtain ⟨n,_,e⟩:=List.mem_map.mp ha;exact ⟨n,e.symm⟩
theorem Gw.wk {N:Int} {n b:Nat} {os ms ss:List D} (h:Gw N n os ms ss) (hb:n<=b):Wk b os ms ss:=
 ⟨fun a ha=>(h.o a ha).elim (fun e=>⟨0,e⟩) fun e=>⟨1,e⟩,fun r hr=>let ⟨xs,e,a,b,_⟩:=h.m r hr;⟨xs,e,a,b⟩,fun r hr=>let ⟨ts,e,a,_⟩:=h.s r hr;⟨_,e,Dz,by rw [length_map];exact a⟩,by rw [h.lo];exact hb,by rw [h.lm];exact hb,by rw [h.ls];exact hb⟩
theorem Gw.isW {n:Nat} {os ms ss:List D} (h:Gw (n:Int) n os ms ss) (h1:1<=n) (h24:n<=24):isW os ms ss=true:=by
 unfold KC.isW En;rw [h.lo,h.lm,h.ls];have e1:decide ((n:Int)<1)=false:=decide_eq_false (by omega)
 have e2:decide ((24:Int)<n)=false:=decide_eq_false (by omega)
 rw [e1,e2];simp only [beq_self_eq_true,Bool.not_true,Bool.or_self,Bool.not_false,Bool.true_and,Bool.and_eq_true,all_eq_true]
 refine ⟨fun a ha=>?_,fun r hr=>?_,fun r hr=>?_⟩
 ·rcases h.o a ha with rfl | rfl<;>rfl
 ·obtain ⟨xs,_,_,_,e⟩:=h.m r hr
  exact e
 ·obtain ⟨ts,rfl,h2,h3,h4,h5⟩:=h.s r hr
  unfold DY;simp only [Bool.and_eq_true,decide_eq_true_eq,length_map,all_eq_true]
  refine ⟨by cases ts with | nil=>exact absurd rfl h3 | cons a r=>simp,fun a ha=>?_,rA h5⟩
  obtain ⟨t,ht,rfl⟩:=List.mem_map.mp ha;have:=h4 t ht
  unfold inR;simp only [Bool.and_eq_true,decide_eq_true_eq]
  exact this
theorem G6 (c0 c1 c2:Bool):zv (.list (((if c0 then [PyData.str ⟨#[97]⟩] else [])++((if c1 then [PyData.str ⟨#[98]⟩] else [])++(if c2 then [PyData.str ⟨#[99]⟩] else [])))))=true:=by
 cases c0<;>cases c1<;>cases c2<;>decide +kernel
theorem HH (c:D->Bool):((bQ 0 3).filter c).map abc=((if c (.int 0) then [PyData.str ⟨#[97]⟩] else [])++((if c (.int 1) then [PyData.str ⟨#[98]⟩] else [])++(if c (.int 2) then [PyData.str ⟨#[99]⟩] else []))):=by
 have e:bQ 0 3=[.int 0,.int 1,.int 2]:=rfl
 rw [e];simp only [List.filter_cons,List.filter_nil]
 cases c (.int 0)<;>cases c (.int 1)<;>cases c (.int 2)<;>rfl
theorem yE (n:Nat) (c:D->Bool):∃ts:List Int,((bQ 0 n).filter c).map (fun d=>d)=ts.map .int/\(∀t∈ts,0<=t/\t<(n:Int))/\ts.Pairwise (· < ·)/\ts.length<=n:=by
 refine ⟨((List.range n).map fun i=>(0:Int)+(i:Nat)).filter fun i=>c (.int i),?_,fun t ht=>?_,?_,?_⟩
 ·rw [List.map_id']
  unfold bQ;rw [show (fun i:Nat=>PyData.int (0+(i:Int)))=(PyData.int∘fun i:Nat=>(0:Int)+(i:Nat)) from rfl,<-map_map,List.filter_map]
  rfl
 ·obtain ⟨h1,_⟩:=List.mem_filter.mp ht
  obtain ⟨i,hi,rfl⟩:=List.mem_map.mp h1;rw [mem_range] at hi;omega
 ·refine List.Pairwise.filter _ ?_
  rw [pairwise_map];exact List.pairwise_lt_range.imp fun h=>by omega
 ·refine Nat.le_trans (length_filter_le _ _) ?_
  simp
theorem m6 {xs os ms ss:List D} {at' lim many:Int} {n:Nat} {x8 x9:Option PV} (hx:eA xs) (ha:0<=at') (hm:1<=many) (hm2:many<=24) (h:Gw many n os ms ss) (hn:n<=30) {r:Nat} :
  ∃os' ms' ss' x8' x9',eW [some ⟨.leaf,.list xs⟩,some ⟨.leaf,.int at'⟩,some ⟨.leaf,.int lim⟩,some ⟨.leaf,.int many⟩,some ⟨.lst .leaf,.list os⟩,some ⟨.lst .leaf,.list ms⟩,some ⟨.lst .leaf,.list ss⟩,some ⟨.leaf,.int (r:Nat)⟩,x8,x9,none,none]
   = .nx [some ⟨.leaf,.list xs⟩,some ⟨.leaf,.int at'⟩,some ⟨.leaf,.int lim⟩,some ⟨.leaf,.int many⟩,some ⟨.lst .leaf,.list os'⟩,some ⟨.lst .leaf,.list ms'⟩,some ⟨.lst .leaf,.list ss'⟩,some ⟨.leaf,.int (r:Nat)⟩,x8',x9',none,none]/\Gw many (n+1) os' ms' ss':=by
 obtain ⟨c,hc⟩:=Dv hx (k:=at'+1+(r:Int)) (by omega)
 have lo:=h.lo
 have lm:=h.lm
 have ls:=h.ls
 have c5:∀(Γ:Ev),Γ.length=12->Γ[8]?=some (some ⟨.leaf,.int c⟩)->ao .leaf 11 (cK (ab (eK (.int 3)) af)) (aN aq (ax bL (ah 3 ai (ab (ae 8) (ab (ax aG (eK (.int 1)) (ae 11)) (ab (eK (.int 2)) af)))) (eK (.int 1)))) (ag (eK (.str "abc")) (ae 11)) Γ
   = .ok ⟨.lst .leaf,.list (((bQ 0 3).filter fun d=>match d with | .int k=>eh c (1+k) 2==1 | _=>false).map fun d=>abc d)⟩ Γ:=fun Γ hl h8=>by
  refine FN (c:=fun d=>match d with | .int k=>eh c (1+k) 2==1 | _=>false) (f:=fun d=>⟨.leaf,abc d⟩) (st:=true) (qE (k:=3) (aL bp ak) rfl (by omega) (by omega)) (by omega) rfl (by rw [AV];omega) (fun d hd=>?_) fun d hd _=>?_
  ·obtain ⟨k,hk,rfl⟩:=xo hd
   have g11:(Γ.set 11 (some ⟨.leaf,.int (0+(k:Int))⟩))[11]?=some (some ⟨.leaf,.int (0+(k:Int))⟩):=by rw [getElem?_set_self (by omega)]
   have g8:(Γ.set 11 (some ⟨.leaf,.int (0+(k:Int))⟩))[8]?=some (some ⟨.leaf,.int c⟩):=by rw [getElem?_set_ne (by omega)];exact h8
   exact jF (aO (dO (aL (aC g8) (aL (aO bp (aC g11) lV) (aL bp ak))) (AN (by omega) (by omega) (by omega) (by omega)) rfl rfl) bp eq_int)
  ·obtain ⟨k,hk,rfl⟩:=xo hd
   have g11:(Γ.set 11 (some ⟨.leaf,.int (0+(k:Int))⟩))[11]?=some (some ⟨.leaf,.int (0+(k:Int))⟩):=by rw [getElem?_set_self (by omega)]
   obtain ⟨z,hz,e1,e2⟩:=ub hk;rw [Int.zero_add] at g11 ⊢;rw [e2];exact ⟨yo bp (aC g11) wR e1,rfl⟩
 generalize hM:(((bQ 0 3).filter fun d=>match d with | .int k=>eh c (1+k) 2==1 | _=>false).map fun d=>abc d)=M at c5
 have rM:gW M/\M.length<=30/\zv (.list M)=true:=by
  refine ⟨?_,?_,?_⟩
  ·rw [<-hM]
   intro a ha;obtain ⟨d,hd,rfl⟩:=List.mem_map.mp ha;obtain ⟨k,hk,rfl⟩:=xo (List.mem_filter.mp hd).1;obtain ⟨z,hz,e1,e2⟩:=ub hk;rw [Int.zero_add,e2];exact ⟨_,rfl,sy hz⟩
  ·rw [<-hM,length_map]
   refine Nat.le_trans (length_filter_le _ _) ?_
   rw [AV];omega
  ·rw [<-hM]
   have:=HH (fun d=>match d with | .int k=>eh c (1+k) 2==1 | _=>false)
   rw [show (fun d=>abc d)=abc from rfl,this]
   exact G6 _ _ _
 have c6:∀(Γ:Ev),Γ.length=12->Γ[8]?=some (some ⟨.leaf,.int c⟩)->Γ[3]?=some (some ⟨.leaf,.int many⟩)->ao .leaf 10 (cK (ab (ae 3) af)) (aN aq (ax bL (ah 3 ai (ab (ae 8) (ab (ax aG (eK (.int 4)) (ae 10)) (ab (ax aG (eK (.int 2)) (bb mK (ab (ax lQ (ae 3) (eK (.int 3))) af))) af)))) (eK (.int 1)))) (ae 10) Γ
   = .ok ⟨.lst .leaf,.list (((bQ 0 many.toNat).filter fun d=>match d with | .int k=>eh c (4+k) (2+(if decide (3<many) then 1 else 0))==1 | _=>false).map fun d=>d)⟩ Γ:=fun Γ hl h8 h3=>by
  refine FN (c:=fun d=>match d with | .int k=>eh c (4+k) (2+(if decide (3<many) then 1 else 0))==1 | _=>false) (f:=fun d=>⟨.leaf,d⟩) (st:=true) (qE (k:=many) (aL (aC h3) ak) rfl (by omega) (by omega)) (by omega) rfl (by rw [AV];omega) (fun d hd=>?_) fun d hd _=>?_
  ·obtain ⟨k,hk,rfl⟩:=xo hd
   have g10:(Γ.set 10 (some ⟨.leaf,.int (0+(k:Int))⟩))[10]?=some (some ⟨.leaf,.int (0+(k:Int))⟩):=by rw [getElem?_set_self (by omega)]
   have g8:(Γ.set 10 (some ⟨.leaf,.int (0+(k:Int))⟩))[8]?=some (some ⟨.leaf,.int c⟩):=by rw [getElem?_set_ne (by omega)];exact h8
   have g3:(Γ.set 10 (some ⟨.leaf,.int (0+(k:Int))⟩))[3]?=some (some ⟨.leaf,.int many⟩):=by rw [getElem?_set_ne (by omega)];exact h3
   have b1:(1:Int)<=2+(if decide (3<many) then 1 else 0)/\(2:Int)+(if decide (3<many) then 1 else 0)<=1000:=by split<;>omega
   exact jF (aO (dO (aL (aC g8) (aL (aO bp (aC g10) lV) (aL (aO bp (b9 (aL (aO (aC g3) bp rfl) ak) rfl) lV) ak))) (AN (by omega) (by omega) b1.1 b1.2) rfl rfl) bp eq_int)
  ·obtain ⟨k,hk,rfl⟩:=xo hd
   exact ⟨aC (by rw [getElem?_set_self (by omega)]),rfl⟩
 obtain ⟨ts,hT,hts1,hts2,hts3⟩:=yE many.toNat (fun d=>match d with | .int k=>eh c (4+k) (2+(if decide (3<many) then 1 else 0))==1 | _=>false)
 rw [hT] at c6;have fin:∀(Γ:Ev) (T:List Int),(T.length<=30/\T≠[]/\(∀t∈T,0<=t/\t<many)/\T.Pairwise (· < ·))->Γ=[some ⟨.leaf,.list xs⟩,some ⟨.leaf,.int at'⟩,some ⟨.leaf,.int lim⟩,some ⟨.leaf,.int many⟩,some ⟨.lst .leaf,.list (os++[.int (eh c 0 2)])⟩,some ⟨.lst .leaf,.list (ms++[.list M])⟩,some ⟨.lst .leaf,.list ss⟩,some ⟨.leaf,.int (r:Nat)⟩,some ⟨.leaf,.int c⟩,some ⟨.leaf,.list (T.map .int)⟩,none,none] ->
   ∃os' ms' ss' x8' x9',dC 6 (ae 9) Γ=.nx [some ⟨.leaf,.list xs⟩,some ⟨.leaf,.int at'⟩,some ⟨.leaf,.int lim⟩,some ⟨.leaf,.int many⟩,some ⟨.lst .leaf,.list os'⟩,some ⟨.lst .leaf,.list ms'⟩,some ⟨.lst .leaf,.list ss'⟩,some ⟨.leaf,.int (r:Nat)⟩,x8',x9',none,none]/\Gw many (n+1) os' ms' ss':=fun Γ T hT2 hΓ=>by
  subst hΓ;refine ⟨os++[.int (eh c 0 2)],ms++[.list M],ss++[.list (T.map .int)],_,_,By rfl (aC rfl) rfl (by omega),by simp;omega,by simp;omega,by simp;omega,fun a ha=>?_,fun a ha=>?_,fun a ha=>?_⟩
  ·rcases List.mem_append.mp ha with z | z
   ·exact h.o a z
   ·have:=Dj (c:=c) (k:=0) (b:=2) (by omega) (by omega) (by omega) (by omega)
    rw [List.mem_singleton.mp z];rcases (by omega:eh c 0 2=0\/eh c 0 2=1) with e | e
    ·exact .inl (by rw [e])
    ·exact .inr (by rw [e])
  ·rcases List.mem_append.mp ha with z | z
   ·exact h.m a z
   ·exact ⟨M,List.mem_singleton.mp z,rM.1,rM.2.1,by rw [List.mem_singleton.mp z];exact rM.2.2⟩
  ·rcases List.mem_append.mp ha with z | z
   ·exact h.s a z
   ·exact ⟨T,List.mem_singleton.mp z,hT2⟩
 have e1:=g9 (i:=8) (dO (fl:=ab (ae 0) (ab (ax aG (ax aG (ae 1) (eK (.int 1))) (ae 7)) af)) (Γ:=[some ⟨.leaf,.list xs⟩,some ⟨.leaf,.int at'⟩,some ⟨.leaf,.int lim⟩,some ⟨.leaf,.int many⟩,some ⟨.lst .leaf,.list os⟩,some ⟨.lst .leaf,.list ms⟩,some ⟨.lst .leaf,.list ss⟩,some ⟨.leaf,.int (r:Nat)⟩,x8,x9,none,none]) (aL (aC rfl) (aL (aO (aO (aC rfl) bp lV) (aC rfl) lV) ak)) hc rfl rfl) rfl (by simp)
 have e2:dC 4 (ah 3 ai (ab (ae 8) (ab (eK (.int 0)) (ab (eK (.int 2)) af)))) [some ⟨.leaf,.list xs⟩,some ⟨.leaf,.int at'⟩,some ⟨.leaf,.int lim⟩,some ⟨.leaf,.int many⟩,some ⟨.lst .leaf,.list os⟩,some ⟨.lst .leaf,.list ms⟩,some ⟨.lst .leaf,.list ss⟩,some ⟨.leaf,.int (r:Nat)⟩,some ⟨.leaf,.int c⟩,x9,none,none]=_:=
  By rfl (dO (aL (aC rfl) (aL bp (aL bp ak))) (AN (by omega) (by omega) (by omega) (by omega)) rfl rfl) rfl (by omega)
 have e3:=By (i:=5) (Γ:=[some ⟨.leaf,.list xs⟩,some ⟨.leaf,.int at'⟩,some ⟨.leaf,.int lim⟩,some ⟨.leaf,.int many⟩,some ⟨.lst .leaf,.list (os++[.int (eh c 0 2)])⟩,some ⟨.lst .leaf,.list ms⟩,some ⟨.lst .leaf,.list ss⟩,some ⟨.leaf,.int (r:Nat)⟩,some ⟨.leaf,.int c⟩,x9,none,none]) rfl (c5 _ rfl rfl) rfl (by omega)
 have e4:=g9 (i:=9) (Γ:=[some ⟨.leaf,.list xs⟩,some ⟨.leaf,.int at'⟩,some ⟨.leaf,.int lim⟩,some ⟨.leaf,.int many⟩,some ⟨.lst .leaf,.list (os++[.int (eh c 0 2)])⟩,some ⟨.lst .leaf,.list (ms++[.list M])⟩,some ⟨.lst .leaf,.list ss⟩,some ⟨.leaf,.int (r:Nat)⟩,some ⟨.leaf,.int c⟩,x9,none,none]) (c6 _ rfl rfl rfl) rfl (by simp)
 have t:aN aq (ax bL (ae 9) (aQ .leaf af)) [some ⟨.leaf,.list xs⟩,some ⟨.leaf,.int at'⟩,some ⟨.leaf,.int lim⟩,some ⟨.leaf,.int many⟩,some ⟨.lst .leaf,.list (os++[.int (eh c 0 2)])⟩,some ⟨.lst .leaf,.list (ms++[.list M])⟩,some ⟨.lst .leaf,.list ss⟩,some ⟨.leaf,.int (r:Nat)⟩,some ⟨.leaf,.int c⟩,some ⟨.leaf,.list (ts.map .int)⟩,none,none]
   = .ok (decide ((ts.map PyData.int).length=0)) _:=jF (aO (aC rfl) (qr (s:=.leaf) ak rfl rfl rfl) (zW (Fu Dz)))
 cases hz:decide ((ts.map PyData.int).length=0) with
 | true=>
  rw [hz] at t;obtain ⟨o',m',s',y8,y9,f1,f2⟩:=fin _ [eh c (4+many) many] ⟨by simp,by simp,fun t ht=>by rw [List.mem_singleton.mp ht];exact Dj (by omega) (by omega) (by omega) (by omega),List.pairwise_singleton _ _⟩ rfl
  exact ⟨o',m',s',y8,y9,aB e1 (aB e2 (aB e3 (aB e4 (aB (b8 t (fun _=>g9 (qr (s:=.leaf) (aL (dO (aL (aC rfl) (aL (aO bp (aC rfl) lV) (aL (aC rfl) ak))) (AN (by omega) (by omega) (by omega) (by omega)) rfl rfl) ak) rfl rfl rfl) rfl (by simp)) nofun) f1)))),f2⟩
 | false=>
  rw [hz] at t;obtain ⟨o',m',s',y8,y9,f1,f2⟩:=fin _ ts ⟨by omega,(fun z=>by rw [z] at hz;cases hz),(fun t ht=>by have:=hts1 t ht;omega),hts2⟩ rfl
  exact ⟨o',m',s',y8,y9,aB e1 (aB e2 (aB e3 (aB e4 (aB (b8 t nofun (fun _=>rfl)) f1)))),f2⟩
noncomputable abbrev W3:Sh:=.tup [.lst .leaf,.lst .leaf,.lst .leaf]
noncomputable abbrev cM (os ms ss:List D):D:=.tuple [.list os,.list ms,.list ss]
theorem pY {xs:List D} {at' lim:Int} (hx:eA xs) (ha:0<=at') (hl:1<=lim) (hl2:lim<=24):∃(n:Nat) (os ms ss:List D),m__law_world [.list xs,.int at',.int lim]=.ok ⟨W3,cM os ms ss⟩/\Gw (n:Int) n os ms ss/\1<=n/\(n:Int)<=lim:=by
 obtain ⟨c,hc⟩:=Dv hx (k:=at') ha
 have b0:0<=c % lim:=Int.emod_nonneg _ (by omega)
 have b1:c % lim<lim:=Int.emod_lt_of_pos _ (by omega)
 generalize hmm:1+c % lim=many at *
 have e0:av false 3 (ax aG (eK (.int 1)) (ax cj (ah 2 ay (ab (ae 0) (ab (ae 1) af))) (ae 2))) [some ⟨.leaf,.list xs⟩,some ⟨.leaf,.int at'⟩,some ⟨.leaf,.int lim⟩,none,none,none,none,none,none,none,none,none]
   = .nx [some ⟨.leaf,.list xs⟩,some ⟨.leaf,.int at'⟩,some ⟨.leaf,.int lim⟩,some ⟨.leaf,.int many⟩,none,none,none,none,none,none,none,none]:=by
  rw [<-hmm];exact g9 (aO bp (aO (dO (aL (aC rfl) (aL (aC rfl) ak)) hc rfl rfl) (aC rfl) (dE (by omega))) lV) rfl (by simp)
 obtain ⟨Γ',e,os,ms,ss,x7,x8,x9,hΓ,hw⟩:=Fd (P:=fun n Γ=>∃os ms ss x7 x8 x9,Γ=[some ⟨.leaf,.list xs⟩,some ⟨.leaf,.int at'⟩,some ⟨.leaf,.int lim⟩,some ⟨.leaf,.int many⟩,some ⟨.lst .leaf,.list os⟩,some ⟨.lst .leaf,.list ms⟩,some ⟨.lst .leaf,.list ss⟩,x7,x8,x9,none,none]/\Gw many n os ms ss) (i:=7) (body:=eW) (bQ 0 many.toNat) 0
  [some ⟨.leaf,.list xs⟩,some ⟨.leaf,.int at'⟩,some ⟨.leaf,.int lim⟩,some ⟨.leaf,.int many⟩,some ⟨.lst .leaf,.list []⟩,some ⟨.lst .leaf,.list []⟩,some ⟨.lst .leaf,.list []⟩,none,none,none,none,none] ⟨[],[],[],none,none,none,rfl,rfl,rfl,rfl,fun a ha=>(nomatch ha),fun a ha=>(nomatch ha),fun a ha=>(nomatch ha)⟩ (fun m d Γ hd h1 h2 ⟨os,ms,ss,x7,x8,x9,hΓ,hw⟩=>by
   subst hΓ;obtain ⟨k,hk,rfl⟩:=xo hd;rw [AV] at h2;rw [Int.zero_add];obtain ⟨os',ms',ss',y8,y9,f1,f2⟩:=m6 (at':=at') (lim:=lim) (many:=many) (x8:=x8) (x9:=x9) hx ha (by omega) (by omega) hw (by omega) (r:=k)
   exact ⟨by simp,_,f1,os',ms',ss',_,y8,y9,rfl,f2⟩)
 subst hΓ;rw [AV,Nat.zero_add] at hw;have en:((many.toNat:Nat):Int)=many:=by omega
 refine ⟨many.toNat,os,ms,ss,bH (aB e0 (aB (lT (qr (s:=.leaf) ak rfl rfl rfl) rfl (by simp)) (aB (lT (qr (s:=.leaf) ak rfl rfl rfl) rfl (by simp)) (aB (lT (qr (s:=.leaf) ak rfl rfl rfl) rfl (by simp)) (aB (eX (qE (k:=many) (aL (aC rfl) ak) rfl (by omega) (by omega)) e) (bu (dD (aL (qy (p:=⟨.lst .leaf,.list os⟩) rfl) (aL (qy (p:=⟨.lst .leaf,.list ms⟩) rfl) (aL (qy (p:=⟨.lst .leaf,.list ss⟩) rfl) ak))) rfl rfl) rfl)))))),by rw [en];exact hw,by omega,by omega⟩
theorem Co {n:Nat} {g:FS} {ds:List D} {Γ:Ev} (h:g (cL n ds)=.nx Γ):aF n g ds=.ok ⟨.leaf,.none⟩:=by unfold aF;rw [h]
theorem df {Γ Γ1:Ev} {fa:F1} {p:PV} {c:String} {b:Bool} (ha:fa Γ=.ok p Γ1) (hb:sW (yr p.d) c=b):bW c fa Γ=.ok ⟨.leaf,.bool b⟩ Γ1:=by
 unfold bW aR;rw [ha];simp only [Out.bind,hb]
theorem v_not {Γ Γ1:Ev} {fa:F1} {s:Sh} {b:Bool} (ha:fa Γ=.ok ⟨s,.bool b⟩ Γ1):mN fa Γ=.ok ⟨.leaf,.bool (!b)⟩ Γ1:=by
 unfold mN aR;rw [ha];rfl
theorem uG {Γ Γ1:Ev} {fa:F1} {p:PV} (h:fa Γ=.ok p Γ1):cR fa Γ=.nx Γ1:=by unfold cR g6;rw [h]
theorem qb {b:Nat} {os ms ss:List D} (h:Wk b os ms ss) (hb:b<=100) (hw:isW os ms ss=true):bo [cM os ms ss]=.ok ⟨.leaf,.none⟩:=by
 have t:bx (aN aZ (ah 3 cN (ab (ag (ae 0) (eK (.int 0))) (ab (ag (ae 0) (eK (.int 1))) (ab (ag (ae 0) (eK (.int 2))) af))))) [some ⟨.leaf,cM os ms ss⟩]=.ok (!(isW os ms ss)) [some ⟨.leaf,cM os ms ss⟩]:=
  bZ (bP (dO (aL (jN (j:=0) (aC rfl) bp rfl rfl rfl) (aL (jN (j:=1) (aC rfl) bp rfl rfl rfl) (aL (jN (j:=2) (aC rfl) bp rfl rfl rfl) ak))) (ju h hb) rfl rfl))
 rw [hw] at t;exact Co (b8 t nofun (fun _=>rfl))
theorem kX {d:D} (h:shaped d=true):bL d d=some (.bool true):=by
 unfold bL;rw [h,Bool.and_self,if_pos rfl,PySem.SeqAt.eqv_refl _ (canLay_of_shaped h)]
theorem ku {d:D} (h:shaped d=true):dS d d=some (.bool false):=by
 unfold dS;rw [h,Bool.and_self,if_pos rfl,PySem.SeqAt.eqv_refl _ (canLay_of_shaped h)];rfl
noncomputable def dl (S:List (List Int)):List D:=S.map fun ts=>.list (ts.map .int)
structure Sw (n:Nat) (S:List (List Int)):Prop where
 len:S.length=n
 row:∀ts∈S,ts.length<=30/\(∀t∈ts,0<=t/\t<(n:Int))/\ts.Pairwise (· < ·)
theorem zH {ts:List Int} {i:Int}:cA false (.int i) (.list (ts.map .int))=some (.bool (ts.contains i)):=by
 unfold cA;simp only [AK,Fu Dz,Bool.and_self,if_true]
 congr 2
 rw [Bool.eq_iff_iff];simp only [Bool.false_eq_true,if_false,any_eq_true,mem_map,contains_iff_mem]
 constructor
 ·rintro ⟨d,⟨t,ht,rfl⟩,e⟩
  rw [PyData.eqv] at e;have:t=i:=by simpa using e
  rw [<-this];exact ht
 ·intro h
  exact ⟨.int i,⟨i,h,rfl⟩,by rw [PyData.eqv];simp⟩
theorem CV {xs:List D} (h:eA xs):PyData.canLayAll0 xs=true/\PyData.depthAll xs=0:=by
 induction xs with
 | nil=>exact ⟨rfl,rfl⟩
 | cons a r ih=>
  obtain ⟨n,rfl⟩:=h a mem_cons_self;have q:=ih fun x hx=>h x (mem_cons_of_mem _ hx)
  simp [PyData.canLayAll0,PyData.canLay0,PyData.depthAll,PyData.depth,q.1,q.2]
theorem HC {xs:List D} (h:gW xs):PyData.canLayAll0 xs=true/\PyData.depthAll xs=0:=by
 induction xs with
 | nil=>exact ⟨rfl,rfl⟩
 | cons a r ih=>
  obtain ⟨n,rfl,hn⟩:=h a mem_cons_self;have q:=ih fun x hx=>h x (mem_cons_of_mem _ hx)
  simp [PyData.canLayAll0,PyData.canLay0,PyData.depthAll,PyData.depth,q.1,q.2,hn]
theorem oy {ms:List D} (h:∀r∈ms,∃xs,r=.list xs/\PyData.canLayAll0 xs=true/\PyData.depthAll xs=0):PyData.canLayAll0 ms=true/\PyData.depthAll ms<=1:=by
 induction ms with
 | nil=>exact ⟨rfl,Nat.zero_le _⟩
 | cons a r ih=>
  obtain ⟨xs,rfl,h1,h2⟩:=h a mem_cons_self;have q:=ih fun x hx=>h x (mem_cons_of_mem _ hx)
  refine ⟨by simp [PyData.canLayAll0,PyData.canLay0,q.1,h1],?_⟩
  rw [PyData.depthAll,PyData.depth,h2];exact Nat.max_le.mpr ⟨by omega,q.2⟩
noncomputable def has (x:Str) (d:D):Bool:=match d with
 | .list xs=>xs.any fun y=>PyData.eqv y (.str x)
 | _=>false
end KC
namespace T
open PySem PySem.Spec L2
open PyProof.Rows hiding St
section
variable {Γ Γ1:Ev} {fa fb fc:F1} {fl:FL} {p:PV} {i n:Nat} {ga gb:FB} {g1 g2:FS}
@[simp] theorem GC:sizeLine=16777216:=rfl
@[simp] theorem Bm {α β:Type} {a:α} {e:Ev} {k:α->Ev->Out β}:(Out.ok a e).bind k=k a e:=rfl
@[simp] theorem r_k {d:D}:eK d Γ=.ok ⟨.leaf,d⟩ Γ:=rfl
@[simp] theorem Iw:af Γ=.ok [] Γ:=rfl
@[simp] theorem Gu:az Γ=.ok true Γ:=rfl
@[simp] theorem Gz:aM Γ=.nx Γ:=rfl
@[simp] theorem GU:ab fa fl Γ=(fa Γ).bind fun p Γ1=>(fl Γ1).bind fun ps Γ2=>.ok (p::ps) Γ2:=rfl
@[simp] theorem Jc {g:D->D->Option D}:ax g fa fb Γ=(fa Γ).bind fun p Γ1=>(fb Γ1).bind fun q Γ2=>match g p.d q.d with | some d=>.ok ⟨.leaf,d⟩ Γ2 | none=>.no:=rfl
@[simp] theorem Je {g:List D->Option D}:bb g fl Γ=(fl Γ).bind fun ps Γ'=>match g (ps.map (·.d)) with | some d=>.ok ⟨.leaf,d⟩ Γ' | none=>.no:=rfl
@[simp] theorem IG {g:D->Option Bool}:aN g fa Γ=(fa Γ).bind fun p Γ'=>match g p.d with | some b=>.ok b Γ' | none=>.no:=rfl
@[simp] theorem GX:bx ga Γ=(ga Γ).bind fun c Γ'=>.ok (!c) Γ':=rfl
@[simp] theorem GY:Aq ga gb Γ=(ga Γ).bind fun c Γ'=>if c then gb Γ' else .ok false Γ':=rfl
@[simp] theorem IF:cY ga gb Γ=(ga Γ).bind fun c Γ'=>if c then .ok true Γ' else gb Γ':=rfl
@[simp] theorem IE:ux ga fa fb Γ=(ga Γ).bind fun b Γ'=>if b then fa Γ' else fb Γ':=rfl
@[simp] theorem GS:fQ fa fb Γ=(fa Γ).bind fun p Γ=>match p.d with | .bool true=>fb Γ | .bool false=>.ok ⟨.leaf,.bool false⟩ Γ | _=>.no:=rfl
@[simp] theorem GR:mN fa Γ=(fa Γ).bind fun p Γ=>match p.d with | .bool b=>.ok ⟨.leaf,.bool (!b)⟩ Γ | _=>.no:=rfl
@[simp] theorem Il:aj g1 g2 Γ=match g1 Γ with | .nx Γ'=>g2 Γ' | .rt p=>.rt p | .bk Γ'=>.bk Γ' | .ct Γ'=>.ct Γ' | .er c Γ'=>.er c Γ' | .no=>.no:=by
 unfold aj
 cases g1 Γ<;>rfl
@[simp] theorem y0 {k:PV->Ev->OutS}:g6 fa k Γ=match fa Γ with | .ok p Γ1=>k p Γ1 | .er c Γ1=>.er c Γ1 | .no=>.no:=by
 unfold g6
 cases fa Γ<;>rfl
@[simp] theorem Jd:bV ga g1 g2 Γ=match ga Γ with | .ok b Γ1=>if b then g1 Γ1 else g2 Γ1 | .er c Γ1=>.er c Γ1 | .no=>.no:=by
 unfold bV
 cases ga Γ<;>rfl
@[simp] theorem D1 {b:Bool}:aq (.bool b)=some b:=rfl
@[simp] theorem GM {b:Bool}:aZ (.bool b)=some b:=rfl
@[simp] theorem DZ {xs:List D}:aZ (.list xs)=some (!xs.isEmpty):=rfl
noncomputable def D7 (p:PV):PV:=match p.s with
 | .leaf=>p
 | _=>⟨.view,p.d⟩
@[simp] theorem Iq {d:D}:D7 ⟨.leaf,d⟩=⟨.leaf,d⟩:=rfl
@[simp] theorem Ip {s:Sh} {d:D}:D7 ⟨.lst s,d⟩=⟨.view,d⟩:=rfl
@[simp] theorem Io {s:List Sh} {d:D}:D7 ⟨.tup s,d⟩=⟨.view,d⟩:=rfl
@[simp] theorem Ih:ae i Γ=match Γ[i]? with | some (some p)=>.ok (D7 p) Γ | _=>.no:=by
 unfold ae
 cases h:Γ[i]? with
 | none=>rfl
 | some o=>
  cases o with
  | none=>rfl
  | some p=>
   obtain ⟨s,d⟩:=p
   cases s<;>rfl
@[simp] theorem GA:aV i Γ=match Γ[i]? with | some (some p)=>.ok p (Γ.set i none) | _=>.no:=rfl
@[simp] theorem GV {d:D}:coer .leaf ⟨.leaf,d⟩=true:=rfl
@[simp] theorem D4 {s:Sh} {d:D}:coer .leaf ⟨.lst s,d⟩=true:=rfl
@[simp] theorem D3 {s:List Sh} {d:D}:coer .leaf ⟨.tup s,d⟩=true:=rfl
@[simp] theorem D5 {i:Int} {s:Sh}:coer .leaf ⟨s,.int i⟩=true:=by cases s<;>rfl
@[simp] theorem D6 {b:Bool} {s:Sh}:coer .leaf ⟨s,.bool b⟩=true:=by cases s<;>rfl
@[simp] theorem GH:Sh.isView .leaf=false:=rfl
@[simp] theorem GG {s:Sh}:Sh.isView (.lst s)=false:=rfl
@[simp] theorem GE {s:List Sh}:Sh.isView (.tup s)=false:=rfl
@[simp] theorem Ik {own:Bool}:av own i fa Γ=match fa Γ with | .ok p Γ1=>(if i<Γ1.length then (if own&&!p.s.isView then .nx (Γ1.set i (some p)) else if T.coer .leaf p then .nx (Γ1.set i (some ⟨.leaf,p.d⟩)) else .no) else .no) | .er c Γ1=>.er c Γ1 | .no=>.no:=by
 unfold av;rw [y0]
@[simp] theorem Im:aE fa Γ=match fa Γ with | .ok p Γ1=>(if p.s.isView then (if aW p.d then .rt ⟨.leaf,p.d⟩ else .no) else .rt p) | .er c Γ1=>.er c Γ1 | .no=>.no:=by
 unfold aE;rw [y0]
@[simp] theorem GT:cR fa Γ=match fa Γ with | .ok p Γ1=>.nx Γ1 | .er c Γ1=>.er c Γ1 | .no=>.no:=by
 unfold cR;rw [y0]
@[simp] theorem GW {den:List D->Res}:ah n den fl Γ=(fl Γ).bind fun ps Γ'=>if ps.length=n then (match den (ps.map (·.d)) with | .ok p=>if ps.all (T.coer .leaf) then .ok p Γ' else if aW p.d then .ok ⟨.leaf,p.d⟩ Γ' else .ok ⟨.view,p.d⟩ Γ' | _=>.no) else .no:=rfl
@[simp] theorem GQ {a b:Int}:aG (.int a) (.int b)=some (.int (a+b)):=rfl
@[simp] theorem GN {a b:Int}:gSub (.int a) (.int b)=some (.int (a-b)):=rfl
@[simp] theorem IC {a b:Int}:lP (.int a) (.int b)=some (.bool (decide (a<b))):=rfl
@[simp] theorem ID {a b:Int}:lQ (.int a) (.int b)=some (.bool (decide (b<a))):=rfl
@[simp] theorem GP {ds:List D}:aU [.list ds]=some (.int ds.length):=rfl
@[simp] theorem D0 {ds:List D}:aU [.tuple ds]=some (.int ds.length):=rfl
noncomputable def kO (p q:PV):Ev->Out PV:=ag (fun Γ=>.ok p Γ) (fun Γ=>.ok q Γ)
@[simp] theorem iK:ag fa fb Γ=(fa Γ).bind fun p Γ1=>(fb Γ1).bind fun q Γ2=>kO p q Γ2:=by
 unfold kO ag aR
 cases fa Γ with
 | ok p Γ1=>simp only [Bm]
 | er c Γ1=>rfl
 | no=>rfl
@[simp] theorem rO {ds:List D} {k:Int} {s:Sh}:kO ⟨.leaf,.tuple ds⟩ ⟨s,.int k⟩ Γ=match cZ ds k with | some d=>.ok ⟨.leaf,d⟩ Γ | none=>.no:=by
 unfold kO ag aR cZ;simp only [Bm]
 cases h:dn ds.length k with
 | none=>rfl
 | some j=>
  simp only [Option.bind_some]
  cases h2:ds[j]? with
  | none=>rfl
  | some d=>rfl
@[simp] theorem rP {ds:List D} {k:Int} {s:Sh}:kO ⟨.leaf,.list ds⟩ ⟨s,.int k⟩ Γ=match cZ ds k with | some d=>.ok ⟨.leaf,d⟩ Γ | none=>.no:=by
 unfold kO ag aR cZ;simp only [Bm]
 cases h:dn ds.length k with
 | none=>rfl
 | some j=>
  simp only [Option.bind_some]
  cases h2:ds[j]? with
  | none=>rfl
  | some d=>rfl
@[simp] theorem IB {ds:List D} {k:Int} {s:Sh}:kO ⟨.view,.list ds⟩ ⟨s,.int k⟩ Γ=match cZ ds k with | some d=>.ok ⟨if aW d then .leaf else .view,d⟩ Γ | none=>.no:=by
 unfold kO ag aR cZ;simp only [Bm]
 cases h:dn ds.length k with
 | none=>rfl
 | some j=>
  simp only [Option.bind_some]
  cases h2:ds[j]? with
  | none=>rfl
  | some d=>rfl
@[simp] theorem B2 {α:Type} {a:α} {r:List α}:cZ (a::r) 0=some a:=by
 simp [cZ,dn]
@[simp] theorem B1 {α:Type} {a b:α} {r:List α}:cZ (a::b::r) 1=some b:=by
 have:(1:Int)<(r.length:Int)+1+1:=by omega
 simp [cZ,dn,this]
@[simp] theorem B0 {α:Type} {a b c:α} {r:List α}:cZ (a::b::c::r) 2=some c:=by
 have:(2:Int)<(r.length:Int)+1+1+1:=by omega
 simp [cZ,dn,this]
theorem AD {α:Type} {xs:List α} {k:Nat} {x:α} (h:xs[k]?=some x):cZ xs (k:Int)=some x:=by
 have hk:=(List.getElem?_eq_some_iff.mp h).1
 have:(k:Int)<(xs.length:Int):=by omega
 simp [cZ,dn,this,h]
end
section
variable {Γ:Ev} {fa fb:F1} {i:Nat}
@[simp] theorem Iy {c:String}:bW c fa Γ=(fa Γ).bind fun p Γ=>.ok ⟨.leaf,.bool (sW (yr p.d) c)⟩ Γ:=rfl
@[simp] theorem GB {s:Sh} {fl:FL}:aQ s fl Γ=(fl Γ).bind fun ps Γ'=>if !s.isView&&ps.all (T.coer s)&&decide (ps.length<=sizeLine) then .ok ⟨.lst s,.list (ps.map (·.d))⟩ Γ' else .no:=rfl
@[simp] theorem Ii {fl:FL}:bD fl Γ=(fl Γ).bind fun ps Γ'=>if ps.all tok&&decide (ps.length<=sizeLine) then .ok ⟨.tup (ps.map yt),.tuple (ps.map (·.d))⟩ Γ' else .no:=rfl
@[simp] theorem Gy {d:D}:tok ⟨.leaf,d⟩=true:=rfl
@[simp] theorem Gx {s:Sh} {d:D}:tok ⟨.lst s,d⟩=true:=rfl
@[simp] theorem Gv {s:List Sh} {d:D}:tok ⟨.tup s,d⟩=true:=rfl
@[simp] theorem Iz {a:D}:mJ false a .none=some (.bool (AO a)):=rfl
@[simp] theorem GD {a:D}:mJ true a .none=some (.bool (!AO a)):=rfl
@[simp] theorem Ij:zY fa fb Γ=(fa Γ).bind fun p Γ1=>(fb Γ1).bind fun q Γ2=>match p.d,q.d with | .tuple xs,.int k=>if !p.s.isView&&decide (1<=k)&&decide (k<=xs.length) then .ok ⟨.leaf,.tuple (xs.drop k.toNat)⟩ Γ2 else .no | _,_=>.no:=rfl
@[simp] theorem IA {neg:Bool} {tab:List (Str×Int)}:CK neg tab fa Γ=(fa Γ).bind fun p Γ=>match p.d with | .str k=>.ok ⟨.leaf,.bool (if neg then !(fw k tab).isSome else (fw k tab).isSome)⟩ Γ | _=>.no:=rfl
@[simp] theorem GL {tab:List (Str×Int)}:xO tab fa Γ=(fa Γ).bind fun p Γ=>match p.d with | .str k=>(match fw k tab with | some i=>.ok ⟨.leaf,.int i⟩ Γ | none=>.no) | _=>.no:=rfl
@[simp] theorem GI:sX fa Γ=(fa Γ).bind fun p Γ'=>match p.d with | .tuple ds=>if du p ds then .ok ⟨ds,!p.s.isView⟩ Γ' else .no | _=>.no:=rfl
@[simp] theorem GJ:aJ fa Γ=(fa Γ).bind fun p Γ'=>match p.d with | .list ds=>if du p ds then .ok ⟨ds,!p.s.isView⟩ Γ' else .no | _=>.no:=rfl
@[simp] theorem Iv {d:D} {ds:List D}:du ⟨.leaf,d⟩ ds=true:=rfl
@[simp] theorem Iu {s:Sh} {d:D} {ds:List D}:du ⟨.lst s,d⟩ ds=true:=rfl
@[simp] theorem Ir {s:List Sh} {d:D} {ds:List D}:du ⟨.tup s,d⟩ ds=true:=rfl
@[simp] theorem IH {f:F1}:rn i f Γ=match Γ[i]? with | some (some ⟨.leaf,.int a⟩)=>g6 f (Ar i a) Γ | _=>.no:=rfl
@[simp] theorem GZ {a b:Int} {s:Sh}:Ar i a ⟨s,.int b⟩ Γ=if i<Γ.length then .nx (Γ.set i (some ⟨.leaf,.int (a+b)⟩)) else .no:=rfl
theorem iC {β:Type} {c:FB} {g:FS} {G:β->Ev} {test:β->Bool} {Inv:β->Prop} {meas:β->Nat} (hc:∀b,Inv b->c (G b)=.ok (test b) (G b)) (hg:∀b,Inv b->test b=true->∃b',g (G b)=.nx (G b')/\Inv b'/\meas b'<meas b) :
  ∀(N:Nat) (b:β),Inv b->meas b<N->∃b',uo c g N (G b)=.nx (G b')/\Inv b'/\test b'=false
 | 0,b,_,h=>by omega
 | N+1,b,hi,hm=>by
  rw [uo,hc b hi]
  cases ht:test b with
  | false=>exact ⟨b,rfl,hi,ht⟩
  | true=>
   obtain ⟨b1,h1,h2,h3⟩:=hg b hi ht;obtain ⟨b',e,q⟩:=iC hc hg N b1 h2 (by omega)
   refine ⟨b',?_,q⟩
   simp only [h1]
   exact e
end
theorem FH {α:Type} {en:α->D} {i:Nat} {fc:FB} {fe:F1} {s:Sh} {c:α->Bool} {f:α->PV} {Γ:Ev} (hΓ:Γ.set i none=Γ):∀(r:List α) (acc:List D),(∀x∈r,fc (Γ.set i (some ⟨.leaf,en x⟩))=.ok (c x) (Γ.set i (some ⟨.leaf,en x⟩))) ->
  (∀x∈r,c x=true->fe (Γ.set i (some ⟨.leaf,en x⟩))=.ok (f x) (Γ.set i (some ⟨.leaf,en x⟩))/\coer s (f x)=true)->acc.length+r.length<=sizeLine->oA i fc fe s (r.map en) Γ acc=.ok (acc++((r.filter c).map fun x=>(f x).d)) Γ
 | [],acc,_,_,_=>by simp [oA]
 | x::r,acc,hc,he,hl=>by
  have h1:=hc x mem_cons_self
  have hl1:acc.length<sizeLine:=by simp only [length_cons] at hl;omega
  have back:(Γ.set i (some ⟨.leaf,en x⟩)).set i none=Γ:=by rw [set_set];exact hΓ
  rw [map_cons,oA,h1]
  cases hcd:c x with
  | false=>
   dsimp only;rw [if_pos hl1,back,FH hΓ r acc (fun d hd=>hc d (mem_cons_of_mem _ hd)) (fun d hd=>he d (mem_cons_of_mem _ hd)) (by simp only [length_cons] at hl;omega)]
   rw [List.filter_cons_of_neg (by rw [hcd];exact Bool.false_ne_true)]
  | true=>
   obtain ⟨h2,h3⟩:=he x mem_cons_self hcd;dsimp only;rw [h2];dsimp only;rw [h3,decide_eq_true hl1,Bool.and_self,if_pos rfl,back,FH hΓ r (acc++[(f x).d]) (fun d hd=>hc d (mem_cons_of_mem _ hd)) (fun d hd=>he d (mem_cons_of_mem _ hd)) (by simp only [length_cons,length_append,List.length_nil] at hl ⊢;omega)]
   rw [List.filter_cons_of_pos hcd,map_cons,append_assoc];rfl
theorem Fc {α:Type} (en:α->D) (xs:List α) (c:α->Bool) (f:α->PV) {s:Sh} {i:Nat} {fi:FI} {fc:FB} {fe:F1} {st:Bool} {Γ:Ev} (hi:fi Γ=.ok ⟨xs.map en,st⟩ Γ) (hl:i<Γ.length) (hs:s.isView=false) (hn:xs.length<=10000)
  (hc:∀x∈xs,fc (Γ.set i (some ⟨.leaf,en x⟩))=.ok (c x) (Γ.set i (some ⟨.leaf,en x⟩))) (he:∀x∈xs,c x=true->fe (Γ.set i (some ⟨.leaf,en x⟩))=.ok (f x) (Γ.set i (some ⟨.leaf,en x⟩))/\coer s (f x)=true) :
  ao s i fi fc fe Γ=.ok ⟨.lst s,.list ((xs.filter c).map fun x=>(f x).d)⟩ Γ:=by
 have hb:(10000:Nat)<=sizeLine:=by decide
 unfold ao;rw [hi];unfold Out.bind;dsimp only;rw [FH (c:=c) (f:=f) (by rw [set_set]) xs [] (fun d hd=>by rw [set_set];exact hc d hd) (fun d hd=>by rw [set_set];exact he d hd) (by simp;omega)]
 dsimp only;rw [hs,decide_eq_true hl];simp only [Bool.not_false,Bool.and_self,if_true,nil_append,set_set]
 have:Γ.set i (Γ.getD i none)=Γ:=by
  apply yi
  rw [getD_eq_getElem?_getD,getElem?_eq_getElem hl];rfl
 rw [this]
theorem ni {α:Type} (en:α->D) (xs:List α) (f:α->PV) {s:Sh} {i:Nat} {fi:FI} {fe:F1} {st:Bool} {Γ:Ev} (hi:fi Γ=.ok ⟨xs.map en,st⟩ Γ) (hl:i<Γ.length) (hs:s.isView=false) (hn:xs.length<=10000)
  (he:∀x∈xs,fe (Γ.set i (some ⟨.leaf,en x⟩))=.ok (f x) (Γ.set i (some ⟨.leaf,en x⟩))/\coer s (f x)=true):ao s i fi az fe Γ=.ok ⟨.lst s,.list (xs.map fun x=>(f x).d)⟩ Γ:=by
 rw [Fc (fc:=az) en xs (fun _=>true) f hi hl hs hn (fun _ _=>rfl) fun x hx _=>he x hx,List.filter_eq_self.mpr fun _ _=>rfl]
end T
namespace KC
open PySem PySem.Spec L2 T PySem.SeqAt
open PyProof.Rows hiding St
noncomputable abbrev rm (t:Nat):D:=.int (t:Int)
noncomputable abbrev aH (r:List Nat):D:=.list (r.map rm)
theorem u4 {n:Nat}:bQ 0 n=(List.range n).map rm:=by
 unfold bQ;simp
theorem zI {t:Nat} {r:List Nat}:cA false (rm t) (aH r)=some (.bool (r.contains t)):=by
 have h:=zH (ts:=r.map fun t:Nat=>(t:Int)) (i:=t)
 rw [map_map] at h;refine h.trans ?_
 congr 2
 rw [Bool.eq_iff_iff,contains_iff_mem,contains_iff_mem,mem_map];exact ⟨fun ⟨a,h1,h2⟩=>by rw [<-Int.ofNat_inj.mp h2];exact h1,fun h=>⟨t,h,rfl⟩⟩
structure Wd where
 n:Nat
 os:List D
 m:List (List Str)
 s:List (List Nat)
noncomputable def dR (r:List Str):D:=.list (r.map .str)
noncomputable def Wd.enc (w:Wd):D:=cM w.os (w.m.map dR) (w.s.map aH)
structure Wd.Ok (w:Wd):Prop where
 g:Gw (w.n:Int) w.n w.os (w.m.map dR) (w.s.map aH)
 h1:1<=w.n
 h24:w.n<=24
 lm:w.m.length=w.n
 ls:w.s.length=w.n
 st:∀r∈w.s,r≠[]/\r.length<=30/\∀t∈r,t<w.n
 mc:∀r∈w.m,∀c∈r,PyData.strOk c=true
noncomputable def Wd.stp (w:Wd) (r:Nat):List Nat:=w.s.getD r []
noncomputable def Wd.mks (w:Wd) (r:Nat):List Str:=w.m.getD r []
theorem Wd.Ok.at2 {w:Wd} (h:w.Ok) {r:Nat} (hr:r<w.n):cZ (w.s.map aH) (r:Int)=some (aH (w.stp r)):=by
 refine AD ?_
 unfold Wd.stp;rw [getElem?_map,getD_eq_getElem?_getD,getElem?_eq_getElem (by rw [h.ls];exact hr)]
 rfl
theorem Wd.Ok.at1 {w:Wd} (h:w.Ok) {r:Nat} (hr:r<w.n):cZ (w.m.map dR) (r:Int)=some (dR (w.mks r)):=by
 refine AD ?_
 unfold Wd.mks;rw [getElem?_map,getD_eq_getElem?_getD,getElem?_eq_getElem (by rw [h.lm];exact hr)]
 rfl
theorem Wd.Ok.stp_lt {w:Wd} (h:w.Ok) {r t:Nat} (ht:t∈w.stp r):t<w.n:=by
 unfold Wd.stp at ht;rw [getD_eq_getElem?_getD] at ht
 cases e:w.s[r]? with
 | none=>rw [e] at ht;simp at ht
 | some x=>rw [e] at ht;exact (h.st x (mem_of_getElem? e)).2.2 t ht
theorem Wd.Ok.stp_ne {w:Wd} (h:w.Ok) {r:Nat} (hr:r<w.n):w.stp r≠[]:=by
 unfold Wd.stp;rw [getD_eq_getElem?_getD,getElem?_eq_getElem (by rw [h.ls];exact hr)]
 exact (h.st _ (getElem_mem _)).1
inductive Wr where
 | yes | mark | not | sn | an | sa | aa | and | or | su | au
 deriving DecidableEq
noncomputable def Wr.t:Wr->Str
 | .yes => "yes" | .mark => "mark" | .not => "not" | .sn => "some next" | .an => "all next" | .sa => "some always" | .aa => "all always" | .and => "and" | .or => "or" | .su => "some until" | .au => "all until"
theorem kW (a b:Wr):bL (.str a.t) (.str b.t)=some (.bool (decide (a=b))):=by cases a<;>cases b<;>kernel_rfl
@[simp] theorem Hs (a:Wr):bL (.str a.t) (.str "yes")=some (.bool (decide (a=.yes))):=kW a .yes
@[simp] theorem Em (a:Wr):bL (.str a.t) (.str "mark")=some (.bool (decide (a=.mark))):=kW a .mark
@[simp] theorem Ht (a:Wr):bL (.str a.t) (.str "not")=some (.bool (decide (a=.not))):=kW a .not
@[simp] theorem Hu (a:Wr):bL (.str a.t) (.str "and")=some (.bool (decide (a=.and))):=kW a .and
@[simp] theorem IP (a:Wr):bL (.str a.t) (.str "or")=some (.bool (decide (a=.or))):=kW a .or
@[simp] theorem G9 (a:Wr):cA false (.str a.t) dm=some (.bool (decide (a=.su\/a=.au))):=by cases a<;>kernel_rfl
@[simp] theorem Eb (a:Wr):cA true (.str a.t) dm=some (.bool (!decide (a=.su\/a=.au))):=by cases a<;>kernel_rfl
@[simp] theorem Hi (a:Wr):cA false (.str a.t) d8=some (.bool (decide (a=.sa\/a=.aa))):=by cases a<;>kernel_rfl
@[simp] theorem Ee (a:Wr):cA true (.str a.t) d8=some (.bool (!decide (a=.sa\/a=.aa))):=by cases a<;>kernel_rfl
noncomputable def Wr.some (a:Wr):Bool:=decide (a=.sn\/a=.su\/a=.aa)
@[simp] theorem Hf (a:Wr):cA false (.str a.t) cg=.some (.bool a.some):=by cases a<;>kernel_rfl
noncomputable def Wr.ar:Wr->Option Int
 | .yes=>Option.some 0 | .mark=>none | .and=>Option.some 2 | .or=>Option.some 2 | .su=>Option.some 2 | .au=>Option.some 2 | _=>Option.some 1
@[simp] theorem Eh (a:Wr):fw a.t jg=a.ar:=by cases a<;>kernel_rfl
inductive U5 where
 | not | sn | an | sa | aa
 deriving DecidableEq
inductive B4 where
 | and | or | su | au
 deriving DecidableEq
noncomputable def U5.w:U5->Wr
 | .not=>.not | .sn=>.sn | .an=>.an | .sa=>.sa | .aa=>.aa
noncomputable def B4.w:B4->Wr
 | .and=>.and | .or=>.or | .su=>.su | .au=>.au
inductive Sn where
 | yes | mk (c:Str) | un (k:U5) (a:Sn) | bi (k:B4) (a b:Sn)
 deriving DecidableEq
noncomputable def Sn.w:Sn->Wr
 | .yes=>.yes | .mk _=>.mark | .un k _=>k.w | .bi k _ _=>k.w
noncomputable def Sn.args:Sn->List Sn
 | .yes=>[] | .mk _=>[] | .un _ a=>[a] | .bi _ a b=>[a,b]
noncomputable def Sn.enc:Sn->D
 | .yes=>.tuple [.str Wr.yes.t] | .mk c=>.tuple [.str Wr.mark.t,.str c] | .un k a=>.tuple [.str k.w.t,a.enc] | .bi k a b=>.tuple [.str k.w.t,a.enc,b.enc]
noncomputable def Sn.size:Sn->Nat
 | .yes=>1 | .mk _=>1 | .un _ a=>a.size+1 | .bi _ a b=>a.size+b.size+1
noncomputable def Sn.dep:Sn->Nat
 | .yes=>1 | .mk _=>1 | .un _ a=>a.dep+1 | .bi _ a b=>max a.dep b.dep+1
noncomputable def vM:List Str:=["a", "b", "c", "d", "e", "f"]
noncomputable def Sn.ok:Sn->Prop
 | .yes=>True | .mk c=>c∈vM | .un _ a=>a.ok | .bi _ a b=>a.ok/\b.ok
noncomputable def Sn.psh:Sn->Sh
 | .mk _=>.tup [] | _=>.leaf
@[simp] theorem IJ (s:Sn):s.psh.isView=false:=by cases s<;>rfl
noncomputable def Jb (l:List Sn):Nat:=(l.map Sn.size).sum
noncomputable def HB (l:List Sn):Nat:=l.foldr (fun s m=>max s.dep m) 0
structure LS where
 ls:List (List Sn)
 l:List Sn
 many:Nat
structure LI (s:Sn) (b:LS):Prop where
 tot:(b.ls.map List.length).sum+Jb b.l=s.size
 mny:b.many=(b.ls.map List.length).sum
 dep:b.ls.length+HB b.l=s.dep
 ok:∀a∈b.l,a.ok
end KC
namespace KC
noncomputable def fL (rk:List (Option Nat)) (t:Nat):Option Nat:=rk.getD t none
noncomputable def led (any:Bool) (l:List Nat) (P:Nat->Prop):Prop:=if any then ∃t∈l,P t else ∀t∈l,P t
structure Ax (n:Nat) (st:Nat->List Nat) (ch:Nat->Bool) (thr goal:List Nat) (rk:List (Option Nat)):Prop where
 len:rk.length=n
 g:∀r,r<n->r∈goal->fL rk r=some 0
 p:∀r k,r<n->r∉goal->fL rk r=some k->0<k/\r∈thr/\led (ch r) (st r) fun t=>∃j,fL rk t=some j/\j<k
 z:∀r,r<n->fL rk r=none->r∉goal/\(r∉thr\/¬led (ch r) (st r) fun t=>fL rk t≠none)
noncomputable def inn (st:Nat->List Nat) (L:List Nat) (r:Nat):List Nat:=(st r).filter fun t=>L.contains t
structure Aw (n:Nat) (st:Nat->List Nat) (own:Nat->Bool) (T X:Nat->Prop):Prop where
 lt:∀r,X r->r<n
 c:∀r,X r->led (own r) (st r) X
 a:∀S:Nat->Prop,(∀r,X r->T r->S r)->(∀r,X r->led (own r) (st r) (fun t=>X t/\S t)->S r)->∀r,X r->S r
structure Fr {α:Type} (n:Nat) (st:Nat->List Nat) (R:Nat->Prop) (M:List α) (mk:α->Nat->Prop) (X:Nat->Prop):Prop where
 lt:∀r,X r->r<n
 sub:∀r,X r->R r
 c:∀r,X r->∃t∈st r,X t
 a:∀m∈M,∀S:Nat->Prop,(∀r,X r->mk m r->S r)->(∀r,X r->(∃t∈st r,X t/\S t)->S r)->∀r,X r->S r
noncomputable def HK (n:Nat) (L:List Nat):Prop:=∃q:Nat->Bool,L=(List.range n).filter q
open PySem PySem.Spec L2 T PySem.SeqAt
open PyProof.Rows hiding St
noncomputable def oD:Option Nat->D
 | none=>.none
 | some k=>.int (k:Int)
@[simp] theorem Ea (o:Option Nat):AO (oD o)=o.isNone:=by cases o<;>rfl
@[simp] theorem D9 (o:Option Nat):aW (oD o)=true:=by cases o<;>rfl
noncomputable def G8 (any:Bool) (bs:List Bool):Bool:=if any then bs.any id else bs.all id
theorem we {bs:List Bool}:bN true [.list (bs.map .bool)]=some (.bool (bs.any id)):=by
 have h:=kR (any:=true) (xs:=bs) (f:=id)
 show Option.map _ (uk _)=_
 rw [show (bs.map PyData.bool)=bs.map fun x=>PyData.bool (id x) from rfl,h]
 simp
structure Wd.Ok0 (w:Wd):Prop where
 lo:w.os.length=w.n
 h24:w.n<=24
 ls:w.s.length=w.n
 st:∀r∈w.s,r.length<=30/\∀t∈r,t<w.n
theorem Wd.Ok.z {w:Wd} (h:w.Ok):w.Ok0:=⟨h.g.lo,h.h24,h.ls,fun r hr=>(h.st r hr).2⟩
noncomputable def IR (cl:List Bool) (r:Nat):Bool:=cl.getD r false
noncomputable def Jg (w:Wd) (ch:Nat->Bool) (thr:List Nat) (rk:List (Option Nat)):List Nat:=thr.filter fun r=>(fL rk r).isNone&&G8 (ch r) ((w.stp r).map fun t=>(fL rk t).isSome)
structure IV (w:Wd) (any:Bool) (thr goal:List Nat) (rk:List (Option Nat)):Prop where
 len:rk.length=w.n
 g:∀r,r<w.n->r∈goal->fL rk r=some 0
 p:∀r k,r<w.n->r∉goal->fL rk r=some k->0<k/\r∈thr/\led any (w.stp r) fun t=>∃j,fL rk t=some j/\j<k
 z:∀r,r<w.n->fL rk r=none->r∉goal/\(r∉thr\/¬led any (w.stp r) fun t=>fL rk t≠none)
inductive C6 (w:Wd) (any:Bool) (P Q:Nat->Prop):Nat->Prop where
 | now {r:Nat}:Q r->C6 w any P Q r
 | some {r t:Nat}:any=true->P r->t∈w.stp r->C6 w any P Q t->C6 w any P Q r
 | all {r:Nat}:any=false->P r->(∀t∈w.stp r,C6 w any P Q t)->C6 w any P Q r
structure RS where
 rk:List (Option Nat)
 k:Nat
 fr:List Nat
 x8:Option PV
structure RI (w:Wd) (ch:Nat->Bool) (thr goal:List Nat) (b:RS):Prop where
 len:b.rk.length=w.n
 frn:∀r∈b.fr,r<w.n/\fL b.rk r=none
 frl:b.fr.length<=1000
 lt:∀r j,fL b.rk r=some j->j<b.k
 zero:b.k=0->b.fr=goal
 g:0<b.k->∀r,r∈goal->fL b.rk r=some 0
 p:∀r j,r<w.n->r∉goal->fL b.rk r=some j->0<j/\r∈thr/\led (ch r) (w.stp r) fun t=>∃i,fL b.rk t=some i/\i<j
 nx:0<b.k->b.fr=Jg w ch thr b.rk
 m1:∀r,r∈thr->fL b.rk r=none->¬led (ch r) (w.stp r) fun t=>∃i,fL b.rk t=some i/\i+1<b.k
 m2:∀r j,r∉goal->fL b.rk r=some j->¬led (ch r) (w.stp r) fun t=>∃i,fL b.rk t=some i/\i+1<j
theorem nE {w:Wd} (ok:w.Ok) {r:Nat}:(w.stp r).length<=10000:=by
 unfold Wd.stp;rw [getD_eq_getElem?_getD]
 cases e:w.s[r]? with
 | none=>simp
 | some x=>
  have:=(ok.st x (mem_of_getElem? e)).2.1
  simp only [Option.getD_some]
  omega
theorem Wd.Ok.check {w:Wd} (ok:w.Ok):bo [w.enc]=.ok ⟨.leaf,.none⟩:=qb (ok.g.wk (b:=24) ok.h24) (by omega) (ok.g.isW ok.h1 ok.h24)
end KC
namespace T
open PySem PySem.Spec L2
open PyProof.Rows hiding St
theorem yj {α:Type} (en:α->D) {i:Nat} {body:FS} {Inv:List α->Ev->Prop} (hb:∀a r Γ,Inv (a::r) Γ->i<Γ.length/\∃Γ',body (Γ.set i (some ⟨.leaf,en a⟩))=.nx Γ'/\Inv r Γ'):∀(xs:List α) (Γ:Ev),Inv xs Γ->∃Γ',ck i body (xs.map en) Γ=.nx Γ'/\Inv [] Γ'
 | [],Γ,h=>⟨Γ,rfl,h⟩
 | a::r,Γ,h=>by
  obtain ⟨hi,Γ1,h1,h2⟩:=hb a r Γ h;obtain ⟨Γ2,e,h3⟩:=yj en hb r Γ1 h2;refine ⟨Γ2,?_,h3⟩
  rw [map_cons,ck,if_pos hi,h1];exact e
end T
namespace KC
open PySem PySem.Spec L2 T PySem.SeqAt
open PyProof.Rows hiding St
theorem BH {n:Nat} {os ms ss:List D} (g:Gw (n:Int) n os ms ss) (h1:1<=n) (h24:n<=24):∃w:Wd,w.Ok/\w.enc=cM os ms ss/\w.n=n:=by
 have hm:∀l:List D,(∀r∈l,∃xs,r=.list xs/\gW xs)->∃M:List (List Str),l=M.map dR/\∀r∈M,∀c∈r,PyData.strOk c=true:=by
  have one:∀xs:List D,gW xs->∃r:List Str,xs=r.map .str/\∀c∈r,PyData.strOk c=true:=by
   intro xs;induction xs with
   | nil=>intro _;exact ⟨[],rfl,by simp⟩
   | cons a r ih=>
    intro h;obtain ⟨x,rfl,hx⟩:=h a mem_cons_self;obtain ⟨t,rfl,ht⟩:=ih fun b hb=>h b (mem_cons_of_mem _ hb)
    exact ⟨x::t,rfl,fun c hc=>(List.mem_cons.mp hc).elim (fun e=>by rw [e];exact hx) (ht c)⟩
  intro l;induction l with
  | nil=>intro _;exact ⟨[],rfl,by simp⟩
  | cons a r ih=>
   intro h;obtain ⟨xs,rfl,hx⟩:=h a mem_cons_self;obtain ⟨x,rfl,hx2⟩:=one xs hx;obtain ⟨M,rfl,hM⟩:=ih fun b hb=>h b (mem_cons_of_mem _ hb)
   exact ⟨x::M,rfl,fun c hc=>(List.mem_cons.mp hc).elim (fun e=>by rw [e];exact hx2) (hM c)⟩
 have hs:∀l:List D,(∀r∈l,∃ts:List Int,r=.list (ts.map .int)/\ts.length<=30/\ts≠[]/\(∀t∈ts,0<=t/\t<(n:Int))/\ts.Pairwise (· < ·))->∃S:List (List Nat),l=S.map aH/\∀r∈S,r≠[]/\r.length<=30/\∀t∈r,t<n:=by
  have one:∀ts:List Int,(∀t∈ts,0<=t/\t<(n:Int))->∃r:List Nat,ts.map PyData.int=r.map rm/\r.length=ts.length/\∀t∈r,t<n:=by
   intro ts;induction ts with
   | nil=>intro _;exact ⟨[],rfl,rfl,by simp⟩
   | cons a r ih=>
    intro h;have ha:=h a mem_cons_self
    obtain ⟨t,e,el,ht⟩:=ih fun b hb=>h b (mem_cons_of_mem _ hb)
    refine ⟨a.toNat::t,?_,by simp [el],fun c hc=>(List.mem_cons.mp hc).elim (fun e=>by omega) (ht c)⟩
    rw [map_cons,map_cons,e];congr 2
    omega
  intro l;induction l with
  | nil=>intro _;exact ⟨[],rfl,by simp⟩
  | cons a r ih=>
   intro h;obtain ⟨ts,rfl,t1,t2,t3,_⟩:=h a mem_cons_self;obtain ⟨x,e,el,hx⟩:=one ts t3;obtain ⟨S,rfl,hS⟩:=ih fun b hb=>h b (mem_cons_of_mem _ hb)
   refine ⟨x::S,by rw [map_cons,e],fun c hc=>(List.mem_cons.mp hc).elim (fun e=>by
    subst e;exact ⟨fun z=>t2 (List.length_eq_zero_iff.mp (by rw [<-el,z];rfl)),by omega,hx⟩) (hS c)⟩
 obtain ⟨M,eM,hM⟩:=hm ms fun r hr=>let ⟨xs,a,b,_⟩:=g.m r hr;⟨xs,a,b⟩
 obtain ⟨S,eS,hS⟩:=hs ss g.s;subst eM eS;refine ⟨⟨n,os,M,S⟩,⟨g,h1,h24,?_,?_,hS,hM⟩,rfl,rfl⟩
 ·have:=g.lm;simpa using this
 ·have:=g.ls;simpa using this
noncomputable def knd:List Wr:=[.mark,.mark,.not,.and,.su,.au,.sn,.an,.sa,.aa,.or,.yes]
@[simp] theorem Hh (a:Wr):cA false (.str a.t) (.tuple [.str "and",.str "or",.str "some until",.str "all until"])=some (.bool (decide (a=.and\/a=.or\/a=.su\/a=.au))):=by cases a<;>kernel_rfl
structure Mad (made:List Sn):Prop where
 ne:0<made.length
 ok:∀s∈made,s.ok
 dp:∀s∈made,s.dep<=made.length
theorem gK (l:List Int):intsOf (l.map .int)=some l:=by
 induction l with
 | nil=>rfl
 | cons a r ih=>rw [map_cons,intsOf,ih];rfl
end KC
namespace KQ
open PySem PySem.Spec L2 T PySem.SeqAt KC
open PyProof.Rows hiding St
noncomputable def d__law_world:FS:=(aj (av false 3 (ax aG (eK (.int 1)) (ax cj (ah 2 ay (ab (ae 0) (ab (ae 1) af))) (ae 2))))
  (aj (av true 4 (aQ .leaf af))
  (aj (av true 5 (aQ .leaf af))
  (aj (av true 6 (aQ .leaf af))
  (aj (cI 7 (cK (ab (ae 3) af))
  (aj (av false 8 (ah 2 ay (ab (ae 0) (ab (ax aG (ax aG (ae 1) (eK (.int 1))) (ae 7)) af))))
  (aj (dC 4 (ah 3 ai (ab (ae 8) (ab (eK (.int 0)) (ab (eK (.int 2)) af)))))
  (aj (dC 5 (ao .leaf 11 (xH "abc") (aN aq (ax bL (ah 3 ai (ab (ae 8) (ab (ax aG (eK (.int 1)) (bb (xK "abc") (ab (ae 11) af))) (ab (eK (.int 2)) af)))) (eK (.int 1)))) (ae 11)))
  (aj (av false 9 (ao .leaf 10 (cK (ab (ae 3) af)) (aN aq (ax bL (ah 3 ai (ab (ae 8) (ab (ax aG (eK (.int 4)) (ae 10)) (ab (ax aG (eK (.int 2)) (bb mK (ab (ax lQ (ae 3) (eK (.int 3))) af))) af)))) (eK (.int 1)))) (ae 10)))
  (aj (bV (aN aq (ax bL (ae 9) (aQ .leaf af))) (av false 9 (aQ .leaf (ab (ah 3 ai (ab (ae 8) (ab (ax aG (eK (.int 4)) (ae 3)) (ab (ae 3) af)))) af))) aM)
  (dC 6 (ae 9))))))))
  (aE (bD (ab (aV 4) (ab (aV 5) (ab (aV 6) af))))))))))
noncomputable def m__law_world:List PySem.PyData->Res:=aF 12 d__law_world
noncomputable abbrev eW:FS:=(aj (av false 8 (ah 2 ay (ab (ae 0) (ab (ax aG (ax aG (ae 1) (eK (.int 1))) (ae 7)) af))))
  (aj (dC 4 (ah 3 ai (ab (ae 8) (ab (eK (.int 0)) (ab (eK (.int 2)) af)))))
  (aj (dC 5 (ao .leaf 11 (xH "abc") (aN aq (ax bL (ah 3 ai (ab (ae 8) (ab (ax aG (eK (.int 1)) (bb (xK "abc") (ab (ae 11) af))) (ab (eK (.int 2)) af)))) (eK (.int 1)))) (ae 11)))
  (aj (av false 9 (ao .leaf 10 (cK (ab (ae 3) af)) (aN aq (ax bL (ah 3 ai (ab (ae 8) (ab (ax aG (eK (.int 4)) (ae 10)) (ab (ax aG (eK (.int 2)) (bb mK (ab (ax lQ (ae 3) (eK (.int 3))) af))) af)))) (eK (.int 1)))) (ae 10)))
  (aj (bV (aN aq (ax bL (ae 9) (aQ .leaf af))) (av false 9 (aQ .leaf (ab (ah 3 ai (ab (ae 8) (ab (ax aG (eK (.int 4)) (ae 3)) (ab (ae 3) af)))) af))) aM)
  (dC 6 (ae 9)))))))
end KQ
namespace KC
open PySem PySem.Spec L2 T
open PyProof.Rows hiding St
open PySem.SeqAt
theorem Gr {α:Type} {l:List α} {n:Nat} (d:α) (h:l.length=n):l=(List.range n).map fun r=>l.getD r d:=by
 apply ext_getElem?
 intro k;rw [getElem?_map];by_cases hk:k<n
 ·rw [getElem?_range hk]
  show l[k]?=some (l.getD k d)
  rw [getD_eq_getElem?_getD,getElem?_eq_getElem (by omega)]
  rfl
 ·rw [getElem?_eq_none (by omega),getElem?_eq_none (by simp;omega)]
  rfl
theorem fD {n:Nat} {fl:FL} {Γ:Ev} {s:Sh} (hn:n<=1000) (h:fl Γ=.ok [⟨s,.int (n:Int)⟩] Γ):cK fl Γ=.ok ⟨(List.range n).map rm,true⟩ Γ:=by
 rw [qE (k:=(n:Int)) h rfl (by omega) (by omega),Int.toNat_natCast,u4]
section
variable {i j:Nat} {fc:FB} {fe:F1} {s:Sh} {Γ:Ev} {e:Nat->D} {c:Nat->Bool} {f:Nat->PV}
noncomputable abbrev Γ2 (Γ:Ev) (i j:Nat) (e:Nat->D) (r:Nat):Ev:=(Γ.set i (some ⟨.leaf,.int (r:Nat)⟩)).set j (some ⟨.leaf,e r⟩)
theorem FM (hij:i≠j) (hΓ:(Γ.set i none).set j none=Γ):∀(m k:Nat) (acc:List D),(∀r,k<=r->r<k+m->fc (Γ2 Γ i j e r)=.ok (c r) (Γ2 Γ i j e r)) ->
  (∀r,k<=r->r<k+m->c r=true->fe (Γ2 Γ i j e r)=.ok (f r) (Γ2 Γ i j e r)/\coer s (f r)=true)->acc.length+m<=sizeLine->qz i j fc fe s k ((List.range' k m).map e) Γ acc=.ok (acc++(((List.range' k m).filter c).map fun r=>(f r).d)) Γ
 | 0,k,acc,_,_,_=>by simp [qz]
 | m+1,k,acc,hc,he,hl=>by
  have h1:=hc k (Nat.le_refl _) (by omega)
  have hl1:acc.length<sizeLine:=by omega
  have back:((Γ2 Γ i j e k).set i none).set j none=Γ:=by
   unfold Γ2;rw [List.set_comm _ _ (Ne.symm hij),set_set,set_set];exact hΓ
  rw [List.range'_succ,map_cons,qz];have h1:fc ((Γ.set i (some ⟨.leaf,.int (k:Nat)⟩)).set j (some ⟨.leaf,e k⟩))=_:=h1
  rw [h1]
  cases hcd:c k with
  | false=>
   dsimp only;rw [if_pos hl1,back,FM hij hΓ m (k+1) acc (fun r h1 h2=>hc r (by omega) (by omega)) (fun r h1 h2=>he r (by omega) (by omega)) (by omega)]
   rw [List.filter_cons_of_neg (by rw [hcd];exact Bool.false_ne_true)]
  | true=>
   obtain ⟨h2,h3⟩:=he k (Nat.le_refl _) (by omega) hcd
   dsimp only;rw [h2];dsimp only;rw [h3,decide_eq_true hl1,Bool.and_self,if_pos rfl,back,FM hij hΓ m (k+1) (acc++[(f k).d]) (fun r h1 h2=>hc r (by omega) (by omega)) (fun r h1 h2=>he r (by omega) (by omega)) (by simp only [length_append,length_cons,List.length_nil];omega)]
   rw [List.filter_cons_of_pos hcd,map_cons,append_assoc];rfl
theorem pV (e:Nat->D) (n:Nat) (c:Nat->Bool) (f:Nat->PV) {fa:F1} {st:Bool} (hi:aJ fa Γ=.ok ⟨(List.range n).map e,st⟩ Γ) (h1:Γ[i]?=some none) (h2:Γ[j]?=some none) (hij:i≠j) (hs:s.isView=false) (hn:n<=10000)
  (hc:∀r,r<n->fc (Γ2 Γ i j e r)=.ok (c r) (Γ2 Γ i j e r)) (he:∀r,r<n->c r=true->fe (Γ2 Γ i j e r)=.ok (f r) (Γ2 Γ i j e r)/\coer s (f r)=true) :
  ya s i j fa fc fe Γ=.ok ⟨.lst s,.list (((List.range n).filter c).map fun r=>(f r).d)⟩ Γ:=by
 have hb:(10000:Nat)<=sizeLine:=by decide
 unfold ya;rw [hi];unfold Out.bind;dsimp only;rw [h1,h2,hs];have hΓ:(Γ.set i none).set j none=Γ:=by rw [yi h1,yi h2]
 rw [List.range_eq_range',FM (c:=c) (f:=f) hij hΓ n 0 [] (fun r _ h=>hc r (by omega)) (fun r _ h=>he r (by omega)) (by simp;omega)]
 rfl
theorem mO (e:Nat->D) (n:Nat) (f:Nat->PV) {fa:F1} {st:Bool} (hi:aJ fa Γ=.ok ⟨(List.range n).map e,st⟩ Γ) (h1:Γ[i]?=some none) (h2:Γ[j]?=some none) (hij:i≠j) (hs:s.isView=false) (hn:n<=10000)
  (he:∀r,r<n->fe (Γ2 Γ i j e r)=.ok (f r) (Γ2 Γ i j e r)/\coer s (f r)=true) :
  ya s i j fa az fe Γ=.ok ⟨.lst s,.list ((List.range n).map fun r=>(f r).d)⟩ Γ:=by
 have:=pV (fc:=az) e n (fun _=>true) f hi h1 h2 hij hs hn (fun _ _=>rfl) fun r hr _=>he r hr
 rw [this,List.filter_eq_self.mpr fun _ _=>rfl]
end
theorem Bu {r:List Nat}:r.map rm=(r.map fun t:Nat=>(t:Int)).map PyData.int:=by rw [map_map];rfl
theorem Wd.Ok0.s_range {w:Wd} (ok:w.Ok0):w.s.map aH=(List.range w.n).map fun r=>aH (w.stp r):=by
 conv=>lhs;rw [Gr (l:=w.s) [] ok.ls]
 rw [map_map];rfl
noncomputable def Jl (p:Int):D->Bool
 | .int o=>o==p
 | _=>false
noncomputable def own (w:Wd) (p:Int):Nat->Bool:=IR (w.os.map (Jl p))
theorem Wd.Ok.o_at {w:Wd} (ok:w.Ok) {r:Nat} (hr:r<w.n):∃o:Int,(o=0\/o=1)/\cZ w.os (r:Int)=some (.int o)/\∀p,own w p r=(o==p):=by
 have hl:r<w.os.length:=by rw [ok.g.lo];exact hr
 have hm:=ok.g.o _ (getElem_mem hl)
 have key:∀o:Int,w.os[r]=.int o->cZ w.os (r:Int)=some (.int o)/\∀p,own w p r=(o==p):=fun o e=>by
  refine ⟨AD (by rw [getElem?_eq_getElem hl,e]),fun p=>?_⟩
  unfold own IR;rw [getD_eq_getElem?_getD,getElem?_map,getElem?_eq_getElem hl,e];rfl
 rcases hm with e | e
 ·exact ⟨0,.inl rfl,key 0 e⟩
 ·exact ⟨1,.inr rfl,key 1 e⟩
structure HM (w:Wd) (p:Int) (pl:List (Option Nat)):Prop where
 len:pl.length=w.n
 st:∀r t,r<w.n->fL pl r=some t->own w p r=true/\t∈w.stp r
end KC
namespace TQ
open PySem PySem.Spec L2 T
open PyProof.Rows hiding St
variable {X:Cx} {N gl:List Str} {vs cs ls lo gs:List Nat} {W:XW} {a b:Expr} {pos p:Pos} {fl:FL}
end TQ
namespace T
open PySem PySem.Spec L2
open PyProof.Rows hiding St
def oj (s:Sh) (d:D):Bool:=match s,d with
 | .leaf,d=>aW d
 | .lst .leaf,.list ds=>ds.all aW
 | _,_=>false
def fA (p:PV):Bool:=match p with
 | ⟨.tup ss,.tuple ds⟩=>(ss.zip ds).all fun x=>oj x.1 x.2
 | ⟨s,d⟩=>oj s d
def dA (q:PV):Bool:=T.coer .leaf q||(match q with
 | ⟨.view,.list ds⟩=>ds.all aW
 | _=>false)
def qA (n:Nat) (den:List PySem.PyData->Res) (fl:FL):F1:=fun Γ=>(fl Γ).bind fun ps Γ'=>if ps.length=n then (match den (ps.map (·.d)) with
 | .ok p=>if ps.all dA&&fA p then .ok p Γ' else .no
 | _=>.no) else .no
theorem Fw {K:Fg} {O O':List Addr} {H:Hp} {s:Sh} {G:List Addr} {v:V} {d:D} (h:Own K O H s G v d) (f:oj s d=true):Own K O' H s G v d:=by
 unfold oj at f;split at f
 ·cases h with
  | leaf r=>exact .leaf (r.sc f).rep
 ·obtain ⟨l,us,rfl,rfl,hp,hul,hr⟩:=h.leaves
  exact Own.mkLeaves hp hul fun j u d e1 e2=>((hr j u d e1 e2).sc (List.all_eq_true.mp f d (mem_of_getElem? e2))).rep
 ·cases f
theorem pQ {K:Fg} {O O':List Addr} {H:Hp} {p:PV} {G:List Addr} {v:V} (h:Own K O H p.s G v p.d) (f:fA p=true) (ht:∀t us,H t=some (.tup us)->t∉O->t∉O'):Own K O' H p.s G v p.d:=by
 unfold fA at f;split at f
 ·rename_i ss ds
  have h:Own K O H (.tup ss) G v (.tuple ds):=h
  cases h with
  | @tup _ t us _ Fs2 hv hp hn hl hf2 hs nd q=>
   refine .tup hv hp (ht t us hp hn) hl hf2 hs nd fun i v d F s e1 e2 e3 e4=>Fw (q i v d F s e1 e2 e3 e4) ?_
   have hz:(ss.zip ds)[i]?=some (s,d):=by rw [List.getElem?_zip_eq_some];exact ⟨e4,e2⟩
   exact List.all_eq_true.mp f _ (mem_of_getElem? hz)
 ·exact Fw h f
section
variable {K:Fg} {W:XW} {σ:St} {H:Hp} {Q:VK} {D:bS} {fa fb:F1} {fl:FL}
open Classical in
theorem rL {n:Nat} {den:List PySem.PyData->Res} {E:XK} (h:tE K W (qA n den fl) σ H Q):gh (oS K n den) [] E (tA K W fl) σ H Q:=by
 obtain ⟨He,O,Fs,Γ,E0,h⟩:=h;refine ⟨He,O,Fs,Γ,E0,?_⟩
 unfold qA at h
 cases e:fl Γ with
 | er c Γ'=>rw [e] at h;exact h
 | no=>rw [e] at h;exact h
 | ok ps Γ1=>
  rw [e] at h;intro vs H1 Gs Fs1 A;have h:Wants K W He O Fs H σ Q (if ps.length=n then (match den (ps.map (·.d)) with | .ok p=>if ps.all dA&&fA p then .ok p Γ1 else .no | _=>.no) else .no):=h
  by_cases hn:ps.length=n
  case neg=>rw [if_neg hn] at h;exact h.elim
  rw [if_pos hn] at h;have hl:(vs++[]).length=n:=by rw [append_nil,A.len1];exact hn
  cases ed:den (ps.map (·.d)) with
  | er c=>rw [ed] at h;exact h.elim
  | no=>rw [ed] at h;exact h.elim
  | ok p=>
   rw [ed] at h;have h:Wants K W He O Fs H σ Q (if ps.all dA&&fA p then .ok p Γ1 else .no):=h
   have newF:∀a∈Fs1.flatten,a∈Fs.flatten\/H a=none:=fun a ha=>A.new a (mem_append_right _ ha)
   obtain ⟨n1,n2,n3⟩:=List.nodup_append.mp A.env.nd;obtain ⟨m1,m2,m3⟩:=List.nodup_append.mp n1
   cases hc:ps.all dA&&fA p with
   | false=>rw [hc] at h;exact h.elim
   | true=>
    rw [hc] at h;have h:Wants K W He O Fs H σ Q (.ok p Γ1):=h
    simp only [Bool.and_eq_true] at hc
    obtain ⟨hv,hf⟩:=hc;let O':=(O++Fs1.flatten).filter fun a=>decide (¬∃us,Rd H1 a (.lst us))
    have subO:∀a∈O',a∈O++Fs1.flatten:=fun a ha=>(List.mem_filter.mp ha).1
    have notO:∀a us,Rd H1 a (.lst us)->a∉O':=fun a us hr ha=>by
     have:=(List.mem_filter.mp ha).2
     simp only [decide_eq_true_eq] at this
     exact this ⟨us,hr⟩
    refine ⟨hl,O',ps.map (·.d),List.Nodup.sublist List.filter_sublist A.env.dropL.nd,fun a ha=>A.env.dropL.inH a (subO a ha),?_,?_⟩
    ·rw [append_nil]
     refine ⟨A.reps.1,fun i v d h1 h2=>?_⟩
     rw [getElem?_map] at h2
     cases e2:ps[i]? with
     | none=>rw [e2] at h2;cases h2
     | some q=>
      rw [e2] at h2
      cases h2;have hi:=(List.getElem?_eq_some_iff.mp e2).1
      have e3:Gs[i]?=some (Gs[i]'(by rw [A.len2];exact hi)):=getElem?_eq_getElem _
      have o:=A.own i v q _ h1 e2 e3
      have hq:=List.all_eq_true.mp hv q (mem_of_getElem? e2)
      unfold dA at hq
      cases hcl:T.coer .leaf q with
      | true=>
       have o2:=o.coer (s:=.leaf) (O':=O++Fs1.flatten) hcl fI fun a ha z=>by
        exfalso
        have hG:=fG e3 ha
        rcases List.mem_append.mp z with y | y
        ·exact m3 a hG a y rfl
        ·exact n3 a (mem_append_left _ hG) a y rfl
       have o3:Own K (O++Fs1.flatten) H1 .leaf [] v q.d:=o2
       cases o3 with
       | leaf r=>exact r.mono (oH (Same.refl _) fun a ha=>.inl (subO a ha))
      | false=>
       rw [hcl,Bool.false_or] at hq;split at hq
       ·rename_i ds
        have r:=o.rep
        cases r with
        | @lst a us _ hs hul hr=>
         refine .lst ?_ hul fun j u d q1 q2=>((hr j u d q1 q2).sc (List.all_eq_true.mp hq d (mem_of_getElem? q2))).rep
         rcases hs with hs | hs
         ·have hn:=notO a us hs
          refine .inl ?_
          rcases hs with hs | ⟨ob,hs⟩
          ·exact .inl (jc hs hn)
          ·exact .inr ⟨ob,jc hs hn⟩
         ·exact .inr hs
       ·cases hq
    ·rw [ed]
     intro v H2 G r;have own':Own K (G++O++Fs1.flatten) H2 p.s G v p.d:=pQ r.own hf fun t us hp hn z=>by
      rw [append_assoc] at z;rcases List.mem_append.mp z with z | z
      ·exact hn (mem_append_left _ z)
      ·have h1:=A.env.dropL.inH t z
       obtain ⟨ob,hob⟩:=Option.ne_none_iff_exists'.mp h1
       have h2:=r.same t ob hob
       rw [hp] at h2
       cases h2;refine hn (mem_append_right _ (List.mem_filter.mpr ⟨z,?_⟩))
       simp only [decide_eq_true_eq]
       rintro ⟨us',hs' | ⟨_,hs'⟩⟩
       ·rw [hob] at hs';cases hs'
       ·rw [hob] at hs';cases hs'
     refine h v H2 G Fs1 ⟨A.same.trans r.same,A.env.dropL.hide r.same r.nd r.fresh r.inH,fun a ha=>?_,own'⟩
     rcases List.mem_append.mp ha with z | z
     ·exact .inr (A.same.free (r.fresh a z))
     ·exact newF a z
end
end T
namespace TQ
open PySem PySem.Spec L2 T
open PyProof.Rows hiding St
section
variable {X:Cx} {N gl:List Str} {vs cs ls lo gs:List Nat} {W:XW} {a b c e:Expr} {es:List Expr} {pos p:Pos} {fa fb fc:F1} {fl:FL} {g:FS}
theorem ED {x:Str} {n:Nat} {den:List PySem.PyData->Res} (S:Cp X N gl vs cs ls lo gs) (j:Nat) (hj:gl[j]?=some x) (hg:gs.contains j=true) (C:Bi X x n den) (ha:Q (PA X (e::es) (tA X.K W fl))) (he:starEach (e::es) X.env=(false,eval e X.env)::starEach es X.env) (hpl:(backTo pos (starEach es X.env)).any (·.1)=false):Q (PE X (.Call (.Name x p) (e::es) [] pos) (tE X.K W (qA n den fl))):=⟨by
 have ha:=ha.p
 obtain ⟨k,f,fd,ps,F,hr,hm,hk,hb⟩:=C;exact bc (AR F hr (S.g hj hg).1 hm hk hb .nil iN ha (S.g hj hg).2.1 he hpl) fun _ _ _=>rL⟩
end
end TQ
namespace KC
open PySem PySem.Spec L2 T PySem.SeqAt
open PyProof.Rows hiding St
noncomputable def Wd.inn (w:Wd) (L:List Nat):Wd:=⟨w.n,w.os,w.m,w.s.map fun row=>row.filter fun t=>L.contains t⟩
noncomputable abbrev gl (T L:List Nat):List Nat:=L.filter fun r=>T.contains r
noncomputable abbrev lst (rk:List (Option Nat)) (L:List Nat):List Nat:=L.filter fun r=>(fL rk r).isNone
noncomputable def tD:Option (Nat×Nat)->D
 | none=>.none
 | some (a,b)=>.tuple [.int (a:Int),.int (b:Int)]
@[simp] theorem DU (o:Option (Nat×Nat)):AO (tD o)=o.isNone:=by cases o<;>rfl
noncomputable def Ba (tn:List (Option (Nat×Nat))) (t:Nat):Option (Nat×Nat):=tn.getD t none
noncomputable def Dg (tn:List (Option (Nat×Nat))) (a b t:Nat):Prop:=∃a' b',Ba tn t=some (a',b')/\(a'<a\/(a'=a/\(b'<b\/(b=0/\b'=0))))
structure TS where
 tn:List (Option (Nat×Nat))
 L:List Nat
 k:Nat
 lost:List Nat
 x7:Option PV
 x8:Option PV
structure TI (w:Wd) (p:Int) (T:List Nat) (b:TS):Prop where
 len:b.tn.length=w.n
 std:HK w.n b.L
 mem:∀r,r<w.n->(r∈b.L↔Ba b.tn r=none)
 c:∀r∈b.L,led (own w p r) (w.stp r) (·∈b.L)
 big:∀X,Aw w.n w.stp (own w p) (·∈T) X->∀r,X r->r∈b.L
 los:∃rk,Ax w.n (inn w.stp b.L) (own w p) b.L (gl T b.L) rk/\b.lost=lst rk b.L
 tk:∀r a j,Ba b.tn r=some (a,j)->a<b.k
 td:∀r a j,r<w.n->Ba b.tn r=some (a,j)->(j=0->r∉T)/\led (!own w p r) (w.stp r) (Dg b.tn a j)
structure JA (w:Wd) (p:Int) (T:List Nat) (tn:List (Option (Nat×Nat))) (L:List Nat):Prop where
 len:tn.length=w.n
 std:HK w.n L
 mem:∀r,r<w.n->(r∈L↔Ba tn r=none)
 c:∀r∈L,led (own w p r) (w.stp r) (·∈L)
 suff:Aw w.n w.stp (own w p) (·∈T) (·∈L)
 big:∀X,Aw w.n w.stp (own w p) (·∈T) X->∀r,X r->r∈L
 td:∀r a j,r<w.n->Ba tn r=some (a,j)->(j=0->r∉T)/\led (!own w p r) (w.stp r) (Dg tn a j)
noncomputable abbrev G5 (w:Wd) (c:Str) (r:Nat):Prop:=c∈w.mks r
structure C9 (w:Wd) (M:List Str) (L off:List Nat):Prop where
 ne:off≠[]
 sub:∀r∈off,r∈L
 no:∀(R:Nat->Prop) X,Fr w.n w.stp R M (G5 w) X->(∀r,X r->r∈L)->∀r∈off,¬X r
structure Df (w:Wd) (M:List Str) (L:List Nat):Prop where
 c:∀r∈L,∃t∈w.stp r,t∈L
 a:∀m∈M,∀S:Nat->Prop,(∀r,r∈L->G5 w m r->S r)->(∀r,r∈L->(∃t∈w.stp r,t∈L/\S t)->S r)->∀r,r∈L->S r
structure Jy where
 rows:List D
 L:List Nat
 row:D
structure FI (w:Wd) (R:List Nat) (M:List Str) (b:Jy):Prop where
 std:HK w.n b.L
 sub:∀r∈b.L,r∈R
 cnt:b.rows.length+b.L.length<=w.n
 big:∀X,Fr w.n w.stp (·∈R) M (G5 w) X->∀r,X r->r∈b.L
 row:(b.row=.none/\Df w M b.L)\/(∃off o,b.row=.tuple [aH off,o]/\C9 w M b.L off)
theorem Fq {r:List Nat}:shaped (aH r)=true:=Fu fun a ha=>by
 obtain ⟨t,_,e⟩:=List.mem_map.mp ha;exact ⟨(t:Int),e.symm⟩
theorem zV {a b:List Nat} (h:a=b):bL (aH a) (aH b)=some (.bool true):=by rw [h];exact kX Fq
noncomputable def HU (w:Wd):List Nat->Prop
 | a::b::r=>b∈w.stp a/\HU w (b::r)
 | _=>True
structure Las (w:Wd) (p:List Nat):Prop where
 ch:HU w p
 nd:p.Nodup
 bk:∃z t,p.getLast?=some z/\t∈w.stp z/\t∈p
theorem EV:∀{n:Nat} {p:List Nat},p.Nodup->(∀x∈p,x<n)->p.length<=n
 | 0,[],_,_=>Nat.le_refl _
 | 0,a::p,_,h=>absurd (h a (by simp)) (Nat.not_lt_zero _)
 | n+1,p,nd,h=>by
  by_cases hn:n∈p
  ·have:=EV (n:=n) (nd.erase n) fun x hx=>by
    obtain ⟨h1,h2⟩:=nd.mem_erase_iff.mp hx;have:=h x h2
    omega
   rw [List.length_erase_of_mem hn] at this;omega
  ·have:=EV (n:=n) nd fun x hx=>by
    have h1:=h x hx
    have:x≠n:=fun e=>hn (e▸hx)
    omega
   omega
structure IY (w:Wd) (F R:List Nat):Prop where
 ne:R≠[]
 lt:∀x∈F++R,x<w.n
 ch:HU w (F++R++R.take 1)
 len:F.length+R.length<=1000
end KC
namespace KC
open PySem PySem.Spec L2 T
open PyProof.Rows hiding St
noncomputable def iQ:PySem.PyData:=.tuple [.str "some next",.str "some until",.str "some always"]
noncomputable def sR:PySem.PyData:=.tuple [.str "all next",.str "all until",.str "all always"]
open PySem.SeqAt
noncomputable def Wr.ofS (a:Wr):Bool:=decide (a=.sn\/a=.su\/a=.sa)
noncomputable def Wr.ofA (a:Wr):Bool:=decide (a=.an\/a=.au\/a=.aa)
@[simp] theorem Hd (a:Wr):cA false (.str a.t) iQ=some (.bool a.ofS):=by cases a<;>kernel_rfl
@[simp] theorem Ec (a:Wr):cA true (.str a.t) iQ=some (.bool (!a.ofS)):=by cases a<;>kernel_rfl
@[simp] theorem Ed (a:Wr):cA true (.str a.t) sR=some (.bool (!a.ofA)):=by cases a<;>kernel_rfl
end KC
namespace KC
open PySem PySem.Spec L2 T PySem.SeqAt
open PyProof.Rows hiding St
noncomputable def HR (ch:List (Option Nat)):List Nat->Prop
 | a::b::r=>fL ch a=some b/\HR ch (b::r)
 | _=>True
structure IX (n:Nat) (ch:List (Option Nat)) (r:Nat) (F R:List Nat):Prop where
 ne:R≠[]
 lt:∀x∈F++R,x<n
 nd:(F++R).Nodup
 hd:(F++R).head?=some r
 fc:HR ch (F++R++R.take 1)
structure AI (n:Nat) (ch:List (Option Nat)) (r:Nat) (b:List Nat×Option Nat):Prop where
 nd:b.1.Nodup
 lt:∀x∈b.1,x<n
 hl:∀t,b.2=some t->t<n
 fc:HR ch b.1
 st:(b.1=[]/\b.2=some r)\/(b.1.head?=some r/\∃z,b.1.getLast?=some z/\b.2=fL ch z)
theorem xr {c:FB} {fa fb:F1} {Γ:Ev} {t:Bool} {p:PV} (hc:c Γ=.ok t Γ) (ha:t=true->fa Γ=.ok p Γ) (hb:t=false->fb Γ=.ok p Γ):ux c fa fb Γ=.ok p Γ:=by
 unfold ux;rw [hc];simp only [Bm]
 cases t with
 | true=>exact ha rfl
 | false=>exact hb rfl
end KC
namespace T
open PySem
theorem E8 {xs:Array Nat} {j p:Nat} (hp:∀k,k<xs.size->(xs.getD k j<j↔k<p)):∀(fuel lo hi:Nat),lo<=p->p<=hi->hi<=xs.size->hi-lo<=fuel->SetTable.below.go xs j fuel lo hi=p
 | 0,lo,hi,h1,h2,h3,h4=>by
  unfold SetTable.below.go;omega
 | n+1,lo,hi,h1,h2,h3,h4=>by
  unfold SetTable.below.go;by_cases c:lo<hi
  ·rw [if_pos c]
   have hm:=hp ((lo+hi) / 2) (by omega)
   simp only
   by_cases d:xs.getD ((lo+hi) / 2) j<j
   ·rw [if_pos d]
    have:=hm.mp d
    exact E8 hp n _ _ (by omega) h2 h3 (by omega)
   ·rw [if_neg d]
    have:¬(lo+hi) / 2<p:=fun z=>d (hm.mpr z)
    exact E8 hp n _ _ h1 (by omega) (by omega) (by omega)
  ·rw [if_neg c]
   omega
theorem E9 {xs:Array Nat} {j p:Nat} (hp:∀k,k<xs.size->(xs.getD k j<j↔k<p)) (hs:p<=xs.size):SetTable.below xs j=p:=E8 hp xs.size 0 xs.size (Nat.zero_le _) hs (Nat.le_refl _) (by omega)
def Rs (xs:Array Nat):Prop:=xs.toList.Pairwise (· < ·)
theorem Rs.lt {xs:Array Nat} (h:Rs xs) {i k:Nat} (hi:i<xs.size) (hk:k<xs.size) (hik:i<k):xs[i]<xs[k]:=by
 have:=(List.pairwise_iff_getElem.mp h) i k (by simpa using hi) (by simpa using hk) hik
 simpa using this
theorem m7 {xs:Array Nat}:SetTable.below xs 0=0:=E9 (fun k _=>by simp) (Nat.zero_le _)
theorem ye {xs:Array Nat} {k j:Nat} (hk:k<xs.size):xs.getD k j=xs[k]:=by
 unfold Array.getD;rw [dif_pos hk];rfl
theorem m8 {xs:Array Nat} (h:Rs xs) {i:Nat} (hi:i<xs.size):SetTable.below xs (xs[i]+1)=i+1:=by
 refine E9 (fun k hk=>?_) (by omega)
 rw [ye hk];rcases Nat.lt_trichotomy k i with c | c | c
 ·have:=h.lt hk hi c
  omega
 ·subst c
  omega
 ·have:=h.lt hi hk c
  omega
theorem gx (j:Nat):∀(l:List Nat),l.Pairwise (· < ·)->∀k,k<l.length->(l.getD k j<j↔k<l.countP (·<j))
 | [],_,k,hk=>by simp at hk
 | a::l,h,k,hk=>by
  obtain ⟨h1,h2⟩:=List.pairwise_cons.mp h;rw [List.countP_cons];by_cases c:a<j
  ·simp only [c,decide_true,if_true]
   cases k with
   | zero=>simpa using c
   | succ k=>
    have:=gx j l h2 k (by simpa using hk)
    simp only [List.getD_cons_succ]
    omega
  ·have z:l.countP (·<j)=0:=List.countP_eq_zero.mpr fun b hb=>by
    have:=h1 b hb
    simp
    omega
   simp only [c,decide_false,Bool.false_eq_true,if_false,z]
   cases k with
   | zero=>simp;omega
   | succ k=>
    have hk':k<l.length:=by simpa using hk
    simp only [List.getD_cons_succ]
    rw [getD_eq_getElem?_getD,getElem?_eq_getElem hk'];have:=h1 _ (getElem_mem hk')
    simp only [Option.getD_some]
    omega
theorem Rs.point {xs:Array Nat} (h:Rs xs) (j:Nat):(∀k,k<xs.size->(xs.getD k j<j↔k<SetTable.below xs j))/\SetTable.below xs j<=xs.size:=by
 have hp:∀k,k<xs.size->(xs.getD k j<j↔k<xs.toList.countP (·<j)):=fun k hk=>by
  have:=gx j xs.toList h k (by simpa using hk)
  rw [getD_eq_getElem?_getD,getElem?_eq_getElem (by simpa using hk)] at this
  rw [ye hk];simpa using this
 have hc:xs.toList.countP (·<j)<=xs.size:=by
  have:=List.countP_le_length (p:=(·<j)) (l:=xs.toList)
  simpa using this
 rw [E9 hp hc];exact ⟨hp,hc⟩
theorem Rs.insert {xs:Array Nat} (h:Rs xs) {j:Nat} (hj:xs[SetTable.below xs j]?≠some j):Rs (SetTable.insertAt xs (SetTable.below xs j) j):=by
 obtain ⟨hp,hs⟩:=h.point j;generalize SetTable.below xs j=p at hp hs hj
 unfold Rs SetTable.insertAt;have e:(((xs.extract 0 p).push j)++xs.extract p xs.size).toList=xs.toList.take p++[j]++xs.toList.drop p:=by
  simp [Array.toList_extract,List.extract]
  rw [take_of_length_le (by simp)]
 rw [e,append_assoc,List.pairwise_append];have low:∀a∈xs.toList.take p,a<j:=fun a ha=>by
  obtain ⟨k,hk,rfl⟩:=getElem_of_mem ha;rw [length_take] at hk;have hk':k<xs.size:=by
   have:k<xs.toList.length:=by omega
   simpa using this
  have:=(hp k hk').mpr (by omega)
  rw [ye hk'] at this;simpa using this
 have up:∀a∈xs.toList.drop p,j<a:=fun a ha=>by
  obtain ⟨k,hk,rfl⟩:=getElem_of_mem ha;rw [List.length_drop,Array.length_toList] at hk;have hk':p+k<xs.size:=by omega
  have q:¬xs.getD (p+k) j<j:=fun z=>by have:=(hp (p+k) hk').mp z;omega
  rw [ye hk'] at q;have e1:(xs.toList.drop p)[k]=xs[p+k]:=by simp
  rw [e1];have hne:xs[p+k]≠j:=fun z=>by
   cases k with
   | zero=>
    simp only [Nat.add_zero] at z
    exact hj (by rw [Array.getElem?_eq_getElem (by omega),z])
   | succ k=>
    have hp':p<xs.size:=by omega
    have q0:¬xs.getD p j<j:=fun z=>by have:=(hp p hp').mp z;omega
    rw [ye hp'] at q0;have:=h.lt hp' hk' (by omega)
    omega
  omega
 refine ⟨h.sublist (List.take_sublist _ _),?_,fun a ha b hb=>?_⟩
 ·rw [List.singleton_append,List.pairwise_cons]
  exact ⟨up,h.sublist (List.drop_sublist _ _)⟩
 ·have l1:=low a ha
  rw [List.singleton_append] at hb;rcases List.mem_cons.mp hb with rfl | hb
  ·exact l1
  ·have:=up b hb
   omega
theorem ro {n:Nat}:Rs (Array.range n):=by
 unfold Rs;rw [Array.toList_range];exact List.pairwise_lt_range
structure Tb (b:Bool) (t:SetTable):Prop where
 led:b=false->t.led=true
 rs:Rs t.place
 nd:t.dummies=#[]
theorem Tb.fresh {b:Bool}:Tb b (.fresh 0 0 (!b)):=⟨fun e=>by rw [e];rfl,List.Pairwise.nil,rfl⟩
theorem Tb.standIn {b:Bool} {t:SetTable} (h:Tb b t) (n:Nat):Tb b (t.standIn n):=⟨h.led,ro,rfl⟩
theorem Tb.orStandIn {b:Bool} {t:SetTable} (h:Tb b t) (n:Nat):Tb b (t.orStandIn n):=by
 unfold SetTable.orStandIn;split
 ·exact h
 ·exact h.standIn n
theorem Tb.plain {b:Bool} {t:SetTable} (h:Tb b t) (p:Bool):Tb b { t with plain:=p }:=⟨h.led,h.rs,h.nd⟩
theorem kq {j:Nat}:SetTable.has #[] j=false:=by
 unfold SetTable.has;simp
theorem Tb.put {b:Bool} {t:SetTable} (h:Tb b t) {j:Nat} (hj:t.place[SetTable.below t.place j]?≠some j):Tb b (t.put j).1:=by
 refine ⟨h.led,h.rs.insert hj,?_⟩
 show (if SetTable.has t.dummies j=true then _ else t.dummies)=#[]
 rw [h.nd,kq];rfl
theorem ff {b:Bool} {t:SetTable} (h:Tb b t) {ha:Nat->Int} {k:Int}:∀(fuel:Nat) (p:SetTable.Probe),p.dummy=none->∀j d,SetTable.probe.go t ha k fuel p=some (.empty j d)->d=none/\t.place[SetTable.below t.place j]?≠some j
 | 0,p,_,j,d,e=>by unfold SetTable.probe.go at e;cases e
 | n+1,p,hp,j,d,e=>by
  unfold SetTable.probe.go at e;have adv:(t.advance p).dummy=none:=by
   unfold SetTable.advance;split
   ·exact hp
   ·exact hp
  cases q:t.slot p.j with
  | empty=>
   rw [q] at e;simp only [Option.some.injEq,SetTable.Met.empty.injEq] at e
   obtain ⟨rfl,rfl⟩:=e;refine ⟨hp,fun z=>?_⟩
   unfold SetTable.slot at q;simp only [z,beq_self_eq_true,if_true] at q
   cases q
  | dummy=>
   unfold SetTable.slot at q;simp only [h.nd,kq] at q
   split at q<;>simp at q
  | live i=>
   rw [q] at e;simp only at e
   split at e
   ·cases e
   ·exact ff h n _ adv j d e
theorem Tb.free {b:Bool} {t:SetTable} (h:Tb b t) {k:Int} {j:Nat} {d:Bool} (e:t.freeSlot k=some (j,d)):t.place[SetTable.below t.place j]?≠some j:=by
 unfold SetTable.freeSlot at e
 cases q:t.probe (fun _=>k+1) k (t.probeStart k) with
 | none=>rw [q] at e;cases e
 | some m=>
  rw [q] at e
  cases m with
  | candidate _ _ _=>cases e
  | empty i x=>
   obtain ⟨rfl,hi⟩:=ff h _ _ rfl i x q;simp only [Option.some.injEq,Prod.mk.injEq] at e
   obtain ⟨rfl,_⟩:=e;exact hi
theorem Tb.layNew {b:Bool} {t:SetTable} (h:Tb b t) (es:Array (Int×Value)) (k:Int) (x:Value):Tb b (PySem.layNew t es k x).2.1:=by
 unfold PySem.layNew
 cases e:t.freeSlot k with
 | none=>exact h.standIn _
 | some jd=>
  obtain ⟨j,d⟩:=jd;exact (h.put (h.free e)).orStandIn _
theorem vQ {b led plain:Bool} {mask fg mv:Nat} {hs:Array Int} {t:SetTable} {o:Array Nat} (hl:b=false->led=true) (e:SetTable.laid mask fg mv led plain hs=some (t,o)):Tb b t:=by
 unfold SetTable.laid at e
 cases q:SetTable.layClean mask hs with
 | none=>rw [q] at e;cases e
 | some ow=>
  rw [q] at e;simp only [Option.bind_eq_bind,Option.bind_some,Option.pure_def,Option.some.injEq,Prod.mk.injEq] at e
  obtain ⟨rfl,_⟩:=e;refine ⟨hl,?_,rfl⟩
  unfold Rs;simp only [List.toList_toArray]
  rw [pairwise_map];refine List.Pairwise.filterMap _ (R:=(· < ·)) (fun a a' haa' c hc c' hc'=>?_) List.pairwise_lt_range
  cases x:ow.getD a none with
  | none=>rw [x] at hc;cases hc
  | some y=>
   cases x':ow.getD a' none with
   | none=>rw [x'] at hc';cases hc'
   | some y'=>
    rw [x] at hc;rw [x'] at hc'
    cases hc
    cases hc'
    exact haa'
theorem Tb.relay {b:Bool} {t:SetTable} (h:Tb b t) (es:Array (Int×Value)) (n:Nat):Tb b (relayAll t es n).2.1:=by
 unfold relayAll
 cases e:t.relaid (es.map (·.1)) n with
 | none=>exact h.standIn _
 | some to=>
  obtain ⟨t',o⟩:=to;simp only
  split
  ·unfold SetTable.relaid at e
   exact vQ h.led e
  ·exact h.standIn _
open PySem.Spec L2
open PyProof.Rows hiding St
abbrev cD (w:World):Bool:=w.params.followText "set-order"
def SetT (P:Program) (w:World) (h:Heap) (a:Addr) (S:Int->Bool) (n:Nat):Prop:=
 ∃o es ep t,h.get? a=some o/\o.ExactSet/\o.data=.set es ep t/\ElemsOf (intKind P w) es.toList/\(∀k,S k=true↔∃e∈es.toList,(intKind P w).is k e.2=true)/\es.size<scanBound/\t.fits es.size=true/\es.size=n/\Tb (cD w) t
section
variable {P:Program} {w:World} {A:Around} {E:Value->Shared->Prop} {s:Shared}
theorem SetT.at {h h':Heap} {a:Addr} {S:Int->Bool} {n:Nat} (x:SetT P w h a S n) (k:∀o,h.get? a=some o->h'.get? a=some o):SetT P w h' a S n:=by
 obtain ⟨o,es,ep,t,ho,r⟩:=x;exact ⟨o,es,ep,t,k o ho,r⟩
theorem SetT.congr {h:Heap} {a:Addr} {S S':Int->Bool} {n n':Nat} (x:SetT P w h a S n) (e:∀k,S k=S' k) (en:n=n'):SetT P w h a S' n':=by
 have:S=S':=funext e
 subst this en;exact x
theorem nG {h:Heap} {a:Addr} {o:Obj} {es es':Array (Int×Value)} {ep:Nat} {t t':SetTable} {S:Int->Bool} (ho:h.get? a=some o) (hex:o.ExactSet) (hd:o.data=.set es ep t) (hel:ElemsOf (intKind P w) es'.toList) (hm:∀k,S k=true↔∃e∈es'.toList,(intKind P w).is k e.2=true) (hb:es'.size<scanBound) (hf:t'.fits es'.size=true) (tb:Tb (cD w) t') :
  (h.update a (Obj.putSet es' t')).get? a=some { o with data:=.set es' (ep+1) t' }/\SetT P w (h.update a (Obj.putSet es' t')) a S es'.size:=by
 have q:=(SetOf_store (knd:=intKind P w) ho hex hd hel hm hb hf).1
 exact ⟨q,_,es',ep+1,t',q,hex,rfl,hel,hm,hb,hf,rfl,tb⟩
theorem C5 {a:Addr} {S:Int->Bool} {n:Nat} {k:Int} {x:Value} {Q:Bool->Shared->Prop} (hk:(intKind P w).is k x=true) (hx:x.scannable=true) (hS:SetT P w s.heap a S n) (hr:n+1<scanBound)
  (h:∀h',Heap.SameBut a s.heap h'->SetT P w h' a (fun i=>S i||decide (i=k)) (if S k then n else n+1)->∀b,Q b { s with heap:=h' }):wpAny (model P w) A (setAddHashed a x ((intKind P w).hash k)) Q E s:=by
 obtain ⟨o,es,ep,t,ho,hex,hd,hel,hm,hb,hf,hn,tb⟩:=hS;unfold setAddHashed setAddHashedIn;refine wpAny_holding (wpAny_bind (wpAny_setState_of ho hd hf ?_))
 dsimp only;rw [byScan_of hx hb hel,if_pos rfl];unfold setAddByScan;refine wpAny_bind (wpAny_bind (wpAny_rule (wpAny_bind (wpAny_setScan_of hk ho hd hf hel ?_))))
 cases q:List.findIdx? (fun e=>(intKind P w).is k e.2) es.toList with
 | some j=>
  dsimp only;obtain ⟨hj,hp,_⟩:=List.findIdx?_eq_some_iff_getElem.mp q
  have sk:S k=true:=(hm k).mpr ⟨_,getElem_mem hj,hp⟩
  refine wpAny_pure (wpAny_pure ?_)
  have z:=h s.heap (Heap.SameBut.refl a s.heap) ⟨o,es,ep,t,ho,hex,hd,hel,fun i=>?_,hb,hf,by rw [sk];exact hn,tb⟩ false
  ·have es':s={ s with heap:=s.heap }:=by cases s;rfl
   rw [es'];exact z
  ·rw [Bool.or_eq_true,decide_eq_true_eq,<-hm i]
   exact ⟨fun y=>y.elim id fun e=>e▸sk,.inl⟩
 | none=>
  dsimp only;have sk:S k=false:=by
   cases e:S k with
   | false=>rfl
   | true=>
    obtain ⟨y,hy,hp⟩:=(hm k).mp e;have:=List.findIdx?_eq_none_iff.mp q y hy
    rw [hp] at this
    cases this
  have pm:=layNew_perm t es ((intKind P w).hash k) x
  have ft:=layNew_fits t es ((intKind P w).hash k) x
  have tb1:=tb.layNew es ((intKind P w).hash k) x
  generalize layNew t es ((intKind P w).hash k) x=L at pm ft tb1 ⊢
  obtain ⟨e1,t1,wd,gv⟩:=L;dsimp only at pm ft tb1 ⊢
  rw [Array.toList_push] at pm;have el1:ElemsOf (intKind P w) e1.toList:=(hel.push hk hx).perm pm
  have m1:=fun i=>mem_push_iff hk hm pm i
  have sz:e1.size=n+1:=by rw [<-Array.length_toList,pm.length_eq,length_append,Array.length_toList,hn];rfl
  have b1:e1.size<scanBound:=by rw [sz];exact hr
  have gw:∀(b:Bool) {s1:Shared} {R:Unit->Shared->Prop},R () s1->wpAny (model P w) A (match b with | true=>rule "set.scan.the-table-gave-way" | false=>pure ()) R E s1:=fun b s1 R y=>by
   cases b
   ·exact wpAny_pure y
   ·exact wpAny_rule y
  have fin:∀h',Heap.SameBut a s.heap h'->SetT P w h' a (fun i=>S i||decide (i=k)) e1.size->∀b,Q b { s with heap:=h' }:=fun h' sb y=>by
   have:=h h' sb
   rw [sk] at this;rw [sz] at y;exact this y
  have tail:∀t2:SetTable,t2.fits e1.size=true->Tb (cD w) t2->∀{R:Option Bool->Shared->Prop},(∀h',(∀b,Q b { s with heap:=h' })->R (some true) { s with heap:=h' })->wpAny (model P w) A (do
    storeSet a e1 t2
    if (!wd&&t2.tooFull)=true then do
      (match (relayAll t2 e1 (SetTable.grown e1.size)).2.2 with | true=>rule "set.scan.the-table-gave-way" | false=>pure ())
      storeSet a (relayAll t2 e1 (SetTable.grown e1.size)).1 (relayAll t2 e1 (SetTable.grown e1.size)).2.1
      pure (some true)
     else pure (some true)) R E s:=fun t2 f2 tb2 R hR=>by
   refine wpAny_bind (wpAny_storeSet_of ho hd ?_ (fits_of_scanBound b1))
   obtain ⟨g1,s1⟩:=nG ho hex hd el1 m1 b1 f2 tb2;have sb1:=Heap.SameBut.update s.heap a (Obj.putSet e1 t2)
   split
   ·have pr:=relayAll_perm t2 e1 (SetTable.grown e1.size)
    have fr:=relayAll_fits t2 e1 (SetTable.grown e1.size)
    have tr:=tb2.relay e1 (SetTable.grown e1.size)
    generalize relayAll t2 e1 (SetTable.grown e1.size)=Rl at pr fr tr ⊢
    obtain ⟨e2,t3,g2⟩:=Rl;dsimp only at pr fr tr ⊢
    have sz2:e2.size=e1.size:=by rw [<-Array.length_toList,pr.length_eq,Array.length_toList]
    have b2:e2.size<scanBound:=by rw [sz2];exact b1
    refine wpAny_bind (gw _ (wpAny_bind (wpAny_storeSet_of g1 rfl ?_ (fits_of_scanBound b2))))
    obtain ⟨_,s2⟩:=nG (P:=P) (S:=fun i=>S i||decide (i=k)) g1 hex rfl (el1.perm pr) (fun i=>(m1 i).trans ⟨fun ⟨e,he,y⟩=>⟨e,pr.mem_iff.mpr he,y⟩,fun ⟨e,he,y⟩=>⟨e,pr.mem_iff.mp he,y⟩⟩) b2 fr tr
    rw [sz2] at s2;exact wpAny_pure (hR _ (fin _ (sb1.trans (Heap.SameBut.update _ a _)) s2))
   ·exact wpAny_pure (hR _ (fin _ sb1 s1))
  refine wpAny_bind (gw _ ?_)
  split
  ·refine wpAny_bind ?_
   rw [hashByValue_scannable 8 hx];refine wpAny_pure ?_
   refine tail _ ?_ ?_ fun h' y=>?_
   ·split
    ·exact ft
    ·exact SetTable.fits_plain_off ft
   ·split
    ·exact tb1
    ·exact tb1.plain false
   ·exact wpAny_pure (y true)
  ·refine wpAny_bind (wpAny_pure ?_)
   simp only [if_true]
   exact tail _ ft tb1 fun h' y=>wpAny_pure (y true)
end
section
variable {P:Program} {w:World} {A:Around} {R:Result->Shared->Prop} {I:Addr} {fp wr:List Addr} {G:Array GenState->Array GenState->Prop} {n:Nat} {Pr:Nat->Value->Prop} {Sn:Nat->Shared->Prop}
theorem BG (W:WalksS P w A.in1 I fp wr G n Pr Sn) (S:Addr) (hS:S∉fp) (val:Nat->Int) (hv:∀i v,Pr i v->∃t,v=.int (val i) t) (hb:n+1<scanBound):∀(k i:Nat) (s:Shared),n-i=k->i<=n->Sn i s->SetT P w s.heap S (fun z=>(firstMet val i).any (·==z)) (firstMet val i).length ->
   (∀s',Moved (S::wr) G s s'->SetT P w s'.heap S (fun z=>(firstMet val n).any (·==z)) (firstMet val n).length->R (.ok (.ret .none)) s')->codeAny (model P w) A (.builtin "set.update.loop" ⟨[.ref S,.ref I],[]⟩) R s:=by
 have hw:S∉wr:=fun z=>hS (W.sub _ z)
 have sub:∀b∈wr,b∈S::wr:=fun b z=>mem_cons_of_mem _ z
 intro k;induction k with
 | zero=>
  intro i s hk hi st x hR;obtain rfl:i=n:=by omega
  refine codeAny_builtin F.entry_set_update_loop ?_
  rw [Around.under_plainId F.plain_set_update_loop _];refine wpAny_bind (W.done s _ _ st fun s' mv=>?_)
  exact wpAny_pure (hR s' (mv.mono sub) (x.at fun o e=>mv.heap S o hw e))
 | succ k ih=>
  intro i s hk hi st x hR;have lt:i<n:=by omega
  refine codeAny_builtin F.entry_set_update_loop ?_
  rw [Around.under_plainId F.plain_set_update_loop _];refine wpAny_bind (W.item i s _ _ lt st fun v s' pv st' mv=>?_)
  obtain ⟨t,rfl⟩:=hv i v pv;have x':=x.at fun o e=>mv.heap S o hw e
  refine wpAny_bind (wpAny_holding ?_)
  unfold setAdd;refine wpAny_holding (wpAny_bind ((intKind P w).pyHash (k:=val i) (intKind_is _ _ _ _) ?_))
  have room:(firstMet val i).length+1<scanBound:=by have:=firstMet_length_le val i;omega
  refine C5 (s:={ s' with toks:=s'.toks+1 }) (intKind_is _ _ _ _) rfl x' room fun h' sb x2 b=>?_
  have x3:SetT P w h' S (fun z=>(firstMet val (i+1)).any (·==z)) (firstMet val (i+1)).length:=x2.congr (fun z=>by rw [firstMet_succ,step_any]) (by rw [firstMet_succ,step_length])
  refine wpAny_pure ⟨plainId_quiet F.plain_set_update_loop _,ih (i+1) _ (by omega) lt (W.frame _ s' _ _ st' (Nat.le_succ _) fun c hc o e=>?_) x3 fun s2 mv2 x4=>?_⟩
  ·rw [sb.2 c fun z=>hS (by rw [<-z];exact hc)]
   exact e
  ·refine hR s2 (Moved.trans W.gtrans ((mv.mono sub).then_heap (Nat.le_succ _) fun c o hc e=>?_) mv2) x4
   rw [sb.2 c fun z=>hc (by rw [z];exact mem_cons_self)]
   exact e
end
section
variable {P:Program} {w:World} {A:Around} {E:Value->Shared->Prop} {s:Shared}
abbrev gB (w:World):Obj:={ cls:=.type "set",dict:=none,data:=.set #[] 0 (.fresh 0 0 (!cD w)) }
theorem Cu (a:Value) {Q:Value->Shared->Prop} (h:Q (.ref s.heap.objs.size) { s with heap:=s.heap.push (gB w) }):codeAny (model P w) A (.call (.builtin "set.__new__") ⟨[.type "set",a],[]⟩) (wants Q E) s:=by
 refine codeAny_of_tree ?_
 refine wpAny_bind (wpAny_of_eq (F.newCall_set_1 a) (wpAny_pure ⟨plainId_quiet F.plain_set_new _,codeAny_builtin F.entry_set_new ?_⟩))
 rw [Around.under_plainId F.plain_set_new _];unfold Builtin.«set.__new__» Builtin.Frozenset.newClass
 have sub:=sub_set_self
 obtain ⟨hp,g,d,tk,os⟩:=s;dsimp only;wp_walk
 refine wpAny_askSetting (wpAny_pure ?_)
 dsimp only;simp only [newObj]
 exact wpAny_bind (wpAny_alloc (wpAny_pure (wpAny_pure h)))
theorem wg {h:Heap} {a:Addr} (e:h.get? a=some (gB w)):SetT P w h a (fun _=>false) 0:=
 ⟨_,#[],0,_,e,⟨rfl,rfl,rfl⟩,rfl,fun e he=>by simp at he,fun k=>by simp,by decide,rfl,rfl,Tb.fresh⟩
theorem m4 {l:Addr} {its:Array Value} {ns:List Int} {Q:Value->Shared->Prop} (hh:A.handled=none) (hl:s.heap.IsList l its) (hi:IntsAre its.toList ns) (hb:its.size+1<scanBound)
  (h:∀(h':Heap) (tk:Nat),SetT P w h' s.heap.objs.size (fun z=>(firstMet (fun i=>ns.getD i 0) its.size).any (·==z)) (firstMet (fun i=>ns.getD i 0) its.size).length->(∀b o,s.heap.get? b=some o->h'.get? b=some o)->Q (.ref s.heap.objs.size) { s with heap:=h',toks:=tk }) :
  wpAny (model P w) A (call (.type "set") [.ref l]) Q E s:=by
 obtain ⟨c,tl,mro⟩:=F.called_set.mro;have made:=F.called_set.made
 have sub:=F.called_set.sub
 refine wpAny_call (codeAny_of_tree ?_)
 show wpAny _ _ (callAny (.type "set") _) _ _ _
 refine wpAny_pure ⟨Code.quiet_builtin _ (by decide +kernel),codeAny_builtin F.entry_type_call ?_⟩
 rw [Around.under_plain (weight_type_call_type "set" [.ref l] []) rfl]
 have h1:=F.called_set.notType
 have h2:=F.called_set.canCreate
 have ct:=F.typeCall_set_1 (.ref l)
 repeat (any_goals (first | assumption | wp_step))
 refine codeAny_mono (Cu (.ref l) (E:=E) (Q:=fun ob s1=>ob=.ref s.heap.objs.size/\s1={ s with heap:=s.heap.push (gB w) }) ⟨rfl,rfl⟩) fun r s1 hr=>?_
 cases r with
 | error e=>exact hr
 | ok fl=>
  cases fl with
  | ret ob=>
   obtain ⟨rfl,rfl⟩:=hr;have gS:(s.heap.push (gB w)).get? s.heap.objs.size=some (gB w):=Heap.get?_push_size _ rfl
   have ty:Shared.TypeIs { s with heap:=s.heap.push (gB w) } (.ref s.heap.objs.size) "set":=⟨_,gS,rfl⟩
   have li:=F.called_set.init.lookup
   have bi:=F.called_set.init.bind (.ref s.heap.objs.size)
   repeat (any_goals (first | assumption | wp_step))
   refine codeAny_mono (codeAny_call_builtin (R:=wants (fun r s2=>r=.none/\∃h' tk,s2={ s with heap:=h',toks:=tk }/\SetT P w h' s.heap.objs.size (fun z=>(firstMet (fun i=>ns.getD i 0) its.size).any (·==z)) (firstMet (fun i=>ns.getD i 0) its.size).length/\(∀b o,s.heap.get? b=some o->h'.get? b=some o)) E) F.called_set.init.plain F.entry_set_init (check_set_init_1 ty ?_)) fun r2 s2 hr2=>?_
   ·have hl':=hl
    obtain ⟨ol,gl,cl,nl,dl⟩:=hl;obtain ⟨oc,od,odt,os⟩:=ol;simp only at cl dl
    subst cl dl;have gl':(s.heap.push (gB w)).get? l=some { cls:=.type "list",dict:=od,data:=.seq its nl,slots:=os }:=Heap.get?_push_of_some _ gl
    have s1:=F.sub_list_set
    have s2:=F.sub_list_frozenset
    have ne:(Value.type "list"==Value.type "dict")=false:=by decide
    have l1:(s.heap.push (gB w)).IsList l its:=⟨_,gl',rfl,nl,rfl⟩
    unfold Builtin.«set.__init__» noKeywords Builtin.Frozenset.updateFrom
    generalize hPI:pyIter=PI
    wp_walk
    subst hPI;refine wpAny_pyIter_list l1 (wpAny_bind (wpAny_runValue ?_))
    have lS:l<s.heap.objs.size:=Heap.lt_size gl
    have h3:A.in1.in1.in1.handled=none:=by simp [hh]
    have nI:l≠(s.heap.push (gB w)).objs.size:=by
     rw [Heap.size_push];exact Nat.ne_of_lt (Nat.lt_succ_of_lt lS)
    have nf:s.heap.objs.size∉[(s.heap.push (gB w)).objs.size,l]:=by
     rw [Heap.size_push];simp only [mem_cons,not_mem_nil,or_false,not_or]
     exact ⟨Nat.ne_of_lt (Nat.lt_succ_self _),Nat.ne_of_gt lS⟩
    refine BG ((Walks.list h3 _ l nI its).toS) s.heap.objs.size nf (fun i=>ns.getD i 0) (fun i v e=>IntsAre.int_at hi i v (by rw [Array.getElem?_toList];exact e)) hb (its.size-0) 0 _ (by omega) (Nat.zero_le _) ⟨⟨_,Heap.get?_push_size _ rfl,rfl,rfl⟩,l1.push _⟩ ?_ fun s' mv x=>?_
    ·exact (wg (Heap.get?_push_of_some _ gS)).congr (fun _=>rfl) rfl
    ·obtain ⟨h',g',d',tk',os'⟩:=s'
     have e1:g'=s.gens:=mv.gens
     have e2:d'=s.drawn:=mv.drawn
     have e3:os'=s.os:=mv.os
     subst e1 e2 e3;refine wpAny_pure (wpAny_pure ⟨rfl,h',tk',rfl,x,fun b o e=>?_⟩)
     have hb1:b≠s.heap.objs.size:=Nat.ne_of_lt (Heap.lt_size e)
     have hb2:b≠(s.heap.push (gB w)).objs.size:=by
      rw [Heap.size_push];exact Nat.ne_of_lt (Nat.lt_succ_of_lt (Heap.lt_size e))
     exact mv.heap b o (by simp only [mem_cons,not_mem_nil,or_false,not_or];exact ⟨hb1,hb2⟩) (Heap.get?_push_of_some _ (Heap.get?_push_of_some _ e))
   ·cases r2 with
    | error e=>exact hr2
    | ok f2=>
     cases f2 with
     | ret r=>
      obtain ⟨rfl,h',tk,rfl,x,kp⟩:=hr2;repeat (any_goals (first | assumption | wp_step))
      exact h _ _ x kp
     | _=>exact hr2.elim
  | _=>exact hr.elim
end
theorem jt:entryFor table "set.__iter__"=some Builtin.«frozenset.__iter__»:=entryFor_alias (id' := "frozenset.__iter__") (by kernel_rfl) rfl (by decide +kernel) (by kernel_rfl)
theorem slot_si_next:Slot "set_iterator" "__next__" "set_iterator.__next__":=
 .of (owner := "set_iterator") (n := "__next__") (by rw [typeLookup_type,builtinLookup_eq_fast];kernel_rfl) (by decide +kernel) (by decide +kernel) (by decide +kernel) (by first | exact .inl (by decide +kernel) | exact .inr (by decide +kernel)) (by rw [isSubtype_type];kernel_rfl)
theorem DQ:entryFor table "set_iterator.__next__"=some Builtin.«set_iterator.__next__»:=entryFor_of_tree (by kernel_rfl)
theorem DJ (a:Value):argsOk "set_iterator.__next__" ⟨[a],[]⟩:=by
 unfold argsOk;rw [signature?_of (id := "set_iterator.__next__") (n:=['_','_','t','x','e','n','_','_']) (o:=['r','o','t','a','r','e','t','i','_','t','e','s']) (by kernel_rfl) (show Manifest.owners.lookup (String.ofList ['r','o','t','a','r','e','t','i','_','t','e','s'].reverse)=some Manifest.sig_set_iterator by kernel_rfl)]
 kernel_rfl
theorem nM {α:Type} (next:Nat->Nat):∀(fuel k:Nat) (l:List α) (out:Array α),l.length=fuel->(pickOrder.go next fuel k l out).toList.Perm (out.toList++l)
 | 0,k,l,out,h=>by
  unfold pickOrder.go;rw [List.length_eq_zero_iff.mp h,append_nil]
 | n+1,k,l,out,h=>by
  unfold pickOrder.go;have lt:next k % l.length<l.length:=Nat.mod_lt _ (by omega)
  generalize next k % l.length=j at lt
  rw [getElem?_eq_getElem lt];simp only
  have ih:=nM next n (k+1) (l.eraseIdx j) (out.push l[j]) (by rw [List.length_eraseIdx_of_lt lt];omega)
  refine ih.trans ?_
  rw [Array.toList_push,append_assoc];refine List.Perm.append_left _ ?_
  rw [List.singleton_append];rw [List.eraseIdx_eq_take_drop_succ];have e:l=l.take j++l[j]::l.drop (j+1):=by rw [List.getElem_cons_drop,List.take_append_drop]
  conv=>rhs;rw [e]
  exact List.perm_middle.symm
theorem FE {α:Type} (next:Nat->Nat) (xs:Array α):(pickOrder next xs).toList.Perm xs.toList:=by
 unfold pickOrder;have:=nM next xs.size 0 xs.toList #[] (by simp)
 simpa using this
section
variable {P:Program} {w:World} {A:Around} {E:Value->Shared->Prop} {s:Shared} {S it:Addr} {o:Obj} {es:Array (Int×Value)} {ep:Nat} {t:SetTable}
theorem nO (ht:cD w=true) (ho:s.heap.get? S=some o) (hd:o.data=.set es ep t) (hf:t.fits es.size=true) {sl i:Nat} {Q:Option (Value×Nat)->Shared->Prop} (h:Q (((pickOrder (w.params.setOrder S ep) es)[i]?).map fun e=>(e.2,sl)) s):wpAny (model P w) A (setNext S sl i ep) Q E s:=by
 unfold setNext;refine wpAny_bind (wpAny_setState_of ho hd hf ?_)
 dsimp only;refine wpAny_bind ?_
 unfold setsByText;refine wpAny_bind (wpAny_askSetting (wpAny_pure ?_))
 show wpAny (model P w) A (if cD w=true then _ else _) Q E s
 rw [if_pos ht];simp only [bne_self_eq_false,Bool.false_eq_true,if_false]
 refine wpAny_bind ?_
 unfold setWalk;refine wpAny_bind (wpAny_setState_of ho hd hf ?_)
 dsimp only;refine wpAny_bind ?_
 unfold setsByText;refine wpAny_bind (wpAny_askSetting (wpAny_pure ?_))
 show wpAny (model P w) A (if cD w=true then _ else _) _ E s
 rw [if_pos ht];exact wpAny_bind (wpAny_askSetting (wpAny_pure (wpAny_pure h)))
theorem iU (hf:t.fits es.size=true):t.place.size=es.size:=by
 unfold SetTable.fits at hf;rw [Bool.and_eq_true,beq_iff_eq] at hf;exact hf.1
theorem nP (ht:cD w=false) (tb:Tb (cD w) t) (hp:(!t.plain&&decide (es.size>1))=false) (ho:s.heap.get? S=some o) (hd:o.data=.set es ep t) (hf:t.fits es.size=true) {sl i:Nat} {Q:Option (Value×Nat)->Shared->Prop}
  (h:Q (match es[SetTable.below t.place sl]?,t.place[SetTable.below t.place sl]? with | some (_,x),some j=>some (x,j+1) | _,_=>none) s):wpAny (model P w) A (setNext S sl i ep) Q E s:=by
 have led:=tb.led ht
 unfold setNext;refine wpAny_bind (wpAny_setState_of ho hd hf ?_)
 dsimp only;refine wpAny_bind ?_
 unfold setsByText;refine wpAny_bind (wpAny_askSetting (wpAny_pure ?_))
 show wpAny (model P w) A (if cD w=true then _ else _) Q E s
 rw [if_neg (by rw [ht];exact Bool.false_ne_true)]
 show wpAny (model P w) A (if (!t.plain&&decide (es.size>1))=true then _ else _) Q E s
 rw [if_neg (by rw [hp];exact Bool.false_ne_true)]
 show wpAny (model P w) A ((if (!t.led&&!es.isEmpty)=true then _ else _) >>= _) Q E s
 rw [if_neg (by rw [led];simp)]
 exact wpAny_bind (wpAny_pure (wpAny_pure h))
end
def SetIt (h:Heap) (it S:Addr) (f:Value) (i n ep:Nat):Prop:=∃o,h.get? it=some o/\o.cls=.type "set_iterator"/\o.data=.fields #[f,.int i 0,.ref S,.int n 0,.int ep 0]
theorem SetIt.at {h h':Heap} {it S:Addr} {f:Value} {i n ep:Nat} (x:SetIt h it S f i n ep) (k:∀o,h.get? it=some o->h'.get? it=some o):SetIt h' it S f i n ep:=let ⟨o,a,b⟩:=x;⟨o,k o a,b⟩
section
variable {P:Program} {w:World} {A:Around} {E:Value->Shared->Prop} {s:Shared} {S it:Addr} {o:Obj} {es:Array (Int×Value)} {ep:Nat} {t:SetTable} {i n sl nx:Nat} {x:Value} {Q:Option Value->Shared->Prop}
theorem kL (hit:SetIt s.heap it S (.int sl 0) i n ep) (ho:s.heap.get? S=some o) (hd:o.data=.set es ep t) (hf:t.fits es.size=true) (hn:es.size=n)
  (hN:∀(A:Around) (E:Value->Shared->Prop) (R:Option (Value×Nat)->Shared->Prop),R (some (x,nx)) s->wpAny (model P w) A (setNext S sl i ep) R E s)
  (hQ:∀h',SetIt h' it S (.int nx 0) (i+1) n ep->Heap.SameBut it s.heap h'->Q (some x) { s with heap:=h' }):wpAny (model P w) A (pyNext (.ref it)) Q E s:=by
 obtain ⟨oi,gi,ci,di⟩:=hit;have ty:s.TypeIs (.ref it) "set_iterator":=⟨oi,gi,ci⟩
 unfold pyNext;refine wpAny_bind (wpAny_attempt (wpAny_callSpecial?_slot (name:=Str.ofString "__next__") ty slot_si_next (wpAny_call_entry slot_si_next ty DQ ?_ (DJ _))))
 unfold Builtin.«set_iterator.__next__»
 refine wpAny_bind (wpAny_pure ?_)
 refine wpAny_bind (wpAny_fieldsOf gi di ?_)
 dsimp only;refine wpAny_bind (wpAny_setEntries_of ho hd hf ?_)
 rw [if_neg (by rw [hn];simp)]
 simp only [Int.toNat_natCast]
 refine wpAny_bind (hN _ _ _ ?_)
 dsimp only;refine wpAny_bind (wpAny_setField gi di (by simp) ?_)
 have g1:=Heap.get?_update_self (Obj.mapFields (·.setIfInBounds 0 (rawInt nx))) gi (Obj.isFreed_of_fields (Obj.data_mapFields di _))
 have d1:=Obj.data_mapFields di (·.setIfInBounds 0 (rawInt nx))
 refine wpAny_bind (wpAny_setField g1 d1 (by simp) (wpAny_pure ⟨x,rfl,wpAny_pure (hQ _ ?_ ((Heap.SameBut.update ..).trans (Heap.SameBut.update ..)))⟩))
 refine ⟨_,Heap.get?_update_self _ g1 (Obj.isFreed_of_fields (Obj.data_mapFields d1 _)),(Obj.cls_mapFields ..).trans ((Obj.cls_mapFields ..).trans ci),?_⟩
 rw [Obj.data_mapFields d1];simp [rawInt]
theorem om (hh:A.handled=none) (hit:SetIt s.heap it S (.int sl 0) i n ep) (ho:s.heap.get? S=some o) (hd:o.data=.set es ep t) (hf:t.fits es.size=true) (hn:es.size=n)
  (hN:∀(A:Around) (E:Value->Shared->Prop) (R:Option (Value×Nat)->Shared->Prop),R none s->wpAny (model P w) A (setNext S sl i ep) R E s)
  (hQ:∀h',Heap.ExtBut it s.heap h'->Q none { s with heap:=h' }):wpAny (model P w) A (pyNext (.ref it)) Q E s:=by
 obtain ⟨oi,gi,ci,di⟩:=hit;have ty:s.TypeIs (.ref it) "set_iterator":=⟨oi,gi,ci⟩
 unfold pyNext;refine wpAny_bind (wpAny_attempt (wpAny_callSpecial?_slot (name:=Str.ofString "__next__") ty slot_si_next (wpAny_call_entry slot_si_next ty DQ ?_ (DJ _))))
 unfold Builtin.«set_iterator.__next__»
 refine wpAny_bind (wpAny_pure ?_)
 refine wpAny_bind (wpAny_fieldsOf gi di ?_)
 dsimp only;refine wpAny_bind (wpAny_setEntries_of ho hd hf ?_)
 rw [if_neg (by rw [hn];simp)]
 simp only [Int.toNat_natCast]
 refine wpAny_bind (hN _ _ _ ?_)
 dsimp only;refine wpAny_bind (wpAny_setField gi di (by simp) ?_)
 refine wpAny_bind ?_
 simp only [newExc,newTuple]
 refine wpAny_bind (wpAny_newObj_type ?_ (by size_fits))
 refine wpAny_bind (m:=firstArgMember _ _) (wpAny_of_eq (a:=Value.none) (by first | rfl | (simp only [firstArgMember];rfl)) ?_)
 refine wpAny_newObj_type ?_ (by size_fits)
 simp only [raiseNew]
 refine wpAny_bind (wpAny_handled ?_)
 rw [show A.in1.handled=none from hh];refine wpAny_bind (wpAny_pure (wpAny_throw ?_))
 refine wpAny_bind (wpAny_isInstance (T := "StopIteration") (b:=true) ⟨_,Heap.get?_push_size _ rfl,rfl⟩ isSubtype_stop ?_)
 exact wpAny_pure (hQ _ (((Heap.SameBut.update ..).extBut.push _).push _))
end
theorem dU:Slot "set_iterator" "__iter__" "set_iterator.__iter__":=
 .of (owner := "set_iterator") (n := "__iter__") (by rw [typeLookup_type,builtinLookup_eq_fast];kernel_rfl) (by decide +kernel) (by decide +kernel) (by decide +kernel) (by first | exact .inl (by decide +kernel) | exact .inr (by decide +kernel)) (by rw [isSubtype_type];kernel_rfl)
theorem ip:entryFor table "set_iterator.__iter__"=some Builtin.«dict_keyiterator.__iter__»:=entryFor_alias (id' := "dict_keyiterator.__iter__") (by kernel_rfl) (by first | rfl | decide +kernel) (by decide +kernel) (by kernel_rfl)
theorem jD (a:Value):argsOk "set_iterator.__iter__" ⟨[a],[]⟩:=by
 unfold argsOk;rw [signature?_of (id := "set_iterator.__iter__") (n:=['_','_','r','e','t','i','_','_']) (o:=['r','o','t','a','r','e','t','i','_','t','e','s']) (by kernel_rfl) (show Manifest.owners.lookup (String.ofList ['r','o','t','a','r','e','t','i','_','t','e','s'].reverse)=some Manifest.sig_set_iterator by kernel_rfl)]
 kernel_rfl
section
variable {P:Program} {w:World} {A:Around} {E:Value->Shared->Prop} {s:Shared} {S it:Addr} {o:Obj} {es:Array (Int×Value)} {ep:Nat} {t:SetTable} {i n:Nat} {f:Value}
theorem Fo {Q:Value->Shared->Prop} (hit:SetIt s.heap it S f i n ep) (h:Q (.ref it) s):wpAny (model P w) A (pyIter (.ref it)) Q E s:=by
 obtain ⟨oi,gi,ci,_⟩:=hit;have ty:s.TypeIs (.ref it) "set_iterator":=⟨oi,gi,ci⟩
 refine wpAny_pyIter_slot ty dU (wpAny_call_entry dU ty ip ?_ (jD _))
 show wpAny _ _ (ret (.ref it)) _ _ s
 exact wpAny_pure ⟨_,rfl, "set_iterator",_,ty,slot_si_next.lookup,h⟩
theorem uH (hh:A.handled=none) (ht:cD w=true) (hne:S≠it) (hd:o.data=.set es ep t) (hf:t.fits es.size=true) (hn:es.size=n) :
  Walks P w A it [it,S] [it] n (fun i v=>((pickOrder (w.params.setOrder S ep) es).toList.map (·.2))[i]?=some v) (fun i h=>SetIt h it S (.int 0 0) i n ep/\h.get? S=some o) where
 sub:=fun b hb=>by simp at hb;simp [hb]
 frame:=fun _ _ _ st hk=>⟨st.1.at fun o e=>hk it (by simp) o e,hk S (by simp) o st.2⟩
 item:=fun i s Q E hi st hQ=>by
  have hl:(pickOrder (w.params.setOrder S ep) es).size=n:=by rw [<-Array.length_toList,(FE _ es).length_eq,Array.length_toList,hn]
  have hi':i<(pickOrder (w.params.setOrder S ep) es).size:=by rw [hl];exact hi
  refine kL (x:=((pickOrder (w.params.setOrder S ep) es)[i]).2) (nx:=0) st.1 st.2 hd hf hn (fun A E R h=>nO ht st.2 hd hf (by rw [Array.getElem?_eq_getElem hi'];exact h)) fun h' it' sb=>?_
  exact hQ _ h' s.toks (by rw [getElem?_map,Array.getElem?_toList,Array.getElem?_eq_getElem hi'];rfl) ⟨it',sb.extBut S o hne st.2⟩ fun b o hb e=>sb.extBut b o (fun z=>hb (by simp [z])) e
 done:=fun s Q E st hQ=>by
  have hl:(pickOrder (w.params.setOrder S ep) es).size=n:=by rw [<-Array.length_toList,(FE _ es).length_eq,Array.length_toList,hn]
  exact om hh st.1 st.2 hd hf hn (fun A E R h=>nO ht st.2 hd hf (by rw [Array.getElem?_eq_none (by omega)];exact h)) fun h' eb=>hQ h' s.toks fun b o hb e=>eb b o (fun z=>hb (by simp [z])) e
 self:=fun _ _ _ _ st hQ=>Fo st.1 hQ
abbrev oX (t:SetTable) (i:Nat):Nat:=if i=0 then 0 else t.place.getD (i-1) 0+1
theorem jX (tb:Tb (cD w) t) (hf:t.fits es.size=true) (hi:i<=es.size):SetTable.below t.place (oX t i)=i:=by
 have hs:=iU hf
 unfold oX;by_cases c:i=0
 ·rw [if_pos c,c]
  exact m7
 ·rw [if_neg c,ye (by omega),m8 tb.rs (by omega)]
  omega
theorem uI (hh:A.handled=none) (ht:cD w=false) (tb:Tb (cD w) t) (hp:(!t.plain&&decide (es.size>1))=false) (hne:S≠it) (hd:o.data=.set es ep t) (hf:t.fits es.size=true) (hn:es.size=n) :
  Walks P w A it [it,S] [it] n (fun i v=>(es.toList.map (·.2))[i]?=some v) (fun i h=>SetIt h it S (.int (oX t i) 0) i n ep/\h.get? S=some o) where
 sub:=fun b hb=>by simp at hb;simp [hb]
 frame:=fun _ _ _ st hk=>⟨st.1.at fun o e=>hk it (by simp) o e,hk S (by simp) o st.2⟩
 item:=fun i s Q E hi st hQ=>by
  have hs:=iU hf
  have hi':i<es.size:=by omega
  have hi2:i<t.place.size:=by omega
  refine kL (x:=(es[i]).2) (nx:=oX t (i+1)) st.1 st.2 hd hf hn (fun A E R h=>nP ht tb hp st.2 hd hf ?_) fun h' it' sb=>?_
  ·rw [jX tb hf (by omega),Array.getElem?_eq_getElem hi',Array.getElem?_eq_getElem hi2]
   have e:oX t (i+1)=t.place[i]+1:=by
    unfold oX;rw [if_neg (by omega),Nat.add_sub_cancel,ye hi2]
   rw [e] at h;exact h
  ·exact hQ _ h' s.toks (by rw [getElem?_map,Array.getElem?_toList,Array.getElem?_eq_getElem hi'];rfl) ⟨it',sb.extBut S o hne st.2⟩ fun b o hb e=>sb.extBut b o (fun z=>hb (by simp [z])) e
 done:=fun s Q E st hQ=>by
  refine om hh st.1 st.2 hd hf hn (fun A E R h=>nP ht tb hp st.2 hd hf ?_) fun h' eb=>hQ h' s.toks fun b o hb e=>eb b o (fun z=>hb (by simp [z])) e
  rw [jX tb hf (by omega),Array.getElem?_eq_none (by omega)]
  exact h
 self:=fun _ _ _ _ st hQ=>Fo st.1 hQ
theorem m9 {src:Source} {n:Nat} {Q:Nat->Shared->Prop} {M:Model} (hn:n≠0) (h:Q (M.w.draws src (s.drawn.get src) % n) { s with drawn:=s.drawn.bump src }):wpAny M A (choose src n) Q E s:=fun _ _ _=>⟨hn,h⟩
theorem pX {α:Type} {M:Model} (n:Nat):∀(l:List α) (s:Shared) {Q:List α->Shared->Prop},l.length=n->(∀l' d,l'.Perm l->Q l' { s with drawn:=d })->wpAny M A (drawOrder n l) Q E s:=by
 induction n with
 | zero=>
  intro l s Q hl h;rw [List.length_eq_zero_iff.mp hl] at h ⊢;have:=h [] s.drawn (List.Perm.refl _)
  have e:s={ s with drawn:=s.drawn }:=by cases s;rfl
  unfold drawOrder;rw [e];exact wpAny_pure this
 | succ n ih=>
  intro l s Q hl h
  cases l with
  | nil=>cases hl
  | cons a l=>
   unfold drawOrder;refine wpAny_bind (m9 (by simp) ?_)
   have lt:M.w.draws Source.order (s.drawn.get Source.order) % (a::l).length<(a::l).length:=Nat.mod_lt _ (by simp)
   generalize M.w.draws Source.order (s.drawn.get Source.order) % (a::l).length=j at lt
   rw [getElem?_eq_getElem lt];dsimp only;refine wpAny_bind (ih _ _ (by rw [List.length_eraseIdx_of_lt lt];omega) fun l' d pm=>wpAny_pure (h _ d ?_))
   refine (List.Perm.cons _ pm).trans ?_
   rw [List.eraseIdx_eq_take_drop_succ];have e:(a::l)=(a::l).take j++(a::l)[j]::(a::l).drop (j+1):=by rw [List.getElem_cons_drop,List.take_append_drop]
   conv=>rhs;rw [e]
   exact List.perm_middle.symm
end
section
variable {P:Program} {w:World} {A:Around} {E:Value->Shared->Prop} {s:Shared} {S it T:Addr} {o oT:Obj} {es:Array (Int×Value)} {ep c:Nat} {t:SetTable} {i n:Nat} {x:Value} {pl:List Nat} {Q:Option Value->Shared->Prop}
abbrev qw (pl:List Nat):Array Value:=(pl.map fun (i:Nat)=>rawInt i).toArray
theorem vU (hit:SetIt s.heap it S (.ref T) i n ep) (ho:s.heap.get? S=some o) (hd:o.data=.set es ep t) (hf:t.fits es.size=true) (hn:es.size=n) (hT:s.heap.get? T=some oT) (dT:oT.data=.seq (qw pl) c)
  {p:Nat} {e:Int×Value} (hp:pl[i]?=some p) (he:es[p]?=some e)
  (hQ:∀h',SetIt h' it S (.ref T) (i+1) n ep->Heap.SameBut it s.heap h'->Q (some e.2) { s with heap:=h' }):wpAny (model P w) A (pyNext (.ref it)) Q E s:=by
 obtain ⟨oi,gi,ci,di⟩:=hit;have ty:s.TypeIs (.ref it) "set_iterator":=⟨oi,gi,ci⟩
 unfold pyNext;refine wpAny_bind (wpAny_attempt (wpAny_callSpecial?_slot (name:=Str.ofString "__next__") ty slot_si_next (wpAny_call_entry slot_si_next ty DQ ?_ (DJ _))))
 unfold Builtin.«set_iterator.__next__»
 refine wpAny_bind (wpAny_pure ?_)
 refine wpAny_bind (wpAny_fieldsOf gi di ?_)
 dsimp only;refine wpAny_bind (wpAny_setEntries_of ho hd hf ?_)
 rw [if_neg (by rw [hn];simp)]
 refine wpAny_bind (wpAny_seqItems hT dT ?_)
 have e1:(qw pl)[Int.toNat (i:Int)]?=some (rawInt p):=by
  rw [Int.toNat_natCast,getElem?_toArray,getElem?_map,hp];rfl
 dsimp only;rw [e1];simp only [rawInt,Int.toNat_natCast]
 refine wpAny_bind ?_
 unfold setNextDrawn;refine wpAny_bind (wpAny_setState_of ho hd hf ?_)
 dsimp only;simp only [bne_self_eq_false,Bool.false_eq_true,if_false]
 rw [he];refine wpAny_pure ?_
 refine wpAny_bind (wpAny_setField gi di (by simp) (wpAny_pure ⟨e.2,rfl,wpAny_pure (hQ _ ?_ (Heap.SameBut.update ..))⟩))
 refine ⟨_,Heap.get?_update_self _ gi (Obj.isFreed_of_fields (Obj.data_mapFields di _)),(Obj.cls_mapFields ..).trans ci,?_⟩
 rw [Obj.data_mapFields di];simp [rawInt]
theorem zX (hh:A.handled=none) (hit:SetIt s.heap it S (.ref T) i n ep) (ho:s.heap.get? S=some o) (hd:o.data=.set es ep t) (hf:t.fits es.size=true) (hn:es.size=n) (hT:s.heap.get? T=some oT) (dT:oT.data=.seq (qw pl) c)
  (hp:pl[i]?=none) (hQ:∀h',Heap.ExtBut it s.heap h'->Q none { s with heap:=h' }):wpAny (model P w) A (pyNext (.ref it)) Q E s:=by
 obtain ⟨oi,gi,ci,di⟩:=hit;have ty:s.TypeIs (.ref it) "set_iterator":=⟨oi,gi,ci⟩
 unfold pyNext;refine wpAny_bind (wpAny_attempt (wpAny_callSpecial?_slot (name:=Str.ofString "__next__") ty slot_si_next (wpAny_call_entry slot_si_next ty DQ ?_ (DJ _))))
 unfold Builtin.«set_iterator.__next__»
 refine wpAny_bind (wpAny_pure ?_)
 refine wpAny_bind (wpAny_fieldsOf gi di ?_)
 dsimp only;refine wpAny_bind (wpAny_setEntries_of ho hd hf ?_)
 rw [if_neg (by rw [hn];simp)]
 refine wpAny_bind (wpAny_seqItems hT dT ?_)
 have e1:(qw pl)[Int.toNat (i:Int)]?=none:=by
  rw [Int.toNat_natCast,getElem?_toArray,getElem?_map,hp];rfl
 dsimp only;rw [e1];dsimp only;refine wpAny_bind (wpAny_setField gi di (by simp) ?_)
 have g1:=Heap.get?_update_self (Obj.mapFields (·.setIfInBounds 0 (rawInt 0))) gi (Obj.isFreed_of_fields (Obj.data_mapFields di _))
 have d1:=Obj.data_mapFields di (·.setIfInBounds 0 (rawInt 0))
 refine wpAny_bind (wpAny_setField g1 d1 (by simp) ?_)
 refine wpAny_bind ?_
 simp only [newExc,newTuple]
 refine wpAny_bind (wpAny_newObj_type ?_ (by size_fits))
 refine wpAny_bind (m:=firstArgMember _ _) (wpAny_of_eq (a:=Value.none) (by first | rfl | (simp only [firstArgMember];rfl)) ?_)
 refine wpAny_newObj_type ?_ (by size_fits)
 simp only [raiseNew]
 refine wpAny_bind (wpAny_handled ?_)
 rw [show A.in1.handled=none from hh];refine wpAny_bind (wpAny_pure (wpAny_throw ?_))
 refine wpAny_bind (wpAny_isInstance (T := "StopIteration") (b:=true) ⟨_,Heap.get?_push_size _ rfl,rfl⟩ isSubtype_stop ?_)
 exact wpAny_pure (hQ _ ((((Heap.SameBut.update ..).trans (Heap.SameBut.update ..)).extBut.push _).push _))
theorem uJ (hh:A.handled=none) (hne:S≠it) (hneT:T≠it) (hd:o.data=.set es ep t) (hf:t.fits es.size=true) (hn:es.size=n) (dT:oT.data=.seq (qw pl) c) (hl:pl.length=n) (hm:∀p∈pl,p<n) :
  Walks P w A it [it,S,T] [it] n (fun i v=>(pl.map fun p=>(es.getD p (0,.none)).2)[i]?=some v) (fun i h=>SetIt h it S (.ref T) i n ep/\h.get? S=some o/\h.get? T=some oT) where
 sub:=fun b hb=>by simp at hb;simp [hb]
 frame:=fun _ _ _ st hk=>⟨st.1.at fun o e=>hk it (by simp) o e,hk S (by simp) o st.2.1,hk T (by simp) oT st.2.2⟩
 item:=fun i s Q E hi st hQ=>by
  have hi':i<pl.length:=by omega
  have hp:pl[i]<es.size:=by
   rw [hn];exact hm _ (getElem_mem hi')
  refine vU st.1 st.2.1 hd hf hn st.2.2 dT (getElem?_eq_getElem hi') (Array.getElem?_eq_getElem hp) fun h' it' sb=>?_
  refine hQ _ h' s.toks ?_ ⟨it',sb.extBut S o hne st.2.1,sb.extBut T oT hneT st.2.2⟩ fun b o hb e=>sb.extBut b o (fun z=>hb (by simp [z])) e
  rw [getElem?_map,getElem?_eq_getElem hi'];simp [Array.getD,hp]
 done:=fun s Q E st hQ=>zX hh st.1 st.2.1 hd hf hn st.2.2 dT (getElem?_eq_none (by omega)) fun h' eb=>hQ h' s.toks fun b o hb e=>eb b o (fun z=>hb (by simp [z])) e
 self:=fun _ _ _ _ st hQ=>Fo st.1 hQ
end
section
variable {P:Program} {w:World} {A:Around} {E:Value->Shared->Prop} {s:Shared} {S:Addr} {o:Obj} {es:Array (Int×Value)} {ep:Nat} {t:SetTable} {Q:Value->Shared->Prop}
theorem gC (es:Array (Int×Value)):(List.range es.size).map (fun p=>(es.getD p (0,.none)).2)=es.toList.map (·.2):=by
 apply ext_getElem
 ·simp
 ·intro i h1 h2
  have hi:i<es.size:=by simpa using h1
  simp [Array.getD,hi]
theorem sU (hh:A.handled=none) (ho:s.heap.get? S=some o) (hc:o.cls=.type "set") (hd:o.data=.set es ep t) (hf:t.fits es.size=true) (hb:es.size<scanBound) (tb:Tb (cD w) t)
  (h:∀(h':Heap) (dr:Drawn) (it:Addr) (fp:List Addr) (us:List Value) (St:Nat->Heap->Prop),(∀b o,s.heap.get? b=some o->h'.get? b=some o)->us.Perm (es.toList.map (·.2))->s.heap.objs.size<=it->(∀b∈fp,b<h'.objs.size/\(b=S\/s.heap.objs.size<=b)) ->
   Walks P w A it fp [it] es.size (fun i v=>us[i]?=some v) St->St 0 h'->Q (.ref it) { s with heap:=h',drawn:=dr }) :
  wpAny (model P w) A (pyIter (.ref S)) Q E s:=by
 have ty:s.TypeIs (.ref S) "set":=⟨o,ho,hc⟩
 have lS:S<s.heap.objs.size:=Heap.lt_size ho
 refine wpAny_pyIter_slot ty F.slot_set_iter (wpAny_call_entry F.slot_set_iter ty jt ?_ (F.args_set_iter_1 _))
 unfold Builtin.«frozenset.__iter__»
 refine wpAny_bind (wpAny_pure ?_)
 refine wpAny_bind ?_
 unfold Builtin.Frozenset.sizeOf;refine wpAny_bind (wpAny_setEntries_of ho hd hf (wpAny_pure ?_))
 have hsz:es.size<=sizeLine:=Nat.le_of_lt (Nat.lt_of_lt_of_le hb (by decide))
 have fin:∀(first:Value) (s':Shared) (h1:s'.heap.get? S=some o),Q (.ref s'.heap.objs.size) { s' with heap:=s'.heap.push { cls:=.type "set_iterator",data:=.fields #[first,.int 0 0,.ref S,.int es.size 0,.int ep 0] } } ->
   wpAny (model P w) A.in1 (do
    let e <-setEpoch S
    let r <-newFields "set_iterator" [first,rawInt 0,Value.ref S,rawInt ↑es.size,rawInt ↑e]
    ret r) (fun fin s'=>∃v,fin=Fin.done (Flow.ret v)/\∃T' r,s'.TypeIs v T'/\typeLookup (Value.type T') (Str.ofString "__next__")=pure (some r)/\Q v s') E s':=by
  intro first s' h1 q
  refine wpAny_bind ?_
  unfold setEpoch;refine wpAny_bind (wpAny_setState_of h1 hd hf (wpAny_pure ?_))
  refine wpAny_bind ?_
  unfold newFields;refine wpAny_newObj_type (wpAny_pure ⟨_,rfl, "set_iterator",_,⟨_,Heap.get?_push_size _ rfl,rfl⟩,slot_si_next.lookup,?_⟩) (by size_fits)
  exact q
 refine wpAny_bind ?_
 unfold setDrawn;refine wpAny_bind (wpAny_setState_of ho hd hf ?_)
 dsimp only;refine wpAny_bind ?_
 unfold setsByText;refine wpAny_bind (wpAny_askSetting (wpAny_pure ?_))
 refine wpAny_pure ?_
 show wpAny (model P w) A.in1 (if (!cD w&&(!t.plain&&decide (es.size>1)))=true then _ else _) _ E s
 by_cases hdr:(!cD w&&(!t.plain&&decide (es.size>1)))=true
 ·rw [if_pos hdr]
  refine wpAny_bind (pX es.size (List.range es.size) s (by simp) fun pl dr pm=>?_)
  have hl:pl.length=es.size:=by rw [pm.length_eq,length_range]
  refine wpAny_bind (wpAny_newTuple ?_ (by rw [length_map,hl];exact hsz))
  refine fin _ _ (Heap.get?_push_of_some _ ho) ?_
  have gT:(s.heap.push { cls:=.type "tuple",data:=.seq (qw pl) }).get? s.heap.objs.size=some { cls:=.type "tuple",data:=.seq (qw pl) }:=Heap.get?_push_size _ rfl
  have eI:(s.heap.push { cls:=.type "tuple",data:=.seq (qw pl) }).objs.size=s.heap.objs.size+1:=Heap.size_push ..
  have gI:=Heap.get?_push_size (o:={ cls:=.type "set_iterator",data:=.fields #[.ref s.heap.objs.size,.int 0 0,.ref S,.int es.size 0,.int ep 0] }) (s.heap.push { cls:=.type "tuple",data:=.seq (qw pl) }) rfl
  have W:=uJ (P:=P) (w:=w) (A:=A) (it:=(s.heap.push { cls:=.type "tuple",data:=.seq (qw pl) }).objs.size) (S:=S) (T:=s.heap.objs.size) (o:=o) (t:=t) (ep:=ep) (pl:=pl) (c:=0) hh (by rw [eI];exact Nat.ne_of_lt (Nat.lt_succ_of_lt lS)) (by rw [eI];exact Nat.ne_of_lt (Nat.lt_succ_self _)) hd hf rfl (oT:={ cls:=.type "tuple",data:=.seq (qw pl) }) rfl hl fun p hp=>by simpa using pm.mem_iff.mp hp
  refine h _ dr _ [(s.heap.push { cls:=.type "tuple",data:=.seq (qw pl) }).objs.size,S,s.heap.objs.size] (pl.map fun p=>(es.getD p (0,.none)).2) _ (fun b o e=>Heap.get?_push_of_some _ (Heap.get?_push_of_some _ e)) ?_ ?_ ?_ W ⟨⟨_,gI,rfl,rfl⟩,Heap.get?_push_of_some _ (Heap.get?_push_of_some _ ho),Heap.get?_push_of_some _ gT⟩
  ·rw [<-gC]
   exact pm.map _
  ·show s.heap.objs.size<=(s.heap.push _).objs.size
   rw [Heap.size_push];omega
  ·intro b hb
   show b<((s.heap.push _).push _).objs.size/\_
   rw [Heap.size_push,Heap.size_push];simp only [mem_cons,not_mem_nil,or_false] at hb
   rcases hb with rfl | rfl | rfl
   ·exact ⟨by rw [eI];exact Nat.lt_succ_self _,.inr (by rw [eI];exact Nat.le_succ _)⟩
   ·exact ⟨Nat.lt_succ_of_lt (Nat.lt_succ_of_lt lS),.inl rfl⟩
   ·exact ⟨Nat.lt_succ_of_lt (Nat.lt_succ_self _),.inr (Nat.le_refl _)⟩
 ·rw [if_neg hdr]
  refine wpAny_bind (wpAny_pure ?_)
  refine fin _ _ ho ?_
  have kp:∀b o,s.heap.get? b=some o->(s.heap.push { cls:=.type "set_iterator",data:=.fields #[.int 0 0,.int 0 0,.ref S,.int es.size 0,.int ep 0] }).get? b=some o:=fun b o e=>Heap.get?_push_of_some _ e
  have fpl:∀b∈[s.heap.objs.size,S],b<(s.heap.push { cls:=.type "set_iterator",data:=.fields #[.int 0 0,.int 0 0,.ref S,.int es.size 0,.int ep 0] }).objs.size/\(b=S\/s.heap.objs.size<=b):=by
   intro b hb;rw [Heap.size_push];simp only [mem_cons,not_mem_nil,or_false] at hb
   rcases hb with rfl | rfl
   ·exact ⟨Nat.lt_succ_self _,.inr (Nat.le_refl _)⟩
   ·exact ⟨Nat.lt_succ_of_lt lS,.inl rfl⟩
  have si:SetIt (s.heap.push { cls:=.type "set_iterator",data:=.fields #[.int 0 0,.int 0 0,.ref S,.int es.size 0,.int ep 0] }) s.heap.objs.size S (.int 0 0) 0 es.size ep:=⟨_,Heap.get?_push_size _ rfl,rfl,rfl⟩
  by_cases ht:cD w=true
  ·exact h _ s.drawn _ [s.heap.objs.size,S] _ _ kp ((FE (w.params.setOrder S ep) es).map _) (Nat.le_refl _) fpl (uH (o:=o) hh ht (Nat.ne_of_lt lS) hd hf rfl) ⟨si,kp S o ho⟩
  ·have ht':cD w=false:=by simpa using ht
   rw [ht'] at hdr;have hp:(!t.plain&&decide (es.size>1))=false:=by simpa using hdr
   exact h _ s.drawn _ [s.heap.objs.size,S] _ _ kp (List.Perm.refl _) (Nat.le_refl _) fpl (uI (o:=o) hh ht' tb hp (Nat.ne_of_lt lS) hd hf rfl) ⟨si,kp S o ho⟩
end
section
variable {P:Program} {w:World} {A:Around} {E:Value->Shared->Prop} {s:Shared} {r:Addr}
theorem sZ {Q:Bool->Shared->Prop} (hT:s.TypeIs (.ref r) "set") (h:Q false s):wpAny (model P w) A (Builtin.List.listLengthHint (.ref r)) Q E s:=by
 unfold Builtin.List.listLengthHint;refine wpAny_bind (wpAny_specialOf hT PySem.F.slot_set_len.lookup ?_)
 generalize bA:("set.__len__":String)=id0
 wp_delta
 rw [show splitId id0=some ("set", "__len__") from by subst bA;decide +kernel]
 subst bA;refine wpAny_bind (wpAny_isInstance (T := "set") (b:=true) hT (by rw [isSubtype_type];kernel_rfl) ?_)
 refine wpAny_ite_split (fun hab=>absurd hab (by decide)) (fun _=>?_)
 refine wpAny_ite_split (fun _=>?_) (fun hab=>absurd (by decide +kernel) hab)
 refine wpAny_bind (wpAny_typeOf hT ?_)
 exact wpAny_pure h
variable {o:Obj} {es:Array (Int×Value)} {ep:Nat} {t:SetTable}
theorem wt {R:Result->Shared->Prop} (hh:A.handled=none) (ho:s.heap.get? r=some o) (hc:o.cls=.type "set") (hd:o.data=.set es ep t) (hf:t.fits es.size=true) (hb:es.size<scanBound) (tb:Tb (cD w) t) (S:Addr) (hSr:S≠r) (res:Value) (hS:s.heap.get? S=some { cls:=.type "list",data:=.seq #[] 0 })
  (hR:∀h' tk dr acc' c',(∀b o,b≠S->s.heap.get? b=some o->h'.get? b=some o)->h'.get? S=some { cls:=.type "list",dict:=none,data:=.seq acc' c',slots:=#[] }->acc'.toList.Perm (es.toList.map (·.2))->R (.ok (.ret res)) { s with heap:=h',toks:=tk,drawn:=dr }) :
  wpAny (model P w) A.in1 (Builtin.List.listExtendWith (.ref S) (.ref r) res)
   (fun fin s'=>match fin with | .done f=>R (.ok f) s' | .again c'=>c'.quiet=true/\codeAny (model P w) A c' R s') (fun e s'=>R (.error e) s') s:=by
 have lS:=Heap.lt_size hS
 have hsz:es.size<=sizeLine:=Nat.le_of_lt (Nat.lt_of_lt_of_le hb (by decide))
 unfold Builtin.List.listExtendWith;refine wpAny_bind (wpAny_typeOf (T := "set") ⟨o,ho,hc⟩ ?_)
 have h1:Builtin.List.listSameRef (.ref S) (.ref r)=false:=by simp [Builtin.List.listSameRef,hSr]
 have n1:(Value.type "set"==Value.type "list")=false:=by decide
 have n2:(Value.type "set"==Value.type "tuple")=false:=by decide
 simp only [h1,n1,n2,Bool.or_false,Bool.false_eq_true,if_false]
 refine wpAny_bind (sU hh ho hc hd hf hb tb fun h' dr it fp us St kp pm lI hfp W st=>?_)
 have hSf:S∉fp:=fun hm=>by
  rcases (hfp S hm).2 with e | e
  ·exact hSr e
  ·exact absurd lS (Nat.not_lt_of_le e)
 have hS₁:=kp S _ hS
 have key:∀(h2:Heap) (c₁:Nat),St 0 h2->(∀b o,b≠S->s.heap.get? b=some o->h2.get? b=some o) ->
   h2.get? S=some { cls:=.type "list",data:=.seq #[] c₁ }->codeAny (model P w) A (.builtin "list.extend.loop" ⟨[.ref S,.ref it,res],[]⟩) R { s with heap:=h2,drawn:=dr }:=by
  intro h2 c₁ hst hk hS₁;refine codeAny_extend_loopS W.toS hsz S hSf res es.size 0 _ #[] c₁ rfl (Nat.zero_le _) hst hS₁ (ItemsOf.nil _) fun s' acc' c' hm hS' hacc=>?_
  have e:acc'.toList=us:=by
   apply ext_getElem?
   intro i;have lu:us.length=es.size:=by rw [pm.length_eq,length_map,Array.length_toList]
   by_cases hi:i<acc'.size
   ·have:=hacc.2 i acc'[i] (Array.getElem?_eq_getElem hi)
    rw [Array.getElem?_toList,Array.getElem?_eq_getElem hi,this]
   ·rw [Array.getElem?_toList,Array.getElem?_eq_none (by omega),getElem?_eq_none (by have:=hacc.1;omega)]
  rw [Moved.eq_with hm];refine hR s'.heap s'.toks dr acc' c' (fun b o hb e=>hm.heap b o (fun hmem=>?_) (hk b o hb e)) hS' (by rw [e];exact pm)
  rcases List.mem_cons.mp hmem with e' | hmem
  ·exact hb e'
  ·exact absurd (Heap.lt_size e) (by rw [List.mem_singleton.mp hmem];exact Nat.not_lt_of_le lI)
 refine wpAny_bind (wpAny_holding (sZ (r:=r) ⟨o,kp r o ho,hc⟩ ?_))
 refine wpAny_ite_split (fun _=>?_) (fun _=>wpAny_pure ⟨plainId_quiet PySem.F.plain_extend_loop _,key _ 0 st (fun b o _ e=>kp b o e) hS₁⟩)
 refine wpAny_bind (wpAny_rule ?_)
 refine wpAny_bind ?_
 show wpAny _ _ (updateSeq S (·.push .none) >>= fun _=>updateSeq S (·.pop)) _ _ _
 refine wpAny_bind (wpAny_updateSeq hS₁ rfl ?_)
 have hS₂:=Heap.get?_update_self (Obj.mapSeq (·.push Value.none)) hS₁ rfl
 refine wpAny_updateSeq (hz:=by seq_fits) hS₂ rfl ?_
 have hS₃:=Heap.get?_update_self (Obj.mapSeq (·.pop)) hS₂ rfl
 refine wpAny_pure ⟨plainId_quiet PySem.F.plain_extend_loop _,key _ _ ?_ (fun b o hb e=>?_) hS₃⟩
 ·refine W.frame 0 _ _ st fun b hb o e=>?_
  have hbS:b≠S:=fun h=>hSf (h▸hb)
  exact (Heap.get?_update_other _ _ (Ne.symm hbS)).trans ((Heap.get?_update_other _ _ (Ne.symm hbS)).trans e)
 ·exact (Heap.get?_update_other _ _ (Ne.symm hb)).trans ((Heap.get?_update_other _ _ (Ne.symm hb)).trans (kp b o e))
theorem lD {R:List Value->Shared->Prop} (hh:A.handled=none) (ho:s.heap.get? r=some o) (hc:o.cls=.type "set") (hd:o.data=.set es ep t) (hf:t.fits es.size=true) (hb:es.size<scanBound) (tb:Tb (cD w) t)
  (h:∀(h':Heap) (tk:Nat) (dr:Drawn) (us:List Value),(∀b o,s.heap.get? b=some o->h'.get? b=some o)->us.Perm (es.toList.map (·.2))->R us { s with heap:=h',toks:=tk,drawn:=dr }) :
  wpAny (model P w) A (collect (.ref r)) R E s:=by
 have lr:=Heap.lt_size ho
 unfold collect;refine wpAny_bind (wpAny_runValue (codeAny_builtin entry_proto_collect' ?_))
 rw [Around.under_plainId PySem.F.plain_proto_collect _];show wpAny _ A.in1 (newList [] >>= fun l=>again (.builtin "list.__iadd__" ⟨[l,.ref r],[]⟩)) _ _ s
 refine wpAny_bind (wpAny_newObj_type ?_)
 refine wpAny_pure ⟨plainId_quiet PySem.F.plain_list_iadd _,codeAny_builtin entry_list_iadd' ?_⟩
 rw [Around.under_plainId PySem.F.plain_list_iadd _];have hS₁:(s.heap.push { cls:=.type "list",data:=.seq ([]:List Value).toArray }).get? s.heap.objs.size=some { cls:=.type "list",data:=.seq #[] }:=Heap.get?_push_size _ rfl
 show wpAny _ A.in1 (Builtin.List.listExtendWith (.ref s.heap.objs.size) (.ref r) (.ref s.heap.objs.size)) _ _ _
 have key:=wt (P:=P) (w:=w) (A:=A) (s:={ s with heap:=s.heap.push { cls:=.type "list",data:=.seq ([]:List Value).toArray } })
  (R:=fun (q:Result) (s':Shared)=>∃(h':Heap) (tk:Nat) (dr:Drawn) (acc':Array Value) (c':Nat),q=.ok (.ret (.ref s.heap.objs.size))/\s'={ s with heap:=h',toks:=tk,drawn:=dr } /\
   (∀b o,s.heap.get? b=some o->h'.get? b=some o)/\h'.get? s.heap.objs.size=some { cls:=.type "list",dict:=none,data:=.seq acc' c',slots:=#[] }/\acc'.toList.Perm (es.toList.map (·.2)))
  hh (Heap.get?_push_of_some _ ho) hc hd hf hb tb s.heap.objs.size (Nat.ne_of_gt lr) (.ref s.heap.objs.size) hS₁
  (fun h' tk dr acc' c' hk hS' hacc=>⟨h',tk,dr,acc',c',rfl,rfl,fun b o e=>hk b o (Nat.ne_of_lt (Heap.lt_size e)) (Heap.get?_push_of_some _ e),hS',hacc⟩)
 refine wpAny_mono key (fun fin s' x=>?_) fun e s' x=>?_
 ·cases fin with
  | done f=>
   obtain ⟨h',tk,dr,acc',c',e,rfl,hk,hS',hacc⟩:=x
   cases e;show wpAny _ A (load s.heap.objs.size >>= _) _ _ _
   refine wpAny_bind (wpAny_load hS' ?_)
   exact wpAny_pure (h h' tk dr acc'.toList hk hacc)
  | again c₁=>
   refine ⟨x.1,codeAny_mono x.2 fun q s₂ y=>?_⟩
   obtain ⟨h',tk,dr,acc',c',rfl,rfl,hk,hS',hacc⟩:=y;show wpAny _ A (load s.heap.objs.size >>= _) _ _ _
   refine wpAny_bind (wpAny_load hS' ?_)
   exact wpAny_pure (h h' tk dr acc'.toList hk hacc)
 ·obtain ⟨_,_,_,_,_,e',_⟩:=x
  cases e'
end
def eO (ns:List Int):List Int:=firstMet (fun i=>ns.getD i 0) ns.length
theorem fh:∀(l m:List Int),l.Nodup->(∀x∈l,x∈m)->m.length=l.length->m.Perm l
 | [],m,_,_,h=>by rw [List.length_eq_zero_iff.mp h]
 | a::l,m,nd,hm,h=>by
  have ha:a∈m:=hm a mem_cons_self
  obtain ⟨na,nl⟩:=List.nodup_cons.mp nd;have ih:=fh l (m.erase a) nl (fun x hx=>(List.mem_erase_of_ne (fun e:x=a=>na (e▸hx))).mpr (hm x (mem_cons_of_mem _ hx))) (by rw [List.length_erase_of_mem ha,h,length_cons];omega)
  exact (List.perm_cons_erase ha).trans (ih.cons a)
theorem FD (val:Nat->Int):∀i,(firstMet val i).Nodup
 | 0=>nodup_nil
 | i+1=>by
  rw [firstMet_succ];unfold step_dedup;split
  ·exact FD val i
  ·rename_i h
   rw [List.nodup_append];refine ⟨FD val i,by simp,fun a ha b hb e=>h ?_⟩
   rw [List.mem_singleton] at hb;subst hb e;simpa using ha
theorem FJ (ns:List Int):(eO ns).Nodup:=FD _ _
theorem ddp_mem {ns:List Int} {k:Int}:k∈eO ns↔k∈ns:=by
 have:=firstMet_any (fun i=>ns.getD i 0) ns.length k
 have e:(List.range ns.length).map (fun i=>ns.getD i 0)=ns:=by
  apply ext_getElem
  ·simp
  ·intro i h1 h2
   simp [List.getD,h2]
 rw [e] at this;unfold eO;rw [<-any_eq_true (p:=(·==k)) |>.trans ⟨fun ⟨x,h,e⟩=>by rwa [<-eq_of_beq e],fun h=>⟨k,h,by simp⟩⟩,this]
 exact List.any_eq_true.trans ⟨fun ⟨x,h,e⟩=>by rwa [<-eq_of_beq e],fun h=>⟨k,h,by simp⟩⟩
theorem iS {P:Program} {w:World}:∀(us:List Value),(∀u∈us,∃k,(intKind P w).is k u=true)->∃ns,IntsAre us ns
 | [],_=>⟨[],.nil⟩
 | u::us,h=>by
  obtain ⟨k,e⟩:=h u mem_cons_self;obtain ⟨t,rfl⟩:=Value.isInt_shape e;obtain ⟨ns,x⟩:=iS us fun v hv=>h v (mem_cons_of_mem _ hv)
  exact ⟨_,.cons _ _ x⟩
theorem kM {P:Program} {w:World} {k:Int}:∀{us:List Value} {ns:List Int},IntsAre us ns->(∃u∈us,(intKind P w).is k u=true)->k∈ns
 | _,_,.nil,⟨u,hu,_⟩=>by cases hu
 | _,_,.cons i t x,⟨u,hu,e⟩=>by
  rcases List.mem_cons.mp hu with rfl | hu
  ·obtain ⟨t',e'⟩:=Value.isInt_shape (show Value.isInt k (Value.int i t)=true from e)
   cases e'
   exact mem_cons_self
  ·exact mem_cons_of_mem _ (kM x ⟨u,hu,e⟩)
theorem kN:∀{us:List Value} {ns:List Int},IntsAre us ns->us.length=ns.length
 | _,_,.nil=>rfl
 | _,_,.cons _ _ x=>by rw [length_cons,length_cons,kN x]
theorem L2Inv.drawn {X:Cx} {pins:List (Addr×Obj)} {σ:List (Option V)} {H:Hp} {s:Shared} (I:L2.Inv X pins σ H s) (d:Drawn):L2.Inv X pins σ H { s with drawn:=d }:=
 ⟨I.ok,I.os,I.bare,I.base,I.loc,I.cell,I.free,I.freeC,I.pin,I.hok,I.len⟩
theorem C2:bootBuiltins "set"=some (.type "set"):=by decide +kernel
def Ib (K:Fg) (ta:TA):TE:=fun σ H Q=>ta σ H fun vs H1=>∃(p:Addr) (ns:List Int),vs=[.ref p]/\SqL K H1 p (ns.map V.int)/\ns.length<4000/\(eO ns).length<64/\∀l,H1 l=none->Q (.ref l) (upd H1 l (.lst ((PySem.W.sortI (eO ns)).map V.int)))
theorem my {X:Cx} {a:Expr} {ta:TA} {p p2 pos pos2:Pos} (hg:Gl X "sorted") (hm:X.mg "sorted"=none) (hg2:Gl X "set") (hm2:X.mg "set"=none) (hc:X.calm=true) (ha:PA X [a] ta) (hs:starEach [a] X.env=[(false,eval a X.env)])
  (hs1:starEach [.Call (.Name "set" p2) [a] [] pos2] X.env=[(false,eval (.Call (.Name "set" p2) [a] [] pos2) X.env)]):PE X (.Call (.Name "sorted" p) [.Call (.Name "set" p2) [a] [] pos2] [] pos) (Ib X.K ta):=by
 intro pins s σ H Q I h;refine wpAny_Call_Name_kw (xb I hg hm t5 (PyProof.Rows.callWith_builtin1 ?_ hs1 rfl))
 rw [hs1];show wpAny _ _ (spliced ((false,eval (.Call (.Name "set" p2) [a] [] pos2) X.env)::[])) _ _ s
 refine Calls.spliced_cons (Call_ (xb I hg2 hm2 C2 (PyProof.Rows.callWith_type1 (bq (ha pos2 pins s σ H _ I h) fun us s1 ⟨vs,H1,I1,r1,q1⟩=>?_) hs rfl)))
 obtain ⟨pa,ns,e,hS,q1,q2,q⟩:=q1;subst e;obtain ⟨u,rfl,ru⟩:=r1.one
 cases ru;obtain ⟨its,r,pl,hz⟩:=I1.list hS;have hI:=EI r
 have hl:its.length=ns.length:=by rw [<-r.length,length_map]
 have hl':its.toArray.size=ns.length:=by rw [size_toArray,hl]
 refine m4 (ns:=ns) (I.ok.hd hc) pl.isList (by simpa using hI) (by rw [hl'];have:scanBound=4096:=rfl;omega) fun h1 tk1 st kp1=>?_
 rw [hl'] at st;refine Calls.spliced_nil ?_
 have I2:L2.Inv X pins σ H1 { s1 with heap:=h1,toks:=tk1 }:=I1.kept (t':=tk1) kp1
 obtain ⟨o,es,ep,t,ho,hex,hd,hel,hmem,hb,hf,hn,tb⟩:=st;refine Calls.call_function_entry kind_sorted plain_sorted entry_sorted (args_sorted1 _) ?_
 unfold Builtin.«sorted»
 refine wpAny_bind (m:=checkCount "sorted" 1 1 _) (wpAny_pure ?_)
 refine wpAny_bind (lD (I.ok.hd hc) ho hex.1 hd hf hb tb fun h' tk dr us hk pm=>?_)
 have hlu:us.length=(eO ns).length:=by
  rw [pm.length_eq,length_map,Array.length_toList,hn];rfl
 obtain ⟨zs,hZ⟩:=iS (P:=X.prog) (w:=X.w) us fun u hu=>by
  obtain ⟨e,he,rfl⟩:=List.mem_map.mp (pm.mem_iff.mp hu);obtain ⟨k,hk,_⟩:=(hel e he).1;exact ⟨k,hk⟩
 have hpz:zs.Perm (eO ns):=by
  refine fh (eO ns) zs (FJ ns) (fun k hk=>?_) ?_
  ·obtain ⟨e,he,hx⟩:=(hmem k).mp (List.any_eq_true.mpr ⟨k,hk,by simp⟩)
   exact kM (P:=X.prog) (w:=X.w) hZ ⟨e.2,pm.mem_iff.mpr (List.mem_map.mpr ⟨e,he,rfl⟩),hx⟩
  ·rw [<-hlu,kN hZ]
 have hb2:=oV (n:=(eO ns).length) (by omega)
 refine wpAny_bind (wpAny_newList ?_ (by rw [hlu];omega))
 have hoL:(h'.push { cls:=.type "list",data:=.seq us.toArray }).get? h'.objs.size=some (seqObj "list" us.toArray 0):=Heap.get?_push_size _ rfl
 refine wpAny_bind (wpAny_holding (wpAny_call_entry slot_list_sort ⟨_,hoL,rfl⟩ entry_list_sort (list_sort_tree hoL hZ (by rw [hlu];exact q2) fun out ns' a1 a2 a3=>⟨_,rfl,?_⟩) (args_list_sort _)))
 have e:=PySem.W.eq_sortI (a2.trans hpz) a3
 subst e;have hlen:(PySem.W.sortI (eO ns)).length=(eO ns).length:=(PySem.W.sortI_perm _).length_eq
 obtain ⟨n,ho'⟩:=sortedHeap_at (out:=out) hoL
 have I3:L2.Inv X pins σ H1 { s1 with heap:=h',toks:=tk,drawn:=dr }:=L2Inv.drawn (I2.kept (t':=tk) hk) dr
 have kk:∀b o,h'.get? b=some o->(sortedHeap (h'.push { cls:=.type "list",data:=.seq us.toArray }) h'.objs.size us out).get? b=some o:=fun b o e=>by
  have hlt:=Heap.lt_size e
  rw [sortedHeap_old (Nat.ne_of_lt hlt) (by rw [Heap.size_push];exact Nat.lt_succ_of_lt hlt)]
  exact Heap.get?_push_of_some _ e
 exact wpAny_pure ⟨_,rfl,.ref h'.objs.size,upd H1 h'.objs.size (.lst ((PySem.W.sortI (eO ns)).map V.int)),I3.laid (t':=tk) kk (Nat.le_refl _) ⟨by rw [length_map,hlen];omega,out.toList,n,nq a1,by simpa [seqObj] using ho'⟩,rfl,q _ (I3.hok.fresh (Nat.le_refl _))⟩
section
variable {K:Fg} {W:XW} {σ:St} {H:Hp} {Q:VK} {fa:F1} {fl:FL}
def yb (fl:FL):F1:=fun Γ=>(fl Γ).bind fun ps Γ'=>match sortArg (ps.map (·.d)) with
 | some ns=>if ns.length<4000/\(eO ns).length<64 then .ok ⟨.lst .leaf,.list ((PySem.W.sortI (eO ns)).map .int)⟩ Γ' else .no
 | none=>.no
theorem rE (h:tE K W (yb fl) σ H Q):Ib K (tA K W fl) σ H Q:=by
 obtain ⟨He,O,Fs,Γ,E,h⟩:=h;refine ⟨He,O,Fs,Γ,E,?_⟩
 unfold yb at h
 cases e:fl Γ with
 | er c Γ'=>rw [e] at h;exact h
 | no=>rw [e] at h;exact h
 | ok ps Γ1=>
  rw [e] at h;intro vs H1 Gs Fs1 A;have r:=A.reps
  have h:Wants K W He O Fs H σ Q (match sortArg (ps.map (·.d)) with | some ns=>if ns.length<4000/\(eO ns).length<64 then .ok ⟨.lst .leaf,.list ((PySem.W.sortI (eO ns)).map .int)⟩ Γ1 else .no | none=>.no):=h
  cases ei:sortArg (ps.map (·.d)) with
   | none=>rw [ei] at h;exact h.elim
   | some ns=>
    rw [ei] at h;rw [mi ei] at r;have h:Wants K W He O Fs H σ Q (if ns.length<4000/\(eO ns).length<64 then .ok ⟨.lst .leaf,.list ((PySem.W.sortI (eO ns)).map .int)⟩ Γ1 else .no):=h
    by_cases hn:ns.length<4000/\(eO ns).length<64
    ·rw [if_pos hn] at h
     have hl:=r.1
     match vs,hl with
     | [v],_=>
      have q:=r.2 0 v (.list (ns.map .int)) rfl rfl
      cases q with
      | @lst p ws _ hq hwl hw=>
       have ew:ws=ns.map V.int:=by
        apply ext_getElem?
        intro i;by_cases hi:i<ws.length
        ·have hi2:i<ns.length:=by rw [length_map] at hwl;omega
         have q:=hw i (ws[i]'hi) (.int (ns[i]'hi2)) (getElem?_eq_getElem _) (by rw [getElem?_map,getElem?_eq_getElem hi2];rfl)
         rw [getElem?_eq_getElem hi,getElem?_map,getElem?_eq_getElem hi2];generalize ws[i]'hi=u at q
         cases q;rfl
        ·rw [getElem?_eq_none (by omega),getElem?_eq_none (by rw [length_map] at hwl ⊢;omega)]
       rw [ew] at hq;refine ⟨p,ns,rfl,hq,hn.1,hn.2,fun l hl=>h _ _ _ _ (A.newSc E.ndO hl (by simp) fun i v d a1 a2=>?_)⟩
       rw [getElem?_map] at a1 a2
       cases e3:(PySem.W.sortI (eO ns))[i]? with
       | none=>rw [e3] at a1;cases a1
       | some z=>
        rw [e3] at a1 a2
        cases a1
        cases a2;exact .int z
    ·rw [if_neg hn] at h;exact h.elim
end
section
variable {X:Cx} {N gl:List Str} {vs cs ls lo gs:List Nat} {W:XW} {a:Expr} {p pos:Pos} {fl:FL}
theorem cb_sortSet {p2 pos2:Pos} (S:Cp X N gl vs cs ls lo gs) (j k:Nat) (hj:gl[j]?=some ("sorted":Str)) (hg:gs.contains j=true) (hm:X.mg "sorted"=none) (hk:gl[k]?=some ("set":Str)) (hg2:gs.contains k=true) (hm2:X.mg "set"=none) (ha:PA X [a] (tA X.K W fl)) (hs:starEach [a] X.env=[(false,eval a X.env)])
  (hs1:starEach [.Call (.Name "set" p2) [a] [] pos2] X.env=[(false,eval (.Call (.Name "set" p2) [a] [] pos2) X.env)]):PE X (.Call (.Name "sorted" p) [.Call (.Name "set" p2) [a] [] pos2] [] pos) (tE X.K W (yb fl)):=
 bc (my (S.g hj hg).1 hm (S.g hk hg2).1 hm2 S.calm ha hs hs1) fun _ _ _=>rE
end
end T
namespace TQ
open PySem PySem.Spec L2 T
open PyProof.Rows hiding St
section
variable {X:Cx} {N gl:List Str} {vs cs ls lo gs:List Nat} {W:XW} {a:Expr} {p pos:Pos} {fl:FL}
theorem je {p2 pos2:Pos} (S:Cp X N gl vs cs ls lo gs) (j k:Nat) (hj:gl[j]?=some ("sorted":Str)) (hg:gs.contains j=true) (hm:X.mg "sorted"=none) (hk:gl[k]?=some ("set":Str)) (hg2:gs.contains k=true) (hm2:X.mg "set"=none) (ha:Q (PA X [a] (tA X.K W fl))) (hs:starEach [a] X.env=[(false,eval a X.env)])
  (hs1:starEach [.Call (.Name "set" p2) [a] [] pos2] X.env=[(false,eval (.Call (.Name "set" p2) [a] [] pos2) X.env)]):Q (PE X (.Call (.Name "sorted" p) [.Call (.Name "set" p2) [a] [] pos2] [] pos) (tE X.K W (yb fl))):=⟨T.cb_sortSet S j k hj hg hm hk hg2 hm2 ha.p hs hs1⟩
end
end TQ
namespace KC
open PySem PySem.Spec L2 T PySem.SeqAt
open PyProof.Rows hiding St
theorem wD {n:Nat} {l:List Nat} (h:∀x∈l,x<n):(eO (l.map fun t:Nat=>(t:Int))).length<=n:=by
 have nd:=FJ (l.map fun t:Nat=>(t:Int))
 have m:∀x∈eO (l.map fun t:Nat=>(t:Int)),0<=x/\x.toNat<n:=fun x hx=>by
  obtain ⟨t,ht,rfl⟩:=List.mem_map.mp (ddp_mem.mp hx);exact ⟨by omega,by simpa using h t ht⟩
 have:=EV (n:=n) (p:=(eO (l.map fun t:Nat=>(t:Int))).map Int.toNat) ?_ ?_
 ·rwa [length_map] at this
 ·rw [List.Nodup,pairwise_map]
  exact List.Pairwise.imp_of_mem (fun ha hb hab e=>hab (by have:=m _ ha;have:=m _ hb;omega)) nd
 ·intro x hx
  obtain ⟨t,ht,rfl⟩:=List.mem_map.mp hx;exact (m t ht).2
theorem rg {n:Nat} {l:List Nat} (h:∀x∈l,x<n):PySem.W.sortI (eO (l.map fun t:Nat=>(t:Int)))=((List.range n).filter fun r=>l.contains r).map fun t:Nat=>(t:Int):=by
 refine (PySem.W.eq_sortI ?_ ?_).symm
 ·refine (List.perm_ext_iff_of_nodup ?_ (FJ _)).mpr fun x=>?_
  ·rw [List.Nodup,pairwise_map]
   exact (List.nodup_range.filter _).imp fun h e=>h (by omega)
  ·rw [ddp_mem,mem_map,mem_map]
   constructor
   ·rintro ⟨t,ht,rfl⟩
    exact ⟨t,by simpa using (List.mem_filter.mp ht).2,rfl⟩
   ·rintro ⟨t,ht,rfl⟩
    exact ⟨t,List.mem_filter.mpr ⟨List.mem_range.mpr (h t ht),by simpa using ht⟩,rfl⟩
 ·rw [pairwise_map]
  exact (List.pairwise_lt_range.filter _).imp fun h=>by omega
theorem uM {Γ:Ev} {fl:FL} {s:Sh} {n:Nat} {l:List Nat} (hl:fl Γ=.ok [⟨s,aH l⟩] Γ) (h:∀x∈l,x<n) (hn:n<64) (h4:l.length<4000):yb fl Γ=.ok ⟨.lst .leaf,aH ((List.range n).filter fun r=>l.contains r)⟩ Γ:=by
 unfold yb;rw [hl];have e:T.sortArg ([(⟨s,aH l⟩:PV)].map (·.d))=some (l.map fun t:Nat=>(t:Int)):=by
  show T.intsOf (l.map rm)=_
  rw [Bu,gK]
 have c:(l.map fun t:Nat=>(t:Int)).length<4000/\(eO (l.map fun t:Nat=>(t:Int))).length<64:=⟨by rw [length_map];exact h4,Nat.lt_of_le_of_lt (wD h) hn⟩
 show (match T.sortArg ([(⟨s,aH l⟩:PV)].map (·.d)) with | some ns=>if ns.length<4000/\(eO ns).length<64 then Out.ok (⟨.lst .leaf,.list ((PySem.W.sortI (eO ns)).map .int)⟩:PV) Γ else .no | none=>.no)=_
 rw [e];dsimp only;rw [if_pos c,rg h,<-Bu]
end KC
namespace T
open PySem PySem.Spec L2
open PyProof.Rows hiding St
def Be:List Int->Int
 | []=>0
 | a::r=>r.foldl (fun x y=>if x<y then y else x) a
theorem nQ:∀(r:List Int) (a:Int),(r.foldl (fun x y=>if x<y then y else x) a=a\/r.foldl (fun x y=>if x<y then y else x) a∈r)/\a<=r.foldl (fun x y=>if x<y then y else x) a/\∀b∈r,b<=r.foldl (fun x y=>if x<y then y else x) a
 | [],a=>⟨.inl rfl,Int.le_refl _,fun b hb=>by cases hb⟩
 | c::r,a=>by
  rw [List.foldl_cons];obtain ⟨h1,h2,h3⟩:=nQ r (if a<c then c else a)
  have e:a<=(if a<c then c else a)/\c<=(if a<c then c else a)/\((if a<c then c else a)=a\/(if a<c then c else a)=c):=by split<;>omega
  refine ⟨?_,by omega,fun b hb=>?_⟩
  ·rcases h1 with h1 | h1
   ·rw [h1]
    rcases e.2.2 with z | z
    ·exact .inl z
    ·exact .inr (by rw [z];exact mem_cons_self)
   ·exact .inr (mem_cons_of_mem _ h1)
  ·rcases List.mem_cons.mp hb with rfl | hb
   ·omega
   ·exact h3 b hb
theorem sF {ns:List Int} {M:Int} (h1:M∈ns) (h2:∀a∈ns,a<=M):Be ns=M:=by
 cases ns with
 | nil=>cases h1
 | cons a r=>
  obtain ⟨g1,g2,g3⟩:=nQ r a;show r.foldl _ a=M
  have u:r.foldl (fun x y=>if x<y then y else x) a<=M:=by
   rcases g1 with g1 | g1
   ·rw [g1];exact h2 a (by simp)
   ·exact h2 _ (mem_cons_of_mem _ g1)
  have l:M<=r.foldl (fun x y=>if x<y then y else x) a:=by
   rcases List.mem_cons.mp h1 with rfl | h1
   ·exact g2
   ·exact g3 M h1
  omega
def gL:List PySem.PyData->Option PySem.PyData
 | [.list ds]=>match intsOf ds with
  | some (a::r)=>some (.int (Be (a::r)))
  | _=>none
 | _=>none
def xA (K:Fg):List V->Hp->VK->Prop:=fun xs H Q=>∃(p:Addr) (ns:List Int),xs=[.ref p]/\SqL K H p (ns.map V.int)/\0<ns.length/\Q (.int (Be ns)) H
theorem v9 {K:Fg}:GCall K (xA K) gL:=by
 intro vs H Q ds d r e k;unfold gL at e;split at e
 ·rename_i es
  split at e
  ·rename_i a q ei
   cases e;rw [FA ei] at r;have hl:=r.1
   match vs,hl with
   | [v],_=>
    have z:=r.2 0 v (.list ((a::q).map .int)) rfl rfl
    cases z with
    | @lst p ws _ hq hwl hw=>
     have ew:=o6 (K:=K) (H:=H) ⟨hwl,hw⟩
     rw [ew] at hq;exact ⟨p,a::q,rfl,hq,by simp,k _ (.int _)⟩
  ·cases e
 ·cases e
theorem qi {X:Cx} (hc:X.calm=true):CallR X (.builtin "max") (xA X.K):=by
 intro pins s σ H vs us Q I rv h;obtain ⟨p,ns,rfl,hq,hne,q⟩:=h;obtain ⟨u,rfl,ru⟩:=vals1 rv
 cases ru;obtain ⟨its,rv,pl,hz⟩:=I.list hq;have hi:=EI rv
 obtain ⟨xs,ex⟩:=(hi.allInts:AllInts its.toArray).items
 have en:ns=xs.toList.map (·.1):=by
  rw [<-nums_intItems,<-ex];exact hi.numsOf.symm
 have hl:=pl.isList
 rw [ex] at hl;have hsz:0<xs.size:=by
  have h3:=hne
  rw [en,length_map,Array.length_toList] at h3;exact h3
 refine max_intList (I.ok.hd hc) hl hsz fun v h' tk hv hk=>?_
 obtain ⟨t,rfl⟩:=intItems_at hv;obtain ⟨h1,h2⟩:=argBest_gt (numAt xs) (xs.size-1)
 have eM:Be ns=numAt xs (argBest (fun i j=>decide (numAt xs i>numAt xs j)) (xs.size-1)):=by
  refine sF ?_ fun a ha=>?_
  ·rw [en,numAt_eq]
   exact getD_mem (by rw [length_map,Array.length_toList];omega)
  ·rw [en] at ha
   obtain ⟨j,hj,rfl⟩:=mem_getD ha;rw [length_map,Array.length_toList] at hj;rw [<-numAt_eq];exact h2 j (by omega)
 rw [eM] at q;exact ⟨.int (numAt xs (argBest (fun i j=>decide (numAt xs i>numAt xs j)) (xs.size-1))),H,I.kept (h':=h') (t':=tk) hk,⟨_,rfl⟩,q⟩
section
variable {X:Cx} {N gl:List Str} {vs cs ls lo gs:List Nat} {W:XW} {e:Expr} {es:List Expr} {pos p:Pos} {fl:FL}
theorem cb_maxL (S:Cp X N gl vs cs ls lo gs) (j:Nat) (hj:gl[j]?=some ("max":Str)) (hg:gs.contains j=true) (hm:X.mg "max"=none) (ha:PA X (e::es) (tA X.K W fl)) (he:starEach (e::es) X.env=(false,eval e X.env)::starEach es X.env) (hpl:(backTo pos (starEach es X.env)).any (·.1)=false) :
  PE X (.Call (.Name "max" p) (e::es) [] pos) (tE X.K W (bb gL fl)):=oq (qi S.calm) v9 C3 hm ha (S.g hj hg).1 (S.g hj hg).2.2 (S.g hj hg).2.1 he hpl
end
end T
namespace TQ
open PySem PySem.Spec L2 T
open PyProof.Rows hiding St
section
variable {X:Cx} {N gl:List Str} {vs cs ls lo gs:List Nat} {W:XW} {e:Expr} {es:List Expr} {pos p:Pos} {fl:FL}
theorem oK (S:Cp X N gl vs cs ls lo gs) (j:Nat) (hj:gl[j]?=some ("max":Str)) (hg:gs.contains j=true) (hm:X.mg "max"=none) (ha:Q (PA X (e::es) (tA X.K W fl))) (he:starEach (e::es) X.env=(false,eval e X.env)::starEach es X.env) (hpl:(backTo pos (starEach es X.env)).any (·.1)=false) :
  Q (PE X (.Call (.Name "max" p) (e::es) [] pos) (tE X.K W (bb gL fl))):=⟨T.cb_maxL S j hj hg hm ha.p he hpl⟩
end
end TQ
namespace T
open PySem PySem.Spec L2
open PyProof.Rows hiding St
abbrev It:=dv ⊕ List dv
section
variable {prog:Program} {w:World}
inductive Its2 (h:Heap):List It->List Value->Prop
 | nil:Its2 h [] []
 | v {k:dv} {u:Value} {ks:List It} {us:List Value}:(jH prog w).is k u=true->Its2 h ks us->Its2 h (.inl k::ks) (u::us)
 | t {l:List dv} {b:Addr} {ks:List It} {us:List Value}:IsTupleKey (jH prog w) h l b->Its2 h ks us->Its2 h (.inr l::ks) (.ref b::us)
variable (prog w)
def Is2 (h:Heap) (ks:List It) (a:Addr):Prop:=∃o items n,h.get? a=some o/\o.cls=.type "tuple"/\o.data=.seq items n/\Its2 (prog:=prog) (w:=w) h ks items.toList
variable {prog w}
theorem nY {k:dv} {b:Addr}:(jH prog w).is k (.ref b)=true->False:=fun h=>by
 rcases uv h with ⟨i,t,_,e⟩ | ⟨x,t,_,e⟩<;>cases e
theorem Its2.inj {h:Heap} {x y:List It} {us:List Value} (hx:Its2 (prog:=prog) (w:=w) h x us) (hy:Its2 (prog:=prog) (w:=w) h y us):x=y:=by
 induction hx generalizing y with
 | nil=>cases hy;rfl
 | v h1 _ ih=>
  cases hy with
  | v h2 t2=>rw [(jH prog w).inj _ _ _ h1 h2,ih t2]
  | t h2 t2=>exact (nY h1).elim
 | t h1 _ ih=>
  cases hy with
  | v h2 t2=>exact (nY h2).elim
  | t h2 t2=>rw [h1.inj h2,ih t2]
theorem Is2.typeIs {s:Shared} {ks:List It} {a:Addr} (x:Is2 prog w s.heap ks a):s.TypeIs (.ref a) "tuple":=let ⟨o,_,_,ho,hc,_⟩:=x;⟨o,ho,hc⟩
theorem Is2.inj {h:Heap} {a:Addr} {x y:List It} (hx:Is2 prog w h x a) (hy:Is2 prog w h y a):x=y:=by
 obtain ⟨o,items,n,ho,_,hd,hi⟩:=hx;obtain ⟨o',items',n',ho',_,hd',hi'⟩:=hy;obtain rfl:o=o':=Option.some.inj (ho.symm.trans ho')
 rw [hd] at hd';injection hd' with h1 _
 subst h1;exact hi.inj hi'
theorem Its2.keeps {h h':Heap} {ks:List It} {us:List Value} {d:Addr} {o:Obj} {es:Array DictEntry} {ep:Nat} (x:Its2 (prog:=prog) (w:=w) h ks us) (ho:h.get? d=some o) (hd:o.data=.dict es ep) (hs:Heap.SameBut d h h'):Its2 (prog:=prog) (w:=w) h' ks us:=by
 induction x with
 | nil=>exact .nil
 | v h1 _ ih=>exact .v h1 ih
 | t h1 _ ih=>exact .t (h1.keeps ho hd hs) ih
theorem Is2.keeps {h h':Heap} {ks:List It} {a d:Addr} {o:Obj} {es:Array DictEntry} {ep:Nat} (x:Is2 prog w h ks a) (ho:h.get? d=some o) (hd:o.data=.dict es ep) (hs:Heap.SameBut d h h'):Is2 prog w h' ks a:=by
 obtain ⟨o',items,n,ho',hc,hd',hi⟩:=x;have hne:a≠d:=by
  rintro rfl
  obtain rfl:o'=o:=Option.some.inj (ho'.symm.trans ho)
  rw [hd] at hd';exact nomatch hd'
 exact ⟨o',items,n,(hs.2 a hne).trans ho',hc,hd',hi.keeps ho hd hs⟩
def hI (w:World):It->Int
 | .inl k=>zF w k
 | .inr l=>reduceHash (Builtin.Tuple.tupleHashOf (l.map (zF w)))
def dI:It->Nat
 | .inl _=>1
 | .inr l=>l.length+1
def Hk (w:World) (ks:List It):Int:=reduceHash (Builtin.Tuple.tupleHashOf (ks.map (hI w)))
def HA (ks:List It):Nat:=(ks.map dI).sum+1
variable {A:Around} {E:Value->Shared->Prop} {s:Shared}
theorem CH {ks:List It} {a:Addr} {Q:Int->Shared->Prop} (hu:A.units+1<cLine) (hk:Is2 prog w s.heap ks a) (h:Q (Hk w ks) { s with toks:=s.toks+HA ks }):wpAny (model prog w) A (pyHash (.ref a)) Q E s:=by
 have hT:=hk.typeIs
 obtain ⟨o,items,n,ho,_,hd,hi⟩:=hk;unfold pyHash;first | unfold pyHashByItsType | skip
 first | refine wpAny_bind (wpAny_cRoomFor_or (.inr (by omega)) ?_) | skip
 refine wpAny_bind (wpAny_specialOf hT PySem.F.slot_tuple_hash.lookup ?_)
 show wpAny _ _ (if (some (Value.builtin "tuple.__hash__")==some Value.none)=true then _ else _) Q E s
 rw [if_neg (by rw [beq_builtin_none];exact Bool.false_ne_true)]
 refine wpAny_bind (wpAny_specialOf hT PySem.F.slot_tuple_hash.lookup ?_)
 show wpAny _ _ (callSpecialIfBoundUnlessNone? (.ref a) "__hash__" _ >>= _) Q E s
 refine wpAny_bind (wpAny_callSpecialIfBoundUnlessNone?_slot hT PySem.F.slot_tuple_hash (wpAny_call_entry PySem.F.slot_tuple_hash hT PySem.F.entry_tuple_hash ?_ (PySem.F.args_tuple_hash_1 _)))
 show wpAny _ _ (Builtin.Tuple.tupleItemsOf (.ref a) >>= _) _ _ s
 refine wpAny_bind (wpAny_tupleItemsOf ho hd ?_)
 refine wpAny_bind ?_
 rw [<-Array.forIn_toList];refine wpAny_forIn_list _
  (fun bC (b:Array Int) s'=>∃done left,ks=done++left/\Its2 (prog:=prog) (w:=w) s.heap left bC/\b.toList=done.map (hI w)/\s'={ s with toks:=s.toks+(done.map dI).sum })
  _ ?_ ?_ _ _ ⟨[],ks,rfl,hi,rfl,rfl⟩
 ·rintro x bC b s' ⟨done,left,rfl,hl,hb,rfl⟩
  cases hl with
  | @v k _ ks' _ h1 hl'=>
   refine wpAny_bind ((jH prog w).pyHash h1 ?_)
   first
    | exact wpAny_pure ⟨done++[.inl k],ks',by simp,hl',by simp [hb];rfl,by simp [Nat.add_assoc,dI]⟩
    | exact wpAny_bind (wpAny_pure (wpAny_pure ⟨done++[.inl k],ks',by simp,hl',by simp [hb];rfl,by simp [Nat.add_assoc,dI]⟩))
  | @t l q ks' _ h1 hl'=>
   refine wpAny_bind (wpAny_pyHash_tuple (knd:=jH prog w) (by simp;omega) h1 ?_)
   first
    | exact wpAny_pure ⟨done++[.inr l],ks',by simp,hl',by simp [hb];rfl,by simp [Nat.add_assoc,dI]⟩
    | exact wpAny_bind (wpAny_pure (wpAny_pure ⟨done++[.inr l],ks',by simp,hl',by simp [hb];rfl,by simp [Nat.add_assoc,dI]⟩))
 ·rintro b s' ⟨done,left,rfl,hl,hb,rfl⟩
  cases hl;rw [append_nil] at h;show wpAny _ _ (retInt (Builtin.Tuple.tupleHashOf b.toList)) _ _ _
  rw [hb];refine wpAny_ret_mkInt ?_
  show wpAny _ _ (if (decide (-(2:Int) ^ 63<=Builtin.Tuple.tupleHashOf (done.map (hI w)))&&decide (Builtin.Tuple.tupleHashOf (done.map (hI w))<2 ^ 63))=true then _ else _) Q E _
  unfold Hk reduceHash HA at h;by_cases hr:(decide (-(2:Int) ^ 63<=Builtin.Tuple.tupleHashOf (done.map (hI w)))&&decide (Builtin.Tuple.tupleHashOf (done.map (hI w))<2 ^ 63))=true
  ·rw [if_pos hr]
   rw [if_pos hr] at h;exact wpAny_pure (by simpa [Nat.add_assoc] using h)
  ·rw [if_neg hr]
   rw [if_neg hr] at h;exact wpAny_bind (wpAny_rule (wpAny_pure (by simpa [Nat.add_assoc] using h)))
def isT:It->Bool
 | .inl _=>false
 | .inr _=>true
theorem tH {x y:List It} {a b:Addr} {P:Fin->Shared->Prop} (hu:A.units<cLine) (hsh:x.map isT=y.map isT) (hx:Is2 prog w s.heap x a) (hy:Is2 prog w s.heap y b) (h:P (.done (.ret (.bool (decide (x=y))))) s) :
  wpAny (model prog w) A (Builtin.«tuple.__eq__» ⟨[.ref a,.ref b],[]⟩) P E s:=by
 have hTb:=hy.typeIs
 obtain ⟨oa,xs,na,hoa,_,hda,hia⟩:=hx;obtain ⟨ob,ys,nb,hob,_,hdb,hib⟩:=hy;show wpAny _ _ (isInstance (.ref b) (.type "tuple") >>= _) _ _ s
 refine wpAny_bind (wpAny_isInstance hTb isSubtype_tuple_tuple ?_)
 simp only [Bool.not_true,Bool.false_eq_true,if_false]
 refine wpAny_bind (wpAny_tupleItemsOf hoa hda ?_)
 refine wpAny_bind (wpAny_tupleItemsOf hob hdb ?_)
 refine wpAny_bind ?_
 refine wpAny_forIn_list _
  (fun bC r s'=>r.1=none/\s'=s/\∃x' y' xs' ys',bC=List.zip xs' ys'/\x'.map isT=y'.map isT/\Its2 (prog:=prog) (w:=w) s.heap x' xs'/\Its2 (prog:=prog) (w:=w) s.heap y' ys'/\decide (x'=y')=decide (x=y)/\(xs'.length==ys'.length)=(xs.size==ys.size))
  _ ?_ ?_ _ _ ⟨rfl,rfl,x,y,xs.toList,ys.toList,rfl,hsh,hia,hib,rfl,by simp⟩
 ·rintro ⟨u,v⟩ bC r s' ⟨hr,rfl,x',y',xs',ys',hz,hsh',hx',hy',hdec,hlen⟩
  cases hx' with
  | nil=>simp at hz
  | @v k1 u' x'' xs'' h1 hx''=>
   cases hy' with
   | nil=>simp at hz
   | t h2 hy''=>simp [isT] at hsh'
   | @v k2 v' y'' ys'' h2 hy''=>
    simp only [List.zip_cons_cons,List.cons.injEq,Prod.mk.injEq] at hz
    obtain ⟨⟨rfl,rfl⟩,rfl⟩:=hz;refine wpAny_bind ((jH prog w).eqBool (a:=k1) (b:=k2) h1 h2 ?_)
    by_cases hk:k1=k2
    ·subst hk
     rw [decide_eq_true rfl];simp only [Bool.not_true,Bool.false_eq_true,if_false]
     refine wpAny_pure ⟨rfl,rfl,x'',y'',xs'',ys'',rfl,by simpa using hsh',hx'',hy'',?_,by simpa using hlen⟩
     rw [<-hdec];by_cases hxy:x''=y''
     ·simp [hxy]
     ·simp [hxy]
    ·rw [decide_eq_false hk]
     simp only [Bool.not_false,if_true]
     have hf:decide (x=y)=false:=by rw [<-hdec];simp [hk]
     rw [hf] at h;exact wpAny_bind (wpAny_pure (wpAny_pure (wpAny_pure h)))
  | @t l1 b1 x'' xs'' h1 hx''=>
   cases hy' with
   | nil=>simp at hz
   | v h2 hy''=>simp [isT] at hsh'
   | @t l2 b2 y'' ys'' h2 hy''=>
    simp only [List.zip_cons_cons,List.cons.injEq,Prod.mk.injEq] at hz
    obtain ⟨⟨rfl,rfl⟩,rfl⟩:=hz;refine wpAny_bind (wpAny_eqBool_tuple (knd:=jH prog w) hu h1 h2 ?_)
    by_cases hk:l1=l2
    ·subst hk
     rw [decide_eq_true rfl];simp only [Bool.not_true,Bool.false_eq_true,if_false]
     refine wpAny_pure ⟨rfl,rfl,x'',y'',xs'',ys'',rfl,by simpa using hsh',hx'',hy'',?_,by simpa using hlen⟩
     rw [<-hdec];by_cases hxy:x''=y''
     ·simp [hxy]
     ·simp [hxy]
    ·rw [decide_eq_false hk]
     simp only [Bool.not_false,if_true]
     have hf:decide (x=y)=false:=by rw [<-hdec];simp [hk]
     rw [hf] at h;exact wpAny_bind (wpAny_pure (wpAny_pure (wpAny_pure h)))
 ·rintro ⟨r1,r2⟩ s' ⟨hr,rfl,x',y',xs',ys',hz,hsh',hx',hy',hdec,hlen⟩
  simp only at hr
  subst hr;refine wpAny_pure ?_
  have hfin:(xs.size==ys.size)=decide (x=y):=by
   rw [<-hdec,<-hlen]
   cases hx' with
   | nil=>
    cases hy' with
    | nil=>simp
    | v _ _=>simp at hsh'
    | t _ _=>simp at hsh'
   | v _ _=>
    cases hy' with
    | nil=>simp at hsh'
    | v _ _=>simp at hz
    | t _ _=>simp at hz
   | t _ _=>
    cases hy' with
    | nil=>simp at hsh'
    | v _ _=>simp at hz
    | t _ _=>simp at hz
  show P (.done (.ret (.bool (xs.size==ys.size)))) s'
  rw [hfin];exact h
theorem Hr {x y:List It} {a b:Addr} {Q:Bool->Shared->Prop} (hu:A.units+1<cLine) (hsh:x.map isT=y.map isT) (hx:Is2 prog w s.heap x a) (hy:Is2 prog w s.heap y b) (h:Q (decide (x=y)) s) :
  wpAny (model prog w) A (eqBool (.ref a) (.ref b)) Q E s:=by
 unfold eqBool;try with_reducible refine wpAny_holding ?_
 show wpAny _ _ (if (Value.ref a==Value.ref b)=true then _ else _) Q E s
 by_cases hab:(Value.ref a==Value.ref b)=true
 ·rw [if_pos hab]
  have e:a=b:=by have:=eq_of_beq hab;injection this
  subst e;obtain rfl:=hx.inj hy
  exact wpAny_bind (wpAny_rule (wpAny_pure (by simpa using h)))
 ·rw [if_neg hab]
  exact wpAny_bind (wpAny_richCompare_same_room (op:=.Eq) hx.typeIs hy.typeIs PySem.F.slot_tuple_eq
   (wpAny_call_entry PySem.F.slot_tuple_eq hx.typeIs PySem.F.entry_tuple_eq (tH (by simp;omega) hsh hx hy ⟨_,rfl,(fun e=>nomatch e),wpAny_truthy_bool h⟩) (PySem.F.args_tuple_eq_2 _ _)) (by omega))
theorem za {n:Nat} {ks:List dv} {a:Addr} {Q:Bool->Shared->Prop} (hk:IsTupleKey (jH prog w) s.heap ks a) (h:Q true s):wpAny (model prog w) A (eqIsQuiet (n+1) (.ref a)) Q E s:=by
 have hT:=hk.typeIs
 obtain ⟨o,items,m,ho,_,hd,hi⟩:=hk;unfold eqIsQuiet;refine wpAny_bind (wpAny_specialOf hT PySem.F.slot_tuple_eq.lookup ?_)
 show wpAny _ _ (isInstance (.ref a) (.type "tuple") >>= _) _ _ s
 refine wpAny_bind (wpAny_isInstance hT isSubtype_tuple_tuple ?_)
 simp only [Bool.not_true,Bool.false_eq_true,if_false]
 refine wpAny_bind (wpAny_seqItems ho hd ?_)
 refine wpAny_bind ?_
 show wpAny _ _ (forIn items _ _) _ _ s
 rw [<-Array.forIn_toList];refine wpAny_forIn_list _ (fun bC r s'=>r.1=none/\s'=s/\∀v∈bC,carriedByValue v=true) _ ?_ ?_ _ _ ⟨rfl,rfl,hi.byValue⟩
 ·rintro v bC r s' ⟨hr,rfl,hall⟩
  rw [eqIsQuiet_byValue _ (hall v mem_cons_self)];refine wpAny_bind (wpAny_pure ?_)
  simp only [Bool.not_true,Bool.false_eq_true,if_false]
  exact wpAny_pure ⟨rfl,rfl,fun u hu'=>hall u (mem_cons_of_mem _ hu')⟩
 ·rintro ⟨r1,r2⟩ s' ⟨hr,rfl,_⟩
  simp only at hr
  subst hr;exact wpAny_pure h
theorem y6 {n:Nat} {ks:List It} {a:Addr} {Q:Bool->Shared->Prop} (hk:Is2 prog w s.heap ks a) (h:Q true s):wpAny (model prog w) A (eqIsQuiet (n+2) (.ref a)) Q E s:=by
 have hT:=hk.typeIs
 obtain ⟨o,items,m,ho,_,hd,hi⟩:=hk;unfold eqIsQuiet;refine wpAny_bind (wpAny_specialOf hT PySem.F.slot_tuple_eq.lookup ?_)
 show wpAny _ _ (isInstance (.ref a) (.type "tuple") >>= _) _ _ s
 refine wpAny_bind (wpAny_isInstance hT isSubtype_tuple_tuple ?_)
 simp only [Bool.not_true,Bool.false_eq_true,if_false]
 refine wpAny_bind (wpAny_seqItems ho hd ?_)
 refine wpAny_bind ?_
 show wpAny _ _ (forIn items _ _) _ _ s
 rw [<-Array.forIn_toList];refine wpAny_forIn_list _ (fun bC r s'=>r.1=none/\s'=s/\∃ks,Its2 (prog:=prog) (w:=w) s.heap ks bC) _ ?_ ?_ _ _ ⟨rfl,rfl,ks,hi⟩
 ·rintro v bC r s' ⟨hr,rfl,ks,hall⟩
  cases hall with
  | @v k _ ks' _ h1 hl'=>
   rw [eqIsQuiet_byValue _ ((jH prog w).byValue _ _ h1)];refine wpAny_bind (wpAny_pure ?_)
   simp only [Bool.not_true,Bool.false_eq_true,if_false]
   exact wpAny_pure ⟨rfl,rfl,ks',hl'⟩
  | @t l q ks' _ h1 hl'=>
   refine wpAny_bind (za h1 ?_)
   simp only [Bool.not_true,Bool.false_eq_true,if_false]
   exact wpAny_pure ⟨rfl,rfl,ks',hl'⟩
 ·rintro ⟨r1,r2⟩ s' ⟨hr,rfl,_⟩
  simp only at hr
  subst hr;exact wpAny_pure h
end
def fx (prog:Program) (w:World) (sh:List Bool):HeapKind prog w (List It) where
 is:=fun h ks a=>Is2 prog w h ks a/\ks.map isT=sh
 hash:=Hk w
 draws:=HA
 room:=fun A=>A.units+1<cLine
 inj:=fun hx hy=>hx.1.inj hy.1
 keeps:=fun x ho hd hs=>⟨x.1.keeps ho hd hs,x.2⟩
 pyHash:=fun hu hk h=>CH hu hk.1 h
 eqBool:=fun hu hx hy h=>Hr hu (hx.2.trans hy.2.symm) hx.1 hy.1 h
 quiet:=fun hk h=>y6 hk.1 h
def Ei (K:Fg) (H:Hp):It->V->Prop
 | .inl k,v=>v=kV k
 | .inr l,v=>∃c,v=.ref c/\SqT K H c (l.map kV)
def K2 (K:Fg) (H:Hp) (ks:List It) (b:Addr):Prop:=∃vs,SqT K H b vs/\Paired (Ei K H) ks vs
theorem K2.mono {K:Fg} {H H':Hp} {ks:List It} {b:Addr} (k:K2 K H ks b) (m:∀c xs,SqT K H c xs->SqT K H' c xs):K2 K H' ks b:=by
 obtain ⟨vs,h,p⟩:=k;refine ⟨vs,m _ _ h,?_⟩
 clear h;induction p with
 | nil=>exact .nil
 | @cons a v l l' q _ ih=>
  refine .cons ?_ ih
  cases a with
  | inl k=>exact q
  | inr l=>obtain ⟨c,e,h⟩:=q;exact ⟨c,e,m _ _ h⟩
theorem uS {X:Cx} {pins:List (Addr×Obj)} {σ:St} {H:Hp} {s:Shared} {l:List dv} {c:Addr} (I:L2.Inv X pins σ H s) (h:SqT X.K H c (l.map kV)):IsTupleKey (jH X.prog X.w) s.heap l c:=by
 obtain ⟨its,r,⟨o,h1,h2,n,h3⟩,_⟩:=I.tuple h;exact ⟨o,its.toArray,n,h1,h2,h3,by simpa using iR r⟩
theorem AQ {X:Cx} {pins:List (Addr×Obj)} {σ:St} {H:Hp} {s:Shared} {ks:List It} {b:Addr} (I:L2.Inv X pins σ H s) (k:K2 X.K H ks b):Is2 X.prog X.w s.heap ks b:=by
 obtain ⟨vs,h,p⟩:=k;obtain ⟨its,r,⟨o,h1,h2,n,h3⟩,_⟩:=I.tuple h;refine ⟨o,its.toArray,n,h1,h2,h3,?_⟩
 show Its2 s.heap ks its.toArray.toList
 rw [List.toList_toArray];have key:∀{ks:List It} {vs:List V} {us:List Value},Paired (Ei X.K H) ks vs->Vals vs us->Its2 (prog:=X.prog) (w:=X.w) s.heap ks us:=by
  intro ks vs us p;induction p generalizing us with
  | nil=>intro r;cases r;exact .nil
  | @cons a v l l' q _ ih=>
   intro r
   cases r with
   | cons rv r=>
    cases a with
    | inl k=>
     cases (show v=kV k from q)
     exact .v (xG rv) (ih r)
    | inr m=>
     obtain ⟨c,e,hc⟩:=q;subst e;rename_i u _
     cases (show u=Value.ref c from rv)
     exact .t (uS I hc) (ih r)
 exact key p r
def uw (P:Program) (w:World) (sh:List Bool) (a:Addr) (xs:List (List It×Addr×Value)):HO:=.ext fun h=>∃o es ep,h.get? a=some o/\o.ExactDict/\o.data=.dict es ep/\es.toList=xs.map (entryOfKey (fx P w sh))
abbrev KX (K:Fg) (H:Hp) (sh:List Bool):List (List It×V)->List (List It×Addr×Value)->Prop:=Paired fun p q=>p.1=q.1/\p.1.map isT=sh/\K2 K H p.1 q.2.1/\RelV p.2 q.2.2
def D2 (P:Program) (w:World) (K:Fg) (H:Hp) (sh:List Bool) (a:Addr) (kvs:List (List It×V)):Prop:=
 ∃xs,H a=some (uw P w sh a xs)/\KX K H sh kvs xs/\(xs.map (·.1)).Nodup/\xs.length<=1000/\(a==sysModules)=false
theorem KX.mono {K:Fg} {H H':Hp} {sh:List Bool} {kvs:List (List It×V)} {xs:List (List It×Addr×Value)} (k:KX K H sh kvs xs) (m:∀c xs,SqT K H c xs->SqT K H' c xs):KX K H' sh kvs xs:=by
 induction k with
 | nil=>exact .nil
 | cons q _ ih=>exact .cons ⟨q.1,q.2.1,q.2.2.1.mono m,q.2.2.2⟩ ih
theorem KX.val {K:Fg} {H:Hp} {sh:List Bool} {kvs:List (List It×V)} {xs:List (List It×Addr×Value)} (r:KX K H sh kvs xs) (k:List It):RelO (cH kvs k) ((atKey xs k).map (·.2)):=by
 induction r with
 | nil=>exact trivial
 | @cons p q l l' h _ ih=>
  by_cases e:p.1=k
  ·rw [DC e]
   have:atKey (q::l') k=some q.2:=by simp [atKey,find?_cons,<-h.1,e]
   rw [this];exact h.2.2.2
  ·rw [AZ e]
   have:atKey (q::l') k=atKey l' k:=by
    have e':¬q.1=k:=fun z=>e (h.1.trans z)
    simp [atKey,find?_cons,e']
   rw [this];exact ih
theorem KX.len {K:Fg} {H:Hp} {sh:List Bool} {kvs:List (List It×V)} {xs:List (List It×Addr×Value)} (r:KX K H sh kvs xs):kvs.length=xs.length:=Paired.length r
theorem yg {X:Cx} {pins:List (Addr×Obj)} {σ:St} {H:Hp} {s:Shared} {sh:List Bool} {a:Addr} {kvs:List (List It×V)} {xs:List (List It×Addr×Value)} (I:L2.Inv X pins σ H s) (e:H a=some (uw X.prog X.w sh a xs)) (r:KX X.K H sh kvs xs) (nd:(xs.map (·.1)).Nodup):s.heap.DictOfH (fx X.prog X.w sh) a xs:=by
 obtain ⟨⟨o,es,ep,h1,h2,h3,h4⟩,_⟩:=(show ObjOk X.prog X.w H s.heap a (uw X.prog X.w sh a xs) from I.hok a _ e);refine ⟨o,es,ep,h1,h2,h3,h4,fun x hx=>?_,nd⟩
 have all:∀{l:List (List It×V)} {m:List (List It×Addr×Value)},KX X.K H sh l m->∀x∈m,(fx X.prog X.w sh).is s.heap x.1 x.2.1:=by
  intro l m q;induction q with
  | nil=>intro x hx;exact nomatch hx
  | @cons p q ps qs hq t ih=>
   intro x hx;rcases List.mem_cons.mp hx with e | hx
   ·subst e
    exact ⟨by rw [<-hq.1];exact AQ I hq.2.2.1,by rw [<-hq.1];exact hq.2.1⟩
   ·exact ih x hx
 exact all r x hx
theorem j6 {P:Program} {w:World} {sh:List Bool} {A:Around} (hu:A.units+2<cLine):(fx P w sh).room A.in1:=by
 show A.in1.units+1<cLine
 simp
 omega
section
variable {prog:Program} {w:World} {K:Type} [DecidableEq K] {knd:HeapKind prog w K} {A:Around} {E:Value->Shared->Prop} {s:Shared}
theorem sN {d:Addr} {xs:List (K×Addr×Value)} {Q:Value->Shared->Prop} (hd:(d==sysModules)=false) (hm:s.heap.DictOfH knd d xs) (hfit:(xs.length:Int)<2 ^ 63)
  (h:Q (.int xs.length (s.toks+1)) { s with toks:=s.toks+1+1 }):wpAny (model prog w) A (call (.builtin "len") [.ref d]) Q E s:=by
 refine Calls.call_function_entry kind_len plain_len entry_len (args_len1 _) ?_
 have hm':=hm
 obtain ⟨o,es,ep,ho,hc,hdat,hk,hp,hn⟩:=hm'
 have hz:es.size=xs.length:=size_of_entries hk
 unfold Builtin.«len»
 refine wpAny_bind (m:=oneArg "len" _) (wpAny_pure ?_)
 refine wpAny_bind (m:=callSpecial? (.ref d) (Str.ofString "__len__")) (wpAny_callSpecial?_slot (name:=Str.ofString "__len__") hm.typeIs PySem.F.slot_dict_len
  (wpAny_call_entry PySem.F.slot_dict_len hm.typeIs PySem.F.entry_dict_len ?_ (PySem.F.args_dict_len_1 _)))
 show wpAny _ _ (dictSize d >>= _) _ _ s
 unfold dictSize;refine wpAny_bind (wpAny_bind (wpAny_dictEntries ho hdat (wpAny_pure ?_)))
 show wpAny _ _ (Builtin.Dict.pendingCount d >>= _) _ _ s
 refine wpAny_bind (wpAny_pendingCount_other hd ?_)
 refine wpAny_ret_mkInt ?_
 rw [show ((es.size:Int)+((0:Nat):Int))=(xs.length:Int) by rw [hz];simp]
 show wpAny _ _ _ _ _ { s with toks:=s.toks+1 }
 refine wpAny_bind (wpAny_holding (wpAny_pure ?_))
 refine wpAny_bind (wpAny_letGo ?_)
 show wpAny _ _ (if ((xs.length:Nat):Int)<0 then _ else _) _ _ _
 rw [if_neg (by omega)]
 show wpAny _ _ (if ((xs.length:Nat):Int)≥2 ^ 63 then _ else _) _ _ _
 rw [if_neg (by omega)]
 exact wpAny_bind (wpAny_mkInt (wpAny_pure ⟨_,rfl,h⟩))
end
def xh (P:Program) (w:World) (K:Fg) (td ty:TE):TE:=fun σ H Q=>td σ H fun x H1=>ty σ H1 fun y H2=>∃a b sh kvs ks v,x=.ref a/\y=.ref b/\D2 P w K H2 sh a kvs/\K2 K H2 ks b/\ks.map isT=sh/\cH kvs ks=some v/\Q v H2
def jV (P:Program) (w:World) (K:Fg) (ty td:TE):TE:=fun σ H Q=>ty σ H fun y H1=>td σ H1 fun x H2=>∃a b sh kvs ks,x=.ref a/\y=.ref b/\D2 P w K H2 sh a kvs/\K2 K H2 ks b/\ks.map isT=sh/\Q (.bl (!(cH kvs ks).isSome)) H2
def rl (P:Program) (w:World) (K:Fg) (td ty tv:TE):TS:=fun D σ H=>tv σ H fun v H1=>td σ H1 fun x H2=>ty σ H2 fun y H3=>∃a b sh kvs ks,x=.ref a/\y=.ref b/\D2 P w K H3 sh a kvs/\K2 K H3 ks b/\ks.map isT=sh/\kvs.length<1000/\cH kvs ks=none /\
 ∀ob,D2 P w K (upd H3 a ob) sh a (kvs++[(ks,v)])->D.nx σ (upd H3 a ob)
def Ez (P:Program) (w:World) (K:Fg) (sh:List Bool):TE:=fun _ H Q=>∀p ob,H p=none->D2 P w K (upd H p ob) sh p []->Q (.ref p) (upd H p ob)
def rQ (P:Program) (w:World) (K:Fg):List V->Hp->VK->Prop:=fun xs H Q=>∃a sh kvs,xs=[.ref a]/\D2 P w K H sh a kvs/\Q (.int (kvs.length:Int)) H
theorem EY {P:Program} {w:World} {H:Hp} {h:Heap} {sh:List Bool} {a:Addr} {xs:List (List It×Addr×Value)} (x:∃o es ep,h.get? a=some o/\o.ExactDict/\o.data=.dict es ep/\es.toList=xs.map (entryOfKey (fx P w sh))):ObjOk P w H h a (uw P w sh a xs):=by
 refine ⟨x,let ⟨o,_,_,ho,_⟩:=x;⟨o,ho⟩,fun h1 h2 ⟨o,es,ep,ho,r⟩ k=>⟨o,es,ep,k o ho,r⟩⟩
section
variable {X:Cx} {o i e value:Expr} {pos pos' tpos:Pos} {td ty tv:TE}
theorem Ff (hu:X.A.units+2<cLine) (ho:PE X o td) (hi:PE X i ty) (hs:Da i):PE X (.Subscript o i pos) (xh X.prog X.w X.K td ty):=by
 intro pins s σ H Q I h;refine uU PySem.F.slot_dict_getitem.lookup hs (bq (ho pins s σ H _ I h) fun u s1 ⟨x,H1,I1,rx,q1⟩=>bq (hi pins s1 σ H1 _ I1 q1) fun iv s2 ⟨y,H2,I2,ry,a,b,sh,kvs,ks,v,ex,ey,⟨xs,e,r,nd,hz,hd⟩,k,hsh,hv,q2⟩=>?_)
 subst ex ey;obtain rfl:u=Value.ref a:=rx
 obtain rfl:iv=Value.ref b:=ry
 have dd:=yg I2 e r nd
 refine ⟨dd.typeIs,?_⟩
 obtain ⟨w',hw,rw'⟩:=RelO.some_of (v:=v) (o:=(atKey xs ks).map (·.2)) (by rw [<-hv];exact r.val ks)
 obtain ⟨p,hp,hp2⟩:=Option.map_eq_some_iff.mp hw;refine wpAny_getItem_heap (j6 hu) ⟨AQ I2 k,hsh⟩ dd hp ?_
 rw [hp2];exact ⟨v,H2,I2.tok _,rw',q2⟩
theorem mz (hu:X.A.units+2<cLine) (hi:PE X i ty) (ho:PE X o td):PC X .NotIn i o (jV X.prog X.w X.K ty td):=by
 intro pins s σ H Q I h;refine bq (hi pins s σ H _ I h) fun iv s1 ⟨y,H1,I1,ry,q1⟩=>bq (ho pins s1 σ H1 _ I1 q1) fun u s2 ⟨x,H2,I2,rx,a,b,sh,kvs,ks,ex,ey,⟨xs,e,r,nd,hz,hd⟩,k,hsh,q2⟩=>?_
 subst ex ey;obtain rfl:u=Value.ref a:=rx
 obtain rfl:iv=Value.ref b:=ry
 have dd:=yg I2 e r nd
 refine wpAny_notIn_heap (j6 hu) ⟨AQ I2 k,hsh⟩ hd dd ?_
 have q:=(r.val ks).isSome_eq
 rw [Option.isSome_map] at q;rw [<-q];exact ⟨.bl (!(cH kvs ks).isSome),H2,I2.tok _,rfl,q2⟩
theorem rV (hu:X.A.units+2<cLine) (ho:PE X o td) (hi:PE X i ty) (hv:PE X value tv) (hs:swapsWith value (some (.Subscript o i pos')) pos.line X.env=pure false) :
  PS X (.Assign [.Subscript o i pos'] value pos) (rl X.prog X.w X.K td ty tv):=by
 intro pins s σ H D I h;refine wpAny_Assign_Subscript (bq (hv pins s σ H _ I h) fun r s1 ⟨v,H1,I1,rv,q1⟩=>bq (ho pins s1 σ H1 _ I1 q1) fun u s2 ⟨x,H2,I2,rx,q2⟩=>bq (hi pins s2 σ H2 _ I2 q2) fun iv s3 ⟨y,H3,I3,ry,a,b,sh,kvs,ks,ex,ey,⟨xs,e,rr,nd,hz,hd⟩,k,hsh,hl,hn,q3⟩=>?_) hs
 subst ex ey;obtain rfl:u=Value.ref a:=rx
 obtain rfl:iv=Value.ref b:=ry
 have dd:=yg I3 e rr nd
 have hb:(1000:Nat)<=sizeLine:=by decide
 have hat:atKey xs ks=none:=by
  have q:=(rr.val ks).isSome_eq
  rw [hn,Option.isSome_map] at q
  cases z:atKey xs ks with
  | none=>rfl
  | some _=>rw [z] at q;cases q
 refine wpAny_setItem_heap (hsz:=by omega) (j6 hu) ⟨AQ I3 k,hsh⟩ dd fun h' dd' hs'=>?_
 rw [storedH_new hat] at dd';obtain ⟨q,es,ep,hq,h2,h3,h4,_,h5⟩:=dd'
 have m:∀c ys,SqT X.K H3 c ys->SqT X.K (upd H3 a (uw X.prog X.w sh a (xs++[(ks,b,r)]))) c ys:=fun c ys hc=>by
  rcases hc with hc | hc
  ·left
   rcases hc with hc | ⟨o',hc⟩
   ·exact .inl (by rw [bE (fun z=>by subst z;rw [e] at hc;cases hc)];exact hc)
   ·exact .inr ⟨o',by rw [bE (fun z=>by subst z;rw [e] at hc;cases hc)];exact hc⟩
  ·exact .inr hc
 have I4:=ot (t':=s3.toks+(fx X.prog X.w sh).draws ks) (ob:=uw X.prog X.w sh a (xs++[(ks,b,r)])) I3 (by rw [e];exact True.intro) hs' ⟨q,hq⟩ (EY ⟨q,es,ep,hq,h2,h3,h4⟩)
 refine ⟨σ,_,I4,q3 _ ⟨xs++[(ks,b,r)],cB,?_,h5,?_,hd⟩⟩
 ·exact Paired.snoc (rr.mono m) ⟨rfl,hsh,k.mono m,rv⟩
 ·rw [length_append,length_singleton,<-rr.len]
  omega
theorem kg (sh:List Bool):PE X (.Dict [] [] pos) (Ez X.prog X.w X.K sh):=fun pins s σ H Q I h=>by
 have hp:=I.hok.fresh (Nat.le_refl s.heap.objs.size)
 refine wpAny_Dict_empty ⟨.ref s.heap.objs.size,_,I.laid (a:=s.heap.objs.size) (o:=uw X.prog X.w sh s.heap.objs.size []) (t':=s.toks) (fun _ _ q=>Heap.get?_push_of_some _ q) (Nat.le_refl _) (EY ⟨_,#[],0,Heap.get?_push_size _ rfl,⟨rfl,rfl,rfl⟩,rfl,rfl⟩),rfl,h _ _ hp ⟨[],cB,.nil,nodup_nil,by simp,beq_eq_false_iff_ne.mpr (Ne.symm (Nat.ne_of_lt I.big))⟩⟩
theorem m5:CallR X (.builtin "len") (rQ X.prog X.w X.K):=by
 intro pins s σ H xs us Q I rv h;obtain ⟨a,sh,kvs,rfl,⟨xs,e,r,nd,hz,hd⟩,q⟩:=h;obtain ⟨u,rfl,ru⟩:=rv.one
 cases ru;have dd:=yg I e r nd
 refine sN hd dd (by omega) ?_
 rw [<-r.len];exact ⟨.int (kvs.length:Int),H,I.tok _,⟨_,rfl⟩,q⟩
end
def dg:PySem.PyData->Option dv
 | .int n=>some (.inl n)
 | .str x=>some (.inr x)
 | _=>none
def wZ:List PySem.PyData->Option (List dv)
 | []=>some []
 | d::r=>match dg d,wZ r with
  | some k,some ks=>some (k::ks)
  | _,_=>none
def fZ:PySem.PyData->Option It
 | .tuple ds=>(wZ ds).map .inr
 | d=>(dg d).map .inl
def fY:List PySem.PyData->Option (List It)
 | []=>some []
 | d::r=>match fZ d,fY r with
  | some k,some ks=>some (k::ks)
  | _,_=>none
def uR:PySem.PyData->Option (List It)
 | .tuple ds=>fY ds
 | _=>none
def jU:List PySem.PyData->Option (List (List It))
 | []=>some []
 | d::r=>match uR d,jU r with
  | some k,some ks=>some (k::ks)
  | _,_=>none
def sI (k:List It) (acc:List (List It)):Bool:=acc.any fun a=>decide (a=k)
theorem memB_iff {k:List It} {acc:List (List It)}:sI k acc=true↔k∈acc:=by
 unfold sI;rw [any_eq_true];exact ⟨fun ⟨x,h,e⟩=>by rw [<-of_decide_eq_true e];exact h,fun h=>⟨k,h,decide_eq_true rfl⟩⟩
def cn (acc:List (List It)) (k:List It):List (List It):=if sI k acc then acc else acc++[k]
def bU (ks:List (List It)):List (List It):=ks.foldl cn []
def fy (k:List It):List (List It)->Nat
 | []=>0
 | a::r=>if a=k then 0 else fy k r+1
def cW (ks:List (List It)):List Int:=ks.map fun k=>(fy k (bU ks):Int)
def yB (ks:List (List It)):Bool:=ks.all fun k=>decide (k.map isT=(ks.headD []).map isT)
def qt:List PySem.PyData->Res
 | [.list ds]=>match jU ds with
  | some ks=>if ks.length<=900/\yB ks=true then .ok ⟨.lst .leaf,.list ((cW ks).map .int)⟩ else .no
  | none=>.no
 | _=>.no
theorem yh {ks:List (List It)} {i:Nat} (h:i<ks.length):bU (ks.take (i+1))=cn (bU (ks.take i)) ks[i]:=by
 unfold bU;rw [take_succ,getElem?_eq_getElem h,List.foldl_append];rfl
theorem EH {ks:List (List It)}:∀i,i<=ks.length->(bU (ks.take i)).length<=i
 | 0,_=>by simp [bU]
 | i+1,h=>by
  have:=EH (ks:=ks) i (by omega)
  rw [yh (by omega)]
  unfold cn;split
  ·omega
  ·rw [length_append,length_singleton];omega
theorem pI {acc:List (List It)} {k x:List It}:x∈cn acc k↔x∈acc\/x=k:=by
 unfold cn;split
 ·rename_i h
  exact ⟨.inl,fun z=>z.elim id fun e=>by rw [e];exact memB_iff.mp h⟩
 ·simp
theorem kB:∀{ks acc:List (List It)} {x:List It},x∈ks.foldl cn acc↔x∈acc\/x∈ks
 | [],acc,x=>by simp
 | k::ks,acc,x=>by
  rw [List.foldl_cons,kB,pI,mem_cons,or_assoc]
theorem mem_dst {ks:List (List It)} {x:List It}:x∈bU ks↔x∈ks:=by
 unfold bU;rw [kB];simp
def kH:Nat->List (List It)->List (List It×V)
 | _,[]=>[]
 | i,k::r=>(k,.int (i:Int))::kH (i+1) r
theorem EM:∀{l:List (List It)} {i:Nat},(kH i l).length=l.length
 | [],_=>rfl
 | _::l,i=>by rw [kH,length_cons,EM,length_cons]
theorem kG:∀{l:List (List It)} {i:Nat} {k:List It},kH i (l++[k])=kH i l++[(k,.int ((i+l.length:Nat):Int))]
 | [],i,k=>by simp [kH]
 | a::l,i,k=>by
  rw [cons_append,kH,kG,kH,cons_append,length_cons,show i+1+l.length=i+(l.length+1) by omega]
theorem ET:∀{l:List (List It)} {i:Nat} {k:List It},k∈l->cH (kH i l) k=some (.int ((i+fy k l:Nat):Int))
 | a::l,i,k,h=>by
  by_cases e:a=k
  ·subst e
   rw [kH,DC rfl,fy,if_pos rfl];rfl
  ·rw [kH,AZ e,fy,if_neg e,ET ((List.mem_cons.mp h).resolve_left (Ne.symm e)),show i+1+fy k l=i+(fy k l+1) by omega]
theorem EN:∀{l:List (List It)} {i:Nat} {k:List It},k∉l->cH (kH i l) k=none
 | [],_,_,_=>rfl
 | a::l,i,k,h=>by
  have e:¬a=k:=fun e=>h (by rw [e];exact mem_cons_self)
  rw [kH,AZ e,EN fun z=>h (mem_cons_of_mem _ z)]
section
variable {K:Fg} {H:Hp}
theorem u7 {v:V} {d:PySem.PyData} {k:dv} (r:Rep K H v d) (e:dg d=some k):v=kV k:=by
 cases r<;>simp only [dg] at e<;>cases e<;>rfl
theorem iJ:∀{vs:List V} {ds:List PySem.PyData} {ks:List dv},vs.length=ds.length->(∀(i:Nat) v d,vs[i]?=some v->ds[i]?=some d->Rep K H v d)->wZ ds=some ks->vs=ks.map kV
 | [],[],ks,_,_,e=>by cases e;rfl
 | v::vs,d::ds,ks,hl,hr,e=>by
  unfold wZ at e;split at e
  ·rename_i k ks' e1 e2
   cases e;have h1:=u7 (hr 0 v d rfl rfl) e1
   have h2:vs=ks'.map kV:=iJ (by simpa using hl) (fun i v d a b=>hr (i+1) v d (by simpa using a) (by simpa using b)) e2
   rw [h1,h2];rfl
  ·cases e
 | [],_::_,_,hl,_,_=>by simp at hl
 | _::_,[],_,hl,_,_=>by simp at hl
theorem yF {v:V} {d:PySem.PyData} {k:It} (r:Rep K H v d) (e:fZ d=some k):Ei K H k v:=by
 cases r with
 | tup h hl hr=>
  simp only [fZ] at e
  obtain ⟨l,hl',rfl⟩:=Option.map_eq_some_iff.mp e;exact ⟨_,rfl,by rw [<-iJ hl hr hl'];exact h⟩
 | int i=>simp only [fZ,dg] at e;cases e;rfl
 | str x=>simp only [fZ,dg] at e;cases e;rfl
 | lst _ _ _=>simp only [fZ,dg] at e;cases e
 | non=>simp only [fZ,dg] at e;cases e
 | bl b=>simp only [fZ,dg] at e;cases e
theorem j8:∀{vs:List V} {ds:List PySem.PyData} {ks:List It},vs.length=ds.length->(∀(i:Nat) v d,vs[i]?=some v->ds[i]?=some d->Rep K H v d)->fY ds=some ks->Paired (Ei K H) ks vs
 | [],[],ks,_,_,e=>by cases e;exact .nil
 | v::vs,d::ds,ks,hl,hr,e=>by
  unfold fY at e;split at e
  ·rename_i k ks' e1 e2
   cases e;exact .cons (yF (hr 0 v d rfl rfl) e1) (j8 (by simpa using hl) (fun i v d a b=>hr (i+1) v d (by simpa using a) (by simpa using b)) e2)
  ·cases e
 | [],_::_,_,hl,_,_=>by simp at hl
 | _::_,[],_,hl,_,_=>by simp at hl
theorem yG {v:V} {d:PySem.PyData} {k:List It} (r:Rep K H v d) (e:uR d=some k):∃b,v=.ref b/\K2 K H k b:=by
 cases r with
 | @tup p vs ds h hl hr=>exact ⟨p,rfl,vs,h,j8 hl hr e⟩
 | _=>cases e
theorem nt:∀{ds:List PySem.PyData} {ks:List (List It)},jU ds=some ks->ks.length=ds.length/\∀(i:Nat) d,ds[i]?=some d->∃k,ks[i]?=some k/\uR d=some k
 | [],ks,e=>by cases e;exact ⟨rfl,fun i d h=>by simp at h⟩
 | d::ds,ks,e=>by
  unfold jU at e;split at e
  ·rename_i k ks' e1 e2
   cases e;obtain ⟨a,b⟩:=nt e2;refine ⟨by simp [a],fun i d' h=>?_⟩
   cases i with
   | zero=>cases h;exact ⟨k,rfl,e1⟩
   | succ i=>exact b i d' (by simpa using h)
  ·cases e
theorem uW {a c:Addr} {o o':HO} {xs:List V} (e:H a=some o) (h1:∀xs,o≠.tup xs) (h2:∀b xs,o≠.frz b (.tup xs)) (h:SqT K H c xs):SqT K (upd H a o') c xs:=by
 rcases h with h | h
 ·left
  rcases h with h | ⟨b,h⟩
  ·exact .inl (by rw [bE (fun z=>by subst z;rw [e] at h;exact h1 xs (Option.some.inj h))];exact h)
  ·exact .inr ⟨b,by rw [bE (fun z=>by subst z;rw [e] at h;exact h2 b xs (Option.some.inj h))];exact h⟩
 ·exact .inr h
theorem D2.mono {P:Program} {w:World} {H':Hp} {sh:List Bool} {a:Addr} {kvs:List (List It×V)} (x:D2 P w K H sh a kvs) (e:H' a=H a) (m:∀c xs,SqT K H c xs->SqT K H' c xs):D2 P w K H' sh a kvs:=by
 obtain ⟨xs,h1,h2,h3⟩:=x;exact ⟨xs,e.trans h1,h2.mono m,h3⟩
end
abbrev b7:List Str:=["keys", "numbers", "key"]
abbrev fF:List Str:=["len"]
def HZ (P:Program) (w:World) (K:Fg):TS:=oP (tB (jV P w K (aD 2) (aD 1))) (rl P w K (aD 1) (aD 2) (oQ (rQ P w K) (aT (aD 1) bF))) iG
def yw (P:Program) (w:World) (K:Fg) (sh:List Bool):TS:=
 cC (fH (Ez P w K sh) (gName 1)) (cC (eC (cU K (aD 0)) (gName 2) (HZ P w K)) (mf (dh [2] (cU K (aD 0)) (gName 2) gc (xh P w K (aD 1) (aD 2)))))
theorem nZ {A B:Bool->Hp->Prop} {H:Hp} {σ:St} (h:A true H):gc σ H fun b H=>if b=true then A b H else B b H:=by
 show (if true=true then A true H else B true H)
 rw [if_pos rfl];exact h
theorem yO {P:Program} {w:World} {K:Fg} {H:Hp} {O:List Addr} {vs:List V} {ds:List PySem.PyData} {ks:List (List It)} {sh:List Bool} {Q:VK} {Qn:St->Hp->Prop} (nd:O.Nodup) (inH:∀a∈O,H a≠none) (rs:Reps K (bA H O) vs [.list ds])
  (hk:jU ds=some ks) (hn:ks.length<=900) (hsh:∀k∈ks,k.map isT=sh)
  (q:∀v H' G,RetOk K H O ⟨.lst .leaf,.list ((cW ks).map .int)⟩ v H' G->Q v H'):yw P w K sh { nx:=Qn,rt:=Q } (L2.start b7 vs) H:=by
 have hvl:vs.length=1:=rs.1
 match vs,hvl,rs with
 | [v0],_,rs=>
 have r0:=rs.2 0 v0 (.list ds) rfl rfl
 cases r0 with
 | @lst p ws _ hq hl hr=>
 obtain ⟨kl,kat⟩:=nt hk;have hb:(1000:Nat)<=sizeLine:=by decide
 have hs0:Same (bA H O) H:=hid_le
 intro d ob hd dd;have sHd:Same H (upd H d ob):=cu hd
 have hbd:bA H O d=none:=by unfold bA;split<;>first | rfl | exact hd
 refine ⟨.ref p,rfl,p,rfl,⟨ws,(hs0.trans sHd).seq hq⟩,fun k m σ' H'=>m=ws.length-k/\k<=ws.length/\(∃x2,σ'=[some (.ref p),some (.ref d),x2])/\D2 P w K H' sh d (kH 0 (bU (ks.take k)))/\Same H H',⟨ws.length,by simp,Nat.zero_le _,⟨none,rfl⟩,by simpa [bU,kH] using dd,sHd⟩,?_⟩
 have keyAt:∀(k:Nat),k<ws.length->∀H',Same H H'->∃x b,ws[k]?=some (.ref b)/\ks[k]?=some x/\K2 K H' x b/\x.map isT=sh:=fun k hk' H' sH=>by
  have hkd:k<ds.length:=by omega
  obtain ⟨x,e1,e2⟩:=kat k ds[k] (getElem?_eq_getElem hkd)
  obtain ⟨b,e3,e4⟩:=yG (hr k ws[k] ds[k] (getElem?_eq_getElem hk') (getElem?_eq_getElem hkd)) e2
  exact ⟨x,b,by rw [getElem?_eq_getElem hk',e3],e1,e4.mono fun c xs h=>dG (hs0.trans sH) h,hsh x (mem_of_getElem? e1)⟩
 rintro k m σ' H' ⟨rfl,hk',⟨x2,rfl⟩,hD,sH⟩
 have hP:SqL K H' p ws:=(hs0.trans sH).seq hq
 by_cases hlt:k<ws.length
 case pos=>
  right
  obtain ⟨x,b,e1,e2,e3,e4⟩:=keyAt k hlt H' sH
  have hkk:k<ks.length:=by omega
  have ex:ks[k]=x:=by rw [getElem?_eq_getElem hkk] at e2;exact Option.some.inj e2
  refine ⟨⟨ws,_,hP,e1⟩,fun σ2 H2=>(∃x2,σ2=[some (.ref p),some (.ref d),x2])/\D2 P w K H2 sh d (kH 0 (bU (ks.take (k+1))))/\Same H H2,fun σ2 H2 q2=>⟨ws.length-(k+1),by omega,rfl,hlt,q2⟩,?_⟩
  rintro v H2 ⟨rfl,hv⟩
  have ev:v=.ref b:=Option.some.inj ((hv ws hP).symm.trans e1)
  subst ev;rw [yh hkk,ex];show HZ P w K _ [some (.ref p),some (.ref d),some (.ref b)] H2
  refine ⟨.ref b,rfl,.ref d,rfl,d,b,sh,_,x,rfl,rfl,hD,e3,e4,_,rfl,?_⟩
  by_cases hm:x∈bU (ks.take k)
  ·rw [ET hm]
   refine cX ⟨⟨_,rfl⟩,?_,sH⟩
   unfold cn;rw [if_pos (memB_iff.mpr hm)];exact hD
  ·rw [EN hm]
   have hln:=EH (ks:=ks) k (by omega)
   refine dq ⟨.ref d,rfl,d,sh,_,rfl,hD,.ref d,rfl,.ref b,rfl,d,b,sh,_,x,rfl,rfl,hD,e3,e4,by rw [EM];omega,EN hm,fun ob' hD'=>⟨⟨_,rfl⟩,?_,fun c o hc=>?_⟩⟩
   ·unfold cn
    rw [if_neg (fun z=>hm (memB_iff.mp z)),kG]
    rw [EM] at hD';simpa using hD'
   ·rw [bE (fun z=>by subst z;rw [hd] at hc;cases hc)]
    exact sH c o hc
 case neg=>
  left
  refine ⟨⟨ws,hP,by omega⟩,?_⟩
  have hke:ks.take k=ks:=take_of_length_le (by omega)
  rw [hke] at hD;show dh [2] (cU K (aD 0)) (gName 2) gc (xh P w K (aD 1) (aD 2)) [some (.ref p),some (.ref d),x2] H' Q
  refine ⟨.ref p,rfl,p,rfl,⟨ws,hP⟩,fun L hL=>?_⟩
  have hbl:aP [2] [some (.ref p),some (.ref d),x2]=[some (.ref p),some (.ref d),none]:=by simp [aP]
  have hdL:d≠L:=fun z=>by
   subst z;obtain ⟨_,e,_⟩:=hD;rw [e] at hL
   cases hL
  have HL:H L=none:=sH.free hL
  refine ⟨fun i m ys H2=>m=ws.length-i/\i<=ws.length/\ys=((cW ks).take i).map V.int/\H2 L=some (.lst ys)/\D2 P w K H2 sh d (kH 0 (bU ks))/\Same H H2,⟨ws.length,by simp,Nat.zero_le _,by simp,cB,hD.mono (bE hdL) fun c xs h=>dG (cu hL) h,sH.trans (cu hL)⟩,?_⟩
  rintro i m ys H2 ⟨rfl,hi,rfl,hLs,hD2,sH2⟩
  refine ⟨hLs,?_⟩
  have hP2:SqL K H2 p ws:=(hs0.trans sH2).seq hq
  have nl:(cW ks).length=ws.length:=by unfold cW;rw [length_map];omega
  by_cases hlt2:i<ws.length
  case neg=>
   left
   refine ⟨⟨ws,hP2,by omega⟩,q _ _ [L] ⟨sH2,fun a ha=>by rw [List.mem_singleton.mp ha];exact HL,fun a ha=>by rw [List.mem_singleton.mp ha,hLs];exact Option.some_ne_none _,by simp,?_,rfl⟩⟩
   have ht:(cW ks).take i=cW ks:=take_of_length_le (by omega)
   rw [ht] at hLs;refine Own.mkLeaves hLs (by simp) fun j u d' h1 h2=>?_
   rw [getElem?_map] at h1 h2
   cases e3:(cW ks)[j]? with
   | none=>rw [e3] at h1;cases h1
   | some z=>
    rw [e3] at h1 h2
    cases h1
    cases h2;exact .int z
  case pos=>
   right
   obtain ⟨x,b,e1,e2,e3,e4⟩:=keyAt i hlt2 H2 sH2;refine ⟨⟨ws,_,hP2,e1⟩,by rw [length_map,length_take];omega,?_⟩
   rintro v H3 ⟨rfl,hv⟩
   have ev:v=.ref b:=Option.some.inj ((hv ws hP2).symm.trans e1)
   subst ev;rw [hbl];show Az [some (.ref p),some (.ref d),none] [some (.ref p),some (.ref d),some (.ref b)]/\_
   refine ⟨⟨rfl,fun j u h=>?_⟩,?_⟩
   ·match j,h with
    | 0,h=>exact h
    | 1,h=>exact h
    | 2,h=>cases h
    | j+3,h=>cases h
   refine nZ ?_
   have hm:x∈bU ks:=mem_dst.mpr (mem_of_getElem? e2)
   refine ⟨.ref d,rfl,.ref b,rfl,d,b,sh,_,x,_,rfl,rfl,hD2,e3,e4,ET hm,hLs,ws.length-(i+1),by omega,rfl,hlt2,?_,cB,hD2.mono (bE hdL) fun c xs h=>uW hLs (fun xs z=>by cases z) (fun b xs z=>by cases z) h,fun c o hc=>?_⟩
   ·rw [take_succ,map_append]
    have:(cW ks)[i]?=some ((fy x (bU ks):Nat):Int):=by unfold cW;rw [getElem?_map,e2];rfl
    rw [this];simp
   ·rw [bE (fun z=>by subst z;rw [HL] at hc;cases hc)]
    exact sH2 c o hc
theorem il {ds:List PySem.PyData} {p:PV} (h:qt ds=.ok p):∃xs ks,ds=[.list xs]/\jU xs=some ks/\ks.length<=900/\yB ks=true/\p=⟨.lst .leaf,.list ((cW ks).map .int)⟩:=by
 unfold qt at h;split at h
 ·rename_i xs
  split at h
  ·rename_i ks e
   split at h
   ·rename_i c
    cases h;exact ⟨xs,ks,rfl,e,c.1,c.2,rfl⟩
   ·cases h
  ·cases h
 ·cases h
theorem zr {P:Program} {w:World} {K:Fg} {mg:Str->Option Value} {base:Heap} {f:Addr} {fd:FuncData} {k:Nat} {s_num:Stmt} (F:Fun K "numbered" "numbered" s_num f fd) (hm:mg "numbered"=some (.ref f)) (b:Binds K fd ["keys"] []) (n_len:mg "len"=none)
  (sc:bB b7 ["keys"] (cP s_num)) (cp:gR b7 fF [0,1,2] [1] [0,1,2] [0,2] [0] (cP s_num)=true) (nm:pH b7 fF=true)
  (bd:∀{X:Cx} (sh:List Bool),Cp X b7 fF [0,1,2] [1] [0,1,2] [0,2] [0]->Rm X->PassesOwn (model X.prog X.w) X.A X.env X.xe->X.mg "len"=none->PSs X (jG s_num) (yw X.prog X.w X.K sh)):DefOk P w K mg base (k+1) "numbered" 1 qt:=by
 refine ⟨f,fd,["keys"],F.ok sc (fun vs H Q E h=>h.1) (fun cdv A outer s H vs Q E hr h=>?_),hm,F.kp,b⟩
 obtain ⟨hl,O,ds,nd,inH,rs,w'⟩:=h
 cases e:qt ds with
 | er c=>rw [e] at w';exact w'.elim
 | no=>rw [e] at w';exact w'.elim
 | ok p=>
  rw [e] at w';obtain ⟨xs,ks,rfl,e1,e2,e3,rfl⟩:=il e;exact ⟨_,bd ((ks.headD []).map isT) (Cp.fn cp nm) hr.units PassesOwn.never n_len,yO nd inH rs e1 e2 (fun k hk=>of_decide_eq_true (List.all_eq_true.mp e3 k hk)) w'⟩
end T
namespace KC
open PySem PySem.Spec L2 T
open PyProof.Rows hiding St
noncomputable def cf:Stmt:=DX 14
theorem jY:bB b7 ["keys"] (cP cf):=⟨rfl,rfl,rfl,by decide +kernel,rfl,by decide +kernel,by decide +kernel⟩
theorem lB:gR b7 fF [0,1,2] [1] [0,1,2] [0,2] [0] (cP cf)=true:=by kernel_rfl
theorem kr:pH b7 fF=true:=by kernel_rfl
theorem nv {X:Cx} {gl:List Str} {vs cs ls lo gs:List Nat} (S:Cp X b7 gl vs cs ls lo gs) (i:Nat) (x:Str) (pos:Pos) (e:b7[i]?=some x) (hi:vs.contains i=true):PE X (.Name x pos) (aD i):=by
 have m:=S.nm x (mem_of_getElem? e)
 exact qB (by rw [S.hN];exact e) (S.vis i x e hi) m.1 m.2
theorem sC {X:Cx} {scope:Scope} {p1 p2 p3 p4 p5 pos:Pos} (S:Cp X b7 fF [0,1,2] [1] [0,1,2] [0,2] [0]) (hu:X.A.units+2<cLine) (h1:xX b7 [2] [1] scope=true) (h2:gR b7 fF [1,2] [1] [2] [] [] scope=true) (hs:∀x,foldedSetIterable (.Name "keys" p5) X.env x=pure x) :
  PE X (.ListComp (.Subscript (.Name "numbers" p1) (.Name "key" p2) p3) [⟨.Name "key" p4,.Name "keys" p5,[],0⟩] scope pos) (dh [2] (cU X.K (aD 0)) (gName 2) gc (xh X.prog X.w X.K (aD 1) (aD 2))):=by
 have hN:X.N.Nodup:=by rw [S.hN];exact S.nd
 have B:=fun cells C s₀ H₀ ex=>S.blk h2 cells C s₀ H₀ ex
 exact AS (BA S h1) S.calm (xi (nv S 0 _ _ rfl rfl))
  (fun cells C s₀ H₀ ex=>jI (X:=L2.blk X scope cells C s₀ H₀ ex) (i:=2) hN (by show X.N[2]?=_;rw [S.hN];rfl) ((B cells C s₀ H₀ ex).loc 2 _ rfl rfl).1 ((B cells C s₀ H₀ ex).loc 2 _ rfl rfl).2)
  (fun cells C s₀ H₀ ex=>Dm)
  (fun cells C s₀ H₀ ex=>Ff (X:=L2.blk X scope cells C s₀ H₀ ex) hu (nv (B cells C s₀ H₀ ex) 1 _ _ rfl rfl) (nv (B cells C s₀ H₀ ex) 2 _ _ rfl rfl) (fun _ _=>rfl)) hs
theorem lH {X:Cx} (sh:List Bool) (S:Cp X b7 fF [0,1,2] [1] [0,1,2] [0,2] [0]) (R:Rm X) (hp:PassesOwn (model X.prog X.w) X.A X.env X.xe) (n_len:X.mg "len"=none):PSs X (jG cf) (yw X.prog X.w X.K sh):=by
 have hN:X.N.Nodup:=by rw [S.hN];exact S.nd
 have hu:X.A.units+2<cLine:=Nat.lt_of_le_of_lt (by omega) R
 have g:∀(i:Nat) (x:Str),b7[i]?=some x->X.N[i]?=some x:=fun i x e=>by rw [S.hN];exact e
 have lc:∀(i:Nat) (x:Str),b7[i]?=some x->[0,1,2].contains i=true->Loc X.env.scope x/\(X.fn x=true\/X.env.scope.names.lookup x=some .local):=fun i x e hi=>S.loc i x e hi
 refine jb (uj hN (g 1 _ rfl) (lc 1 _ rfl rfl).1 (kg sh) rfl (lc 1 _ rfl rfl).2) ?_
 refine jb (qx hp S.calm (xi (nv S 0 _ _ rfl rfl)) (jI hN (g 2 _ rfl) (lc 2 _ rfl rfl).1 (lc 2 _ rfl rfl).2) ?_ (fun _=>rfl)) ?_
 ·refine gX (iL (ze (mz hu (nv S 2 _ _ rfl rfl) (nv S 1 _ _ rfl rfl)) (by with_unfolding_all rfl)) ?_ AU)
  exact gX (rV hu (nv S 1 _ _ rfl rfl) (nv S 2 _ _ rfl rfl) (xk m5 (S.g (j:=0) rfl rfl).1 n_len lJ (dP (nv S 1 _ _ rfl rfl) fU (br rfl)) (S.g (j:=0) rfl rfl).2.2 (S.g (j:=0) rfl rfl).2.1 (br rfl) rfl) rfl)
 ·exact gX (xT (sC S hu (by kernel_rfl) (by kernel_rfl) (fun _=>rfl)))
theorem ki {P:Program} {w:World} {K:Fg} {mg:Str->Option Value} {base:Heap} {f:Addr} {fd:FuncData} {k:Nat} (F:Fun K "numbered" "numbered" cf f fd) (hm:mg "numbered"=some (.ref f)) (b:Binds K fd ["keys"] []) (n_len:mg "len"=none):DefOk P w K mg base (k+1) "numbered" 1 qt:=
 zr F hm b n_len jY lB kr fun sh S R hp n=>lH sh S R hp n
noncomputable def qe:FS:=(aj (av false 3 (yc (ag (ag (ae 0) (eK (.int 1))) (ae 1))))
  (aE (ux (aN aZ (ae 2)) (bD (ab (ae 3) (ab (ag (ag (ae 0) (eK (.int 0))) (ae 1)) af))) (bD (ab (ae 3) af)))))
noncomputable def cJ:List PySem.PyData->Res:=aF 4 qe
noncomputable def fR:FS:=(aE (yb (ab (ao .leaf 2 (aJ (ae 1)) az (ag (ae 0) (ae 2))) af)))
noncomputable def aX:List PySem.PyData->Res:=aF 3 fR
noncomputable def et:FS:=(aE (ah 1 qt (ab (ya .leaf 2 3 (ag (ae 0) (eK (.int 2))) az (bD (ab (ag (ae 1) (ae 2)) (ab (yc (ah 2 aX (ab (ae 1) (ab (ae 3) af)))) af)))) af)))
noncomputable def aI:List PySem.PyData->Res:=aF 4 et
noncomputable def d_class_numbers:FS:=(aj (av false 2 (ah 1 qt (ab (ao .leaf 4 (cK (ab (bb aU (ab (ag (ae 0) (eK (.int 0))) af)) af)) az (ah 3 cJ (ab (ae 0) (ab (ae 4) (ab (ae 1) af))))) af)))
  (aj (av false 3 (ah 2 aI (ab (ae 0) (ab (ae 2) af))))
  (aj (xg 1000 (aN aq (ax dS (ae 3) (ae 2)))
  (aj (av false 2 (ae 3))
  (av false 3 (ah 2 aI (ab (ae 0) (ab (ae 2) af))))))
  (aE (ae 2)))))
noncomputable def m_class_numbers:List PySem.PyData->Res:=aF 5 d_class_numbers
noncomputable def qf:FS:=(aj (av true 1 (ao (.lst .leaf) 3 (cK (ab (ax aG (bb gL (ab (ae 0) af)) (eK (.int 1))) af)) az (aQ .leaf af)))
  (aj (iI 2 3 (ae 0)
  (xc 1 (ae 3) (ae 2)))
  (aE (aV 1))))
noncomputable def cb:List PySem.PyData->Res:=aF 4 qf
noncomputable def qg:FS:=(aj (cR (ah 1 bo (ab (ae 0) af)))
  (aE (ah 1 cb (ab (ah 2 m_class_numbers (ab (ae 0) (ab (ae 1) af))) af))))
noncomputable def pJ:List PySem.PyData->Res:=aF 2 qg
noncomputable def d_least_world:FS:=(aj (cR (ah 1 bo (ab (ae 0) af)))
  (aj (av false 2 (ah 2 m_class_numbers (ab (ae 0) (ab (ae 1) af))))
  (aj (av false 3 (ao .leaf 7 (aJ (ah 1 cb (ab (ae 2) af))) az (ag (ae 7) (eK (.int 0)))))
  (aj (av false 4 (ao .leaf 8 (aJ (ae 3)) az (ag (ag (ae 0) (eK (.int 0))) (ae 8))))
  (aj (av false 5 (ao .leaf 8 (aJ (ae 3)) az (oE (ag (ag (ae 0) (eK (.int 1))) (ae 8)))))
  (aj (av false 6 (ao .leaf 8 (aJ (ae 3)) az (ah 2 aX (ab (ae 2) (ab (ag (ag (ae 0) (eK (.int 2))) (ae 8)) af)))))
  (aE (bD (ab (bD (ab (ae 4) (ab (ae 5) (ab (ae 6) af)))) (ab (ae 2) af))))))))))
noncomputable def m_least_world:List PySem.PyData->Res:=aF 9 d_least_world
noncomputable def ly:FS:=(aE (bD (ab (oE (ag (ae 0) (eK (.int 0)))) (ab (ao .leaf 1 (aJ (ag (ae 0) (eK (.int 1)))) az (oE (ae 1))) (ab (ao .leaf 1 (aJ (ag (ae 0) (eK (.int 2)))) az (oE (ae 1))) af)))))
noncomputable def cz:List PySem.PyData->Res:=aF 2 ly
noncomputable def eu:FS:=(aj (av false 3 (ah 3 m__law_world (ab (ae 0) (ab (ae 1) (ab (ae 2) af)))))
  (aj (av false 4 (ah 2 ay (ab (ae 0) (ab (ax aG (ax aG (ae 1) (eK (.int 1))) (ae 2)) af))))
  (aj (bV (aN aq (ax lQ (ax cj (ae 4) (eK (.int 3))) (eK (.int 0)))) (aj (av false 5 (aQ .leaf (ab (aQ .leaf (ab (eK (.str "a")) af)) (ab (aQ .leaf (ab (eK (.str "a")) af)) (ab (aQ .leaf (ab (eK (.str "b")) af)) af)))))
  (av false 3 (bD (ab (ag (ae 3) (eK (.int 0))) (ab (ao .leaf 6 (cK (ab (bb aU (ab (ag (ae 3) (eK (.int 0))) af)) af)) az (ag (ae 5) (ah 3 ai (ab (ae 4) (ab (ae 6) (ab (eK (.int 3)) af)))))) (ab (ag (ae 3) (eK (.int 2))) af)))))) aM)
  (aj (bV (aN aq (ax bL (ax cj (ae 4) (eK (.int 4))) (eK (.int 1)))) (av false 3 (bD (ab (ao .leaf 6 (cK (ab (bb aU (ab (ag (ae 3) (eK (.int 0))) af)) af)) az (ax kQ (ah 3 ai (ab (ae 4) (ab (ax aG (eK (.int 30)) (ae 6)) (ab (eK (.int 9)) af)))) (eK (.int 8)))) (ab (ag (ae 3) (eK (.int 1))) (ab (ag (ae 3) (eK (.int 2))) af))))) aM)
  (aE (ah 1 cz (ab (ae 3) af)))))))
noncomputable def bz:List PySem.PyData->Res:=aF 7 eu
noncomputable def d_law:FS:=(aj (av false 1 (ah 3 bz (ab (ae 0) (ab (eK (.int 1)) (ab (eK (.int 6)) af)))))
  (aj (av false 2 (ax bL (ax cj (ah 2 ay (ab (ae 0) (ab (eK (.int 0)) af))) (eK (.int 2))) (eK (.int 1))))
  (aj (av false 3 (ah 3 fO (ab (ae 0) (ab (eK (.int 11)) (ab (ax aG (eK (.int 1)) (ax cj (ah 2 ay (ab (ae 0) (ab (eK (.int 10)) af))) (eK (.int 12)))) af)))))
  (aj (bV (aN aq (ax lQ (ah 1 jo (ab (ae 3) af)) (eK (.int 60)))) (aE (eK (.bool true))) aM)
  (aj (av false 4 (ah 2 nS (ab (ae 1) (ab (ae 3) af))))
  (aj (BU [7,8] (ah 2 m_least_world (ab (ae 1) (ab (ae 2) af))))
  (Gn 7 (aj (av false 5 (ah 2 nS (ab (ae 7) (ab (ae 3) af))))
  (aj (bV (aN aq (ax dS (ao .leaf 9 (cK (ab (bb aU (ab (ag (ae 1) (eK (.int 0))) af)) af)) (aN aq (ax (cA false) (ag (ae 8) (ae 9)) (ae 5))) (ae 9)) (ae 4))) (aE (eK (.bool false))) aM)
  (aj (cI 6 (aJ (ah 2 pJ (ab (ae 1) (ab (ae 2) af))))
  (bV (aN aq (ax (cA true) (bb aU (ab (ao .leaf 9 (aJ (ae 6)) (aN aq (ax (cA false) (ae 9) (ae 4))) (ae 9)) af)) (bD (ab (eK (.int 0)) (ab (bb aU (ab (ae 6) af)) af))))) (aE (eK (.bool false))) aM))
  (aE (eK (.bool true)))))))))))))
noncomputable def m_law:List PySem.PyData->Res:=aF 10 d_law
end KC
namespace T
open PySem PySem.Spec L2
open PyProof.Rows hiding St
theorem sS:∀{l:List (List It)} {k:List It},k∈l->fy k l<l.length
 | a::l,k,h=>by
  unfold fy;split
  ·simp
  ·rename_i e
   have:=sS ((List.mem_cons.mp h).resolve_left (fun z=>e z.symm))
   simp
   exact this
theorem EK:∀{l:List (List It)} {k:List It},k∈l->l[fy k l]?=some k
 | a::l,k,h=>by
  unfold fy;split
  ·rename_i e;simp [e]
  ·rename_i e
   rw [List.getElem?_cons_succ];exact EK ((List.mem_cons.mp h).resolve_left (fun z=>e z.symm))
theorem vT {l:List (List It)} {a b:List It} (ha:a∈l) (hb:b∈l) (e:fy a l=fy b l):a=b:=by
 have h1:=EK ha
 rw [e,EK hb] at h1;exact (Option.some.inj h1).symm
theorem Bs:∀{l m:List (List It)} {k:List It},k∈l->fy k (l++m)=fy k l
 | a::l,m,k,h=>by
  rw [cons_append];unfold fy;split
  ·rfl
  ·rename_i e
   rw [Bs ((List.mem_cons.mp h).resolve_left (fun z=>e z.symm))]
theorem Bt:∀{l:List (List It)} {k:List It},k∉l->fy k (l++[k])=l.length
 | [],k,_=>by simp [fy]
 | a::l,k,h=>by
  rw [cons_append];unfold fy;rw [if_neg (fun e=>h (by rw [e];exact mem_cons_self)),Bt (fun z=>h (mem_cons_of_mem _ z)),length_cons]
theorem d9:∀{ks:List (List It)} (m:Nat),m<=ks.length->∀(c:Nat) x,(bU (ks.take m))[c]?=some x->fy x (bU (ks.take m))=c
 | ks,0,_,c,x,h=>by simp [bU] at h
 | ks,m+1,hm,c,x,h=>by
  have ih:=d9 (ks:=ks) m (by omega)
  rw [yh (by omega)] at h ⊢
  unfold cn at h ⊢
  split at h
  ·rename_i z
   rw [if_pos z];exact ih c x h
  ·rename_i z
   rw [if_neg z];have hn:ks[m]∉bU (ks.take m):=fun y=>z (memB_iff.mpr y)
   rw [List.getElem?_append] at h;split at h
   ·rename_i lt
    rw [Bs (mem_of_getElem? h)];exact ih c x h
   ·rename_i lt
    rcases (by omega:c-(bU (ks.take m)).length=0\/0<c-(bU (ks.take m)).length) with e | e
    ·rw [e] at h
     cases h;rw [Bt hn];omega
    ·rw [getElem?_eq_none (by simp;omega)] at h
     cases h
theorem sA {ks ks':List (List It)} (hl:ks.length=ks'.length) (h:∀i j (hi:i<ks.length) (hj:j<ks.length),ks[i]=ks[j]↔ks'[i]'(by omega)=ks'[j]'(by omega)):cW ks=cW ks':=by
 have key:∀m,m<=ks.length->(bU (ks.take m)).length=(bU (ks'.take m)).length/\∀i (hi:i<m) (hi1:i<ks.length) (hi2:i<ks'.length),fy ks[i] (bU (ks.take m))=fy ks'[i] (bU (ks'.take m)):=by
  intro m;induction m with
  | zero=>intro _;exact ⟨by simp [bU],fun i hi=>by omega⟩
  | succ m ih=>
   intro hm;obtain ⟨e1,e2⟩:=ih (by omega)
   have hk:m<ks.length:=by omega
   have hk':m<ks'.length:=by omega
   have inTake:∀{l:List (List It)} {x:List It},x∈bU (l.take m)↔∃i,∃(hi:i<l.length),i<m/\l[i]=x:=fun {l x}=>by
    rw [mem_dst,List.mem_take_iff_getElem];constructor
    ·rintro ⟨i,hi,e⟩
     exact ⟨i,by omega,by omega,e⟩
    ·rintro ⟨i,hi,hi2,e⟩
     exact ⟨i,by omega,e⟩
   have mem:ks[m]∈bU (ks.take m)↔ks'[m]∈bU (ks'.take m):=by
    rw [inTake,inTake];constructor
    ·rintro ⟨i,hi,hi2,e⟩
     exact ⟨i,by omega,hi2,(h i m hi hk).mp e⟩
    ·rintro ⟨i,hi,hi2,e⟩
     exact ⟨i,by omega,hi2,(h i m (by omega) hk).mpr e⟩
   rw [yh hk,yh hk'];unfold cn;by_cases c:ks[m]∈bU (ks.take m)
   ·have c':=mem.mp c
    rw [if_pos (memB_iff.mpr c),if_pos (memB_iff.mpr c')];refine ⟨e1,fun i hi hi1 hi2=>?_⟩
    by_cases e:i=m
    ·subst e
     obtain ⟨j,hj,hj2,ej⟩:=inTake.mp c;have ej':=(h j i hj hk).mp ej
     rw [<-ej,<-ej'];exact e2 j hj2 hj (by omega)
    ·exact e2 i (by omega) hi1 hi2
   ·have c':ks'[m]∉bU (ks'.take m):=fun z=>c (mem.mpr z)
    rw [if_neg (fun z=>c (memB_iff.mp z)),if_neg (fun z=>c' (memB_iff.mp z))]
    refine ⟨by rw [length_append,length_append,e1];rfl,fun i hi hi1 hi2=>?_⟩
    by_cases e:i=m
    ·subst e
     rw [Bt c,Bt c',e1]
    ·rw [Bs (inTake.mpr ⟨i,hi1,by omega,rfl⟩),Bs (inTake.mpr ⟨i,hi2,by omega,rfl⟩)]
     exact e2 i (by omega) hi1 hi2
 obtain ⟨_,e2⟩:=key ks.length (Nat.le_refl _);rw [take_of_length_le (Nat.le_refl _),take_of_length_le (by omega)] at e2
 unfold cW;apply ext_getElem
 ·simp [hl]
 ·intro i h1 h2
  have h1':i<ks.length:=by simpa using h1
  simp only [getElem_map]
  rw [e2 i h1' h1' (by omega)]
noncomputable def aY (ks:List (List It)):List Nat:=ks.map fun k=>fy k (bU ks)
theorem EX {ks:List (List It)}:cW ks=(aY ks).map fun n:Nat=>(n:Int):=by
 unfold cW aY;rw [map_map];rfl
theorem Du {ks:List (List It)} {i j:Nat} (hi:i<ks.length) (hj:j<ks.length):(aY ks).getD i 0=(aY ks).getD j 0↔ks[i]=ks[j]:=by
 have e:∀{a:Nat} (ha:a<ks.length),(aY ks).getD a 0=fy ks[a] (bU ks):=fun {a} ha=>by
  unfold aY;simp [List.getD,ha]
 rw [e hi,e hj];exact ⟨fun z=>vT (mem_dst.mpr (getElem_mem hi)) (mem_dst.mpr (getElem_mem hj)) z,fun z=>by rw [z]⟩
theorem Fl {ks:List (List It)} {i:Nat} (hi:i<ks.length):(aY ks).getD i 0<(bU ks).length:=by
 unfold aY;simp [List.getD,hi]
 exact sS (mem_dst.mpr (getElem_mem hi))
theorem pG {ks:List (List It)} {c:Nat} (h:c<(bU ks).length):∃i,i<ks.length/\(aY ks).getD i 0=c:=by
 obtain ⟨i,hi,e⟩:=getElem_of_mem (mem_dst.mp (getElem_mem h));refine ⟨i,hi,?_⟩
 have:=d9 (ks:=ks) ks.length (Nat.le_refl _) c (bU ks)[c] (by rw [take_of_length_le (Nat.le_refl _)];exact getElem?_eq_getElem h)
 rw [take_of_length_le (Nat.le_refl _)] at this;unfold aY;simp [List.getD,hi,e,this]
end T
namespace KC
open PySem PySem.Spec L2 T PySem.SeqAt
open PyProof.Rows hiding St
theorem kU:∀a b:List Nat,PyData.eqvAll (a.map rm) (b.map rm)=(a==b)
 | [],[]=>by simp [PyData.eqvAll]
 | [],y::b=>by simp [PyData.eqvAll]
 | x::a,[]=>by simp [PyData.eqvAll]
 | x::a,y::b=>by
  rw [map_cons,map_cons,PyData.eqvAll,kU a b,PyData.eqv];have:((x:Int)==(y:Int))=(x==y):=by
   rw [Bool.eq_iff_iff];simp only [beq_iff_eq]
   omega
  rw [this];rfl
theorem vK {a b:List Nat}:dS (aH a) (aH b)=some (.bool (!(a==b))):=by
 show (if shaped (aH a)&&shaped (aH b) then some (PyData.bool (!PyData.eqv (.list (a.map rm)) (.list (b.map rm)))) else none)=_
 rw [Fq,Fq,Bool.and_self,if_pos rfl,PyData.eqv,kU]
theorem jS {Γ Γ1:Ev} {fa:F1} {s:Sh} {ds:List D} (ha:fa Γ=.ok ⟨s,.list ds⟩ Γ1) (h1:du ⟨s,.list ds⟩ ds=true):yc fa Γ=.ok ⟨.leaf,.tuple ds⟩ Γ1:=by
 unfold yc aR;rw [ha];simp only [Out.bind]
 rw [if_pos h1]
noncomputable def hX (w:Wd) (r:Nat):Int:=if own w 0 r then 0 else 1
noncomputable def Bf (w:Wd) (o:Bool) (r:Nat):D:=.tuple (.tuple ((w.mks r).map .str)::if o then [.int (hX w r)] else [])
noncomputable def sL (w:Wd) (o:Bool) (r:Nat):List T.It:=.inr ((w.mks r).map .inr)::if o then [.inl (.inl (hX w r))] else []
theorem Fe:∀{l:List Str},wZ (l.map .str)=some (l.map .inr)
 | []=>rfl
 | a::l=>by
  rw [map_cons,wZ,Fe];rfl
theorem nX:∀{l:List Nat},wZ (l.map rm)=some (l.map fun n:Nat=>.inl (n:Int))
 | []=>rfl
 | a::l=>by
  rw [map_cons,wZ,nX];rfl
theorem G7 {w:Wd} {o:Bool} {r:Nat}:uR (Bf w o r)=some (sL w o r):=by
 unfold Bf sL uR
 cases o with
 | false=>simp only [Bool.false_eq_true,if_false,fY,fZ,Fe,Option.map_some]
 | true=>simp only [if_true,fY,fZ,dg,Fe,Option.map_some]
theorem jT {d:Nat->D} {k:Nat->List T.It}:∀{l:List Nat},(∀r∈l,uR (d r)=some (k r))->jU (l.map d)=some (l.map k)
 | [],_=>rfl
 | a::l,h=>by
  rw [map_cons,jU,h a (by simp),jT fun r hr=>h r (by simp [hr])]
  rfl
theorem oo {n:Nat} {d:Nat->D} {k:Nat->List T.It} (hn:n<=900) (h:∀r,r<n->uR (d r)=some (k r)) (sh:List Bool) (hs:∀r,r<n->(k r).map T.isT=sh):qt [.list ((List.range n).map d)]=.ok ⟨.lst .leaf,aH (aY ((List.range n).map k))⟩:=by
 unfold qt;dsimp only;rw [jT fun r hr=>h r (List.mem_range.mp hr)]
 have c:((List.range n).map k).length<=900/\yB ((List.range n).map k)=true:=by
  refine ⟨by simpa using hn,List.all_eq_true.mpr fun x hx=>?_⟩
  obtain ⟨r,hr,rfl⟩:=List.mem_map.mp hx;have hr:=List.mem_range.mp hr
  apply decide_eq_true
  have:(((List.range n).map k).headD []).map T.isT=sh:=by
   cases n with
   | zero=>omega
   | succ n=>
    rw [List.range_succ_eq_map];exact hs 0 (by omega)
  rw [this];exact hs r hr
 dsimp only;rw [if_pos c,EX,<-Bu]
section
variable {w:Wd}
theorem Ew (ok:w.Ok) {Γ:Ev} {i:Nat} {fb:F1} {s:Sh} {r:Nat} (h0:Γ[i]?=some (some ⟨.leaf,w.enc⟩)) (hb:fb Γ=.ok ⟨s,rm r⟩ Γ) (hr:r<w.n):ag (ag (ae i) (eK (.int 0))) fb Γ=.ok ⟨.leaf,.int (hX w r)⟩ Γ:=by
 obtain ⟨o,ho,e,h⟩:=ok.o_at hr;have:hX w r=o:=by
  unfold hX;rw [h 0];rcases ho with rfl | rfl<;>rfl
 rw [this,iK,iK,aC h0];simp only [Out.bind,bp,Wd.enc,cM,rO,B2]
 rw [hb];simp only [rP]
 rw [e]
theorem EW (ok:w.Ok) {Γ:Ev} {i:Nat} {fb:F1} {s:Sh} {r:Nat} (h0:Γ[i]?=some (some ⟨.leaf,w.enc⟩)) (hb:fb Γ=.ok ⟨s,rm r⟩ Γ) (hr:r<w.n):ag (ag (ae i) (eK (.int 1))) fb Γ=.ok ⟨.leaf,dR (w.mks r)⟩ Γ:=by
 rw [iK,iK,aC h0];simp only [Out.bind,bp,Wd.enc,cM,rO,B1]
 rw [hb];simp only [rP]
 rw [ok.at1 hr]
theorem qa (ok:w.Ok) {o:Bool} {r:Nat} (hr:r<w.n):∃sh,cJ [w.enc,rm r,.bool o]=.ok ⟨sh,Bf w o r⟩/\sh=if o then .tup [.leaf,.leaf] else .tup [.leaf]:=by
 have m:=EW ok (Γ:=cL 4 [w.enc,rm r,.bool o]) (i:=0) (fb:=ae 1) (s:=.leaf) rfl (aC rfl) hr
 have s1:=g9 (i:=3) (jS m rfl) rfl (by simp [cL])
 have ow:=Ew ok (Γ:=(cL 4 [w.enc,rm r,.bool o]).set 3 (some ⟨.leaf,.tuple ((w.mks r).map .str)⟩)) (i:=0) (fb:=ae 1) (s:=.leaf) rfl (aC rfl) hr
 cases o with
 | true=>
  exact ⟨.tup [.leaf,.leaf],bH (aB s1 (bu (xr (t:=true) (bP (s:=.leaf) (aC (i:=2) rfl)) (fun _=>dD (aL (aC (i:=3) rfl) (aL ow ak)) rfl rfl) nofun) rfl)),rfl⟩
 | false=>
  exact ⟨.tup [.leaf],bH (aB s1 (bu (xr (t:=false) (bP (s:=.leaf) (aC (i:=2) rfl)) nofun (fun _=>dD (aL (aC (i:=3) rfl) ak) rfl rfl)) rfl)),rfl⟩
noncomputable def nA (N:List Nat) (r:Nat):Nat:=N.getD r 0
noncomputable def eB (w:Wd) (N:List Nat) (r:Nat):List Nat:=(List.range w.n).filter fun c=>((w.stp r).map (nA N)).contains c
theorem Dt {N:List Nat} (hN:∀r,r<w.n->nA N r<w.n) (ok:w.Ok) {r c:Nat}:c∈eB w N r↔∃t∈w.stp r,nA N t=c:=by
 unfold eB;rw [mem_filter,contains_iff_mem,mem_map,mem_range];exact ⟨fun z=>z.2,fun ⟨t,h,e⟩=>⟨by rw [<-e];exact hN t (ok.stp_lt h),t,h,e⟩⟩
theorem xD {N:List Nat} {Γ:Ev} {i:Nat} {fb:F1} {s:Sh} {r:Nat} (h0:Γ[i]?=some (some ⟨.leaf,aH N⟩)) (hb:fb Γ=.ok ⟨s,rm r⟩ Γ) (hr:r<N.length):ag (ae i) fb Γ=.ok ⟨.leaf,rm (nA N r)⟩ Γ:=by
 refine qq (j:=r) (aC h0) hb (w9 (by rw [length_map];exact hr)) ?_ rfl
 rw [getElem?_map,getElem?_eq_getElem hr];simp [nA,List.getD,hr]
theorem iX (ok:w.Ok) {N:List Nat} (hl:N.length=w.n) (hN:∀r,r<w.n->nA N r<w.n) {r:Nat} (hr:r<w.n):aX [aH N,aH (w.stp r)]=.ok ⟨.lst .leaf,aH (eB w N r)⟩:=by
 have h24:=ok.h24
 have sl:=nE ok (r:=r)
 have c:=ni (Γ:=cL 3 [aH N,aH (w.stp r)]) (s:=.leaf) (i:=2) (fi:=aJ (ae 1)) (fe:=ag (ae 0) (ae 2)) rm (w.stp r) (fun t=>⟨.leaf,rm (nA N t)⟩) (st:=true) (bJ (s:=.leaf) (aC rfl) rfl) (by simp [cL]) rfl (by omega) fun t ht=>⟨xD rfl (aC rfl) (by rw [hl];exact ok.stp_lt ht),rfl⟩
 have l30:(w.stp r).length<=30:=by
  have:w.stp r∈w.s:=by
   unfold Wd.stp;rw [getD_eq_getElem?_getD,getElem?_eq_getElem (by rw [ok.ls];exact hr)]
   exact getElem_mem _
  exact (ok.st _ this).2.1
 have e:PyData.list ((w.stp r).map fun t=>rm (nA N t))=aH ((w.stp r).map (nA N)):=by
  show PyData.list _=PyData.list _
  rw [map_map];rfl
 refine bH (bu (uM (s:=.lst .leaf) (l:=(w.stp r).map (nA N)) (n:=w.n) (aL (c.trans (by rw [e])) ak) (fun x hx=>?_) (by omega) (by rw [length_map];omega)) rfl)
 obtain ⟨t,ht,rfl⟩:=List.mem_map.mp hx;exact hN t (ok.stp_lt ht)
noncomputable def Gh (w:Wd) (N:List Nat) (r:Nat):D:=.tuple [rm (nA N r),.tuple ((eB w N r).map rm)]
noncomputable def g5 (w:Wd) (N:List Nat) (r:Nat):List T.It:=[.inl (.inl (nA N r:Int)),.inr ((eB w N r).map fun n:Nat=>.inl (n:Int))]
theorem Gg {N:List Nat} {r:Nat}:uR (Gh w N r)=some (g5 w N r):=by
 unfold Gh g5 uR;simp only [fY,fZ,dg,nX,Option.map_some]
theorem mQ (ok:w.Ok) {N:List Nat} (hl:N.length=w.n) (hN:∀r,r<w.n->nA N r<w.n):aI [w.enc,aH N]=.ok ⟨.lst .leaf,aH (aY ((List.range w.n).map (g5 w N)))⟩:=by
 have h24:=ok.h24
 have c:=mO (Γ:=cL 4 [w.enc,aH N]) (s:=.leaf) (i:=2) (j:=3) (fa:=ag (ae 0) (eK (.int 2))) (fe:=bD (ab (ag (ae 1) (ae 2)) (ab (yc (ah 2 aX (ab (ae 1) (ab (ae 3) af)))) af))) (fun r=>aH (w.stp r)) w.n (fun r=>⟨.tup [.leaf,.leaf],Gh w N r⟩) (st:=true) (by simp [cL,Wd.enc,cM,ok.z.s_range]) rfl rfl (by omega) rfl (by omega) fun r hr=>⟨dD (aL (xD (i:=1) rfl (aC (d:=rm r) rfl) (by omega)) (aL (jS (s:=.lst .leaf) (dO (aL (aC rfl) (aL (aC rfl) ak)) (iX ok hl hN hr) rfl rfl) rfl) ak)) rfl rfl,rfl⟩
 exact bH (bu (dO (aL c ak) (oo (by omega) (fun r _=>Gg) [false,true] fun r _=>rfl) rfl rfl) rfl)
theorem fu:∀{a b:List Nat},(a.map fun n:Nat=>(.inl (n:Int):dv))=(b.map fun n:Nat=>(.inl (n:Int):dv))->a=b
 | [],[],_=>rfl
 | [],_::_,h=>by cases h
 | _::_,[],h=>by cases h
 | x::a,y::b,h=>by
  rw [map_cons,map_cons] at h;injection h with h1 h2
  injection h1 with h1
  rw [fu h2,Int.ofNat.inj h1]
structure CN (w:Wd) (o:Bool) (N:List Nat) (m:Nat):Prop where
 len:N.length=w.n
 m1:1<=m
 mn:m<=w.n
 lt:∀r,r<w.n->nA N r<m
 onto:∀c,c<m->∃r,r<w.n/\nA N r=c
 look:∀i j,i<w.n->j<w.n->nA N i=nA N j->sL w o i=sL w o j
 st:∀i j,i<w.n->j<w.n->nA N i=nA N j->∀t∈w.stp i,∃t'∈w.stp j,nA N t=nA N t'
structure GdN (w:Wd) (o:Bool) (N:List Nat):Prop where
 ks:∃ks:List (List T.It),ks.length=w.n/\N=aY ks
 look:∀i j,i<w.n->j<w.n->nA N i=nA N j->sL w o i=sL w o j
theorem sD {ks:List (List T.It)}:(aY ks).length=ks.length:=by unfold aY;rw [length_map]
theorem tK {ks:List (List T.It)}:(bU ks).length<=ks.length:=by
 have:=EH (ks:=ks) ks.length (Nat.le_refl _)
 rwa [take_of_length_le (Nat.le_refl _)] at this
theorem GdN.len {o:Bool} {N:List Nat} (g:GdN w o N):N.length=w.n:=by
 obtain ⟨ks,h,rfl⟩:=g.ks;rw [sD,h]
theorem GdN.lt {o:Bool} {N:List Nat} (g:GdN w o N):∀r,r<w.n->nA N r<w.n:=fun r hr=>by
 obtain ⟨ks,h,rfl⟩:=g.ks;have:=Fl (ks:=ks) (i:=r) (by omega)
 have:=tK (ks:=ks)
 show (aY ks).getD r 0<w.n
 omega
theorem xS {k:Nat->List T.It} {i j:Nat} (hi:i<w.n) (hj:j<w.n):nA (aY ((List.range w.n).map k)) i=nA (aY ((List.range w.n).map k)) j↔k i=k j:=by
 have:=Du (ks:=(List.range w.n).map k) (i:=i) (j:=j) (by simpa using hi) (by simpa using hj)
 rw [getElem_map,getElem_map,getElem_range,getElem_range] at this;exact this
noncomputable def Bc (n:Nat):List (Nat×Nat):=(List.range n).flatMap fun i=>(List.range n).map fun j=>(i,j)
theorem mem_prL {n i j:Nat}:(i,j)∈Bc n↔i<n/\j<n:=by
 unfold Bc;simp
noncomputable def tG (n:Nat) (N:List Nat):List (Nat×Nat):=(Bc n).filter fun p=>nA N p.1==nA N p.2
theorem vw {n:Nat} (h:n<=24):(Bc n).length<=576:=by
 unfold Bc;rw [List.length_flatMap];simp only [length_map,length_range]
 have:((List.range n).map fun _=>n).sum=n*n:=by
  rw [List.map_const',List.sum_replicate_nat,length_range]
 rw [this];exact Nat.mul_le_mul h h
theorem sM {o:Bool} {N:List Nat} (g:GdN w o N) (ne:aY ((List.range w.n).map (g5 w N))≠N):(tG w.n (aY ((List.range w.n).map (g5 w N)))).length<(tG w.n N).length:=by
 have sub:∀i j,i<w.n->j<w.n->nA (aY ((List.range w.n).map (g5 w N))) i=nA (aY ((List.range w.n).map (g5 w N))) j->nA N i=nA N j:=fun i j hi hj e=>by
  have:=(xS hi hj).mp e
  unfold g5 at this;injection this with h1 _
  injection h1 with h1
  injection h1 with h1
  omega
 have ex:∃p∈tG w.n N,¬((nA (aY ((List.range w.n).map (g5 w N))) p.1==nA (aY ((List.range w.n).map (g5 w N))) p.2)=true):=by
  refine Classical.byContradiction fun z=>ne ?_
  obtain ⟨ks,hk,rfl⟩:=g.ks;have pat:cW ((List.range w.n).map (g5 w (aY ks)))=cW ks:=sA (by simp [hk]) fun i j hi hj=>by
   have hi':i<w.n:=by simpa using hi
   have hj':j<w.n:=by simpa using hj
   have a:=xS (w:=w) (k:=g5 w (aY ks)) hi' hj'
   have b:nA (aY ks) i=nA (aY ks) j↔ks[i]=ks[j]:=Du (by omega) (by omega)
   simp only [getElem_map,getElem_range]
   rw [<-a,<-b];refine ⟨sub i j hi' hj',fun e=>Classical.byContradiction fun q=>z ⟨(i,j),List.mem_filter.mpr ⟨mem_prL.mpr ⟨hi',hj'⟩,by simpa using e⟩,by simpa using q⟩⟩
  rw [EX,EX] at pat;exact map_inj_right (f:=fun n:Nat=>(n:Int)) (fun a b e=>by omega) |>.mp pat
 have e:tG w.n (aY ((List.range w.n).map (g5 w N)))=(tG w.n N).filter fun p=>nA (aY ((List.range w.n).map (g5 w N))) p.1==nA (aY ((List.range w.n).map (g5 w N))) p.2:=by
  unfold tG;rw [List.filter_filter];apply filter_congr
  rintro ⟨i,j⟩ h
  obtain ⟨hi,hj⟩:=mem_prL.mp h
  cases c:(nA (aY ((List.range w.n).map (g5 w N))) i==nA (aY ((List.range w.n).map (g5 w N))) j) with
  | false=>simp [c]
  | true=>
   have:=sub i j hi hj (eq_of_beq c)
   simp [c,this]
 rw [e];exact List.length_filter_lt_length_iff_exists.mpr ex
end
theorem gN {P:Nat->Ev->Prop} {i j:Nat} {body:FS}:∀(ds:List D) (n:Nat) (Γ:Ev),P n Γ->(∀k d Γ,n<=k->ds[k-n]?=some d->P k Γ->(i<Γ.length/\j<Γ.length)/\∃Γ',body ((Γ.set i (some ⟨.leaf,.int (k:Nat)⟩)).set j (some ⟨.leaf,d⟩))=.nx Γ'/\P (k+1) Γ')->∃Γ',qo i j body n ds Γ=.nx Γ'/\P (n+ds.length) Γ'
 | [],n,Γ,h,_=>⟨Γ,rfl,h⟩
 | d::r,n,Γ,h,st=>by
  obtain ⟨hi,Γ1,e1,h1⟩:=st n d Γ (Nat.le_refl _) (by simp) h
  obtain ⟨Γ2,e2,h2⟩:=gN r (n+1) Γ1 h1 fun k d Γ a b c=>st k d Γ (by omega) (by rw [show k-n=(k-(n+1))+1 by omega];simpa using b) c
  refine ⟨Γ2,?_,?_⟩
  ·rw [qo,if_pos hi,e1]
   exact e2
  ·rw [length_cons,show n+(r.length+1)=n+1+r.length by omega]
   exact h2
theorem qD {Γ:Ev} {fk fa:F1} {p:PV} {s:Sh} {i j:Nat} {k:Int} {ds es:List D} (ho:Γ[i]?=some (some ⟨.lst (.lst .leaf),.list ds⟩)) (hk:fk Γ=.ok ⟨s,.int k⟩ Γ) (hi:dn ds.length k=some j) (hd:ds[j]?=some (.list es)) (h:fa Γ=.ok p Γ) (hc:coer .leaf p=true) (hn:es.length<=900) :
  xc i fk fa Γ=.nx (Γ.set i (some ⟨.lst (.lst .leaf),.list (ds.set j (.list (es++[p.d])))⟩)):=by
 have h2:es.length<sizeLine:=Nat.lt_of_lt_of_le (by omega:es.length<1000) (by decide)
 have o:pB i ⟨s,.int k⟩ Γ=true:=by unfold pB;rw [ho];simp only [hi,hd]
 unfold xc Br;rw [ho];simp only [if_true]
 unfold g6;rw [hk];simp only [o,if_true]
 rw [h];simp only
 unfold EO;rw [ho];simp only [hi,hd,hc,decide_eq_true h2,Bool.and_self,if_true]
theorem uF {Γ Γ1:Ev} {fa:F1} {body:FS} {ds:List D} {o:OutS} {i j:Nat} (h:aJ fa Γ=.ok ⟨ds,true⟩ Γ1) (hg:qo i j body 0 ds Γ1=o):iI i j fa body Γ=o:=by unfold iI;rw [h];exact hg
section
variable {w:Wd} {o:Bool} {N:List Nat} {m:Nat}
noncomputable def cG (N:List Nat) (k c:Nat):List Nat:=(List.range k).filter fun r=>nA N r==c
theorem tj {k c:Nat}:cG N (k+1) c=cG N k c++if nA N k==c then [k] else []:=by
 unfold cG;rw [range_succ,List.filter_append];congr 1
 rw [List.filter_cons,List.filter_nil]
theorem vY {k c:Nat}:(cG N k c).length<=k:=by
 have:=length_filter_le (fun r=>nA N r==c) (List.range k)
 rwa [length_range] at this
theorem kY (g:CN w o N m) (h24:w.n<=24):cb [aH N]=.ok ⟨.lst (.lst .leaf),.list ((List.range m).map fun c=>aH (cG N w.n c))⟩:=by
 have hm:=g.mn
 have h1:=g.m1
 have hl:=g.len
 have mx:gL [aH N]=some (.int ((m-1:Nat):Int)):=by
  have e:T.intsOf (N.map rm)=some (N.map fun n:Nat=>(n:Int)):=by rw [Bu,gK]
  show (match T.intsOf (N.map rm) with | some (a::r)=>some (PyData.int (Be (a::r))) | _=>none)=_
  rw [e];have is:Be (N.map fun n:Nat=>(n:Int))=((m-1:Nat):Int):=by
   refine sF ?_ fun a ha=>?_
   ·obtain ⟨r,hr,e⟩:=g.onto (m-1) (by omega)
    refine List.mem_map.mpr ⟨m-1,?_,rfl⟩
    rw [<-e];unfold nA;rw [getD_eq_getElem?_getD,getElem?_eq_getElem (by omega)]
    exact getElem_mem _
   ·obtain ⟨x,hx,rfl⟩:=List.mem_map.mp ha
    obtain ⟨i,hi,rfl⟩:=getElem_of_mem hx;have:=g.lt i (by omega)
    unfold nA at this;rw [getD_eq_getElem?_getD,getElem?_eq_getElem hi] at this;simp at this
    omega
  cases N with
  | nil=>simp at hl;omega
  | cons a r=>
   simp only [map_cons] at is ⊢
   rw [is]
 have c1:ao (.lst .leaf) 3 (cK (ab (ax aG (bb gL (ab (ae 0) af)) (eK (.int 1))) af)) az (aQ .leaf af) (cL 4 [aH N])=.ok ⟨.lst (.lst .leaf),.list ((List.range m).map fun c=>aH (cG N 0 c))⟩ (cL 4 [aH N]):=by
  refine ni rm (List.range m) (fun _=>⟨.lst .leaf,.list []⟩) (st:=true) (fD (s:=.leaf) (n:=m) (by omega) (aL ((aO (g:=aG) (b9 (aL (aC rfl) ak) mx) (bp (d:=.int 1)) lV).trans (by congr 3;omega)) ak)) (by simp [cL]) rfl (by simp;omega) fun r hr=>⟨qr (s:=.leaf) ak rfl rfl rfl,rfl⟩
 obtain ⟨Γ1,e1,x2,x3,hΓ⟩:=gN (i:=2) (j:=3) (body:=xc 1 (ae 3) (ae 2)) (P:=fun k Γ=>∃x2 x3,Γ=[some ⟨.leaf,aH N⟩,some ⟨.lst (.lst .leaf),.list ((List.range m).map fun c=>aH (cG N k c))⟩,x2,x3]) (N.map rm) 0 [some ⟨.leaf,aH N⟩,some ⟨.lst (.lst .leaf),.list ((List.range m).map fun c=>aH (cG N 0 c))⟩,none,none] ⟨none,none,rfl⟩
  (fun k d Γ _ hd ⟨x2,x3,e⟩=>by
   subst e;have hk:k<N.length:=by
    have:=(List.getElem?_eq_some_iff.mp hd).1
    simp at this
    exact this
   have ed:d=rm (nA N k):=by
    rw [Nat.sub_zero,getElem?_map,getElem?_eq_getElem hk] at hd
    cases hd;simp [nA,List.getD,hk]
   subst ed;have lt:=g.lt k (by omega)
   have st:=qD (i:=1) (j:=nA N k) (s:=.leaf) (fk:=ae 3) (fa:=ae 2) (ds:=(List.range m).map fun c=>aH (cG N k c)) (es:=(cG N k (nA N k)).map rm) (p:=⟨.leaf,rm k⟩) (Γ:=[some ⟨.leaf,aH N⟩,some ⟨.lst (.lst .leaf),.list ((List.range m).map fun c=>aH (cG N k c))⟩,some ⟨.leaf,rm k⟩,some ⟨.leaf,rm (nA N k)⟩]) rfl (aC rfl) (w9 (by simpa using lt)) (by rw [getElem?_map,getElem?_range lt];rfl) (aC rfl) rfl (by rw [length_map];have:=vY (N:=N) (k:=k) (c:=nA N k);omega)
   refine ⟨⟨by simp,by simp⟩,_,st,some ⟨.leaf,rm k⟩,some ⟨.leaf,rm (nA N k)⟩,?_⟩
   have eq:((List.range m).map fun c=>aH (cG N k c)).set (nA N k) (.list ((cG N k (nA N k)).map rm++[rm k]))=(List.range m).map fun c=>aH (cG N (k+1) c):=by
    apply ext_getElem
    ·simp
    ·intro c h1 h2
     rw [List.getElem_set];simp only [getElem_map,getElem_range]
     rw [tj];by_cases e:nA N k=c
     ·rw [if_pos e]
      subst e;simp [aH]
     ·rw [if_neg e]
      have:(nA N k==c)=false:=by simpa using e
      simp [this]
   rw [<-eq];rfl)
 subst hΓ;rw [length_map,Nat.zero_add,hl] at e1;refine bH (aB (lT c1 rfl (by simp [cL])) (aB (uF (bJ (s:=.leaf) (aC rfl) rfl) e1) (bu (qy (p:=⟨.lst (.lst .leaf),.list ((List.range m).map fun c=>aH (cG N w.n c))⟩) rfl) rfl)))
end
section
variable {w:Wd} {o:Bool} {N:List Nat} {m:Nat}
noncomputable def d7 (N:List Nat) (n c:Nat):Nat:=(cG N n c).headD 0
theorem AH (g:CN w o N m) {c:Nat} (hc:c<m):∃t,cG N w.n c=d7 N w.n c::t/\d7 N w.n c<w.n/\nA N (d7 N w.n c)=c:=by
 obtain ⟨r,hr,e⟩:=g.onto c hc;have hm:r∈cG N w.n c:=List.mem_filter.mpr ⟨List.mem_range.mpr hr,by simpa using e⟩
 unfold d7
 cases q:cG N w.n c with
 | nil=>rw [q] at hm;cases hm
 | cons a t=>
  have ha:a∈cG N w.n c:=by rw [q];exact mem_cons_self
  obtain ⟨h1,h2⟩:=List.mem_filter.mp ha;exact ⟨t,rfl,List.mem_range.mp h1,by simpa using h2⟩
noncomputable def LV (w:Wd) (N:List Nat) (m:Nat):List Nat:=(List.range m).map (d7 N w.n)
noncomputable def eJ (w:Wd) (N:List Nat) (m:Nat):Wd:=⟨m,(LV w N m).map fun x=>.int (hX w x),(LV w N m).map w.mks,(LV w N m).map (eB w N)⟩
theorem fE (g:CN w o N m):∀x∈LV w N m,x<w.n:=fun x hx=>by
 obtain ⟨c,hc,rfl⟩:=List.mem_map.mp hx;exact (AH g (List.mem_range.mp hc)).choose_spec.2.1
theorem CN.ltn (g:CN w o N m):∀r,r<w.n->nA N r<w.n:=fun r hr=>Nat.lt_of_lt_of_le (g.lt r hr) g.mn
theorem tX (g:CN w o N m) (ok:w.Ok) {r c:Nat} (h:c∈eB w N r):c<m:=by
 obtain ⟨t,ht,e⟩:=(Dt g.ltn ok).mp h;rw [<-e];exact g.lt t (ok.stp_lt ht)
theorem tW (g:CN w o N m) (ok:w.Ok) {r:Nat} (hr:r<w.n):eB w N r≠[]:=fun z=>by
 obtain ⟨t,ht⟩:=List.exists_mem_of_ne_nil _ (ok.stp_ne hr);have:=(Dt g.ltn ok).mpr ⟨t,ht,rfl⟩
 rw [z] at this
 cases this
theorem ox (h24:w.n<=24) {r:Nat}:(eB w N r).length<=30:=by
 have:=length_filter_le (fun c=>((w.stp r).map (nA N)).contains c) (List.range w.n)
 rw [length_range] at this;exact Nat.le_trans this (by omega)
theorem nR (ok:w.Ok) {r:Nat} (hr:r<w.n):w.mks r∈w.m:=by
 unfold Wd.mks;rw [getD_eq_getElem?_getD,getElem?_eq_getElem (by rw [ok.lm];exact hr)]
 exact getElem_mem _
theorem zw (ok:w.Ok) (g:CN w o N m):(eJ w N m).Ok:=by
 have h24:=ok.h24
 have mn:=g.mn
 have ll:(LV w N m).length=m:=by unfold LV;simp
 refine ⟨⟨by simp [eJ,ll],by simp [eJ,ll],by simp [eJ,ll],fun a ha=>?_,fun a ha=>?_,fun a ha=>?_⟩,g.m1,by show m<=24;omega,by simp [eJ,ll],by simp [eJ,ll],fun a ha=>?_,fun a ha c hc=>?_⟩
 ·obtain ⟨x,_,rfl⟩:=List.mem_map.mp ha
  unfold hX;split
  ·exact .inl rfl
  ·exact .inr rfl
 ·obtain ⟨b,hb,rfl⟩:=List.mem_map.mp ha
  obtain ⟨x,hx,rfl⟩:=List.mem_map.mp hb;exact ok.g.m _ (List.mem_map.mpr ⟨_,nR ok (fE g x hx),rfl⟩)
 ·obtain ⟨b,hb,rfl⟩:=List.mem_map.mp ha
  obtain ⟨x,hx,rfl⟩:=List.mem_map.mp hb;have hxn:=fE g x hx
  refine ⟨(eB w N x).map fun t:Nat=>(t:Int),by rw [<-Bu],by rw [length_map];exact ox h24,fun z=>tW g ok hxn (List.map_eq_nil_iff.mp z),fun t ht=>?_,?_⟩
  ·obtain ⟨c,hc,rfl⟩:=List.mem_map.mp ht
   have:=tX g ok hc
   show 0<=(c:Int)/\(c:Int)<((eJ w N m).n:Int)
   have e:(eJ w N m).n=m:=rfl
   rw [e];omega
  ·rw [pairwise_map]
   exact (List.pairwise_lt_range.filter _).imp fun h=>by omega
 ·obtain ⟨x,hx,rfl⟩:=List.mem_map.mp ha
  exact ⟨tW g ok (fE g x hx),ox h24,fun t ht=>tX g ok ht⟩
 ·obtain ⟨x,hx,rfl⟩:=List.mem_map.mp ha
  exact ok.mc _ (nR ok (fE g x hx)) c hc
theorem nF (ok:w.Ok) {Γ:Ev} {i:Nat} {fb:F1} {s:Sh} {r:Nat} (h0:Γ[i]?=some (some ⟨.leaf,w.enc⟩)) (hb:fb Γ=.ok ⟨s,rm r⟩ Γ) (hr:r<w.n):ag (ag (ae i) (eK (.int 2))) fb Γ=.ok ⟨.leaf,aH (w.stp r)⟩ Γ:=by
 rw [iK,iK,aC h0];simp only [Out.bind,bp,Wd.enc,cM,rO,B0]
 rw [hb];simp only [rP]
 rw [ok.at2 hr]
end
theorem iW {w:Wd} (ok:w.Ok):cz [w.enc]=.ok ⟨W3,w.enc⟩:=by
 have i0:ag (ae 0) (eK (.int 0)) [some ⟨.leaf,w.enc⟩,none]=.ok ⟨.leaf,.list w.os⟩ [some ⟨.leaf,w.enc⟩,none]:=jN (j:=0) (aC rfl) bp rfl rfl rfl
 have i1:ag (ae 0) (eK (.int 1)) [some ⟨.leaf,w.enc⟩,none]=.ok ⟨.leaf,.list (w.m.map dR)⟩ [some ⟨.leaf,w.enc⟩,none]:=jN (j:=1) (aC rfl) bp rfl rfl rfl
 have i2:ag (ae 0) (eK (.int 2)) [some ⟨.leaf,w.enc⟩,none]=.ok ⟨.leaf,.list (w.s.map aH)⟩ [some ⟨.leaf,w.enc⟩,none]:=jN (j:=2) (aC rfl) bp rfl rfl rfl
 have h24:=ok.h24
 have c1:ao .leaf 1 (aJ (ag (ae 0) (eK (.int 1)))) az (oE (ae 1)) [some ⟨.leaf,w.enc⟩,none]=.ok ⟨.lst .leaf,.list (w.m.map dR)⟩ [some ⟨.leaf,w.enc⟩,none]:=
  ni dR w.m (fun x=>⟨.lst .leaf,dR x⟩) (st:=true) (bJ (s:=.leaf) i1 rfl) (by simp) rfl (by rw [ok.lm];omega) fun x hx=>⟨DA (aC rfl) rfl,rfl⟩
 have c2:ao .leaf 1 (aJ (ag (ae 0) (eK (.int 2)))) az (oE (ae 1)) [some ⟨.leaf,w.enc⟩,none]=.ok ⟨.lst .leaf,.list (w.s.map aH)⟩ [some ⟨.leaf,w.enc⟩,none]:=
  ni aH w.s (fun x=>⟨.lst .leaf,aH x⟩) (st:=true) (bJ (s:=.leaf) i2 rfl) (by simp) rfl (by rw [ok.ls];omega) fun x hx=>⟨DA (aC rfl) rfl,rfl⟩
 exact bH (bu (dD (aL (DA i0 rfl) (aL c1 (aL c2 ak))) rfl rfl) rfl)
noncomputable def pT (j:Int):D:=if j=2 then .list [.str "b"] else .list [.str "a"]
noncomputable abbrev wq:D:=.list [.list [.str "a"],.list [.str "a"],.list [.str "b"]]
theorem wo {j:Int}:∃xs,pT j=.list xs/\gW xs/\xs.length<=30/\zv (pT j)=true:=by
 unfold pT;split
 ·exact ⟨_,rfl,fun d hd=>⟨"b",List.mem_singleton.mp hd,by decide +kernel⟩,by simp,by decide +kernel⟩
 ·exact ⟨_,rfl,fun d hd=>⟨"a",List.mem_singleton.mp hd,by decide +kernel⟩,by simp,by decide +kernel⟩
noncomputable abbrev GK (xs os ms ss:List D) (c:Int) (x5:Option PV):Ev:=[some ⟨.leaf,.list xs⟩,some ⟨.leaf,.int 1⟩,some ⟨.leaf,.int 6⟩,some ⟨.leaf,cM os ms ss⟩,some ⟨.leaf,.int c⟩,x5,none]
theorem tO {xs:List D} (hx:eA xs):∃w:Wd,w.Ok/\bz [.list xs,.int 1,.int 6]=.ok ⟨W3,w.enc⟩:=by
 obtain ⟨n,os,ms,ss,e0,g,h1,h6⟩:=pY hx (at':=1) (lim:=6) (by omega) (by omega) (by omega)
 obtain ⟨c,hc⟩:=Dv hx (k:=1+1+6) (by omega)
 have len:∀(os ms ss:List D) (x5:Option PV),os.length=n->bb aU (ab (ag (ae 3) (eK (.int 0))) af) (GK xs os ms ss c x5)=.ok ⟨.leaf,.int (n:Int)⟩ (GK xs os ms ss c x5):=fun os ms ss x5 h=>b9 (aL (jN (j:=0) (s2:=.leaf) (aC rfl) bp rfl rfl rfl) ak) (by simp [h])
 have st1:∃ms' x5,Gw (n:Int) n os ms' ss/\bV (aN aq (ax lQ (ax cj (ae 4) (eK (.int 3))) (eK (.int 0)))) (aj (av false 5 (aQ .leaf (ab (aQ .leaf (ab (eK (.str "a")) af)) (ab (aQ .leaf (ab (eK (.str "a")) af)) (ab (aQ .leaf (ab (eK (.str "b")) af)) af)))))
  (av false 3 (bD (ab (ag (ae 3) (eK (.int 0))) (ab (ao .leaf 6 (cK (ab (bb aU (ab (ag (ae 3) (eK (.int 0))) af)) af)) az (ag (ae 5) (ah 3 ai (ab (ae 4) (ab (ae 6) (ab (eK (.int 3)) af)))))) (ab (ag (ae 3) (eK (.int 2))) af)))))) aM (GK xs os ms ss c none)=.nx (GK xs os ms' ss c x5):=by
  have t:aN aq (ax lQ (ax cj (ae 4) (eK (.int 3))) (eK (.int 0))) (GK xs os ms ss c none)=.ok (decide ((0:Int)<c % 3)) (GK xs os ms ss c none):=jF (s:=.leaf) (aO (aO (aC rfl) bp (dE (by omega))) bp rfl)
  cases q:decide ((0:Int)<c % 3) with
  | false=>
   rw [q] at t;exact ⟨ms,none,g,b8 t nofun fun _=>rfl⟩
  | true=>
   rw [q] at t;have cm:ao .leaf 6 (cK (ab (bb aU (ab (ag (ae 3) (eK (.int 0))) af)) af)) az (ag (ae 5) (ah 3 ai (ab (ae 4) (ab (ae 6) (ab (eK (.int 3)) af))))) (GK xs os ms ss c (some ⟨.leaf,wq⟩))=.ok ⟨.lst .leaf,.list ((List.range n).map fun r:Nat=>pT (eh c (r:Int) 3))⟩ (GK xs os ms ss c (some ⟨.leaf,wq⟩)):=by
    refine ni rm (List.range n) (fun r=>⟨.leaf,pT (eh c (r:Int) 3)⟩) (st:=true) (fD (s:=.leaf) (n:=n) (by omega) (aL (len os ms ss _ g.lo) ak)) (by simp) rfl (by simp;omega) fun r hr=>⟨?_,rfl⟩
    have hr:=List.mem_range.mp hr
    have d:=AN (c:=c) (k:=(r:Int)) (b:=3) (by omega) (by omega) (by omega) (by omega)
    have i:=Dj (c:=c) (k:=(r:Int)) (b:=3) (by omega) (by omega) (by omega) (by omega)
    have cl:=dO (n:=3) (fl:=ab (ae 4) (ab (ae 6) (ab (eK (.int 3)) af))) (Γ:=(GK xs os ms ss c (some ⟨.leaf,wq⟩)).set 6 (some ⟨.leaf,rm r⟩)) (aL (aC (i:=4) rfl) (aL (aC (i:=6) rfl) (aL bp ak))) d rfl rfl
    generalize eh c (r:Int) 3=z at cl i
    rcases (by omega:z=0\/z=1\/z=2) with rfl | rfl | rfl
    ·exact qq (j:=0) (aC (i:=5) rfl) cl rfl rfl rfl
    ·exact qq (j:=1) (aC (i:=5) rfl) cl rfl rfl rfl
    ·exact qq (j:=2) (aC (i:=5) rfl) cl rfl rfl rfl
   refine ⟨(List.range n).map fun r:Nat=>pT (eh c (r:Int) 3),some ⟨.leaf,wq⟩,⟨g.lo,by simp,g.ls,g.o,fun a ha=>?_,g.s⟩,b8 t (fun _=>aB (g9 (qr (s:=.leaf) (aL (qr (s:=.leaf) (aL bp ak) rfl rfl rfl) (aL (qr (s:=.leaf) (aL bp ak) rfl rfl rfl) (aL (qr (s:=.leaf) (aL bp ak) rfl rfl rfl) ak))) rfl rfl rfl) rfl (by simp)) (g9 (dD (aL (jN (j:=0) (s2:=.leaf) (aC rfl) bp rfl rfl rfl) (aL cm (aL (jN (j:=2) (s2:=.leaf) (aC rfl) bp rfl rfl rfl) ak))) rfl rfl) rfl (by simp))) nofun⟩
   obtain ⟨r,_,rfl⟩:=List.mem_map.mp ha;exact wo
 obtain ⟨ms1,x5,g1,e1⟩:=st1;have st2:∃os',Gw (n:Int) n os' ms1 ss/\bV (aN aq (ax bL (ax cj (ae 4) (eK (.int 4))) (eK (.int 1)))) (av false 3 (bD (ab (ao .leaf 6 (cK (ab (bb aU (ab (ag (ae 3) (eK (.int 0))) af)) af)) az (ax kQ (ah 3 ai (ab (ae 4) (ab (ax aG (eK (.int 30)) (ae 6)) (ab (eK (.int 9)) af)))) (eK (.int 8)))) (ab (ag (ae 3) (eK (.int 1))) (ab (ag (ae 3) (eK (.int 2))) af))))) aM (GK xs os ms1 ss c x5)=.nx (GK xs os' ms1 ss c x5):=by
  have t:aN aq (ax bL (ax cj (ae 4) (eK (.int 4))) (eK (.int 1))) (GK xs os ms1 ss c x5)=.ok (c % 4==1) (GK xs os ms1 ss c x5):=jF (s:=.leaf) (aO (aO (aC rfl) bp (dE (by omega))) bp KC.eq_int)
  cases q:(c % 4==1) with
  | false=>
   rw [q] at t;exact ⟨os,g1,b8 t nofun fun _=>rfl⟩
  | true=>
   rw [q] at t;have cm:ao .leaf 6 (cK (ab (bb aU (ab (ag (ae 3) (eK (.int 0))) af)) af)) az (ax kQ (ah 3 ai (ab (ae 4) (ab (ax aG (eK (.int 30)) (ae 6)) (ab (eK (.int 9)) af)))) (eK (.int 8))) (GK xs os ms1 ss c x5)=.ok ⟨.lst .leaf,.list ((List.range n).map fun r:Nat=>PyData.int (eh c (30+(r:Int)) 9 / 8))⟩ (GK xs os ms1 ss c x5):=by
    refine ni rm (List.range n) (fun r=>⟨.leaf,.int (eh c (30+(r:Int)) 9 / 8)⟩) (st:=true) (fD (s:=.leaf) (n:=n) (by omega) (aL (len os ms1 ss _ g1.lo) ak)) (by simp) rfl (by simp;omega) fun r hr=>⟨?_,rfl⟩
    have hr:=List.mem_range.mp hr
    exact aO (dO (aL (aC (i:=4) rfl) (aL (aO bp (aC (i:=6) rfl) lV) (aL bp ak))) (AN (c:=c) (k:=30+(r:Int)) (b:=9) (by omega) (by omega) (by omega) (by omega)) rfl rfl) bp (tM (by omega) (by omega))
   refine ⟨(List.range n).map fun r:Nat=>PyData.int (eh c (30+(r:Int)) 9 / 8),⟨by simp,g1.lm,g1.ls,fun a ha=>?_,g1.m,g1.s⟩,b8 t (fun _=>g9 (dD (aL cm (aL (jN (j:=1) (s2:=.leaf) (aC rfl) bp rfl rfl rfl) (aL (jN (j:=2) (s2:=.leaf) (aC rfl) bp rfl rfl rfl) ak))) rfl rfl) rfl (by simp)) nofun⟩
   obtain ⟨r,hr,rfl⟩:=List.mem_map.mp ha;have hr:=List.mem_range.mp hr
   have i:=Dj (c:=c) (k:=30+(r:Int)) (b:=9) (by omega) (by omega) (by omega) (by omega)
   rcases (by omega:eh c (30+(r:Int)) 9 / 8=0\/eh c (30+(r:Int)) 9 / 8=1) with e | e
   ·exact .inl (by rw [e])
   ·exact .inr (by rw [e])
 obtain ⟨os2,g2,e2⟩:=st2;obtain ⟨w,ok,ew,_⟩:=BH g2 h1 (by omega)
 refine ⟨w,ok,?_⟩
 have eT:=iW ok
 rw [ew] at eT ⊢;exact bH (aB (g9 (dO (aL (aC rfl) (aL (aC rfl) (aL (aC rfl) ak))) e0 rfl rfl) rfl (by simp [cL])) (aB (Γ1:=GK xs os ms ss c none) (g9 (dO (aL (aC rfl) (aL (aO (aO (aC rfl) bp lV) (aC rfl) lV) ak)) hc rfl rfl) rfl (by simp [cL])) (aB e1 (aB e2 (bu (dO (aL (aC (i:=3) rfl) ak) eT rfl rfl) rfl)))))
end KC
namespace TQ
open PySem PySem.Spec L2 T
open PyProof.Rows hiding St
variable {X:Cx} {N gl:List Str} {vs cs ls lo gs:List Nat} {W:XW} {a b:Expr} {pos p:Pos} {fl:FL}
end TQ
namespace T
open PySem PySem.Spec L2
open PyProof.Rows hiding St
def uq:PySem.PyData->Bool
 | .list es=>decide (es.length<=1000)
 | _=>false
theorem oU {d:PySem.PyData} (h:uq d=true):∃es,d=.list es/\es.length<=1000:=by
 unfold uq at h;split at h
 ·exact ⟨_,rfl,of_decide_eq_true h⟩
 ·cases h
section
variable {K:Fg} {W:XW} {He H:Hp} {O:List Addr} {Fs:List (List Addr)} {σ:St} {Γ:Ev} {D:bS}
theorem EnvOk.nm {j:Nat} {x:Option V} (E:EnvOk K He O Fs H σ Γ) (hj:∀p,Γ[j]?≠some (some p)):EnvOk K He O Fs H (σ.set j x) Γ:=
 ⟨by rw [length_set];exact E.len1,E.len2,E.same,E.nd,E.inH,E.fresh,fun m p hm=>by
  have hne:j≠m:=fun z=>hj p (by rw [z];exact hm)
  obtain ⟨a,v,F,b,c,d⟩:=E.slot m p hm;exact ⟨a,v,F,by rw [getElem?_set_ne hne];exact b,c,d⟩⟩
theorem EnvOk.loose (E:EnvOk K He O Fs H σ Γ) (j:Nat):∃Fs',EnvOk K He O Fs' H σ (Γ.set j none):=by
 cases e:Γ[j]? with
 | none=>exact ⟨Fs,by rw [List.set_eq_of_length_le (by simpa using e)];exact E⟩
 | some o=>
  cases o with
  | none=>
   have:Γ.set j none=Γ:=by
    apply ext_getElem?
    intro m;rw [getElem?_set];split
    ·rename_i z
     subst z;have:=(List.getElem?_eq_some_iff.mp e).1
     rw [if_pos this,e]
    ·rfl
   exact ⟨Fs,by rw [this];exact E⟩
  | some p=>
   obtain ⟨_,v,F,_,E1,_,_⟩:=E.move e;exact ⟨_,E1.dropL⟩
theorem e7 {Γ:Ev} {j:Nat}:∀p,(Γ.set j none)[j]?≠some (some p):=fun p z=>by
 rw [getElem?_set] at z;rw [if_pos rfl] at z;split at z<;>cases z
end
section
variable {K:Fg} {W:XW} {He H:Hp} {O:List Addr} {Fs:List (List Addr)} {σ:St} {Γ:Ev} {D:bS}
theorem Own.rows {O:List Addr} {G:List Addr} {v:V} {ds:List PySem.PyData} (h:Own K O H (.lst (.lst .leaf)) G v (.list ds)) (hs:ds.all uq=true) :
  ∃R rs S,v=.ref R/\G=R::S/\R∉S/\H R=some (.lst rs)/\rs.length=ds.length/\(∀x∈rs,∃l∈S,x=.ref l)/\∀l∈S,∃ws,H l=some (.lst ws)/\ws.length<=1000:=by
 cases h with
 | @lst _ R vs _ Fs0 hsv hp hl hf nd q=>
  have row:∀(m:Nat) x F,vs[m]?=some x->Fs0[m]?=some F->∃l ws,x=.ref l/\F=[l]/\H l=some (.lst ws)/\ws.length<=1000:=fun m x F hm hF=>by
   have hlt:=(List.getElem?_eq_some_iff.mp hm).1
   have d1:ds[m]?=some (ds[m]'(by omega)):=getElem?_eq_getElem _
   obtain ⟨es,ee,hes⟩:=oU (List.all_eq_true.mp hs _ (mem_of_getElem? d1))
   have o:=q m x _ _ hm d1 hF
   rw [ee] at o;obtain ⟨l,ws,e1,eG,hl1,hl2,_⟩:=o.leaves;exact ⟨l,ws,e1,eG,hl1,by omega⟩
  refine ⟨R,vs,Fs0.flatten,rfl,rfl,(List.nodup_cons.mp nd).1,hp,hl,fun x hx=>?_,fun l hl'=>?_⟩
  ·obtain ⟨m,hm,e⟩:=getElem_of_mem hx
   have hm':vs[m]?=some x:=by rw [getElem?_eq_getElem hm,e]
   have f1:Fs0[m]?=some (Fs0[m]'(by omega)):=getElem?_eq_getElem _
   obtain ⟨l,ws,e1,eG,_,_⟩:=row m x _ hm' f1
   rw [eG] at f1;exact ⟨l,fG f1 (List.mem_singleton.mpr rfl),e1⟩
  ·obtain ⟨F,hF,hlF⟩:=List.mem_flatten.mp hl'
   obtain ⟨m,hm,e⟩:=getElem_of_mem hF;have f1:Fs0[m]?=some F:=by rw [getElem?_eq_getElem hm,e]
   have v1:vs[m]?=some (vs[m]'(by omega)):=getElem?_eq_getElem _
   obtain ⟨l2,ws,_,eG,h1,h2⟩:=row m _ F v1 f1;rw [eG] at hlF;rw [List.mem_singleton.mp hlF];exact ⟨ws,h1,h2⟩
def Rws (S:List Addr) (b:Nat) (H:Hp):Prop:=∀l∈S,∃ws,H l=some (.lst ws)/\ws.length<=b
theorem Rws.app {S:List Addr} {b:Nat} {l:Addr} {ws:List V} {y:V} (h:Rws S b H) (hl:H l=some (.lst ws)) (hb:ws.length<=b):Rws S (b+1) (upd H l (.lst (ws++[y]))):=fun a ha=>by
 by_cases z:a=l
 ·subst z
  exact ⟨_,cB,by rw [length_append,length_singleton];omega⟩
 ·obtain ⟨w2,e,e2⟩:=h a ha
  exact ⟨w2,by rw [bE z];exact e,by omega⟩
end
section
variable {X:Cx} {N gl:List Str} {vs cs ls lo gs:List Nat} {W:XW}
structure Ap (X:Cx) (o a:Expr) (apos cpos:Pos) (epos:Pos):Prop where
 hbase:attributeBase o "append" X.env (eval o X.env)=eval o X.env
 hline:(apos.endLine==cpos.line)=true
 hfew:((backTo cpos (starEach [a] X.env)).all (fun x=>!x.1)&&(backToKw cpos (keywordEach [] X.env)).all (fun x=>x.1.isSome)&&decide ([a].length+([]:List Keyword).length+(if ([]:List Keyword).isEmpty then 0 else 1)<30))=true
 hsw:swapsWith (.Call (.Attribute o "append" apos) [a] [] cpos) none epos.line X.env=pure false
 hst:starEach [a] X.env=[(false,eval a X.env)]
theorem rW {o a:Expr} {to ta:TE} {apos cpos epos:Pos} (A:Ap X o a apos cpos epos) (ho:PE X o to) (ha:PE X a ta):PS X (.Expr (.Call (.Attribute o "append" apos) [a] [] cpos) epos) (cc (oR X.K "list" oF to (aT ta bF))):=
 yf (kh PySem.F.plainAttrs_list PySem.F.slot_list_append PySem.F.type_list_append AW ho (dP ha fU A.hst) A.hbase A.hfew A.hline A.hst rfl) A.hsw
end
def xV (i j k:Nat):FS:=fun Γ=>match Γ[i]? with
 | some (some ⟨.tup [.lst .leaf,.lst (.lst .leaf),.lst (.lst .leaf)],.tuple [.list o,.list a,.list b]⟩)=>if a.all uq&&b.all uq&&decide (a.length<=1000)&&decide (b.length<=1000)&&decide (o.length<=1000)&&decide (i≠j)&&decide (i≠k)&&decide (j≠k)&&decide (j<Γ.length)&&decide (k<Γ.length) then .nx (((Γ.set i none).set j none).set k none) else .no
 | _=>.no
def Jf (K:Fg):List V->Hp->VK->Prop:=fun xs H Q=>∃p ys,xs=[.ref p]/\(SqL K H p ys\/SqT K H p ys)/\Q (.int ys.length) H
def qW (K:Fg) (k:Nat):TE:=Gd (qR (gZ (mq fun i j=>.bl (decide (j<i))) (oQ (Jf K) (aT (aD k) bF)) (tC (.int 0)))) (gZ (mm K) (aD k) (Gb (rU fun i=>.int (-i)) (tC (.int 1)))) (tC (.str "a"))
section
variable {K:Fg} {W:XW} {He H:Hp} {O:List Addr} {Fs:List (List Addr)} {σ:St} {Γ:Ev} {D:bS}
theorem sQ {k:Nat} {l:Addr} {ws:List V} {Q:VK} (hk:σ[k]?=some (some (.ref l))) (hl:H l=some (.lst ws)) (q:∀v,Q v H):qW K k σ H Q:=by
 refine ⟨.ref l,hk,l,ws,rfl,.inl (.of hl),(ws.length:Int),0,rfl,rfl,decide ((0:Int)<(ws.length:Int)),rfl,?_⟩
 by_cases h:0<ws.length
 ·rw [decide_eq_true (by omega:(0:Int)<(ws.length:Int))]
  show gZ (mm K) (aD k) (Gb (rU fun i=>.int (-i)) (tC (.int 1))) σ H Q
  refine ⟨.ref l,hk,1,rfl,.inl ⟨l,ws,-1,ws[ws.length-1]'(by omega),rfl,rfl,.of hl,?_,q _⟩⟩
  have e:dn ws.length (-1)=some (ws.length-1):=by
   unfold dn;rw [if_neg (by omega)]
   first
    | (rw [if_pos (by omega)];congr 1;omega)
    | (split<;>first | (congr 1;omega) | omega)
  unfold cZ;rw [e];exact getElem?_eq_getElem _
 ·rw [decide_eq_false (by omega:¬(0:Int)<(ws.length:Int))]
  exact q _
theorem rf {i j k:Nat} {ta:TE} {S:List Addr} {R:Addr} {rs:List V} {b:Nat} (hta:∀{σ:St} {H:Hp} {l:Addr} {ws:List V} {Q:VK},σ[k]?=some (some (.ref l))->H l=some (.lst ws)->(∀v,Q v H)->ta σ H Q) (E:EnvOk K He O Fs H σ Γ) (hSO:∀l∈S,l∈O/\He l=none) (hj:σ[j]?=some (some (.ref R))) (hjk:j≠k) (hik:i≠k) (hk:k<Γ.length) (hkn:∀p,Γ[k]?≠some (some p)) (hR:H R=some (.lst rs)) (hRS:R∉S) (hrs:∀x∈rs,∃l∈S,x=.ref l) (hn:rs.length<=1000) (hb:b<=100000) (hw:Rws S b H)
  (fin:∀σ' H' Fs',EnvOk K He O Fs' H' σ' Γ->σ'[j]?=some (some (.ref R))->σ'[i]?=σ[i]?->(∀a,a∉S->H' a=H a)->Rws S (b+1000) H'->D.nx σ' H'):eC (cU K (aD j)) (L2.gName k) (cc (oR K "list" oF (aD k) (aT ta bF))) D σ H:=by
 have big:(200000:Nat)<=sizeLine:=by decide
 refine ⟨.ref R,hj,R,rfl,⟨rs,.of hR⟩,?_⟩
 refine Dw (fun n σ' H'=>n<=1000/\(∃Fs',EnvOk K He O Fs' H' σ' Γ)/\σ'[j]?=some (some (.ref R))/\σ'[i]?=σ[i]?/\(∀a,a∉S->H' a=H a)/\Rws S (b+n) H') ⟨by omega,⟨Fs,E⟩,hj,rfl,fun a _=>rfl,hw⟩ (fun n σ' H' _ ⟨_,_,_,_,fr,_⟩=>.of ((fr R hRS).trans hR)) (fun n x σ' H' hx ⟨hn1,⟨Fs',E'⟩,gj,gi,fr,w'⟩=>?_) (fun σ' H' ⟨_,⟨Fs',E'⟩,gj,gi,fr,w'⟩=>fin σ' H' Fs' E' gj gi fr (fun l hl=>let ⟨ws,e,e2⟩:=w' l hl;⟨ws,e,by omega⟩))
 have hlt:=(List.getElem?_eq_some_iff.mp hx).1
 obtain ⟨l,hlS,rfl⟩:=hrs x (mem_of_getElem? hx)
 obtain ⟨ws,e1,e2⟩:=w' l hlS
 have hkl:k<σ'.length:=by rw [E'.len1];exact hk
 have gk:(σ'.set k (some (V.ref l)))[k]?=some (some (V.ref l)):=by
  rw [getElem?_set];simp [hkl]
 refine ⟨.ref l,gk,.inl ⟨rfl,ws,.of e1⟩,hta gk e1 fun c=>⟨l,ws,c,rfl,rfl,e1,by omega,?_⟩⟩
 refine ⟨by omega,⟨Fs',(E'.nm hkn).mutO (hSO l hlS).1 e1 (hSO l hlS).2⟩,by rw [getElem?_set_ne (Ne.symm hjk)];exact gj,by rw [getElem?_set_ne (Ne.symm hik)];exact gi,fun a ha=>?_,w'.app e1 e2⟩
 rw [bE fun z=>ha (by rw [z];exact hlS)]
 exact fr a ha
theorem rD {i j k:Nat} {ta:TE} {c:V} (hta:∀{σ:St} {H:Hp} {l:Addr} {ws:List V} {Q:VK},σ[k]?=some (some (.ref l))->H l=some (.lst ws)->(∀v,Q v H)->ta σ H Q) (h:tS K W (xV i j k) D σ H):cC (eC (CG K (Ia (B3 K) (aD i) (xu (tC (.int 1))) nu)) (L2.gName j)
  (cC (eC (cU K (aD j)) (L2.gName k) (cc (oR K "list" oF (aD k) (aT ta bF)))) (cc (oR K "list" oF (aD j) (aT (oO bF) bF)))))
  (cc (oR K "list" oF (gZ (mm K) (aD i) (tC (.int 0))) (aT (tC c) bF))) D σ H:=by
 obtain ⟨He,O,Fs,Γ,E,h⟩:=h;unfold xV at h;split at h
 case h_2=>exact h.elim
 rename_i d0 da db e0
 cases hc:(da.all uq&&db.all uq&&decide (da.length<=1000)&&decide (db.length<=1000)&&decide (d0.length<=1000)&&decide (i≠j)&&decide (i≠k)&&decide (j≠k)&&decide (j<Γ.length)&&decide (k<Γ.length)) with
 | false=>rw [hc] at h;exact h.elim
 | true=>
  rw [hc] at h;have h:∀σ' H' Fs',EnvOk K He O Fs' H' σ' (((Γ.set i none).set j none).set k none)->D.nx σ' H':=h
  simp only [Bool.and_eq_true,decide_eq_true_eq] at hc
  obtain ⟨⟨⟨⟨⟨⟨⟨⟨⟨c1,c2⟩,c3⟩,c4⟩,c0⟩,c5⟩,c6⟩,c7⟩,c8⟩,c9⟩:=hc;have frE:=E.fresh
  obtain ⟨hv,v,F,h1,E1,o1,sub⟩:=E.move e0;obtain ⟨Fs1,E2⟩:=E1.loose j;obtain ⟨Fs2,E3⟩:=E2.loose k;generalize hΓ:((Γ.set i none).set j none).set k none=Γ' at h E3
  have ln:Γ'.length=Γ.length:=by rw [<-hΓ];simp
  have nk:∀p,Γ'[k]?≠some (some p):=by rw [<-hΓ];exact e7
  have nj:∀p,Γ'[j]?≠some (some p):=by
   rw [<-hΓ];intro p;rw [getElem?_set_ne (Ne.symm c7)];exact e7 p
  cases o1 with
  | @tup _ p vs _ Fs0 hsv hp hn hl hf hs nd q=>
   obtain ⟨v0,v1,v2,rfl⟩:∃a b c,vs=[a,b,c]:=by
    match vs,hl with
    | [a,b,c],_=>exact ⟨a,b,c,rfl⟩
   obtain ⟨F0,F1,F2,rfl⟩:∃a b c,Fs0=[a,b,c]:=by
    match Fs0,hf with
    | [a,b,c],_=>exact ⟨a,b,c,rfl⟩
   obtain ⟨R1,r1,S1,rfl,rfl,n1,hR1,l1,k1,w1⟩:=(q 1 v1 _ F1 _ rfl rfl rfl rfl).rows c1;obtain ⟨R2,r2,S2,rfl,rfl,n2,hR2,l2,k2,w2⟩:=(q 2 v2 _ F2 _ rfl rfl rfl rfl).rows c2;obtain ⟨L0,z0,rfl,rfl,hL0,lz0,_⟩:=(q 0 v0 _ F0 _ rfl rfl rfl rfl).leaves;have nd':([L0]++(R1::S1++(R2::S2))).Nodup:=by simpa using nd
   obtain ⟨_,nd2,nd0⟩:=List.nodup_append.mp nd'
   obtain ⟨nA,nB,nC⟩:=List.nodup_append.mp nd2;have d12:R1≠R2:=fun z=>nC R1 mem_cons_self R2 mem_cons_self z
   have d1S:R1∉S2:=fun z=>nC R1 mem_cons_self R1 (mem_cons_of_mem _ z) rfl
   have d2S:R2∉S1:=fun z=>nC R2 (mem_cons_of_mem _ z) R2 mem_cons_self rfl
   have d0:∀a∈R1::S1++R2::S2,L0≠a:=fun a ha=>nd0 L0 (List.mem_singleton.mpr rfl) a ha
   have mem:∀a,a∈L0::(R1::S1++R2::S2)->a∈[[L0],R1::S1,R2::S2].flatten:=fun a ha=>by
    simpa using ha
   have hO:∀a,a∈L0::(R1::S1++R2::S2)->a∈[[L0],R1::S1,R2::S2].flatten++O/\He a=none:=fun a ha=>⟨mem_append_left _ (mem a ha),frE a (sub a (mem_append_left _ (mem a ha)))⟩
   refine ⟨.ref p,h1,1,rfl,p,[.ref L0,.ref R1,.ref R2],rfl,.of hp,(by decide:¬(HT.sIx 3 0 (some 1)=0/\HT.sIx 3 3 none=3)),fun T hT=>⟨T,rfl,⟨[.ref R1,.ref R2],.of cB⟩,?_⟩⟩
   have E4:=E3.grow (cu (o:=.tup [.ref R1,.ref R2]) hT)
   have tn:∀{a o},H a=some o->a≠T:=fun e z=>by rw [z,hT] at e;cases e
   have S12:∀l∈S1++S2,l∈[[L0],R1::S1,R2::S2].flatten++O/\He l=none:=fun l hl=>hO l (mem_cons_of_mem _ (by
    rcases List.mem_append.mp hl with z | z
    ·exact mem_append_left _ (mem_cons_of_mem _ z)
    ·exact mem_append_right _ (mem_cons_of_mem _ z)))
   have w0:Rws (S1++S2) 1000 (upd H T (.tup [.ref R1,.ref R2])):=fun l hl=>by
    rcases List.mem_append.mp hl with z | z
    ·obtain ⟨ws,e,e2⟩:=w1 l z
     exact ⟨ws,by rw [bE (tn e)];exact e,e2⟩
    ·obtain ⟨ws,e,e2⟩:=w2 l z
     exact ⟨ws,by rw [bE (tn e)];exact e,e2⟩
   have L0S:L0∉S1++S2:=fun z=>by
    rcases List.mem_append.mp z with z | z
    ·exact d0 L0 (mem_append_left _ (mem_cons_of_mem _ z)) rfl
    ·exact d0 L0 (mem_append_right _ (mem_cons_of_mem _ z)) rfl
   have pS:p∉S1++S2:=fun z=>by
    rcases List.mem_append.mp z with z | z
    ·obtain ⟨ws,e,_⟩:=w1 p z
     rw [hp] at e;cases e
    ·obtain ⟨ws,e,_⟩:=w2 p z
     rw [hp] at e;cases e
   have turn:∀(R:Addr) (rs:List V) (b:Nat) (Dn Dx:St->Hp->Prop) (Dr:VK) (σ':St) (H':Hp) (Fs':List (List Addr)),R∈R1::S1++R2::S2->R∉S1++S2->EnvOk K He ([[L0],R1::S1,R2::S2].flatten++O) Fs' H' σ' Γ'->H' R=some (.lst rs)->rs.length<=1000->(∀x∈rs,∃l∈S1++S2,x=.ref l)->b<=100000->Rws (S1++S2) b H' ->
     (∀σ2 H2 Fs2,EnvOk K He ([[L0],R1::S1,R2::S2].flatten++O) Fs2 H2 σ2 Γ'->σ2[i]?=σ'[i]?->(∀a o,a∉S1++S2->a≠R->H' a=some o->H2 a=some o)->Rws (S1++S2) (b+1000) H2->Dn σ2 H2) ->
     cC (eC (cU K (aD j)) (L2.gName k) (cc (oR K "list" oF (aD k) (aT ta bF)))) (cc (oR K "list" oF (aD j) (aT (oO bF) bF))) { nx:=Dn,ct:=Dn,bk:=Dx,rt:=Dr } (σ'.set j (some (.ref R))) H':=by
    intro R rs b Dn Dx Dr σ' H' Fs' hRm hRS E' hR hlen hrs hb hw hD
    have hjl:j<σ'.length:=by rw [E'.len1,ln];exact c8
    have gj:(σ'.set j (some (V.ref R)))[j]?=some (some (V.ref R)):=by
     rw [getElem?_set];simp [hjl]
    refine rf (i:=i) (D:={ nx:=cc (oR K "list" oF (aD j) (aT (oO bF) bF)) { nx:=Dn,ct:=Dn,bk:=Dx,rt:=Dr },ct:=Dn,bk:=Dx,rt:=Dr }) hta (E'.nm nj) S12 gj c7 c6 (by rw [ln];exact c9) nk hR hRS hrs hlen hb hw fun σ2 H2 Fs2 E2 g2 gi2 fr2 w2=>?_
    have hR2:H2 R=some (.lst rs):=(fr2 R hRS).trans hR
    refine ⟨.ref R,g2,.inl ⟨rfl,rs,.of hR2⟩,Nat.zero_le _,fun A hA=>?_⟩
    have hRA:R≠A:=fun z=>by rw [z,hA] at hR2;cases hR2
    have big:(200000:Nat)<=sizeLine:=by decide
    refine ⟨R,rs,.ref A,rfl,rfl,by rw [bE hRA];exact hR2,by omega,?_⟩
    refine hD σ2 _ Fs2 ((E2.grow (cu (o:=.lst []) hA)).mutO (hO R (mem_cons_of_mem _ hRm)).1 (by rw [bE hRA];exact hR2) (hO R (mem_cons_of_mem _ hRm)).2) (by rw [gi2,getElem?_set_ne (Ne.symm c5)]) (fun a o ha haR e=>?_) fun l hl=>?_
    ·have e2:H2 a=some o:=(fr2 a ha).trans e
     rw [bE haR,bE fun z=>by rw [z,hA] at e2;cases e2]
     exact e2
    ·obtain ⟨ws,e,e2⟩:=w2 l hl
     have hlR:l≠R:=fun z=>hRS (by rw [<-z];exact hl)
     exact ⟨ws,by rw [bE hlR,bE fun z=>by rw [z,hA] at e;cases e];exact e,e2⟩
   refine wj (fun n σ' H'=>(∃Fs',EnvOk K He ([[L0],R1::S1,R2::S2].flatten++O) Fs' H' σ' Γ')/\H' T=some (.tup [.ref R1,.ref R2])/\(n=0->H' R1=some (.lst r1))/\(n<=1->H' R2=some (.lst r2))/\n<=2/\Rws (S1++S2) (1000+1000*n) H'/\σ'[i]?=some (some (.ref p))/\H' p=some (.tup [.ref L0,.ref R1,.ref R2])/\H' L0=some (.lst z0))
    ⟨⟨_,E4⟩,cB,fun _=>by rw [bE (tn hR1)];exact hR1,fun _=>by rw [bE (tn hR2)];exact hR2,by omega,w0,h1,by rw [bE (tn hp)];exact hp,by rw [bE (tn hL0)];exact hL0⟩ (fun n σ' H' _ ⟨_,e,_⟩=>.of e) (fun n x σ' H' hx ⟨⟨Fs',E'⟩,eT,a1,a2,an,aw,gi,ep,eL⟩=>?_) (fun σ' H' ⟨⟨Fs',E'⟩,_,_,_,_,_,gi,ep,eL⟩=>?_)
   ·have hT12:T∉S1++S2:=fun z=>by
     rcases List.mem_append.mp z with z | z
     ·obtain ⟨ws,e,_⟩:=w1 T z
      rw [hT] at e;cases e
     ·obtain ⟨ws,e,_⟩:=w2 T z
      rw [hT] at e;cases e
    match n,hx,a1,a2,aw with
    | 0,hx,a1,a2,aw=>
     cases hx;have nR1:R1∉S1++S2:=fun z=>(List.mem_append.mp z).elim n1 d1S
     have nR2:R2∉S1++S2:=fun z=>(List.mem_append.mp z).elim d2S n2
     exact turn R1 r1 1000 _ _ _ σ' H' Fs' (mem_append_left _ mem_cons_self) nR1 E' (a1 rfl) (by omega) (fun x hx=>let ⟨l,hl,e⟩:=k1 x hx;⟨l,mem_append_left _ hl,e⟩) (by omega) aw fun σ2 H2 Fs2 E2 g2 fr w=>⟨⟨Fs2,E2⟩,fr T _ hT12 (fun z=>tn hR1 z.symm) eT,fun z=>by omega,fun _=>fr R2 _ nR2 (Ne.symm d12) (a2 (by omega)),by omega,w,g2.trans gi,fr p _ pS (fun z=>by rw [z,hR1] at hp;cases hp) ep,fr L0 _ L0S (d0 R1 (mem_append_left _ mem_cons_self)) eL⟩
    | 1,hx,a1,a2,aw=>
     cases hx;have nR2:R2∉S1++S2:=fun z=>(List.mem_append.mp z).elim d2S n2
     exact turn R2 r2 2000 _ _ _ σ' H' Fs' (mem_append_right _ mem_cons_self) nR2 E' (a2 (by omega)) (by omega) (fun x hx=>let ⟨l,hl,e⟩:=k2 x hx;⟨l,mem_append_right _ hl,e⟩) (by omega) aw fun σ2 H2 Fs2 E2 g2 fr w=>⟨⟨Fs2,E2⟩,fr T _ hT12 (fun z=>tn hR2 z.symm) eT,fun z=>by omega,fun z=>by omega,by omega,w,g2.trans gi,fr p _ pS (fun z=>by rw [z,hR2] at hp;cases hp) ep,fr L0 _ L0S (d0 R2 (mem_append_right _ mem_cons_self)) eL⟩
    | n+2,hx,_,_,_=>simp at hx
   ·have big:(200000:Nat)<=sizeLine:=by decide
    refine ⟨.ref p,gi,.inr (.inl ⟨p,[.ref L0,.ref R1,.ref R2],0,.ref L0,rfl,rfl,.of ep,rfl,.inl ⟨rfl,z0,.of eL⟩,L0,z0,c,rfl,rfl,eL,by omega,?_⟩)⟩
    exact h _ _ _ (E'.mutO (hO L0 mem_cons_self).1 eL (hO L0 mem_cons_self).2).dropL
end
abbrev Bp (x:Str) (s:Stmt) (ps:List Str) (us:List Value):Prop:=∀(kV doc pm:Value) (an:Option Addr) (cdv ct:Value),bindArgs (PySem.W.fnOf x x (AM s) (jG s) (cP s) .none kV doc pm an cdv ct) ⟨us,[]⟩=pure (ps.zip us)
abbrev w4 (x:Str) (s:Stmt) (ps:List Str):Prop:=∀us:List Value,us.length=ps.length->Bp x s ps us
section
variable {x:Str} {s:Stmt} {p1 p2 p3 p4 p5 p6:Str}
theorem uz (h:∀a,Bp x s [p1] [a]:=by exact fun _ _ _ _ _ _ _=>rfl):w4 x s [p1]:=fun us hl=>match us,hl with | [_],_=>h _
theorem uy (h:∀a b,Bp x s [p1,p2] [a,b]:=by exact fun _ _ _ _ _ _ _ _=>rfl):w4 x s [p1,p2]:=fun us hl=>match us,hl with | [_,_],_=>h _ _
theorem CW (h:∀a b c,Bp x s [p1,p2,p3] [a,b,c]:=by exact fun _ _ _ _ _ _ _ _ _=>rfl):w4 x s [p1,p2,p3]:=fun us hl=>match us,hl with | [_,_,_],_=>h _ _ _
theorem Js (h:∀a b c d,Bp x s [p1,p2,p3,p4] [a,b,c,d]:=by exact fun _ _ _ _ _ _ _ _ _ _=>rfl):w4 x s [p1,p2,p3,p4]:=fun us hl=>match us,hl with | [_,_,_,_],_=>h _ _ _ _
end
def Ft (K:Fg) (mg:Str->Option Value) (n:Str) (s:Stmt):Prop:=∃f fd,mg n=some (.ref f)/\Fun K n n s f fd
theorem ft {K:Fg} {h:Heap} {mg:Str->Option Value} {n:Str} {s:Stmt} {f:Addr} {od an:Option Addr} {sl:Array (Option Value)} {oc kV dc pm cd ct:Value} (X:K.In h) (G:h.Ns mainGlobals mg) (a:PySem.W.nsIn K mainGlobals n=some (some (.ref f))) (l:K.lookup f=some ⟨oc,od,.func (PySem.W.fnOf n n (AM s) (jG s) (cP s) .none kV dc pm an cd ct),sl⟩) (c:PySem.W.codeIn K cd n=true) (k:PySem.W.keepIn K (.ref f)=true):Ft K mg n s:=⟨f,_,PySem.W.mg_of X G a,zT (st:=s) l c k⟩
theorem AE {K:Fg} {x:Str} {st:Stmt} {f:Addr} {fd:FuncData} {ps:List Str} (F:Fun K x x st f fd) (b:w4 x st ps):Binds K fd ps []:=F.binds fun kV doc pm an cdv ct us hl=>b us hl kV doc pm an cdv ct
def zx (vs cs:List Nat):List Nat:=vs.filter fun i=>!cs.contains i
def fB (N gl ps:List Str) (vs cs gs:List Nat) (s:Stmt):Bool:=gR N gl vs cs vs (zx vs cs) gs (cP s)&&pH N gl&&(!(cP s).isCoroutine&&!(cP s).isGenerator&&decide (N.take ps.length=ps)&&(ps.all fun x=>xa (cP s) [.local,.cell] (some x))&&((cP s).names.all fun y=>!decide (y.2=.free)))
theorem xN {N gl ps:List Str} {vs cs gs:List Nat} {s:Stmt} (h:fB N gl ps vs cs gs s=true):gR N gl vs cs vs (zx vs cs) gs (cP s)=true/\pH N gl=true/\bB N ps (cP s):=by
 unfold fB at h;simp only [Bool.and_eq_true,decide_eq_true_eq,all_eq_true,Bool.not_eq_true',decide_eq_false_iff_not] at h
 obtain ⟨⟨h1,h2⟩,⟨⟨⟨h3,h4⟩,h5⟩,h6⟩,h7⟩:=h;refine ⟨h1,h2,(ER h1).kind,h3,h4,(sE h2).1,h5,fun x hx=>?_,h7⟩
 obtain ⟨k,hk,q⟩:=A5 (h6 x hx);simp only [mem_cons,not_mem_nil,or_false] at hk
 rcases hk with rfl | rfl
 ·exact .inl q
 ·exact .inr q
structure In (p:Fg->(Str->Option Value)->Prop) (X:Cx) (P:Program) (w:World) (K:Fg) (mg:Str->Option Value) (base:Heap) (k:Nat):Prop where
 e1:X.prog=P
 e2:X.w=w
 e3:X.K=K
 e4:X.mg=mg
 e5:X.base=base
 rm:Room k X.A
 pp:p K mg
section
variable {p:Fg->(Str->Option Value)->Prop} {X Y:Cx} {P:Program} {w:World} {K:Fg} {mg:Str->Option Value} {base:Heap} {j k n:Nat} {x:Str} {s:Stmt} {ps:List Str} {g:FS} {den:List PySem.PyData->Res} {ss:List Sh}
theorem In.r (I:In p X P w K mg base k):Rm X:=I.rm.units
theorem In.e (I:In p X P w K mg base k):p X.K X.mg:=by rw [I.e3,I.e4];exact I.pp
theorem In.c (I:In p X P w K mg base k) (h:DefOk P w K mg base j x n den) (hj:decide (j<=k)=true:=by first | exact rfl | exact decide_eq_true (by omega)):Bi X x n den:=by
 obtain ⟨rfl,rfl,rfl,rfl,rfl,r,_⟩:=I;exact h.cal r hj
theorem In.m (I:In p X P w K mg base k) (h:DefOkM P w K mg base j x ss den) (hj:decide (j<=k)=true:=by first | exact rfl | exact decide_eq_true (by omega)):wY X x ss den:=by
 obtain ⟨rfl,rfl,rfl,rfl,rfl,r,_⟩:=I;exact h.cal r hj
theorem Fx.i (F:Fx X Y) (I:In p X P w K mg base k):In p Y P w K mg base k:=⟨F.prog.trans I.e1,F.w.trans I.e2,F.K.trans I.e3,F.mg.trans I.e4,F.base.trans I.e5,by rw [F.A];exact I.rm,I.pp⟩
abbrev Bd (p:Fg->(Str->Option Value)->Prop) (P:Program) (w:World) (K:Fg) (mg:Str->Option Value) (base:Heap) (k:Nat) (N gl:List Str) (vs cs gs:List Nat) (s:Stmt) (g:FS):Prop:=∀X:Cx,Cp X N gl vs cs vs (zx vs cs) gs->In p X P w K mg base k->PassesOwn (model X.prog X.w) X.A X.env X.xe->TQ.Q (PSs X (jG s) (tS X.K W0 g))
theorem IL {f:Addr} {fd:FuncData} (F:Fun K x x s f fd) (e:p K mg) (N gl:List Str) (vs cs gs:List Nat) (h:fB N gl ps vs cs gs s=true) (hb:Bd p P w K mg base k N gl vs cs gs s g):cE P w K mg base g7 (k+1) f fd ps (oS K ps.length (aF N.length g)):=by
 obtain ⟨h1,h2,h3⟩:=xN h;exact zU F h3 fun cdv A outer s H E hr=>(hb _ (Cp.fn h1 h2) ⟨rfl,rfl,rfl,rfl,rfl,hr,e⟩ PassesOwn.never).p
theorem mk (F:Ft K mg x s) (e:p K mg) (ps:List Str) (b:w4 x s ps) (rs gl:List Str) (vs cs gs:List Nat) (hb:Bd p P w K mg base k (ps++rs) gl vs cs gs s g) (h:fB (ps++rs) gl ps vs cs gs s=true:=by kernel_rfl):DefOk P w K mg base (k+1) x ps.length (aF (ps++rs).length g):=by
 obtain ⟨f,fd,hm,F⟩:=F;exact ⟨f,fd,ps,IL F e _ gl vs cs gs h hb,hm,F.kp,AE F b⟩
theorem Jh (F:Ft K mg x s) (e:p K mg) (ps:List Str) (b:w4 x s ps) (hss:ss.length=ps.length) (rs gl:List Str) (vs cs gs:List Nat) (hb:Bd p P w K mg base k (ps++rs) gl vs cs gs s g) (h:fB (ps++rs) gl ps vs cs gs s=true:=by kernel_rfl):DefOkM P w K mg base (k+1) x ss (wy (ps++rs).length ss g):=by
 obtain ⟨f,fd,hm,F⟩:=F;obtain ⟨h1,h2,h3⟩:=xN h;exact ⟨f,fd,ps,wm F h3 hss fun cdv A outer s H E hr=>(hb _ (Cp.fn h1 h2) ⟨rfl,rfl,rfl,rfl,rfl,hr,e⟩ PassesOwn.never).p,hm,F.kp,AE F b⟩
theorem Ji {fa:Addr} (F:Ft K mg x s) (e:p K mg) (q:Str) (b:w4 x s [q]) (hfa:mg x=some (.ref fa)) (rs gl:List Str) (vs cs gs:List Nat) (hb:∀base,Bd p P w K mg base k ([q]++rs) gl vs cs gs s g) (h:fB ([q]++rs) gl [q] vs cs gs s=true:=by kernel_rfl) :
  ∃fd:FuncData,(∀(s:Shared) (v:Value),BindsTo s fd ⟨[v],[]⟩ [(q,v)])/\∀base:Heap,K.In base->base.Ns mainGlobals mg->cE P w K mg base g7 (k+1) fa fd [q] (oS K 1 (aF ([q]++rs).length g)):=by
 obtain ⟨f,fd,hm,F⟩:=F;have e':=hfa.symm.trans hm
 cases e'
 refine ⟨fd,fun s v=>?_,fun base _ _=>IL F e _ gl vs cs gs h (hb base)⟩
 obtain ⟨oc,od,kV,doc,pm,an,cdv,ct,osl,rfl,lk,hcd⟩:=F.ex;exact .of_eq (b [v] rfl kV doc pm an cdv ct)
section
variable {h:Heap} {a:Addr} {dd:Option Addr} {its:Array Value} {n:Nat} {sl:Array (Option Value)} {ds:List PySem.PyData} (KX:K.In h) (G:h.Ns mainGlobals mg)
include KX G
theorem gn (z:PySem.W.nsIn K mainGlobals x=some none):mg x=none:=PySem.W.mg_none_of KX G z
theorem gi {i:Int} {t:Tok} (z:PySem.W.nsIn K mainGlobals x=some (some (.int i t))):nh K mg x (.int i):=wI (PySem.W.mg_of KX G z)
theorem gt (z:PySem.W.nsIn K mainGlobals x=some (some (.ref a))) (l:K.lookup a=some ⟨.type "tuple",dd,.seq its n,sl⟩) (c:Am its ds=true):nh K mg x (.tuple ds):=wH (PySem.W.mg_of KX G z) l c
end
theorem walkG {m:List PySem.PyData->Res} {l:PySem.W.OpenLaw} {q:Program} {loose:List Str} {XP:(Str->Option Value)->Heap->Prop} {YP:World->Heap->Prop} {d:DefRec} {K:Params->Fg} (lt:∀ns:List Int,ns.length<=63->m [.list (ns.map .int)]=.ok ⟨.leaf,.bool true⟩) (hr:Room j callerA) (hn:l.most=some 63) (hdf:d.params.defaults=[])
  (hY:∀(w:World) (h:Heap),YP w h->(K w.params).In h)
  (F:∀(w:World) (mg:Str->Option Value) (fa:Addr) (h:Heap),(K w.params).In h->h.Ns mainGlobals mg->mg d.name=some (.ref fa) ->
   ∃fd:FuncData,(∀(s:Shared) (u:Value),BindsTo s fd ⟨[u],[]⟩ [("script",u)])/\∀base:Heap,(K w.params).In base->base.Ns mainGlobals mg->cE l.prog w (K w.params) mg base g7 j fa fd ["script"] (oS (K w.params) 1 m)) :
  PySem.W.WalkO q loose XP YP l.row.toRowW d [] (fun f vs=>PySem.call f vs):=
 L2.walk_of (n:=63) (k:=j) (x := "script") (CX:=fun _=>g7) (sp:=fun w=>oS (K w.params) 1 m) hn (by decide) hdf hr hY F (fun _ _ a ns hl _ hS=>zz (lt ns hl) hS) fun _ _ _ _ _ z=>z
end
end T
namespace TQ
open PySem PySem.Spec L2 T
open PyProof.Rows hiding St
section
variable {X:Cx} {N gl:List Str} {vs cs ls lo gs:List Nat} {W:XW} {a b c e:Expr} {es:List Expr} {pos p:Pos} {fa fb fc:F1} {fl:FL} {ga gb:FB} {g1 g2 g:FS}
theorem aA (S:Cp X N gl vs cs ls lo gs) (i:Nat) {x:Str} (hN:N[i]?=some x:=by exact rfl) (hv:vs.contains i=true:=by exact rfl):Q (PE X (.Name x pos) (tE X.K W (ae i))):=FU S i hN hv
theorem bY (ha:Q (PE X e (tE X.K W fa))) (hr:Q (PA X es (tA X.K W fl))) (hs:w6 e=false:=by exact rfl):Q (PA X (e::es) (tA X.K W (ab fa fl))):=iD ha hr (br hs)
theorem bf (ha:Q (PE X e (tE X.K W fa))) (hs:w6 e=false:=by exact rfl):Q (PA X [e] (tA X.K W (ab fa af))):=iD ha xm (br hs)
theorem bT (ha:Q (PE X a (tE X.K W fa))) (hb:Q (PE X b (tE X.K W fb))) (hs:oC b:=by exact fun _ _=>rfl):Q (PE X (.Subscript a b pos) (tE X.K W (ag fa fb))):=qJ ha hb hs
theorem dy {x:Str} {n:Nat} {den:List PySem.PyData->Res} (S:Cp X N gl vs cs ls lo gs) (j:Nat) (C:Bi X x n den) (ha:Q (PA X (e::es) (tA X.K W fl))) (hj:gl[j]?=some x:=by exact rfl) (hg:gs.contains j=true:=by exact rfl) (he:w6 e=false:=by exact rfl) (hpl:(backTo pos (starEach es X.env)).any (·.1)=false:=by exact rfl):Q (PE X (.Call (.Name x p) (e::es) [] pos) (tE X.K W (ah n den fl))):=FZ S j hj hg C ha (br he) hpl
theorem dQ (S:Cp X N gl vs cs ls lo gs) (own:Bool) (i:Nat) {x:Str} {pos':Pos} (ha:Q (PE X a (tE X.K W fa))) (hi:N[i]?=some x:=by exact rfl) (hl:ls.contains i=true:=by exact rfl) (hs:swapsWith a (some (.Name x pos')) pos.line X.env=pure false:=by exact rfl):Q (PS X (.Assign [.Name x pos'] a pos) (tS X.K W (av own i fa))):=qK S own i hi hl hs ha
theorem lO (S:Cp X N gl vs cs ls lo gs) (j:Nat) (hm:X.mg "len"=none) (ha:Q (PA X (e::es) (tA X.K W fl))) (hj:gl[j]?=some ("len":Str):=by exact rfl) (hg:gs.contains j=true:=by exact rfl) (he:w6 e=false:=by exact rfl) (hpl:(backTo pos (starEach es X.env)).any (·.1)=false:=by exact rfl):Q (PE X (.Call (.Name "len" p) (e::es) [] pos) (tE X.K W (bb aU fl))):=qL S j hj hg hm ha (br he) hpl
theorem jK {op:CmpOp} {r:R2} {g:PySem.PyData->PySem.PyData->Option PySem.PyData} (k:Ck X op r g) (ha:Q (PE X a (tE X.K W fa))) (hb:Q (PE X b (tE X.K W fb))) (hm:behindInMarks op b=false:=by with_unfolding_all rfl):Q (PT X (.Compare a [op] [b] pos) (tT X.K W (aN aq (ax g fa fb)))):=FV k ha hb hm
theorem uP {op:CmpOp} {r:R2} {g:PySem.PyData->PySem.PyData->Option PySem.PyData} (k:Ck X op r g) (ha:Q (PE X a (tE X.K W fa))) (hb:Q (PE X b (tE X.K W fb))) (hm:behindInMarks op b=false:=by with_unfolding_all rfl):Q (PE X (.Compare a [op] [b] pos) (tE X.K W (ax g fa fb))):=FX k ha hb hm
theorem dw (ha:Q (PE X a (tE X.K W fa))):Q (PSs X [.Return (some a) pos] (tS X.K W (aE fa))):=lW (qF ha)
theorem hB {scope:Scope} {x:Str} {px:Pos} {iter elt:Expr} {ifs:List Expr} {fi:FI} {fe:F1} {fc:FB} (vs' cs' gs':List Nat) (S:Cp X N gl vs cs ls lo gs) (i:Nat) (hi':Q (PI X (.Name x px) iter (tI X.K W fi))) (hc:uB X N gl vs' cs' [i] [] gs' fun Y=>Q (PF Y ifs (tT Y.K W0 fc))) (he:uB X N gl vs' cs' [i] [] gs' fun Y=>Q (PE Y elt (tE Y.K W0 fe))) (hx:N[i]?=some x:=by exact rfl) (h1:iZ N i cs scope=true:=by kernel_rfl) (h2:gR N gl vs' cs' [i] [] gs' scope=true:=by kernel_rfl) (hs:∀x,foldedSetIterable iter X.env x=pure x:=by exact fun _=>rfl):Q (PE X (.ListComp elt [⟨.Name x px,iter,ifs,0⟩] scope pos) (tE X.K W (ao .leaf i fi fc fe))):=FW S .leaf i hx h1 h2 hi' hc he hs
end
end TQ
namespace T
open PySem PySem.Spec L2
open PyProof.Rows hiding St
section
variable {X:Cx} {N gl:List Str} {vs cs ls lo gs:List Nat} {W:XW} {e a b:Expr} {es:List Expr} {pos p:Pos} {fl:FL} {fa fb:F1}
theorem pe_last (S:Cp X N gl vs cs ls lo gs) (k g:Nat) {z:Str} {lp cp cpos p1 p2 q0 q1 q2 q3 sp:Pos} {n0 n1 n3:Nat} (hz:N[k]?=some z) (hvz:vs.contains k=true) (hj:gl[g]?=some ("len":Str)) (hg:gs.contains g=true) (hm:X.mg "len"=none)
  (he:starEach [.Name z p1] X.env=(false,eval (.Name z p1) X.env)::starEach [] X.env) (hpl:(backTo cp (starEach [] X.env)).any (·.1)=false) (hmk:behindInMarks .Gt (.Constant (.int 0) n0 q0)=false) (hix:oC (.UnaryOp .USub (.Constant (.int 1) n1 q1) q2)) :
  PE X (.IfExp (.Compare (.Call (.Name "len" lp) [.Name z p1] [] cp) [.Gt] [.Constant (.int 0) n0 q0] cpos) (.Subscript (.Name z p2) (.UnaryOp .USub (.Constant (.int 1) n1 q1) q2) sp) (.Constant (.str "a") n3 q3) pos) (qW X.K k):=by
 have m3:=S.nm z (mem_of_getElem? hz)
 have vz:∀{p:Pos},PE X (.Name z p) (aD k):=qB (by rw [S.hN];exact hz) (S.vis k z hz hvz) m3.1 m3.2
 exact kf (nK xC (xk call_len_seq (S.g hj hg).1 hm lJ (dP vz fU he) (S.g hj hg).2.2 (S.g hj hg).2.1 he hpl) oB hmk) (cS qp vz (Cc yp oB) hix) sj
theorem cs_spoil (S:Cp X N gl vs cs ls lo gs) (hp:PassesOwn (model X.prog X.w) X.A X.env X.xe) (i j k:Nat) {x y z:Str} {c:Int} {ce:Expr} {px px2 py py2 py3 pz pz2 apos cpos epos ap2 cp2 ep2 ap3 cp3 ep3 pos pos2 sp s1 s2 q1 q2 q3 lp:Pos} {n1 n2 n3:Nat} (hx:N[i]?=some x) (hv:vs.contains i=true) (hy:N[j]?=some y) (hvy:vs.contains j=true) (hl:ls.contains j=true) (hz:N[k]?=some z) (hvz:vs.contains k=true) (hlz:ls.contains k=true) (hce:PE X ce (qW X.K k))
  (A:Ap X (.Name z pz2) ce apos cpos epos) (B:Ap X (.Name y py3) (.List [] lp) ap2 cp2 ep2) (C:Ap X (.Subscript (.Name x px2) (.Constant (.int 0) n2 q2) s2) (.Constant (.int c) n3 q3) ap3 cp3 ep3) (h0:oC (.Constant (.int 0) n2 q2))
  (hs:∀u,foldedSetIterable (.Subscript (.Name x px) (.Slice (some (.Constant (.int 1) n1 q1)) none none sp) s1) X.env u=pure u) (hs2:∀u,foldedSetIterable (.Name y py2) X.env u=pure u) :
  PSs X [.For (.Name y py) (.Subscript (.Name x px) (.Slice (some (.Constant (.int 1) n1 q1)) none none sp) s1)
   [.For (.Name z pz) (.Name y py2) [.Expr (.Call (.Attribute (.Name z pz2) "append" apos) [ce] [] cpos) epos] [] pos,.Expr (.Call (.Attribute (.Name y py3) "append" ap2) [.List [] lp] [] cp2) ep2] [] pos2,
   .Expr (.Call (.Attribute (.Subscript (.Name x px2) (.Constant (.int 0) n2 q2) s2) "append" ap3) [.Constant (.int c) n3 q3] [] cp3) ep3] (tS X.K W (xV i j k)):=by
 have m:=S.nm x (mem_of_getElem? hx)
 have m2:=S.nm y (mem_of_getElem? hy)
 have m3:=S.nm z (mem_of_getElem? hz)
 have hN:X.N.Nodup:=by rw [S.hN];exact S.nd
 have vx:∀{p:Pos},PE X (.Name x p) (aD i):=qB (by rw [S.hN];exact hx) (S.vis i x hx hv) m.1 m.2
 have vy:∀{p:Pos},PE X (.Name y p) (aD j):=qB (by rw [S.hN];exact hy) (S.vis j y hy hvy) m2.1 m2.2
 have vz:∀{p:Pos},PE X (.Name z p) (aD k):=qB (by rw [S.hN];exact hz) (S.vis k z hz hvz) m3.1 m3.2
 exact Dh (jb (qx hp S.calm (zi (so yy vx (vA oB) vB)) (jI hN (by rw [S.hN];exact hy) (S.loc j y hy hl).1 (S.loc j y hy hl).2)
  (jb (qx hp S.calm (xi vy) (jI hN (by rw [S.hN];exact hz) (S.loc k z hz hlz).1 (S.loc k z hz hlz).2) (gX (rW A vz hce)) hs2) (gX (rW B vy (Ex fU)))) hs)
  (gX (rW C (cS qp vx oB h0) oB))) fun _ _ _=>rD sQ
end
end T
namespace TQ
open PySem PySem.Spec L2 T
open PyProof.Rows hiding St
section
variable {X:Cx} {N gl:List Str} {vs cs ls lo gs:List Nat} {W:XW} {e a b:Expr} {es:List Expr} {pos p:Pos} {fl:FL} {fa fb:F1}
theorem lY (S:Cp X N gl vs cs ls lo gs) (hp:PassesOwn (model X.prog X.w) X.A X.env X.xe) (i j k g:Nat) (hm:X.mg "len"=none) {x y z:Str} {c:Int} {px px2 py py2 py3 pz pz2 apos cpos epos ap2 cp2 ep2 ap3 cp3 ep3 pos pos2 pos3 sp s1 s2 q1 q2 q3 lp:Pos} {n1 n2 n3:Nat} {xlp xcp xcpos xp1 xp2 xq0 xq1 xq2 xq3 xsp:Pos} {xn0 xn1 xn3:Nat} (hx:N[i]?=some x:=by rfl) (hv:vs.contains i=true:=by rfl) (hy:N[j]?=some y:=by rfl) (hvy:vs.contains j=true:=by rfl) (hl:ls.contains j=true:=by rfl) (hz:N[k]?=some z:=by rfl) (hvz:vs.contains k=true:=by rfl) (hlz:ls.contains k=true:=by rfl)
  (hj:gl[g]?=some ("len":Str):=by rfl) (hg:gs.contains g=true:=by rfl) (he:starEach [.Name z xp1] X.env=(false,eval (.Name z xp1) X.env)::starEach [] X.env:=by exact br rfl) (hpl:(backTo xcp (starEach [] X.env)).any (·.1)=false:=by rfl) (hmk:behindInMarks .Gt (.Constant (.int 0) xn0 xq0)=false:=by with_unfolding_all rfl) (hix:oC (.UnaryOp .USub (.Constant (.int 1) xn1 xq1) xq2):=by exact fun _ _=>rfl)
  (A:Ap X (.Name z pz2) (.IfExp (.Compare (.Call (.Name "len" xlp) [.Name z xp1] [] xcp) [.Gt] [.Constant (.int 0) xn0 xq0] xcpos) (.Subscript (.Name z xp2) (.UnaryOp .USub (.Constant (.int 1) xn1 xq1) xq2) xsp) (.Constant (.str "a") xn3 xq3) pos3) apos cpos epos:=by exact ⟨rfl,rfl,rfl,rfl,cV rfl⟩) (B:Ap X (.Name y py3) (.List [] lp) ap2 cp2 ep2:=by exact ⟨rfl,rfl,rfl,rfl,cV rfl⟩) (C:Ap X (.Subscript (.Name x px2) (.Constant (.int 0) n2 q2) s2) (.Constant (.int c) n3 q3) ap3 cp3 ep3:=by exact ⟨rfl,rfl,rfl,rfl,cV rfl⟩) (h0:oC (.Constant (.int 0) n2 q2):=by exact fun _ _=>rfl)
  (hs:∀u,foldedSetIterable (.Subscript (.Name x px) (.Slice (some (.Constant (.int 1) n1 q1)) none none sp) s1) X.env u=pure u:=by exact fun _=>rfl) (hs2:∀u,foldedSetIterable (.Name y py2) X.env u=pure u:=by exact fun _=>rfl) :
  Q (PSs X [.For (.Name y py) (.Subscript (.Name x px) (.Slice (some (.Constant (.int 1) n1 q1)) none none sp) s1)
   [.For (.Name z pz) (.Name y py2) [.Expr (.Call (.Attribute (.Name z pz2) "append" apos) [.IfExp (.Compare (.Call (.Name "len" xlp) [.Name z xp1] [] xcp) [.Gt] [.Constant (.int 0) xn0 xq0] xcpos) (.Subscript (.Name z xp2) (.UnaryOp .USub (.Constant (.int 1) xn1 xq1) xq2) xsp) (.Constant (.str "a") xn3 xq3) pos3] [] cpos) epos] [] pos,.Expr (.Call (.Attribute (.Name y py3) "append" ap2) [.List [] lp] [] cp2) ep2] [] pos2,
   .Expr (.Call (.Attribute (.Subscript (.Name x px2) (.Constant (.int 0) n2 q2) s2) "append" ap3) [.Constant (.int c) n3 q3] [] cp3) ep3] (tS X.K W (xV i j k))):=⟨T.cs_spoil S hp i j k hx hv hy hvy hl hz hvz hlz (T.pe_last S k g hz hvz hj hg hm he hpl hmk hix) A B C h0 hs hs2⟩
end
end TQ
namespace T
open PySem PySem.Spec L2
open PyProof.Rows hiding St
section
variable {K:Fg} {W:XW} {He H:Hp} {O:List Addr} {Fs:List (List Addr)} {σ:St} {Γ:Ev} {D:bS}
theorem tL {s:Sh} {den:List PySem.PyData->Res} {d:PySem.PyData} {pv:PV} {v:V} {F:List Addr} {Γ':Ev} {Fs1:List (List Addr)} {E:XK} {Q:VK} (hs:s.isView=false) (ed:den [d]=.ok pv) (E1:EnvOk K He (F++O) Fs1 H σ Γ') (o:Own K (F++(O++Fs1.flatten)) H s F v d) (hHe:∀a∈F,He a=none)
  (k:∀u H',Same (bA H F) H'->EnvOk K He O Fs1 H' σ Γ'->Q u H'):BN K [s] den [v] H Q E:=by
 have fl:[F].flatten=F:=by simp
 refine ⟨rfl,O++Fs1.flatten,[F],[d],by rw [fl,<-append_assoc];exact E1.nd,fun a ha=>E1.inH a (by rw [fl] at ha;rw [append_assoc];exact ha),rfl,rfl,fun s' hs'=>by rw [List.mem_singleton.mp hs'];exact hs,fun j v' d' G s' e1 e2 e3 e4=>?_,?_⟩
 ·match j,e1,e2,e3,e4 with
  | 0,e1,e2,e3,e4=>
   cases e1;cases e2;cases e3;cases e4;rw [fl];exact o
  | j+1,e1,_,_,_=>cases e1
 ·rw [ed]
  intro u H' G r
  have sm:=r.same
  rw [fl] at sm;have fr:=r.fresh
  rw [fl] at fr;exact k u H' sm (E1.step (G:=G) sm hHe r.nd fr r.inH).dropL
end
def xf (i:Nat) (s:Sh) (den:List PySem.PyData->Res) (c:Int):FS:=fun Γ=>match Γ[i]? with
 | some (some ⟨.tup [s',.lst .leaf],.tuple [d0,.list es]⟩)=>if Sh.same s s'&&decide (es.length<=900) then (match den [d0] with
  | .ok _=>.nx (Γ.set i none)
  | _=>.no) else .no
 | _=>.no
section
variable {K:Fg} {W:XW} {He H:Hp} {O:List Addr} {Fs:List (List Addr)} {σ:St} {Γ:Ev} {D:bS}
theorem rG {i:Nat} {s:Sh} {den:List PySem.PyData->Res} {c:Int} {E:XK} (h:tS K W (xf i s den c) D σ H):cC (cc (gh (BN K [s] den) [] E (aT (gZ (mm K) (aD i) (tC (.int 0))) bF))) (cc (oR K "list" oF (gZ (mm K) (aD i) (tC (.int 1))) (aT (tC (.int c)) bF))) D σ H:=by
 obtain ⟨He,O,Fs,Γ,E0,h⟩:=h;unfold xf at h;split at h
 case h_2=>exact h.elim
 rename_i s' d0 es e0
 cases hsm:Sh.same s s' with
 | false=>rw [hsm,Bool.false_and] at h;exact h.elim
 | true=>
  rw [hsm,Bool.true_and] at h;have es':=Sh.same_eq hsm
  subst es'
  by_cases hle:es.length<=900
  case neg=>rw [decide_eq_false hle] at h;exact h.elim
  rw [decide_eq_true hle] at h
  cases ed0:den [d0] with
  | er c=>rw [ed0] at h;exact h.elim
  | no=>rw [ed0] at h;exact h.elim
  | ok p0=>
   rw [ed0] at h;have h:∀σ' H' Fs',EnvOk K He O Fs' H' σ' (Γ.set i none)->D.nx σ' H':=h
   have frE:=E0.fresh
   obtain ⟨hv,v,F,h1,E1,o1,sub⟩:=E0.move e0
   cases o1 with
   | @tup _ p vs _ Fs0 hsv hp hn hl hf hs nd q=>
    obtain ⟨v0,v1,rfl⟩:∃a b,vs=[a,b]:=by
     match vs,hl with
     | [a,b],_=>exact ⟨a,b,rfl⟩
    obtain ⟨F0,F1,rfl⟩:∃a b,Fs0=[a,b]:=by
     match Fs0,hf with
     | [a,b],_=>exact ⟨a,b,rfl⟩
    have q0:=q 0 v0 _ F0 _ rfl rfl rfl rfl
    have q1:=q 1 v1 _ F1 _ rfl rfl rfl rfl
    have hsv0:=hsv _ mem_cons_self
    generalize Fs.set i []=Fs1 at E1 sub q0 q1 hn
    have fl:[F0,F1].flatten=F0++F1:=by simp
    rw [fl] at nd q0 q1 hn
    have E1:EnvOk K He ((F0++F1)++O) Fs1 H σ (Γ.set i none):=by rw [<-fl];exact E1
    have ndO:=E1.ndO
    obtain ⟨m1,m2,m3⟩:=List.nodup_append.mp ndO;obtain ⟨k1,k2,k3⟩:=List.nodup_append.mp m1;have hF:∀a∈F0++F1,He a=none:=fun a ha=>frE a (sub a (mem_append_left _ (by rw [fl];exact ha)))
    have EA:EnvOk K He (F0++(F1++O)) Fs1 H σ (Γ.set i none):=by rw [<-append_assoc];exact E1
    have mem:∀a,a∈F0++(F1++O++Fs1.flatten)->a∈F0++F1++O++Fs1.flatten:=fun a ha=>by
     rw [<-append_assoc,<-append_assoc] at ha;exact ha
    refine ⟨.ref p,h1,.inr (.inl ⟨p,[v0,v1],0,v0,rfl,rfl,.of hp,rfl,?_⟩)⟩
    refine tL (E:=E) hsv0 ed0 EA (q0.perm mem) (fun a ha=>hF a (mem_append_left _ ha)) fun u H1 sm E2=>?_
    have pF:p∉F0:=fun z=>hn (mem_append_left _ (mem_append_left _ (mem_append_left _ z)))
    have hp1:H1 p=some (.tup [v0,v1]):=sm _ _ (jc hp pF)
    have o1:Own K (F1++(O++Fs1.flatten)) H1 (.lst .leaf) F1 v1 (.list es):=q1.step rfl sm (fun a ha=>mem a (mem_append_left _ ha)) (fun a ha z=>k3 a z a ha rfl) fun a ha=>.inl (by
     refine mem a (mem_append_right _ ?_)
     rw [append_assoc];exact ha)
    refine ⟨.ref p,h1,.inr (.inl ⟨p,[v0,v1],1,v1,rfl,rfl,.of hp1,rfl,?_⟩)⟩
    cases o1 with
    | @lst _ l ws _ Fs2 hsw hl2 hlen hfl nd2 q2=>
     refine ⟨.inl ⟨rfl,_,.of hl2⟩,l,ws,.int c,rfl,rfl,hl2,?_,?_⟩
     ·have hb:(1000:Nat)<=sizeLine:=by decide
      omega
     ·have sm2:Same (bA H1 (l::Fs2.flatten)) (upd H1 l (.lst (ws++[.int c]))):=fun b u hb=>by
       unfold bA at hb;split at hb
       ·cases hb
       ·rename_i nb
        rw [bE (fun z=>nb (by rw [z];exact mem_cons_self))]
        exact hb
      have E3:=EnvOk.step (G:=[]) E2 sm2 (fun a ha=>hF a (mem_append_right _ ha)) nodup_nil (fun _ z=>nomatch z) (fun _ z=>nomatch z)
      exact h _ _ _ E3
end
section
variable {X:Cx} {N gl:List Str} {vs cs ls lo gs:List Nat} {W:XW}
theorem cs_dropA (S:Cp X N gl vs cs ls lo gs) (i j:Nat) {x y:Str} {s:Sh} {den:List PySem.PyData->Res} {c:Int} {py py2 p q1 q2 q3 s1 s2 cpos cpos2 apos pos pos2:Pos} {n1 n2 n3:Nat} (hi:N[i]?=some y) (hv:vs.contains i=true) (hj:gl[j]?=some x) (hg:gs.contains j=true) (C:wY X x [s] den) (h0:oC (.Constant (.int 0) n1 q1)) (h1:oC (.Constant (.int 1) n2 q2))
  (he:starEach [.Subscript (.Name y py) (.Constant (.int 0) n1 q1) s1] X.env=(false,eval (.Subscript (.Name y py) (.Constant (.int 0) n1 q1) s1) X.env)::starEach [] X.env) (hpl:(backTo cpos (starEach [] X.env)).any (·.1)=false)
  (hs:swapsWith (.Call (.Name x p) [.Subscript (.Name y py) (.Constant (.int 0) n1 q1) s1] [] cpos) none pos.line X.env=pure false)
  (h2:attributeBase (.Subscript (.Name y py2) (.Constant (.int 1) n2 q2) s2) "append" X.env (eval (.Subscript (.Name y py2) (.Constant (.int 1) n2 q2) s2) X.env)=eval (.Subscript (.Name y py2) (.Constant (.int 1) n2 q2) s2) X.env)
  (h3:((backTo cpos2 (starEach [.Constant (.int c) n3 q3] X.env)).all (fun x=>!x.1)&&(backToKw cpos2 (keywordEach [] X.env)).all (fun x=>x.1.isSome)&&decide (([.Constant (.int c) n3 q3]:List Expr).length+([]:List Keyword).length+(if ([]:List Keyword).isEmpty then 0 else 1)<30))=true)
  (h4:(apos.endLine==cpos2.line)=true) (h5:starEach [.Constant (.int c) n3 q3] X.env=(false,eval (.Constant (.int c) n3 q3) X.env)::starEach [] X.env) (hpl2:(backTo cpos2 (starEach [] X.env)).any (·.1)=false)
  (hs2:swapsWith (.Call (.Attribute (.Subscript (.Name y py2) (.Constant (.int 1) n2 q2) s2) "append" apos) [.Constant (.int c) n3 q3] [] cpos2) none pos2.line X.env=pure false) :
  PSs X [.Expr (.Call (.Name x p) [.Subscript (.Name y py) (.Constant (.int 0) n1 q1) s1] [] cpos) pos,.Expr (.Call (.Attribute (.Subscript (.Name y py2) (.Constant (.int 1) n2 q2) s2) "append" apos) [.Constant (.int c) n3 q3] [] cpos2) pos2] (tS X.K W (xf i s den c)):=by
 obtain ⟨k,f,fd,ps,F,hr,hm,hk,hb⟩:=C;have m:=S.nm y (mem_of_getElem? hi)
 have vx:∀{p:Pos},PE X (.Name y p) (aD i):=qB (by rw [S.hN];exact hi) (S.vis i y hi hv) m.1 m.2
 exact Dh (jb (yf (AR F hr (S.g hj hg).1 hm hk hb .nil iN (dP (cS qp vx oB h0) fU he) (S.g hj hg).2.1 he hpl) hs) (gX (yf (kh PySem.F.plainAttrs_list PySem.F.slot_list_append PySem.F.type_list_append AW (cS qp vx oB h1) (dP oB fU h5) h2 h3 h4 h5 hpl2) hs2))) fun _ _ _=>rG
end
end T
namespace TQ
open PySem PySem.Spec L2 T
open PyProof.Rows hiding St
section
variable {X:Cx} {N gl:List Str} {vs cs ls lo gs:List Nat} {W:XW}
theorem lZ (S:Cp X N gl vs cs ls lo gs) (i j:Nat) {x y:Str} {s:Sh} {den:List PySem.PyData->Res} {c:Int} (C:wY X x [s] den) {py py2 p q1 q2 q3 s1 s2 cpos cpos2 apos pos pos2:Pos} {n1 n2 n3:Nat} (hi:N[i]?=some y:=by rfl) (hv:vs.contains i=true:=by rfl) (hj:gl[j]?=some x:=by rfl) (hg:gs.contains j=true:=by rfl) (h0:oC (.Constant (.int 0) n1 q1):=by exact fun _ _=>rfl) (h1:oC (.Constant (.int 1) n2 q2):=by exact fun _ _=>rfl)
  (he:starEach [.Subscript (.Name y py) (.Constant (.int 0) n1 q1) s1] X.env=(false,eval (.Subscript (.Name y py) (.Constant (.int 0) n1 q1) s1) X.env)::starEach [] X.env:=by exact br rfl) (hpl:(backTo cpos (starEach [] X.env)).any (·.1)=false:=by rfl)
  (hs:swapsWith (.Call (.Name x p) [.Subscript (.Name y py) (.Constant (.int 0) n1 q1) s1] [] cpos) none pos.line X.env=pure false:=by rfl)
  (h2:attributeBase (.Subscript (.Name y py2) (.Constant (.int 1) n2 q2) s2) "append" X.env (eval (.Subscript (.Name y py2) (.Constant (.int 1) n2 q2) s2) X.env)=eval (.Subscript (.Name y py2) (.Constant (.int 1) n2 q2) s2) X.env:=by rfl)
  (h3:((backTo cpos2 (starEach [.Constant (.int c) n3 q3] X.env)).all (fun x=>!x.1)&&(backToKw cpos2 (keywordEach [] X.env)).all (fun x=>x.1.isSome)&&decide (([.Constant (.int c) n3 q3]:List Expr).length+([]:List Keyword).length+(if ([]:List Keyword).isEmpty then 0 else 1)<30))=true:=by rfl)
  (h4:(apos.endLine==cpos2.line)=true:=by rfl) (h5:starEach [.Constant (.int c) n3 q3] X.env=(false,eval (.Constant (.int c) n3 q3) X.env)::starEach [] X.env:=by exact br rfl) (hpl2:(backTo cpos2 (starEach [] X.env)).any (·.1)=false:=by rfl)
  (hs2:swapsWith (.Call (.Attribute (.Subscript (.Name y py2) (.Constant (.int 1) n2 q2) s2) "append" apos) [.Constant (.int c) n3 q3] [] cpos2) none pos2.line X.env=pure false:=by rfl) :
  Q (PSs X [.Expr (.Call (.Name x p) [.Subscript (.Name y py) (.Constant (.int 0) n1 q1) s1] [] cpos) pos,.Expr (.Call (.Attribute (.Subscript (.Name y py2) (.Constant (.int 1) n2 q2) s2) "append" apos) [.Constant (.int c) n3 q3] [] cpos2) pos2] (tS X.K W (xf i s den c))):=⟨T.cs_dropA S i j hi hv hj hg C h0 h1 he hpl hs h2 h3 h4 h5 hpl2 hs2⟩
end
end TQ
namespace T
open PySem PySem.Spec L2
open PyProof.Rows hiding St
def rq:PySem.PyData->Bool
 | .list es=>es.all aW
 | _=>false
def fC (p:PV):Bool:=match p with
 | ⟨.lst (.lst .leaf),.list ds⟩=>ds.all rq
 | _=>false
def xY (n:Nat) (den:List PySem.PyData->Res) (fl:FL):F1:=fun Γ=>(fl Γ).bind fun ps Γ'=>if ps.length=n then (match den (ps.map (·.d)) with
 | .ok p=>if ps.all dA&&fC p then .ok p Γ' else .no
 | _=>.no) else .no
theorem pR {K:Fg} {O O':List Addr} {H:Hp} {p:PV} {G:List Addr} {v:V} (h:Own K O H p.s G v p.d) (f:fC p=true) (_ht:∀t us,H t=some (.tup us)->t∉O->t∉O'):Own K O' H p.s G v p.d:=by
 unfold fC at f;split at f
 ·rename_i ds
  have h:Own K O H (.lst (.lst .leaf)) G v (.list ds):=h
  cases h with
  | @lst _ q vs _ Fs2 hv hp hl hf nd r=>
   refine .lst hv hp hl hf nd fun i v d F e1 e2 e3=>?_
   have fr:=List.all_eq_true.mp f d (mem_of_getElem? e2)
   unfold rq at fr;split at fr
   ·exact Fw (r i v _ F e1 e2 e3) fr
   ·cases fr
 ·cases f
section
variable {K:Fg} {W:XW} {σ:St} {H:Hp} {Q:VK} {D:bS} {fa fb:F1} {fl:FL}
open Classical in
theorem rK {n:Nat} {den:List PySem.PyData->Res} {E:XK} (h:tE K W (xY n den fl) σ H Q):gh (oS K n den) [] E (tA K W fl) σ H Q:=by
 obtain ⟨He,O,Fs,Γ,E0,h⟩:=h;refine ⟨He,O,Fs,Γ,E0,?_⟩
 unfold xY at h
 cases e:fl Γ with
 | er c Γ'=>rw [e] at h;exact h
 | no=>rw [e] at h;exact h
 | ok ps Γ1=>
  rw [e] at h;intro vs H1 Gs Fs1 A;have h:Wants K W He O Fs H σ Q (if ps.length=n then (match den (ps.map (·.d)) with | .ok p=>if ps.all dA&&fC p then .ok p Γ1 else .no | _=>.no) else .no):=h
  by_cases hn:ps.length=n
  case neg=>rw [if_neg hn] at h;exact h.elim
  rw [if_pos hn] at h;have hl:(vs++[]).length=n:=by rw [append_nil,A.len1];exact hn
  cases ed:den (ps.map (·.d)) with
  | er c=>rw [ed] at h;exact h.elim
  | no=>rw [ed] at h;exact h.elim
  | ok p=>
   rw [ed] at h;have h:Wants K W He O Fs H σ Q (if ps.all dA&&fC p then .ok p Γ1 else .no):=h
   have newF:∀a∈Fs1.flatten,a∈Fs.flatten\/H a=none:=fun a ha=>A.new a (mem_append_right _ ha)
   obtain ⟨n1,n2,n3⟩:=List.nodup_append.mp A.env.nd;obtain ⟨m1,m2,m3⟩:=List.nodup_append.mp n1
   cases hc:ps.all dA&&fC p with
   | false=>rw [hc] at h;exact h.elim
   | true=>
    rw [hc] at h;have h:Wants K W He O Fs H σ Q (.ok p Γ1):=h
    simp only [Bool.and_eq_true] at hc
    obtain ⟨hv,hf⟩:=hc;let O':=(O++Fs1.flatten).filter fun a=>decide (¬∃us,Rd H1 a (.lst us))
    have subO:∀a∈O',a∈O++Fs1.flatten:=fun a ha=>(List.mem_filter.mp ha).1
    have notO:∀a us,Rd H1 a (.lst us)->a∉O':=fun a us hr ha=>by
     have:=(List.mem_filter.mp ha).2
     simp only [decide_eq_true_eq] at this
     exact this ⟨us,hr⟩
    refine ⟨hl,O',ps.map (·.d),List.Nodup.sublist List.filter_sublist A.env.dropL.nd,fun a ha=>A.env.dropL.inH a (subO a ha),?_,?_⟩
    ·rw [append_nil]
     refine ⟨A.reps.1,fun i v d h1 h2=>?_⟩
     rw [getElem?_map] at h2
     cases e2:ps[i]? with
     | none=>rw [e2] at h2;cases h2
     | some q=>
      rw [e2] at h2
      cases h2;have hi:=(List.getElem?_eq_some_iff.mp e2).1
      have e3:Gs[i]?=some (Gs[i]'(by rw [A.len2];exact hi)):=getElem?_eq_getElem _
      have o:=A.own i v q _ h1 e2 e3
      have hq:=List.all_eq_true.mp hv q (mem_of_getElem? e2)
      unfold dA at hq
      cases hcl:T.coer .leaf q with
      | true=>
       have o2:=o.coer (s:=.leaf) (O':=O++Fs1.flatten) hcl fI fun a ha z=>by
        exfalso
        have hG:=fG e3 ha
        rcases List.mem_append.mp z with y | y
        ·exact m3 a hG a y rfl
        ·exact n3 a (mem_append_left _ hG) a y rfl
       have o3:Own K (O++Fs1.flatten) H1 .leaf [] v q.d:=o2
       cases o3 with
       | leaf r=>exact r.mono (oH (Same.refl _) fun a ha=>.inl (subO a ha))
      | false=>
       rw [hcl,Bool.false_or] at hq;split at hq
       ·rename_i ds
        have r:=o.rep
        cases r with
        | @lst a us _ hs hul hr=>
         refine .lst ?_ hul fun j u d q1 q2=>((hr j u d q1 q2).sc (List.all_eq_true.mp hq d (mem_of_getElem? q2))).rep
         rcases hs with hs | hs
         ·have hn:=notO a us hs
          refine .inl ?_
          rcases hs with hs | ⟨ob,hs⟩
          ·exact .inl (jc hs hn)
          ·exact .inr ⟨ob,jc hs hn⟩
         ·exact .inr hs
       ·cases hq
    ·rw [ed]
     intro v H2 G r;have own':Own K (G++O++Fs1.flatten) H2 p.s G v p.d:=pR r.own hf fun t us hp hn z=>by
      rw [append_assoc] at z;rcases List.mem_append.mp z with z | z
      ·exact hn (mem_append_left _ z)
      ·have h1:=A.env.dropL.inH t z
       obtain ⟨ob,hob⟩:=Option.ne_none_iff_exists'.mp h1
       have h2:=r.same t ob hob
       rw [hp] at h2
       cases h2;refine hn (mem_append_right _ (List.mem_filter.mpr ⟨z,?_⟩))
       simp only [decide_eq_true_eq]
       rintro ⟨us',hs' | ⟨_,hs'⟩⟩
       ·rw [hob] at hs';cases hs'
       ·rw [hob] at hs';cases hs'
     refine h v H2 G Fs1 ⟨A.same.trans r.same,A.env.dropL.hide r.same r.nd r.fresh r.inH,fun a ha=>?_,own'⟩
     rcases List.mem_append.mp ha with z | z
     ·exact .inr (A.same.free (r.fresh a z))
     ·exact newF a z
end
end T
namespace TQ
open PySem PySem.Spec L2 T
open PyProof.Rows hiding St
section
variable {X:Cx} {N gl:List Str} {vs cs ls lo gs:List Nat} {W:XW} {a b c e:Expr} {es:List Expr} {pos p:Pos} {fa fb fc:F1} {fl:FL} {g:FS}
theorem yn {x:Str} {n:Nat} {den:List PySem.PyData->Res} (S:Cp X N gl vs cs ls lo gs) (j:Nat) (hj:gl[j]?=some x) (hg:gs.contains j=true) (C:Bi X x n den) (ha:Q (PA X (e::es) (tA X.K W fl))) (he:starEach (e::es) X.env=(false,eval e X.env)::starEach es X.env) (hpl:(backTo pos (starEach es X.env)).any (·.1)=false):Q (PE X (.Call (.Name x p) (e::es) [] pos) (tE X.K W (xY n den fl))):=⟨by
 have ha:=ha.p
 obtain ⟨k,f,fd,ps,F,hr,hm,hk,hb⟩:=C;exact bc (AR F hr (S.g hj hg).1 hm hk hb .nil iN ha (S.g hj hg).2.1 he hpl) fun _ _ _=>rK⟩
end
end TQ
namespace T
open PySem PySem.Spec L2
open PyProof.Rows hiding St
section
variable {K:Fg} {H:Hp} {O:List Addr} {σ:St} {Γ Γ1:Ev} {W:XW} {f:F1} {fb:FB} {Q:VK} {QB:Bool->Hp->Prop}
theorem qP {K:Fg} {H:Hp} {vs:List V} {xs:List Int} (hl:vs.length=(xs.map PySem.PyData.int).length) (hr:∀(i:Nat) v d,vs[i]?=some v->(xs.map PySem.PyData.int)[i]?=some d->Rep K H v d):vs=xs.map V.int:=by
 rw [length_map] at hl;apply ext_getElem?
 intro i;by_cases hi:i<vs.length
 ·have hi2:i<xs.length:=by omega
  have q:=hr i vs[i] (.int xs[i]) (getElem?_eq_getElem hi) (by rw [getElem?_map,getElem?_eq_getElem hi2];rfl)
  rw [getElem?_eq_getElem hi,getElem?_map,getElem?_eq_getElem hi2];generalize vs[i]=u at q
  cases q;rfl
 ·rw [getElem?_eq_none (by omega),getElem?_eq_none (by rw [length_map];omega)]
end
section
variable {prog:Program} {w:World} {A:Around} {E:Value->Shared->Prop} {s:Shared}
noncomputable def EAt (h:Heap) (d:Addr) (bs:List Addr) (ep:Nat):Prop:=∃o es,h.get? d=some o/\o.ExactDict/\o.data=.dict es ep/\es.toList.map (·.key)=bs.map Value.ref
theorem EAt.at {h h':Heap} {d:Addr} {bs:List Addr} {ep:Nat} (x:EAt h d bs ep) (k:∀o,h.get? d=some o->h'.get? d=some o):EAt h' d bs ep:=let ⟨o,es,ho,r⟩:=x;⟨o,es,k o ho,r⟩
theorem EAt.ty {d:Addr} {bs:List Addr} {ep:Nat} (x:EAt s.heap d bs ep):s.TypeIs (.ref d) "dict":=let ⟨o,_,ho,hc,_⟩:=x;⟨o,ho,hc.1⟩
theorem EAt.lt {h:Heap} {d:Addr} {bs:List Addr} {ep:Nat} (x:EAt h d bs ep):d<h.objs.size:=let ⟨_,_,ho,_⟩:=x;Heap.lt_size ho
theorem EAt.size {es:Array DictEntry} {bs:List Addr} (h:es.toList.map (·.key)=bs.map Value.ref):es.size=bs.length:=by
 have:=congrArg List.length h
 simpa using this
theorem CB {d:Addr} {bs:List Addr} {ep:Nat} {Q:Value->Shared->Prop} (hd:(d==sysModules)=false) (hm:EAt s.heap d bs ep)
  (hQ:Q (.ref s.heap.objs.size) { s with heap:=s.heap.push { cls:=.type "dict_keyiterator",data:=.fields #[.ref d,.int 0 0,.int bs.length 0,.int ep 0] } }):wpAny (model prog w) A (pyIter (.ref d)) Q E s:=by
 have hT:=hm.ty
 obtain ⟨o,es,ho,hc,hdat,hk⟩:=hm;have hsz:=EAt.size hk
 refine wpAny_pyIter_slot hT PySem.F.slot_dict_iter (wpAny_call_entry PySem.F.slot_dict_iter hT PySem.F.entry_dict_iter ?_ (PySem.F.args_dict_iter_1 _))
 unfold Builtin.«dict.__iter__» Builtin.Dict.dictSlotNone
 refine wpAny_bind (wpAny_bind (wpAny_notOrdered_dict hT ?_))
 show wpAny _ _ (pure (Value.ref d)) _ _ s
 refine wpAny_pure ?_
 show wpAny _ _ (Builtin.Dict.showsAll d >>= _) _ _ s
 unfold Builtin.Dict.showsAll;rw [if_neg (by rw [hd];exact Bool.false_ne_true)]
 refine wpAny_bind (wpAny_pure (wpAny_bind (wpAny_dictEntries ho hdat (wpAny_bind (wpAny_dictEpoch ho hdat ?_)))))
 refine wpAny_bind (wpAny_newObj_type (wpAny_pure ⟨_,rfl, "dict_keyiterator",_,⟨_,Heap.get?_push_size _ rfl,rfl⟩,PySem.F.slot_dict_keyiterator_next.lookup,?_⟩))
 simpa [rawInt,hsz] using hQ
theorem Ct {it d:Addr} {i ep:Nat} {bs:List Addr} {b:Addr} {Q:Option Value->Shared->Prop} (hit:s.heap.IsKeyIter it d i bs.length ep) (hm:EAt s.heap d bs ep) (hx:bs[i]?=some b)
  (hQ:∀h',h'.IsKeyIter it d (i+1) bs.length ep->Heap.SameBut it s.heap h'->Q (some (.ref b)) { s with heap:=h' }):wpAny (model prog w) A (pyNext (.ref it)) Q E s:=by
 have ty:=hit.typeIs
 obtain ⟨o,ho,hc,hd⟩:=hit;obtain ⟨od,es,hod,hcd,hdd,hk⟩:=hm;have hsz:=EAt.size hk
 unfold pyNext;refine wpAny_bind (wpAny_attempt (wpAny_callSpecial?_slot (name:=Str.ofString "__next__") ty PySem.F.slot_dict_keyiterator_next
  (wpAny_call_entry PySem.F.slot_dict_keyiterator_next ty PySem.F.entry_dict_keyiterator_next ?_ (PySem.F.args_dict_keyiterator_next_1 _))))
 refine wpAny_bind (wpAny_pure (wpAny_bind (wpAny_bind ?_)))
 first | refine wpAny_bind (wpAny_typeNameOfWhole_keyiter ty (wpAny_pure ?_)) | refine wpAny_bind (wpAny_typeNameOf_keyiter ty (wpAny_pure ?_))
 refine wpAny_bind (wpAny_fieldsOf ho hd ?_)
 simp only [show Builtin.Dict_items.ownsTuple "dict_keyiterator"=false by decide,Bool.false_eq_true,if_false]
 show wpAny _ _ (if (Value.ref d==Value.none)=true then _ else _) _ _ s
 rw [if_neg (show ¬((Value.ref d==Value.none)=true) from Bool.false_ne_true)];refine wpAny_bind (wpAny_pure (wpAny_bind (wpAny_dictEntries hod hdd ?_)))
 rw [if_neg (by rw [hsz];simp)]
 refine wpAny_bind (wpAny_pure (wpAny_bind (wpAny_dictEpoch hod hdd ?_)))
 rw [if_neg (by simp)]
 refine wpAny_pure ?_
 have hlt:i<es.size:=by rw [hsz];exact (List.getElem?_eq_some_iff.mp hx).1
 have hkey:es[i].key=.ref b:=by
  have q:(es.toList.map (·.key))[i]?=some (Value.ref b):=by rw [hk,getElem?_map,hx];rfl
  rw [getElem?_map,Array.getElem?_toList,Array.getElem?_eq_getElem hlt] at q;exact Option.some.inj q
 simp only [show ¬((i:Int)<0) from by omega,if_false,Int.toNat_natCast,Array.getElem?_eq_getElem hlt]
 refine wpAny_bind ?_
 first | refine wpAny_bind (wpAny_typeNameOfWhole_keyiter ty (wpAny_pure ?_)) | refine wpAny_bind (wpAny_typeNameOf_keyiter ty (wpAny_pure ?_))
 refine wpAny_bind (wpAny_isOneOf_keyiter ty ?_)
 show wpAny _ _ (setField (.ref it) 1 (rawInt ((i:Int)+1)) >>= _) _ _ s
 refine wpAny_bind (wpAny_setField ho hd (by simp) ?_)
 have hit':(s.heap.update it (Obj.mapFields (·.setIfInBounds 1 (rawInt ((i:Int)+1))))).IsKeyIter it d (i+1) bs.length ep:=
  ⟨_,Heap.get?_update_self _ ho (Obj.isFreed_of_fields (Obj.data_mapFields hd _)),(Obj.cls_mapFields ..).trans hc,by rw [Obj.data_mapFields hd];simp [rawInt]⟩
 refine wpAny_bind (wpAny_holding (wpAny_bind (wpAny_isOneOf_keyiter (s:={ s with heap:=s.heap.update it (Obj.mapFields (·.setIfInBounds 1 (rawInt ((i:Int)+1)))) }) hit'.typeIs ?_)))
 show wpAny _ _ (pure es[i].key) _ _ _
 rw [hkey];exact wpAny_pure (wpAny_pure ⟨_,rfl,wpAny_pure (hQ _ hit' (Heap.SameBut.update ..))⟩)
theorem Hw {it d:Addr} {i ep:Nat} {bs:List Addr} {Q:Option Value->Shared->Prop} (hh:A.handled=none) (hit:s.heap.IsKeyIter it d i bs.length ep) (hm:EAt s.heap d bs ep) (hx:bs.length<=i)
  (hQ:∀h',Heap.ExtBut it s.heap h'->Q none { s with heap:=h' }):wpAny (model prog w) A (pyNext (.ref it)) Q E s:=by
 have ty:=hit.typeIs
 obtain ⟨o,ho,hc,hd⟩:=hit;obtain ⟨od,es,hod,hcd,hdd,hk⟩:=hm;have hsz:=EAt.size hk
 unfold pyNext;refine wpAny_bind (wpAny_attempt (wpAny_callSpecial?_slot (name:=Str.ofString "__next__") ty PySem.F.slot_dict_keyiterator_next
  (wpAny_call_entry PySem.F.slot_dict_keyiterator_next ty PySem.F.entry_dict_keyiterator_next ?_ (PySem.F.args_dict_keyiterator_next_1 _))))
 refine wpAny_bind (wpAny_pure (wpAny_bind (wpAny_bind ?_)))
 first | refine wpAny_bind (wpAny_typeNameOfWhole_keyiter ty (wpAny_pure ?_)) | refine wpAny_bind (wpAny_typeNameOf_keyiter ty (wpAny_pure ?_))
 refine wpAny_bind (wpAny_fieldsOf ho hd ?_)
 simp only [show Builtin.Dict_items.ownsTuple "dict_keyiterator"=false by decide,Bool.false_eq_true,if_false]
 show wpAny _ _ (if (Value.ref d==Value.none)=true then _ else _) _ _ s
 rw [if_neg (show ¬((Value.ref d==Value.none)=true) from Bool.false_ne_true)];refine wpAny_bind (wpAny_pure (wpAny_bind (wpAny_dictEntries hod hdd ?_)))
 rw [if_neg (by rw [hsz];simp)]
 refine wpAny_bind (wpAny_pure (wpAny_bind (wpAny_dictEpoch hod hdd ?_)))
 rw [if_neg (by simp)]
 refine wpAny_pure ?_
 simp only [show ¬((i:Int)<0) from by omega,if_false,Int.toNat_natCast,Array.getElem?_eq_none (show es.size<=i by rw [hsz];exact hx)]
 refine wpAny_bind ?_
 first | refine wpAny_bind (wpAny_typeNameOfWhole_keyiter ty (wpAny_pure ?_)) | refine wpAny_bind (wpAny_typeNameOf_keyiter ty (wpAny_pure ?_))
 show wpAny _ _ (setField (.ref it) 0 .none >>= _) _ _ s
 refine wpAny_bind (wpAny_setField ho hd (by simp) ?_)
 show wpAny _ _ (newExc (.type "StopIteration") [] >>= _) _ _ _
 refine wpAny_bind ?_
 simp only [newExc,newTuple]
 refine wpAny_bind (wpAny_newObj_type ?_ (by size_fits))
 refine wpAny_bind (m:=firstArgMember _ _) (wpAny_of_eq (a:=Value.none) (by first | rfl | (simp only [firstArgMember];rfl)) ?_)
 refine wpAny_newObj_type ?_ (by size_fits)
 simp only [raiseNew]
 refine wpAny_bind (wpAny_handled ?_)
 rw [show A.in1.handled=none from hh];refine wpAny_bind (wpAny_pure (wpAny_throw ?_))
 refine wpAny_bind (wpAny_isInstance (T := "StopIteration") (b:=true) ⟨_,Heap.get?_push_size _ rfl,rfl⟩ isSubtype_stop ?_)
 exact wpAny_pure (hQ _ (((Heap.SameBut.update ..).extBut.push _).push _))
theorem yl (hh:A.handled=none) (I d:Addr) (hne:d≠I) (bs:List Addr) (ep:Nat) :
  Walks prog w A I [I,d] [I] bs.length (fun i v=>∃b,bs[i]?=some b/\v=.ref b) (fun i h=>h.IsKeyIter I d i bs.length ep/\EAt h d bs ep) where
 sub:=fun b hb=>by simp at hb;simp [hb]
 frame:=fun _ _ _ st hk=>⟨st.1.at fun o e=>hk I (by simp) o e,st.2.at fun o e=>hk d (by simp) o e⟩
 item:=fun i s Q E hi st hQ=>by
  have hx:bs[i]?=some bs[i]:=getElem?_eq_getElem hi
  refine Ct st.1 st.2 hx fun h' hit' hs'=>?_
  exact hQ _ h' s.toks ⟨_,hx,rfl⟩ ⟨hit',st.2.at fun o e=>hs'.extBut d o hne e⟩ fun b o hb e=>hs'.extBut b o (fun h=>hb (by simp [h])) e
 done:=fun s Q E st hQ=>Hw hh st.1 st.2 (Nat.le_refl _) fun h' he'=>hQ h' s.toks fun b o hb e=>he' b o (fun h=>hb (by simp [h])) e
 self:=fun _ _ _ _ st hQ=>wpAny_pyIter_keyiter st.1 hQ
theorem Gf {d:Addr} {bs:List Addr} {ep:Nat} (lo:(d==sysModules)=false):PySem.W.KdlSrc prog w "dict" d d bs.length (fun i v=>∃b,bs[i]?=some b/\v=.ref b) (fun h=>EAt h d bs ep) where
 type:=fun _ hm=>hm.ty
 there:=fun _ hm=>⟨hm.lt,hm.lt⟩
 keep:=fun _ _ hm hk=>hm.at fun o e=>hk d (.inl rfl) o e
 notList:=by decide
 notTuple:=by decide
 hint:=fun _ _ _ _ hm hq=>PySem.W.kdl_hint_dict hm.ty hq
 iter:=fun _ _ hh hm=>⟨_,_,(fun _ _ hq=>CB lo hm hq),yl hh _ d (Nat.ne_of_lt hm.lt) bs ep,⟨⟨_,Heap.get?_push_size _ rfl,rfl,rfl⟩,hm.at fun o e=>Heap.get?_push_of_some _ e⟩⟩
end
noncomputable def nJ (P:Program) (w:World) (K:Fg):List V->Hp->VK->Prop:=fun ys H Q=>∃a sh kvs,ys=[.ref a]/\D2 P w K H sh a kvs/\∀l bs,H l=none->Paired (fun (p:List It×V) b=>K2 K H p.1 b) kvs bs->Q (.ref l) (upd H l (.lst (bs.map V.ref)))
theorem Cy {K:Fg} {H:Hp} {sh:List Bool} {kvs:List (List It×V)} {xs:List (List It×Addr×Value)} (r:KX K H sh kvs xs):Paired (fun (p:List It×V) b=>K2 K H p.1 b) kvs (xs.map (·.2.1)):=by
 induction r with
 | nil=>exact .nil
 | cons q _ ih=>exact .cons q.2.2.1 ih
theorem jR:∀{bs:List Addr},Vals (bs.map V.ref) (bs.map Value.ref)
 | []=>.nil
 | b::bs=>.cons rfl jR
theorem lG {X:Cx} (hc:X.calm=true):CallR X (.type "list") (nJ X.prog X.w X.K):=by
 intro pins s σ H ys us Q I rv h;obtain ⟨a,sh,kvs,rfl,⟨xs,e,r,nd,hz,hd⟩,q⟩:=h;obtain ⟨u,rfl,ru⟩:=rv.one
 cases ru;obtain ⟨⟨o,es,ep,h1,h2,h3,h4⟩,_⟩:=(show ObjOk X.prog X.w H s.heap a (uw X.prog X.w sh a xs) from I.hok a _ e);have hE:EAt s.heap a (xs.map (·.2.1)) ep:=⟨o,es,h1,h2,h3,by rw [h4,map_map,map_map];rfl⟩
 have hb:(1000:Nat)<=sizeLine:=by decide
 have hn:(xs.map (·.2.1)).length<=sizeLine:=by rw [length_map];omega
 refine PySem.W.kdl_call (Gf hd) (I.ok.hd hc) hE hn fun h' tk acc c' hk ho hacc=>?_
 have ea:acc.toList=(xs.map (·.2.1)).map Value.ref:=by
  apply ext_getElem?
  intro i;rw [Array.getElem?_toList]
  cases e2:acc[i]? with
  | none=>
   have:=Array.getElem?_eq_none_iff.mp e2
   rw [getElem?_eq_none (by rw [length_map];have:=hacc.1;omega)]
  | some v=>
   obtain ⟨b,e3,rfl⟩:=hacc.2 i v e2;rw [getElem?_map,e3];rfl
 refine ⟨.ref _,upd H _ (.lst ((xs.map (·.2.1)).map V.ref)),I.laid (t':=tk) (fun b o e=>hk b o e) (Nat.le_refl _) ⟨by rw [length_map];exact hn,acc.toList,c',by rw [ea];exact jR,by simpa using ho⟩,rfl,q _ _ (I.hok.fresh (Nat.le_refl _)) (Cy r)⟩
noncomputable def nz (P:Program) (w:World) (K:Fg) (td ty tx:TE):TE:=fun σ H Q=>td σ H fun x H1=>∃a,x=.ref a/\(∃sh kvs,D2 P w K H1 sh a kvs)/\ty σ H1 fun y H2=>tx σ H2 fun z H3=>∃b sh kvs ks,y=.ref b/\D2 P w K H3 sh a kvs/\K2 K H3 ks b/\ks.map isT=sh/\Q ((cH kvs ks).getD z) H3
noncomputable def rj (P:Program) (w:World) (K:Fg) (td ty tv:TE):TS:=fun D σ H=>tv σ H fun v H1=>td σ H1 fun x H2=>ty σ H2 fun y H3=>∃a b sh kvs ks,x=.ref a/\y=.ref b/\D2 P w K H3 sh a kvs/\K2 K H3 ks b/\ks.map isT=sh/\kvs.length<1000 /\
 ∀ob,D2 P w K (upd H3 a ob) sh a (pe kvs ks v)->D.nx σ (upd H3 a ob)
theorem zA {K:Fg} {H:Hp} {sh:List Bool} {kvs:List (List It×V)} {xs:List (List It×Addr×Value)} {ks:List It} {v:V} {r:Value} (rv:RelV v r) (q:KX K H sh kvs xs):KX K H sh (kvs.map fun kv=>if kv.1=ks then (kv.1,v) else kv) (xs.map (putAt ks r)):=by
 induction q with
 | nil=>exact .nil
 | @cons p x l l' h _ ih=>
  refine .cons ?_ ih
  unfold putAt;dsimp only;by_cases e:p.1=ks
  ·rw [if_pos e,if_pos (h.1▸e)]
   exact ⟨h.1,h.2.1,h.2.2.1,rv⟩
  ·rw [if_neg e,if_neg (h.1▸e)]
   exact h
section
variable {X:Cx} {o i e f value:Expr} {pos pos' tpos apos cpos:Pos} {td ty tv tx:TE}
theorem pq (hu:X.A.units+2<cLine) (ho:PE X o td) (he:PE X e ty) (hf:PE X f tx) (base:attributeBase o "get" X.env (eval o X.env)=eval o X.env)
  (few:((backTo cpos (starEach [e,f] X.env)).all (fun x=>!x.1)&&(backToKw cpos (keywordEach [] X.env)).all (fun x=>x.1.isSome)&&decide (([e,f]:List Expr).length+([]:List Keyword).length+(if ([]:List Keyword).isEmpty then 0 else 1)<30))=true)
  (line:(apos.endLine==cpos.line)=true) (trees:backTo cpos (starEach [e,f] X.env)=[(false,eval e X.env),(false,eval f X.env)]) :
  PE X (.Call (.Attribute o "get" apos) [e,f] [] cpos) (nz X.prog X.w X.K td ty tx):=by
 intro pins s σ H Q I h;refine wpAny_Call_method base few line PySem.F.plainAttrs_dict PySem.F.slot_dict_get PySem.F.type_dict_get (bq (ho pins s σ H _ I h) fun u s1 ⟨x,H1,I1,rx,a,ex,⟨sh0,kvs0,xs0,e0,r0,nd0,_⟩,q1⟩=>?_)
 subst ex;obtain rfl:u=Value.ref a:=rx
 have d0:=yg I1 e0 r0 nd0
 refine ⟨d0.typeIs,fun b eb=>?_,?_⟩
 ·cases eb
  obtain ⟨ob,_,_,h1,h2,_⟩:=d0;exact ⟨ob,h1,h2.2.1⟩
 rw [trees];refine Calls.callWith_builtin rfl (Calls.evalArgs_plain (Calls.spliced_cons (bq (he pins s1 σ H1 _ I1 q1) fun iv s2 ⟨y,H2,I2,ry,q2⟩=>
  Calls.spliced_cons (bq (hf pins s2 σ H2 _ I2 q2) fun fv s3 ⟨z,H3,I3,rz,b,sh,kvs,ks,ey,⟨xs,e,r,nd,hz,hd⟩,k,hsh,q3⟩=>Calls.spliced_nil ?_))))
 subst ey;obtain rfl:iv=Value.ref b:=ry
 have dd:=yg I3 e r nd
 refine call_meetsIn PySem.F.slot_dict_get dd.typeIs PySem.F.entry_dict_get (PySem.F.args_dict_get_3 _ _ _) (meetsH_dict_get_default (fx X.prog X.w sh) a b hd fv) ⟨j6 hu,ks,xs,⟨AQ I3 k,hsh⟩,dd,?_⟩
 exact ⟨(cH kvs ks).getD z,H3,I3.tok _,(r.val ks).getD rz,q3⟩
theorem nL (hu:X.A.units+2<cLine) (ho:PE X o td) (hi:PE X i ty) (hv:PE X value tv) (hs:swapsWith value (some (.Subscript o i pos')) pos.line X.env=pure false) :
  PS X (.Assign [.Subscript o i pos'] value pos) (rj X.prog X.w X.K td ty tv):=by
 intro pins s σ H D I h;refine wpAny_Assign_Subscript (bq (hv pins s σ H _ I h) fun r s1 ⟨v,H1,I1,rv,q1⟩=>bq (ho pins s1 σ H1 _ I1 q1) fun u s2 ⟨x,H2,I2,rx,q2⟩=>bq (hi pins s2 σ H2 _ I2 q2) fun iv s3 ⟨y,H3,I3,ry,a,b,sh,kvs,ks,ex,ey,⟨xs,e,rr,nd,hz,hd⟩,k,hsh,hl,q3⟩=>?_) hs
 subst ex ey;obtain rfl:u=Value.ref a:=rx
 obtain rfl:iv=Value.ref b:=ry
 have dd:=yg I3 e rr nd
 have hb:(1000:Nat)<=sizeLine:=by decide
 have is:(cH kvs ks).isSome=(atKey xs ks).isSome:=by
  have q:=(rr.val ks).isSome_eq
  rw [Option.isSome_map] at q;exact q
 refine wpAny_setItem_heap (hsz:=by omega) (j6 hu) ⟨AQ I3 k,hsh⟩ dd fun h' dd' hs'=>?_
 obtain ⟨q,es,ep,hq,h2,h3,h4,_,h5⟩:=dd'
 have m:∀ys c zs,SqT X.K H3 c zs->SqT X.K (upd H3 a (uw X.prog X.w sh a ys)) c zs:=fun ys c zs hc=>by
  rcases hc with hc | hc
  ·left
   rcases hc with hc | ⟨o',hc⟩
   ·exact .inl (by rw [bE (fun z=>by subst z;rw [e] at hc;cases hc)];exact hc)
   ·exact .inr ⟨o',by rw [bE (fun z=>by subst z;rw [e] at hc;cases hc)];exact hc⟩
  ·exact .inr hc
 have I4:=ot (t':=s3.toks+(fx X.prog X.w sh).draws ks) (ob:=uw X.prog X.w sh a (storedH xs ks b r)) I3 (by rw [e];exact True.intro) hs' ⟨q,hq⟩ (EY ⟨q,es,ep,hq,h2,h3,h4⟩)
 refine ⟨σ,_,I4,q3 _ ⟨storedH xs ks b r,cB,?_,h5,?_,hd⟩⟩
 ·unfold pe storedH
  rw [DB,is];split
  ·exact (zA rv rr).mono (m _)
  ·exact Paired.snoc (rr.mono (m _)) ⟨rfl,hsh,k.mono (m _),rv⟩
 ·unfold storedH
  split
  ·rw [length_map,<-rr.len];omega
  ·rw [length_append,length_singleton,<-rr.len];omega
end
noncomputable def ky (i j:Nat):List It:=[.inl (.inl (i:Int)),.inl (.inl (j:Int))]
theorem EU {i j a b:Nat} (h:ky i j=ky a b):i=a/\j=b:=by
 simp only [ky,List.cons.injEq,Sum.inl.injEq,and_true] at h
 omega
noncomputable def kJ (ps:List (Nat×Nat)) (g:Nat->Nat->Bool):List (List It×V):=ps.map fun p=>(ky p.1 p.2,.bl (g p.1 p.2))
noncomputable def jf (g:Nat->Nat->Bool) (i j:Nat) (c:Bool):Nat->Nat->Bool:=fun a b=>if a=i/\b=j then c else g a b
noncomputable def DG (P:Program) (w:World) (K:Fg) (H:Hp) (a:Addr) (ps:List (Nat×Nat)) (g:Nat->Nat->Bool):Prop:=D2 P w K H [false,false] a (kJ ps g)
theorem AG {g:Nat->Nat->Bool} {i j:Nat}:∀{ps:List (Nat×Nat)},(i,j)∈ps->cH (kJ ps g) (ky i j)=some (.bl (g i j))
 | (a,b)::ps,h=>by
  by_cases e:ky a b=ky i j
  ·obtain ⟨rfl,rfl⟩:=EU e
   exact DC rfl
  ·refine (AZ (p:=(ky a b,V.bl (g a b))) (r:=kJ ps g) e).trans (AG ((List.mem_cons.mp h).resolve_left fun z=>e ?_))
   cases z;rfl
theorem EL {g:Nat->Nat->Bool} {i j:Nat}:∀{ps:List (Nat×Nat)},(i,j)∉ps->cH (kJ ps g) (ky i j)=none
 | [],_=>rfl
 | (a,b)::ps,h=>by
  have e:¬ky a b=ky i j:=fun e=>h (by obtain ⟨rfl,rfl⟩:=EU e;exact mem_cons_self)
  exact (AZ (p:=(ky a b,V.bl (g a b))) (r:=kJ ps g) e).trans (EL fun z=>h (mem_cons_of_mem _ z))
theorem nV {g:Nat->Nat->Bool} {i j:Nat} {c:Bool} {ps:List (Nat×Nat)}:pe (kJ ps g) (ky i j) (.bl c)=kJ (if (i,j)∈ps then ps else ps++[(i,j)]) (jf g i j c):=by
 have key:∀ps:List (Nat×Nat),((kJ ps g).map fun kv=>if kv.1=ky i j then (kv.1,V.bl c) else kv)=kJ ps (jf g i j c):=fun ps=>by
  unfold kJ;rw [map_map];refine List.map_congr_left fun p _=>?_
  simp only [Function.comp]
  by_cases e:ky p.1 p.2=ky i j
  ·rw [if_pos e]
   unfold jf;rw [if_pos (EU e)]
  ·rw [if_neg e]
   unfold jf;rw [if_neg fun z=>e (by rw [z.1,z.2])]
 by_cases h:(i,j)∈ps
 ·rw [if_pos h]
  unfold pe;rw [DB,AG h,if_pos (show (some (V.bl (g i j))).isSome=true from rfl),key]
 ·rw [if_neg h,rS _ (EL h)]
  unfold kJ;rw [map_append];congr 1
  ·refine List.map_congr_left fun p hp=>?_
   unfold jf;rw [if_neg];rintro ⟨rfl,rfl⟩
   exact h hp
  ·simp [jf]
theorem xR {K:Fg} {H:Hp} {b:Addr} {i j:Nat}:K2 K (upd H b (.tup [.int (i:Int),.int (j:Int)])) (ky i j) b:=⟨_,.inl (.inl cB),.cons rfl (.cons rfl .nil)⟩
theorem Cz {K:Fg} {H:Hp} {b:Addr} {i j:Nat} (h:K2 K H (ky i j) b):SqT K H b [.int (i:Int),.int (j:Int)]:=by
 obtain ⟨vs,h,p⟩:=h
 cases p with
 | cons e p=>
  cases p with
  | cons e2 p=>
   cases p
   cases e
   cases e2;exact h
theorem DG.grow {P:Program} {w:World} {K:Fg} {H H':Hp} {a:Addr} {ps:List (Nat×Nat)} {g:Nat->Nat->Bool} (x:DG P w K H a ps g) (s:Same H H'):DG P w K H' a ps g:=by
 obtain ⟨xs,h1,h2,h3⟩:=x;exact ⟨xs,s _ _ h1,h2.mono fun c xs=>dG s,h3⟩
theorem vF {K:Fg} {H:Hp} {g:Nat->Nat->Bool} {ps:List (Nat×Nat)} {bs:List Addr} (h:Paired (fun (p:List It×V) b=>K2 K H p.1 b) (kJ ps g) bs):bs.length=ps.length/\∀(k:Nat) (p:Nat×Nat),ps[k]?=some p->∃b,bs[k]?=some b/\SqT K H b [.int (p.1:Int),.int (p.2:Int)]:=by
 induction ps generalizing bs with
 | nil=>cases h;exact ⟨rfl,fun k p e=>by simp at e⟩
 | cons q ps ih=>
  cases h with
  | @cons _ b _ bs h1 h2=>
   obtain ⟨l,r⟩:=ih h2;refine ⟨by simp [l],fun k p e=>?_⟩
   cases k with
   | zero=>cases e;exact ⟨b,rfl,Cz h1⟩
   | succ k=>exact r k p (by simpa using e)
end T
namespace KC
open PySem PySem.Spec L2 T PySem.SeqAt
open PyProof.Rows hiding St
noncomputable abbrev dB:List Str:=["world", "pairs", "one", "other", "there", "room"]
noncomputable abbrev lK:List Str:=["any"]
noncomputable def qT (K:Fg) (a:Nat):TE:=gZ (mm K) (gZ (mm K) (aD 0) (tC (.int 2))) (aD a)
noncomputable def Ie (P:Program) (w:World) (K:Fg):TE:=nz P w K (aD 1) (uT (aT (aD 4) (aT (aD 5) bF))) (tC (.bl false))
noncomputable def nD (P:Program) (w:World) (K:Fg) (c k:Nat):TE:=oQ (rR K true) (aT (dh [c] (cU K (qT K k)) (gName c) gc (Ie P w K)) bF)
noncomputable def DT (P:Program) (w:World) (K:Fg) (a k c b:Nat):L2.TS:=eC (cU K (qT K a)) (gName k) (oP (qV (tB (nD P w K c b))) (mf (tC (.bl false))) iG)
noncomputable def DS (P:Program) (w:World) (K:Fg):L2.TS:=cC (DT P w K 2 4 5 3) (cC (DT P w K 3 5 4 2) (mf (tC (.bl true))))
noncomputable def gD (ps:List (Nat×Nat)) (g:Nat->Nat->Bool) (i j:Nat):Bool:=decide ((i,j)∈ps)&&g i j
theorem kI {ps:List (Nat×Nat)} {g:Nat->Nat->Bool} {i j:Nat}:(cH (kJ ps g) (ky i j)).getD (.bl false)=.bl (gD ps g i j):=by
 unfold gD;by_cases h:(i,j)∈ps
 ·rw [AG h,decide_eq_true h];rfl
 ·rw [EL h,decide_eq_false h];rfl
noncomputable def jL (w:Wd) (h:Nat->Nat->Bool) (i j:Nat):Bool:=((w.stp i).all fun t=>(w.stp j).any fun r=>h t r)&&(w.stp j).all fun r=>(w.stp i).any fun t=>h t r
noncomputable def uX (P:Program) (w:World) (K:Fg):Sp:=fun vs H Q _=>∃(wd:Wd) (Hb:Hp) (v0:V) (d:Addr) (ps:List (Nat×Nat)) (g:Nat->Nat->Bool) (i j:Nat),vs=[v0,.ref d,.int (i:Int),.int (j:Int)]/\wd.Ok/\Same Hb H/\Rep K Hb v0 wd.enc/\DG P w K H d ps g/\i<wd.n/\j<wd.n/\∀H',Same H H'->Q (.bl (jL wd (gD ps g) i j)) H'
section
variable {P:Program} {w:World} {K:Fg} {Hb H:Hp} {v0:V} {wd:Wd} {d:Addr} {ps:List (Nat×Nat)} {g:Nat->Nat->Bool}
theorem qO {vs:List V} {R:List Nat} {H:Hp} (hl:vs.length=(R.map rm).length) (hr:∀(i:Nat) v d,vs[i]?=some v->(R.map rm)[i]?=some d->Rep K H v d):vs=R.map fun r:Nat=>V.int (r:Int):=by
 have:=qP (K:=K) (H:=H) (vs:=vs) (xs:=R.map fun r:Nat=>(r:Int)) (by rw [map_map];exact hl) (by rw [map_map];exact hr)
 rw [this,map_map];rfl
theorem u3 {σ:St} {a k:Nat} {Q:VK} (ok:wd.Ok) (r:Rep K Hb v0 wd.enc) (s:Same Hb H) (ha:a<wd.n) (h0:σ[0]?=some (some v0)) (hk:σ[k]?=some (some (.int (a:Int)))) (q:∀p,SqL K Hb p ((wd.stp a).map fun t:Nat=>V.int (t:Int))->Q (.ref p) H):qT K k σ H Q:=by
 refine ⟨v0,h0,?_⟩
 unfold Wd.enc cM at r
 cases r with
 | @tup p vs _ hq hl hr=>
  match vs,hl with
  | [u0,u1,u2],_=>
   have r2:=hr 2 u2 _ rfl rfl
   refine .inr (.inl ⟨p,_,2,u2,rfl,rfl,dG s hq,rfl,.int (a:Int),hk,?_⟩)
   cases r2 with
   | @lst p2 rows _ hq2 hl2 hr2=>
    have hn:a<wd.s.length:=by rw [ok.ls];exact ha
    have hn2:a<rows.length:=by rw [hl2,length_map];exact hn
    have r3:=hr2 a rows[a] (aH (wd.stp a)) (getElem?_eq_getElem hn2) (by rw [getElem?_map,getElem?_eq_getElem hn];unfold Wd.stp;rw [getD_eq_getElem?_getD,getElem?_eq_getElem hn];rfl)
    refine .inl ⟨p2,rows,(a:Int),rows[a],rfl,rfl,s.seq hq2,AD (getElem?_eq_getElem hn2),?_⟩
    generalize rows[a]=rv at r3
    cases r3 with
    | @lst p3 us _ hq3 hl3 hr3=>
     rw [qO hl3 hr3] at hq3;exact q p3 hq3
theorem HE {i j t0:Nat} {x5:Option V} {Q:VK} (ok:wd.Ok) (r:Rep K Hb v0 wd.enc) (sb:Same Hb H) (hD:DG P w K H d ps g) (hj:j<wd.n) (q:∀H',Same H H'->Q (.bl ((wd.stp j).any fun t=>gD ps g t0 t)) H') :
  nD P w K 5 3 [some v0,some (.ref d),some (.int (i:Int)),some (.int (j:Int)),some (.int (t0:Int)),x5] H Q:=by
 refine u3 ok r sb hj rfl rfl fun p hp=>⟨p,rfl,⟨_,sb.seq hp⟩,fun L hL=>?_⟩
 have hbl:aP [5] [some v0,some (.ref d),some (.int (i:Int)),some (.int (j:Int)),some (.int (t0:Int)),x5]=[some v0,some (.ref d),some (.int (i:Int)),some (.int (j:Int)),some (.int (t0:Int)),none]:=by simp [aP]
 generalize hrow:wd.stp j=row at hp q
 have hrl:row.length<=1000:=by
  have:=ok.st
  rw [<-hrow];unfold Wd.stp;rw [getD_eq_getElem?_getD]
  cases e:wd.s[j]? with
  | none=>simp
  | some z=>have:=(ok.st z (mem_of_getElem? e)).2.1;show z.length<=1000;omega
 have hb:(1000:Nat)<=sizeLine:=by decide
 refine ⟨fun k m ys H2=>m=row.length-k/\k<=row.length/\ys=(row.take k).map (fun t=>V.bl (gD ps g t0 t))/\H2 L=some (.lst ys)/\Same H H2,⟨row.length,by simp,Nat.zero_le _,by simp,cB,cu hL⟩,?_⟩
 rintro k m ys H2 ⟨rfl,hk,rfl,hLs,sH⟩
 refine ⟨hLs,?_⟩
 have hq2:SqL K H2 p (row.map fun t:Nat=>V.int (t:Int)):=sH.seq (sb.seq hp)
 by_cases hlt:k<row.length
 case neg=>
  left
  refine ⟨⟨_,hq2,by rw [length_map];omega⟩,L,row.map (fun t=>gD ps g t0 t),rfl,.inl (.inl ?_),?_⟩
  ·rw [hLs,take_of_length_le (by omega),map_map];rfl
  ·rw [if_pos rfl,any_map]
   exact q H2 sH
 case pos=>
  right
  have e1:(row.map fun t:Nat=>V.int (t:Int))[k]?=some (.int (row[k]:Int)):=by rw [getElem?_map,getElem?_eq_getElem hlt];rfl
  refine ⟨⟨_,_,hq2,e1⟩,by rw [length_map,length_take];omega,?_⟩
  rintro v H3 ⟨rfl,hv⟩
  have ev:v=.int (row[k]:Int):=Option.some.inj ((hv _ hq2).symm.trans e1)
  subst ev;rw [hbl];show Az [some v0,some (.ref d),some (.int (i:Int)),some (.int (j:Int)),some (.int (t0:Int)),none] [some v0,some (.ref d),some (.int (i:Int)),some (.int (j:Int)),some (.int (t0:Int)),some (.int (row[k]:Int))]/\_
  refine ⟨⟨rfl,fun n u h=>?_⟩,?_⟩
  ·match n,h with
   | 0,h=>exact h
   | 1,h=>exact h
   | 2,h=>exact h
   | 3,h=>exact h
   | 4,h=>exact h
   | 5,h=>cases h
   | n+6,h=>cases h
  refine nZ ?_
  have hD3:=hD.grow sH
  refine ⟨.ref d,rfl,d,rfl,⟨_,_,hD3⟩,_,rfl,_,rfl,Nat.le_trans (by decide:2<=1000) hb,fun b hb'=>⟨b,[false,false],kJ ps g,ky t0 row[k],rfl,hD3.grow (cu hb'),xR,rfl,?_,row.length-(k+1),by omega,rfl,hlt,?_,cB,fun c o hc=>?_⟩⟩
  ·rw [bE (jQ hLs hb')];exact hLs
  ·rw [kI,take_succ,getElem?_eq_getElem hlt,map_append];rfl
  ·rw [bE (fun z=>by subst z;rw [hL] at hc;cases hc),bE (jQ (sH c o hc) hb')]
   exact sH c o hc
theorem HF {i j t0:Nat} {x4:Option V} {Q:VK} (ok:wd.Ok) (r:Rep K Hb v0 wd.enc) (sb:Same Hb H) (hD:DG P w K H d ps g) (hj:i<wd.n) (q:∀H',Same H H'->Q (.bl ((wd.stp i).any fun t=>gD ps g t t0)) H') :
  nD P w K 4 2 [some v0,some (.ref d),some (.int (i:Int)),some (.int (j:Int)),x4,some (.int (t0:Int))] H Q:=by
 refine u3 ok r sb hj rfl rfl fun p hp=>⟨p,rfl,⟨_,sb.seq hp⟩,fun L hL=>?_⟩
 have hbl:aP [4] [some v0,some (.ref d),some (.int (i:Int)),some (.int (j:Int)),x4,some (.int (t0:Int))]=[some v0,some (.ref d),some (.int (i:Int)),some (.int (j:Int)),none,some (.int (t0:Int))]:=by simp [aP]
 generalize hrow:wd.stp i=row at hp q
 have hrl:row.length<=1000:=by
  have:=ok.st
  rw [<-hrow];unfold Wd.stp;rw [getD_eq_getElem?_getD]
  cases e:wd.s[i]? with
  | none=>simp
  | some z=>have:=(ok.st z (mem_of_getElem? e)).2.1;show z.length<=1000;omega
 have hb:(1000:Nat)<=sizeLine:=by decide
 refine ⟨fun k m ys H2=>m=row.length-k/\k<=row.length/\ys=(row.take k).map (fun t=>V.bl (gD ps g t t0))/\H2 L=some (.lst ys)/\Same H H2,⟨row.length,by simp,Nat.zero_le _,by simp,cB,cu hL⟩,?_⟩
 rintro k m ys H2 ⟨rfl,hk,rfl,hLs,sH⟩
 refine ⟨hLs,?_⟩
 have hq2:SqL K H2 p (row.map fun t:Nat=>V.int (t:Int)):=sH.seq (sb.seq hp)
 by_cases hlt:k<row.length
 case neg=>
  left
  refine ⟨⟨_,hq2,by rw [length_map];omega⟩,L,row.map (fun t=>gD ps g t t0),rfl,.inl (.inl ?_),?_⟩
  ·rw [hLs,take_of_length_le (by omega),map_map];rfl
  ·rw [if_pos rfl,any_map]
   exact q H2 sH
 case pos=>
  right
  have e1:(row.map fun t:Nat=>V.int (t:Int))[k]?=some (.int (row[k]:Int)):=by rw [getElem?_map,getElem?_eq_getElem hlt];rfl
  refine ⟨⟨_,_,hq2,e1⟩,by rw [length_map,length_take];omega,?_⟩
  rintro v H3 ⟨rfl,hv⟩
  have ev:v=.int (row[k]:Int):=Option.some.inj ((hv _ hq2).symm.trans e1)
  subst ev;rw [hbl];show Az [some v0,some (.ref d),some (.int (i:Int)),some (.int (j:Int)),none,some (.int (t0:Int))] [some v0,some (.ref d),some (.int (i:Int)),some (.int (j:Int)),some (.int (row[k]:Int)),some (.int (t0:Int))]/\_
  refine ⟨⟨rfl,fun n u h=>?_⟩,?_⟩
  ·match n,h with
   | 0,h=>exact h
   | 1,h=>exact h
   | 2,h=>exact h
   | 3,h=>exact h
   | 4,h=>cases h
   | 5,h=>exact h
   | n+6,h=>cases h
  refine nZ ?_
  have hD3:=hD.grow sH
  refine ⟨.ref d,rfl,d,rfl,⟨_,_,hD3⟩,_,rfl,_,rfl,Nat.le_trans (by decide:2<=1000) hb,fun b hb'=>⟨b,[false,false],kJ ps g,ky row[k] t0,rfl,hD3.grow (cu hb'),xR,rfl,?_,row.length-(k+1),by omega,rfl,hlt,?_,cB,fun c o hc=>?_⟩⟩
  ·rw [bE (jQ hLs hb')];exact hLs
  ·rw [kI,take_succ,getElem?_eq_getElem hlt,map_append];rfl
  ·rw [bE (fun z=>by subst z;rw [hL] at hc;cases hc),bE (jQ (sH c o hc) hb')]
   exact sH c o hc
theorem Jj {i j:Nat} {x4 x5:Option V} {D:bS} (ok:wd.Ok) (r:Rep K Hb v0 wd.enc) (sb:Same Hb H) (hD:DG P w K H d ps g) (hi:i<wd.n) (hj:j<wd.n) (q:∀H' x4 x5,Same H H'->((wd.stp i).all fun t=>(wd.stp j).any fun r=>gD ps g t r)=true->D.nx [some v0,some (.ref d),some (.int (i:Int)),some (.int (j:Int)),x4,x5] H')
  (q2:∀H',Same H H'->((wd.stp i).all fun t=>(wd.stp j).any fun r=>gD ps g t r)=false->D.rt (.bl false) H'):DT P w K 2 4 5 3 D [some v0,some (.ref d),some (.int (i:Int)),some (.int (j:Int)),x4,x5] H:=by
 refine u3 ok r sb hi rfl rfl fun p hp=>⟨p,rfl,⟨_,sb.seq hp⟩,?_⟩
 refine Dw (xs:=(wd.stp i).map fun t:Nat=>V.int (t:Int)) (fun k σ' H'=>(∃x4 x5,σ'=[some v0,some (.ref d),some (.int (i:Int)),some (.int (j:Int)),x4,x5])/\Same H H'/\(((wd.stp i).take k).all fun t=>(wd.stp j).any fun r=>gD ps g t r)=true) ⟨⟨_,_,rfl⟩,Same.refl _,rfl⟩ (fun k σ' H' _ h=>h.2.1.seq (sb.seq hp)) (fun k x σ' H' e h=>?_) fun σ' H' h=>?_
 ·obtain ⟨⟨x4,x5,rfl⟩,sH,hall⟩:=h
  rw [getElem?_map] at e;obtain ⟨t0,e1,rfl⟩:=Option.map_eq_some_iff.mp e;refine HE ok r (sb.trans sH) (hD.grow sH) hj fun H2 s2=>⟨_,rfl,?_⟩
  cases hb:(wd.stp j).any fun t=>gD ps g t0 t with
  | true=>
   refine cX ⟨⟨_,_,rfl⟩,sH.trans s2,?_⟩
   rw [take_succ,e1,List.all_append,hall];simp [hb]
  | false=>
   refine dq (q2 H2 (sH.trans s2) ?_)
   rw [List.all_eq_false];exact ⟨t0,mem_of_getElem? e1,by rw [hb];exact Bool.false_ne_true⟩
 ·obtain ⟨⟨x4,x5,rfl⟩,sH,hall⟩:=h
  rw [length_map,take_of_length_le (Nat.le_refl _)] at hall;exact q H' x4 x5 sH hall
theorem Jk {i j:Nat} {x4 x5:Option V} {D:bS} (ok:wd.Ok) (r:Rep K Hb v0 wd.enc) (sb:Same Hb H) (hD:DG P w K H d ps g) (hi:i<wd.n) (hj:j<wd.n) (q:∀H' x4 x5,Same H H'->((wd.stp j).all fun t=>(wd.stp i).any fun r=>gD ps g r t)=true->D.nx [some v0,some (.ref d),some (.int (i:Int)),some (.int (j:Int)),x4,x5] H')
  (q2:∀H',Same H H'->((wd.stp j).all fun t=>(wd.stp i).any fun r=>gD ps g r t)=false->D.rt (.bl false) H'):DT P w K 3 5 4 2 D [some v0,some (.ref d),some (.int (i:Int)),some (.int (j:Int)),x4,x5] H:=by
 refine u3 ok r sb hj rfl rfl fun p hp=>⟨p,rfl,⟨_,sb.seq hp⟩,?_⟩
 refine Dw (xs:=(wd.stp j).map fun t:Nat=>V.int (t:Int)) (fun k σ' H'=>(∃x4 x5,σ'=[some v0,some (.ref d),some (.int (i:Int)),some (.int (j:Int)),x4,x5])/\Same H H'/\(((wd.stp j).take k).all fun t=>(wd.stp i).any fun r=>gD ps g r t)=true) ⟨⟨_,_,rfl⟩,Same.refl _,rfl⟩ (fun k σ' H' _ h=>h.2.1.seq (sb.seq hp)) (fun k x σ' H' e h=>?_) fun σ' H' h=>?_
 ·obtain ⟨⟨x4,x5,rfl⟩,sH,hall⟩:=h
  rw [getElem?_map] at e;obtain ⟨t0,e1,rfl⟩:=Option.map_eq_some_iff.mp e;refine HF ok r (sb.trans sH) (hD.grow sH) hi fun H2 s2=>⟨_,rfl,?_⟩
  cases hb:(wd.stp i).any fun t=>gD ps g t t0 with
  | true=>
   refine cX ⟨⟨_,_,rfl⟩,sH.trans s2,?_⟩
   rw [take_succ,e1,List.all_append,hall];simp [hb]
  | false=>
   refine dq (q2 H2 (sH.trans s2) ?_)
   rw [List.all_eq_false];exact ⟨t0,mem_of_getElem? e1,by rw [hb];exact Bool.false_ne_true⟩
 ·obtain ⟨⟨x4,x5,rfl⟩,sH,hall⟩:=h
  rw [length_map,take_of_length_le (Nat.le_refl _)] at hall;exact q H' x4 x5 sH hall
theorem BW {vs:List V} {Q:VK} {E:XK} {Qn:St->Hp->Prop} (h:uX P w K vs H Q E):DS P w K { nx:=Qn,rt:=Q } (L2.start dB vs) H:=by
 obtain ⟨wd,Hb,v0,d,ps,g,i,j,rfl,ok,sb,r,hD,hi,hj,q⟩:=h;show DS P w K { nx:=Qn,rt:=Q } [some v0,some (.ref d),some (.int (i:Int)),some (.int (j:Int)),none,none] H
 refine Jj ok r sb hD hi hj (fun H1 x4 x5 s1 e1=>?_) fun H1 s1 e1=>?_
 ·refine Jk ok r (sb.trans s1) (hD.grow s1) hi hj (fun H2 x4 x5 s2 e2=>?_) fun H2 s2 e2=>?_
  ·have:=q H2 (s1.trans s2)
   unfold jL at this;rw [e1,e2] at this;exact this
  ·have:=q H2 (s1.trans s2)
   unfold jL at this;rw [e1,e2] at this;exact this
 ·have:=q H1 s1
  unfold jL at this;rw [e1] at this;exact this
end
noncomputable def ue (P:Program) (w:World) (K:Fg) (mg:Str->Option Value) (base:Heap) (j:Nat):Prop:=
 ∃(f:Addr) (fd:FuncData) (ps:List Str),cE P w K mg base g7 j f fd ps (uX P w K)/\mg "_law_pair_right"=some (.ref f)/\PySem.W.keepIn K (.ref f)=true/\Binds K fd ps []
noncomputable def oW (w:Wd) (o:Bool) (i j:Nat):Bool:=(w.mks i==w.mks j)&&(!o||hX w i==hX w j)
noncomputable def pf (n i j:Nat):List (Nat×Nat):=((List.range i).flatMap fun a=>(List.range n).map fun b=>(a,b))++(List.range j).map fun b=>(i,b)
noncomputable def dj (n:Nat):List (Nat×Nat):=pf n n 0
theorem mem_psT {n i j a b:Nat}:(a,b)∈pf n i j↔(a<i/\b<n)\/(a=i/\b<j):=by
 unfold pf;rw [List.mem_append,List.mem_flatMap,mem_map];constructor
 ·rintro (⟨x,h1,h2⟩ | ⟨x,h1,h2⟩)
  ·obtain ⟨y,h3,h4⟩:=List.mem_map.mp h2
   cases h4;exact .inl ⟨List.mem_range.mp h1,List.mem_range.mp h3⟩
  ·cases h2
   exact .inr ⟨rfl,List.mem_range.mp h1⟩
 ·rintro (⟨h1,h2⟩ | ⟨rfl,h2⟩)
  ·exact .inl ⟨a,List.mem_range.mpr h1,List.mem_map.mpr ⟨b,List.mem_range.mpr h2,rfl⟩⟩
  ·exact .inr ⟨b,List.mem_range.mpr h2,rfl⟩
theorem mem_psN {n a b:Nat}:(a,b)∈dj n↔a<n/\b<n:=by
 unfold dj;rw [mem_psT];constructor
 ·rintro (h | ⟨_,h⟩)
  ·exact h
  ·exact absurd h (Nat.not_lt_zero _)
 ·exact .inl
theorem rX {n i j:Nat}:pf n i (j+1)=pf n i j++[(i,j)]:=by
 unfold pf;rw [range_succ,map_append,append_assoc];rfl
theorem rY {n i:Nat}:pf n (i+1) 0=pf n i n:=by
 unfold pf;rw [range_succ,List.flatMap_append];simp
theorem nT {n i j:Nat}:(pf n i j).length=i*n+j:=by
 unfold pf;rw [length_append,length_map,length_range];congr 1
 induction i with
 | zero=>simp
 | succ i ih=>
  rw [range_succ,List.flatMap_append,length_append,ih];simp [Nat.succ_mul]
structure Rt (w:Wd) (o:Bool) (R:Nat->Nat->Prop):Prop where
 sm:∀i j,i<w.n->j<w.n->R i j->oW w o i j=true
 fo:∀i j,i<w.n->j<w.n->R i j->∀t∈w.stp i,∃r∈w.stp j,R t r
 ba:∀i j,i<w.n->j<w.n->R i j->∀r∈w.stp j,∃t∈w.stp i,R t r
theorem prB_iff {w:Wd} {h:Nat->Nat->Bool} {i j:Nat}:jL w h i j=true↔(∀t∈w.stp i,∃r∈w.stp j,h t r=true)/\∀r∈w.stp j,∃t∈w.stp i,h t r=true:=by
 unfold jL;simp only [Bool.and_eq_true,all_eq_true,any_eq_true]
theorem ph {w:Wd} (ok:w.Ok) {h h':Nat->Nat->Bool} {i j:Nat} (e:∀a b,a<w.n->b<w.n->h a b=h' a b):jL w h i j=jL w h' i j:=by
 rw [Bool.eq_iff_iff,prB_iff,prB_iff];constructor
 ·rintro ⟨f,b⟩
  exact ⟨fun t ht=>let ⟨r,hr,x⟩:=f t ht;⟨r,hr,by rw [<-e _ _ (ok.stp_lt ht) (ok.stp_lt hr)];exact x⟩,fun r hr=>let ⟨t,ht,x⟩:=b r hr;⟨t,ht,by rw [<-e _ _ (ok.stp_lt ht) (ok.stp_lt hr)];exact x⟩⟩
 ·rintro ⟨f,b⟩
  exact ⟨fun t ht=>let ⟨r,hr,x⟩:=f t ht;⟨r,hr,by rw [e _ _ (ok.stp_lt ht) (ok.stp_lt hr)];exact x⟩,fun r hr=>let ⟨t,ht,x⟩:=b r hr;⟨t,ht,by rw [e _ _ (ok.stp_lt ht) (ok.stp_lt hr)];exact x⟩⟩
theorem zg {w:Wd} (ok:w.Ok) {g:Nat->Nat->Bool} {i j:Nat}:jL w (gD (dj w.n) g) i j=jL w g i j:=ph ok fun a b ha hb=>by
 unfold gD;rw [decide_eq_true (mem_psN.mpr ⟨ha,hb⟩),Bool.true_and]
structure Ga (w:Wd) (o:Bool) (g:Nat->Nat->Bool):Prop where
 sub:∀i j,i<w.n->j<w.n->g i j=true->oW w o i j=true
 max:∀R:Nat->Nat->Prop,Rt w o R->∀i j,i<w.n->j<w.n->R i j->g i j=true
structure Bis (w:Wd) (o:Bool) (g:Nat->Nat->Bool):Prop extends Ga w o g where
 rt:∀i j,i<w.n->j<w.n->g i j=true->jL w g i j=true
theorem Ga.start {w:Wd} {o:Bool}:Ga w o (oW w o):=⟨fun _ _ _ _ h=>h,fun R r i j hi hj h=>r.sm i j hi hj h⟩
theorem Ga.step {w:Wd} (ok:w.Ok) {o:Bool} {g:Nat->Nat->Bool} (h:Ga w o g) {i j:Nat} (hi:i<w.n) (hj:j<w.n) (hp:jL w g i j=false):Ga w o (jf g i j false):=by
 refine ⟨fun a b ha hb e=>?_,fun R r a b ha hb e=>?_⟩
 ·unfold jf at e
  split at e
  ·cases e
  ·exact h.sub a b ha hb e
 ·unfold jf
  split
  ·rename_i z
   obtain ⟨rfl,rfl⟩:=z;have:jL w g a b=true:=prB_iff.mpr ⟨fun t ht=>let ⟨x,hx,y⟩:=r.fo a b ha hb e t ht;⟨x,hx,h.max R r t x (ok.stp_lt ht) (ok.stp_lt hx) y⟩,fun t ht=>let ⟨x,hx,y⟩:=r.ba a b ha hb e t ht;⟨x,hx,h.max R r x t (ok.stp_lt hx) (ok.stp_lt ht) y⟩⟩
   rw [hp] at this
   cases this
  ·exact h.max R r a b ha hb e
noncomputable def cnt (ps:List (Nat×Nat)) (g:Nat->Nat->Bool):Nat:=ps.countP fun p=>g p.1 p.2
theorem Ag {g:Nat->Nat->Bool} {i j:Nat} (ps:List (Nat×Nat)):cnt ps (jf g i j false)<=cnt ps g:=by
 refine List.countP_mono_left fun p _ h=>?_
 unfold jf at h;split at h
 ·cases h
 ·exact h
theorem tU {g:Nat->Nat->Bool} {i j:Nat} (h:g i j=true):∀{ps:List (Nat×Nat)},(i,j)∈ps->cnt ps (jf g i j false)<cnt ps g
 | p::ps,m=>by
  have le:=Ag (g:=g) (i:=i) (j:=j) ps
  unfold cnt at le ⊢
  rw [List.countP_cons,List.countP_cons];rcases List.mem_cons.mp m with e | m
  ·subst e
   have:jf g i j false i j=false:=by unfold jf;rw [if_pos ⟨rfl,rfl⟩]
   simp only [this,h]
   simp
   omega
  ·have lt:=tU h m
   unfold cnt at lt;have:(if jf g i j false p.1 p.2=true then 1 else 0)<=(if g p.1 p.2=true then 1 else 0):=by
    unfold jf;by_cases z:p.1=i/\p.2=j
    ·rw [if_pos z];simp
    ·rw [if_neg z];exact Nat.le_refl _
   omega
theorem qQ {g:Nat->Nat->Bool} {i j:Nat}:jf g i j (g i j)=g:=by
 funext a b
 unfold jf;split
 ·rename_i z;rw [z.1,z.2]
 ·rfl
theorem Bis.rel {w:Wd} {o:Bool} {g:Nat->Nat->Bool} (ok:w.Ok) (b:Bis w o g):Rt w o fun i j=>g i j=true/\i<w.n/\j<w.n:=
 ⟨fun i j hi hj h=>b.sub i j hi hj h.1,fun i j hi hj h t ht=>let ⟨r,hr,x⟩:=(prB_iff.mp (b.rt i j hi hj h.1)).1 t ht;⟨r,hr,x,ok.stp_lt ht,ok.stp_lt hr⟩,fun i j hi hj h r hr=>let ⟨t,ht,x⟩:=(prB_iff.mp (b.rt i j hi hj h.1)).2 r hr;⟨t,ht,x,ok.stp_lt ht,ok.stp_lt hr⟩⟩
noncomputable def Lk (w:Wd) (o:Bool) (i j:Nat):Prop:=∃R,Rt w o R/\R i j
theorem Bis.lk {w:Wd} {o:Bool} {g:Nat->Nat->Bool} (ok:w.Ok) (b:Bis w o g) {i j:Nat} (hi:i<w.n) (hj:j<w.n):g i j=true↔Lk w o i j:=
 ⟨fun h=>⟨_,b.rel ok,h,hi,hj⟩,fun ⟨R,r,h⟩=>b.max R r i j hi hj h⟩
noncomputable abbrev eV:List Str:=["world", "owned", "many", "pairs", "one", "other", "same", "more"]
noncomputable abbrev qm:List Str:=["len", "range", "list", "_law_pair_right"]
noncomputable def Bb (K:Fg) (c:Int) (k:Nat):TE:=gZ (mm K) (gZ (mm K) (aD 0) (tC (.int c))) (aD k)
noncomputable def xt (K:Fg):TE:=qY (gZ (ka K false) (Bb K 1 4) (Bb K 1 5)) (BJ (qU (aD 1)) (gZ (ka K false) (Bb K 0 4) (Bb K 0 5)))
noncomputable def gg (a b:Nat):TE:=uT (aT (aD a) (aT (aD b) bF))
noncomputable def xv (P:Program) (w:World) (K:Fg):L2.TS:=eC (fz (aT (aD 2) bF)) (gName 4) (eC (fz (aT (aD 2) bF)) (gName 5) (cC (fH (xt K) (gName 6)) (rj P w K (aD 3) (gg 4 5) (aD 6))))
noncomputable def Gc (P:Program) (w:World) (K:Fg):TT:=BL (tB (xh P w K (aD 3) (gg 4 5))) (qV (tB (gh (uX P w K) [] L2.E0 (aT (aD 0) (aT (aD 3) (aT (aD 4) (aT (aD 5) bF)))))))
noncomputable def BI (P:Program) (w:World) (K:Fg):L2.TS:=eC (cU K (oQ (nJ P w K) (aT (aD 3) bF))) (wa K 2 (gM (gName 4) (gM (gName 5) wc))) (oP (Gc P w K) (cC (rj P w K (aD 3) (gg 4 5) (tC (.bl false))) (fH (tC (.bl true)) (gName 7))) iG)
noncomputable def B6 (K:Fg):List V->Hp->VK->Prop:=fun xs H Q=>∃p ys,xs=[.ref p]/\(SqL K H p ys\/SqT K H p ys)/\Q (.int ys.length) H
noncomputable def DW (P:Program) (w:World) (K:Fg):L2.TS:=cC (fH (oQ (B6 K) (aT (gZ (mm K) (aD 0) (tC (.int 0))) bF)) (gName 2)) (cC (fH (Ez P w K [false,false]) (gName 3)) (cC (xv P w K) (cC (fH (tC (.bl true)) (gName 7)) (cC (EC (tB (aD 7)) (cC (fH (tC (.bl false)) (gName 7)) (BI P w K))) (mf (aD 3))))))
noncomputable def uY (P:Program) (w:World) (K:Fg):Sp:=fun vs H Q _=>∃(wd:Wd) (Hb:Hp) (v0:V) (o:Bool),vs=[v0,.bl o]/\wd.Ok/\Same Hb H/\Rep K Hb v0 wd.enc/\∀d H' g,Same H H'->H d=none->DG P w K H' d (dj wd.n) g->Bis wd o g->Q (.ref d) H'
noncomputable def SD (d:Addr) (H H':Hp):Prop:=∀c o,c≠d->H c=some o->H' c=some o
theorem SD.of {d:Addr} {H H':Hp} (s:Same H H'):SD d H H':=fun c o _ h=>s c o h
theorem SD.trans {d:Addr} {H H1 H2:Hp} (a:SD d H H1) (b:SD d H1 H2):SD d H H2:=fun c o n h=>b c o n (a c o n h)
theorem SD.upd {d:Addr} {H:Hp} {o:HO}:SD d H (upd H d o):=fun c u n h=>by rw [bE n];exact h
theorem SD.same {d:Addr} {H0 H H':Hp} (s:Same H0 H) (hd:H0 d=none) (x:SD d H H'):Same H0 H':=fun c o h=>x c o (fun z=>by subst z;rw [hd] at h;cases h) (s c o h)
theorem SD.seqL {K:Fg} {d p:Addr} {H H':Hp} {vs:List V} (x:SD d H H') (hd:∀vs o,H d≠some (.lst vs)/\H d≠some (.frz o (.lst vs))) (h:SqL K H p vs):SqL K H' p vs:=by
 rcases h with (h | ⟨o,h⟩) | h
 ·exact .inl (.inl (x _ _ (fun z=>by subst z;exact (hd vs default).1 h) h))
 ·exact .inl (.inr ⟨o,x _ _ (fun z=>by subst z;exact (hd vs o).2 h) h⟩)
 ·exact .inr h
theorem SD.seqT {K:Fg} {d p:Addr} {H H':Hp} {vs:List V} (x:SD d H H') (hd:∀vs o,H d≠some (.tup vs)/\H d≠some (.frz o (.tup vs))) (h:SqT K H p vs):SqT K H' p vs:=by
 rcases h with (h | ⟨o,h⟩) | h
 ·exact .inl (.inl (x _ _ (fun z=>by subst z;exact (hd vs default).1 h) h))
 ·exact .inl (.inr ⟨o,x _ _ (fun z=>by subst z;exact (hd vs o).2 h) h⟩)
 ·exact .inr h
theorem Hv {a b:List Str} (ha:∀x∈a,PyData.strOk x=true) (hb:∀x∈b,PyData.strOk x=true):bL (dR a) (dR b)=some (.bool (a==b)):=by
 have sh:∀l:List Str,(∀x∈l,PyData.strOk x=true)->shaped (dR l)=true:=fun l h=>uZ fun d hd=>by
  obtain ⟨x,hx,rfl⟩:=List.mem_map.mp hd;exact ⟨x,rfl,h x hx⟩
 have eq:∀a b:List Str,PyData.eqvAll (a.map .str) (b.map .str)=(a==b):=fun a=>by
  induction a with
  | nil=>intro b;cases b<;>rw [List.map_nil]<;>simp [PyData.eqvAll]
  | cons x a ih=>
   intro b
   cases b with
   | nil=>simp [PyData.eqvAll]
   | cons y b=>rw [map_cons,map_cons,PyData.eqvAll,ih b];simp [PyData.eqv]
 unfold bL;rw [sh a ha,sh b hb];show some (PyData.bool (PyData.eqvAll (a.map .str) (b.map .str)))=_
 rw [eq]
theorem tu {a b:PySem.PyData} {c:Bool} (h:bL a b=some (.bool c)):shaped a=true/\shaped b=true/\PyData.eqv a b=c:=by
 unfold bL at h;split at h
 ·rename_i z
  rw [Bool.and_eq_true] at z;exact ⟨z.1,z.2,by simpa using h⟩
 ·cases h
section
variable {P:Program} {w:World} {K:Fg} {Hb H:Hp} {v0:V} {wd:Wd} {d:Addr} {o:Bool}
theorem sx {σ:St} {c:Nat} {ds:List PySem.PyData} {xs:List PySem.PyData} {Q:VK} (he:wd.enc=.tuple ds) (hc:ds[c]?=some (.list xs)) (r:Rep K Hb v0 wd.enc) (s:Same Hb H) (h0:σ[0]?=some (some v0)) (q:∀p vs,SqL K Hb p vs->vs.length=xs.length->(∀(i:Nat) v d,vs[i]?=some v->xs[i]?=some d->Rep K Hb v d)->Q (.ref p) H):gZ (mm K) (aD 0) (tC (.int (c:Int))) σ H Q:=by
 refine ⟨v0,h0,?_⟩
 rw [he] at r
 cases r with
 | @tup p vs _ hq hl hr=>
  have hlt:=(List.getElem?_eq_some_iff.mp hc).1
  have hl2:c<vs.length:=by omega
  have r2:=hr c vs[c] _ (getElem?_eq_getElem hl2) hc
  refine .inr (.inl ⟨p,_,(c:Int),vs[c],rfl,rfl,dG s hq,AD (getElem?_eq_getElem hl2),?_⟩)
  generalize vs[c]=u at r2
  cases r2 with
  | @lst p2 rows _ hq2 hl2 hr2=>exact q p2 rows hq2 hl2 hr2
theorem Ej {σ:St} {c k a:Nat} {ds:List PySem.PyData} {xs:List PySem.PyData} {x:PySem.PyData} {Q:VK} (he:wd.enc=.tuple ds) (hc:ds[c]?=some (.list xs)) (hx:xs[a]?=some x) (r:Rep K Hb v0 wd.enc) (s:Same Hb H) (h0:σ[0]?=some (some v0)) (hk:σ[k]?=some (some (.int (a:Int)))) (q:∀v,Rep K Hb v x->Q v H):Bb K (c:Int) k σ H Q:=by
 refine sx he hc r s h0 fun p vs hq hl hr=>⟨.int (a:Int),hk,?_⟩
 have hlt:=(List.getElem?_eq_some_iff.mp hx).1
 have hl2:a<vs.length:=by omega
 exact .inl ⟨p,vs,(a:Int),vs[a],rfl,rfl,s.seq hq,AD (getElem?_eq_getElem hl2),q _ (hr a vs[a] x (getElem?_eq_getElem hl2) hx)⟩
theorem xB (ok:wd.Ok) {r:Nat} (hr:r<wd.n):wd.os[r]?=some (.int (hX wd r)):=by
 obtain ⟨q,hq,e,h⟩:=ok.o_at hr;have:hX wd r=q:=by
  unfold hX;rw [h 0];rcases hq with rfl | rfl<;>rfl
 rw [this];unfold cZ dn at e;rw [if_pos (by omega)] at e
 split at e
 ·simpa using e
 ·cases e
theorem vc {σ:St} {i j:Nat} {Q:VK} (ok:wd.Ok) (r:Rep K Hb v0 wd.enc) (s:Same Hb H) (hi:i<wd.n) (hj:j<wd.n) (h0:σ[0]?=some (some v0)) (h1:σ[1]?=some (some (.bl o))) (h4:σ[4]?=some (some (.int (i:Int)))) (h5:σ[5]?=some (some (.int (j:Int)))) (q:Q (.bl (oW wd o i j)) H):xt K σ H Q:=by
 have mk:∀{a:Nat},a<wd.n->(wd.m.map dR)[a]?=some (dR (wd.mks a)):=fun {a} h=>by
  rw [getElem?_map];unfold Wd.mks;rw [getD_eq_getElem?_getD,getElem?_eq_getElem (by rw [ok.lm];exact h)]
  rfl
 have mc:∀a,∀c∈wd.mks a,PyData.strOk c=true:=fun a c hc=>by
  unfold Wd.mks at hc;rw [getD_eq_getElem?_getD] at hc
  cases e:wd.m[a]? with
  | none=>rw [e] at hc;simp at hc
  | some z=>rw [e] at hc;exact ok.mc z (mem_of_getElem? e) c hc
 unfold oW at q;refine Ej (c:=1) (ds:=[.list wd.os,.list (wd.m.map dR),.list (wd.s.map aH)]) rfl rfl (mk hi) r s h0 h4 fun va ra=>Ej (c:=1) (ds:=[.list wd.os,.list (wd.m.map dR),.list (wd.s.map aH)]) rfl rfl (mk hj) r s h0 h5 fun vb rb=>?_
 obtain ⟨a1,a2,a3⟩:=tu (Hv (mc i) (mc j));refine ⟨_,_,ra.mono s,rb.mono s,a1,a2,_,rfl,?_⟩
 rw [if_neg Bool.false_ne_true,a3]
 cases e:(wd.mks i==wd.mks j) with
 | false=>
  rw [e] at q;exact cX q
 | true=>
  rw [e] at q;refine dq ⟨.bl o,h1,o,rfl,_,rfl,?_⟩
  cases o with
  | false=>exact dq q
  | true=>
   refine cX (Ej (c:=0) (ds:=[.list wd.os,.list (wd.m.map dR),.list (wd.s.map aH)]) rfl rfl (xB ok hi) r s h0 h4 fun va ra=>Ej (c:=0) (ds:=[.list wd.os,.list (wd.m.map dR),.list (wd.s.map aH)]) rfl rfl (xB ok hj) r s h0 h5 fun vb rb=>?_)
   obtain ⟨a1,a2,a3⟩:=tu (eq_int (a:=hX wd i) (b:=hX wd j))
   refine ⟨_,_,ra.mono s,rb.mono s,a1,a2,?_⟩
   rw [if_neg Bool.false_ne_true,a3];exact q
end
noncomputable abbrev sg (v0:V) (o:Bool) (n:Nat) (d:Addr) (x4 x5 x6 x7:Option V):St:=[some v0,some (.bl o),some (.int (n:Int)),some (.ref d),x4,x5,x6,x7]
theorem nW {ps:List (Nat×Nat)} {g:Nat->Nat->Bool}:(kJ ps g).length=ps.length:=by unfold kJ;rw [length_map]
theorem AC {P:Program} {w:World} {K:Fg} {H:Hp} {a:Addr} {ps:List (Nat×Nat)} {g:Nat->Nat->Bool} (x:DG P w K H a ps g):∃φ,H a=some (.ext φ):=let ⟨_,h,_⟩:=x;⟨_,h⟩
section
variable {P:Program} {w:World} {K:Fg} {Hb H0 H:Hp} {v0:V} {wd:Wd} {d:Addr} {o:Bool}
theorem Bn {a b:V}:([a,b]:List V).length<=sizeLine:=Nat.le_trans (by decide:2<=1000) (by decide)
theorem vk {x4 x5 x6 x7:Option V} {D:bS} (ok:wd.Ok) (r:Rep K Hb v0 wd.enc) (sb:Same Hb H0) (s0:Same H0 H) (hd0:H0 d=none) (hD:DG P w K H d [] (oW wd o)) (q:∀H' x4 x5 x6,Same H0 H'->DG P w K H' d (dj wd.n) (oW wd o)->D.nx (sg v0 o wd.n d x4 x5 x6 x7) H'):xv P w K D (sg v0 o wd.n d x4 x5 x6 x7) H:=by
 have h24:=ok.h24
 refine ⟨.int (wd.n:Int),rfl,(wd.n:Int),rfl,by omega,by omega,?_⟩
 refine Fz (n:=wd.n) (fun i σ' H'=>(∃x4 x5 x6,σ'=sg v0 o wd.n d x4 x5 x6 x7)/\Same H0 H'/\DG P w K H' d (pf wd.n i 0) (oW wd o)) ⟨⟨_,_,_,rfl⟩,s0,hD⟩ (fun i σ' H' hi h=>?_) fun σ' H' h=>?_
 ·obtain ⟨⟨x4,x5,x6,rfl⟩,s1,hD1⟩:=h
  rw [Int.zero_add];refine ⟨.int (wd.n:Int),rfl,(wd.n:Int),rfl,by omega,by omega,?_⟩
  refine Fz (n:=wd.n) (fun j σ' H'=>(∃x5 x6,σ'=sg v0 o wd.n d (some (.int (i:Int))) x5 x6 x7)/\Same H0 H'/\DG P w K H' d (pf wd.n i j) (oW wd o)) ⟨⟨_,_,rfl⟩,s1,hD1⟩ (fun j σ' H' hj h=>?_) fun σ' H' h=>?_
  ·obtain ⟨⟨x5,x6,rfl⟩,s2,hD2⟩:=h
   rw [Int.zero_add];refine vc (o:=o) (i:=i) (j:=j) ok r (sb.trans s2) hi hj rfl rfl rfl rfl ?_
   refine ⟨_,rfl,.ref d,rfl,_,rfl,_,rfl,Bn,fun b hb=>⟨d,b,[false,false],_,ky i j,rfl,rfl,hD2.grow (cu hb),xR,rfl,?_,fun ob hD3=>⟨⟨_,_,rfl⟩,?_,?_⟩⟩⟩
   ·rw [nW,nT]
    have:i*wd.n<=23*24:=Nat.mul_le_mul (by omega) h24
    omega
   ·exact SD.same (s2.trans (cu hb)) hd0 SD.upd
   ·rw [nV,if_neg (fun z=>by rcases mem_psT.mp z with z | z<;>omega),qQ,<-rX] at hD3
    exact hD3
  ·obtain ⟨⟨x5,x6,rfl⟩,s2,hD2⟩:=h
   exact ⟨⟨_,_,_,rfl⟩,s2,by rw [rY];exact hD2⟩
 ·obtain ⟨⟨x4,x5,x6,rfl⟩,s1,hD1⟩:=h
  exact q H' x4 x5 x6 s1 hD1
theorem yL {x4 x5 x6:Option V} {D:bS} {g:Nat->Nat->Bool} (ok:wd.Ok) (r:Rep K Hb v0 wd.enc) (sb:Same Hb H0) (s0:Same H0 H) (hd0:H0 d=none) (hD:DG P w K H d (dj wd.n) g) (ga:Ga wd o g)
  (q:∀H' x4 x5 mo g',Same H0 H'->DG P w K H' d (dj wd.n) g'->Ga wd o g'->(mo=false->g'=g/\∀p∈dj wd.n,g p.1 p.2=true->jL wd g p.1 p.2=true)->(mo=true->cnt (dj wd.n) g'<cnt (dj wd.n) g)->D.nx (sg v0 o wd.n d x4 x5 x6 (some (.bl mo))) H') :
  BI P w K D (sg v0 o wd.n d x4 x5 x6 (some (.bl false))) H:=by
 have h24:=ok.h24
 refine ⟨.ref d,rfl,d,[false,false],_,rfl,hD,fun l bs hl hp=>⟨l,rfl,⟨_,.inl (.inl cB)⟩,?_⟩⟩
 obtain ⟨hbl,hbs⟩:=vF hp;obtain ⟨φ,hφ⟩:=AC hD;have hdl:d≠l:=fun z=>by rw [<-z,hφ] at hl;cases hl
 have sl:Same H (upd H l (.lst (bs.map V.ref))):=cu hl
 have hφ1:upd H l (.lst (bs.map V.ref)) d=some (.ext φ):=sl _ _ hφ
 refine Dw (xs:=bs.map V.ref) (fun k σ' H'=>∃x4 x5 mo g',σ'=sg v0 o wd.n d x4 x5 x6 (some (.bl mo))/\Same H0 H'/\SD d (upd H l (.lst (bs.map V.ref))) H'/\DG P w K H' d (dj wd.n) g'/\Ga wd o g'/\(mo=false->g'=g/\∀p∈(dj wd.n).take k,g p.1 p.2=true->jL wd g p.1 p.2=true)/\(mo=true->cnt (dj wd.n) g'<cnt (dj wd.n) g))
  ⟨_,_,false,g,rfl,s0.trans sl,fun _ _ _ h=>h,hD.grow sl,ga,fun _=>⟨rfl,fun p hp=>by simp at hp⟩,nofun⟩ (fun k σ' H' _ h=>?_) (fun k x σ' H' e h=>?_) fun σ' H' h=>?_
 ·obtain ⟨_,_,_,_,_,_,sd,_⟩:=h
  exact sd.seqL (fun vs o=>⟨(by rw [hφ1];intro z;cases z),(by rw [hφ1];intro z;cases z)⟩) (.inl (.inl cB))
 ·obtain ⟨x4,x5,mo,g',rfl,s1,sd,hD1,ga1,h1,h2⟩:=h
  rw [getElem?_map] at e;obtain ⟨b,eb,rfl⟩:=Option.map_eq_some_iff.mp e;have hk:k<(dj wd.n).length:=by rw [<-hbl];exact (List.getElem?_eq_some_iff.mp eb).1
  have ek:(dj wd.n)[k]?=some (dj wd.n)[k]:=getElem?_eq_getElem hk
  obtain ⟨b',eb',hT⟩:=hbs k _ ek;rw [eb] at eb'
  cases eb'
  have hmem:(dj wd.n)[k]∈dj wd.n:=getElem_mem hk
  have htk:(dj wd.n).take (k+1)=(dj wd.n).take k++[(dj wd.n)[k]]:=by rw [take_succ,ek];rfl
  generalize (dj wd.n)[k]=p at ek hT hmem htk
  obtain ⟨i,j⟩:=p;obtain ⟨hi,hj⟩:=mem_psN.mp hmem;have hT1:SqT K H' b [.int (i:Int),.int (j:Int)]:=sd.seqT (fun vs o=>⟨(by rw [hφ1];intro z;cases z),(by rw [hφ1];intro z;cases z)⟩) (dG sl hT)
  refine ⟨b,_,rfl,hT1,rfl,_,_,rfl,_,_,rfl,rfl,?_⟩
  refine ⟨.ref d,rfl,_,rfl,_,rfl,Bn,fun b1 hb1=>⟨d,b1,[false,false],_,ky i j,_,rfl,rfl,hD1.grow (cu hb1),xR,rfl,AG hmem,_,rfl,?_⟩⟩
  have s2:=s1.trans (cu (o:=.tup [.int (i:Int),.int (j:Int)]) hb1)
  have sd2:=sd.trans (SD.of (d:=d) (cu (o:=.tup [.int (i:Int),.int (j:Int)]) hb1))
  have hD2:=hD1.grow (cu (o:=.tup [.int (i:Int),.int (j:Int)]) hb1)
  cases eg:g' i j with
  | false=>
   refine cX (cX ⟨_,_,mo,g',rfl,s2,sd2,hD2,ga1,fun z=>⟨(h1 z).1,fun p hp=>?_⟩,h2⟩)
   rw [htk] at hp;rcases List.mem_append.mp hp with hp | hp
   ·exact (h1 z).2 p hp
   ·rw [List.mem_singleton.mp hp]
    intro y;rw [<-(h1 z).1,eg] at y
    cases y
  | true=>
   refine dq ⟨v0,rfl,.ref d,rfl,_,rfl,_,rfl,wd,Hb,v0,d,dj wd.n,g',i,j,rfl,ok,sb.trans s2,r,hD2,hi,hj,fun H3 s3=>⟨_,rfl,?_⟩⟩
   rw [zg ok]
   cases ep:jL wd g' i j with
   | true=>
    refine cX ⟨_,_,mo,g',rfl,s2.trans s3,sd2.trans (SD.of s3),hD2.grow s3,ga1,fun z=>⟨(h1 z).1,fun p hp=>?_⟩,h2⟩
    rw [htk] at hp;rcases List.mem_append.mp hp with hp | hp
    ·exact (h1 z).2 p hp
    ·rw [List.mem_singleton.mp hp]
     intro y;rw [<-(h1 z).1];exact ep
   | false=>
    refine dq ⟨.ref d,rfl,_,rfl,_,rfl,Bn,fun b2 hb2=>⟨d,b2,[false,false],_,ky i j,rfl,rfl,(hD2.grow s3).grow (cu hb2),xR,rfl,?_,fun ob hD3=>⟨_,_,true,jf g' i j false,rfl,?_,?_,?_,ga1.step ok hi hj ep,fun z=>(nomatch z),fun _=>?_⟩⟩⟩
    ·rw [nW]
     unfold dj;rw [nT];have:wd.n*wd.n<=24*24:=Nat.mul_le_mul h24 h24
     omega
    ·exact SD.same ((s2.trans s3).trans (cu hb2)) hd0 SD.upd
    ·exact (sd2.trans (SD.of (s3.trans (cu hb2)))).trans SD.upd
    ·rw [nV,if_pos hmem] at hD3
     exact hD3
    ·have lt:=tU eg hmem
     cases mo with
     | false=>rw [(h1 rfl).1] at lt ⊢;exact lt
     | true=>exact Nat.lt_trans lt (h2 rfl)
 ·obtain ⟨x4,x5,mo,g',rfl,s1,sd,hD1,ga1,h1,h2⟩:=h
  refine q H' x4 x5 mo g' s1 hD1 ga1 (fun z=>⟨(h1 z).1,fun p hp=>(h1 z).2 p ?_⟩) h2
  rw [length_map,hbl,take_of_length_le (Nat.le_refl _)];exact hp
theorem BZ {vs:List V} {Q:VK} {E:XK} {Qn:St->Hp->Prop} (h:uY P w K vs H Q E):DW P w K { nx:=Qn,rt:=Q } (L2.start eV vs) H:=by
 obtain ⟨wd,Hb,v0,o,rfl,ok,sb,r,q⟩:=h;show DW P w K { nx:=Qn,rt:=Q } [some v0,some (.bl o),none,none,none,none,none,none] H
 refine sx (wd:=wd) (c:=0) (ds:=[.list wd.os,.list (wd.m.map dR),.list (wd.s.map aH)]) rfl rfl r sb rfl fun p us hq hl hr=>⟨p,us,rfl,.inl (sb.seq hq),?_⟩
 have hos:wd.os.length=wd.n:=ok.g.lo
 rw [hl,hos];intro d ob hd hD0;have sd:Same H (upd H d ob):=cu hd
 refine vk (H0:=H) ok r sb sd hd (show DG P w K _ d [] (oW wd o) from hD0) fun H1 x4 x5 x6 s1 hD1=>?_
 refine ⟨fun m σ' H'=>∃g x4 x5 mo,σ'=sg v0 o wd.n d x4 x5 x6 (some (.bl mo))/\Same H H'/\DG P w K H' d (dj wd.n) g/\Ga wd o g/\(mo=false->∀p∈dj wd.n,g p.1 p.2=true->jL wd g p.1 p.2=true)/\m=if mo then cnt (dj wd.n) g+1 else 0,⟨_,oW wd o,_,_,true,rfl,s1,hD1,Ga.start,fun z=>(nomatch z),rfl⟩,?_⟩
 rintro m σ' H2 ⟨g,x4,x5,mo,rfl,s2,hD2,ga,h1,rfl⟩
 refine ⟨.bl mo,rfl,mo,rfl,?_⟩
 cases mo with
 | false=>
  refine cX ⟨.ref d,rfl,q d H2 g s2 hd hD2 ⟨ga,fun i j hi hj h=>h1 rfl (i,j) (mem_psN.mpr ⟨hi,hj⟩) h⟩⟩
 | true=>
  refine dq ⟨fun σ' H'=>∃m',m'<cnt (dj wd.n) g+1/\∃g x4 x5 mo,σ'=sg v0 o wd.n d x4 x5 x6 (some (.bl mo))/\Same H H'/\DG P w K H' d (dj wd.n) g/\Ga wd o g/\(mo=false->∀p∈dj wd.n,g p.1 p.2=true->jL wd g p.1 p.2=true)/\m'=if mo then cnt (dj wd.n) g+1 else 0,fun σ' H' z=>z,?_⟩
  refine yL ok r sb s2 hd hD2 ga fun H3 x4 x5 mo g' s3 hD3 ga3 e1 e2=>⟨if mo then cnt (dj wd.n) g'+1 else 0,?_,g',x4,x5,mo,rfl,s3,hD3,ga3,fun z=>?_,rfl⟩
  ·cases mo with
   | true=>have:=e2 rfl;rw [if_pos rfl];omega
   | false=>rw [if_neg Bool.false_ne_true];omega
  ·rw [(e1 z).1]
   exact (e1 z).2
end
noncomputable def ui (P:Program) (w:World) (K:Fg) (mg:Str->Option Value) (base:Heap) (j:Nat):Prop:=
 ∃(f:Addr) (fd:FuncData) (ps:List Str),cE P w K mg base g7 j f fd ps (uY P w K)/\mg "_law_alike"=some (.ref f)/\PySem.W.keepIn K (.ref f)=true/\Binds K fd ps []
noncomputable abbrev de:List Str:=["world", "owned", "pairs", "found", "room", "first", "there"]
noncomputable abbrev jE:List Str:=["_law_alike", "range", "len", "any"]
noncomputable def BK (K:Fg):TE:=oQ (B6 K) (aT (gZ (mm K) (aD 0) (tC (.int 0))) bF)
noncomputable def yx (P:Program) (w:World) (K:Fg):TE:=oQ (rR K true) (aT (dh [5] (fz (aT (aD 4) bF)) (gName 5) gc (xh P w K (aD 2) (gg 5 4))) bF)
noncomputable def yv (P:Program) (w:World) (K:Fg):TE:=dh [6] (fz (aT (BK K) bF)) (gName 6) (tB (xh P w K (aD 2) (gg 4 6))) (aD 6)
noncomputable def DV (P:Program) (w:World) (K:Fg):L2.TS:=cC (fH (gh (uY P w K) [] L2.E0 (aT (aD 0) (aT (aD 1) bF))) (gName 2)) (cC (fH (oO bF) (gName 3)) (cC (eC (fz (aT (BK K) bF)) (gName 4) (oP (qV (tB (yx P w K))) (cc (oR K "list" oF (aD 3) (aT (yv P w K) bF))) iG)) (mf (aD 3))))
noncomputable def lR (g:Nat->Nat->Bool) (n:Nat) (k:Nat):List (List Nat):=(List.range k).filterMap fun r=>if (List.range r).any fun a=>g a r then none else some ((List.range n).filter fun t=>g r t)
theorem AX {g:Nat->Nat->Bool} {n k:Nat}:lR g n (k+1)=lR g n k++(if (List.range k).any fun a=>g a k then [] else [(List.range n).filter fun t=>g k t]):=by
 unfold lR;rw [range_succ,List.filterMap_append];congr 1
 simp only [filterMap_cons,List.filterMap_nil]
 split<;>rename_i h<;>split at h<;>simp_all
theorem Fj {g g':Nat->Nat->Bool} {n:Nat} (e:∀i j,i<n->j<n->g i j=g' i j):∀k,k<=n->lR g n k=lR g' n k
 | 0,_=>rfl
 | k+1,h=>by
  rw [AX,AX,Fj e k (by omega)]
  congr 1
  have e1:((List.range k).any fun a=>g a k)=(List.range k).any fun a=>g' a k:=by
   rw [Bool.eq_iff_iff,any_eq_true,any_eq_true];constructor
   ·rintro ⟨a,ha,z⟩;exact ⟨a,ha,by rw [<-e a k (by have:=List.mem_range.mp ha;omega) (by omega)];exact z⟩
   ·rintro ⟨a,ha,z⟩;exact ⟨a,ha,by rw [e a k (by have:=List.mem_range.mp ha;omega) (by omega)];exact z⟩
  have e2:((List.range n).filter fun t=>g k t)=(List.range n).filter fun t=>g' k t:=filter_congr fun t ht=>e k t (by omega) (List.mem_range.mp ht)
  rw [e1,e2]
theorem wJ {g:Nat->Nat->Bool} {n k:Nat}:(lR g n k).length<=k:=by
 unfold lR;have:=List.length_filterMap_le (fun r=>if (List.range r).any fun a=>g a r then none else some ((List.range n).filter fun t=>g r t)) (List.range k)
 rwa [length_range] at this
noncomputable abbrev sc (v0:V) (o:Bool) (d f:Addr) (x4:Option V):St:=[some v0,some (.bl o),some (.ref d),some (.ref f),x4,none,none]
section
variable {P:Program} {w:World} {K:Fg} {Hb H0 H:Hp} {v0:V} {wd:Wd} {d f:Addr} {o:Bool} {g:Nat->Nat->Bool}
theorem xx {σ:St} {Q:VK} (ok:wd.Ok) (r:Rep K Hb v0 wd.enc) (sb:Same Hb H) (h0:σ[0]?=some (some v0)) (q:Q (.int (wd.n:Int)) H):BK K σ H Q:=by
 refine sx (wd:=wd) (c:=0) (ds:=[.list wd.os,.list (wd.m.map dR),.list (wd.s.map aH)]) rfl rfl r sb h0 fun p us hq hl hr=>⟨p,us,rfl,.inl (sb.seq hq),?_⟩
 have hos:wd.os.length=wd.n:=ok.g.lo
 rw [hl,hos];exact q
theorem yW {i n:Nat} {Q:VK} (hD:DG P w K H d (dj n) g) (hi:i<n) (hn:n<=24) (q:∀H',Same H H'->Q (.bl ((List.range i).any fun a=>g a i)) H'):yx P w K (sc v0 o d f (some (.int (i:Int)))) H Q:=by
 refine ⟨.int (i:Int),rfl,(i:Int),rfl,by omega,by omega,fun L hL=>?_⟩
 have hbl:aP [5] (sc v0 o d f (some (.int (i:Int))))=sc v0 o d f (some (.int (i:Int))):=by simp [aP]
 have hb:(1000:Nat)<=sizeLine:=by decide
 refine ⟨fun k m ys H2=>m=i-k/\k<=i/\ys=(List.range k).map (fun a=>V.bl (g a i))/\H2 L=some (.lst ys)/\Same H H2,⟨i,by simp,Nat.zero_le _,rfl,cB,cu hL⟩,?_⟩
 rintro k m ys H2 ⟨rfl,hk,rfl,hLs,sH⟩
 refine ⟨hLs,?_⟩
 by_cases hlt:k<i
 case neg=>
  left
  have e:k=i:=by omega
  subst e;refine ⟨Nat.le_refl _,L,(List.range k).map (fun a=>g a k),rfl,.inl (.inl ?_),?_⟩
  ·rw [hLs,map_map];rfl
  ·rw [if_pos rfl,any_map]
   exact q H2 sH
 case pos=>
  right
  refine ⟨hlt,by rw [length_map,length_range];omega,?_⟩
  rintro v H3 ⟨rfl,rfl⟩
  rw [hbl,Int.zero_add];show Az (sc v0 o d f (some (.int (i:Int)))) [some v0,some (.bl o),some (.ref d),some (.ref f),some (.int (i:Int)),some (.int (k:Int)),none]/\_
  refine ⟨⟨rfl,fun n u h=>?_⟩,?_⟩
  ·match n,h with
   | 0,h=>exact h
   | 1,h=>exact h
   | 2,h=>exact h
   | 3,h=>exact h
   | 4,h=>exact h
   | 5,h=>cases h
   | 6,h=>cases h
   | n+7,h=>cases h
  refine nZ ?_
  have hD3:=hD.grow sH
  refine ⟨.ref d,rfl,_,rfl,_,rfl,Bn,fun b hb'=>⟨d,b,[false,false],_,ky k i,_,rfl,rfl,hD3.grow (cu hb'),xR,rfl,AG (mem_psN.mpr ⟨by omega,hi⟩),?_,i-(k+1),by omega,rfl,hlt,?_,cB,fun c o hc=>?_⟩⟩
  ·rw [bE (jQ hLs hb')];exact hLs
  ·rw [range_succ,map_append];rfl
  ·rw [bE (fun z=>by subst z;rw [hL] at hc;cases hc),bE (jQ (sH c o hc) hb')]
   exact sH c o hc
theorem yK {i:Nat} {Q:VK} (ok:wd.Ok) (r:Rep K Hb v0 wd.enc) (sb:Same Hb H) (hD:DG P w K H d (dj wd.n) g) (hi:i<wd.n) (q:∀L H',Same H H'->H L=none->H' L=some (.lst (((List.range wd.n).filter fun t=>g i t).map fun t:Nat=>V.int (t:Int)))->Q (.ref L) H'):yv P w K (sc v0 o d f (some (.int (i:Int)))) H Q:=by
 have h24:=ok.h24
 refine xx ok r sb rfl ⟨(wd.n:Int),rfl,by omega,by omega,fun L hL=>?_⟩
 have hbl:aP [6] (sc v0 o d f (some (.int (i:Int))))=sc v0 o d f (some (.int (i:Int))):=by simp [aP]
 have hb:(1000:Nat)<=sizeLine:=by decide
 refine ⟨fun k m ys H2=>m=wd.n-k/\k<=wd.n/\ys=((List.range k).filter fun t=>g i t).map (fun t:Nat=>V.int (t:Int))/\H2 L=some (.lst ys)/\Same H H2,⟨wd.n,by simp,Nat.zero_le _,rfl,cB,cu hL⟩,?_⟩
 rintro k m ys H2 ⟨rfl,hk,rfl,hLs,sH⟩
 refine ⟨hLs,?_⟩
 by_cases hlt:k<wd.n
 case neg=>
  left
  have e:k=wd.n:=by omega
  rw [e] at hLs;exact ⟨by show (wd.n:Int).toNat<=k;rw [Int.toNat_natCast];omega,q L H2 sH hL hLs⟩
 case pos=>
  right
  refine ⟨hlt,?_,?_⟩
  ·rw [length_map]
   have:=length_filter_le (fun t=>g i t) (List.range k)
   rw [length_range] at this;omega
  rintro v H3 ⟨rfl,rfl⟩
  rw [hbl,Int.zero_add];show Az (sc v0 o d f (some (.int (i:Int)))) [some v0,some (.bl o),some (.ref d),some (.ref f),some (.int (i:Int)),none,some (.int (k:Int))]/\_
  refine ⟨⟨rfl,fun n u h=>?_⟩,?_⟩
  ·match n,h with
   | 0,h=>exact h
   | 1,h=>exact h
   | 2,h=>exact h
   | 3,h=>exact h
   | 4,h=>exact h
   | 5,h=>cases h
   | 6,h=>cases h
   | n+7,h=>cases h
  have hD3:=hD.grow sH
  refine ⟨.ref d,rfl,_,rfl,_,rfl,Bn,fun b hb'=>⟨d,b,[false,false],_,ky i k,_,rfl,rfl,hD3.grow (cu hb'),xR,rfl,AG (mem_psN.mpr ⟨hi,hlt⟩),_,rfl,?_⟩⟩
  have hL3:upd H3 b (.tup [.int (i:Int),.int (k:Int)]) L=some (.lst (((List.range k).filter fun t=>g i t).map fun t:Nat=>V.int (t:Int))):=by rw [bE (jQ hLs hb')];exact hLs
  have s3:Same H (upd H3 b (.tup [.int (i:Int),.int (k:Int)])):=sH.trans (cu hb')
  cases e:g i k with
  | true=>
   refine dq ⟨.int (k:Int),rfl,hL3,wd.n-(k+1),by omega,rfl,hlt,?_,cB,fun c o hc=>?_⟩
   ·rw [range_succ,List.filter_append,map_append]
    simp [e]
   ·rw [bE (fun z=>by subst z;rw [hL] at hc;cases hc)]
    exact s3 c o hc
  | false=>
   refine cX ⟨wd.n-(k+1),by omega,rfl,hlt,?_,hL3,s3⟩
   rw [range_succ,List.filter_append];simp [e]
theorem BY {O:List Addr} {vs:List V} {Q:VK} {Qn:St->Hp->Prop} (ok:wd.Ok) (nd:O.Nodup) (inH:∀a∈O,H a≠none) (rs:Reps K (bA H O) vs [wd.enc,.bool o])
  (q:∀g,Bis wd o g->∀v H' G,RetOk K H O ⟨.leaf,.list ((lR g wd.n wd.n).map aH)⟩ v H' G->Q v H'):DV P w K { nx:=Qn,rt:=Q } (L2.start de vs) H:=by
 have hvl:vs.length=2:=rs.1
 match vs,hvl,rs with
 | [v0,v1],_,rs=>
 have r:=rs.2 0 v0 _ rfl rfl
 have r1:=rs.2 1 v1 _ rfl rfl
 cases r1;have sb:Same (bA H O) H:=hid_le
 have h24:=ok.h24
 have hb:(1000:Nat)<=sizeLine:=by decide
 show DV P w K { nx:=Qn,rt:=Q } [some v0,some (.bl o),none,none,none,none,none] H
 refine ⟨v0,rfl,.bl o,rfl,wd,bA H O,v0,o,rfl,ok,sb,r,fun d H1 g s1 hd hD1 bi=>?_⟩
 refine ⟨Nat.zero_le _,fun f hf=>?_⟩
 have sf:Same H1 (upd H1 f (.lst [])):=cu hf
 refine xx ok r (sb.trans (s1.trans sf)) rfl ⟨(wd.n:Int),rfl,by omega,by omega,?_⟩
 refine Fz (n:=wd.n) (fun k σ' H'=>(∃x4,σ'=sc v0 o d f x4)/\Same H1 H'/\∃ls:List Addr,H' f=some (.lst (ls.map V.ref))/\ls.length=(lR g wd.n k).length/\∀(j:Nat) l,ls[j]?=some l->l≠f/\H1 l=none/\∃R,(lR g wd.n k)[j]?=some R/\H' l=some (.lst (R.map fun t:Nat=>V.int (t:Int))))
  ⟨⟨_,rfl⟩,sf,[],cB,rfl,fun j l e=>by simp at e⟩ (fun k σ' H' hk h=>?_) fun σ' H' h=>?_
 ·obtain ⟨⟨x4,rfl⟩,s2,ls,hF,hll,hls⟩:=h
  rw [Int.zero_add];refine yW (hD1.grow s2) hk h24 fun H2 s3=>⟨_,rfl,?_⟩
  have hF2:=s3 _ _ hF
  cases e:(List.range k).any fun a=>g a k with
  | true=>
   refine cX ⟨⟨_,rfl⟩,s2.trans s3,ls,hF2,?_,fun j l hj=>?_⟩
   ·rw [AX,e,if_pos rfl,append_nil];exact hll
   ·obtain ⟨a1,a2,R,a3,a4⟩:=hls j l hj
    exact ⟨a1,a2,R,by rw [AX,e,if_pos rfl,append_nil];exact a3,s3 _ _ a4⟩
  | false=>
   refine dq ⟨.ref f,rfl,.inl ⟨rfl,_,.inl (.inl hF2)⟩,yK ok r (sb.trans (s1.trans (s2.trans s3))) (hD1.grow (s2.trans s3)) hk fun L H3 s4 hL hL3=>?_⟩
   have hF3:=s4 _ _ hF2
   have hLf:L≠f:=fun z=>by rw [z,hF2] at hL;cases hL
   have s14:Same H1 H3:=(s2.trans s3).trans s4
   have ec:lR g wd.n (k+1)=lR g wd.n k++[(List.range wd.n).filter fun t=>g k t]:=by rw [AX,e];rfl
   refine ⟨f,_,.ref L,rfl,rfl,hF3,?_,⟨_,rfl⟩,fun c u hc=>?_,ls++[L],?_,?_,fun j l hj=>?_⟩
   ·rw [length_map,hll]
    have:=wJ (g:=g) (n:=wd.n) (k:=k)
    omega
   ·rw [bE (fun z=>by subst z;rw [hf] at hc;cases hc)]
    exact s14 c u hc
   ·rw [cB,map_append];rfl
   ·rw [ec,length_append,length_append,hll];rfl
   ·rw [ec]
    by_cases hjl:j<ls.length
    ·rw [getElem?_append_left hjl] at hj
     obtain ⟨a1,a2,R,a3,a4⟩:=hls j l hj;refine ⟨a1,a2,R,?_,?_⟩
     ·rw [getElem?_append_left (by omega)];exact a3
     ·rw [bE a1];exact s4 _ _ (s3 _ _ a4)
    ·rw [getElem?_append_right (by omega)] at hj
     have hj0:j-ls.length=0:=by
      have:=(List.getElem?_eq_some_iff.mp hj).1
      simp at this
      omega
     rw [hj0] at hj
     cases hj;refine ⟨hLf,(s2.trans s3).free hL,(List.range wd.n).filter fun t=>g k t,?_,?_⟩
     ·rw [getElem?_append_right (by omega),<-hll,hj0];rfl
     ·rw [bE hLf];exact hL3
 ·obtain ⟨⟨x4,rfl⟩,s2,ls,hF,hll,hls⟩:=h
  have inS:∀a∈O,H1 a≠none:=fun a ha=>by
   cases e:H a with
   | none=>exact absurd e (inH a ha)
   | some u=>rw [s1 a u e];exact Option.some_ne_none _
  refine ⟨.ref f,rfl,q g bi _ _ [] ⟨s1.trans s2,(fun _ z=>nomatch z),(fun _ z=>nomatch z),nodup_nil,.leaf (.lst (.inl (.inl (jc hF fun z=>inS f z hf))) ?_ fun j v dd e1 e2=>?_),rfl⟩⟩
  ·rw [length_map,length_map,hll]
  ·rw [getElem?_map] at e1
   obtain ⟨l,el,rfl⟩:=Option.map_eq_some_iff.mp e1;obtain ⟨a1,a2,R,a3,a4⟩:=hls j l el;rw [getElem?_map,a3] at e2
   cases e2;refine .lst (.inl (.inl (jc a4 fun z=>inS l z a2))) (by simp) fun i3 v3 d3 g1 g2=>?_
   rw [getElem?_map] at g1 g2
   cases e:R[i3]? with
   | none=>rw [e] at g1;cases g1
   | some z=>rw [e] at g1 g2;cases g1;cases g2;exact .int _
end
theorem Gq {R S:List Nat} (h:aH R=aH S):R=S:=(map_inj_right (f:=rm) fun a b e=>Int.ofNat_inj.mp (PyData.int.inj e)).mp (PyData.list.inj h)
theorem F7 {R S:List Str} (h:dR R=dR S):R=S:=(map_inj_right (f:=PyData.str) fun a b e=>PyData.str.inj e).mp (PyData.list.inj h)
theorem Hy {w v:Wd} (ok:w.Ok) (ov:v.Ok) (h:w.enc=v.enc):w=v:=by
 have h:=PyData.tuple.inj h
 injection h with h1 h
 injection h with h2 h
 injection h with h3 _
 have h1:=PyData.list.inj h1
 have h2:=(map_inj_right (f:=dR) fun a b e=>F7 e).mp (PyData.list.inj h2)
 have h3:=(map_inj_right (f:=aH) fun a b e=>Gq e).mp (PyData.list.inj h3)
 have hn:w.n=v.n:=by rw [<-ok.ls,<-ov.ls,h3]
 cases w
 cases v
 cases hn
 cases h1
 cases h2
 cases h3;rfl
open Classical in
noncomputable def Bg (w:Wd) (o:Bool):List (List Nat):=lR (fun i j=>decide (Lk w o i j)) w.n w.n
theorem Aj {w:Wd} {o:Bool} {g:Nat->Nat->Bool} (ok:w.Ok) (b:Bis w o g):lR g w.n w.n=Bg w o:=Fj (fun i j hi hj=>by
 rw [Bool.eq_iff_iff,b.lk ok hi hj];simp) _ (Nat.le_refl _)
noncomputable def IZ (ds:List PySem.PyData):Prop:=∃x:Wd×Bool,ds=[x.1.enc,.bool x.2]/\x.1.Ok
open Classical in
noncomputable def aS (ds:List PySem.PyData):Res:=if h:IZ ds then .ok ⟨.leaf,.list ((Bg h.choose.1 h.choose.2).map aH)⟩ else .no
theorem Ad {w:Wd} {o:Bool} (ok:w.Ok):aS [w.enc,.bool o]=.ok ⟨.leaf,.list ((Bg w o).map aH)⟩:=by
 have H:IZ [w.enc,.bool o]:=⟨(w,o),rfl,ok⟩
 unfold aS;rw [dif_pos H];obtain ⟨e,k⟩:=H.choose_spec;injection e with e1 e
 injection e with e2 _
 rw [<-Hy ok k e1,<-PyData.bool.inj e2]
theorem vL {ds:List PySem.PyData} {p:PV} (h:aS ds=.ok p):∃w o,ds=[w.enc,.bool o]/\w.Ok/\p=⟨.leaf,.list ((Bg w o).map aH)⟩:=by
 unfold aS at h;split at h
 ·rename_i H
  cases h;obtain ⟨e,k⟩:=H.choose_spec;exact ⟨_,_,e,k,rfl⟩
 ·cases h
section
variable {P:Program} {w:World} {K:Fg} {mg:Str->Option Value} {base:Heap} {f:Addr} {fd:FuncData} {st:Stmt} {j k:Nat} {vs cs ls lo gs:List Nat}
noncomputable abbrev I0 (X:Cx):Prop:=∃(k:Nat) (f:Addr) (fd:FuncData) (ps:List Str),cE X.prog X.w X.K X.mg X.base g7 k f fd ps (uX X.prog X.w X.K)/\Room k X.A/\X.mg "_law_pair_right"=some (.ref f)/\PySem.W.keepIn X.K (.ref f)=true/\Binds X.K fd ps []
noncomputable abbrev Ja (X:Cx):Prop:=∃(k:Nat) (f:Addr) (fd:FuncData) (ps:List Str),cE X.prog X.w X.K X.mg X.base g7 k f fd ps (uY X.prog X.w X.K)/\Room k X.A/\X.mg "_law_alike"=some (.ref f)/\PySem.W.keepIn X.K (.ref f)=true/\Binds X.K fd ps []
theorem Cj (F:Fun K "_law_pair_right" "_law_pair_right" st f fd) (hm:mg "_law_pair_right"=some (.ref f)) (b:Binds K fd ["world", "pairs", "one", "other"] []) (sc:bB dB ["world", "pairs", "one", "other"] (cP st)) (cp:gR dB lK vs cs ls lo gs (cP st)=true) (nm:pH dB lK=true) (n_any:mg "any"=none)
  (bd:∀X:Cx,Cp X dB lK vs cs ls lo gs->Rm X->PassesOwn (model X.prog X.w) X.A X.env X.xe->X.mg "any"=none->PSs X (jG st) (DS X.prog X.w X.K)):ue P w K mg base (k+1):=by
 refine ⟨f,fd,["world", "pairs", "one", "other"],F.ok sc (fun vs H Q E h=>?_) (fun cdv A outer s H vs Q E hr h=>?_),hm,F.kp,b⟩
 ·obtain ⟨_,_,_,_,_,_,_,_,rfl,_⟩:=h
  rfl
 ·exact ⟨_,bd _ (Cp.fn cp nm) hr.units PassesOwn.never n_any,BW h⟩
theorem Cn (F:Fun K "_law_alike" "_law_alike" st f fd) (hm:mg "_law_alike"=some (.ref f)) (b:Binds K fd ["world", "owned"] []) (sc:bB eV ["world", "owned"] (cP st)) (cp:gR eV qm vs cs ls lo gs (cP st)=true) (nm:pH eV qm=true) (n_len:mg "len"=none) (n_range:mg "range"=none) (n_list:mg "list"=none)
  (c:ue P w K mg base j) (hj:decide (j<=k)=true)
  (bd:∀X:Cx,Cp X eV qm vs cs ls lo gs->Rm X->PassesOwn (model X.prog X.w) X.A X.env X.xe->X.mg "len"=none->X.mg "range"=none->X.mg "list"=none->I0 X->PSs X (jG st) (DW X.prog X.w X.K)):ui P w K mg base (k+1):=by
 refine ⟨f,fd,["world", "owned"],F.ok sc (fun vs H Q E h=>?_) (fun cdv A outer s H vs Q E hr h=>?_),hm,F.kp,b⟩
 ·obtain ⟨_,_,_,_,rfl,_⟩:=h
  rfl
 ·obtain ⟨f',fd',ps',F',a',b',c'⟩:=c
  exact ⟨_,bd _ (Cp.fn cp nm) hr.units PassesOwn.never n_len n_range n_list ⟨j,f',fd',ps',F',hr.mono (of_decide_eq_true hj),a',b',c'⟩,BZ h⟩
theorem Cm (F:Fun K "_law_classes" "_law_classes" st f fd) (hm:mg "_law_classes"=some (.ref f)) (b:Binds K fd ["world", "owned"] []) (sc:bB de ["world", "owned"] (cP st)) (cp:gR de jE vs cs ls lo gs (cP st)=true) (nm:pH de jE=true) (n_range:mg "range"=none) (n_len:mg "len"=none) (n_any:mg "any"=none)
  (c:ui P w K mg base j) (hj:decide (j<=k)=true)
  (bd:∀X:Cx,Cp X de jE vs cs ls lo gs->Rm X->PassesOwn (model X.prog X.w) X.A X.env X.xe->X.mg "range"=none->X.mg "len"=none->X.mg "any"=none->Ja X->PSs X (jG st) (DV X.prog X.w X.K)):DefOk P w K mg base (k+1) "_law_classes" 2 aS:=by
 refine ⟨f,fd,["world", "owned"],F.ok sc (fun vs H Q E h=>h.1) (fun cdv A outer s H vs Q E hr h=>?_),hm,F.kp,b⟩
 obtain ⟨hl,O,ds,nd,inH,rs,w'⟩:=h
 cases e:aS ds with
 | er c=>rw [e] at w';exact w'.elim
 | no=>rw [e] at w';exact w'.elim
 | ok p=>
  rw [e] at w';obtain ⟨wd,o,rfl,ok,rfl⟩:=vL e;obtain ⟨f',fd',ps',F',a',b',c'⟩:=c;exact ⟨_,bd _ (Cp.fn cp nm) hr.units PassesOwn.never n_range n_len n_any ⟨j,f',fd',ps',F',hr.mono (of_decide_eq_true hj),a',b',c'⟩,BY ok nd inH rs fun g bi v H' G R=>w' v H' G (by rw [<-Aj ok bi];exact R)⟩
end
end KC
namespace KC
open PySem PySem.Spec L2 T
open PyProof.Rows hiding St
noncomputable def bM:Stmt:=DX 31
noncomputable def bg:Stmt:=DX 32
noncomputable def bG:Stmt:=DX 33
theorem BP:bB dB ["world", "pairs", "one", "other"] (cP bg):=⟨rfl,rfl,rfl,by decide +kernel,rfl,by decide +kernel,by decide +kernel⟩
theorem CQ:gR dB lK [0,1,2,3,4,5] [1,4,5] [0,1,2,3,4,5] [0,2,3] [0] (cP bg)=true:=by kernel_rfl
theorem Cq:pH dB lK=true:=by kernel_rfl
theorem BR:bB eV ["world", "owned"] (cP bM):=⟨rfl,rfl,rfl,by decide +kernel,rfl,by decide +kernel,by decide +kernel⟩
theorem CT:gR eV qm [0,1,2,3,4,5,6,7] [] [0,1,2,3,4,5,6,7] [0,1,2,3,4,5,6,7] [0,1,2,3] (cP bM)=true:=by kernel_rfl
theorem Cs:pH eV qm=true:=by kernel_rfl
theorem BQ:bB de ["world", "owned"] (cP bG):=⟨rfl,rfl,rfl,by decide +kernel,rfl,by decide +kernel,by decide +kernel⟩
theorem CS:gR de jE [0,1,2,3,4] [2,4] [0,1,2,3,4] [0,1,3] [0,1,2,3] (cP bG)=true:=by kernel_rfl
theorem Cr:pH de jE=true:=by kernel_rfl
theorem dz {X:Cx} {N gl:List Str} {vs cs ls lo gs:List Nat} (S:Cp X N gl vs cs ls lo gs) (i:Nat) (x:Str) (pos:Pos) (e:N[i]?=some x) (hi:vs.contains i=true):PE X (.Name x pos) (aD i):=by
 have m:=S.nm x (mem_of_getElem? e)
 exact qB (by rw [S.hN];exact e) (S.vis i x e hi) m.1 m.2
noncomputable abbrev HS (X:Cx):Prop:=Cp X dB lK [0,1,2,3,4,5] [1,4,5] [0,1,2,3,4,5] [0,2,3] [0]
theorem Do {X:Cx} (S:HS X) {p1 p2 p3 p4 p5:Pos} {k1:Nat} {x:Str} (a:Nat) (ha:dB[a]?=some x) (ha2:[0,1,2,3,4,5].contains a=true):PE X (.Subscript (.Subscript (.Name "world" p1) (.Constant (.int 2) k1 p2) p3) (.Name x p4) p5) (qT X.K a):=
 cS qp (cS qp (dz S 0 _ _ rfl rfl) oB (fun _ _=>rfl)) (dz S a _ _ ha ha2) (fun _ _=>rfl)
theorem zf {X:Cx} {vs cs ls lo gs:List Nat} (S:Cp X dB lK vs cs ls lo gs) (hu:X.A.units+2<cLine) {p1 p2 p3 p4 p5 p6 p7:Pos} {k1 k2:Nat} (h1:vs.contains 1=true) (h4:vs.contains 4=true) (h5:vs.contains 5=true) (hl:(p2.endLine==p7.line)=true) :
  PE X (.Call (.Attribute (.Name "pairs" p1) "get" p2) [.Tuple [.Name "there" p3,.Name "room" p4] k1 p5,.Constant (.bool false) k2 p6] [] p7) (Ie X.prog X.w X.K):=
 pq hu (dz S 1 _ _ rfl h1) (Dl (dP (dz S 4 _ _ rfl h4) (dP (dz S 5 _ _ rfl h5) fU (br rfl)) (br rfl))) dZ rfl rfl hl rfl
theorem rZ {X:Cx} {scope:Scope} {c a:Nat} {x:Str} {cs':List Nat} {iter:Expr} {p0 p1 p2 p3 p4 p5 p6 p7 p8 pos pos2:Pos} {k1 k2:Nat} (S:HS X) (hu:X.A.units+2<cLine) (n_any:X.mg "any"=none) (hx:dB[c]?=some x) (hi:PE X iter (qT X.K a))
  (h1:xX dB [c] [1,4,5] scope=true) (h2:gR dB lK [1,4,5] cs' [c] [] [] scope=true) (hc:[c].contains c=true) (hl:(p2.endLine==p7.line)=true) (hs:∀x,foldedSetIterable iter X.env x=pure x) :
  PE X (.Call (.Name "any" p0) [.ListComp (.Call (.Attribute (.Name "pairs" p1) "get" p2) [.Tuple [.Name "there" p3,.Name "room" p4] k1 p5,.Constant (.bool false) k2 p6] [] p7) [⟨.Name x p8,iter,[],0⟩] scope pos] [] pos2) (nD X.prog X.w X.K c a):=by
 have hN:X.N.Nodup:=by rw [S.hN];exact S.nd
 have B:=fun cells C s₀ H₀ ex=>S.blk h2 cells C s₀ H₀ ex
 exact xk (Fi S.calm) (S.g (j:=0) rfl rfl).1 n_any t6 (dP (AS (BA S h1) S.calm (xi hi)
  (fun cells C s₀ H₀ ex=>jI (X:=L2.blk X scope cells C s₀ H₀ ex) (i:=c) hN (by show X.N[c]?=_;rw [S.hN];exact hx) ((B cells C s₀ H₀ ex).loc c _ hx hc).1 ((B cells C s₀ H₀ ex).loc c _ hx hc).2)
  (fun cells C s₀ H₀ ex=>Dm)
  (fun cells C s₀ H₀ ex=>zf (X:=L2.blk X scope cells C s₀ H₀ ex) (B cells C s₀ H₀ ex) hu rfl rfl rfl hl) hs) fU (br rfl)) (S.g (j:=0) rfl rfl).2.2 (S.g (j:=0) rfl rfl).2.1 (br rfl) rfl
theorem CY {X:Cx} (S:HS X) (R:Rm X) (hp:PassesOwn (model X.prog X.w) X.A X.env X.xe) (n_any:X.mg "any"=none):PSs X (jG bg) (DS X.prog X.w X.K):=by
 have hN:X.N.Nodup:=by rw [S.hN];exact S.nd
 have hu:X.A.units+2<cLine:=Nat.lt_of_le_of_lt (by omega) R
 have g:∀(i:Nat) (x:Str),dB[i]?=some x->X.N[i]?=some x:=fun i x e=>by rw [S.hN];exact e
 have lc:∀(i:Nat) (x:Str),dB[i]?=some x->[0,1,2,3,4,5].contains i=true->Loc X.env.scope x/\(X.fn x=true\/X.env.scope.names.lookup x=some .local):=fun i x e hi=>S.loc i x e hi
 refine jb (qx hp S.calm (xi (Do S 2 rfl rfl)) (jI hN (g 4 _ rfl) (lc 4 _ rfl rfl).1 (lc 4 _ rfl rfl).2) (gX (iL (Bl (xU (rZ (cs':=[1,4]) S hu n_any rfl (Do S 3 rfl rfl) (by kernel_rfl) (by kernel_rfl) rfl rfl (fun _=>rfl)))) (gX (xT dZ)) AU)) (fun _=>rfl)) ?_
 refine jb (qx hp S.calm (xi (Do S 3 rfl rfl)) (jI hN (g 5 _ rfl) (lc 5 _ rfl rfl).1 (lc 5 _ rfl rfl).2) (gX (iL (Bl (xU (rZ (cs':=[1,5]) S hu n_any rfl (Do S 2 rfl rfl) (by kernel_rfl) (by kernel_rfl) rfl rfl (fun _=>rfl)))) (gX (xT dZ)) AU)) (fun _=>rfl)) ?_
 exact gX (xT dZ)
theorem dJ {P:Program} {w:World} {K:Fg} {mg:Str->Option Value} {base:Heap} {f:Addr} {fd:FuncData} {k:Nat} (F:Fun K "_law_pair_right" "_law_pair_right" bg f fd) (hm:mg "_law_pair_right"=some (.ref f)) (b:Binds K fd ["world", "pairs", "one", "other"] []) (n_any:mg "any"=none):ue P w K mg base (k+1):=
 Cj F hm b BP CQ Cq n_any fun X S R hp n=>CY S R hp n
noncomputable abbrev Es (X:Cx):Prop:=Cp X eV qm [0,1,2,3,4,5,6,7] [] [0,1,2,3,4,5,6,7] [0,1,2,3,4,5,6,7] [0,1,2,3]
theorem oz {X:Cx} (S:Es X) {p1 p2 p3 p4 p5:Pos} {k1:Nat} {c:Int} {x:Str} (a:Nat) (ha:eV[a]?=some x) (ha2:[0,1,2,3,4,5,6,7].contains a=true):PE X (.Subscript (.Subscript (.Name "world" p1) (.Constant (.int c) k1 p2) p3) (.Name x p4) p5) (Bb X.K c a):=
 cS qp (cS qp (dz S 0 _ _ rfl rfl) oB (fun _ _=>rfl)) (dz S a _ _ ha ha2) (fun _ _=>rfl)
theorem ua {X:Cx} (S:Es X) {p1 p2 p3:Pos} {k1:Nat}:PE X (.Tuple [.Name "one" p1,.Name "other" p2] k1 p3) (gg 4 5):=Dl (dP (dz S 4 _ _ rfl rfl) (dP (dz S 5 _ _ rfl rfl) fU (br rfl)) (br rfl))
theorem t9 {X:Cx} (S:Es X) (n_range:X.mg "range"=none) {tg:Expr} {p1 p2 p3:Pos}:PI X tg (.Call (.Name "range" p1) [.Name "many" p2] [] p3) (fz (aT (aD 2) bF)):=Bz (S.g (j:=1) rfl rfl).1 n_range (dP (dz S 2 _ _ rfl rfl) fU (br rfl)) (cV rfl)
theorem C0 {X:Cx} (S:Es X) (R:Rm X) (hp:PassesOwn (model X.prog X.w) X.A X.env X.xe) (n_len:X.mg "len"=none) (n_range:X.mg "range"=none) (n_list:X.mg "list"=none) (c:I0 X):PSs X (jG bM) (DW X.prog X.w X.K):=by
 have hN:X.N.Nodup:=by rw [S.hN];exact S.nd
 have hu:X.A.units+2<cLine:=Nat.lt_of_le_of_lt (by omega) R
 have g:∀(i:Nat) (x:Str),eV[i]?=some x->X.N[i]?=some x:=fun i x e=>by rw [S.hN];exact e
 have lc:∀(i:Nat) (x:Str),eV[i]?=some x->[0,1,2,3,4,5,6,7].contains i=true->Loc X.env.scope x/\(X.fn x=true\/X.env.scope.names.lookup x=some .local):=fun i x e hi=>S.loc i x e hi
 obtain ⟨k,f,fd,ps,F,hr,a1,a2,a3⟩:=c;have nm:∀(i:Nat) (x:Str),eV[i]?=some x->[0,1,2,3,4,5,6,7].contains i=true->∀pos,PG X (.Name x pos) (gName i):=fun i x e hi pos=>jI hN (g i _ e) (lc i _ e hi).1 (lc i _ e hi).2
 refine jb (uj hN (g 2 _ rfl) (lc 2 _ rfl rfl).1 (xk call_len_seq (S.g (j:=0) rfl rfl).1 n_len lJ (dP (cS qp (dz S 0 _ _ rfl rfl) oB (fun _ _=>rfl)) fU (br rfl)) (S.g (j:=0) rfl rfl).2.2 (S.g (j:=0) rfl rfl).2.1 (br rfl) rfl) rfl (lc 2 _ rfl rfl).2) ?_
 refine jb (uj hN (g 3 _ rfl) (lc 3 _ rfl rfl).1 (kg [false,false]) rfl (lc 3 _ rfl rfl).2) ?_
 refine jb (qx hp S.calm (t9 S n_range) (nm 4 _ rfl rfl _) (gX (qx hp S.calm (t9 S n_range) (nm 5 _ rfl rfl _) ?_ (fun _=>rfl))) (fun _=>rfl)) ?_
 ·refine jb (uj hN (g 6 _ rfl) (lc 6 _ rfl rfl).1 (sv (Fm (EZ R) (oz S 4 rfl rfl) (oz S 5 rfl rfl) (by with_unfolding_all rfl)) (pe_one (Cd (sq (dz S 1 _ _ rfl rfl)) (pe_one (Fm (EZ R) (oz S 4 rfl rfl) (oz S 5 rfl rfl) (by with_unfolding_all rfl)))))) rfl (lc 6 _ rfl rfl).2) ?_
  exact gX (nL hu (dz S 3 _ _ rfl rfl) (ua S) (dz S 6 _ _ rfl rfl) rfl)
 refine jb (uj hN (g 7 _ rfl) (lc 7 _ rfl rfl).1 dZ rfl (lc 7 _ rfl rfl).2) ?_
 refine jb (kd hp (xU (dz S 7 _ _ rfl rfl) (fun _=>rfl)) ?_) ?_
 ·refine jb (uj hN (g 7 _ rfl) (lc 7 _ rfl rfl).1 dZ rfl (lc 7 _ rfl rfl).2) ?_
  refine gX (qx hp S.calm (xi (DH (lG S.calm) (S.g (j:=2) rfl rfl).1 n_list w5 (dP (dz S 3 _ _ rfl rfl) fU (br rfl)) (S.g (j:=2) rfl rfl).2.2 (S.g (j:=2) rfl rfl).2.1 (br rfl) rfl)) (Ey S.calm (AY (nm 4 _ rfl rfl _) (AY (nm 5 _ rfl rfl _) Fn))) ?_ (fun _=>rfl))
  refine gX (iL (PW.pt (zd (xU (Ff hu (dz S 3 _ _ rfl rfl) (ua S) (fun _ _=>rfl)) (fun _=>rfl)) (vv (Bl (xU (AR F hr (S.g (j:=3) rfl rfl).1 a1 a2 a3 .nil iN (dP (dz S 0 _ _ rfl rfl) (dP (dz S 3 _ _ rfl rfl) (dP (dz S 4 _ _ rfl rfl) (dP (dz S 5 _ _ rfl rfl) fU (br rfl)) (br rfl)) (br rfl)) (br rfl)) (by decide) (br rfl) rfl) (fun _=>rfl)))))) ?_ AU)
  refine jb (nL hu (dz S 3 _ _ rfl rfl) (ua S) dZ rfl) ?_
  exact gX (uj hN (g 7 _ rfl) (lc 7 _ rfl rfl).1 dZ rfl (lc 7 _ rfl rfl).2)
 exact gX (xT (dz S 3 _ _ rfl rfl))
theorem h9 {P:Program} {w:World} {K:Fg} {mg:Str->Option Value} {base:Heap} {f:Addr} {fd:FuncData} {j k:Nat} (F:Fun K "_law_alike" "_law_alike" bM f fd) (hm:mg "_law_alike"=some (.ref f)) (b:Binds K fd ["world", "owned"] []) (n_len:mg "len"=none) (n_range:mg "range"=none) (n_list:mg "list"=none)
  (c:ue P w K mg base j) (hj:decide (j<=k)=true):ui P w K mg base (k+1):=
 Cn F hm b BR CT Cs n_len n_range n_list c hj fun X S R hp n1 n2 n3 c=>C0 S R hp n1 n2 n3 c
noncomputable abbrev Et (X:Cx):Prop:=Cp X de jE [0,1,2,3,4] [2,4] [0,1,2,3,4] [0,1,3] [0,1,2,3]
theorem tY {X:Cx} (S:Et X) (n_len:X.mg "len"=none) {p1 p2 p3 p4 p5:Pos} {k1:Nat}:PE X (.Call (.Name "len" p1) [.Subscript (.Name "world" p2) (.Constant (.int 0) k1 p3) p4] [] p5) (BK X.K):=
 xk call_len_seq (S.g (j:=2) rfl rfl).1 n_len lJ (dP (cS qp (dz S 0 _ _ rfl rfl) oB (fun _ _=>rfl)) fU (br rfl)) (S.g (j:=2) rfl rfl).2.2 (S.g (j:=2) rfl rfl).2.1 (br rfl) rfl
theorem tZ {X:Cx} {vs cs ls lo gs:List Nat} (S:Cp X de jE vs cs ls lo gs) (hu:X.A.units+2<cLine) {p1 p2 p3 p4 p5:Pos} {k1 a b:Nat} {x y:Str} (h2:vs.contains 2=true) (ha:de[a]?=some x) (ha2:vs.contains a=true) (hb:de[b]?=some y) (hb2:vs.contains b=true):PE X (.Subscript (.Name "pairs" p1) (.Tuple [.Name x p2,.Name y p3] k1 p4) p5) (xh X.prog X.w X.K (aD 2) (gg a b)):=
 Ff hu (dz S 2 _ _ rfl h2) (Dl (dP (dz S a _ _ ha ha2) (dP (dz S b _ _ hb hb2) fU (br rfl)) (br rfl))) (fun _ _=>rfl)
theorem Ai {X:Cx} {scope:Scope} {p0 p1 p2 p3 p4 p5 p6 p7 p8 p9 pos pos2:Pos} {k1:Nat} (S:Et X) (hu:X.A.units+2<cLine) (n_any:X.mg "any"=none) (n_range:X.mg "range"=none)
  (h1:xX de [5] [2,4] scope=true) (h2:gR de jE [2,4,5] [2,4] [5] [] [] scope=true) (hs:∀x,foldedSetIterable (.Call (.Name "range" p7) [.Name "room" p8] [] p9) X.env x=pure x) :
  PE X (.Call (.Name "any" p0) [.ListComp (.Subscript (.Name "pairs" p1) (.Tuple [.Name "first" p2,.Name "room" p3] k1 p4) p5) [⟨.Name "first" p6,.Call (.Name "range" p7) [.Name "room" p8] [] p9,[],0⟩] scope pos] [] pos2) (yx X.prog X.w X.K):=by
 have hN:X.N.Nodup:=by rw [S.hN];exact S.nd
 have B:=fun cells C s₀ H₀ ex=>S.blk h2 cells C s₀ H₀ ex
 exact xk (Fi S.calm) (S.g (j:=3) rfl rfl).1 n_any t6 (dP (AS (BA S h1) S.calm (Bz (S.g (j:=1) rfl rfl).1 n_range (dP (dz S 4 _ _ rfl rfl) fU (br rfl)) (cV rfl))
  (fun cells C s₀ H₀ ex=>jI (X:=L2.blk X scope cells C s₀ H₀ ex) (i:=5) hN (by show X.N[5]?=_;rw [S.hN];rfl) ((B cells C s₀ H₀ ex).loc 5 _ rfl rfl).1 ((B cells C s₀ H₀ ex).loc 5 _ rfl rfl).2)
  (fun cells C s₀ H₀ ex=>Dm)
  (fun cells C s₀ H₀ ex=>tZ (X:=L2.blk X scope cells C s₀ H₀ ex) (B cells C s₀ H₀ ex) hu rfl rfl rfl rfl rfl) hs) fU (br rfl)) (S.g (j:=3) rfl rfl).2.2 (S.g (j:=3) rfl rfl).2.1 (br rfl) rfl
theorem Ah {X:Cx} {scope:Scope} {p1 p2 p3 p4 p5 p6 p7 p8 pos2 pos:Pos} {k1:Nat} {arg:Expr} (S:Et X) (hu:X.A.units+2<cLine) (n_range:X.mg "range"=none) (ha:PE X arg (BK X.K)) (hst:starEach [arg] X.env=(false,eval arg X.env)::starEach [] X.env) (hst2:starEach [arg] X.env=[(false,eval arg X.env)])
  (h1:xX de [6] [2,4] scope=true) (h2:gR de jE [2,4,6] [2,4] [6] [] [] scope=true) (hs:∀x,foldedSetIterable (.Call (.Name "range" p7) [arg] [] p8) X.env x=pure x) :
  PE X (.ListComp (.Name "there" p1) [⟨.Name "there" p2,.Call (.Name "range" p7) [arg] [] p8,[.Subscript (.Name "pairs" p3) (.Tuple [.Name "room" p4,.Name "there" p5] k1 p6) pos2],0⟩] scope pos) (yv X.prog X.w X.K):=by
 have hN:X.N.Nodup:=by rw [S.hN];exact S.nd
 have B:=fun cells C s₀ H₀ ex=>S.blk h2 cells C s₀ H₀ ex
 exact AS (BA S h1) S.calm (Bz (S.g (j:=1) rfl rfl).1 n_range (dP ha fU hst) hst2)
  (fun cells C s₀ H₀ ex=>jI (X:=L2.blk X scope cells C s₀ H₀ ex) (i:=6) hN (by show X.N[6]?=_;rw [S.hN];rfl) ((B cells C s₀ H₀ ex).loc 6 _ rfl rfl).1 ((B cells C s₀ H₀ ex).loc 6 _ rfl rfl).2)
  (fun cells C s₀ H₀ ex=>se (xU (tZ (X:=L2.blk X scope cells C s₀ H₀ ex) (B cells C s₀ H₀ ex) hu rfl rfl rfl rfl rfl) (fun _=>rfl)))
  (fun cells C s₀ H₀ ex=>dz (B cells C s₀ H₀ ex) 6 _ _ rfl rfl) hs
theorem CZ {X:Cx} (S:Et X) (R:Rm X) (hp:PassesOwn (model X.prog X.w) X.A X.env X.xe) (n_range:X.mg "range"=none) (n_len:X.mg "len"=none) (n_any:X.mg "any"=none) (c:Ja X):PSs X (jG bG) (DV X.prog X.w X.K):=by
 have hN:X.N.Nodup:=by rw [S.hN];exact S.nd
 have hu:X.A.units+2<cLine:=Nat.lt_of_le_of_lt (by omega) R
 have g:∀(i:Nat) (x:Str),de[i]?=some x->X.N[i]?=some x:=fun i x e=>by rw [S.hN];exact e
 have lc:∀(i:Nat) (x:Str),de[i]?=some x->[0,1,2,3,4].contains i=true->Loc X.env.scope x/\(X.fn x=true\/X.env.scope.names.lookup x=some .local):=fun i x e hi=>S.loc i x e hi
 obtain ⟨k,f,fd,ps,F,hr,a1,a2,a3⟩:=c;refine jb (uj hN (g 2 _ rfl) (lc 2 _ rfl rfl).1 (AR F hr (S.g (j:=0) rfl rfl).1 a1 a2 a3 .nil iN (dP (dz S 0 _ _ rfl rfl) (dP (dz S 1 _ _ rfl rfl) fU (br rfl)) (br rfl)) (by decide) (br rfl) rfl) rfl (lc 2 _ rfl rfl).2) ?_
 refine jb (uj hN (g 3 _ rfl) (lc 3 _ rfl rfl).1 (Ex fU) rfl (lc 3 _ rfl rfl).2) ?_
 refine jb (qx hp S.calm (Bz (S.g (j:=1) rfl rfl).1 n_range (dP (tY S n_len) fU (br rfl)) (cV rfl)) (jI hN (g 4 _ rfl) (lc 4 _ rfl rfl).1 (lc 4 _ rfl rfl).2) ?_ (fun _=>rfl)) ?_
 ·refine gX (iL (Bl (xU (Ai S hu n_any n_range (by kernel_rfl) (by kernel_rfl) (fun _=>rfl)) (fun _=>rfl))) ?_ AU)
  exact gX (yf (kh PySem.F.plainAttrs_list PySem.F.slot_list_append PySem.F.type_list_append AW (dz S 3 _ _ rfl rfl) (dP (Ah S hu n_range (tY S n_len) (br rfl) (cV rfl) (by kernel_rfl) (by kernel_rfl) (fun _=>rfl)) fU (br rfl)) rfl rfl rfl (br rfl) rfl) rfl)
 exact gX (xT (dz S 3 _ _ rfl rfl))
theorem fM {P:Program} {w:World} {K:Fg} {mg:Str->Option Value} {base:Heap} {f:Addr} {fd:FuncData} {j k:Nat} (F:Fun K "_law_classes" "_law_classes" bG f fd) (hm:mg "_law_classes"=some (.ref f)) (b:Binds K fd ["world", "owned"] []) (n_range:mg "range"=none) (n_len:mg "len"=none) (n_any:mg "any"=none)
  (c:ui P w K mg base j) (hj:decide (j<=k)=true):DefOk P w K mg base (k+1) "_law_classes" 2 aS:=
 Cm F hm b BQ CS Cr n_range n_len n_any c hj fun X S R hp n1 n2 n3 c=>CZ S R hp n1 n2 n3 c
end KC
namespace KC.W
open PySem PySem.Spec L2 T
open PyProof.Rows hiding St
open KC
noncomputable def d_class_numbers:FS:=(aj (av true 2 (ah 1 qt (ab (ao .leaf 4 (cK (ab (bb aU (ab (ag (ae 0) (eK (.int 0))) af)) af)) az (ah 3 cJ (ab (ae 0) (ab (ae 4) (ab (ae 1) af))))) af)))
  (aj (av true 3 (qA 2 aI (ab (ae 0) (ab (ae 2) af))))
  (aj (xg 1000 (aN aq (ax dS (ae 3) (ae 2)))
  (aj (av true 2 (aV 3))
  (av true 3 (qA 2 aI (ab (ae 0) (ab (ae 2) af))))))
  (aE (aV 2)))))
noncomputable def m_class_numbers:List PySem.PyData->Res:=aF 5 d_class_numbers
noncomputable def d_least_world:FS:=(aj (cR (ah 1 bo (ab (ae 0) af)))
  (aj (av true 2 (ah 2 m_class_numbers (ab (ae 0) (ab (ae 1) af))))
  (aj (av false 3 (ao .leaf 7 (aJ (xY 1 cb (ab (ae 2) af))) az (ag (ae 7) (eK (.int 0)))))
  (aj (av true 4 (ao .leaf 8 (aJ (ae 3)) az (ag (ag (ae 0) (eK (.int 0))) (ae 8))))
  (aj (av true 5 (ao (.lst .leaf) 8 (aJ (ae 3)) az (oE (ag (ag (ae 0) (eK (.int 1))) (ae 8)))))
  (aj (av true 6 (ao (.lst .leaf) 8 (aJ (ae 3)) az (qA 2 aX (ab (ae 2) (ab (ag (ag (ae 0) (eK (.int 2))) (ae 8)) af)))))
  (aE (bD (ab (bD (ab (aV 4) (ab (aV 5) (ab (aV 6) af)))) (ab (aV 2) af))))))))))
noncomputable def m_least_world:List PySem.PyData->Res:=aF 9 d_least_world
noncomputable def jv:FS:=(aE (fQ (bW "int" (ae 0)) (mN (bW "bool" (ae 0)))))
noncomputable def bh:List PySem.PyData->Res:=aF 1 jv
noncomputable def gP:FS:=(aj (bV (cY (bx (aN aZ (bW "list" (ae 0)))) (aN aq (ax dS (bb aU (ab (ae 0) af)) (bb aU (ab (ae 1) af))))) (aE (eK (.bool false))) aM)
  (aj (cI 2 (aJ (ae 0))
  (bV (bx (aN aZ (ah 1 bh (ab (ae 2) af)))) (aE (eK (.bool false))) aM))
  (aE (ax bL (ae 0) (ae 1)))))
noncomputable def bI:List PySem.PyData->Res:=aF 3 gP
noncomputable def jw:FS:=(xV 0 1 2)
noncomputable def bt:List PySem.PyData->Res:=wy 3 [.tup [.lst .leaf,.lst (.lst .leaf),.lst (.lst .leaf)]] jw
noncomputable def iz:FS:=(aj (bV (cY (bx (aN aZ (bW "tuple" (ae 0)))) (cY (aN aq (ax dS (bb aU (ab (ae 0) af)) (eK (.int 3)))) (bx (aN aZ (bW "list" (ag (ae 0) (eK (.int 0)))))))) (aE (eK (.bool false))) aM)
  (aj (bV (cY (bx (aN aZ (bb (bN false) (ab (ao .leaf 2 (aJ (ag (ae 0) (eK (.int 0)))) az (ah 1 bh (ab (ae 2) af))) af)))) (bx (aN aZ (bW "list" (ag (ae 0) (eK (.int 1))))))) (aE (eK (.bool false))) aM)
  (aj (cI 1 (aJ (ag (ae 0) (eK (.int 1))))
  (bV (cY (bx (aN aZ (bW "list" (ae 1)))) (bx (aN aZ (bb (bN false) (ab (ao .leaf 3 (aJ (ae 1)) az (bW "str" (ae 3))) af))))) (aE (eK (.bool false))) aM))
  (aj (bV (bx (aN aZ (bW "list" (ag (ae 0) (eK (.int 2)))))) (aE (eK (.bool false))) aM)
  (aj (cI 1 (aJ (ag (ae 0) (eK (.int 2))))
  (bV (cY (bx (aN aZ (bW "list" (ae 1)))) (bx (aN aZ (bb (bN false) (ab (ao .leaf 4 (aJ (ae 1)) az (ah 1 bh (ab (ae 4) af))) af))))) (aE (eK (.bool false))) aM))
  (aE (eK (.bool true))))))))
noncomputable def bw:List PySem.PyData->Res:=aF 5 iz
noncomputable def d_law:FS:=(aj (av false 1 (ah 3 bz (ab (ae 0) (ab (eK (.int 1)) (ab (eK (.int 6)) af)))))
  (aj (av false 2 (ax bL (ax cj (ah 2 ay (ab (ae 0) (ab (eK (.int 0)) af))) (eK (.int 2))) (eK (.int 1))))
  (aj (av false 3 (ah 2 aS (ab (ae 1) (ab (ae 2) af))))
  (aj (av true 4 (aQ .leaf af))
  (aj (cI 5 (cK (ab (bb aU (ab (ag (ae 1) (eK (.int 0))) af)) af))
  (dC 4 (ag (ao .leaf 12 (cK (ab (bb aU (ab (ae 3) af)) af)) (aN aq (ax (cA false) (ae 5) (ag (ae 3) (ae 12)))) (ae 12)) (eK (.int 0)))))
  (aj (av true 6 (aQ .leaf af))
  (aj (cI 7 (aJ (ae 3))
  (dC 6 (ao .leaf 12 (cK (ab (bb aU (ab (ae 3) af)) af)) (aN aZ (bb (bN true) (ab (ao .leaf 13 (aJ (ag (ag (ae 1) (eK (.int 2))) (ag (ae 7) (eK (.int 0))))) az (ax bL (ag (ae 4) (ae 13)) (ae 12))) af))) (ae 12))))
  (aj (av false 8 (bD (ab (ao .leaf 7 (aJ (ae 3)) az (ag (ag (ae 1) (eK (.int 0))) (ag (ae 7) (eK (.int 0))))) (ab (ao .leaf 7 (aJ (ae 3)) az (ag (ag (ae 1) (eK (.int 1))) (ag (ae 7) (eK (.int 0))))) (ab (aV 6) af)))))
  (aj (av false 9 (ah 1 cz (ab (ae 1) af)))
  (aj (cI 10 (cK (ab (eK (.int 2)) af))
  (aj (av true 11 (ah 2 m_least_world (ab (ae 9) (ab (ae 2) af))))
  (aj (bV (cY (bx (aN aZ (bW "tuple" (ae 11)))) (cY (aN aq (ax dS (bb aU (ab (ae 11) af)) (eK (.int 2)))) (cY (bx (aN aZ (ah 1 bw (ab (ag (ae 11) (eK (.int 0))) af)))) (aN aq (ax dS (ae 9) (ae 1)))))) (aE (eK (.bool false))) aM)
  (aj (bV (cY (aN aq (ax dS (ag (ae 11) (eK (.int 0))) (ae 8))) (bx (aN aZ (ah 2 bI (ab (ag (ae 11) (eK (.int 1))) (ab (ae 4) af)))))) (aE (eK (.bool false))) aM)
  (xf 11 (.tup [.lst .leaf,.lst (.lst .leaf),.lst (.lst .leaf)]) bt 0)))))
  (aE (ax bL (ae 9) (ae 1)))))))))))))
noncomputable def m_law:List PySem.PyData->Res:=aF 14 d_law
end KC.W
namespace KC
open PySem PySem.Spec L2 T PySem.SeqAt
open PyProof.Rows hiding St
noncomputable def Lc (w:Wd) (o:Bool) (N:List Nat):Prop:=∀i j,i<w.n->j<w.n->Lk w o i j->nA N i=nA N j
section
variable {w:Wd}
theorem lkK_iff {o:Bool} {i j:Nat}:sL w o i=sL w o j↔oW w o i j=true:=by
 unfold sL oW;have inj:∀{a b:List Str},(a.map Sum.inr:List dv)=b.map Sum.inr↔a=b:=fun {a b}=>map_inj_right fun x y e=>Sum.inr.inj e
 cases o<;>simp [inj]
theorem sO {o:Bool}:Lc w o (aY ((List.range w.n).map (sL w o))):=fun i j hi hj ⟨R,r,h⟩=>(xS hi hj).mpr (lkK_iff.mpr (r.sm i j hi hj h))
theorem vP (ok:w.Ok) {o:Bool} {N:List Nat} (g:GdN w o N) (l:Lc w o N):Lc w o (aY ((List.range w.n).map (g5 w N))):=fun i j hi hj ⟨R,r,h⟩=>(xS hi hj).mpr (by
 have hc:eB w N i=eB w N j:=by
  unfold eB;refine filter_congr fun c _=>?_
  rw [Bool.eq_iff_iff,contains_iff_mem,contains_iff_mem,mem_map,mem_map];constructor
  ·rintro ⟨t,ht,rfl⟩
   obtain ⟨u,hu,x⟩:=r.fo i j hi hj h t ht;exact ⟨u,hu,(l t u (ok.stp_lt ht) (ok.stp_lt hu) ⟨R,r,x⟩).symm⟩
  ·rintro ⟨t,ht,rfl⟩
   obtain ⟨u,hu,x⟩:=r.ba i j hi hj h t ht;exact ⟨u,hu,l u t (ok.stp_lt hu) (ok.stp_lt ht) ⟨R,r,x⟩⟩
 unfold g5;rw [hc,l i j hi hj ⟨R,r,h⟩])
theorem zy {o:Bool} {N:List Nat} {m:Nat} (g:CN w o N m) (l:Lc w o N) {i j:Nat} (hi:i<w.n) (hj:j<w.n):Lk w o i j↔nA N i=nA N j:=
 ⟨l i j hi hj,fun h=>⟨fun a b=>nA N a=nA N b,⟨fun a b ha hb e=>lkK_iff.mp (g.look a b ha hb e),fun a b ha hb e t ht=>g.st a b ha hb e t ht,fun a b ha hb e t ht=>let ⟨u,hu,x⟩:=g.st b a hb ha e.symm t ht;⟨u,hu,x.symm⟩⟩,h⟩⟩
theorem kS:∀(l acc:List (List T.It)),∃m,l.foldl cn acc=acc++m
 | [],acc=>⟨[],by simp⟩
 | k::l,acc=>by
  obtain ⟨m,h⟩:=kS l (cn acc k);rw [List.foldl_cons,h];unfold cn;split
  ·exact ⟨m,rfl⟩
  ·exact ⟨k::m,by simp⟩
theorem wu {ks:List (List T.It)} (k:Nat):∃m,bU ks=bU (ks.take k)++m:=by
 obtain ⟨m,h⟩:=kS (ks.drop k) (bU (ks.take k));refine ⟨m,?_⟩
 rw [<-h];unfold bU;rw [<-List.foldl_append,List.take_append_drop]
theorem zu {ks:List (List T.It)} {k:Nat} (hk:k<ks.length):nA (aY ks) k=fy ks[k] (bU ks):=by
 unfold nA aY;simp [List.getD,hk]
theorem zt {ks:List (List T.It)} {k:Nat} (hk:k<ks.length) (h:ks[k]∉bU (ks.take k)):nA (aY ks) k=(bU (ks.take k)).length:=by
 obtain ⟨m,e⟩:=wu (ks:=ks) (k+1)
 rw [zu hk,e];have:bU (ks.take (k+1))=bU (ks.take k)++[ks[k]]:=by
  rw [yh hk];unfold cn;rw [if_neg fun z=>h (memB_iff.mp z)]
 rw [this,Bs (by simp),Bt h]
theorem tV {ks:List (List T.It)} {n:Nat} (hn:ks.length=n):∀k,k<=n->lR (fun i j=>nA (aY ks) i==nA (aY ks) j) n k=(List.range (bU (ks.take k)).length).map (cG (aY ks) n)
 | 0,_=>by simp [lR,bU]
 | k+1,h=>by
  have hk:k<ks.length:=by omega
  rw [AX,tV hn k (by omega),yh hk]
  have any_iff:((List.range k).any fun a=>nA (aY ks) a==nA (aY ks) k)=sI ks[k] (bU (ks.take k)):=by
   rw [Bool.eq_iff_iff,any_eq_true,memB_iff,mem_dst];constructor
   ·rintro ⟨a,ha,e⟩
    have ha:=List.mem_range.mp ha
    have e1:ks[a]=ks[k]:=(Du (by omega) hk).mp (eq_of_beq e)
    rw [<-e1];exact List.mem_iff_getElem.mpr ⟨a,by rw [length_take];omega,by rw [List.getElem_take]⟩
   ·intro z
    obtain ⟨a,ha,e⟩:=List.mem_iff_getElem.mp z;rw [length_take] at ha;rw [List.getElem_take] at e;exact ⟨a,List.mem_range.mpr (by omega),by
     have:nA (aY ks) a=nA (aY ks) k:=(Du (by omega) hk).mpr e
     simpa using this⟩
  rw [any_iff];unfold cn
  cases c:sI ks[k] (bU (ks.take k)) with
  | true=>rw [if_pos rfl,if_pos rfl,append_nil]
  | false=>
   rw [if_neg Bool.false_ne_true,if_neg Bool.false_ne_true,length_append,length_singleton,range_succ,map_append];congr 1
   have hnew:=zt hk (fun z=>by rw [memB_iff.mpr z] at c;cases c)
   show [_]=[cG (aY ks) n (bU (ks.take k)).length]
   rw [<-hnew];unfold cG;congr 1
   refine filter_congr fun t _=>?_
   rw [Bool.eq_iff_iff];simp only [beq_iff_eq]
   exact eq_comm
theorem Ak {o:Bool} {N:List Nat} {m:Nat} {ks:List (List T.It)} (g:CN w o N m) (hk:ks.length=w.n) (en:N=aY ks) (em:m=(bU ks).length) (l:Lc w o N):Bg w o=(List.range m).map (cG N w.n):=by
 have e:=tV hk w.n (Nat.le_refl _)
 rw [take_of_length_le (by omega),<-em,<-en] at e
 rw [<-e];unfold Bg;refine Fj (fun i j hi hj=>?_) _ (Nat.le_refl _)
 rw [Bool.eq_iff_iff];simp only [decide_eq_true_eq,beq_iff_eq]
 exact zy g l hi hj
end
end KC
namespace KC.W
open PySem PySem.Spec L2 T PySem.SeqAt
open PyProof.Rows hiding St
open KC
theorem Fv {Γ Γ1:Ev} {fl:FL} {ps:List PV} {n:Nat} {p:PV} {den:List D->Res} (hl:fl Γ=.ok ps Γ1) (hd:den (ps.map (·.d))=.ok p) (hn:ps.length=n) (hv:ps.all dA=true) (hf:fA p=true):qA n den fl Γ=.ok p Γ1:=by
 unfold qA;rw [hl];simp only [Out.bind,hn,hd,hv,hf,if_true,Bool.and_self]
theorem Dp {Γ:Ev} {i:Nat} {ss:List Sh} {d:D} (h:Γ[i]?=some (some ⟨.tup ss,d⟩)):ae i Γ=.ok ⟨.view,d⟩ Γ:=by unfold ae;rw [h]
theorem nr {Γ Γ1:Ev} {fl:FL} {ps:List PV} {n:Nat} {d:D} {den:List D->Res} (hl:fl Γ=.ok ps Γ1) (hd:den (ps.map (·.d))=.ok ⟨.leaf,d⟩) (hn:ps.length=n) (hs:aW d=true):ah n den fl Γ=.ok ⟨.leaf,d⟩ Γ1:=by
 unfold ah;rw [hl];simp only [Out.bind,hn,hd,hs,if_true]
 split<;>rfl
theorem iV {z:Int}:bh [.int z]=.ok ⟨.leaf,.bool true⟩:=bH (bu (v_and (s:=.leaf) (a:=true) (b:=true) (df (aC rfl) rfl) (v_not (b:=false) (s:=.leaf) (df (aC rfl) rfl))) rfl)
theorem tN {l:List Nat} (hl:l.length<=1000):bI [aH l,aH l]=.ok ⟨.leaf,.bool true⟩:=by
 have t:cY (bx (aN aZ (bW "list" (ae 0)))) (aN aq (ax dS (bb aU (ab (ae 0) af)) (bb aU (ab (ae 1) af)))) (cL 3 [aH l,aH l])=.ok (!true||!((l.length:Int)==(l.length:Int))) (cL 3 [aH l,aH l]):=eR (bZ (b:=true) (bP (s:=.leaf) (df (aC rfl) rfl))) (jF (s:=.leaf) (aO (b9 (d:=.int (l.length:Int)) (aL (aC (i:=0) rfl) ak) (by simp)) (b9 (d:=.int (l.length:Int)) (aL (aC (i:=1) rfl) ak) (by simp)) KC.ne_int))
 rw [beq_self_eq_true] at t;obtain ⟨Γ1,e1,x2,hΓ⟩:=yj rm (i:=2) (body:=bV (bx (aN aZ (ah 1 bh (ab (ae 2) af)))) (aE (eK (.bool false))) aM) (Inv:=fun bC Γ=>∃x2,Γ=[some ⟨.leaf,aH l⟩,some ⟨.leaf,aH l⟩,x2])
  (fun a bC Γ ⟨x2,e⟩=>by
   subst e;exact ⟨by simp,_,b8 (t:=!true) (bZ (bP (s:=.leaf) (dO (aL (aC rfl) ak) iV rfl rfl))) nofun (fun _=>rfl),some ⟨.leaf,rm a⟩,rfl⟩) l [some ⟨.leaf,aH l⟩,some ⟨.leaf,aH l⟩,none] ⟨none,rfl⟩
 subst hΓ;exact bH (aB (b8 t nofun fun _=>rfl) (aB (eX (bJ (s:=.leaf) (aC rfl) rfl) e1) (bu (aO (aC rfl) (aC rfl) (zV rfl)) rfl)))
theorem Fp {w:Wd} (ok:w.Ok):shaped w.enc=true:=by
 have h:=ok.g.wk (b:=24) ok.h24
 have o:=CV h.o
 have m:=oy fun r hr=>let ⟨xs,e,q,_⟩:=h.m r hr;⟨xs,e,HC q⟩
 have s:=oy fun r hr=>let ⟨xs,e,q,_⟩:=h.s r hr;⟨xs,e,CV q⟩
 have key:PyData.canLay0 w.enc=true/\PyData.depth w.enc<=3:=by
  simp only [Wd.enc,cM,PyData.canLay0,PyData.canLayAll0,PyData.depth,PyData.depthAll,o.1,m.1,s.1,o.2,Bool.and_self,Bool.true_and,true_and]
  have:=m.2
  have:=s.2
  omega
 unfold shaped;rw [key.1,Bool.true_and];exact decide_eq_true (by have:=key.2;omega)
noncomputable abbrev W4:Sh:=.tup [.lst .leaf,.lst (.lst .leaf),.lst (.lst .leaf)]
theorem t8 {α:Type} {xs:List α}:bN false [.list (xs.map fun _=>.bool true)]=some (.bool true):=by
 rw [yd (xs:=xs) (f:=fun _=>true),List.all_eq_true.mpr fun _ _=>rfl]
section
variable {b:Nat} {os ms ss:List D}
noncomputable abbrev GF (os ms ss:List D) (x1:Option PV):Ev:=[some ⟨.leaf,cM os ms ss⟩,x1,none,none,none]
theorem i9 {Γ:Ev} {f:F1} {i:Nat} {l:List D} (hi:i<Γ.length) (hf:f Γ=.ok ⟨.leaf,.list l⟩ Γ) (hl:eA l) (hn:l.length<=1000):aN aZ (bb (bN false) (ab (ao .leaf i (aJ f) az (ah 1 bh (ab (ae i) af))) af)) Γ=.ok true Γ:=by
 refine bP (s:=.leaf) (b9 (ps:=[⟨.lst .leaf,.list (l.map fun _=>.bool true)⟩]) (aL (xq (f:=fun _=>⟨.leaf,.bool true⟩) (bJ (s:=.leaf) hf rfl) hi rfl hn fun d hd=>⟨?_,rfl⟩) ak) t8)
 obtain ⟨n,rfl⟩:=hl d hd;exact dO (aL (aC (getElem?_set_self hi)) ak) iV rfl rfl
theorem wO {Γ:Ev} {f:F1} {i:Nat} {l:List D} (hi:i<Γ.length) (hf:f Γ=.ok ⟨.leaf,.list l⟩ Γ) (hl:gW l) (hn:l.length<=1000):aN aZ (bb (bN false) (ab (ao .leaf i (aJ f) az (bW "str" (ae i))) af)) Γ=.ok true Γ:=by
 refine bP (s:=.leaf) (b9 (ps:=[⟨.lst .leaf,.list (l.map fun _=>.bool true)⟩]) (aL (xq (f:=fun _=>⟨.leaf,.bool true⟩) (bJ (s:=.leaf) hf rfl) hi rfl hn fun d hd=>⟨?_,rfl⟩) ak) t8)
 obtain ⟨n,rfl,_⟩:=hl d hd;exact df (aC (getElem?_set_self hi)) rfl
theorem mS (h:Wk b os ms ss) (hb:b<=100):bw [cM os ms ss]=.ok ⟨.leaf,.bool true⟩:=by
 have lo:=h.lo
 have lm:=h.lm
 have ls:=h.ls
 have i0:∀x1,ag (ae 0) (eK (.int 0)) (GF os ms ss x1)=.ok ⟨.leaf,.list os⟩ (GF os ms ss x1):=fun _=>jN (j:=0) (aC rfl) bp rfl rfl rfl
 have i1:∀x1,ag (ae 0) (eK (.int 1)) (GF os ms ss x1)=.ok ⟨.leaf,.list ms⟩ (GF os ms ss x1):=fun _=>jN (j:=1) (aC rfl) bp rfl rfl rfl
 have i2:∀x1,ag (ae 0) (eK (.int 2)) (GF os ms ss x1)=.ok ⟨.leaf,.list ss⟩ (GF os ms ss x1):=fun _=>jN (j:=2) (aC rfl) bp rfl rfl rfl
 have t1:=eR (Γ:=GF os ms ss none) (bZ (b:=true) (bP (s:=.leaf) (df (c := "tuple") (fa:=ae 0) (aC rfl) rfl))) (eR (jF (s:=.leaf) (aO (g:=dS) (fa:=bb aU (ab (ae 0) af)) (fb:=eK (.int 3)) (d:=.bool false) (b9 (g:=aU) (d:=.int 3) (aL (aC rfl) ak) rfl) bp rfl)) (bZ (b:=true) (bP (s:=.leaf) (df (c := "list") (i0 none) rfl))))
 have t2:=eR (Γ:=GF os ms ss none) (bZ (i9 (i:=2) (by simp) (i0 none) h.o (by omega))) (bZ (b:=true) (bP (s:=.leaf) (df (c := "list") (i1 none) rfl)))
 obtain ⟨Γ1,e1,_,x1,rfl⟩:=yj (fun d:D=>d) (i:=1) (body:=bV (cY (bx (aN aZ (bW "list" (ae 1)))) (bx (aN aZ (bb (bN false) (ab (ao .leaf 3 (aJ (ae 1)) az (bW "str" (ae 3))) af))))) (aE (eK (.bool false))) aM) (Inv:=fun l Γ=>(∀d∈l,d∈ms)/\∃x1,Γ=GF os ms ss x1) (fun d r Γ ⟨hd,x1,e⟩=>by
  subst e;obtain ⟨xs,rfl,hx,hl⟩:=h.m d (hd d mem_cons_self);refine ⟨by simp,GF os ms ss (some ⟨.leaf,.list xs⟩),?_,fun y hy=>hd y (mem_cons_of_mem _ hy),_,rfl⟩
  exact b8 (eR (bZ (b:=true) (bP (s:=.leaf) (df (aC rfl) rfl))) (bZ (wO (i:=3) (by simp) (aC rfl) hx (by omega)))) nofun fun _=>rfl) ms (GF os ms ss none) ⟨fun d hd=>hd,none,rfl⟩
 obtain ⟨Γ2,e2,_,x2,rfl⟩:=yj (fun d:D=>d) (i:=1) (body:=bV (cY (bx (aN aZ (bW "list" (ae 1)))) (bx (aN aZ (bb (bN false) (ab (ao .leaf 4 (aJ (ae 1)) az (ah 1 bh (ab (ae 4) af))) af))))) (aE (eK (.bool false))) aM) (Inv:=fun l Γ=>(∀d∈l,d∈ss)/\∃x1,Γ=GF os ms ss x1) (fun d r Γ ⟨hd,x1,e⟩=>by
  subst e;obtain ⟨xs,rfl,hx,hl⟩:=h.s d (hd d mem_cons_self);refine ⟨by simp,GF os ms ss (some ⟨.leaf,.list xs⟩),?_,fun y hy=>hd y (mem_cons_of_mem _ hy),_,rfl⟩
  exact b8 (eR (bZ (b:=true) (bP (s:=.leaf) (df (aC rfl) rfl))) (bZ (i9 (i:=4) (by simp) (aC rfl) hx (by omega)))) nofun fun _=>rfl) ss (GF os ms ss x1) ⟨fun d hd=>hd,x1,rfl⟩
 rw [List.map_id'] at e1 e2
 exact bH (aB (b8 t1 nofun fun _=>rfl) (aB (b8 t2 nofun fun _=>rfl) (aB (eX (bJ (s:=.leaf) (i1 none) rfl) e1) (aB (b8 (bZ (b:=true) (bP (s:=.leaf) (df (i2 x1) rfl))) nofun fun _=>rfl) (aB (eX (bJ (s:=.leaf) (i2 x1) rfl) e2) (bu bp rfl))))))
theorem gm {l:List D} (h:∀r∈l,∃xs,r=PyData.list xs/\xs.length<=30):l.all uq=true:=List.all_eq_true.mpr fun r hr=>by
 obtain ⟨xs,rfl,hl⟩:=h r hr;exact decide_eq_true (by omega)
theorem pZ (h:Wk b os ms ss) (hb:b<=100):bt [cM os ms ss]=.ok ⟨.leaf,.none⟩:=by
 have lo:=h.lo
 have lm:=h.lm
 have ls:=h.ls
 have s1:=gm (l:=ms) fun r hr=>let ⟨xs,e,_,hl⟩:=h.m r hr;⟨xs,e,hl⟩
 have s2:=gm (l:=ss) fun r hr=>let ⟨xs,e,_,hl⟩:=h.s r hr;⟨xs,e,hl⟩
 show (match xV 0 1 2 [some ⟨W4,.tuple [.list os,.list ms,.list ss]⟩,none,none] with | .nx _=>Res.ok ⟨.leaf,.none⟩ | .rt p=>.ok p | .er c _=>.er c | _=>.no)=_
 have e:xV 0 1 2 [some ⟨W4,.tuple [.list os,.list ms,.list ss]⟩,none,none]=.nx [none,none,none]:=by
  show (if (ms.all uq&&ss.all uq&&decide (ms.length<=1000)&&decide (ss.length<=1000)&&decide (os.length<=1000)&&decide (0≠1)&&decide (0≠2)&&decide (1≠2)&&decide (1<3)&&decide (2<3))=true then OutS.nx [none,none,none] else .no)=_
  rw [s1,s2,decide_eq_true (show ms.length<=1000 by omega),decide_eq_true (show ss.length<=1000 by omega),decide_eq_true (show os.length<=1000 by omega)]
  rfl
 rw [e]
end
section
variable {w:Wd}
theorem Gk {l:List Nat}:(l.map rm).all aW=true:=List.all_eq_true.mpr fun d hd=>by
 obtain ⟨t,_,rfl⟩:=List.mem_map.mp hd;rfl
theorem HD {l:List Nat}:dA ⟨.view,aH l⟩=true:=by
 show (coer .leaf ⟨.view,aH l⟩||(l.map rm).all aW)=true
 rw [Gk,Bool.or_true]
theorem Ju {l:List Nat}:[PV.mk .view (aH l)].all dA=true:=by
 rw [all_cons,HD];rfl
theorem IS (a:D) (l:List Nat):[PV.mk .leaf a,⟨.view,aH l⟩].all dA=true:=by
 rw [all_cons,all_cons,HD];rfl
theorem Jt (a:D) (l:List Nat):[PV.mk .view (aH l),⟨.leaf,a⟩].all dA=true:=by
 rw [all_cons,HD];rfl
theorem Ho {l:List Nat}:fA ⟨.lst .leaf,aH l⟩=true:=by
 show (l.map rm).all aW=true
 exact Gk
theorem Jo {m:Nat} {f:Nat->List Nat}:fC ⟨.lst (.lst .leaf),.list ((List.range m).map fun c=>aH (f c))⟩=true:=by
 show ((List.range m).map fun c=>aH (f c)).all rq=true
 refine List.all_eq_true.mpr fun d hd=>?_
 obtain ⟨t,_,rfl⟩:=List.mem_map.mp hd;exact Gk
theorem uO {Γ Γ1:Ev} {fl:FL} {ps:List PV} {n:Nat} {p:PV} {den:List D->Res} (hl:fl Γ=.ok ps Γ1) (hd:den (ps.map (·.d))=.ok p) (hn:ps.length=n) (hv:ps.all dA=true) (hf:fC p=true):xY n den fl Γ=.ok p Γ1:=by
 unfold xY;rw [hl];simp only [Out.bind,hn,hd,hv,hf,if_true,Bool.and_self]
theorem F8 {x0 x1 x3 x7 x8:Option PV} {a b c d:D}:bD (ab (bD (ab (aV 4) (ab (aV 5) (ab (aV 6) af)))) (ab (aV 2) af)) [x0,x1,some ⟨.lst .leaf,d⟩,x3,some ⟨.lst .leaf,a⟩,some ⟨.lst (.lst .leaf),b⟩,some ⟨.lst (.lst .leaf),c⟩,x7,x8]=.ok ⟨.tup [W4,.lst .leaf],.tuple [.tuple [a,b,c],d]⟩ [x0,x1,none,x3,none,none,none,x7,x8]:=by
 have e1:bD (ab (aV 4) (ab (aV 5) (ab (aV 6) af))) [x0,x1,some ⟨.lst .leaf,d⟩,x3,some ⟨.lst .leaf,a⟩,some ⟨.lst (.lst .leaf),b⟩,some ⟨.lst (.lst .leaf),c⟩,x7,x8]=.ok ⟨W4,.tuple [a,b,c]⟩ [x0,x1,some ⟨.lst .leaf,d⟩,x3,none,none,none,x7,x8]:=dD (ps:=[⟨.lst .leaf,a⟩,⟨.lst (.lst .leaf),b⟩,⟨.lst (.lst .leaf),c⟩]) (aL (qy rfl) (aL (qy rfl) (aL (qy rfl) ak))) rfl rfl
 exact dD (ps:=[⟨W4,.tuple [a,b,c]⟩,⟨.lst .leaf,d⟩]) (aL e1 (aL (qy rfl) ak)) rfl rfl
noncomputable abbrev GO (w:Wd) (o:Bool) (b:List Nat×List Nat):Ev:=[some ⟨.leaf,w.enc⟩,some ⟨.leaf,.bool o⟩,some ⟨.lst .leaf,aH b.1⟩,some ⟨.lst .leaf,aH b.2⟩,none]
theorem mT (ok:w.Ok) {o:Bool}:∃N m ks,m_class_numbers [w.enc,.bool o]=.ok ⟨.lst .leaf,aH N⟩/\CN w o N m/\ks.length=w.n/\N=aY ks/\m=(bU ks).length/\Lc w o N:=by
 have h24:=ok.h24
 have h1:=ok.h1
 let N0:=aY ((List.range w.n).map (sL w o))
 have g0:GdN w o N0:=⟨⟨_,by simp,rfl⟩,fun i j hi hj e=>(xS hi hj).mp e⟩
 let stp (N:List Nat):List Nat:=aY ((List.range w.n).map (g5 w N))
 have gs:∀N,GdN w o N->GdN w o (stp N):=fun N g=>⟨⟨_,by simp,rfl⟩,fun i j hi hj e=>g.look i j hi hj (by
  have:=(xS hi hj).mp e
  unfold g5 at this;injection this with h1 _
  injection h1 with h1
  injection h1 with h1
  omega)⟩
 have pt:∀N,GdN w o N->aI [w.enc,aH N]=.ok ⟨.lst .leaf,aH (stp N)⟩:=fun N g=>mQ ok g.len g.lt
 have c0:ao .leaf 4 (cK (ab (bb aU (ab (ag (ae 0) (eK (.int 0))) af)) af)) az (ah 3 cJ (ab (ae 0) (ab (ae 4) (ab (ae 1) af)))) (cL 5 [w.enc,.bool o])=.ok ⟨.lst .leaf,.list ((List.range w.n).map (Bf w o))⟩ (cL 5 [w.enc,.bool o]):=by
  have lo:=ok.g.lo
  refine ni rm (List.range w.n) (fun r=>⟨(if o then .tup [.leaf,.leaf] else .tup [.leaf]),Bf w o r⟩) (st:=true) (fD (s:=.leaf) (n:=w.n) (by omega) (by simp [cL,Wd.enc,cM,lo])) (by simp [cL]) rfl (by simp;omega) fun r hr=>?_
  have hr:=List.mem_range.mp hr
  obtain ⟨sh,e,hc⟩:=qa ok (o:=o) hr
  subst hc;exact ⟨dO (aL (aC rfl) (aL (aC rfl) (aL (aC rfl) ak))) e rfl rfl,by cases o<;>rfl⟩
 have e0:qt [.list ((List.range w.n).map (Bf w o))]=.ok ⟨.lst .leaf,aH N0⟩:=oo (by omega) (fun r _=>G7) (if o then [true,false] else [true]) fun r _=>by cases o<;>rfl
 obtain ⟨b,e,⟨gb,eb,lb⟩,ht⟩:=iC (c:=aN aq (ax dS (ae 3) (ae 2))) (g:=aj (av true 2 (aV 3)) (av true 3 (qA 2 aI (ab (ae 0) (ab (ae 2) af))))) (G:=GO w o) (test:=fun b=>!(b.2==b.1)) (Inv:=fun b=>GdN w o b.1/\b.2=stp b.1/\Lc w o b.1) (meas:=fun b=>(tG w.n b.1).length)
  (fun b _=>jF (s:=.leaf) (aO (eY (i:=3) rfl) (eY (i:=2) rfl) vK))
  (fun b ⟨g,e,l⟩ hb=>by
   have ne:b.2≠b.1:=fun z=>by rw [z] at hb;simp at hb
   refine ⟨(b.2,stp b.2),aB (lT (qy (i:=3) rfl) rfl (by simp)) (lT (Fv (aL (aC (i:=0) rfl) (aL (eY (i:=2) rfl) ak)) (pt b.2 (by rw [e];exact gs _ g)) rfl (IS _ _) Ho) rfl (by simp)),⟨(by rw [e];exact gs _ g),rfl,(by rw [e];exact vP ok g l)⟩,?_⟩
   show (tG w.n b.2).length<(tG w.n b.1).length
   rw [e] at ne ⊢;exact sM g ne) 1000 (N0,stp N0) ⟨g0,rfl,sO⟩ (by
   have a:=length_filter_le (fun p=>nA N0 p.1==nA N0 p.2) (Bc w.n)
   have b:=vw h24
   show (tG w.n N0).length<1000
   unfold tG;omega)
 have wh:xg 1000 (aN aq (ax dS (ae 3) (ae 2))) (aj (av true 2 (aV 3)) (av true 3 (qA 2 aI (ab (ae 0) (ab (ae 2) af))))) (GO w o (N0,stp N0))=.nx (GO w o b):=by
  unfold xg;rw [e]
 have st:b.2=b.1:=by simpa using ht
 rw [st] at eb;obtain ⟨ks,hk,en⟩:=gb.ks;refine ⟨b.1,(bU ks).length,ks,bH (aB (lT (dO (aL c0 ak) e0 rfl rfl) rfl (by simp [cL])) (aB (Γ1:=GO w o (N0,stp N0)) (lT (Fv (aL (aC (i:=0) rfl) (aL (eY (i:=2) rfl) ak)) (pt N0 g0) rfl (IS _ _) Ho) rfl (by simp [cL])) (aB wh (bu (qy (i:=2) rfl) rfl)))),⟨gb.len,?_,?_,?_,?_,gb.look,?_⟩,hk,en,rfl,lb⟩
 ·have:=Fl (ks:=ks) (i:=0) (by omega)
  omega
 ·have:=tK (ks:=ks)
  omega
 ·intro r hr
  rw [en];exact Fl (by omega)
 ·intro c hc
  obtain ⟨i,hi,e⟩:=pG hc;exact ⟨i,by omega,by rw [en];exact e⟩
 ·intro i j hi hj e t ht
  have e':nA (stp b.1) i=nA (stp b.1) j:=by rw [<-eb];exact e
  have:=(xS hi hj).mp e'
  unfold g5 at this;injection this with _ h2
  injection h2 with h2 _
  injection h2 with h2
  have hc:eB w b.1 i=eB w b.1 j:=fu h2
  have:nA b.1 t∈eB w b.1 j:=by rw [<-hc];exact (Dt gb.lt ok).mpr ⟨t,ht,rfl⟩
  obtain ⟨t',h1,h2⟩:=(Dt gb.lt ok).mp this;exact ⟨t',h1,h2.symm⟩
variable {o:Bool} {N:List Nat} {m:Nat}
theorem mR (ok:w.Ok) (g:CN w o N m) (eN:m_class_numbers [w.enc,.bool o]=.ok ⟨.lst .leaf,aH N⟩):m_least_world [w.enc,.bool o]=.ok ⟨.tup [W4,.lst .leaf],.tuple [(eJ w N m).enc,aH N]⟩:=by
 have h24:=ok.h24
 have mn:=g.mn
 have c0:=ok.check
 have ll:(LV w N m).length=m:=by unfold LV;simp
 have s3:ao .leaf 7 (aJ (xY 1 cb (ab (ae 2) af))) az (ag (ae 7) (eK (.int 0))) [some ⟨.leaf,w.enc⟩,some ⟨.leaf,.bool o⟩,some ⟨.lst .leaf,aH N⟩,none,none,none,none,none,none]=.ok ⟨.lst .leaf,aH (LV w N m)⟩ [some ⟨.leaf,w.enc⟩,some ⟨.leaf,.bool o⟩,some ⟨.lst .leaf,aH N⟩,none,none,none,none,none,none]:=by
  have e:aH (LV w N m)=.list ((List.range m).map fun c=>rm (d7 N w.n c)):=by unfold LV;show PyData.list _=_;rw [map_map];rfl
  rw [e];refine ni (fun c=>aH (cG N w.n c)) (List.range m) (fun c=>⟨.leaf,rm (d7 N w.n c)⟩) (st:=true) (bJ (s:=.lst (.lst .leaf)) (uO (aL (eY rfl) ak) (kY g h24) rfl Ju Jo) rfl) (by simp) rfl (by simp;omega) fun c hc=>⟨?_,rfl⟩
  obtain ⟨t,e,_⟩:=AH g (List.mem_range.mp hc);exact qq (j:=0) (ds:=(cG N w.n c).map rm) (aC rfl) bp (w9 (by rw [e];simp)) (by rw [e];rfl) rfl
 have s4:=ni (Γ:=[some ⟨.leaf,w.enc⟩,some ⟨.leaf,.bool o⟩,some ⟨.lst .leaf,aH N⟩,some ⟨.leaf,aH (LV w N m)⟩,none,none,none,none,none]) (s:=.leaf) (i:=8) (fi:=aJ (ae 3)) (fe:=ag (ag (ae 0) (eK (.int 0))) (ae 8)) rm (LV w N m) (fun x=>⟨.leaf,.int (hX w x)⟩) (st:=true) (bJ (s:=.leaf) (aC rfl) rfl) (by simp) rfl (by omega) fun x hx=>⟨Ew ok (i:=0) (s:=.leaf) rfl (aC rfl) (fE g x hx),rfl⟩
 have s5:=ni (Γ:=[some ⟨.leaf,w.enc⟩,some ⟨.leaf,.bool o⟩,some ⟨.lst .leaf,aH N⟩,some ⟨.leaf,aH (LV w N m)⟩,some ⟨.lst .leaf,.list ((LV w N m).map fun x=>.int (hX w x))⟩,none,none,none,none]) (s:=.lst .leaf) (i:=8) (fi:=aJ (ae 3)) (fe:=oE (ag (ag (ae 0) (eK (.int 1))) (ae 8))) rm (LV w N m) (fun x=>⟨.lst .leaf,dR (w.mks x)⟩) (st:=true) (bJ (s:=.leaf) (aC rfl) rfl) (by simp) rfl (by omega) fun x hx=>⟨DA (EW ok (i:=0) (s:=.leaf) rfl (aC rfl) (fE g x hx)) rfl,rfl⟩
 have s6:=ni (Γ:=[some ⟨.leaf,w.enc⟩,some ⟨.leaf,.bool o⟩,some ⟨.lst .leaf,aH N⟩,some ⟨.leaf,aH (LV w N m)⟩,some ⟨.lst .leaf,.list ((LV w N m).map fun x=>.int (hX w x))⟩,some ⟨.lst (.lst .leaf),.list ((LV w N m).map fun x=>dR (w.mks x))⟩,none,none,none]) (s:=.lst .leaf) (i:=8) (fi:=aJ (ae 3)) (fe:=qA 2 aX (ab (ae 2) (ab (ag (ag (ae 0) (eK (.int 2))) (ae 8)) af))) rm (LV w N m) (fun x=>⟨.lst .leaf,aH (eB w N x)⟩) (st:=true) (bJ (s:=.leaf) (aC rfl) rfl) (by simp) rfl (by omega) fun x hx=>⟨Fv (aL (eY rfl) (aL (nF ok (i:=0) (s:=.leaf) rfl (aC rfl) (fE g x hx)) ak)) (iX ok g.len g.ltn (fE g x hx)) rfl (Jt _ _) Ho,rfl⟩
 have ee:(eJ w N m).enc=.tuple [.list ((LV w N m).map fun x=>.int (hX w x)),.list ((LV w N m).map fun x=>dR (w.mks x)),.list ((LV w N m).map fun x=>aH (eB w N x))]:=by
  unfold Wd.enc cM eJ;simp only [map_map]
  rfl
 rw [ee];exact bH (aB (uG (dO (aL (aC rfl) ak) c0 rfl rfl)) (aB (lT (dO (aL (aC rfl) (aL (aC rfl) ak)) eN rfl rfl) rfl (by simp [cL])) (aB (g9 s3 rfl (by simp [cL])) (aB (lT s4 rfl (by simp [cL])) (aB (lT s5 rfl (by simp [cL])) (aB (lT s6 rfl (by simp [cL])) (bu F8 rfl)))))))
end
noncomputable abbrev G2 (xs:List D) (w:Wd) (o:Bool) (N:List Nat) (m:Nat) (x4 x5 x6 x7 x8 x9 x10 x11:Option PV):Ev:=[some ⟨.leaf,.list xs⟩,some ⟨.leaf,w.enc⟩,some ⟨.leaf,.bool o⟩,some ⟨.leaf,.list ((List.range m).map fun c=>aH (cG N w.n c))⟩,x4,x5,x6,x7,x8,x9,x10,x11,none,none]
section
variable {xs:List D} {w:Wd} {o:Bool} {N:List Nat} {m:Nat}
theorem Cw {x4 x5 x6 x7 x8 x9 x10 x11:Option PV}:bb aU (ab (ae 3) af) (G2 xs w o N m x4 x5 x6 x7 x8 x9 x10 x11)=.ok ⟨.leaf,.int (m:Int)⟩ (G2 xs w o N m x4 x5 x6 x7 x8 x9 x10 x11):=b9 (aL (aC rfl) ak) (by show some (PyData.int _)=_;simp)
theorem zh (g:CN w o N m) {r:Nat} (hr:r<w.n):((List.range m).filter fun c=>(cG N w.n c).contains r)=[nA N r]:=by
 have e:(fun c=>(cG N w.n c).contains r)=fun c=>nA N r==c:=by
  funext c
  rw [Bool.eq_iff_iff,contains_iff_mem,beq_iff_eq];unfold cG;rw [mem_filter,mem_range];simp [hr]
 rw [e];have hlt:=g.lt r hr
 refine (List.perm_singleton.mp ?_)
 refine (List.perm_ext_iff_of_nodup (List.nodup_range.filter _) (by simp)).mpr fun x=>?_
 rw [mem_filter,mem_range,List.mem_singleton,beq_iff_eq];exact ⟨fun h=>h.2.symm,fun h=>by subst h;exact ⟨hlt,rfl⟩⟩
noncomputable abbrev IK:FS:=dC 4 (ag (ao .leaf 12 (cK (ab (bb aU (ab (ae 3) af)) af)) (aN aq (ax (cA false) (ae 5) (ag (ae 3) (ae 12)))) (ae 12)) (eK (.int 0)))
theorem wW (g:CN w o N m):N=(List.range w.n).map (nA N):=by
 apply ext_getElem?
 intro i;rw [getElem?_map];by_cases h:i<w.n
 ·rw [getElem?_range h,getElem?_eq_getElem (by rw [g.len];exact h)]
  simp [nA,List.getD,g.len,h]
 ·rw [getElem?_eq_none (by rw [g.len];omega),getElem?_eq_none (by simpa using h)]
  rfl
theorem vC (ok:w.Ok) (g:CN w o N m) {x5 x6 x7 x8 x9 x10 x11:Option PV}:∃y5,ck 5 IK ((List.range w.n).map rm) (G2 xs w o N m (some ⟨.lst .leaf,aH []⟩) x5 x6 x7 x8 x9 x10 x11)=.nx (G2 xs w o N m (some ⟨.lst .leaf,aH N⟩) y5 x6 x7 x8 x9 x10 x11):=by
 have h24:=ok.h24
 have mn:=g.mn
 obtain ⟨Γ',e,k,y5,hk,hr,rfl⟩:=yj rm (i:=5) (body:=IK) (Inv:=fun bC Γ=>∃k y5,k<=w.n/\bC=(List.range w.n).drop k/\Γ=G2 xs w o N m (some ⟨.lst .leaf,aH ((List.range k).map (nA N))⟩) y5 x6 x7 x8 x9 x10 x11)
  (fun a bC Γ h=>by
   obtain ⟨k,y5,hk,hr,rfl⟩:=h;have hlt:k<w.n:=by
    refine Classical.byContradiction fun z=>?_
    rw [drop_eq_nil_of_le (by simp;omega)] at hr
    cases hr
   rw [drop_eq_getElem_cons (by simpa using hlt)] at hr
   injection hr with h1 h2
   rw [getElem_range] at h1;subst h1;have cm:=Fc (Γ:=G2 xs w o N m (some ⟨.lst .leaf,aH ((List.range a).map (nA N))⟩) (some ⟨.leaf,rm a⟩) x6 x7 x8 x9 x10 x11) (s:=.leaf) (i:=12) (fi:=cK (ab (bb aU (ab (ae 3) af)) af)) (fc:=aN aq (ax (cA false) (ae 5) (ag (ae 3) (ae 12)))) (fe:=ae 12) rm (List.range m) (fun c=>(cG N w.n c).contains a) (fun c=>⟨.leaf,rm c⟩) (st:=true) (fD (s:=.leaf) (n:=m) (by omega) (aL Cw ak)) (by simp) rfl (by simp;omega) (fun c hc=>jF (s:=.leaf) (aO (aC (i:=5) rfl) (qq (j:=c) (aC (i:=3) rfl) (aC (i:=12) rfl) (w9 (by simpa using hc)) (by rw [getElem?_map,getElem?_range (List.mem_range.mp hc)];rfl) rfl) zI)) (fun c hc _=>⟨aC rfl,rfl⟩)
   rw [zh g hlt] at cm;refine ⟨by simp,_,By (s:=.leaf) (ds:=((List.range a).map (nA N)).map rm) rfl (qq (j:=0) cm bp rfl rfl rfl) rfl (by simp;omega),a+1,some ⟨.leaf,rm a⟩,hlt,h2,?_⟩
   rw [range_succ,map_append];simp)
  (List.range w.n) _ ⟨0,x5,Nat.zero_le _,rfl,rfl⟩
 have hkm:k=w.n:=by
  have:=congrArg List.length hr
  simp at this
  omega
 subst hkm;rw [<-wW g] at e;exact ⟨y5,e⟩
noncomputable abbrev Ge:F1:=ao .leaf 12 (cK (ab (bb aU (ab (ae 3) af)) af)) (aN aZ (bb (bN true) (ab (ao .leaf 13 (aJ (ag (ag (ae 1) (eK (.int 2))) (ag (ae 7) (eK (.int 0))))) az (ax bL (ag (ae 4) (ae 13)) (ae 12))) af))) (ae 12)
theorem ES (g:CN w o N m) {c:Nat} (hc:c<m) {Γ:Ev} (h7:Γ[7]?=some (some ⟨.leaf,aH (cG N w.n c)⟩)):ag (ae 7) (eK (.int 0)) Γ=.ok ⟨.leaf,rm (d7 N w.n c)⟩ Γ:=by
 obtain ⟨t,e,_⟩:=AH g hc;exact qq (j:=0) (ds:=(cG N w.n c).map rm) (aC h7) bp (w9 (by rw [e];simp)) (by rw [e];rfl) rfl
theorem CU (ok:w.Ok) (g:CN w o N m) {r:Nat}:((List.range m).filter fun k=>(w.stp r).any fun t=>nA N t==k)=eB w N r:=by
 have mn:=g.mn
 refine List.Perm.eq_of_pairwise (le:=(· < ·)) (fun a b _ _ h1 h2=>by omega) (List.pairwise_lt_range.filter _) (List.pairwise_lt_range.filter _) ?_
 refine (List.perm_ext_iff_of_nodup (List.nodup_range.filter _) (List.nodup_range.filter _)).mpr fun x=>?_
 rw [mem_filter,mem_filter,mem_range,mem_range,contains_iff_mem,mem_map,any_eq_true];simp only [beq_iff_eq]
 constructor
 ·rintro ⟨h1,t,ht,e⟩
  exact ⟨by omega,t,ht,e⟩
 ·rintro ⟨h1,t,ht,e⟩
  exact ⟨by rw [<-e];exact g.lt t (ok.stp_lt ht),t,ht,e⟩
theorem BM (ok:w.Ok) (g:CN w o N m) {c:Nat} (hc:c<m) {x5 x6 x8 x9 x10 x11:Option PV}:Ge (G2 xs w o N m (some ⟨.lst .leaf,aH N⟩) x5 x6 (some ⟨.leaf,aH (cG N w.n c)⟩) x8 x9 x10 x11)=.ok ⟨.lst .leaf,aH (eB w N (d7 N w.n c))⟩ (G2 xs w o N m (some ⟨.lst .leaf,aH N⟩) x5 x6 (some ⟨.leaf,aH (cG N w.n c)⟩) x8 x9 x10 x11):=by
 have h24:=ok.h24
 have mn:=g.mn
 obtain ⟨_,_,hl,_⟩:=AH g hc;have cm:=Fc (Γ:=G2 xs w o N m (some ⟨.lst .leaf,aH N⟩) x5 x6 (some ⟨.leaf,aH (cG N w.n c)⟩) x8 x9 x10 x11) (s:=.leaf) (i:=12) (fi:=cK (ab (bb aU (ab (ae 3) af)) af)) (fc:=aN aZ (bb (bN true) (ab (ao .leaf 13 (aJ (ag (ag (ae 1) (eK (.int 2))) (ag (ae 7) (eK (.int 0))))) az (ax bL (ag (ae 4) (ae 13)) (ae 12))) af))) (fe:=ae 12) rm (List.range m) (fun k=>(w.stp (d7 N w.n c)).any fun t=>nA N t==k) (fun c=>⟨.leaf,rm c⟩) (st:=true) (fD (s:=.leaf) (n:=m) (by omega) (aL Cw ak)) (by simp) rfl (by simp;omega) (fun k hk=>by
   have sl:=nE ok (r:=d7 N w.n c)
   have c2:=ni (Γ:=(G2 xs w o N m (some ⟨.lst .leaf,aH N⟩) x5 x6 (some ⟨.leaf,aH (cG N w.n c)⟩) x8 x9 x10 x11).set 12 (some ⟨.leaf,rm k⟩)) (s:=.leaf) (i:=13) (fi:=aJ (ag (ag (ae 1) (eK (.int 2))) (ag (ae 7) (eK (.int 0))))) (fe:=ax bL (ag (ae 4) (ae 13)) (ae 12)) rm (w.stp (d7 N w.n c)) (fun t=>⟨.leaf,.bool (nA N t==k)⟩) (st:=true) (bJ (s:=.leaf) (nF ok (i:=1) (s:=.leaf) rfl (ES g hc rfl) hl) rfl) (by simp) rfl (by omega) (fun t ht=>⟨aO (qq (j:=t) (s2:=.leaf) (eY (i:=4) rfl) (aC (i:=13) rfl) (w9 (by rw [length_map,g.len];exact ok.stp_lt ht)) (by rw [getElem?_map,getElem?_eq_getElem (by rw [g.len];exact ok.stp_lt ht)];rfl) rfl) (aC (i:=12) rfl) (by
     have en:nA N t=N[t]'(by rw [g.len];exact ok.stp_lt ht):=by simp [nA,List.getD,g.len,ok.stp_lt ht]
     refine KC.eq_int.trans ?_
     rw [en];congr 2
     rw [Bool.eq_iff_iff,beq_iff_eq,beq_iff_eq];exact Int.ofNat_inj),rfl⟩)
   have ga:bN true [.list ((w.stp (d7 N w.n c)).map fun t=>PyData.bool (nA N t==k))]=some (.bool ((w.stp (d7 N w.n c)).any fun t=>nA N t==k)):=by
    have q:=we (bs:=(w.stp (d7 N w.n c)).map fun t=>nA N t==k)
    rw [map_map,any_map] at q;exact q
   exact bP (s:=.leaf) (b9 (aL c2 ak) ga)) (fun c hc _=>⟨aC rfl,rfl⟩)
 rw [CU ok g] at cm;exact cm
theorem uV (ok:w.Ok) (g:CN w o N m) {x5 x7 x8 x9 x10 x11:Option PV}:∃y7,ck 7 (dC 6 Ge) ((List.range m).map fun c=>aH (cG N w.n c)) (G2 xs w o N m (some ⟨.lst .leaf,aH N⟩) x5 (some ⟨.lst .leaf,.list []⟩) x7 x8 x9 x10 x11)=.nx (G2 xs w o N m (some ⟨.lst .leaf,aH N⟩) x5 (some ⟨.lst .leaf,.list ((List.range m).map fun c=>aH (eB w N (d7 N w.n c)))⟩) y7 x8 x9 x10 x11):=by
 have h24:=ok.h24
 have mn:=g.mn
 obtain ⟨Γ',e,k,y7,hk,hr,rfl⟩:=yj (fun c=>aH (cG N w.n c)) (i:=7) (body:=dC 6 Ge) (Inv:=fun bC Γ=>∃k y7,k<=m/\bC=(List.range m).drop k/\Γ=G2 xs w o N m (some ⟨.lst .leaf,aH N⟩) x5 (some ⟨.lst .leaf,.list ((List.range k).map fun c=>aH (eB w N (d7 N w.n c)))⟩) y7 x8 x9 x10 x11)
  (fun a bC Γ h=>by
   obtain ⟨k,y7,hk,hr,rfl⟩:=h;have hlt:k<m:=by
    refine Classical.byContradiction fun z=>?_
    rw [drop_eq_nil_of_le (by simp;omega)] at hr
    cases hr
   rw [drop_eq_getElem_cons (by simpa using hlt)] at hr
   injection hr with h1 h2
   rw [getElem_range] at h1;subst h1;refine ⟨by simp,_,By (s:=.leaf) (ds:=(List.range a).map fun c=>aH (eB w N (d7 N w.n c))) rfl (BM ok g hlt) rfl (by simp;omega),a+1,some ⟨.leaf,aH (cG N w.n a)⟩,hlt,h2,?_⟩
   rw [range_succ,map_append];rfl)
  (List.range m) _ ⟨0,x7,Nat.zero_le _,rfl,rfl⟩
 have hkm:k=m:=by
  have:=congrArg List.length hr
  simp at this
  omega
 subst hkm;exact ⟨y7,e⟩
noncomputable abbrev Jq:F1:=bD (ab (ao .leaf 7 (aJ (ae 3)) az (ag (ag (ae 1) (eK (.int 0))) (ag (ae 7) (eK (.int 0))))) (ab (ao .leaf 7 (aJ (ae 3)) az (ag (ag (ae 1) (eK (.int 1))) (ag (ae 7) (eK (.int 0))))) (ab (aV 6) af)))
theorem CL (ok:w.Ok) (g:CN w o N m) {x4 x5 x7 x8 x9 x10 x11:Option PV}:∃sh:Sh,sh.isView=false/\Jq (G2 xs w o N m x4 x5 (some ⟨.lst .leaf,.list ((List.range m).map fun c=>aH (eB w N (d7 N w.n c)))⟩) x7 x8 x9 x10 x11)=.ok ⟨sh,(eJ w N m).enc⟩ (G2 xs w o N m x4 x5 none x7 x8 x9 x10 x11):=by
 have h24:=ok.h24
 have mn:=g.mn
 have c1:=ni (Γ:=G2 xs w o N m x4 x5 (some ⟨.lst .leaf,.list ((List.range m).map fun c=>aH (eB w N (d7 N w.n c)))⟩) x7 x8 x9 x10 x11) (s:=.leaf) (i:=7) (fi:=aJ (ae 3)) (fe:=ag (ag (ae 1) (eK (.int 0))) (ag (ae 7) (eK (.int 0)))) (fun c=>aH (cG N w.n c)) (List.range m) (fun c=>⟨.leaf,.int (hX w (d7 N w.n c))⟩) (st:=true) (bJ (s:=.leaf) (aC rfl) rfl) (by simp) rfl (by simp;omega) fun c hc=>by
  obtain ⟨_,_,hl,_⟩:=AH g (List.mem_range.mp hc);exact ⟨Ew ok (i:=1) (s:=.leaf) rfl (ES g (List.mem_range.mp hc) rfl) hl,rfl⟩
 have c2:=ni (Γ:=G2 xs w o N m x4 x5 (some ⟨.lst .leaf,.list ((List.range m).map fun c=>aH (eB w N (d7 N w.n c)))⟩) x7 x8 x9 x10 x11) (s:=.leaf) (i:=7) (fi:=aJ (ae 3)) (fe:=ag (ag (ae 1) (eK (.int 1))) (ag (ae 7) (eK (.int 0)))) (fun c=>aH (cG N w.n c)) (List.range m) (fun c=>⟨.leaf,dR (w.mks (d7 N w.n c))⟩) (st:=true) (bJ (s:=.leaf) (aC rfl) rfl) (by simp) rfl (by simp;omega) fun c hc=>by
  obtain ⟨_,_,hl,_⟩:=AH g (List.mem_range.mp hc);exact ⟨EW ok (i:=1) (s:=.leaf) rfl (ES g (List.mem_range.mp hc) rfl) hl,rfl⟩
 have ee:(eJ w N m).enc=.tuple [.list ((List.range m).map fun c=>.int (hX w (d7 N w.n c))),.list ((List.range m).map fun c=>dR (w.mks (d7 N w.n c))),.list ((List.range m).map fun c=>aH (eB w N (d7 N w.n c)))]:=by
  unfold Wd.enc cM eJ LV;simp only [map_map]
  rfl
 rw [ee];refine ⟨.tup [.lst .leaf,.lst .leaf,.lst .leaf],rfl,?_⟩
 exact dD (ps:=[⟨.lst .leaf,.list ((List.range m).map fun c=>.int (hX w (d7 N w.n c)))⟩,⟨.lst .leaf,.list ((List.range m).map fun c=>dR (w.mks (d7 N w.n c)))⟩,⟨.lst .leaf,.list ((List.range m).map fun c=>aH (eB w N (d7 N w.n c)))⟩]) (aL c1 (aL c2 (aL (qy rfl) ak))) rfl rfl
noncomputable abbrev HY:FS:=aj (av true 11 (ah 2 m_least_world (ab (ae 9) (ab (ae 2) af))))
  (aj (bV (cY (bx (aN aZ (bW "tuple" (ae 11)))) (cY (aN aq (ax dS (bb aU (ab (ae 11) af)) (eK (.int 2)))) (cY (bx (aN aZ (ah 1 bw (ab (ag (ae 11) (eK (.int 0))) af)))) (aN aq (ax dS (ae 9) (ae 1)))))) (aE (eK (.bool false))) aM)
  (aj (bV (cY (aN aq (ax dS (ag (ae 11) (eK (.int 0))) (ae 8))) (bx (aN aZ (ah 2 bI (ab (ag (ae 11) (eK (.int 1))) (ab (ae 4) af)))))) (aE (eK (.bool false))) aM)
  (xf 11 (.tup [.lst .leaf,.lst (.lst .leaf),.lst (.lst .leaf)]) bt 0)))
theorem uQ (ok:w.Ok) (g:CN w o N m) (eN:m_class_numbers [w.enc,.bool o]=.ok ⟨.lst .leaf,aH N⟩) {x5 x6 x7 x10 x11:Option PV}:HY (G2 xs w o N m (some ⟨.lst .leaf,aH N⟩) x5 x6 x7 (some ⟨.leaf,(eJ w N m).enc⟩) (some ⟨.leaf,w.enc⟩) x10 x11)=.nx (G2 xs w o N m (some ⟨.lst .leaf,aH N⟩) x5 x6 x7 (some ⟨.leaf,(eJ w N m).enc⟩) (some ⟨.leaf,w.enc⟩) x10 none):=by
 have h24:=ok.h24
 have mn:=g.mn
 have eL:=mR ok g eN
 have okv:=zw ok g
 have wk:=okv.g.wk (b:=24) okv.h24
 have efo:bw [(eJ w N m).enc]=.ok ⟨.leaf,.bool true⟩:=mS wk (by omega)
 have esp:bt [(eJ w N m).enc]=.ok ⟨.leaf,.none⟩:=pZ wk (by omega)
 generalize hG:G2 xs w o N m (some ⟨.lst .leaf,aH N⟩) x5 x6 x7 (some ⟨.leaf,(eJ w N m).enc⟩) (some ⟨.leaf,w.enc⟩) x10 (some ⟨.tup [W4,.lst .leaf],.tuple [(eJ w N m).enc,aH N]⟩)=Γ
 have g11:Γ[11]?=some (some ⟨.tup [W4,.lst .leaf],.tuple [(eJ w N m).enc,aH N]⟩):=by rw [<-hG];rfl
 have k0:ag (ae 11) (eK (.int 0)) Γ=.ok ⟨.view,(eJ w N m).enc⟩ Γ:=jN (j:=0) (Dp g11) bp rfl rfl rfl
 have k1:ag (ae 11) (eK (.int 1)) Γ=.ok ⟨.view,aH N⟩ Γ:=jN (j:=1) (Dp g11) bp rfl rfl rfl
 have t1:cY (bx (aN aZ (bW "tuple" (ae 11)))) (cY (aN aq (ax dS (bb aU (ab (ae 11) af)) (eK (.int 2)))) (cY (bx (aN aZ (ah 1 bw (ab (ag (ae 11) (eK (.int 0))) af)))) (aN aq (ax dS (ae 9) (ae 1))))) Γ=.ok false Γ:=
  eR (a:=false) (b:=false) (bZ (b:=true) (bP (s:=.leaf) (df (Dp g11) rfl))) (eR (a:=false) (b:=false) (jF (s:=.leaf) (aO (b9 (aL (Dp g11) ak) rfl) bp rfl)) (eR (a:=false) (b:=false) (bZ (b:=true) (bP (s:=.leaf) (nr (aL k0 ak) efo rfl rfl))) (jF (s:=.leaf) (aO (aC (i:=9) (by rw [<-hG];rfl)) (aC (i:=1) (by rw [<-hG];rfl)) (ku (Fp ok))))))
 have t2:cY (aN aq (ax dS (ag (ae 11) (eK (.int 0))) (ae 8))) (bx (aN aZ (ah 2 bI (ab (ag (ae 11) (eK (.int 1))) (ab (ae 4) af))))) Γ=.ok false Γ:=
  eR (a:=false) (b:=false) (jF (s:=.leaf) (aO k0 (aC (i:=8) (by rw [<-hG];rfl)) (ku (Fp okv)))) (bZ (b:=true) (bP (s:=.leaf) (nr (aL k1 (aL (eY (i:=4) (d:=aH N) (by rw [<-hG];rfl)) ak)) (tN (by rw [g.len];omega)) rfl rfl)))
 have sp:xf 11 (.tup [.lst .leaf,.lst (.lst .leaf),.lst (.lst .leaf)]) bt 0 Γ=.nx (Γ.set 11 none):=by
  unfold xf;rw [g11];show (if Sh.same W4 W4&&decide ((N.map rm).length<=900) then (match bt [(eJ w N m).enc] with | .ok _=>OutS.nx (Γ.set 11 none) | _=>.no) else .no)=_
  rw [esp,decide_eq_true (by rw [length_map,g.len];omega:(N.map rm).length<=900)]
  rfl
 refine aB (Γ1:=Γ) ?_ (aB (b8 t1 nofun (fun _=>rfl)) (aB (b8 t2 nofun (fun _=>rfl)) (sp.trans ?_)))
 ·rw [<-hG]
  exact lT (dO (aL (aC (i:=9) rfl) (aL (aC (i:=2) rfl) ak)) eL rfl rfl) rfl (by simp)
 ·rw [<-hG]
  rfl
theorem wx {xs:List D} (hx:eA xs):m_law [.list xs]=.ok ⟨.leaf,.bool true⟩:=by
 obtain ⟨w,ok,e1⟩:=tO hx;obtain ⟨c0,e2⟩:=Dv hx (k:=0) (by omega)
 have h24:=ok.h24
 generalize ho:(c0 % 2==1)=o
 have eo:ax bL (ax cj (ah 2 ay (ab (ae 0) (ab (eK (.int 0)) af))) (eK (.int 2))) (eK (.int 1)) [some ⟨.leaf,.list xs⟩,some ⟨.leaf,w.enc⟩,none,none,none,none,none,none,none,none,none,none,none,none]=.ok ⟨.leaf,.bool o⟩ [some ⟨.leaf,.list xs⟩,some ⟨.leaf,w.enc⟩,none,none,none,none,none,none,none,none,none,none,none,none]:=by
  rw [<-ho];exact aO (aO (dO (aL (aC rfl) (aL bp ak)) e2 rfl rfl) bp (dE (by omega))) bp KC.eq_int
 obtain ⟨N,m,ks,eN,g,hk,en,em,l⟩:=mT ok (o:=o)
 have ec:=Ad (o:=o) ok
 rw [Ak g hk en em l,map_map] at ec;obtain ⟨y5,ep⟩:=vC (xs:=xs) ok g (x5:=none) (x6:=none) (x7:=none) (x8:=none) (x9:=none) (x10:=none) (x11:=none)
 obtain ⟨y7,es⟩:=uV (xs:=xs) ok g (x5:=y5) (x7:=none) (x8:=none) (x9:=none) (x10:=none) (x11:=none)
 obtain ⟨sh,hv,ed⟩:=CL (xs:=xs) ok g (x4:=some ⟨.lst .leaf,aH N⟩) (x5:=y5) (x7:=y7) (x8:=none) (x9:=none) (x10:=none) (x11:=none)
 obtain ⟨Γ',ef,x10,x11,rfl⟩:=yj rm (i:=10) (body:=HY) (Inv:=fun _ Γ=>∃x10 x11,Γ=G2 xs w o N m (some ⟨.lst .leaf,aH N⟩) y5 none y7 (some ⟨.leaf,(eJ w N m).enc⟩) (some ⟨.leaf,w.enc⟩) x10 x11) (fun a bC Γ h=>by
  obtain ⟨x10,x11,rfl⟩:=h;exact ⟨by simp,_,uQ (xs:=xs) ok g eN (x10:=some ⟨.leaf,rm a⟩) (x11:=x11),_,_,rfl⟩) (List.range 2) (G2 xs w o N m (some ⟨.lst .leaf,aH N⟩) y5 none y7 (some ⟨.leaf,(eJ w N m).enc⟩) (some ⟨.leaf,w.enc⟩) none none) ⟨_,_,rfl⟩
 have lo:=ok.g.lo
 refine bH (aB (Γ1:=[some ⟨.leaf,.list xs⟩,some ⟨.leaf,w.enc⟩,none,none,none,none,none,none,none,none,none,none,none,none]) (g9 (dO (aL (aC rfl) (aL bp (aL bp ak))) e1 rfl rfl) rfl (by simp [cL])) ?_)
 refine aB (Γ1:=[some ⟨.leaf,.list xs⟩,some ⟨.leaf,w.enc⟩,some ⟨.leaf,.bool o⟩,none,none,none,none,none,none,none,none,none,none,none]) (g9 eo rfl (by simp)) ?_
 refine aB (Γ1:=G2 xs w o N m none none none none none none none none) (g9 (dO (aL (aC rfl) (aL (aC rfl) ak)) ec rfl rfl) rfl (by simp)) ?_
 refine aB (Γ1:=G2 xs w o N m (some ⟨.lst .leaf,aH []⟩) none none none none none none none) (lT (qr (s:=.leaf) ak rfl rfl rfl) rfl (by simp)) ?_
 refine aB (eX (fD (s:=.leaf) (n:=w.n) (by omega) (aL (b9 (aL (jN (j:=0) (s2:=.leaf) (aC (i:=1) rfl) bp rfl rfl rfl) ak) (by show some (PyData.int _)=_;rw [lo])) ak)) ep) ?_
 refine aB (Γ1:=G2 xs w o N m (some ⟨.lst .leaf,aH N⟩) y5 (some ⟨.lst .leaf,.list []⟩) none none none none none) (lT (qr (s:=.leaf) ak rfl rfl rfl) rfl (by simp)) ?_
 refine aB (eX (bJ (s:=.leaf) (aC (i:=3) rfl) rfl) es) ?_
 refine aB (Γ1:=G2 xs w o N m (some ⟨.lst .leaf,aH N⟩) y5 none y7 (some ⟨.leaf,(eJ w N m).enc⟩) none none none) (g9 ed (by unfold T.coer;simp [hv]) (by simp)) ?_
 refine aB (Γ1:=G2 xs w o N m (some ⟨.lst .leaf,aH N⟩) y5 none y7 (some ⟨.leaf,(eJ w N m).enc⟩) (some ⟨.leaf,w.enc⟩) none none) (g9 (dO (aL (aC rfl) ak) (iW ok) rfl rfl) rfl (by simp)) ?_
 exact aB (eX (fD (s:=.leaf) (n:=2) (by omega) (aL bp ak)) ef) (bu (aO (aC (i:=9) rfl) (aC (i:=1) rfl) (kX (Fp ok))) rfl)
theorem law_true (ns:List Int) (hl:ns.length<=63):m_law [.list (ns.map .int)]=.ok ⟨.leaf,.bool true⟩:=wx Dz
end
end KC.W
namespace KC.W
open PySem PySem.Spec L2 T TQ
open PyProof.Rows hiding St
open KC
noncomputable def g4 (n:Nat):Stmt:=(PySem.Challenge.pw_foreseehall_k42_the_least_world.main.body)[n]!
noncomputable def jZ:Stmt:=g4 7
noncomputable def j3:Stmt:=g4 8
noncomputable def j1:Stmt:=g4 9
noncomputable def j0:Stmt:=g4 10
noncomputable def mj:Stmt:=g4 11
noncomputable def hU:Stmt:=g4 12
noncomputable def oZ:Stmt:=g4 15
noncomputable def fJ:Stmt:=g4 16
noncomputable def dX:Stmt:=g4 17
noncomputable def fK:Stmt:=g4 18
noncomputable def o4:Stmt:=g4 19
noncomputable def hJ:Stmt:=g4 20
noncomputable def gr:Stmt:=g4 22
noncomputable def ji:Stmt:=g4 23
noncomputable def gq:Stmt:=g4 24
noncomputable def j5:Stmt:=g4 25
noncomputable def jh:Stmt:=g4 26
noncomputable def j4:Stmt:=g4 27
noncomputable def jj:Stmt:=g4 28
noncomputable def hV:Stmt:=g4 29
noncomputable def dY:Stmt:=g4 30
noncomputable def BS:Stmt:=g4 34
structure Gl (K:Fg) (mg:Str->Option Value):Prop where
 n0:mg "len"=none
 n1:mg "range"=none
 n2:mg "all"=none
 n3:mg "tuple"=none
 n4:mg "sorted"=none
 n5:mg "set"=none
 n6:mg "enumerate"=none
 n7:mg "max"=none
 n8:mg "list"=none
 n9:mg "isinstance"=none
 n10:mg "int"=none
 n11:mg "bool"=none
 n12:mg "str"=none
 n13:mg "any"=none
 h0:nh K mg "LETTERS" bK
 h1:nh K mg "MOST_ROOMS" cO
 h2:nh K mg "PLAYERS" bR
structure Al (K:Fg) (mg:Str->Option Value):Prop where
 g:Gl K mg
 f0:Ft K mg "is_rising" jZ
 f1:Ft K mg "are_marks" j3
 f2:Ft K mg "are_rooms" j1
 f3:Ft K mg "are_steps" j0
 f4:Ft K mg "is_world" mj
 f5:Ft K mg "check_world" hU
 f6:Ft K mg "numbered" cf
 f7:Ft K mg "look_of" oZ
 f8:Ft K mg "classes_ahead" fJ
 f9:Ft K mg "parted_by_steps" dX
 f10:Ft K mg "class_numbers" fK
 f11:Ft K mg "grouped" o4
 f12:Ft K mg "least_world" hJ
 f13:Ft K mg "_law_cell_at" gr
 f14:Ft K mg "_law_whole" ji
 f15:Ft K mg "_law_numbers" gq
 f16:Ft K mg "_law_draw" j5
 f17:Ft K mg "_law_world" jh
 f18:Ft K mg "_law_twin" j4
 f19:Ft K mg "_law_spoil" jj
 f20:Ft K mg "_law_formed" hV
 f21:Ft K mg "_law_like_world" dY
 f22:Ft K mg "_law_pair_right" bg
 f23:Ft K mg "_law_alike" bM
 f24:Ft K mg "_law_classes" bG
 f25:Ft K mg "law" BS
section
variable {P:Program} {w:World} {K:Fg} {mg:Str->Option Value} {base:Heap} (A:Al K mg)
include A
theorem fm:DefOk P w K mg base 1 "is_rising" 1 cw:=mk A.f0 A.g ["entries"] uz ["k"] ["len", "range", "all"] [0] [0] [0,1,2] fun X S I hp=>
 (dw (uD S 2 rfl rfl I.e.n2 (bf (hB [0,1] [0] [] S 1 (BD S 1 rfl rfl I.e.n1 (bY bj (bf (lO S 0 I.e.n0 (bf (aA S 0))))) (qZ rfl rfl) (cV rfl)) (fun _ _ _=>fV) (fun Y1 S1 F1=>have I:=F1.i I;(uP (vq I.r) (bT (aA S1 0) (qG (aA S1 1) bj)) (bT (aA S1 0) (aA S1 1)))))) (br rfl) rfl))
theorem kn:DefOk P w K mg base 2 "are_marks" 1 cy:=mk A.f1 A.g ["entries"] uz ["entry"] ["LETTERS", "all", "is_rising"] [0] [] [1,2] fun X S I hp=>
 (dw (Bv (uD S 1 rfl rfl I.e.n2 (bf (hB [1] [] [0] S 1 (gY (aA S 0)) (fun _ _ _=>fV) (fun Y1 S1 F1=>have I:=F1.i I;(uP (zb I.r) (aA S1 1) (ym S1 0 rfl rfl I.e.h0))))) (br rfl) rfl) (Bx (dy S 2 (I.c (fm A)) (bf (aA S 0))))))
theorem km:DefOk P w K mg base 2 "are_rooms" 2 dk:=mk A.f2 A.g ["entries", "size"] uy ["entry"] ["all", "is_rising"] [0,1] [1] [0,1] fun X S I hp=>
 (dw (Bv (uD S 0 rfl rfl I.e.n2 (bf (hB [1,2] [1] [] S 2 (gY (aA S 0)) (fun _ _ _=>fV) (fun Y1 S1 F1=>have I:=F1.i I;(BF (G0 I.r) (vq I.r) bj (aA S1 2) (aA S1 1) (by with_unfolding_all rfl))))) (br rfl) rfl) (Bx (dy S 1 (I.c (fm A)) (bf (aA S 0))))))
theorem kj:DefOk P w K mg base 3 "are_steps" 2 cx:=mk A.f3 A.g ["entries", "size"] uy [] ["len", "are_rooms"] [0,1] [] [0,1] fun X S I hp=>
 (dw (Bv (uP (vt I.r) (lO S 0 I.e.n0 (bf (aA S 0))) bj) (Bx (dy S 1 (I.c (km A)) (bY (aA S 0) (bf (aA S 1)))))))
theorem mB:DefOk P w K mg base 4 "is_world" 3 cN:=mk A.f4 A.g ["owners", "marks", "steps"] CW ["size", "owner", "row"] ["len", "MOST_ROOMS", "PLAYERS", "all", "are_marks", "are_steps"] [0,1,2,3] [3] [0,1,3] fun X S I hp=>
 (bO (dQ S false 3 (lO S 0 I.e.n0 (bf (aA S 0)))) (bO (jO (xj (oG (jK (vq I.r) (aA S 3) bj) (oG (jK (vt I.r) (aA S 3) (ym S 1 rfl rfl I.e.h1)) (oG (jK (kb I.r) (lO S 0 I.e.n0 (bf (aA S 1))) (aA S 3)) (xn (jK (kb I.r) (lO S 0 I.e.n0 (bf (aA S 2))) (aA S 3))))))) (dw qu) jP) (bO (jO (lN (jJ (uD S 3 rfl rfl I.e.n2 (bf (hB [4] [] [2] S 4 (gY (aA S 0)) (fun _ _ _=>fV) (fun Y1 S1 F1=>have I:=F1.i I;(uP (zb I.r) (aA S1 4) (ym S1 2 rfl rfl I.e.h2))))) (br rfl) rfl) (fun _=>rfl))) (dw qu) jP) (dw (Bv (uD S 3 rfl rfl I.e.n2 (bf (hB [5] [] [4] S 5 (gY (aA S 1)) (fun _ _ _=>fV) (fun Y2 S2 F2=>have I:=F2.i I;(dy S2 4 (I.c (kn A)) (bf (aA S2 5)))))) (br rfl) rfl) (Bx (uD S 3 rfl rfl I.e.n2 (bf (hB [3,5] [3] [5] S 5 (gY (aA S 2)) (fun _ _ _=>fV) (fun Y3 S3 F3=>have I:=F3.i I;(dy S3 5 (I.c (kj A)) (bY (aA S3 5) (bf (aA S3 3))))))) (br rfl) rfl)))))))
theorem ib:DefOk P w K mg base 5 "check_world" 1 bo:=mk A.f5 A.g ["world"] uz [] ["is_world"] [0] [] [0] fun X S I hp=>
 (lW (jO (lN (jJ (dy S 0 (I.c (mB A)) (bY (bT (aA S 0) bj) (bY (bT (aA S 0) bj) (bf (bT (aA S 0) bj))))) (fun _=>rfl))) (lW uK) jP))
theorem gy:DefOk P w K mg base 1 "numbered" 1 qt:=match A.f6 with | ⟨_,_,hm,F⟩=>ki F hm (AE F uz) A.g.n0
theorem pD:DefOk P w K mg base 1 "look_of" 3 cJ:=mk A.f7 A.g ["world", "room", "owned"] CW ["marks"] ["tuple"] [0,1,2,3] [] [0] fun X S I hp=>
 (bO (dQ S false 3 (fX S 0 rfl rfl I.e.n3 (bT (bT (aA S 0) bj) (aA S 1)) (cV rfl))) (dw (uL (jJ (aA S 2) (fun _=>rfl)) (uu (bY (aA S 3) (bf (bT (bT (aA S 0) bj) (aA S 1))))) (uu (bf (aA S 3))))))
theorem cT:DefOk P w K mg base 1 "classes_ahead" 2 aX:=mk A.f8 A.g ["numbers", "steps"] uy ["there"] ["sorted", "set"] [0,1] [0] [0,1] fun X S I hp=>
 (dw (je S 0 1 rfl rfl I.e.n4 rfl rfl I.e.n5 (bf (hB [0,2] [0] [] S 2 (gY (aA S 1)) (fun _ _ _=>fV) (fun Y1 S1 F1=>(bT (aA S1 0) (aA S1 2))))) (cV rfl) (cV rfl)))
theorem cv:DefOk P w K mg base 2 "parted_by_steps" 2 aI:=mk A.f9 A.g ["world", "numbers"] uy ["room", "steps"] ["enumerate", "classes_ahead", "tuple", "numbered"] [0,1] [1] [0,3] fun X S I hp=>
 (dw (dy S 3 (I.c (gy A)) (bf (BE (vs':=[1,2,3]) (cs':=[1]) (lo':=[]) (gs':=[1,2]) S .leaf 2 3 0 rfl rfl rfl rfl rfl I.e.n6 (by kernel_rfl) (by kernel_rfl) (bT (aA S 0) bj) (cV rfl) (fun _ _ _=>fV) (fun Y1 S1 F1=>have I:=F1.i I;(uu (bY (bT (aA S1 1) (aA S1 2)) (bf (fX S1 2 rfl rfl I.e.n3 (dy S1 1 (I.c (cT A)) (bY (aA S1 1) (bf (aA S1 3)))) (cV rfl)))))) (fun _=>rfl)))))
theorem fN:DefOk P w K mg base 3 "class_numbers" 2 m_class_numbers:=mk A.f10 A.g ["world", "owned"] uy ["numbers", "parted", "room"] ["len", "range", "look_of", "numbered", "parted_by_steps"] [0,1,2,3] [0,1] [0,1,3,4] fun X S I hp=>
 (bO (dQ S true 2 (dy S 3 (I.c (gy A)) (bf (hB [0,1,4] [0,1] [2] S 4 (cQ S 1 rfl rfl I.e.n1 (bf (lO S 0 I.e.n0 (bf (bT (aA S 0) bj)))) (cV rfl)) (fun _ _ _=>fV) (fun Y1 S1 F1=>have I:=F1.i I;(dy S1 2 (I.c (pD A)) (bY (aA S1 0) (bY (aA S1 4) (bf (aA S1 1)))))))))) (bO (dQ S true 3 (ED S 4 rfl rfl (I.c (cv A)) (bY (aA S 0) (bf (aA S 2))) (br rfl) rfl)) (bO (lX 1000 hp (jK (kb I.r) (aA S 3) (aA S 2)) (bO (dQ S true 2 (fW S 3 rfl rfl)) (lW (dQ S true 3 (ED S 4 rfl rfl (I.c (cv A)) (bY (aA S 0) (bf (aA S 2))) (br rfl) rfl))))) (dw (fW S 2 rfl rfl)))))
theorem pE:DefOk P w K mg base 1 "grouped" 1 cb:=mk A.f11 A.g ["numbers"] uz ["groups", "room", "number"] ["max", "range", "enumerate"] [0,1,2,3] [] [0,1,2] fun X S I hp=>
 (bO (A8 (vs':=[3]) (cs':=[]) (lo':=[]) (gs':=[]) S true 1 (.lst .leaf) 3 rfl rfl rfl rfl (by kernel_rfl) (by kernel_rfl) (by kernel_rfl) (cQ S 1 rfl rfl I.e.n1 (bf (lU (oK S 0 rfl rfl I.e.n7 (bf (aA S 0)) (br rfl) rfl) bj)) (cV rfl)) (fun _ _ _=>fV) (fun Y1 S1 F1=>(qv .leaf xm)) (fun _=>rfl)) (bO (oJ S 2 3 2 rfl rfl rfl rfl rfl rfl I.e.n6 hp (aA S 0) (cV rfl) (lW (ma S 1 rfl rfl (aA S 3) (aA S 2) (fun _ _=>rfl) (cV rfl) rfl rfl rfl rfl)) (fun _=>rfl)) (dw (fW S 1 rfl rfl))))
theorem ia:DefOk P w K mg base 6 "least_world" 2 m_least_world:=mk A.f12 A.g ["world", "owned"] uy ["numbers", "least", "owners", "marks", "steps", "rooms", "room"] ["check_world", "class_numbers", "grouped", "list", "classes_ahead"] [0,1,2,3,4,5,6] [0,2] [0,1,2] fun X S I hp=>
 (bO (oI (dy S 0 (I.c (ib A)) (bf (aA S 0))) rfl) (bO (dQ S true 2 (dy S 1 (I.c (fN A)) (bY (aA S 0) (bf (aA S 1))))) (bO (A8 (vs':=[7]) (cs':=[]) (lo':=[]) (gs':=[]) S false 3 .leaf 7 rfl rfl rfl rfl (by kernel_rfl) (by kernel_rfl) (by kernel_rfl) (gY (yn S 2 rfl rfl (I.c (pE A)) (bf (aA S 2)) (br rfl) rfl)) (fun _ _ _=>fV) (fun Y1 S1 F1=>(bT (aA S1 7) bj)) (fun _=>rfl)) (bO (A8 (vs':=[0,8]) (cs':=[0]) (lo':=[]) (gs':=[]) S true 4 .leaf 8 rfl rfl rfl rfl (by kernel_rfl) (by kernel_rfl) (by kernel_rfl) (gY (aA S 3)) (fun _ _ _=>fV) (fun Y2 S2 F2=>(bT (bT (aA S2 0) bj) (aA S2 8))) (fun _=>rfl)) (bO (A8 (vs':=[0,8]) (cs':=[0]) (lo':=[]) (gs':=[3]) S true 5 (.lst .leaf) 8 rfl rfl rfl rfl (by kernel_rfl) (by kernel_rfl) (by kernel_rfl) (gY (aA S 3)) (fun _ _ _=>fV) (fun Y3 S3 F3=>have I:=F3.i I;(DI S3 3 rfl rfl I.e.n8 (bT (bT (aA S3 0) bj) (aA S3 8)) (cV rfl))) (fun _=>rfl)) (bO (A8 (vs':=[0,2,8]) (cs':=[0,2]) (lo':=[]) (gs':=[4]) S true 6 (.lst .leaf) 8 rfl rfl rfl rfl (by kernel_rfl) (by kernel_rfl) (by kernel_rfl) (gY (aA S 3)) (fun _ _ _=>fV) (fun Y4 S4 F4=>have I:=F4.i I;(ED S4 4 rfl rfl (I.c (cT A)) (bY (aA S4 2) (bf (bT (bT (aA S4 0) bj) (aA S4 8)))) (br rfl) rfl)) (fun _=>rfl)) (dw (uu (bY (uu (bY (fW S 4 rfl rfl) (bY (fW S 5 rfl rfl) (bf (fW S 6 rfl rfl))))) (bf (fW S 2 rfl rfl)))))))))))
theorem DM:DefOk P w K mg base 1 "_law_cell_at" 2 ay:=mk A.f13 A.g ["script", "k"] uy [] ["len"] [0,1] [] [0] fun X S I hp=>
 (bO (jO (jK (vq I.r) (aA S 1) (lO S 0 I.e.n0 (bf (aA S 0)))) (dw (bT (aA S 0) (aA S 1))) jP) (dw bj))
theorem FR:DefOk P w K mg base 1 "_law_whole" 1 bh:=mk A.f14 A.g ["found"] uz [] ["isinstance", "int", "bool"] [0] [] [0,1,2] fun X S I hp=>
 (dw (Bv (qC S 0 1 rfl rfl rfl rfl rfl xP I.e.n9 I.e.n10 (aA S 0) (br rfl) (br rfl) rfl) (Bx (qI (qC S 0 2 rfl rfl rfl rfl rfl Ao I.e.n9 I.e.n11 (aA S 0) (br rfl) (br rfl) rfl)))))
theorem gz:DefOk P w K mg base 2 "_law_numbers" 2 bI:=mk A.f15 A.g ["found", "due"] uy ["x"] ["isinstance", "list", "len", "_law_whole"] [0,1,2] [] [0,1,2,3] fun X S I hp=>
 (bO (jO (xj (oG (lN (jJ (qC S 0 1 rfl rfl rfl rfl rfl w5 I.e.n9 I.e.n8 (aA S 0) (br rfl) (br rfl) rfl) (fun _=>rfl))) (xn (jK (kb I.r) (lO S 2 I.e.n0 (bf (aA S 0))) (lO S 2 I.e.n0 (bf (aA S 1))))))) (dw qu) jP) (bO (xl S 2 rfl rfl hp (gY (aA S 0)) (lW (jO (lN (jJ (dy S 3 (I.c (FR A)) (bf (aA S 2))) (fun _=>rfl))) (dw qu) jP)) (fun _=>rfl)) (dw (uP (kc I.r) (aA S 0) (aA S 1)))))
theorem A6:DefOk P w K mg base 1 "_law_draw" 3 ai:=mk A.f16 A.g ["cell", "k", "bound"] CW ["stir", "left", "j"] ["range"] [0,1,2,3,4,5] [] [0] fun X S I hp=>
 (bO (jO (jK (G4 I.r) (aA S 0) (qH bj bj)) (bO (dQ S false 4 (aA S 0)) (bO (xl S 5 rfl rfl hp (cQ S 0 rfl rfl I.e.n1 (bf (aA S 1)) (cV rfl)) (lW (dQ S false 4 (Fh (aA S 4) (aA S 2)))) (fun _=>rfl)) (dw (ur (aA S 4) (aA S 2))))) jP) (bO (dQ S false 3 (ur (Bw (lU (lU (ur (aA S 0) bj) (Bw bj (aA S 1))) bj) bj) bj)) (bO (dQ S false 3 (ur (lU (lU (Bw (aA S 3) (aA S 3)) (Bw bj (aA S 1))) bj) bj)) (dw (ur (Fh (ur (Bw (aA S 3) bj) bj) bj) (aA S 2))))))
theorem jl:DefOk P w K mg base 2 "_law_world" 3 m__law_world:=mk A.f17 A.g ["script", "at", "limit"] CW ["many", "owners", "marks", "steps", "room", "cell", "row", "there", "k"] ["_law_cell_at", "range", "_law_draw", "int"] [0,1,2,3,4,5,6,7,8,9] [3,8] [0,1,2] fun X S I hp=>
 (bO (dQ S false 3 (lU bj (ur (dy S 0 (I.c (DM A)) (bY (aA S 0) (bf (aA S 1)))) (aA S 2)))) (bO (dQ S true 4 (qv .leaf xm)) (bO (dQ S true 5 (qv .leaf xm)) (bO (dQ S true 6 (qv .leaf xm)) (bO (xl S 7 rfl rfl hp (cQ S 1 rfl rfl I.e.n1 (bf (aA S 3)) (cV rfl)) (bO (dQ S false 8 (dy S 0 (I.c (DM A)) (bY (aA S 0) (bf (lU (lU (aA S 1) bj) (aA S 7)))))) (bO (BC S 4 rfl rfl (dy S 2 (I.c (A6 A)) (bY (aA S 8) (bY bj (bf bj)))) (cV rfl) rfl rfl rfl rfl) (bO (BC S 5 rfl rfl (hB [8,11] [8] [2] S 11 (cQ S 1 rfl rfl I.e.n1 (bf bj) (cV rfl)) (fun Y1 S1 F1=>have I:=F1.i I;DE (jK (kc I.r) (dy S1 2 (I.c (A6 A)) (bY (aA S1 8) (bY (lU bj (aA S1 11)) (bf bj)))) bj)) (fun Y1 S1 F1=>have I:=F1.i I;(bT DD (aA S1 11)))) (cV rfl) rfl rfl rfl rfl) (bO (A8 (vs':=[3,8,10]) (cs':=[3,8]) (lo':=[]) (gs':=[2,3]) S false 9 .leaf 10 rfl rfl rfl rfl (by kernel_rfl) (by kernel_rfl) (by kernel_rfl) (cQ S 1 rfl rfl I.e.n1 (bf (aA S 3)) (cV rfl)) (fun Y2 S2 F2=>have I:=F2.i I;DE (jK (kc I.r) (dy S2 2 (I.c (A6 A)) (bY (aA S2 8) (bY (lU bj (aA S2 10)) (bf (lU bj (qM S2 3 rfl rfl I.e.n10 (bf (uP (vt I.r) (aA S2 3) bj)) (br rfl) rfl)))))) bj)) (fun Y2 S2 F2=>have I:=F2.i I;(aA S2 10)) (fun _=>rfl)) (bO (jO (jK (kc I.r) (aA S 9) (qv .leaf xm)) (lW (dQ S false 9 (qv .leaf (bf (dy S 2 (I.c (A6 A)) (bY (aA S 8) (bY (lU bj (aA S 3)) (bf (aA S 3))))))))) jP) (lW (BC S 6 rfl rfl (aA S 9) (cV rfl) rfl rfl rfl rfl))))))) (fun _=>rfl)) (dw (uu (bY (fW S 4 rfl rfl) (bY (fW S 5 rfl rfl) (bf (fW S 6 rfl rfl)))))))))))
theorem fq:DefOk P w K mg base 1 "_law_twin" 1 cz:=mk A.f18 A.g ["world"] uz ["row"] ["list"] [0] [] [0] fun X S I hp=>
 (dw (uu (bY (DI S 0 rfl rfl I.e.n8 (bT (aA S 0) bj) (cV rfl)) (bY (hB [1] [] [0] S 1 (gY (bT (aA S 0) bj)) (fun _ _ _=>fV) (fun Y1 S1 F1=>have I:=F1.i I;(DI S1 0 rfl rfl I.e.n8 (aA S1 1) (cV rfl)))) (bf (hB [1] [] [0] S 1 (gY (bT (aA S 0) bj)) (fun _ _ _=>fV) (fun Y2 S2 F2=>have I:=F2.i I;(DI S2 0 rfl rfl I.e.n8 (aA S2 1) (cV rfl)))))))))
theorem jm:DefOkM P w K mg base 1 "_law_spoil" [.tup [.lst .leaf,.lst (.lst .leaf),.lst (.lst .leaf)]] bt:=Jh A.f19 A.g ["world"] uz rfl ["piece", "row"] ["len"] [0,1,2] [] [0] fun X S I hp=>
 (lY S hp 0 1 2 0 I.e.n0)
theorem ic:DefOk P w K mg base 2 "_law_formed" 1 bw:=mk A.f20 A.g ["world"] uz ["row", "owner", "mark", "there"] ["isinstance", "tuple", "len", "list", "_law_whole", "all", "str"] [0,1] [] [0,1,2,3,5] fun X S I hp=>
 (bO (jO (xj (oG (lN (jJ (qC S 0 1 rfl rfl rfl rfl rfl EF I.e.n9 I.e.n3 (aA S 0) (br rfl) (br rfl) rfl) (fun _=>rfl))) (oG (jK (kb I.r) (lO S 2 I.e.n0 (bf (aA S 0))) bj) (xn (lN (jJ (qC S 0 3 rfl rfl rfl rfl rfl w5 I.e.n9 I.e.n8 (bT (aA S 0) bj) (br rfl) (br rfl) rfl) (fun _=>rfl))))))) (dw qu) jP) (bO (jO (xj (oG (lN (jJ (uD S 5 rfl rfl I.e.n2 (bf (hB [2] [] [4] S 2 (gY (bT (aA S 0) bj)) (fun _ _ _=>fV) (fun Y1 S1 F1=>have I:=F1.i I;(dy S1 4 (I.c (FR A)) (bf (aA S1 2)))))) (br rfl) rfl) (fun _=>rfl))) (xn (lN (jJ (qC S 0 3 rfl rfl rfl rfl rfl w5 I.e.n9 I.e.n8 (bT (aA S 0) bj) (br rfl) (br rfl) rfl) (fun _=>rfl)))))) (dw qu) jP) (bO (xl S 1 rfl rfl hp (gY (bT (aA S 0) bj)) (lW (jO (xj (oG (lN (jJ (qC S 0 3 rfl rfl rfl rfl rfl w5 I.e.n9 I.e.n8 (aA S 1) (br rfl) (br rfl) rfl) (fun _=>rfl))) (xn (lN (jJ (uD S 5 rfl rfl I.e.n2 (bf (hB [3] [] [0,6] S 3 (gY (aA S 1)) (fun _ _ _=>fV) (fun Y2 S2 F2=>have I:=F2.i I;(qC S2 0 6 rfl rfl rfl rfl rfl C1 I.e.n9 I.e.n12 (aA S2 3) (br rfl) (br rfl) rfl)))) (br rfl) rfl) (fun _=>rfl)))))) (dw qu) jP)) (fun _=>rfl)) (bO (jO (lN (jJ (qC S 0 3 rfl rfl rfl rfl rfl w5 I.e.n9 I.e.n8 (bT (aA S 0) bj) (br rfl) (br rfl) rfl) (fun _=>rfl))) (dw qu) jP) (bO (xl S 1 rfl rfl hp (gY (bT (aA S 0) bj)) (lW (jO (xj (oG (lN (jJ (qC S 0 3 rfl rfl rfl rfl rfl w5 I.e.n9 I.e.n8 (aA S 1) (br rfl) (br rfl) rfl) (fun _=>rfl))) (xn (lN (jJ (uD S 5 rfl rfl I.e.n2 (bf (hB [4] [] [4] S 4 (gY (aA S 1)) (fun _ _ _=>fV) (fun Y3 S3 F3=>have I:=F3.i I;(dy S3 4 (I.c (FR A)) (bf (aA S3 4)))))) (br rfl) rfl) (fun _=>rfl)))))) (dw qu) jP)) (fun _=>rfl)) (dw qu))))))
theorem d5:DefOk P w K mg base 3 "_law_like_world" 3 bz:=mk A.f21 A.g ["script", "at", "limit"] CW ["world", "cell", "few", "room"] ["_law_world", "_law_cell_at", "len", "range", "_law_draw", "_law_twin"] [0,1,2,3,4,5] [4,5] [0,1,2,3,5] fun X S I hp=>
 (bO (dQ S false 3 (dy S 0 (I.c (jl A)) (bY (aA S 0) (bY (aA S 1) (bf (aA S 2)))))) (bO (dQ S false 4 (dy S 1 (I.c (DM A)) (bY (aA S 0) (bf (lU (lU (aA S 1) bj) (aA S 2)))))) (bO (jO (jK (vt I.r) (ur (aA S 4) bj) bj) (bO (dQ S false 5 (qv .leaf (bY (qv .leaf (bf DD)) (bY (qv .leaf (bf DD)) (bf (qv .leaf (bf DD))))))) (lW (dQ S false 3 (uu (bY (bT (aA S 3) bj) (bY (hB [4,5,6] [4,5] [4] S 6 (cQ S 3 rfl rfl I.e.n1 (bf (lO S 2 I.e.n0 (bf (bT (aA S 3) bj)))) (cV rfl)) (fun _ _ _=>fV) (fun Y1 S1 F1=>have I:=F1.i I;(bT (aA S1 5) (dy S1 4 (I.c (A6 A)) (bY (aA S1 4) (bY (aA S1 6) (bf bj))))))) (bf (bT (aA S 3) bj)))))))) jP) (bO (jO (jK (kc I.r) (ur (aA S 4) bj) bj) (lW (dQ S false 3 (uu (bY (hB [4,6] [4] [4] S 6 (cQ S 3 rfl rfl I.e.n1 (bf (lO S 2 I.e.n0 (bf (bT (aA S 3) bj)))) (cV rfl)) (fun _ _ _=>fV) (fun Y2 S2 F2=>have I:=F2.i I;(Fh (dy S2 4 (I.c (A6 A)) (bY (aA S2 4) (bY (lU bj (aA S2 6)) (bf bj)))) bj))) (bY (bT (aA S 3) bj) (bf (bT (aA S 3) bj))))))) jP) (dw (dy S 5 (I.c (fq A)) (bf (aA S 3))))))))
theorem d2:ue P w K mg base 1:=match A.f22 with | ⟨_,_,hm,F⟩=>dJ F hm (AE F Js) A.g.n13
theorem jn:ui P w K mg base 2:=match A.f23 with | ⟨_,_,hm,F⟩=>h9 F hm (AE F uy) A.g.n0 A.g.n1 A.g.n8 (d2 A) rfl
theorem gA:DefOk P w K mg base 3 "_law_classes" 2 aS:=match A.f24 with | ⟨_,_,hm,F⟩=>fM F hm (AE F uy) A.g.n1 A.g.n0 A.g.n13 (jn A) rfl
theorem o_law {fa:Addr} (hfa:mg "law"=some (.ref fa)):∃fd:FuncData,(∀(s:Shared) (v:Value),BindsTo s fd ⟨[v],[]⟩ [("script",v)])/\∀base:Heap,K.In base->base.Ns mainGlobals mg->cE P w K mg base g7 7 fa fd ["script"] (oS K 1 m_law):=Ji A.f25 A.g "script" uz hfa ["world", "owned", "parts", "places", "room", "steps", "rooms", "due", "handed", "turn", "found", "k", "there"] ["_law_like_world", "_law_cell_at", "_law_classes", "len", "range", "any", "_law_twin", "least_world", "isinstance", "tuple", "_law_formed", "_law_numbers", "_law_spoil"] [0,1,2,3,4,5,6,7,8,9,10,11] [1,3,4,5,7] [0,1,2,3,4,6,7,8,9,10,11,12] fun base X S I hp=>
 (bO (dQ S false 1 (dy S 0 (I.c (d5 A)) (bY (aA S 0) (bY bj (bf bj))))) (bO (dQ S false 2 (uP (kc I.r) (ur (dy S 1 (I.c (DM A)) (bY (aA S 0) (bf bj))) bj) bj)) (bO (dQ S false 3 (dy S 2 (I.c (gA A)) (bY (aA S 1) (bf (aA S 2))))) (bO (dQ S true 4 (qv .leaf xm)) (bO (xl S 5 rfl rfl hp (cQ S 4 rfl rfl I.e.n1 (bf (lO S 3 I.e.n0 (bf (bT (aA S 1) bj)))) (cV rfl)) (lW (BC S 4 rfl rfl (bT (hB [3,5,12] [3,5] [] S 12 (cQ S 4 rfl rfl I.e.n1 (bf (lO S 3 I.e.n0 (bf (aA S 3)))) (cV rfl)) (fun Y1 S1 F1=>have I:=F1.i I;DE (jK (zb I.r) (aA S1 5) (bT (aA S1 3) (aA S1 12)))) (fun Y1 S1 F1=>have I:=F1.i I;(aA S1 12))) bj) (cV rfl) rfl rfl rfl rfl)) (fun _=>rfl)) (bO (dQ S true 6 (qv .leaf xm)) (bO (xl S 7 rfl rfl hp (gY (aA S 3)) (lW (BC S 6 rfl rfl (hB [1,4,7,12] [1,4,7,12] [5] S 12 (cQ S 4 rfl rfl I.e.n1 (bf (lO S 3 I.e.n0 (bf (aA S 3)))) (cV rfl)) (fun Y2 S2 F2=>have I:=F2.i I;DE (jJ (qN S2 5 rfl rfl I.e.n13 (bf (hB [4,12,13] [4,12] [] S2 13 (gY (bT (bT (aA S2 1) bj) (bT (aA S2 7) bj))) (fun _ _ _=>fV) (fun Y3 S3 F3=>have I:=F3.i I;(uP (kc I.r) (bT (aA S3 4) (aA S3 13)) (aA S3 12))))) (br rfl) rfl) (fun _=>rfl))) (fun Y2 S2 F2=>have I:=F2.i I;(aA S2 12))) (cV rfl) rfl rfl rfl rfl)) (fun _=>rfl)) (bO (dQ S false 8 (uu (bY (hB [1,7] [1] [] S 7 (gY (aA S 3)) (fun _ _ _=>fV) (fun Y4 S4 F4=>(bT (bT (aA S4 1) bj) (bT (aA S4 7) bj)))) (bY (hB [1,7] [1] [] S 7 (gY (aA S 3)) (fun _ _ _=>fV) (fun Y5 S5 F5=>(bT (bT (aA S5 1) bj) (bT (aA S5 7) bj)))) (bf (fW S 6 rfl rfl)))))) (bO (dQ S false 9 (dy S 6 (I.c (fq A)) (bf (aA S 1)))) (bO (xl S 10 rfl rfl hp (cQ S 4 rfl rfl I.e.n1 (bf bj) (cV rfl)) (bO (dQ S true 11 (dy S 7 (I.c (ia A)) (bY (aA S 9) (bf (aA S 2))))) (bO (jO (xj (oG (lN (jJ (qC S 8 9 rfl rfl rfl rfl rfl EF I.e.n9 I.e.n3 (aA S 11) (br rfl) (br rfl) rfl) (fun _=>rfl))) (oG (jK (kb I.r) (lO S 3 I.e.n0 (bf (aA S 11))) bj) (oG (lN (jJ (dy S 10 (I.c (ic A)) (bf (bT (aA S 11) bj))) (fun _=>rfl))) (xn (jK (kb I.r) (aA S 9) (aA S 1))))))) (dw qu) jP) (bO (jO (xj (oG (jK (kb I.r) (bT (aA S 11) bj) (aA S 8)) (xn (lN (jJ (dy S 11 (I.c (gz A)) (bY (bT (aA S 11) bj) (bf (aA S 4)))) (fun _=>rfl)))))) (dw qu) jP) (lZ S 11 12 (I.m (jm A)))))) (fun _=>rfl)) (dw (uP (kc I.r) (aA S 9) (aA S 1)))))))))))))
end
end KC.W
open PySem PySem.W PyProof.Rows
def PySem.W.Fast.tw11575289292916495013:=0
def PySem.W.Fast.tw7728673846671105968:=0
def PySem.W.Fast.tw1181834302789094162:=0
def PySem.W.Fast.tw9718113477502018040:=0
def PySem.W.Fast.tw618956451921136762:=0
def PySem.W.Fast.tw11342893796500450138:=0
def PySem.W.Fast.tw15010148784637185629:=0
def PySem.W.Fast.tw16898740230009130781:=0
def PySem.W.Fast.tw13111041140642251359:=0
set_option maxRecDepth 100000 in
set_option maxHeartbeats 0 in
theorem PySem.Challenge.cw_foreseehall_k42_the_least_world_holds : PySem.Challenge.rw_foreseehall_k42_the_least_world.Holds := by
 w_on;o_law;k_head;(case hw=>w_witness2)
 k_fill
 refine T.walkG (j:=7) (l:=PySem.Challenge.rw_foreseehall_k42_the_least_world) KC.W.law_true ⟨rfl,by decide,by decide,rfl⟩ rfl rfl (fun w h Y=>PySem.W.kIn_of Y) ?F
 case F=>
  intro w mg fa h KX G hmg;refine' KC.W.o_law (.mk (.mk (T.gn KX G ?z0) (T.gn KX G ?z1) (T.gn KX G ?z2) (T.gn KX G ?z3) (T.gn KX G ?z4) (T.gn KX G ?z5) (T.gn KX G ?z6) (T.gn KX G ?z7) (T.gn KX G ?z8) (T.gn KX G ?z9) (T.gn KX G ?z10) (T.gn KX G ?z11) (T.gn KX G ?z12) (T.gn KX G ?z13) (T.gt KX G ?e0 ?q0 ?v0) (T.gi KX G ?e1) (T.gt KX G ?e2 ?q2 ?v2)) (T.ft KX G ?a0 ?l0 ?c0 ?k0) (T.ft KX G ?a1 ?l1 ?c1 ?k1) (T.ft KX G ?a2 ?l2 ?c2 ?k2) (T.ft KX G ?a3 ?l3 ?c3 ?k3) (T.ft KX G ?a4 ?l4 ?c4 ?k4) (T.ft KX G ?a5 ?l5 ?c5 ?k5) (T.ft KX G ?a6 ?l6 ?c6 ?k6) (T.ft KX G ?a7 ?l7 ?c7 ?k7) (T.ft KX G ?a8 ?l8 ?c8 ?k8) (T.ft KX G ?a9 ?l9 ?c9 ?k9) (T.ft KX G ?a10 ?l10 ?c10 ?k10) (T.ft KX G ?a11 ?l11 ?c11 ?k11) (T.ft KX G ?a12 ?l12 ?c12 ?k12) (T.ft KX G ?a13 ?l13 ?c13 ?k13) (T.ft KX G ?a14 ?l14 ?c14 ?k14) (T.ft KX G ?a15 ?l15 ?c15 ?k15) (T.ft KX G ?a16 ?l16 ?c16 ?k16) (T.ft KX G ?a17 ?l17 ?c17 ?k17) (T.ft KX G ?a18 ?l18 ?c18 ?k18) (T.ft KX G ?a19 ?l19 ?c19 ?k19) (T.ft KX G ?a20 ?l20 ?c20 ?k20) (T.ft KX G ?a21 ?l21 ?c21 ?k21) (T.ft KX G ?a22 ?l22 ?c22 ?k22) (T.ft KX G ?a23 ?l23 ?c23 ?k23) (T.ft KX G ?a24 ?l24 ?c24 ?k24) (T.ft KX G ?a25 ?l25 ?c25 ?k25)) hmg
  case a0|l0|c0|k0|a1|l1|c1|k1|a2|l2|c2|k2|a3|l3|c3|k3|a4|l4|c4|k4|a5|l5|c5|k5|a6|l6|c6|k6|a7|l7|c7|k7|a8|l8|c8|k8|a9|l9|c9|k9|a10|l10|c10|k10|a11|l11|c11|k11|a12|l12|c12|k12|a13|l13|c13|k13|a14|l14|c14|k14|a15|l15|c15|k15|a16|l16|c16|k16|a17|l17|c17|k17|a18|l18|c18|k18|a19|l19|c19|k19|a20|l20|c20|k20|a21|l21|c21|k21|a22|l22|c22|k22|a23|l23|c23|k23|a24|l24|c24|k24|a25|l25|c25|k25|z0|z1|z2|z3|z4|z5|z6|z7|z8|z9|z10|z11|z12|z13|e0|q0=>k_is
  case v0=>kernel_rfl
  case e1|e2|q2=>k_is
  case v2=>kernel_rfl
